import Derived.Test.YtegaookkfjgepaaDoorIsaFn7
import Derived.Test.YtegaookkfjgepaaDoorIsaLawE
import Derived.Test.YtegaookkfjgepaaDoorIsaInj
import Derived.Laws.Strings
namespace Go.Proofs.YtegaookkfjgepaaDoor
set_option linter.unusedVariables false
set_option linter.unusedSimpArgs false
open Go.ChangeShapes Go.WideShapes Go.ChangeAt Go.RowKit Go.Proofs.YtegaookkfjgepaaDoor.Num Go.Proofs.YtegaookkfjgepaaDoor.Isa Go.Proofs.YtegaookkfjgepaaDoor.Mem
theorem size_ne (s : ByteArray) (h : ¬ s = { data := #[] }) : s.toList.isEmpty = false := by
  rw [ByteArray.toList_eq]
  cases hl : s.data.toList with
  | nil =>
    exfalso; apply h
    apply ByteArray.ext
    apply Array.toList_inj.1
    rw [hl]
  | cons x l => rfl
/-- Two instructions' texts, as far as the walk asks. -/
theorem two_texts (o a b c m o' a' b' c' m' : Int) (hm : -2147483648 ≤ m ∧ m ≤ 2147483647) (hm' : -2147483648 ≤ m' ∧ m' ≤ 2147483647) : ∃ s t : ByteArray,
    (∀ W, Tabs W → Calls Tryd.prog 12 #[.agg #[.int .i64 o, .int .i64 a, .int .i64 b, .int .i64 c, .int .i32 m]] W fun e w' => e = .returned (.string s) ∧ Below W.heap.size W w') ∧
    (∀ W, Calls Tryd.prog 13 #[.agg #[.int .i64 o, .int .i64 a, .int .i64 b, .int .i64 c, .int .i32 m]] W fun e w' => e = .returned (.string s) ∧ Below W.heap.size W w') ∧
    (∀ W, Tabs W → Calls Tryd.prog 12 #[.agg #[.int .i64 o', .int .i64 a', .int .i64 b', .int .i64 c', .int .i32 m']] W fun e w' => e = .returned (.string t) ∧ Below W.heap.size W w') ∧
    (∀ W, Calls Tryd.prog 13 #[.agg #[.int .i64 o', .int .i64 a', .int .i64 b', .int .i64 c', .int .i32 m']] W fun e w' => e = .returned (.string t) ∧ Below W.heap.size W w') ∧
    (¬ Ok o a b c m → s = { data := #[] }) ∧ (Ok o a b c m → s.toList.isEmpty = false) ∧
    (Ok o a b c m → ¬ (o = o' ∧ a = a' ∧ b = b' ∧ c = c' ∧ m = m') → ¬ s = t) ∧ ((o = o' ∧ a = a' ∧ b = b' ∧ c = c' ∧ m = m') → t = s) := by
  refine ⟨fmtS o a b c m, fmtS o' a' b' c' m', fun W hW => format_any _ _ _ _ _ _ hW hm.1 hm.2, fun W => format_ref _ _ _ _ _ _ hm.1 hm.2, fun W hW => format_any _ _ _ _ _ _ hW hm'.1 hm'.2, fun W => format_ref _ _ _ _ _ _ hm'.1 hm'.2, fun h => (fmt_empty _ _ _ _ _).2 h, fun h => size_ne _ (fun e => (fmt_empty _ _ _ _ _).1 e h), fun h hne he => ?_, ?_⟩
  · by_cases h' : Ok o' a' b' c' m'
    · exact hne (fmt_inj h h' he)
    · exact (fmt_empty _ _ _ _ _).1 (he.trans ((fmt_empty _ _ _ _ _).2 h')) h
  · rintro ⟨rfl, rfl, rfl, rfl, rfl⟩; rfl
set_option maxHeartbeats 4000000 in
theorem formats_plain (o a b c m o' a' b' c' m' n k : Int) (hm : -2147483648 ≤ m ∧ m ≤ 2147483647) (hm' : -2147483648 ≤ m' ∧ m' ≤ 2147483647) (w : World) (hT : Tabs w) :
    Calls Tryd.prog 3 #[.agg #[.int .i64 o, .int .i64 a, .int .i64 b, .int .i64 c, .int .i32 m], .agg #[.int .i64 o', .int .i64 a', .int .i64 b', .int .i64 c', .int .i32 m'], .int .i64 n, .int .i64 k, .bool false] w fun e w' => e = .returned (.bool true) ∧ Below w.heap.size w w' := by
  obtain ⟨s, t, fI, fIr, fJ, fJr, p1, p2, p3, p4⟩ := two_texts o a b c m o' a' b' c' m' hm hm'
  by_cases hk : Ok o a b c m
  · have hd : decide (Ok o a b c m) = true := by simpa using hk
    have hs := p2 hk
    by_cases hij : o = o' ∧ a = a' ∧ b = b' ∧ c = c' ∧ m = m'
    · obtain rfl := p4 hij
      obtain ⟨rfl, rfl, rfl, rfl, rfl⟩ := hij
      clear p1 p2 p3 p4 hk
      go_enter Tryd.func3, Tryd.ntmps3
      go_wp2
      refine (?_ : ∀ W : World, ((W.cell? ⟨w.heap.size, 0, none⟩ = some (.int .i64 o) ∧ W.cell? ⟨w.heap.size, 1, none⟩ = some (.int .i64 a) ∧ W.cell? ⟨w.heap.size, 2, none⟩ = some (.int .i64 b) ∧ W.cell? ⟨w.heap.size, 3, none⟩ = some (.int .i64 c) ∧ W.cell? ⟨w.heap.size, 4, none⟩ = some (.int .i32 m)) ∧ (W.cell? ⟨w.heap.size + 1, 0, none⟩ = some (.int .i64 o) ∧ W.cell? ⟨w.heap.size + 1, 1, none⟩ = some (.int .i64 a) ∧ W.cell? ⟨w.heap.size + 1, 2, none⟩ = some (.int .i64 b) ∧ W.cell? ⟨w.heap.size + 1, 3, none⟩ = some (.int .i64 c) ∧ W.cell? ⟨w.heap.size + 1, 4, none⟩ = some (.int .i32 m)) ∧ Below w.heap.size w W) → Code.wp _ _ _ _ W) _ ⟨⟨by simp [go_sem], by simp [go_sem], by simp [go_sem], by simp [go_sem], by simp [go_sem]⟩, ⟨by simp [go_sem], by simp [go_sem], by simp [go_sem], by simp [go_sem], by simp [go_sem]⟩, by repeat' (first | with_reducible exact Below.refl _ _ | with_reducible apply Below.alloc | (simp; done) | (simp; omega))⟩
      rintro W ⟨⟨c0, c1, c2, c3, c4⟩, ⟨e0, e1, e2, e3, e4⟩, hW⟩
      have hTW := hT.on hW
      have c0' := fun d os => cell_regrown c0 d os
      have c1' := fun d os => cell_regrown c1 d os
      have c2' := fun d os => cell_regrown c2 d os
      have c3' := fun d os => cell_regrown c3 d os
      have c4' := fun d os => cell_regrown c4 d os
      have e0' := fun d os => cell_regrown e0 d os
      have e1' := fun d os => cell_regrown e1 d os
      have e2' := fun d os => cell_regrown e2 d os
      have e3' := fun d os => cell_regrown e3 d os
      have e4' := fun d os => cell_regrown e4 d os
      clear c0 c1 c2 c3 c4 e0 e1 e2 e3 e4
      refine wp_region_quiet_below (by kernel_rfl) (by kernel_rfl) ?_
      repeat (go_big_quiet_step (first
        | (go_at_call 12; with_reducible exact Calls.regrown_of (fI _ (hTW.on (below_regrown _ _ _))))
        | (go_at_call 12; with_reducible exact Calls.regrown_of (fJ _ (hTW.on (below_regrown _ _ _))))))
      refine wpQuiet_nil ?_
      rintro W1 ⟨p, rfl⟩
      have bW := below_step hW (below_regrown W p.d p.os)
      have k0 := c0' p.d p.os
      have k1 := c1' p.d p.os
      have k2 := c2' p.d p.os
      have k3 := c3' p.d p.os
      have k4 := c4' p.d p.os
      have l0 := e0' p.d p.os
      have l1 := e1' p.d p.os
      have l2 := e2' p.d p.os
      have l3 := e3' p.d p.os
      have l4 := e4' p.d p.os
      clear c0' c1' c2' c3' c4' e0' e1' e2' e3' e4'
      generalize Go.Sort.grow (redrawn W p.d) p.os = W2 at *
      go_wp2_with (first
        | (go_at_call 13; with_reducible refine (fIr _).mono ?_; rintro e w3 ⟨rfl, hb3⟩; have g0 := still k0 hb3; have g1 := still k1 hb3; have g2 := still k2 hb3; have g3 := still k3 hb3; have g4 := still k4 hb3; have q0 := still l0 hb3; have q1 := still l1 hb3; have q2 := still l2 hb3; have q3 := still l3 hb3; have q4 := still l4 hb3; have b3 := below_step bW hb3; clear k0 k1 k2 k3 k4 l0 l1 l2 l3 l4)
        | (go_at_call 13; with_reducible refine (fJr _).mono ?_; rintro e w4 ⟨rfl, hb4⟩; have h0 := still g0 hb4; have h1 := still g1 hb4; have h2 := still g2 hb4; have h3 := still g3 hb4; have h4 := still g4 hb4; have r0 := still q0 hb4; have r1 := still q1 hb4; have r2 := still q2 hb4; have r3 := still q3 hb4; have r4 := still q4 hb4; have b4 := below_step b3 hb4)
        | (go_at_call 14; refine (valid_any _ _ _ _ _ _ hm.1 hm.2).mono ?_; rintro e w5 ⟨rfl, hb5⟩; have b5 := below_step b4 hb5)
        | (go_at_call 15; refine (awake_any _ (hT.on b5)).mono ?_; rintro e w6 ⟨rfl, hb6⟩))
      all_goals go_ret
      all_goals exact ⟨rfl, below_step b5 hb6⟩
    · have hst : ¬ s.toList = t.toList := fun e => p3 hk hij (by
        rw [ByteArray.toList_eq, ByteArray.toList_eq] at e
        exact ByteArray.ext (Array.toList_inj.1 e))
      have hOk := Lib.hid hk
      replace hij := Lib.hid hij
      clear p1 p2 p3 p4 hk
      go_enter Tryd.func3, Tryd.ntmps3
      go_wp2
      refine (?_ : ∀ W : World, ((W.cell? ⟨w.heap.size, 0, none⟩ = some (.int .i64 o) ∧ W.cell? ⟨w.heap.size, 1, none⟩ = some (.int .i64 a) ∧ W.cell? ⟨w.heap.size, 2, none⟩ = some (.int .i64 b) ∧ W.cell? ⟨w.heap.size, 3, none⟩ = some (.int .i64 c) ∧ W.cell? ⟨w.heap.size, 4, none⟩ = some (.int .i32 m)) ∧ (W.cell? ⟨w.heap.size + 1, 0, none⟩ = some (.int .i64 o') ∧ W.cell? ⟨w.heap.size + 1, 1, none⟩ = some (.int .i64 a') ∧ W.cell? ⟨w.heap.size + 1, 2, none⟩ = some (.int .i64 b') ∧ W.cell? ⟨w.heap.size + 1, 3, none⟩ = some (.int .i64 c') ∧ W.cell? ⟨w.heap.size + 1, 4, none⟩ = some (.int .i32 m')) ∧ Below w.heap.size w W) → Code.wp _ _ _ _ W) _ ⟨⟨by simp [go_sem], by simp [go_sem], by simp [go_sem], by simp [go_sem], by simp [go_sem]⟩, ⟨by simp [go_sem], by simp [go_sem], by simp [go_sem], by simp [go_sem], by simp [go_sem]⟩, by repeat' (first | with_reducible exact Below.refl _ _ | with_reducible apply Below.alloc | (simp; done) | (simp; omega))⟩
      rintro W ⟨⟨c0, c1, c2, c3, c4⟩, ⟨e0, e1, e2, e3, e4⟩, hW⟩
      have hTW := hT.on hW
      have c0' := fun d os => cell_regrown c0 d os
      have c1' := fun d os => cell_regrown c1 d os
      have c2' := fun d os => cell_regrown c2 d os
      have c3' := fun d os => cell_regrown c3 d os
      have c4' := fun d os => cell_regrown c4 d os
      have e0' := fun d os => cell_regrown e0 d os
      have e1' := fun d os => cell_regrown e1 d os
      have e2' := fun d os => cell_regrown e2 d os
      have e3' := fun d os => cell_regrown e3 d os
      have e4' := fun d os => cell_regrown e4 d os
      clear c0 c1 c2 c3 c4 e0 e1 e2 e3 e4
      refine wp_region_quiet_below (by kernel_rfl) (by kernel_rfl) ?_
      repeat (go_big_quiet_step (first
        | (go_at_call 12; with_reducible exact Calls.regrown_of (fI _ (hTW.on (below_regrown _ _ _))))
        | (go_at_call 12; with_reducible exact Calls.regrown_of (fJ _ (hTW.on (below_regrown _ _ _))))))
      refine wpQuiet_nil ?_
      rintro W1 ⟨p, rfl⟩
      have bW := below_step hW (below_regrown W p.d p.os)
      have k0 := c0' p.d p.os
      have k1 := c1' p.d p.os
      have k2 := c2' p.d p.os
      have k3 := c3' p.d p.os
      have k4 := c4' p.d p.os
      have l0 := e0' p.d p.os
      have l1 := e1' p.d p.os
      have l2 := e2' p.d p.os
      have l3 := e3' p.d p.os
      have l4 := e4' p.d p.os
      clear c0' c1' c2' c3' c4' e0' e1' e2' e3' e4'
      generalize Go.Sort.grow (redrawn W p.d) p.os = W2 at *
      go_wp2_with (first
        | (go_at_call 13; with_reducible refine (fIr _).mono ?_; rintro e w3 ⟨rfl, hb3⟩; have g0 := still k0 hb3; have g1 := still k1 hb3; have g2 := still k2 hb3; have g3 := still k3 hb3; have g4 := still k4 hb3; have q0 := still l0 hb3; have q1 := still l1 hb3; have q2 := still l2 hb3; have q3 := still l3 hb3; have q4 := still l4 hb3; have b3 := below_step bW hb3; clear k0 k1 k2 k3 k4 l0 l1 l2 l3 l4)
        | (go_at_call 13; with_reducible refine (fJr _).mono ?_; rintro e w4 ⟨rfl, hb4⟩; have h0 := still g0 hb4; have h1 := still g1 hb4; have h2 := still g2 hb4; have h3 := still g3 hb4; have h4 := still g4 hb4; have r0 := still q0 hb4; have r1 := still q1 hb4; have r2 := still q2 hb4; have r3 := still q3 hb4; have r4 := still q4 hb4; have b4 := below_step b3 hb4)
        | (go_at_call 14; refine (valid_any _ _ _ _ _ _ hm.1 hm.2).mono ?_; rintro e w5 ⟨rfl, hb5⟩; have b5 := below_step b4 hb5)
        | (go_at_call 15; refine (awake_any _ (hT.on b5)).mono ?_; rintro e w6 ⟨rfl, hb6⟩))
      all_goals first
        | (go_ret; exact ⟨rfl, below_step b5 hb6⟩)
        | (exfalso; refine hij.out ⟨?_, ?_, ?_, ?_, ?_⟩ <;> first | assumption | rfl)
        | (exfalso; have := hOk.out; subst_vars; contradiction)
        | (go_ret; refine ⟨?_, below_step b5 hb6⟩; congr 1; simp [go_sem, Array.getD]; exact hst)
  · have hd : decide (Ok o a b c m) = false := by simpa using hk
    obtain rfl := p1 hk
    clear p1 p2 p3 p4 hk
    go_enter Tryd.func3, Tryd.ntmps3
    go_wp2
    refine (?_ : ∀ W : World, ((W.cell? ⟨w.heap.size, 0, none⟩ = some (.int .i64 o) ∧ W.cell? ⟨w.heap.size, 1, none⟩ = some (.int .i64 a) ∧ W.cell? ⟨w.heap.size, 2, none⟩ = some (.int .i64 b) ∧ W.cell? ⟨w.heap.size, 3, none⟩ = some (.int .i64 c) ∧ W.cell? ⟨w.heap.size, 4, none⟩ = some (.int .i32 m)) ∧ (W.cell? ⟨w.heap.size + 1, 0, none⟩ = some (.int .i64 o') ∧ W.cell? ⟨w.heap.size + 1, 1, none⟩ = some (.int .i64 a') ∧ W.cell? ⟨w.heap.size + 1, 2, none⟩ = some (.int .i64 b') ∧ W.cell? ⟨w.heap.size + 1, 3, none⟩ = some (.int .i64 c') ∧ W.cell? ⟨w.heap.size + 1, 4, none⟩ = some (.int .i32 m')) ∧ Below w.heap.size w W) → Code.wp _ _ _ _ W) _ ⟨⟨by simp [go_sem], by simp [go_sem], by simp [go_sem], by simp [go_sem], by simp [go_sem]⟩, ⟨by simp [go_sem], by simp [go_sem], by simp [go_sem], by simp [go_sem], by simp [go_sem]⟩, by repeat' (first | with_reducible exact Below.refl _ _ | with_reducible apply Below.alloc | (simp; done) | (simp; omega))⟩
    rintro W ⟨⟨c0, c1, c2, c3, c4⟩, ⟨e0, e1, e2, e3, e4⟩, hW⟩
    have hTW := hT.on hW
    have c0' := fun d os => cell_regrown c0 d os
    have c1' := fun d os => cell_regrown c1 d os
    have c2' := fun d os => cell_regrown c2 d os
    have c3' := fun d os => cell_regrown c3 d os
    have c4' := fun d os => cell_regrown c4 d os
    have e0' := fun d os => cell_regrown e0 d os
    have e1' := fun d os => cell_regrown e1 d os
    have e2' := fun d os => cell_regrown e2 d os
    have e3' := fun d os => cell_regrown e3 d os
    have e4' := fun d os => cell_regrown e4 d os
    clear c0 c1 c2 c3 c4 e0 e1 e2 e3 e4
    refine wp_region_quiet_below (by kernel_rfl) (by kernel_rfl) ?_
    repeat (go_big_quiet_step (first
      | (go_at_call 12; with_reducible exact Calls.regrown_of (fI _ (hTW.on (below_regrown _ _ _))))
      | (go_at_call 12; with_reducible exact Calls.regrown_of (fJ _ (hTW.on (below_regrown _ _ _))))))
    refine wpQuiet_nil ?_
    rintro W1 ⟨p, rfl⟩
    have bW := below_step hW (below_regrown W p.d p.os)
    have k0 := c0' p.d p.os
    have k1 := c1' p.d p.os
    have k2 := c2' p.d p.os
    have k3 := c3' p.d p.os
    have k4 := c4' p.d p.os
    have l0 := e0' p.d p.os
    have l1 := e1' p.d p.os
    have l2 := e2' p.d p.os
    have l3 := e3' p.d p.os
    have l4 := e4' p.d p.os
    clear c0' c1' c2' c3' c4' e0' e1' e2' e3' e4'
    generalize Go.Sort.grow (redrawn W p.d) p.os = W2 at *
    go_wp2_with (first
      | (go_at_call 13; with_reducible refine (fIr _).mono ?_; rintro e w3 ⟨rfl, hb3⟩; have g0 := still k0 hb3; have g1 := still k1 hb3; have g2 := still k2 hb3; have g3 := still k3 hb3; have g4 := still k4 hb3; have q0 := still l0 hb3; have q1 := still l1 hb3; have q2 := still l2 hb3; have q3 := still l3 hb3; have q4 := still l4 hb3; have b3 := below_step bW hb3; clear k0 k1 k2 k3 k4 l0 l1 l2 l3 l4)
      | (go_at_call 13; with_reducible refine (fJr _).mono ?_; rintro e w4 ⟨rfl, hb4⟩; have h0 := still g0 hb4; have h1 := still g1 hb4; have h2 := still g2 hb4; have h3 := still g3 hb4; have h4 := still g4 hb4; have r0 := still q0 hb4; have r1 := still q1 hb4; have r2 := still q2 hb4; have r3 := still q3 hb4; have r4 := still q4 hb4; have b4 := below_step b3 hb4)
      | (go_at_call 14; refine (valid_any _ _ _ _ _ _ hm.1 hm.2).mono ?_; rintro e w5 ⟨rfl, hb5⟩; have b5 := below_step b4 hb5)
      | (go_at_call 15; refine (awake_any _ (hT.on b5)).mono ?_; rintro e w6 ⟨rfl, hb6⟩))
    all_goals go_ret
    all_goals exact ⟨rfl, below_step b5 hb6⟩
/-- Two boxes, written anew. -/
theorem boxes2 {w w1 : World} {a0 a1 a2 a3 a4 b0 b1 b2 b3 b4 : Value} {T : TypeId} (hb : Below ((w.alloc (.cells #[a0, a1, a2, a3, a4] T)).alloc (.cells #[b0, b1, b2, b3, b4] T)).heap.size ((w.alloc (.cells #[a0, a1, a2, a3, a4] T)).alloc (.cells #[b0, b1, b2, b3, b4] T)) w1) :
    (w1.cell? ⟨w.heap.size, 0, none⟩ = some a0 ∧ w1.cell? ⟨w.heap.size, 1, none⟩ = some a1 ∧ w1.cell? ⟨w.heap.size, 2, none⟩ = some a2 ∧ w1.cell? ⟨w.heap.size, 3, none⟩ = some a3 ∧ w1.cell? ⟨w.heap.size, 4, none⟩ = some a4) ∧
    (w1.cell? ⟨w.heap.size + 1, 0, none⟩ = some b0 ∧ w1.cell? ⟨w.heap.size + 1, 1, none⟩ = some b1 ∧ w1.cell? ⟨w.heap.size + 1, 2, none⟩ = some b2 ∧ w1.cell? ⟨w.heap.size + 1, 3, none⟩ = some b3 ∧ w1.cell? ⟨w.heap.size + 1, 4, none⟩ = some b4) ∧
    (∀ i : Nat, w1.frozen? ⟨w.heap.size, i, none⟩ = false) ∧ (∀ i : Nat, w1.frozen? ⟨w.heap.size + 1, i, none⟩ = false) ∧ Below w.heap.size w w1 ∧ w.heap.size + 1 < w1.heap.size := by
  have hs : ((w.alloc (.cells #[a0, a1, a2, a3, a4] T)).alloc (.cells #[b0, b1, b2, b3, b4] T)).heap.size = w.heap.size + 2 := by simp
  have hsz := hb.size
  refine ⟨⟨still (by simp [go_sem]) hb, still (by simp [go_sem]) hb, still (by simp [go_sem]) hb, still (by simp [go_sem]) hb, still (by simp [go_sem]) hb⟩, ⟨still (by simp [go_sem]) hb, still (by simp [go_sem]) hb, still (by simp [go_sem]) hb, still (by simp [go_sem]) hb, still (by simp [go_sem]) hb⟩, fun i => ?_, fun i => ?_, ?_, by omega⟩
  · rw [hb.frozen (by rw [hs]; show w.heap.size < _; omega)]; simp [go_sem]
  · rw [hb.frozen (by rw [hs]; show w.heap.size + 1 < _; omega)]; simp [go_sem]
  · refine Below.trans ?_ (hb.mono (by rw [hs]; omega))
    repeat' (first | with_reducible exact Below.refl _ _ | with_reducible apply Below.alloc | (simp; done) | (simp; omega))
theorem keep2 {w w1 w2 : World} {a0 a1 a2 a3 a4 b0 b1 b2 b3 b4 : Value} (hb : Below w1.heap.size w1 w2)
    (hc : w1.cell? ⟨w.heap.size, 0, none⟩ = some a0 ∧ w1.cell? ⟨w.heap.size, 1, none⟩ = some a1 ∧ w1.cell? ⟨w.heap.size, 2, none⟩ = some a2 ∧ w1.cell? ⟨w.heap.size, 3, none⟩ = some a3 ∧ w1.cell? ⟨w.heap.size, 4, none⟩ = some a4)
    (hd : w1.cell? ⟨w.heap.size + 1, 0, none⟩ = some b0 ∧ w1.cell? ⟨w.heap.size + 1, 1, none⟩ = some b1 ∧ w1.cell? ⟨w.heap.size + 1, 2, none⟩ = some b2 ∧ w1.cell? ⟨w.heap.size + 1, 3, none⟩ = some b3 ∧ w1.cell? ⟨w.heap.size + 1, 4, none⟩ = some b4)
    (hz : ∀ i : Nat, w1.frozen? ⟨w.heap.size, i, none⟩ = false) (hy : ∀ i : Nat, w1.frozen? ⟨w.heap.size + 1, i, none⟩ = false) (hB : Below w.heap.size w w1) (hlt : w.heap.size + 1 < w1.heap.size) :
    (w2.cell? ⟨w.heap.size, 0, none⟩ = some a0 ∧ w2.cell? ⟨w.heap.size, 1, none⟩ = some a1 ∧ w2.cell? ⟨w.heap.size, 2, none⟩ = some a2 ∧ w2.cell? ⟨w.heap.size, 3, none⟩ = some a3 ∧ w2.cell? ⟨w.heap.size, 4, none⟩ = some a4) ∧
    (w2.cell? ⟨w.heap.size + 1, 0, none⟩ = some b0 ∧ w2.cell? ⟨w.heap.size + 1, 1, none⟩ = some b1 ∧ w2.cell? ⟨w.heap.size + 1, 2, none⟩ = some b2 ∧ w2.cell? ⟨w.heap.size + 1, 3, none⟩ = some b3 ∧ w2.cell? ⟨w.heap.size + 1, 4, none⟩ = some b4) ∧
    (∀ i : Nat, w2.frozen? ⟨w.heap.size, i, none⟩ = false) ∧ (∀ i : Nat, w2.frozen? ⟨w.heap.size + 1, i, none⟩ = false) ∧ Below w.heap.size w w2 ∧ w.heap.size + 1 < w2.heap.size := by
  have hsz := hb.size
  obtain ⟨c0, c1, c2, c3, c4⟩ := hc
  obtain ⟨d0, d1, d2, d3, d4⟩ := hd
  refine ⟨⟨still c0 hb, still c1 hb, still c2 hb, still c3 hb, still c4 hb⟩, ⟨still d0 hb, still d1 hb, still d2 hb, still d3 hb, still d4 hb⟩, fun i => ?_, fun i => ?_, below_step hB hb, by omega⟩
  · rw [hb.frozen (show w.heap.size < _ by omega)]; exact hz i
  · rw [hb.frozen (show w.heap.size + 1 < _ by omega)]; exact hy i
set_option maxHeartbeats 8000000 in
theorem formats_made (p q r x y p' q' r' x' y' n k : Int) (wn : (Lit.int .i64 n).wf = true) (wk : (Lit.int .i64 k).wf = true) (w : World) (hT : Tabs w) :
    Calls Tryd.prog 3 #[.agg #[.int .i64 p, .int .i64 q, .int .i64 r, .int .i64 x, .int .i32 y], .agg #[.int .i64 p', .int .i64 q', .int .i64 r', .int .i64 x', .int .i32 y'], .int .i64 n, .int .i64 k, .bool true] w fun e w' => e = .returned (.bool true) ∧ Below w.heap.size w w' := by
  have hn := wf_i64 wn
  have hkk := wf_i64 wk
  obtain ⟨o, a, b, c, m, hk, _, hI⟩ := inst_ex n hn.1 hn.2
  obtain ⟨o', a', b', c', m', hk', _, hJ⟩ := inst_ex k hkk.1 hkk.2
  have hb := ok_bound hk
  have hb' := ok_bound hk'
  have hm : -2147483648 ≤ m ∧ m ≤ 2147483647 := by omega
  have hm' : -2147483648 ≤ m' ∧ m' ≤ 2147483647 := by omega
  clear hb hb' hk'
  obtain ⟨s, t, fI, fIr, fJ, fJr, p1, p2, p3, p4⟩ := two_texts o a b c m o' a' b' c' m' hm hm'
  have hd : decide (Ok o a b c m) = true := by simpa using hk
  have hs := p2 hk
  by_cases hij : o = o' ∧ a = a' ∧ b = b' ∧ c = c' ∧ m = m'
  · obtain rfl := p4 hij
    obtain ⟨rfl, rfl, rfl, rfl, rfl⟩ := hij
    clear p1 p2 p3 p4 hk
    go_enter Tryd.func3, Tryd.ntmps3
    go_wp2_with (first
      | (go_at_call 11; (with_reducible refine (hI _).mono ?_); rintro e w1 ⟨rfl, hb1⟩; obtain ⟨hc1, hd1, hz1, hy1, hB1, hlt1⟩ := boxes2 hb1; clear hI)
      | (go_at_call 11; (with_reducible refine (hJ _).mono ?_); rintro e w2 ⟨rfl, hb2⟩; obtain ⟨⟨u0, u1, u2, u3, u4⟩, ⟨v0, v1, v2, v3, v4⟩, hz2, hy2, hB2, hlt2⟩ := keep2 hb2 hc1 hd1 hz1 hy1 hB1 hlt1; have z0 := hz2 0; have z1 := hz2 1; have z2 := hz2 2; have z3 := hz2 3; have z4 := hz2 4; have y0 := hy2 0; have y1 := hy2 1; have y2 := hy2 2; have y3 := hy2 3; have y4 := hy2 4; clear hc1 hd1 hz1 hy1 hB1 hlt1 hb1 hz2 hy2))
    refine (?_ : ∀ W : World, ((W.cell? ⟨w.heap.size, 0, none⟩ = some (.int .i64 o) ∧ W.cell? ⟨w.heap.size, 1, none⟩ = some (.int .i64 a) ∧ W.cell? ⟨w.heap.size, 2, none⟩ = some (.int .i64 b) ∧ W.cell? ⟨w.heap.size, 3, none⟩ = some (.int .i64 c) ∧ W.cell? ⟨w.heap.size, 4, none⟩ = some (.int .i32 m)) ∧ (W.cell? ⟨w.heap.size + 1, 0, none⟩ = some (.int .i64 o) ∧ W.cell? ⟨w.heap.size + 1, 1, none⟩ = some (.int .i64 a) ∧ W.cell? ⟨w.heap.size + 1, 2, none⟩ = some (.int .i64 b) ∧ W.cell? ⟨w.heap.size + 1, 3, none⟩ = some (.int .i64 c) ∧ W.cell? ⟨w.heap.size + 1, 4, none⟩ = some (.int .i32 m)) ∧ Below w.heap.size w W) → Code.wp _ _ _ _ W) _ ⟨⟨by simp [go_sem, u0], by simp [go_sem, u1], by simp [go_sem, u2], by simp [go_sem, u3], by simp [go_sem, u4]⟩, ⟨by simp [go_sem, v0], by simp [go_sem, v1], by simp [go_sem, v2], by simp [go_sem, v3], by simp [go_sem, v4]⟩, by repeat' (first | with_reducible exact hB2 | with_reducible apply Below.setCell | (simp; done) | (simp; omega))⟩
    rintro W ⟨⟨c0, c1, c2, c3, c4⟩, ⟨e0, e1, e2, e3, e4⟩, hW⟩
    clear u0 u1 u2 u3 u4 v0 v1 v2 v3 v4 z0 z1 z2 z3 z4 y0 y1 y2 y3 y4 hB2 hlt2 hb2
    have hTW := hT.on hW
    have c0' := fun d os => cell_regrown c0 d os
    have c1' := fun d os => cell_regrown c1 d os
    have c2' := fun d os => cell_regrown c2 d os
    have c3' := fun d os => cell_regrown c3 d os
    have c4' := fun d os => cell_regrown c4 d os
    have e0' := fun d os => cell_regrown e0 d os
    have e1' := fun d os => cell_regrown e1 d os
    have e2' := fun d os => cell_regrown e2 d os
    have e3' := fun d os => cell_regrown e3 d os
    have e4' := fun d os => cell_regrown e4 d os
    clear c0 c1 c2 c3 c4 e0 e1 e2 e3 e4
    refine wp_region_quiet_below (by kernel_rfl) (by kernel_rfl) ?_
    repeat (go_big_quiet_step (first
      | (go_at_call 12; with_reducible exact Calls.regrown_of (fI _ (hTW.on (below_regrown _ _ _))))
      | (go_at_call 12; with_reducible exact Calls.regrown_of (fJ _ (hTW.on (below_regrown _ _ _))))))
    refine wpQuiet_nil ?_
    rintro W1 ⟨p, rfl⟩
    have bW := below_step hW (below_regrown W p.d p.os)
    have k0 := c0' p.d p.os
    have k1 := c1' p.d p.os
    have k2 := c2' p.d p.os
    have k3 := c3' p.d p.os
    have k4 := c4' p.d p.os
    have l0 := e0' p.d p.os
    have l1 := e1' p.d p.os
    have l2 := e2' p.d p.os
    have l3 := e3' p.d p.os
    have l4 := e4' p.d p.os
    clear c0' c1' c2' c3' c4' e0' e1' e2' e3' e4'
    generalize Go.Sort.grow (redrawn W p.d) p.os = W2 at *
    go_wp2_with (first
      | (go_at_call 13; with_reducible refine (fIr _).mono ?_; rintro e w3 ⟨rfl, hb3⟩; have g0 := still k0 hb3; have g1 := still k1 hb3; have g2 := still k2 hb3; have g3 := still k3 hb3; have g4 := still k4 hb3; have q0 := still l0 hb3; have q1 := still l1 hb3; have q2 := still l2 hb3; have q3 := still l3 hb3; have q4 := still l4 hb3; have b3 := below_step bW hb3; clear k0 k1 k2 k3 k4 l0 l1 l2 l3 l4)
      | (go_at_call 13; with_reducible refine (fJr _).mono ?_; rintro e w4 ⟨rfl, hb4⟩; have h0 := still g0 hb4; have h1 := still g1 hb4; have h2 := still g2 hb4; have h3 := still g3 hb4; have h4 := still g4 hb4; have r0 := still q0 hb4; have r1 := still q1 hb4; have r2 := still q2 hb4; have r3 := still q3 hb4; have r4 := still q4 hb4; have b4 := below_step b3 hb4)
      | (go_at_call 14; refine (valid_any _ _ _ _ _ _ hm.1 hm.2).mono ?_; rintro e w5 ⟨rfl, hb5⟩; have b5 := below_step b4 hb5)
      | (go_at_call 15; refine (awake_any _ (hT.on b5)).mono ?_; rintro e w6 ⟨rfl, hb6⟩))
    all_goals go_ret
    all_goals exact ⟨rfl, below_step b5 hb6⟩
  · have hst : ¬ s.toList = t.toList := fun e => p3 hk hij (by
      rw [ByteArray.toList_eq, ByteArray.toList_eq] at e
      exact ByteArray.ext (Array.toList_inj.1 e))
    have hOk := Lib.hid hk
    replace hij := Lib.hid hij
    clear p1 p2 p3 p4 hk
    go_enter Tryd.func3, Tryd.ntmps3
    go_wp2_with (first
      | (go_at_call 11; (with_reducible refine (hI _).mono ?_); rintro e w1 ⟨rfl, hb1⟩; obtain ⟨hc1, hd1, hz1, hy1, hB1, hlt1⟩ := boxes2 hb1; clear hI)
      | (go_at_call 11; (with_reducible refine (hJ _).mono ?_); rintro e w2 ⟨rfl, hb2⟩; obtain ⟨⟨u0, u1, u2, u3, u4⟩, ⟨v0, v1, v2, v3, v4⟩, hz2, hy2, hB2, hlt2⟩ := keep2 hb2 hc1 hd1 hz1 hy1 hB1 hlt1; have z0 := hz2 0; have z1 := hz2 1; have z2 := hz2 2; have z3 := hz2 3; have z4 := hz2 4; have y0 := hy2 0; have y1 := hy2 1; have y2 := hy2 2; have y3 := hy2 3; have y4 := hy2 4; clear hc1 hd1 hz1 hy1 hB1 hlt1 hb1 hz2 hy2))
    refine (?_ : ∀ W : World, ((W.cell? ⟨w.heap.size, 0, none⟩ = some (.int .i64 o) ∧ W.cell? ⟨w.heap.size, 1, none⟩ = some (.int .i64 a) ∧ W.cell? ⟨w.heap.size, 2, none⟩ = some (.int .i64 b) ∧ W.cell? ⟨w.heap.size, 3, none⟩ = some (.int .i64 c) ∧ W.cell? ⟨w.heap.size, 4, none⟩ = some (.int .i32 m)) ∧ (W.cell? ⟨w.heap.size + 1, 0, none⟩ = some (.int .i64 o') ∧ W.cell? ⟨w.heap.size + 1, 1, none⟩ = some (.int .i64 a') ∧ W.cell? ⟨w.heap.size + 1, 2, none⟩ = some (.int .i64 b') ∧ W.cell? ⟨w.heap.size + 1, 3, none⟩ = some (.int .i64 c') ∧ W.cell? ⟨w.heap.size + 1, 4, none⟩ = some (.int .i32 m')) ∧ Below w.heap.size w W) → Code.wp _ _ _ _ W) _ ⟨⟨by simp [go_sem, u0], by simp [go_sem, u1], by simp [go_sem, u2], by simp [go_sem, u3], by simp [go_sem, u4]⟩, ⟨by simp [go_sem, v0], by simp [go_sem, v1], by simp [go_sem, v2], by simp [go_sem, v3], by simp [go_sem, v4]⟩, by repeat' (first | with_reducible exact hB2 | with_reducible apply Below.setCell | (simp; done) | (simp; omega))⟩
    rintro W ⟨⟨c0, c1, c2, c3, c4⟩, ⟨e0, e1, e2, e3, e4⟩, hW⟩
    clear u0 u1 u2 u3 u4 v0 v1 v2 v3 v4 z0 z1 z2 z3 z4 y0 y1 y2 y3 y4 hB2 hlt2 hb2
    have hTW := hT.on hW
    have c0' := fun d os => cell_regrown c0 d os
    have c1' := fun d os => cell_regrown c1 d os
    have c2' := fun d os => cell_regrown c2 d os
    have c3' := fun d os => cell_regrown c3 d os
    have c4' := fun d os => cell_regrown c4 d os
    have e0' := fun d os => cell_regrown e0 d os
    have e1' := fun d os => cell_regrown e1 d os
    have e2' := fun d os => cell_regrown e2 d os
    have e3' := fun d os => cell_regrown e3 d os
    have e4' := fun d os => cell_regrown e4 d os
    clear c0 c1 c2 c3 c4 e0 e1 e2 e3 e4
    refine wp_region_quiet_below (by kernel_rfl) (by kernel_rfl) ?_
    repeat (go_big_quiet_step (first
      | (go_at_call 12; with_reducible exact Calls.regrown_of (fI _ (hTW.on (below_regrown _ _ _))))
      | (go_at_call 12; with_reducible exact Calls.regrown_of (fJ _ (hTW.on (below_regrown _ _ _))))))
    refine wpQuiet_nil ?_
    rintro W1 ⟨p, rfl⟩
    have bW := below_step hW (below_regrown W p.d p.os)
    have k0 := c0' p.d p.os
    have k1 := c1' p.d p.os
    have k2 := c2' p.d p.os
    have k3 := c3' p.d p.os
    have k4 := c4' p.d p.os
    have l0 := e0' p.d p.os
    have l1 := e1' p.d p.os
    have l2 := e2' p.d p.os
    have l3 := e3' p.d p.os
    have l4 := e4' p.d p.os
    clear c0' c1' c2' c3' c4' e0' e1' e2' e3' e4'
    generalize Go.Sort.grow (redrawn W p.d) p.os = W2 at *
    go_wp2_with (first
      | (go_at_call 13; with_reducible refine (fIr _).mono ?_; rintro e w3 ⟨rfl, hb3⟩; have g0 := still k0 hb3; have g1 := still k1 hb3; have g2 := still k2 hb3; have g3 := still k3 hb3; have g4 := still k4 hb3; have q0 := still l0 hb3; have q1 := still l1 hb3; have q2 := still l2 hb3; have q3 := still l3 hb3; have q4 := still l4 hb3; have b3 := below_step bW hb3; clear k0 k1 k2 k3 k4 l0 l1 l2 l3 l4)
      | (go_at_call 13; with_reducible refine (fJr _).mono ?_; rintro e w4 ⟨rfl, hb4⟩; have h0 := still g0 hb4; have h1 := still g1 hb4; have h2 := still g2 hb4; have h3 := still g3 hb4; have h4 := still g4 hb4; have r0 := still q0 hb4; have r1 := still q1 hb4; have r2 := still q2 hb4; have r3 := still q3 hb4; have r4 := still q4 hb4; have b4 := below_step b3 hb4)
      | (go_at_call 14; refine (valid_any _ _ _ _ _ _ hm.1 hm.2).mono ?_; rintro e w5 ⟨rfl, hb5⟩; have b5 := below_step b4 hb5)
      | (go_at_call 15; refine (awake_any _ (hT.on b5)).mono ?_; rintro e w6 ⟨rfl, hb6⟩))
    all_goals first
      | (go_ret; exact ⟨rfl, below_step b5 hb6⟩)
      | (exfalso; refine hij.out ⟨?_, ?_, ?_, ?_, ?_⟩ <;> first | assumption | rfl)
      | (exfalso; have := hOk.out; subst_vars; contradiction)
      | (go_ret; refine ⟨?_, below_step b5 hb6⟩; congr 1; simp [go_sem, Array.getD]; exact hst)
theorem formats_walk (o a b c m o' a' b' c' m' n k : Int) (made : Bool) (i4 : (Lit.int .i32 m).wf = true) (j4 : (Lit.int .i32 m').wf = true) (wn : (Lit.int .i64 n).wf = true) (wk : (Lit.int .i64 k).wf = true) (w : World) (hT : Tabs w) :
    Calls Tryd.prog 3 #[.agg #[.int .i64 o, .int .i64 a, .int .i64 b, .int .i64 c, .int .i32 m], .agg #[.int .i64 o', .int .i64 a', .int .i64 b', .int .i64 c', .int .i32 m'], .int .i64 n, .int .i64 k, .bool made] w fun e w' => e = .returned (.bool true) ∧ Below w.heap.size w w' := by
  cases made
  · exact formats_plain o a b c m o' a' b' c' m' n k (by simpa [Lit.wf, IntKind.min, IntKind.max, IntKind.bits, IntKind.signed] using i4) (by simpa [Lit.wf, IntKind.min, IntKind.max, IntKind.bits, IntKind.signed] using j4) w hT
  · exact formats_made o a b c m o' a' b' c' m' n k wn wk w hT
end Go.Proofs.YtegaookkfjgepaaDoor
