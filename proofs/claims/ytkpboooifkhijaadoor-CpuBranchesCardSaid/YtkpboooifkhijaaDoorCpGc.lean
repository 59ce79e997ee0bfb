import Derived.Test.YtkpboooifkhijaaDoorCpEq
import Derived.Deep.MidRow
import Derived.Test.YtkpboooifkhijaaDoorCpGb
import Derived.Test.YtkpboooifkhijaaDoorCpSt2
import Derived.Test.YtkpboooifkhijaaDoorCpLawP
import Derived.Laws.Cover3
namespace Go.Proofs.YtkpboooifkhijaaDoor
set_option linter.unusedVariables false
set_option linter.unusedSimpArgs false
set_option maxRecDepth 20000
open Go.ChangeShapes Go.WideShapes Go.ChangeAt Go.RowKit Go.Proofs.YtkpboooifkhijaaDoor.Num Go.Proofs.YtkpboooifkhijaaDoor.Mem Go.Proofs.YtkpboooifkhijaaDoor.Isa
/- A processor's registers as a value: loaded and compared whole. -/
def x16 (L : List Int) : List Value := (cw L).take 16
theorem x16_len {L : List Int} (h : L.length = 25) : (x16 L).length = 16 := by unfold x16; rw [List.length_take, cw_len h]; rfl
theorem x16_eq {L M : List Int} (hL : L.length = 25) (hM : M.length = 25) (h : ∀ i, i < 16 → wd L i = wd M i) : x16 L = x16 M := by
  apply List.ext_getElem?
  intro i
  unfold x16
  rw [List.getElem?_take, List.getElem?_take]
  by_cases hi : i < 16
  · rw [if_pos hi, if_pos hi, cw_at hL (by omega), cw_at hM (by omega), h i hi]
  · rw [if_neg hi, if_neg hi]
theorem und16 : ∃ d, Tryd.prog.underlying 29 = some d ∧ d.isRow = true := ⟨_, Tryd.underlying29, rfl⟩
theorem eq_x16 {L : List Int} (hL : L.length = 25) (w : World) : (Op.equalIn 10000 29 (.agg (x16 L).toArray) (.agg (x16 L).toArray)).run Tryd.prog w = .ok true w :=
  eq_row w 9998 16 29 _ Tryd.underlying29 (fun i hi => ⟨wd L i, by
    unfold x16
    rw [List.getElem?_toArray, List.getElem?_take, if_pos hi]; exact cw_at hL (by omega)⟩)
section
variable {ops : Array Oper} {rest : List Oper} {o : Oper} {a : Act} {w : World} {Q : Exit → Act → World → Prop}
theorem wpList_load16 (hw : Region.wanted o (yielded ops a.tmps) = true) (x : Operand) (ho : o.op = .load 29 x) (g : Nat) (hx : a.eval x = .pointer (some ⟨g, 0, none⟩))
    (h : ∀ ob, lk w g = ob → ∃ L, ob = some (.cells (cw L).toArray 32 (0, 0)) ∧ L.length = 25 ∧ wpList Tryd.prog ops Q rest (a.put o.dst (.agg (x16 L).toArray)) w) : wpList Tryd.prog ops Q (o :: rest) a w := by
  obtain ⟨L, hg, hL, h⟩ := h _ rfl
  obtain ⟨d, hu, hd⟩ := und16
  refine wpList_step fun K hK => ?_
  rw [if_pos hw]
  refine wp_load_mid 29 x ho g 0 hx (x16 L) d (fun j v hv => ?_) hu hd (by rw [x16_len hL]; exact size_16) (hK _ _ h)
  rw [Nat.zero_add, cell_lk hg]
  unfold x16 at hv
  rw [List.getElem?_take] at hv
  split at hv
  · simpa using hv
  · cases hv
theorem wpList_eql16 (hw : Region.wanted o (yielded ops a.tmps) = true) (x y : Operand) (ho : o.op = .binOp .eql 29 x y 29) {L M : List Int} (hx : a.eval x = .agg (x16 L).toArray) (hy : a.eval y = .agg (x16 M).toArray) (hLM : x16 L = x16 M) (hL : L.length = 25)
    (h : wpList Tryd.prog ops Q rest (a.put o.dst (.bool true)) w) : wpList Tryd.prog ops Q (o :: rest) a w := by
  refine wpList_step fun K hK => ?_
  rw [if_pos hw]
  have e := eq_x16 hL w
  have e' : (binOp .eql 29 (.agg (x16 L).toArray) (.agg (x16 L).toArray)).run Tryd.prog w = .ok (.bool true) w := by rw [run_eql_struct, e]; rfl
  have eg : (eqGuard .eql 29 x y (.agg (x16 L).toArray) (.agg (x16 L).toArray)).run Tryd.prog w = .ok () w := run_eqGuard_agg w _ _ _ _ _ _ (by kernel_rfl)
  unfold Oper.wp execOp
  simp only [ho, hx, hy, ← hLM, Sem.run_bind, eg, e', Result.andThen_ok, Sem.run_pure]
  exact hK _ _ h
end
end Go.Proofs.YtkpboooifkhijaaDoor

namespace Go.Proofs.YtkpboooifkhijaaDoor
set_option linter.unusedVariables false
set_option linter.unusedSimpArgs false
set_option maxRecDepth 20000
open Go.ChangeShapes Go.WideShapes Go.ChangeAt Go.RowKit Go.Proofs.YtkpboooifkhijaaDoor.Num Go.Proofs.YtkpboooifkhijaaDoor.Mem Go.Proofs.YtkpboooifkhijaaDoor.Isa
/- Opposite branches. -/
theorem br_ok {o m : Int} (ho : 40 ≤ o ∧ o ≤ 45) (h0 : -32768 ≤ m) (h1 : m ≤ 32767) : Ok o 1 2 0 m := by
  have e : ∀ o : Int, o = 40 ∨ o = 41 ∨ o = 42 ∨ o = 43 ∨ o = 44 ∨ o = 45 → lay o ≠ 0 ∧ lo o = -32768 ∧ hi o = 32767 ∧ lay o ≠ 5 ∧ (lay o = 1 ∨ lay o = 2 ∨ lay o = 3) := by
    intro o ho
    rcases ho with rfl | rfl | rfl | rfl | rfl | rfl <;> decide
  obtain ⟨e1, e2, e3, e4, e5⟩ := e o (by omega)
  exact ⟨e1, by omega, by omega, by omega, by omega, by omega, by omega, by rw [e2]; exact h0, by rw [e3]; exact h1, .inr rfl, fun h => absurd h e4, by rcases e5 with h | h | h; exact .inl h; exact .inr (.inl h); exact .inr (.inr (.inl h))⟩
theorem tkn_opp {o : Int} (ho : o = 40 ∨ o = 42 ∨ o = 44) (a b : Int) : tkn (o + 1) a b = !tkn o a b := by
  rcases ho with rfl | rfl | rfl
  · show decide (a ≠ b) = !decide (a = b)
    by_cases h : a = b <;> simp [h]
  · show decide (wrap32 b ≤ wrap32 a) = !decide (wrap32 a < wrap32 b)
    by_cases h : wrap32 a < wrap32 b
    · rw [decide_eq_true h, decide_eq_false (by omega)]; rfl
    · rw [decide_eq_false h, decide_eq_true (by omega)]; rfl
  · show decide (b ≤ a) = !decide (a < b)
    by_cases h : a < b
    · rw [decide_eq_true h, decide_eq_false (by omega)]; rfl
    · rw [decide_eq_false h, decide_eq_true (by omega)]; rfl
theorem eff_zero {o : Int} (ho : ¬ (60 ≤ o ∧ o ≤ 64)) (L : List Int) (A m : Int) : efV (efK o) (efP o m) (efR o A) (efU L o A) = .agg #[.int .i64 0, .int .i64 0, .int .i64 0, .int .u32 0] := by
  rw [show efK o = 0 by unfold efK; rw [if_neg (by omega), if_neg (by omega), if_neg (by omega), if_neg (by omega), if_neg (by omega)], show efP o m = 0 by unfold efP; rw [if_neg (by omega)], show efR o A = 0 by unfold efR; rw [if_neg (by omega)], show efU L o A = 0 by unfold efU; rw [if_neg (by omega)]]
  rfl
/-- What a branch leaves. -/
theorem br_pure {L : List Int} {P : Int} (hP : Placed L P) (P1 : P < 512) (P0 : 0 ≤ P) (T : Int) (T0 : 0 ≤ T) (T1 : T ≤ 4294967295) :
    ((L.set 16 T).length = 25 ∧ wd (L.set 16 T) 16 = T ∧ ∀ i, i < 16 → wd (L.set 16 T) i = wd L i) ∧ ((advL L).length = 25 ∧ wd (advL L) 16 = P + 4 ∧ ∀ i, i < 16 → wd (advL L) i = wd L i) := by
  have hl := hP.1.1
  refine ⟨⟨by rw [List.length_set]; exact hl, by rw [wd_sets _ _ _ _ hl (by omega), if_pos rfl], fun i hi => by rw [wd_sets _ _ _ _ hl (by omega), if_neg (by omega)]⟩, hP.1.adv.1, ?_, fun i hi => ?_⟩
  · unfold advL; rw [wd_sets _ _ _ _ hl (by omega), if_pos rfl, hP.2.2.1]; omega
  · unfold advL; rw [wd_sets _ _ _ _ hl (by omega), if_neg (by omega)]
set_option maxHeartbeats 8000000 in
theorem branches_core (A : Option Addr) (n c : Nat) (z : Nat → Int) (op k p : Int) (w : World) (hn : n ≤ 9223372036854775807) (hz : Ints w A n z) (o0 : -9223372036854775808 ≤ op) (o1 : op ≤ 9223372036854775807) (k0 : -9223372036854775808 ≤ k) (k1 : k ≤ 9223372036854775807) (p0 : 0 ≤ p) (p1 : p ≤ 4294967295)
    (hA : (n = 0 ∧ A = none ∧ c = 0) ∨ (n = 0 ∧ ∃ x, A = some x) ∨ (0 < n ∧ (bits .and .i64 (z 0) 1 == 1) = true) ∨ (0 < n ∧ (bits .and .i64 (z 0) 1 == 1) = false)) :
    Calls Tryd.prog 5 #[.slice A n c, .int .i64 op, .int .i64 k, .int .u32 p] w fun e w' => e = .returned (.bool true) ∧ Below w.heap.size w w' := by
  have HR1 := Lib.hid (fun W => round_any op 3 W (by omega) (by omega) o0 o1)
  have HR2 := Lib.hid (fun W => round_any k 2000 W (by omega) (by omega) k0 k1)
  obtain ⟨r, hr⟩ : ∃ r, op % 3 = r := ⟨_, rfl⟩
  obtain ⟨s, hs⟩ : ∃ s, k % 2000 = s := ⟨_, rfl⟩
  have r0 : 0 ≤ r := by omega
  have r1 : r < 3 := by omega
  have s0 : 0 ≤ s := by omega
  have s1 : s < 2000 := by omega
  rw [hr] at HR1
  rw [hs] at HR2
  clear hr hs
  obtain ⟨o, ho⟩ : ∃ o, 40 + 2 * r = o := ⟨_, rfl⟩
  obtain ⟨m, hm⟩ : ∃ m, s - 1000 = m := ⟨_, rfl⟩
  have o40 : 40 ≤ o := by omega
  have o44 : o ≤ 44 := by omega
  have hev := Lib.hid (show o = 40 ∨ o = 42 ∨ o = 44 by omega)
  have m0 : -1000 ≤ m := by omega
  have m1 : m < 1000 := by omega
  obtain ⟨pc, hpc⟩ : ∃ pc, p % 512 / 4 * 4 = pc := ⟨_, rfl⟩
  have q0 : 0 ≤ pc := by omega
  have q1 : pc < 512 := by omega
  have q4 : pc % 4 = 0 := by omega
  obtain ⟨t, ht⟩ : ∃ t : Nat, pc / 4 = t := ⟨(pc / 4).toNat, by omega⟩
  have t128 : t < 128 := by omega
  have t128' : (t : Int) < 128 := by omega
  obtain ⟨T, hT⟩ : ∃ T, (pc + 4 * (m % 4294967296) % 4294967296) % 4294967296 = T := ⟨_, rfl⟩
  have T0 : 0 ≤ T := by omega
  have T1 : T ≤ 4294967295 := by omega
  have e4 : (pc + 4) % 4294967296 = pc + 4 := by omega
  have hTK := Lib.hid (show (pc + 4 * m) % 4294967296 = T by omega)
  have HAW := Lib.hid (fun W => awake6 W)
  obtain ⟨X, X0, X1, Xd, Xo, Xa, Xb, Xc, Xm, hX⟩ := word_facts (br_ok (o := o) (m := m) (by omega) (by omega) (by omega))
  obtain ⟨Y, Y0, Y1, Yd, Yo, Ya, Yb, Yc, Ym, hY⟩ := word_facts (br_ok (o := o + 1) (m := m) (by omega) (by omega) (by omega))
  have HX := Lib.hid hX
  have HY := Lib.hid hY
  have HPL := Lib.hid (fun W (hZ : Ints W A n z) => placed_any A n c z pc X W hn hZ q0 q1 X0 X1)
  have HZ := Lib.hid hz
  have HXF := Lib.hid (And.intro Xd (And.intro Xo (And.intro Xa (And.intro Xb (And.intro Xc Xm)))))
  have HYF := Lib.hid (And.intro Yd (And.intro Yo (And.intro Ya (And.intro Yb (And.intro Yc Ym)))))
  clear hX hY hz Xd Xo Xa Xb Xc Xm Yd Yo Ya Yb Yc Ym
  have hnil0 : ∀ (l c : Nat) W, (binOp .neq 22 (.slice none l c) (.slice none 0 0)).run Tryd.prog W = .ok (.bool false) W := fun l c W => run_neq_slice_nil (P := Tryd.prog) W 22 3 none l c Tryd.underlying22
  have hnil1 : ∀ (x : Addr) (l c : Nat) W, (binOp .neq 22 (.slice (some x) l c) (.slice none 0 0)).run Tryd.prog W = .ok (.bool true) W := fun x l c W => run_neq_slice_nil (P := Tryd.prog) W 22 3 (some x) l c Tryd.underlying22
  obtain ⟨F1, F2, F3, -⟩ := cw_facts
  by_cases hm1 : m = 1
  · have hmb : (m == 1) = true := by rw [beq_iff_eq]; exact hm1
    clear hm1
    go_enter Tryd.func5, Tryd.ntmps5
    go_wp2_with (first
      | (go_at_call 17; (with_reducible refine (HR1.out _).mono ?_); rintro e w1 ⟨rfl, rfl⟩)
      | (go_at_call 17; (with_reducible refine (HR2.out _).mono ?_); rintro e w1 ⟨rfl, rfl⟩)
      | (go_at_call 15; refine (HAW.out _).mono ?_; rintro e w9 ⟨rfl, hb9⟩))
    all_goals go_ret
    all_goals exact ⟨rfl, below_step (by (repeat' (first | with_reducible exact Below.refl _ _ | with_reducible assumption | with_reducible apply below_drewN | with_reducible apply Below.drew | with_reducible apply Below.setCell | with_reducible apply Below.alloc | (simp; done) | omega | (simp; omega)))) hb9⟩
  · have hmb : (m == 1) = false := by rw [beq_eq_false_iff_ne]; exact hm1
    have hne : (pc + 4 == T) = false := by rw [beq_eq_false_iff_ne]; have := hTK.out; omega
    have hne' : (T == pc + 4) = false := by rw [beq_eq_false_iff_ne]; have := hTK.out; omega
    rcases hA with ⟨rfl, rfl, rfl⟩ | ⟨rfl, ⟨b, off, spot⟩, rfl⟩ | ⟨hn0, hpar⟩ | ⟨hn0, hpar⟩
    · go_enter Tryd.func5, Tryd.ntmps5
      go_wp2_with (first
        | (go_at_call 17; (with_reducible refine (HR1.out _).mono ?_); rintro e w1 ⟨rfl, rfl⟩)
        | (go_at_call 17; (with_reducible refine (HR2.out _).mono ?_); rintro e w1 ⟨rfl, rfl⟩)
        | (go_at_call 9; (with_reducible refine (HX.out _).mono ?_); rintro e w2 ⟨rfl, hb2⟩; have b2 : Below w.heap.size w w2 := Below.trans (by (repeat' (first | with_reducible exact Below.refl _ _ | with_reducible assumption | with_reducible apply below_drewN | with_reducible apply Below.drew | with_reducible apply Below.setCell | with_reducible apply Below.alloc | (simp; done) | omega | (simp; omega)))) (hb2.mono (by simp <;> omega)); have i4 := cell_on (p := ⟨w.heap.size, 4, none⟩) (v := .int .i32 m) (by simp) hb2; have j0 := cell_on (p := ⟨w.heap.size + 1, 0, none⟩) (v := .int .i64 (o + 1)) (by simp) hb2; have j1 := cell_on (p := ⟨w.heap.size + 1, 1, none⟩) (v := .int .i64 1) (by simp) hb2; have j2 := cell_on (p := ⟨w.heap.size + 1, 2, none⟩) (v := .int .i64 2) (by simp) hb2; have j3 := cell_on (p := ⟨w.heap.size + 1, 3, none⟩) (v := .int .i64 0) (by simp) hb2; have j4 := cell_on (p := ⟨w.heap.size + 1, 4, none⟩) (v := .int .i32 m) (by simp) hb2; clear hb2)
        | (go_at_call 9; (with_reducible refine (HY.out _).mono ?_); rintro e w3 ⟨rfl, hb3⟩; have b3 := below_step b2 hb3; replace i4 := cell_on i4 hb3; clear hb3 b2)
        | (go_at_call 11; (with_reducible refine (HPL.out _ (HZ.out.on b3)).mono ?_); rintro e w4 ⟨⟨L, g, c4, l, rfl, hc4, hPl, hl, hu, hwd, ho4, hg⟩, hb4⟩; have hL := hPl.1.1; have hgl := ho4.lt; have ng : ¬ g = w4.heap.size := (by omega); have ng' : ¬ w4.heap.size = g := (by omega); have hI3 := block_of i4; have hgJ : ¬ g = w.heap.size := (fun e => by subst e; exact absurd hI3 (by simp; omega)); replace i4 := cell_on i4 hb4; skip)
        | (refine wpList_alloc_box rfl rfl ?_; simp only [Act.put, List.setIfInBounds_toArray, List.set_cons_zero, List.set_cons_succ])
        | (refine wpList_store_look rfl _ _ rfl _ rfl rfl (by (first | with_reducible assumption | (simp only [List.length_set]; with_reducible assumption) | exact Z25_len)) (fun ob hob => by (simp [look_alloc, look_setRow, look_drew, look_drewN, look_setCell, Nat.add_assoc] at hob; subst hob; exact ⟨_, rfl, by (first | with_reducible assumption | (simp only [List.length_set]; with_reducible assumption) | exact Z25_len)⟩)) (fun w2 hw2 => ?_); simp [row_alloc_same, row_alloc_old] at hw2; subst hw2; simp only [Act.put, List.setIfInBounds_toArray, List.set_cons_zero, List.set_cons_succ])
        | (refine wpList_load_look rfl _ rfl _ rfl (fun ob hob => ?_); simp [look_alloc, look_setRow, look_drew, look_drewN, look_setCell, Nat.add_assoc, ng, ng'] at hob; subst hob; refine ⟨_, rfl, by (first | with_reducible assumption | (simp only [List.length_set]; with_reducible assumption) | exact Z25_len), ?_⟩; simp only [Act.put, List.setIfInBounds_toArray, List.set_cons_zero, List.set_cons_succ]))
      have hP1 := hPl
      have hgI : ¬ (⟨g, t, none⟩ : Addr).block = w.heap.size := hgJ
      have hC1 := hP1.1
      have hl1 := hC1.1
      obtain ⟨hkn, hpg⟩ := kern_facts hP1
      have e16 := hP1.2.2.1
      have hB4 := below_step b3 hb4
      have hB5 : Below w.heap.size w (w4.alloc (.cells (cw L).toArray 32)) := hB4.alloc hB4.size _
      have sC : lk (w4.alloc (.cells (cw L).toArray 32)) w4.heap.size = some (.cells (cw L).toArray 32 (0, 0)) := by rw [look_alloc, if_pos rfl]
      have hs5 : w4.heap.size < (w4.alloc (.cells (cw L).toArray 32)).heap.size := by simp
      have hO5 : Own (w4.alloc (.cells (cw L).toArray 32)) g l := ho4.on (by (repeat' (first | with_reducible exact Below.refl _ _ | with_reducible assumption | with_reducible apply below_drewN | with_reducible apply Below.drew | with_reducible apply Below.setCell | with_reducible apply Below.alloc | (simp; done) | omega | (simp; omega))))
      replace i4 : (w4.alloc (.cells (cw L).toArray 32)).cell? ⟨w.heap.size, 4, none⟩ = some (.int .i32 m) := cell_on i4 (by (repeat' (first | with_reducible exact Below.refl _ _ | with_reducible assumption | with_reducible apply below_drewN | with_reducible apply Below.drew | with_reducible apply Below.setCell | with_reducible apply Below.alloc | (simp; done) | omega | (simp; omega))))
      obtain ⟨⟨p1, p2, p3⟩, q1', q2', q3'⟩ := br_pure hP1 q1 q0 T T0 T1
      have hopp := tkn_opp hev.out (wd L 1) (wd L 2)
      have hl2 : (l.set t Y).length = 128 := by rw [List.length_set]; exact hl
      have hu2 : U32 (l.set t Y) := hu.set t Y0 Y1
      have eX : wd l (pc / 4).toNat = X := hwd
      have eY : wd (l.set t Y) (pc / 4).toNat = Y := by rw [ht, Int.toNat_natCast, wd_set _ _ _ _ (by omega), if_pos rfl]
      have HE1 := (fun W (hM : Mem W (some ⟨g, 0, none⟩) 128 c4 l) => exec_np L (some ⟨g, 0, none⟩) 128 c4 l o 1 2 0 m X 1 W hC1 hM hpg (by rw [e16]; exact q4) (by rw [e16]; exact ok128 q0 q1 q4) (by rw [e16]; exact eX) X0 X1 HXF.out.1 HXF.out.2.1 HXF.out.2.2.1 HXF.out.2.2.2.1 HXF.out.2.2.2.2.1 HXF.out.2.2.2.2.2 rfl (by omega) (by omega) (by omega) (by omega) (by omega) (if tkn o (wd L 1) (wd L 2) = true then (L).set 16 T else advL L) (by split; exact p1; exact q1') (fun W => by rw [← hTK.out, ← e16]; exact step_br L o 1 2 0 m 1 2 W hC1 rfl (by omega) rfl (by omega) (by omega) (by omega) (by omega)))
      have HE2 := (fun W S2 c2 (hM : Mem W S2 128 c2 (l.set t Y)) => exec_np L S2 128 c2 (l.set t Y) (o + 1) 1 2 0 m Y 1 W hC1 hM hpg (by rw [e16]; exact q4) (by rw [e16]; exact ok128 q0 q1 q4) (by rw [e16]; exact eY) Y0 Y1 HYF.out.1 HYF.out.2.1 HYF.out.2.2.1 HYF.out.2.2.2.1 HYF.out.2.2.2.2.1 HYF.out.2.2.2.2.2 rfl (by omega) (by omega) (by omega) (by omega) (by omega) (if tkn (o + 1) (wd L 1) (wd L 2) = true then (L).set 16 T else advL L) (by split; exact p1; exact q1') (fun W => by rw [← hTK.out, ← e16]; exact step_br L (o + 1) 1 2 0 m 1 2 W hC1 rfl (by omega) rfl (by omega) (by omega) (by omega) (by omega)))
      rw [eff_zero (by omega)] at HE1 HE2
      rw [hopp] at HE2
      generalize tkn o (wd L 1) (wd L 2) = tk at HE1 HE2
      generalize (L).set 16 T = RT at *
      generalize advL L = RA at *
      obtain ⟨Ra, Rb, hRa, hRb, la, lb, xa, xb, hfin⟩ : ∃ Ra Rb : List Int, Hid ((if tk = true then RT else RA) = Ra) ∧ Hid ((if (!tk) = true then RT else RA) = Rb) ∧ Ra.length = 25 ∧ Rb.length = 25 ∧ (∀ i, i < 16 → wd Ra i = wd L i) ∧ (∀ i, i < 16 → wd Rb i = wd L i) ∧ Hid ((wd Ra 16 = T ∧ wd Rb 16 = pc + 4) ∨ (wd Ra 16 = pc + 4 ∧ wd Rb 16 = T)) := by
        cases tk
        · exact ⟨RA, RT, rfl, rfl, q1', p1, q3', p3, .inr ⟨q2', p2⟩⟩
        · exact ⟨RT, RA, rfl, rfl, p1, q1', p3, q3', .inl ⟨p2, q2'⟩⟩
      rw [hRa.out] at HE1
      rw [hRb.out] at HE2
      replace HE1 := Lib.hid HE1
      replace HE2 := Lib.hid HE2
      clear hRa hRb p1 p2 p3 q1' q2' q3'
      clear hopp
      clear hP1 hkn hpg e16 ho4 hB4 b3 hb4 hwd
      generalize World.alloc w4 _ = W5 at *
      generalize w4.heap.size = gC at *
      refine (HE1.out _ (hO5.mem hl hc4 (by omega) hu)).mono ?_
      rintro e w6 ⟨⟨S6, c6, rfl, hm6, hf6⟩, hb6⟩
      have sC6 := look_on sC hb6 hs5
      have hO6 := hO5.on hb6
      have bel := below_step hB5 hb6
      have i6 := cell_on i4 hb6
      have hgC6 : gC < w6.heap.size := Nat.lt_of_lt_of_le hs5 hb6.size
      have hg6 := hO6.lt
      have hcq := hO6.cell (i := t) (by omega)
      have hfq := hO6.free t
      clear hm6 hf6 hb6
      have ng0 : ¬ g = w6.heap.size := by omega
      have ng0' : ¬ w6.heap.size = g := by omega
      have ng1 : ¬ gC = w6.heap.size := by omega
      have ng1' : ¬ w6.heap.size = gC := by omega
      have ng2 : ¬ g = w6.heap.size + 1 := by omega
      have ng3 : ¬ gC = w6.heap.size + 1 := by omega
      go_wp2_with (first
        | (refine wpList_alloc_box rfl rfl ?_; simp only [Act.put, List.setIfInBounds_toArray, List.set_cons_zero, List.set_cons_succ])
        | (refine wpList_store_look rfl _ _ rfl _ rfl rfl (by (first | with_reducible assumption | (simp only [List.length_set]; with_reducible assumption) | exact Z25_len)) (fun ob hob => by (simp [look_alloc, look_setRow, look_drew, look_drewN, look_setCell, Nat.add_assoc] at hob; subst hob; exact ⟨_, rfl, by (first | with_reducible assumption | (simp only [List.length_set]; with_reducible assumption) | exact Z25_len)⟩)) (fun w2 hw2 => ?_); simp [row_alloc_same, row_alloc_old] at hw2; subst hw2; simp only [Act.put, List.setIfInBounds_toArray, List.set_cons_zero, List.set_cons_succ])
        | (refine wpList_load_look rfl _ rfl _ rfl (fun ob hob => ?_); simp [look_alloc, look_setRow, look_drew, look_drewN, look_setCell, Nat.add_assoc, sC6, ng, ng', ng0, ng0', ng1, ng1', ng2, ng3] at hob; subst hob; refine ⟨_, rfl, hl1, ?_⟩; simp only [Act.put, List.setIfInBounds_toArray, List.set_cons_zero, List.set_cons_succ]))
      have hgw : w.heap.size ≤ g := by have := hg; omega
      have hO7 : Own (((w6.setCell ⟨g, t, none⟩ (.int .u32 Y)).alloc (.cells (cw Ra).toArray 32)).alloc (.cells #[.int .i64 0, .int .i64 0, .int .i64 0, .int .u32 0] 37)) g (l.set t Y) := (hO6.set (by omega) Y).on (by (repeat' (first | with_reducible exact Below.refl _ _ | with_reducible assumption | with_reducible apply below_drewN | with_reducible apply Below.drew | with_reducible apply Below.setCell | with_reducible apply Below.alloc | (simp; done) | omega | (simp; omega))))
      have hb7 : Below w.heap.size w (w6.setCell ⟨g, t, none⟩ (.int .u32 Y)) := bel.setCell hgw _
      have hB7 : Below w.heap.size w (((w6.setCell ⟨g, t, none⟩ (.int .u32 Y)).alloc (.cells (cw Ra).toArray 32)).alloc (.cells #[.int .i64 0, .int .i64 0, .int .i64 0, .int .u32 0] 37)) := (hb7.alloc hb7.size _).alloc (by have := hb7.size; simp at this ⊢; omega) _
      have sC7 : lk (((w6.setCell ⟨g, t, none⟩ (.int .u32 Y)).alloc (.cells (cw Ra).toArray 32)).alloc (.cells #[.int .i64 0, .int .i64 0, .int .i64 0, .int .u32 0] 37)) gC = some (.cells (cw L).toArray 32 (0, 0)) := by simp [look_alloc, look_setCell, sC6, ng, ng', ng1, ng3]
      have sA7 : lk (((w6.setCell ⟨g, t, none⟩ (.int .u32 Y)).alloc (.cells (cw Ra).toArray 32)).alloc (.cells #[.int .i64 0, .int .i64 0, .int .i64 0, .int .u32 0] 37)) w6.heap.size = some (.cells (cw Ra).toArray 32 (0, 0)) := by simp [look_alloc]
      have i7 : (((w6.setCell ⟨g, t, none⟩ (.int .u32 Y)).alloc (.cells (cw Ra).toArray 32)).alloc (.cells #[.int .i64 0, .int .i64 0, .int .i64 0, .int .u32 0] 37)).cell? ⟨w.heap.size, 4, none⟩ = some (.int .i32 m) := cell_on (w := w6.setCell ⟨g, t, none⟩ (.int .u32 Y)) (by rw [World.cell?_setCell_far _ _ _ _ hgI]; exact i6) (by (repeat' (first | with_reducible exact Below.refl _ _ | with_reducible assumption | with_reducible apply below_drewN | with_reducible apply Below.drew | with_reducible apply Below.setCell | with_reducible apply Below.alloc | (simp; done) | omega | (simp; omega))))
      have hs7 : w6.heap.size < (((w6.setCell ⟨g, t, none⟩ (.int .u32 Y)).alloc (.cells (cw Ra).toArray 32)).alloc (.cells #[.int .i64 0, .int .i64 0, .int .i64 0, .int .u32 0] 37)).heap.size := by simp <;> omega
      clear hO6 hb7 sC6 i6 hcq hfq bel HE1 hO5 hB5 i4 sC hs5 hg6
      generalize World.alloc (World.alloc (World.setCell w6 _ _) _) _ = W7 at *
      refine (HE2.out _ _ _ (hO7.mem hl2 hc4 (by omega) hu2)).mono ?_
      rintro e w8 ⟨⟨S8, c8, rfl, hm8, hf8⟩, hb8⟩
      have sC8 := look_on sC7 hb8 (by omega)
      have sA8 := look_on sA7 hb8 hs7
      have i8 := cell_on i7 hb8
      have bel := below_step hB7 hb8
      have hs8 : w6.heap.size < w8.heap.size := Nat.lt_of_lt_of_le hs7 hb8.size
      clear hm8 hf8 hb8 HE2 hO7 sC7 sA7 i7 hB7 hs7
      have CA : w8.cell? ⟨w6.heap.size, 16, none⟩ = some (.int .u32 (wd Ra 16)) := (cell_lk sA8 16).trans (by simpa using cw_at la (show 16 < 25 by omega))
      have XA : x16 Ra = x16 L := x16_eq la hl1 xa
      have XB : x16 Rb = x16 L := x16_eq lb hl1 xb
      have CB := cw_at lb (show 16 < 25 by omega)
      have na : ¬ w6.heap.size = w8.heap.size := by omega
      have na' : ¬ w8.heap.size = w6.heap.size := by omega
      have nc : ¬ gC = w8.heap.size := by omega
      have nc' : ¬ w8.heap.size = gC := by omega
      have ni : ¬ w.heap.size = w8.heap.size := by have := block_of i8; simp at this; omega
      have ni' : ¬ w8.heap.size = w.heap.size := by omega
      have ni2 : ¬ w.heap.size = w8.heap.size + 1 := by have := block_of i8; simp at this; omega
      have na2 : ¬ w6.heap.size = w8.heap.size + 1 := by omega
      have nc2 : ¬ gC = w8.heap.size + 1 := by omega
      have y8 : ((w8.alloc (.cells (cw Rb).toArray 32)).alloc (.cells #[.int .i64 0, .int .i64 0, .int .i64 0, .int .u32 0] 37)).cell? ⟨w.heap.size, 4, none⟩ = some (.int .i32 m) := cell_on i8 (by (repeat' (first | with_reducible exact Below.refl _ _ | with_reducible assumption | with_reducible apply below_drewN | with_reducible apply Below.drew | with_reducible apply Below.setCell | with_reducible apply Below.alloc | (simp; done) | omega | (simp; omega))))
      clear F1 F2 F3 xa xb
      rcases hfin.out with ⟨f1, f2⟩ | ⟨f1, f2⟩
      all_goals
        rw [f1] at CA
        rw [f2] at CB
        go_wp2_with (first
          | go_skip
          | (refine wpList_alloc_box rfl rfl ?_; simp only [Act.put, List.setIfInBounds_toArray, List.set_cons_zero, List.set_cons_succ])
          | (refine wpList_store_look rfl _ _ rfl _ rfl rfl (by (first | with_reducible assumption | (simp only [List.length_set]; with_reducible assumption) | exact Z25_len)) (fun ob hob => by (simp [look_alloc, look_setRow, look_drew, look_drewN, look_setCell, Nat.add_assoc] at hob; subst hob; exact ⟨_, rfl, by (first | with_reducible assumption | (simp only [List.length_set]; with_reducible assumption) | exact Z25_len)⟩)) (fun w2 hw2 => ?_); simp [row_alloc_same, row_alloc_old] at hw2; subst hw2; simp only [Act.put, List.setIfInBounds_toArray, List.set_cons_zero, List.set_cons_succ])
          | (refine wpList_load16 rfl _ rfl _ rfl (fun ob hob => ?_); simp [look_alloc, look_setRow, look_drew, look_drewN, look_setCell, Nat.add_assoc, sA8, sC8, na, na', nc, nc', na2, nc2] at hob; subst hob; refine ⟨_, rfl, by assumption, ?_⟩; simp only [Act.put, List.setIfInBounds_toArray, List.set_cons_zero, List.set_cons_succ])
          | (refine wpList_eql16 rfl _ _ rfl rfl rfl (by assumption) (by assumption) ?_; simp only [Act.put, List.setIfInBounds_toArray, List.set_cons_zero, List.set_cons_succ])
          | (go_at_call 15; refine (HAW.out _).mono ?_; rintro e w9 ⟨rfl, hb9⟩))
        go_ret
        exact ⟨rfl, below_step (below_step bel (by (repeat' (first | with_reducible exact Below.refl _ _ | with_reducible assumption | with_reducible apply below_drewN | with_reducible apply Below.drew | with_reducible apply Below.setCell | with_reducible apply Below.alloc | (simp; done) | omega | (simp; omega))))) hb9⟩
    · go_enter Tryd.func5, Tryd.ntmps5
      go_wp2_with (first
        | (go_at_call 17; (with_reducible refine (HR1.out _).mono ?_); rintro e w1 ⟨rfl, rfl⟩)
        | (go_at_call 17; (with_reducible refine (HR2.out _).mono ?_); rintro e w1 ⟨rfl, rfl⟩)
        | (go_at_call 9; (with_reducible refine (HX.out _).mono ?_); rintro e w2 ⟨rfl, hb2⟩; have b2 : Below w.heap.size w w2 := Below.trans (by (repeat' (first | with_reducible exact Below.refl _ _ | with_reducible assumption | with_reducible apply below_drewN | with_reducible apply Below.drew | with_reducible apply Below.setCell | with_reducible apply Below.alloc | (simp; done) | omega | (simp; omega)))) (hb2.mono (by simp <;> omega)); have i4 := cell_on (p := ⟨w.heap.size, 4, none⟩) (v := .int .i32 m) (by simp) hb2; have j0 := cell_on (p := ⟨w.heap.size + 1, 0, none⟩) (v := .int .i64 (o + 1)) (by simp) hb2; have j1 := cell_on (p := ⟨w.heap.size + 1, 1, none⟩) (v := .int .i64 1) (by simp) hb2; have j2 := cell_on (p := ⟨w.heap.size + 1, 2, none⟩) (v := .int .i64 2) (by simp) hb2; have j3 := cell_on (p := ⟨w.heap.size + 1, 3, none⟩) (v := .int .i64 0) (by simp) hb2; have j4 := cell_on (p := ⟨w.heap.size + 1, 4, none⟩) (v := .int .i32 m) (by simp) hb2; clear hb2)
        | (go_at_call 9; (with_reducible refine (HY.out _).mono ?_); rintro e w3 ⟨rfl, hb3⟩; have b3 := below_step b2 hb3; replace i4 := cell_on i4 hb3; clear hb3 b2)
        | (go_at_call 11; (with_reducible refine (HPL.out _ (HZ.out.on b3)).mono ?_); rintro e w4 ⟨⟨L, g, c4, l, rfl, hc4, hPl, hl, hu, hwd, ho4, hg⟩, hb4⟩; have hL := hPl.1.1; have hgl := ho4.lt; have ng : ¬ g = w4.heap.size := (by omega); have ng' : ¬ w4.heap.size = g := (by omega); have hI3 := block_of i4; have hgJ : ¬ g = w.heap.size := (fun e => by subst e; exact absurd hI3 (by simp; omega)); replace i4 := cell_on i4 hb4; skip)
        | (refine wpList_alloc_box rfl rfl ?_; simp only [Act.put, List.setIfInBounds_toArray, List.set_cons_zero, List.set_cons_succ])
        | (refine wpList_store_look rfl _ _ rfl _ rfl rfl (by (first | with_reducible assumption | (simp only [List.length_set]; with_reducible assumption) | exact Z25_len)) (fun ob hob => by (simp [look_alloc, look_setRow, look_drew, look_drewN, look_setCell, Nat.add_assoc] at hob; subst hob; exact ⟨_, rfl, by (first | with_reducible assumption | (simp only [List.length_set]; with_reducible assumption) | exact Z25_len)⟩)) (fun w2 hw2 => ?_); simp [row_alloc_same, row_alloc_old] at hw2; subst hw2; simp only [Act.put, List.setIfInBounds_toArray, List.set_cons_zero, List.set_cons_succ])
        | (refine wpList_load_look rfl _ rfl _ rfl (fun ob hob => ?_); simp [look_alloc, look_setRow, look_drew, look_drewN, look_setCell, Nat.add_assoc, ng, ng'] at hob; subst hob; refine ⟨_, rfl, by (first | with_reducible assumption | (simp only [List.length_set]; with_reducible assumption) | exact Z25_len), ?_⟩; simp only [Act.put, List.setIfInBounds_toArray, List.set_cons_zero, List.set_cons_succ]))
      have hP1 := hPl
      have hgI : ¬ (⟨g, t, none⟩ : Addr).block = w.heap.size := hgJ
      have hC1 := hP1.1
      have hl1 := hC1.1
      obtain ⟨hkn, hpg⟩ := kern_facts hP1
      have e16 := hP1.2.2.1
      have hB4 := below_step b3 hb4
      have hB5 : Below w.heap.size w (w4.alloc (.cells (cw L).toArray 32)) := hB4.alloc hB4.size _
      have sC : lk (w4.alloc (.cells (cw L).toArray 32)) w4.heap.size = some (.cells (cw L).toArray 32 (0, 0)) := by rw [look_alloc, if_pos rfl]
      have hs5 : w4.heap.size < (w4.alloc (.cells (cw L).toArray 32)).heap.size := by simp
      have hO5 : Own (w4.alloc (.cells (cw L).toArray 32)) g l := ho4.on (by (repeat' (first | with_reducible exact Below.refl _ _ | with_reducible assumption | with_reducible apply below_drewN | with_reducible apply Below.drew | with_reducible apply Below.setCell | with_reducible apply Below.alloc | (simp; done) | omega | (simp; omega))))
      replace i4 : (w4.alloc (.cells (cw L).toArray 32)).cell? ⟨w.heap.size, 4, none⟩ = some (.int .i32 m) := cell_on i4 (by (repeat' (first | with_reducible exact Below.refl _ _ | with_reducible assumption | with_reducible apply below_drewN | with_reducible apply Below.drew | with_reducible apply Below.setCell | with_reducible apply Below.alloc | (simp; done) | omega | (simp; omega))))
      obtain ⟨⟨p1, p2, p3⟩, q1', q2', q3'⟩ := br_pure hP1 q1 q0 T T0 T1
      have hopp := tkn_opp hev.out (wd L 1) (wd L 2)
      have hl2 : (l.set t Y).length = 128 := by rw [List.length_set]; exact hl
      have hu2 : U32 (l.set t Y) := hu.set t Y0 Y1
      have eX : wd l (pc / 4).toNat = X := hwd
      have eY : wd (l.set t Y) (pc / 4).toNat = Y := by rw [ht, Int.toNat_natCast, wd_set _ _ _ _ (by omega), if_pos rfl]
      have HE1 := (fun W (hM : Mem W (some ⟨g, 0, none⟩) 128 c4 l) => exec_np L (some ⟨g, 0, none⟩) 128 c4 l o 1 2 0 m X 1 W hC1 hM hpg (by rw [e16]; exact q4) (by rw [e16]; exact ok128 q0 q1 q4) (by rw [e16]; exact eX) X0 X1 HXF.out.1 HXF.out.2.1 HXF.out.2.2.1 HXF.out.2.2.2.1 HXF.out.2.2.2.2.1 HXF.out.2.2.2.2.2 rfl (by omega) (by omega) (by omega) (by omega) (by omega) (if tkn o (wd L 1) (wd L 2) = true then (L).set 16 T else advL L) (by split; exact p1; exact q1') (fun W => by rw [← hTK.out, ← e16]; exact step_br L o 1 2 0 m 1 2 W hC1 rfl (by omega) rfl (by omega) (by omega) (by omega) (by omega)))
      have HE2 := (fun W S2 c2 (hM : Mem W S2 128 c2 (l.set t Y)) => exec_np L S2 128 c2 (l.set t Y) (o + 1) 1 2 0 m Y 1 W hC1 hM hpg (by rw [e16]; exact q4) (by rw [e16]; exact ok128 q0 q1 q4) (by rw [e16]; exact eY) Y0 Y1 HYF.out.1 HYF.out.2.1 HYF.out.2.2.1 HYF.out.2.2.2.1 HYF.out.2.2.2.2.1 HYF.out.2.2.2.2.2 rfl (by omega) (by omega) (by omega) (by omega) (by omega) (if tkn (o + 1) (wd L 1) (wd L 2) = true then (L).set 16 T else advL L) (by split; exact p1; exact q1') (fun W => by rw [← hTK.out, ← e16]; exact step_br L (o + 1) 1 2 0 m 1 2 W hC1 rfl (by omega) rfl (by omega) (by omega) (by omega) (by omega)))
      rw [eff_zero (by omega)] at HE1 HE2
      rw [hopp] at HE2
      generalize tkn o (wd L 1) (wd L 2) = tk at HE1 HE2
      generalize (L).set 16 T = RT at *
      generalize advL L = RA at *
      obtain ⟨Ra, Rb, hRa, hRb, la, lb, xa, xb, hfin⟩ : ∃ Ra Rb : List Int, Hid ((if tk = true then RT else RA) = Ra) ∧ Hid ((if (!tk) = true then RT else RA) = Rb) ∧ Ra.length = 25 ∧ Rb.length = 25 ∧ (∀ i, i < 16 → wd Ra i = wd L i) ∧ (∀ i, i < 16 → wd Rb i = wd L i) ∧ Hid ((wd Ra 16 = T ∧ wd Rb 16 = pc + 4) ∨ (wd Ra 16 = pc + 4 ∧ wd Rb 16 = T)) := by
        cases tk
        · exact ⟨RA, RT, rfl, rfl, q1', p1, q3', p3, .inr ⟨q2', p2⟩⟩
        · exact ⟨RT, RA, rfl, rfl, p1, q1', p3, q3', .inl ⟨p2, q2'⟩⟩
      rw [hRa.out] at HE1
      rw [hRb.out] at HE2
      replace HE1 := Lib.hid HE1
      replace HE2 := Lib.hid HE2
      clear hRa hRb p1 p2 p3 q1' q2' q3'
      clear hopp
      clear hP1 hkn hpg e16 ho4 hB4 b3 hb4 hwd
      generalize World.alloc w4 _ = W5 at *
      generalize w4.heap.size = gC at *
      refine (HE1.out _ (hO5.mem hl hc4 (by omega) hu)).mono ?_
      rintro e w6 ⟨⟨S6, c6, rfl, hm6, hf6⟩, hb6⟩
      have sC6 := look_on sC hb6 hs5
      have hO6 := hO5.on hb6
      have bel := below_step hB5 hb6
      have i6 := cell_on i4 hb6
      have hgC6 : gC < w6.heap.size := Nat.lt_of_lt_of_le hs5 hb6.size
      have hg6 := hO6.lt
      have hcq := hO6.cell (i := t) (by omega)
      have hfq := hO6.free t
      clear hm6 hf6 hb6
      have ng0 : ¬ g = w6.heap.size := by omega
      have ng0' : ¬ w6.heap.size = g := by omega
      have ng1 : ¬ gC = w6.heap.size := by omega
      have ng1' : ¬ w6.heap.size = gC := by omega
      have ng2 : ¬ g = w6.heap.size + 1 := by omega
      have ng3 : ¬ gC = w6.heap.size + 1 := by omega
      go_wp2_with (first
        | (refine wpList_alloc_box rfl rfl ?_; simp only [Act.put, List.setIfInBounds_toArray, List.set_cons_zero, List.set_cons_succ])
        | (refine wpList_store_look rfl _ _ rfl _ rfl rfl (by (first | with_reducible assumption | (simp only [List.length_set]; with_reducible assumption) | exact Z25_len)) (fun ob hob => by (simp [look_alloc, look_setRow, look_drew, look_drewN, look_setCell, Nat.add_assoc] at hob; subst hob; exact ⟨_, rfl, by (first | with_reducible assumption | (simp only [List.length_set]; with_reducible assumption) | exact Z25_len)⟩)) (fun w2 hw2 => ?_); simp [row_alloc_same, row_alloc_old] at hw2; subst hw2; simp only [Act.put, List.setIfInBounds_toArray, List.set_cons_zero, List.set_cons_succ])
        | (refine wpList_load_look rfl _ rfl _ rfl (fun ob hob => ?_); simp [look_alloc, look_setRow, look_drew, look_drewN, look_setCell, Nat.add_assoc, sC6, ng, ng', ng0, ng0', ng1, ng1', ng2, ng3] at hob; subst hob; refine ⟨_, rfl, hl1, ?_⟩; simp only [Act.put, List.setIfInBounds_toArray, List.set_cons_zero, List.set_cons_succ]))
      have hgw : w.heap.size ≤ g := by have := hg; omega
      have hO7 : Own (((w6.setCell ⟨g, t, none⟩ (.int .u32 Y)).alloc (.cells (cw Ra).toArray 32)).alloc (.cells #[.int .i64 0, .int .i64 0, .int .i64 0, .int .u32 0] 37)) g (l.set t Y) := (hO6.set (by omega) Y).on (by (repeat' (first | with_reducible exact Below.refl _ _ | with_reducible assumption | with_reducible apply below_drewN | with_reducible apply Below.drew | with_reducible apply Below.setCell | with_reducible apply Below.alloc | (simp; done) | omega | (simp; omega))))
      have hb7 : Below w.heap.size w (w6.setCell ⟨g, t, none⟩ (.int .u32 Y)) := bel.setCell hgw _
      have hB7 : Below w.heap.size w (((w6.setCell ⟨g, t, none⟩ (.int .u32 Y)).alloc (.cells (cw Ra).toArray 32)).alloc (.cells #[.int .i64 0, .int .i64 0, .int .i64 0, .int .u32 0] 37)) := (hb7.alloc hb7.size _).alloc (by have := hb7.size; simp at this ⊢; omega) _
      have sC7 : lk (((w6.setCell ⟨g, t, none⟩ (.int .u32 Y)).alloc (.cells (cw Ra).toArray 32)).alloc (.cells #[.int .i64 0, .int .i64 0, .int .i64 0, .int .u32 0] 37)) gC = some (.cells (cw L).toArray 32 (0, 0)) := by simp [look_alloc, look_setCell, sC6, ng, ng', ng1, ng3]
      have sA7 : lk (((w6.setCell ⟨g, t, none⟩ (.int .u32 Y)).alloc (.cells (cw Ra).toArray 32)).alloc (.cells #[.int .i64 0, .int .i64 0, .int .i64 0, .int .u32 0] 37)) w6.heap.size = some (.cells (cw Ra).toArray 32 (0, 0)) := by simp [look_alloc]
      have i7 : (((w6.setCell ⟨g, t, none⟩ (.int .u32 Y)).alloc (.cells (cw Ra).toArray 32)).alloc (.cells #[.int .i64 0, .int .i64 0, .int .i64 0, .int .u32 0] 37)).cell? ⟨w.heap.size, 4, none⟩ = some (.int .i32 m) := cell_on (w := w6.setCell ⟨g, t, none⟩ (.int .u32 Y)) (by rw [World.cell?_setCell_far _ _ _ _ hgI]; exact i6) (by (repeat' (first | with_reducible exact Below.refl _ _ | with_reducible assumption | with_reducible apply below_drewN | with_reducible apply Below.drew | with_reducible apply Below.setCell | with_reducible apply Below.alloc | (simp; done) | omega | (simp; omega))))
      have hs7 : w6.heap.size < (((w6.setCell ⟨g, t, none⟩ (.int .u32 Y)).alloc (.cells (cw Ra).toArray 32)).alloc (.cells #[.int .i64 0, .int .i64 0, .int .i64 0, .int .u32 0] 37)).heap.size := by simp <;> omega
      clear hO6 hb7 sC6 i6 hcq hfq bel HE1 hO5 hB5 i4 sC hs5 hg6
      generalize World.alloc (World.alloc (World.setCell w6 _ _) _) _ = W7 at *
      refine (HE2.out _ _ _ (hO7.mem hl2 hc4 (by omega) hu2)).mono ?_
      rintro e w8 ⟨⟨S8, c8, rfl, hm8, hf8⟩, hb8⟩
      have sC8 := look_on sC7 hb8 (by omega)
      have sA8 := look_on sA7 hb8 hs7
      have i8 := cell_on i7 hb8
      have bel := below_step hB7 hb8
      have hs8 : w6.heap.size < w8.heap.size := Nat.lt_of_lt_of_le hs7 hb8.size
      clear hm8 hf8 hb8 HE2 hO7 sC7 sA7 i7 hB7 hs7
      have CA : w8.cell? ⟨w6.heap.size, 16, none⟩ = some (.int .u32 (wd Ra 16)) := (cell_lk sA8 16).trans (by simpa using cw_at la (show 16 < 25 by omega))
      have XA : x16 Ra = x16 L := x16_eq la hl1 xa
      have XB : x16 Rb = x16 L := x16_eq lb hl1 xb
      have CB := cw_at lb (show 16 < 25 by omega)
      have na : ¬ w6.heap.size = w8.heap.size := by omega
      have na' : ¬ w8.heap.size = w6.heap.size := by omega
      have nc : ¬ gC = w8.heap.size := by omega
      have nc' : ¬ w8.heap.size = gC := by omega
      have ni : ¬ w.heap.size = w8.heap.size := by have := block_of i8; simp at this; omega
      have ni' : ¬ w8.heap.size = w.heap.size := by omega
      have ni2 : ¬ w.heap.size = w8.heap.size + 1 := by have := block_of i8; simp at this; omega
      have na2 : ¬ w6.heap.size = w8.heap.size + 1 := by omega
      have nc2 : ¬ gC = w8.heap.size + 1 := by omega
      have y8 : ((w8.alloc (.cells (cw Rb).toArray 32)).alloc (.cells #[.int .i64 0, .int .i64 0, .int .i64 0, .int .u32 0] 37)).cell? ⟨w.heap.size, 4, none⟩ = some (.int .i32 m) := cell_on i8 (by (repeat' (first | with_reducible exact Below.refl _ _ | with_reducible assumption | with_reducible apply below_drewN | with_reducible apply Below.drew | with_reducible apply Below.setCell | with_reducible apply Below.alloc | (simp; done) | omega | (simp; omega))))
      clear F1 F2 F3 xa xb
      rcases hfin.out with ⟨f1, f2⟩ | ⟨f1, f2⟩
      all_goals
        rw [f1] at CA
        rw [f2] at CB
        go_wp2_with (first
          | go_skip
          | (refine wpList_alloc_box rfl rfl ?_; simp only [Act.put, List.setIfInBounds_toArray, List.set_cons_zero, List.set_cons_succ])
          | (refine wpList_store_look rfl _ _ rfl _ rfl rfl (by (first | with_reducible assumption | (simp only [List.length_set]; with_reducible assumption) | exact Z25_len)) (fun ob hob => by (simp [look_alloc, look_setRow, look_drew, look_drewN, look_setCell, Nat.add_assoc] at hob; subst hob; exact ⟨_, rfl, by (first | with_reducible assumption | (simp only [List.length_set]; with_reducible assumption) | exact Z25_len)⟩)) (fun w2 hw2 => ?_); simp [row_alloc_same, row_alloc_old] at hw2; subst hw2; simp only [Act.put, List.setIfInBounds_toArray, List.set_cons_zero, List.set_cons_succ])
          | (refine wpList_load16 rfl _ rfl _ rfl (fun ob hob => ?_); simp [look_alloc, look_setRow, look_drew, look_drewN, look_setCell, Nat.add_assoc, sA8, sC8, na, na', nc, nc', na2, nc2] at hob; subst hob; refine ⟨_, rfl, by assumption, ?_⟩; simp only [Act.put, List.setIfInBounds_toArray, List.set_cons_zero, List.set_cons_succ])
          | (refine wpList_eql16 rfl _ _ rfl rfl rfl (by assumption) (by assumption) ?_; simp only [Act.put, List.setIfInBounds_toArray, List.set_cons_zero, List.set_cons_succ])
          | (go_at_call 15; refine (HAW.out _).mono ?_; rintro e w9 ⟨rfl, hb9⟩))
        go_ret
        exact ⟨rfl, below_step (below_step bel (by (repeat' (first | with_reducible exact Below.refl _ _ | with_reducible assumption | with_reducible apply below_drewN | with_reducible apply Below.drew | with_reducible apply Below.setCell | with_reducible apply Below.alloc | (simp; done) | omega | (simp; omega))))) hb9⟩
    · obtain ⟨b, off, rfl, hz0⟩ := HZ.out.1 0 hn0
      have hz1 := HZ.out.2 0 hn0
      have hn1 : (0 : Int) < n := by omega
      have hn2 : ¬ n = 0 := by omega
      generalize z 0 = y at *
      go_enter Tryd.func5, Tryd.ntmps5
      go_wp2_with (first
        | (go_at_call 17; (with_reducible refine (HR1.out _).mono ?_); rintro e w1 ⟨rfl, rfl⟩)
        | (go_at_call 17; (with_reducible refine (HR2.out _).mono ?_); rintro e w1 ⟨rfl, rfl⟩)
        | (go_at_call 9; (with_reducible refine (HX.out _).mono ?_); rintro e w2 ⟨rfl, hb2⟩; have b2 : Below w.heap.size w w2 := Below.trans (by (repeat' (first | with_reducible exact Below.refl _ _ | with_reducible assumption | with_reducible apply below_drewN | with_reducible apply Below.drew | with_reducible apply Below.setCell | with_reducible apply Below.alloc | (simp; done) | omega | (simp; omega)))) (hb2.mono (by simp <;> omega)); have i4 := cell_on (p := ⟨w.heap.size, 4, none⟩) (v := .int .i32 m) (by simp) hb2; have j0 := cell_on (p := ⟨w.heap.size + 1, 0, none⟩) (v := .int .i64 (o + 1)) (by simp) hb2; have j1 := cell_on (p := ⟨w.heap.size + 1, 1, none⟩) (v := .int .i64 1) (by simp) hb2; have j2 := cell_on (p := ⟨w.heap.size + 1, 2, none⟩) (v := .int .i64 2) (by simp) hb2; have j3 := cell_on (p := ⟨w.heap.size + 1, 3, none⟩) (v := .int .i64 0) (by simp) hb2; have j4 := cell_on (p := ⟨w.heap.size + 1, 4, none⟩) (v := .int .i32 m) (by simp) hb2; clear hb2)
        | (go_at_call 9; (with_reducible refine (HY.out _).mono ?_); rintro e w3 ⟨rfl, hb3⟩; have b3 := below_step b2 hb3; replace i4 := cell_on i4 hb3; clear hb3 b2)
        | (go_at_call 11; (with_reducible refine (HPL.out _ (HZ.out.on b3)).mono ?_); rintro e w4 ⟨⟨L, g, c4, l, rfl, hc4, hPl, hl, hu, hwd, ho4, hg⟩, hb4⟩; have hL := hPl.1.1; have hgl := ho4.lt; have ng : ¬ g = w4.heap.size := (by omega); have ng' : ¬ w4.heap.size = g := (by omega); have hI3 := block_of i4; have hgJ : ¬ g = w.heap.size := (fun e => by subst e; exact absurd hI3 (by simp; omega)); replace i4 := cell_on i4 hb4; have hZ4 : ∀ o, (World.alloc w4 o).cell? ⟨b, off, none⟩ = some (.int .i64 y) := (fun o => cell_on hz0 ((Below.trans b3 (hb4.mono b3.size)).alloc (Below.trans b3 (hb4.mono b3.size)).size o)))
        | (refine wpList_alloc_box rfl rfl ?_; simp only [Act.put, List.setIfInBounds_toArray, List.set_cons_zero, List.set_cons_succ])
        | (refine wpList_store_look rfl _ _ rfl _ rfl rfl (by (first | with_reducible assumption | (simp only [List.length_set]; with_reducible assumption) | exact Z25_len)) (fun ob hob => by (simp [look_alloc, look_setRow, look_drew, look_drewN, look_setCell, Nat.add_assoc] at hob; subst hob; exact ⟨_, rfl, by (first | with_reducible assumption | (simp only [List.length_set]; with_reducible assumption) | exact Z25_len)⟩)) (fun w2 hw2 => ?_); simp [row_alloc_same, row_alloc_old] at hw2; subst hw2; simp only [Act.put, List.setIfInBounds_toArray, List.set_cons_zero, List.set_cons_succ])
        | (refine wpList_load_look rfl _ rfl _ rfl (fun ob hob => ?_); simp [look_alloc, look_setRow, look_drew, look_drewN, look_setCell, Nat.add_assoc, ng, ng'] at hob; subst hob; refine ⟨_, rfl, by (first | with_reducible assumption | (simp only [List.length_set]; with_reducible assumption) | exact Z25_len), ?_⟩; simp only [Act.put, List.setIfInBounds_toArray, List.set_cons_zero, List.set_cons_succ]))
      have hP1 := hPl.set (k := 2) (v := wd L 1) (by omega) (by omega) (hPl.1.bd 1).1 (hPl.1.bd 1).2
      generalize L.set 2 (wd L 1) = L2 at *
      have hgI : ¬ (⟨g, t, none⟩ : Addr).block = w.heap.size := hgJ
      have hC1 := hP1.1
      have hl1 := hC1.1
      obtain ⟨hkn, hpg⟩ := kern_facts hP1
      have e16 := hP1.2.2.1
      have hB4 := below_step b3 hb4
      have hB5 : Below w.heap.size w (w4.alloc (.cells (cw L2).toArray 32)) := hB4.alloc hB4.size _
      have sC : lk (w4.alloc (.cells (cw L2).toArray 32)) w4.heap.size = some (.cells (cw L2).toArray 32 (0, 0)) := by rw [look_alloc, if_pos rfl]
      have hs5 : w4.heap.size < (w4.alloc (.cells (cw L2).toArray 32)).heap.size := by simp
      have hO5 : Own (w4.alloc (.cells (cw L2).toArray 32)) g l := ho4.on (by (repeat' (first | with_reducible exact Below.refl _ _ | with_reducible assumption | with_reducible apply below_drewN | with_reducible apply Below.drew | with_reducible apply Below.setCell | with_reducible apply Below.alloc | (simp; done) | omega | (simp; omega))))
      replace i4 : (w4.alloc (.cells (cw L2).toArray 32)).cell? ⟨w.heap.size, 4, none⟩ = some (.int .i32 m) := cell_on i4 (by (repeat' (first | with_reducible exact Below.refl _ _ | with_reducible assumption | with_reducible apply below_drewN | with_reducible apply Below.drew | with_reducible apply Below.setCell | with_reducible apply Below.alloc | (simp; done) | omega | (simp; omega))))
      obtain ⟨⟨p1, p2, p3⟩, q1', q2', q3'⟩ := br_pure hP1 q1 q0 T T0 T1
      have hopp := tkn_opp hev.out (wd L2 1) (wd L2 2)
      have hl2 : (l.set t Y).length = 128 := by rw [List.length_set]; exact hl
      have hu2 : U32 (l.set t Y) := hu.set t Y0 Y1
      have eX : wd l (pc / 4).toNat = X := hwd
      have eY : wd (l.set t Y) (pc / 4).toNat = Y := by rw [ht, Int.toNat_natCast, wd_set _ _ _ _ (by omega), if_pos rfl]
      have HE1 := (fun W (hM : Mem W (some ⟨g, 0, none⟩) 128 c4 l) => exec_np L2 (some ⟨g, 0, none⟩) 128 c4 l o 1 2 0 m X 1 W hC1 hM hpg (by rw [e16]; exact q4) (by rw [e16]; exact ok128 q0 q1 q4) (by rw [e16]; exact eX) X0 X1 HXF.out.1 HXF.out.2.1 HXF.out.2.2.1 HXF.out.2.2.2.1 HXF.out.2.2.2.2.1 HXF.out.2.2.2.2.2 rfl (by omega) (by omega) (by omega) (by omega) (by omega) (if tkn o (wd L2 1) (wd L2 2) = true then (L2).set 16 T else advL L2) (by split; exact p1; exact q1') (fun W => by rw [← hTK.out, ← e16]; exact step_br L2 o 1 2 0 m 1 2 W hC1 rfl (by omega) rfl (by omega) (by omega) (by omega) (by omega)))
      have HE2 := (fun W S2 c2 (hM : Mem W S2 128 c2 (l.set t Y)) => exec_np L2 S2 128 c2 (l.set t Y) (o + 1) 1 2 0 m Y 1 W hC1 hM hpg (by rw [e16]; exact q4) (by rw [e16]; exact ok128 q0 q1 q4) (by rw [e16]; exact eY) Y0 Y1 HYF.out.1 HYF.out.2.1 HYF.out.2.2.1 HYF.out.2.2.2.1 HYF.out.2.2.2.2.1 HYF.out.2.2.2.2.2 rfl (by omega) (by omega) (by omega) (by omega) (by omega) (if tkn (o + 1) (wd L2 1) (wd L2 2) = true then (L2).set 16 T else advL L2) (by split; exact p1; exact q1') (fun W => by rw [← hTK.out, ← e16]; exact step_br L2 (o + 1) 1 2 0 m 1 2 W hC1 rfl (by omega) rfl (by omega) (by omega) (by omega) (by omega)))
      rw [eff_zero (by omega)] at HE1 HE2
      rw [hopp] at HE2
      generalize tkn o (wd L2 1) (wd L2 2) = tk at HE1 HE2
      generalize (L2).set 16 T = RT at *
      generalize advL L2 = RA at *
      obtain ⟨Ra, Rb, hRa, hRb, la, lb, xa, xb, hfin⟩ : ∃ Ra Rb : List Int, Hid ((if tk = true then RT else RA) = Ra) ∧ Hid ((if (!tk) = true then RT else RA) = Rb) ∧ Ra.length = 25 ∧ Rb.length = 25 ∧ (∀ i, i < 16 → wd Ra i = wd L2 i) ∧ (∀ i, i < 16 → wd Rb i = wd L2 i) ∧ Hid ((wd Ra 16 = T ∧ wd Rb 16 = pc + 4) ∨ (wd Ra 16 = pc + 4 ∧ wd Rb 16 = T)) := by
        cases tk
        · exact ⟨RA, RT, rfl, rfl, q1', p1, q3', p3, .inr ⟨q2', p2⟩⟩
        · exact ⟨RT, RA, rfl, rfl, p1, q1', p3, q3', .inl ⟨p2, q2'⟩⟩
      rw [hRa.out] at HE1
      rw [hRb.out] at HE2
      replace HE1 := Lib.hid HE1
      replace HE2 := Lib.hid HE2
      clear hRa hRb p1 p2 p3 q1' q2' q3'
      clear hopp
      clear hP1 hkn hpg e16 ho4 hB4 b3 hb4 hwd
      generalize World.alloc w4 _ = W5 at *
      generalize w4.heap.size = gC at *
      refine (HE1.out _ (hO5.mem hl hc4 (by omega) hu)).mono ?_
      rintro e w6 ⟨⟨S6, c6, rfl, hm6, hf6⟩, hb6⟩
      have sC6 := look_on sC hb6 hs5
      have hO6 := hO5.on hb6
      have bel := below_step hB5 hb6
      have i6 := cell_on i4 hb6
      have hgC6 : gC < w6.heap.size := Nat.lt_of_lt_of_le hs5 hb6.size
      have hg6 := hO6.lt
      have hcq := hO6.cell (i := t) (by omega)
      have hfq := hO6.free t
      clear hm6 hf6 hb6
      have ng0 : ¬ g = w6.heap.size := by omega
      have ng0' : ¬ w6.heap.size = g := by omega
      have ng1 : ¬ gC = w6.heap.size := by omega
      have ng1' : ¬ w6.heap.size = gC := by omega
      have ng2 : ¬ g = w6.heap.size + 1 := by omega
      have ng3 : ¬ gC = w6.heap.size + 1 := by omega
      go_wp2_with (first
        | (refine wpList_alloc_box rfl rfl ?_; simp only [Act.put, List.setIfInBounds_toArray, List.set_cons_zero, List.set_cons_succ])
        | (refine wpList_store_look rfl _ _ rfl _ rfl rfl (by (first | with_reducible assumption | (simp only [List.length_set]; with_reducible assumption) | exact Z25_len)) (fun ob hob => by (simp [look_alloc, look_setRow, look_drew, look_drewN, look_setCell, Nat.add_assoc] at hob; subst hob; exact ⟨_, rfl, by (first | with_reducible assumption | (simp only [List.length_set]; with_reducible assumption) | exact Z25_len)⟩)) (fun w2 hw2 => ?_); simp [row_alloc_same, row_alloc_old] at hw2; subst hw2; simp only [Act.put, List.setIfInBounds_toArray, List.set_cons_zero, List.set_cons_succ])
        | (refine wpList_load_look rfl _ rfl _ rfl (fun ob hob => ?_); simp [look_alloc, look_setRow, look_drew, look_drewN, look_setCell, Nat.add_assoc, sC6, ng, ng', ng0, ng0', ng1, ng1', ng2, ng3] at hob; subst hob; refine ⟨_, rfl, hl1, ?_⟩; simp only [Act.put, List.setIfInBounds_toArray, List.set_cons_zero, List.set_cons_succ]))
      have hgw : w.heap.size ≤ g := by have := hg; omega
      have hO7 : Own (((w6.setCell ⟨g, t, none⟩ (.int .u32 Y)).alloc (.cells (cw Ra).toArray 32)).alloc (.cells #[.int .i64 0, .int .i64 0, .int .i64 0, .int .u32 0] 37)) g (l.set t Y) := (hO6.set (by omega) Y).on (by (repeat' (first | with_reducible exact Below.refl _ _ | with_reducible assumption | with_reducible apply below_drewN | with_reducible apply Below.drew | with_reducible apply Below.setCell | with_reducible apply Below.alloc | (simp; done) | omega | (simp; omega))))
      have hb7 : Below w.heap.size w (w6.setCell ⟨g, t, none⟩ (.int .u32 Y)) := bel.setCell hgw _
      have hB7 : Below w.heap.size w (((w6.setCell ⟨g, t, none⟩ (.int .u32 Y)).alloc (.cells (cw Ra).toArray 32)).alloc (.cells #[.int .i64 0, .int .i64 0, .int .i64 0, .int .u32 0] 37)) := (hb7.alloc hb7.size _).alloc (by have := hb7.size; simp at this ⊢; omega) _
      have sC7 : lk (((w6.setCell ⟨g, t, none⟩ (.int .u32 Y)).alloc (.cells (cw Ra).toArray 32)).alloc (.cells #[.int .i64 0, .int .i64 0, .int .i64 0, .int .u32 0] 37)) gC = some (.cells (cw L2).toArray 32 (0, 0)) := by simp [look_alloc, look_setCell, sC6, ng, ng', ng1, ng3]
      have sA7 : lk (((w6.setCell ⟨g, t, none⟩ (.int .u32 Y)).alloc (.cells (cw Ra).toArray 32)).alloc (.cells #[.int .i64 0, .int .i64 0, .int .i64 0, .int .u32 0] 37)) w6.heap.size = some (.cells (cw Ra).toArray 32 (0, 0)) := by simp [look_alloc]
      have i7 : (((w6.setCell ⟨g, t, none⟩ (.int .u32 Y)).alloc (.cells (cw Ra).toArray 32)).alloc (.cells #[.int .i64 0, .int .i64 0, .int .i64 0, .int .u32 0] 37)).cell? ⟨w.heap.size, 4, none⟩ = some (.int .i32 m) := cell_on (w := w6.setCell ⟨g, t, none⟩ (.int .u32 Y)) (by rw [World.cell?_setCell_far _ _ _ _ hgI]; exact i6) (by (repeat' (first | with_reducible exact Below.refl _ _ | with_reducible assumption | with_reducible apply below_drewN | with_reducible apply Below.drew | with_reducible apply Below.setCell | with_reducible apply Below.alloc | (simp; done) | omega | (simp; omega))))
      have hs7 : w6.heap.size < (((w6.setCell ⟨g, t, none⟩ (.int .u32 Y)).alloc (.cells (cw Ra).toArray 32)).alloc (.cells #[.int .i64 0, .int .i64 0, .int .i64 0, .int .u32 0] 37)).heap.size := by simp <;> omega
      clear hO6 hb7 sC6 i6 hcq hfq bel HE1 hO5 hB5 i4 sC hs5 hg6
      generalize World.alloc (World.alloc (World.setCell w6 _ _) _) _ = W7 at *
      refine (HE2.out _ _ _ (hO7.mem hl2 hc4 (by omega) hu2)).mono ?_
      rintro e w8 ⟨⟨S8, c8, rfl, hm8, hf8⟩, hb8⟩
      have sC8 := look_on sC7 hb8 (by omega)
      have sA8 := look_on sA7 hb8 hs7
      have i8 := cell_on i7 hb8
      have bel := below_step hB7 hb8
      have hs8 : w6.heap.size < w8.heap.size := Nat.lt_of_lt_of_le hs7 hb8.size
      clear hm8 hf8 hb8 HE2 hO7 sC7 sA7 i7 hB7 hs7
      have CA : w8.cell? ⟨w6.heap.size, 16, none⟩ = some (.int .u32 (wd Ra 16)) := (cell_lk sA8 16).trans (by simpa using cw_at la (show 16 < 25 by omega))
      have XA : x16 Ra = x16 L2 := x16_eq la hl1 xa
      have XB : x16 Rb = x16 L2 := x16_eq lb hl1 xb
      have CB := cw_at lb (show 16 < 25 by omega)
      have na : ¬ w6.heap.size = w8.heap.size := by omega
      have na' : ¬ w8.heap.size = w6.heap.size := by omega
      have nc : ¬ gC = w8.heap.size := by omega
      have nc' : ¬ w8.heap.size = gC := by omega
      have ni : ¬ w.heap.size = w8.heap.size := by have := block_of i8; simp at this; omega
      have ni' : ¬ w8.heap.size = w.heap.size := by omega
      have ni2 : ¬ w.heap.size = w8.heap.size + 1 := by have := block_of i8; simp at this; omega
      have na2 : ¬ w6.heap.size = w8.heap.size + 1 := by omega
      have nc2 : ¬ gC = w8.heap.size + 1 := by omega
      have y8 : ((w8.alloc (.cells (cw Rb).toArray 32)).alloc (.cells #[.int .i64 0, .int .i64 0, .int .i64 0, .int .u32 0] 37)).cell? ⟨w.heap.size, 4, none⟩ = some (.int .i32 m) := cell_on i8 (by (repeat' (first | with_reducible exact Below.refl _ _ | with_reducible assumption | with_reducible apply below_drewN | with_reducible apply Below.drew | with_reducible apply Below.setCell | with_reducible apply Below.alloc | (simp; done) | omega | (simp; omega))))
      clear F1 F2 F3 xa xb
      rcases hfin.out with ⟨f1, f2⟩ | ⟨f1, f2⟩
      all_goals
        rw [f1] at CA
        rw [f2] at CB
        go_wp2_with (first
          | go_skip
          | (refine wpList_alloc_box rfl rfl ?_; simp only [Act.put, List.setIfInBounds_toArray, List.set_cons_zero, List.set_cons_succ])
          | (refine wpList_store_look rfl _ _ rfl _ rfl rfl (by (first | with_reducible assumption | (simp only [List.length_set]; with_reducible assumption) | exact Z25_len)) (fun ob hob => by (simp [look_alloc, look_setRow, look_drew, look_drewN, look_setCell, Nat.add_assoc] at hob; subst hob; exact ⟨_, rfl, by (first | with_reducible assumption | (simp only [List.length_set]; with_reducible assumption) | exact Z25_len)⟩)) (fun w2 hw2 => ?_); simp [row_alloc_same, row_alloc_old] at hw2; subst hw2; simp only [Act.put, List.setIfInBounds_toArray, List.set_cons_zero, List.set_cons_succ])
          | (refine wpList_load16 rfl _ rfl _ rfl (fun ob hob => ?_); simp [look_alloc, look_setRow, look_drew, look_drewN, look_setCell, Nat.add_assoc, sA8, sC8, na, na', nc, nc', na2, nc2] at hob; subst hob; refine ⟨_, rfl, by assumption, ?_⟩; simp only [Act.put, List.setIfInBounds_toArray, List.set_cons_zero, List.set_cons_succ])
          | (refine wpList_eql16 rfl _ _ rfl rfl rfl (by assumption) (by assumption) ?_; simp only [Act.put, List.setIfInBounds_toArray, List.set_cons_zero, List.set_cons_succ])
          | (go_at_call 15; refine (HAW.out _).mono ?_; rintro e w9 ⟨rfl, hb9⟩))
        go_ret
        exact ⟨rfl, below_step (below_step bel (by (repeat' (first | with_reducible exact Below.refl _ _ | with_reducible assumption | with_reducible apply below_drewN | with_reducible apply Below.drew | with_reducible apply Below.setCell | with_reducible apply Below.alloc | (simp; done) | omega | (simp; omega))))) hb9⟩
    · obtain ⟨b, off, rfl, hz0⟩ := HZ.out.1 0 hn0
      have hz1 := HZ.out.2 0 hn0
      have hn1 : (0 : Int) < n := by omega
      have hn2 : ¬ n = 0 := by omega
      generalize z 0 = y at *
      go_enter Tryd.func5, Tryd.ntmps5
      go_wp2_with (first
        | (go_at_call 17; (with_reducible refine (HR1.out _).mono ?_); rintro e w1 ⟨rfl, rfl⟩)
        | (go_at_call 17; (with_reducible refine (HR2.out _).mono ?_); rintro e w1 ⟨rfl, rfl⟩)
        | (go_at_call 9; (with_reducible refine (HX.out _).mono ?_); rintro e w2 ⟨rfl, hb2⟩; have b2 : Below w.heap.size w w2 := Below.trans (by (repeat' (first | with_reducible exact Below.refl _ _ | with_reducible assumption | with_reducible apply below_drewN | with_reducible apply Below.drew | with_reducible apply Below.setCell | with_reducible apply Below.alloc | (simp; done) | omega | (simp; omega)))) (hb2.mono (by simp <;> omega)); have i4 := cell_on (p := ⟨w.heap.size, 4, none⟩) (v := .int .i32 m) (by simp) hb2; have j0 := cell_on (p := ⟨w.heap.size + 1, 0, none⟩) (v := .int .i64 (o + 1)) (by simp) hb2; have j1 := cell_on (p := ⟨w.heap.size + 1, 1, none⟩) (v := .int .i64 1) (by simp) hb2; have j2 := cell_on (p := ⟨w.heap.size + 1, 2, none⟩) (v := .int .i64 2) (by simp) hb2; have j3 := cell_on (p := ⟨w.heap.size + 1, 3, none⟩) (v := .int .i64 0) (by simp) hb2; have j4 := cell_on (p := ⟨w.heap.size + 1, 4, none⟩) (v := .int .i32 m) (by simp) hb2; clear hb2)
        | (go_at_call 9; (with_reducible refine (HY.out _).mono ?_); rintro e w3 ⟨rfl, hb3⟩; have b3 := below_step b2 hb3; replace i4 := cell_on i4 hb3; clear hb3 b2)
        | (go_at_call 11; (with_reducible refine (HPL.out _ (HZ.out.on b3)).mono ?_); rintro e w4 ⟨⟨L, g, c4, l, rfl, hc4, hPl, hl, hu, hwd, ho4, hg⟩, hb4⟩; have hL := hPl.1.1; have hgl := ho4.lt; have ng : ¬ g = w4.heap.size := (by omega); have ng' : ¬ w4.heap.size = g := (by omega); have hI3 := block_of i4; have hgJ : ¬ g = w.heap.size := (fun e => by subst e; exact absurd hI3 (by simp; omega)); replace i4 := cell_on i4 hb4; have hZ4 : ∀ o, (World.alloc w4 o).cell? ⟨b, off, none⟩ = some (.int .i64 y) := (fun o => cell_on hz0 ((Below.trans b3 (hb4.mono b3.size)).alloc (Below.trans b3 (hb4.mono b3.size)).size o)))
        | (refine wpList_alloc_box rfl rfl ?_; simp only [Act.put, List.setIfInBounds_toArray, List.set_cons_zero, List.set_cons_succ])
        | (refine wpList_store_look rfl _ _ rfl _ rfl rfl (by (first | with_reducible assumption | (simp only [List.length_set]; with_reducible assumption) | exact Z25_len)) (fun ob hob => by (simp [look_alloc, look_setRow, look_drew, look_drewN, look_setCell, Nat.add_assoc] at hob; subst hob; exact ⟨_, rfl, by (first | with_reducible assumption | (simp only [List.length_set]; with_reducible assumption) | exact Z25_len)⟩)) (fun w2 hw2 => ?_); simp [row_alloc_same, row_alloc_old] at hw2; subst hw2; simp only [Act.put, List.setIfInBounds_toArray, List.set_cons_zero, List.set_cons_succ])
        | (refine wpList_load_look rfl _ rfl _ rfl (fun ob hob => ?_); simp [look_alloc, look_setRow, look_drew, look_drewN, look_setCell, Nat.add_assoc, ng, ng'] at hob; subst hob; refine ⟨_, rfl, by (first | with_reducible assumption | (simp only [List.length_set]; with_reducible assumption) | exact Z25_len), ?_⟩; simp only [Act.put, List.setIfInBounds_toArray, List.set_cons_zero, List.set_cons_succ]))
      have hP1 := hPl
      have hgI : ¬ (⟨g, t, none⟩ : Addr).block = w.heap.size := hgJ
      have hC1 := hP1.1
      have hl1 := hC1.1
      obtain ⟨hkn, hpg⟩ := kern_facts hP1
      have e16 := hP1.2.2.1
      have hB4 := below_step b3 hb4
      have hB5 : Below w.heap.size w (w4.alloc (.cells (cw L).toArray 32)) := hB4.alloc hB4.size _
      have sC : lk (w4.alloc (.cells (cw L).toArray 32)) w4.heap.size = some (.cells (cw L).toArray 32 (0, 0)) := by rw [look_alloc, if_pos rfl]
      have hs5 : w4.heap.size < (w4.alloc (.cells (cw L).toArray 32)).heap.size := by simp
      have hO5 : Own (w4.alloc (.cells (cw L).toArray 32)) g l := ho4.on (by (repeat' (first | with_reducible exact Below.refl _ _ | with_reducible assumption | with_reducible apply below_drewN | with_reducible apply Below.drew | with_reducible apply Below.setCell | with_reducible apply Below.alloc | (simp; done) | omega | (simp; omega))))
      replace i4 : (w4.alloc (.cells (cw L).toArray 32)).cell? ⟨w.heap.size, 4, none⟩ = some (.int .i32 m) := cell_on i4 (by (repeat' (first | with_reducible exact Below.refl _ _ | with_reducible assumption | with_reducible apply below_drewN | with_reducible apply Below.drew | with_reducible apply Below.setCell | with_reducible apply Below.alloc | (simp; done) | omega | (simp; omega))))
      obtain ⟨⟨p1, p2, p3⟩, q1', q2', q3'⟩ := br_pure hP1 q1 q0 T T0 T1
      have hopp := tkn_opp hev.out (wd L 1) (wd L 2)
      have hl2 : (l.set t Y).length = 128 := by rw [List.length_set]; exact hl
      have hu2 : U32 (l.set t Y) := hu.set t Y0 Y1
      have eX : wd l (pc / 4).toNat = X := hwd
      have eY : wd (l.set t Y) (pc / 4).toNat = Y := by rw [ht, Int.toNat_natCast, wd_set _ _ _ _ (by omega), if_pos rfl]
      have HE1 := (fun W (hM : Mem W (some ⟨g, 0, none⟩) 128 c4 l) => exec_np L (some ⟨g, 0, none⟩) 128 c4 l o 1 2 0 m X 1 W hC1 hM hpg (by rw [e16]; exact q4) (by rw [e16]; exact ok128 q0 q1 q4) (by rw [e16]; exact eX) X0 X1 HXF.out.1 HXF.out.2.1 HXF.out.2.2.1 HXF.out.2.2.2.1 HXF.out.2.2.2.2.1 HXF.out.2.2.2.2.2 rfl (by omega) (by omega) (by omega) (by omega) (by omega) (if tkn o (wd L 1) (wd L 2) = true then (L).set 16 T else advL L) (by split; exact p1; exact q1') (fun W => by rw [← hTK.out, ← e16]; exact step_br L o 1 2 0 m 1 2 W hC1 rfl (by omega) rfl (by omega) (by omega) (by omega) (by omega)))
      have HE2 := (fun W S2 c2 (hM : Mem W S2 128 c2 (l.set t Y)) => exec_np L S2 128 c2 (l.set t Y) (o + 1) 1 2 0 m Y 1 W hC1 hM hpg (by rw [e16]; exact q4) (by rw [e16]; exact ok128 q0 q1 q4) (by rw [e16]; exact eY) Y0 Y1 HYF.out.1 HYF.out.2.1 HYF.out.2.2.1 HYF.out.2.2.2.1 HYF.out.2.2.2.2.1 HYF.out.2.2.2.2.2 rfl (by omega) (by omega) (by omega) (by omega) (by omega) (if tkn (o + 1) (wd L 1) (wd L 2) = true then (L).set 16 T else advL L) (by split; exact p1; exact q1') (fun W => by rw [← hTK.out, ← e16]; exact step_br L (o + 1) 1 2 0 m 1 2 W hC1 rfl (by omega) rfl (by omega) (by omega) (by omega) (by omega)))
      rw [eff_zero (by omega)] at HE1 HE2
      rw [hopp] at HE2
      generalize tkn o (wd L 1) (wd L 2) = tk at HE1 HE2
      generalize (L).set 16 T = RT at *
      generalize advL L = RA at *
      obtain ⟨Ra, Rb, hRa, hRb, la, lb, xa, xb, hfin⟩ : ∃ Ra Rb : List Int, Hid ((if tk = true then RT else RA) = Ra) ∧ Hid ((if (!tk) = true then RT else RA) = Rb) ∧ Ra.length = 25 ∧ Rb.length = 25 ∧ (∀ i, i < 16 → wd Ra i = wd L i) ∧ (∀ i, i < 16 → wd Rb i = wd L i) ∧ Hid ((wd Ra 16 = T ∧ wd Rb 16 = pc + 4) ∨ (wd Ra 16 = pc + 4 ∧ wd Rb 16 = T)) := by
        cases tk
        · exact ⟨RA, RT, rfl, rfl, q1', p1, q3', p3, .inr ⟨q2', p2⟩⟩
        · exact ⟨RT, RA, rfl, rfl, p1, q1', p3, q3', .inl ⟨p2, q2'⟩⟩
      rw [hRa.out] at HE1
      rw [hRb.out] at HE2
      replace HE1 := Lib.hid HE1
      replace HE2 := Lib.hid HE2
      clear hRa hRb p1 p2 p3 q1' q2' q3'
      clear hopp
      clear hP1 hkn hpg e16 ho4 hB4 b3 hb4 hwd
      generalize World.alloc w4 _ = W5 at *
      generalize w4.heap.size = gC at *
      refine (HE1.out _ (hO5.mem hl hc4 (by omega) hu)).mono ?_
      rintro e w6 ⟨⟨S6, c6, rfl, hm6, hf6⟩, hb6⟩
      have sC6 := look_on sC hb6 hs5
      have hO6 := hO5.on hb6
      have bel := below_step hB5 hb6
      have i6 := cell_on i4 hb6
      have hgC6 : gC < w6.heap.size := Nat.lt_of_lt_of_le hs5 hb6.size
      have hg6 := hO6.lt
      have hcq := hO6.cell (i := t) (by omega)
      have hfq := hO6.free t
      clear hm6 hf6 hb6
      have ng0 : ¬ g = w6.heap.size := by omega
      have ng0' : ¬ w6.heap.size = g := by omega
      have ng1 : ¬ gC = w6.heap.size := by omega
      have ng1' : ¬ w6.heap.size = gC := by omega
      have ng2 : ¬ g = w6.heap.size + 1 := by omega
      have ng3 : ¬ gC = w6.heap.size + 1 := by omega
      go_wp2_with (first
        | (refine wpList_alloc_box rfl rfl ?_; simp only [Act.put, List.setIfInBounds_toArray, List.set_cons_zero, List.set_cons_succ])
        | (refine wpList_store_look rfl _ _ rfl _ rfl rfl (by (first | with_reducible assumption | (simp only [List.length_set]; with_reducible assumption) | exact Z25_len)) (fun ob hob => by (simp [look_alloc, look_setRow, look_drew, look_drewN, look_setCell, Nat.add_assoc] at hob; subst hob; exact ⟨_, rfl, by (first | with_reducible assumption | (simp only [List.length_set]; with_reducible assumption) | exact Z25_len)⟩)) (fun w2 hw2 => ?_); simp [row_alloc_same, row_alloc_old] at hw2; subst hw2; simp only [Act.put, List.setIfInBounds_toArray, List.set_cons_zero, List.set_cons_succ])
        | (refine wpList_load_look rfl _ rfl _ rfl (fun ob hob => ?_); simp [look_alloc, look_setRow, look_drew, look_drewN, look_setCell, Nat.add_assoc, sC6, ng, ng', ng0, ng0', ng1, ng1', ng2, ng3] at hob; subst hob; refine ⟨_, rfl, hl1, ?_⟩; simp only [Act.put, List.setIfInBounds_toArray, List.set_cons_zero, List.set_cons_succ]))
      have hgw : w.heap.size ≤ g := by have := hg; omega
      have hO7 : Own (((w6.setCell ⟨g, t, none⟩ (.int .u32 Y)).alloc (.cells (cw Ra).toArray 32)).alloc (.cells #[.int .i64 0, .int .i64 0, .int .i64 0, .int .u32 0] 37)) g (l.set t Y) := (hO6.set (by omega) Y).on (by (repeat' (first | with_reducible exact Below.refl _ _ | with_reducible assumption | with_reducible apply below_drewN | with_reducible apply Below.drew | with_reducible apply Below.setCell | with_reducible apply Below.alloc | (simp; done) | omega | (simp; omega))))
      have hb7 : Below w.heap.size w (w6.setCell ⟨g, t, none⟩ (.int .u32 Y)) := bel.setCell hgw _
      have hB7 : Below w.heap.size w (((w6.setCell ⟨g, t, none⟩ (.int .u32 Y)).alloc (.cells (cw Ra).toArray 32)).alloc (.cells #[.int .i64 0, .int .i64 0, .int .i64 0, .int .u32 0] 37)) := (hb7.alloc hb7.size _).alloc (by have := hb7.size; simp at this ⊢; omega) _
      have sC7 : lk (((w6.setCell ⟨g, t, none⟩ (.int .u32 Y)).alloc (.cells (cw Ra).toArray 32)).alloc (.cells #[.int .i64 0, .int .i64 0, .int .i64 0, .int .u32 0] 37)) gC = some (.cells (cw L).toArray 32 (0, 0)) := by simp [look_alloc, look_setCell, sC6, ng, ng', ng1, ng3]
      have sA7 : lk (((w6.setCell ⟨g, t, none⟩ (.int .u32 Y)).alloc (.cells (cw Ra).toArray 32)).alloc (.cells #[.int .i64 0, .int .i64 0, .int .i64 0, .int .u32 0] 37)) w6.heap.size = some (.cells (cw Ra).toArray 32 (0, 0)) := by simp [look_alloc]
      have i7 : (((w6.setCell ⟨g, t, none⟩ (.int .u32 Y)).alloc (.cells (cw Ra).toArray 32)).alloc (.cells #[.int .i64 0, .int .i64 0, .int .i64 0, .int .u32 0] 37)).cell? ⟨w.heap.size, 4, none⟩ = some (.int .i32 m) := cell_on (w := w6.setCell ⟨g, t, none⟩ (.int .u32 Y)) (by rw [World.cell?_setCell_far _ _ _ _ hgI]; exact i6) (by (repeat' (first | with_reducible exact Below.refl _ _ | with_reducible assumption | with_reducible apply below_drewN | with_reducible apply Below.drew | with_reducible apply Below.setCell | with_reducible apply Below.alloc | (simp; done) | omega | (simp; omega))))
      have hs7 : w6.heap.size < (((w6.setCell ⟨g, t, none⟩ (.int .u32 Y)).alloc (.cells (cw Ra).toArray 32)).alloc (.cells #[.int .i64 0, .int .i64 0, .int .i64 0, .int .u32 0] 37)).heap.size := by simp <;> omega
      clear hO6 hb7 sC6 i6 hcq hfq bel HE1 hO5 hB5 i4 sC hs5 hg6
      generalize World.alloc (World.alloc (World.setCell w6 _ _) _) _ = W7 at *
      refine (HE2.out _ _ _ (hO7.mem hl2 hc4 (by omega) hu2)).mono ?_
      rintro e w8 ⟨⟨S8, c8, rfl, hm8, hf8⟩, hb8⟩
      have sC8 := look_on sC7 hb8 (by omega)
      have sA8 := look_on sA7 hb8 hs7
      have i8 := cell_on i7 hb8
      have bel := below_step hB7 hb8
      have hs8 : w6.heap.size < w8.heap.size := Nat.lt_of_lt_of_le hs7 hb8.size
      clear hm8 hf8 hb8 HE2 hO7 sC7 sA7 i7 hB7 hs7
      have CA : w8.cell? ⟨w6.heap.size, 16, none⟩ = some (.int .u32 (wd Ra 16)) := (cell_lk sA8 16).trans (by simpa using cw_at la (show 16 < 25 by omega))
      have XA : x16 Ra = x16 L := x16_eq la hl1 xa
      have XB : x16 Rb = x16 L := x16_eq lb hl1 xb
      have CB := cw_at lb (show 16 < 25 by omega)
      have na : ¬ w6.heap.size = w8.heap.size := by omega
      have na' : ¬ w8.heap.size = w6.heap.size := by omega
      have nc : ¬ gC = w8.heap.size := by omega
      have nc' : ¬ w8.heap.size = gC := by omega
      have ni : ¬ w.heap.size = w8.heap.size := by have := block_of i8; simp at this; omega
      have ni' : ¬ w8.heap.size = w.heap.size := by omega
      have ni2 : ¬ w.heap.size = w8.heap.size + 1 := by have := block_of i8; simp at this; omega
      have na2 : ¬ w6.heap.size = w8.heap.size + 1 := by omega
      have nc2 : ¬ gC = w8.heap.size + 1 := by omega
      have y8 : ((w8.alloc (.cells (cw Rb).toArray 32)).alloc (.cells #[.int .i64 0, .int .i64 0, .int .i64 0, .int .u32 0] 37)).cell? ⟨w.heap.size, 4, none⟩ = some (.int .i32 m) := cell_on i8 (by (repeat' (first | with_reducible exact Below.refl _ _ | with_reducible assumption | with_reducible apply below_drewN | with_reducible apply Below.drew | with_reducible apply Below.setCell | with_reducible apply Below.alloc | (simp; done) | omega | (simp; omega))))
      clear F1 F2 F3 xa xb
      rcases hfin.out with ⟨f1, f2⟩ | ⟨f1, f2⟩
      all_goals
        rw [f1] at CA
        rw [f2] at CB
        go_wp2_with (first
          | go_skip
          | (refine wpList_alloc_box rfl rfl ?_; simp only [Act.put, List.setIfInBounds_toArray, List.set_cons_zero, List.set_cons_succ])
          | (refine wpList_store_look rfl _ _ rfl _ rfl rfl (by (first | with_reducible assumption | (simp only [List.length_set]; with_reducible assumption) | exact Z25_len)) (fun ob hob => by (simp [look_alloc, look_setRow, look_drew, look_drewN, look_setCell, Nat.add_assoc] at hob; subst hob; exact ⟨_, rfl, by (first | with_reducible assumption | (simp only [List.length_set]; with_reducible assumption) | exact Z25_len)⟩)) (fun w2 hw2 => ?_); simp [row_alloc_same, row_alloc_old] at hw2; subst hw2; simp only [Act.put, List.setIfInBounds_toArray, List.set_cons_zero, List.set_cons_succ])
          | (refine wpList_load16 rfl _ rfl _ rfl (fun ob hob => ?_); simp [look_alloc, look_setRow, look_drew, look_drewN, look_setCell, Nat.add_assoc, sA8, sC8, na, na', nc, nc', na2, nc2] at hob; subst hob; refine ⟨_, rfl, by assumption, ?_⟩; simp only [Act.put, List.setIfInBounds_toArray, List.set_cons_zero, List.set_cons_succ])
          | (refine wpList_eql16 rfl _ _ rfl rfl rfl (by assumption) (by assumption) ?_; simp only [Act.put, List.setIfInBounds_toArray, List.set_cons_zero, List.set_cons_succ])
          | (go_at_call 15; refine (HAW.out _).mono ?_; rintro e w9 ⟨rfl, hb9⟩))
        go_ret
        exact ⟨rfl, below_step (below_step bel (by (repeat' (first | with_reducible exact Below.refl _ _ | with_reducible assumption | with_reducible apply below_drewN | with_reducible apply Below.drew | with_reducible apply Below.setCell | with_reducible apply Below.alloc | (simp; done) | omega | (simp; omega))))) hb9⟩
theorem branches_row (a0 : Option Addr) (len0 cap0 : Nat) (z0 : List Int) (op k p : Int) (w : World) (w0 : IsRowI w a0 len0 cap0 z0) (w1 : (Lit.int .i64 op).wf = true) (w2 : (Lit.int .i64 k).wf = true) (w3 : (Lit.int .u32 p).wf = true) :
    Calls Tryd.prog 5 #[.slice a0 len0 cap0, .int .i64 op, .int .i64 k, .int .u32 p] w fun e w' => e = .returned (.bool true) ∧ Below w.heap.size w w' := by
  refine branches_core a0 len0 cap0 _ op k p w (row_intsC w0).2 (row_intsC w0).1 (wf_i64 w1).1 (wf_i64 w1).2 (wf_i64 w2).1 (wf_i64 w2).2 (wf_u32 w3).1 (wf_u32 w3).2 ?_
  by_cases h0 : len0 = 0
  · rcases w0 with ⟨ha, -, hc, -⟩ | ⟨x, hx, -⟩
    · exact .inl ⟨h0, ha, hc⟩
    · exact .inr (.inl ⟨h0, x, hx⟩)
  · rcases Bool.eq_false_or_eq_true (bits .and .i64 (z0.getD 0 0) 1 == 1) with h | h
    · exact .inr (.inr (.inl ⟨by omega, h⟩))
    · exact .inr (.inr (.inr ⟨by omega, h⟩))
end Go.Proofs.YtkpboooifkhijaaDoor
