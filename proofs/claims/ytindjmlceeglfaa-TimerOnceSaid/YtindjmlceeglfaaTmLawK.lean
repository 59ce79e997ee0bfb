import Derived.Test.YtindjmlceeglfaaTmLaw
namespace Go.Proofs.Ytindjmlceeglfaa
set_option linter.unusedVariables false
set_option linter.unusedSimpArgs false
open Go.ChangeShapes Go.WideShapes Go.ChangeAt Go.RowKit Go.Proofs.Ytindjmlceeglfaa.Num Go.Proofs.Ytindjmlceeglfaa.Mem
theorem tmM_arm (n : Int) : tmM (decide (n ≠ 0)) n false = true := by
  unfold tmM
  by_cases h : n = 0 <;> simp [h]
theorem tmM_fire {a f : Bool} {d : Int} (h : tmM a d f = true) : tmM false d (a || f) = true := by
  unfold tmM at *
  cases a <;> simp_all
set_option maxHeartbeats 4000000 in
theorem keeps_walk (a : Bool) (d : Int) (f : Bool) (n : Int) (w : World) :
    Calls Try.prog 5 #[.agg #[.bool a, .int .u32 d, .bool f], .int .u32 n] w fun e w' => e = .returned (.bool true) ∧ Below w.heap.size w w' := by
  have HW := Lib.hid awake8
  have HM := Lib.hid (tmay_any a d f)
  by_cases hm : tmM a d f = true
  · have HF := Lib.hid (fire_any a d f)
    have HA := Lib.hid (arm_any a d f n)
    have hu := tmM_fire hm
    have hn := tmM_arm n
    rw [hm] at HM
    clear hm
    obtain ⟨q, hq⟩ : ∃ q, (a || f) = q := ⟨_, rfl⟩
    obtain ⟨p, hp⟩ : ∃ p, decide (n ≠ 0) = p := ⟨_, rfl⟩
    rw [hq] at HF hu
    rw [hp] at HA hn
    have HM1 := Lib.hid (tmay_any p n false)
    have HM2 := Lib.hid (tmay_any false d q)
    have HP := Lib.hid (tpend_any p n false)
    rw [hn] at HM1
    rw [hu] at HM2
    clear hn hu hq hp
    unfold tmV at HM HF HA HM1 HM2 HP
    go_enter Try.func5, Try.ntmps5
    go_wp2_with (first
      | (go_at_call 16; (with_reducible refine (HM.out _).mono ?_); rintro e w1 ⟨rfl, hb1⟩; have k1 : InT w1 w.heap.size a d f := (InT.new _ _ _ _ _).on hb1; have l1 := k1.lt; have e1 : Below w.heap.size w w1 := Below.trans (by (repeat' (first | with_reducible exact Below.refl _ _ | with_reducible assumption | with_reducible apply below_drewN | with_reducible apply Below.drew | with_reducible apply Below.setCell | with_reducible apply Below.alloc | (simp; done) | omega | (simp; omega)))) (hb1.mono (by simp)); clear hb1; have k10 := k1.c0; have k11 := k1.c1; have k12 := k1.c2)
      | (go_at_call 6; (with_reducible refine (HF.out _).mono ?_); rintro e w2 ⟨rfl, hb2⟩; have k2 := k1.on hb2; have e2 := below_stepT e1 hb2; have l2 := k2.lt; clear hb2; have n1 : ¬ w2.heap.size = w.heap.size := (by omega); have m1 : ¬ w.heap.size = w2.heap.size := (by omega); have x := k2.alloc (.cells #[.bool false, .int .u32 d, .bool q] 24); have x0 := x.c0; have x1 := x.c1; have x2 := x.c2; have u := InT.new w2 false q d 24; have bx := e2.alloc (by have := e2.size; omega) (.cells #[.bool false, .int .u32 d, .bool q] 24))
      | (go_at_call 8; (with_reducible refine (HA.out _).mono ?_); rintro e w3 ⟨rfl, hb3⟩; have p3 := x.on hb3; have q3 := u.on hb3; have bb3 := below_stepT bx hb3; clear hb3; have p30 := p3.c0; have p31 := p3.c1; have p32 := p3.c2; have q30 := q3.c0; have q31 := q3.c1; have q32 := q3.c2)
      | (go_at_call 16; (with_reducible refine (HM1.out _).mono ?_); rintro e w4 ⟨rfl, hb4⟩; have p4 := p3.on hb4; have q4 := q3.on hb4; have bb4 := below_stepT bb3 hb4; clear hb4; have p40 := p4.c0; have p41 := p4.c1; have p42 := p4.c2; have q40 := q4.c0; have q41 := q4.c1; have q42 := q4.c2)
      | (go_at_call 16; (with_reducible refine (HM2.out _).mono ?_); rintro e w5 ⟨rfl, hb5⟩; have p5 := p4.on hb5; have q5 := q4.on hb5; have bb5 := below_stepT bb4 hb5; clear hb5; have p50 := p5.c0; have p51 := p5.c1; have p52 := p5.c2; have q50 := q5.c0; have q51 := q5.c1; have q52 := q5.c2)
      | (go_at_call 8; (with_reducible refine (HA.out _).mono ?_); rintro e w6 ⟨rfl, hb6⟩; have p6 := p5.on hb6; have q6 := q5.on hb6; have bb6 := below_stepT bb5 hb6; clear hb6; have p60 := p6.c0; have p61 := p6.c1; have p62 := p6.c2; have q60 := q6.c0; have q61 := q6.c1; have q62 := q6.c2)
      | (go_at_call 14; (with_reducible refine (HP.out _).mono ?_); rintro e w7 ⟨rfl, hb7⟩; have p7 := p6.on hb7; have q7 := q6.on hb7; have bb7 := below_stepT bb6 hb7; clear hb7; have p70 := p7.c0; have p71 := p7.c1; have p72 := p7.c2; have q70 := q7.c0; have q71 := q7.c1; have q72 := q7.c2)
      | (go_at_call 18; (with_reducible refine (HW.out _).mono ?_); rintro e w8 ⟨rfl, hb8⟩; have p8 := p7.on hb8; have q8 := q7.on hb8; have bb8 := below_stepT bb7 hb8; clear hb8; have p80 := p8.c0; have p81 := p8.c1; have p82 := p8.c2; have q80 := q8.c0; have q81 := q8.c1; have q82 := q8.c2))
    all_goals first | (exfalso; omega) | skip
    go_ret
    exact ⟨rfl, bb8⟩
  · have hm' : tmM a d f = false := by simpa using hm
    rw [hm'] at HM
    unfold tmV at HM
    go_enter Try.func5, Try.ntmps5
    go_wp2_with (first
      | (go_at_call 16; (with_reducible refine (HM.out _).mono ?_); rintro e w1 ⟨rfl, hb1⟩; have e1 : Below w.heap.size w w1 := Below.trans (by (repeat' (first | with_reducible exact Below.refl _ _ | with_reducible assumption | with_reducible apply below_drewN | with_reducible apply Below.drew | with_reducible apply Below.setCell | with_reducible apply Below.alloc | (simp; done) | omega | (simp; omega)))) (hb1.mono (by simp)); clear hb1)
      | (go_at_call 18; (with_reducible refine (HW.out _).mono ?_); rintro e w2 ⟨rfl, hb2⟩; have e2 := below_stepT e1 hb2; clear hb2))
    go_ret
    exact ⟨rfl, e2⟩
def IntsU (w : World) (A : Option Addr) (n : Nat) (z : Nat → Int) : Prop := (∀ i, i < n → ∃ b off, A = some ⟨b, off, none⟩ ∧ w.cell? ⟨b, off + i, none⟩ = some (.int .u32 (z i))) ∧ ∀ i, i < n → 0 ≤ z i ∧ z i ≤ 4294967295
theorem IntsU.on {w w' : World} {A : Option Addr} {n : Nat} {z : Nat → Int} (h : IntsU w A n z) (hb : Below w.heap.size w w') : IntsU w' A n z := ⟨fun i hi => by
  obtain ⟨b, off, hA, hc⟩ := h.1 i hi
  exact ⟨b, off, hA, stillD hc hb⟩, h.2⟩
theorem fzT {w w' : World} {g : Nat} {k : Nat} (h : w.frozen? ⟨g, k, none⟩ = false) (hb : Below w.heap.size w w') (hg : g < w.heap.size) : w'.frozen? ⟨g, k, none⟩ = false := by rw [hb.frozen hg]; exact h
set_option maxHeartbeats 4000000 in
theorem once_walk (A : Option Addr) (n c : Nat) (z : Nat → Int) (w : World) (hz : IntsU w A n z) :
    Calls Try.prog 4 #[.slice A n c] w fun e w' => e = .returned (.bool true) ∧ Below w.heap.size w w' := by
  have HW := Lib.hid awake8
  by_cases hs : n ≤ 100
  · have HZ := Lib.hid hz
    clear hz
    have HA0 := Lib.hid (fun W => (arm_any false 0 false 0 W).mono (R' := fun e w' => e = .returned (tmV false 0 false) ∧ Below W.heap.size W w') fun _ _ ⟨h, h'⟩ => ⟨by rw [h]; rfl, h'⟩)
    unfold tmV at HA0
    go_enter Try.func4, Try.ntmps4
    go_wp2_with (go_at_call 8; (with_reducible refine (HA0.out _).mono ?_); rintro e w1 ⟨rfl, hb1⟩)
    all_goals first | (exfalso; omega) | skip
    obtain ⟨g, hg⟩ : ∃ g, w1.heap.size = g := ⟨_, rfl⟩
    have gle : w.heap.size ≤ g := by rw [← hg]; exact hb1.size
    obtain ⟨W, hW⟩ : ∃ W, w1.alloc (.cells #[.bool false, .int .u32 0, .bool false] 24) = W := ⟨_, rfl⟩
    have s : InT W g false 0 false := by rw [← hW, ← hg]; exact InT.new _ _ _ _ _
    have f0 : W.frozen? ⟨g, 0, none⟩ = false := by rw [← hW, ← hg]; simp [go_sem]
    have f1 : W.frozen? ⟨g, 1, none⟩ = false := by rw [← hW, ← hg]; simp [go_sem]
    have f2 : W.frozen? ⟨g, 2, none⟩ = false := by rw [← hW, ← hg]; simp [go_sem]
    have HBW : Below w.heap.size w W := by rw [← hW]; exact hb1.alloc hb1.size _
    rw [hW, hg]
    clear hW hg hb1
    go_loopw [4, 5, 6] (fun am dl i wr => ∃ (k : Nat) (B F : Bool) (D : Int), k ≤ n ∧ i = .int .i64 k ∧ am = .bool B ∧ dl = .int .u32 D ∧ InT wr g B D F ∧ wr.frozen? ⟨g, 0, none⟩ = false ∧ wr.frozen? ⟨g, 1, none⟩ = false ∧ wr.frozen? ⟨g, 2, none⟩ = false ∧ Hid (tmM B D F = true) ∧ 0 ≤ D ∧ D ≤ 4294967295 ∧ Below w.heap.size w wr) (fun _ _ i _ => n - (intOf i).toNat)
    case atStart => exact ⟨0, false, false, 0, by omega, rfl, rfl, rfl, s, f0, f1, f2, rfl, by omega, by omega, HBW⟩
    case round =>
      obtain ⟨k, B, F, D, hk, rfl, rfl, rfl, s, f0, f1, f2, hM, D0, D1, hb⟩ := hrel
      clear HBW HA0
      have hgl := s.lt
      by_cases hlt : k < n
      · obtain ⟨b, off, rfl, hc0⟩ := (HZ.out.on hb).1 k hlt
        obtain ⟨z0, z1⟩ := HZ.out.2 k hlt
        generalize z k = x at hc0 z0 z1
        have s0 := s.c0
        have s1 := s.c1
        have s2 := s.c2
        by_cases hx : (x % 4 == 0) = true
        · have HA := Lib.hid (arm_any B D F (x / 4))
          obtain ⟨X, hX⟩ : ∃ X : Int, x / 4 = X := ⟨_, rfl⟩
          obtain ⟨P, hP⟩ : ∃ P : Bool, decide (X ≠ 0) = P := ⟨_, rfl⟩
          have hm := tmM_arm X
          rw [hX, hP] at HA
          rw [hP] at hm
          unfold tmV at HA
          go_wp2_with (go_at_call 8; (with_reducible refine (HA.out _).mono ?_); rintro e w2 ⟨rfl, hb2⟩; have p := s.on hb2; have p0 := p.c0; have p1 := p.c1; have p2 := p.c2; have e0 := fzT f0 hb2 hgl; have e1 := fzT f1 hb2 hgl; have e2 := fzT f2 hb2 hgl; have bb := below_stepT hb hb2; clear hb2)
          all_goals first | (exfalso; omega) | skip
          go_roundw
          case rel => exact ⟨k + 1, P, false, X, by omega, by go_num, (by rw [← hP]; by_cases h : X = 0 <;> simp [h] : Value.bool (X != 0) = .bool P), rfl, ⟨by simp [go_sem, *], by simp [go_sem, *], by simp [go_sem, *]⟩, by simp [go_sem, *], by simp [go_sem, *], by simp [go_sem, *], hm, by omega, by omega, by (repeat' (first | with_reducible exact Below.refl _ _ | with_reducible assumption | with_reducible apply below_drewN | with_reducible apply Below.drew | with_reducible apply Below.setCell | with_reducible apply Below.alloc | (simp; done) | omega | (simp; omega)))⟩
          case measure => simp [intOf]; omega
        · have hx' : (x % 4 == 0) = false := by simpa using hx
          clear hx
          have HD := Lib.hid (due_any B D F x)
          by_cases hd : B = true ∧ D ≤ x
          · obtain ⟨rfl, hd⟩ := hd
            have e9 : (true && decide (D ≤ x)) = true := by simpa using hd
            rw [e9] at HD
            clear e9
            have hd2 : decide (x < D) = false := by simpa using hd
            have HF := Lib.hid (fire_any true D F)
            have HP := Lib.hid (tpend_any false D (true || F))
            simp only [Bool.true_or] at HF HP
            unfold tmV at HD HF HP
            have bb : Below wr.heap.size wr wr.drew := (Below.refl _ _).drew
            go_wp2
            go_region_held3 (fun w' => w'.cell? ⟨g, 0, none⟩ = some (.bool true) ∧ w'.cell? ⟨g, 1, none⟩ = some (.int .u32 D) ∧ w'.cell? ⟨g, 2, none⟩ = some (.bool F) ∧ w'.cell? ⟨b, off + k, none⟩ = some (.int .u32 x)) (first | exact ⟨stillD s0 bb, stillD s1 bb, stillD s2 bb, stillD hc0 bb⟩ | go_keep) (first
              | (go_at_call 10; refine (HD.out _).mono ?_; rintro e w3 ⟨rfl, hb3⟩; replace bb := below_stepT bb hb3))
            obtain ⟨y0, y1, y2, yc⟩ := ‹_ ∧ _ ∧ _ ∧ _›
            have s' : InT w3 g true D F := ⟨y0, y1, y2⟩
            have hgl3 : g < w3.heap.size := s'.lt
            have v0 := fzT f0 bb hgl
            have v1 := fzT f1 bb hgl
            have v2 := fzT f2 bb hgl
            have b3 := below_stepT hb bb
            clear bb hb3
            go_wp2_with (first
              | (go_at_call 6; (with_reducible refine (HF.out _).mono ?_); rintro e w4 ⟨rfl, hb4⟩; have p := s'.on hb4; have r0 := fzT v0 hb4 hgl3; have r1 := fzT v1 hb4 hgl3; have r2 := fzT v2 hb4 hgl3; have xc := stillD yc hb4; have b4 := below_stepT b3 hb4; have l4 := p.lt; have n4 : ¬ w4.heap.size = g := (by omega); have m4 : ¬ g = w4.heap.size := (by omega); clear hb4; have ac := Lib.cell?_alloc_some (.cells #[.bool false, .int .u32 D, .bool true] 24) xc)
              | (go_at_call 14; (with_reducible refine (HP.out _).mono ?_); rintro e w5 ⟨rfl, hb5⟩; have u := (InT.new w4 false true D 24).on hb5; have u0 := u.c0; have u1 := u.c1; have u2 := u.c2; have p' := (p.alloc (.cells #[.bool false, .int .u32 D, .bool true] 24)).on hb5; have p'0 := p'.c0; have p'1 := p'.c1; have p'2 := p'.c2; have b5 := below_stepT (b4.alloc (by have := b4.size; omega) _) hb5; have q0 : w5.frozen? ⟨g, 0, none⟩ = false := (fzT (by simp [go_sem, *]) hb5 (by simp; omega)); have q1 : w5.frozen? ⟨g, 1, none⟩ = false := (fzT (by simp [go_sem, *]) hb5 (by simp; omega)); have q2 : w5.frozen? ⟨g, 2, none⟩ = false := (fzT (by simp [go_sem, *]) hb5 (by simp; omega)); clear hb5))
            all_goals first | (exfalso; omega) | skip
            go_roundw
            case rel => exact ⟨k + 1, false, true, D, by omega, by go_num, rfl, rfl, ⟨by simp [go_sem, *], by simp [go_sem, *], by simp [go_sem, *]⟩, by simp [go_sem, *], by simp [go_sem, *], by simp [go_sem, *], rfl, D0, D1, by (repeat' (first | with_reducible exact Below.refl _ _ | with_reducible assumption | with_reducible apply below_drewN | with_reducible apply Below.drew | with_reducible apply Below.setCell | with_reducible apply Below.alloc | (simp; done) | omega | (simp; omega)))⟩
            case measure => simp [intOf]; omega
          · have e9 : (B && decide (D ≤ x)) = false := by cases B <;> simp_all
            rw [e9] at HD
            unfold tmV at HD
            have bb : Below wr.heap.size wr wr.drew := (Below.refl _ _).drew
            go_wp2
            go_region_held3 (fun w' => w'.cell? ⟨g, 0, none⟩ = some (.bool B) ∧ w'.cell? ⟨g, 1, none⟩ = some (.int .u32 D) ∧ w'.cell? ⟨g, 2, none⟩ = some (.bool F) ∧ w'.cell? ⟨b, off + k, none⟩ = some (.int .u32 x)) (first | exact ⟨stillD s0 bb, stillD s1 bb, stillD s2 bb, stillD hc0 bb⟩ | go_keep) (first
              | (go_at_call 10; refine (HD.out _).mono ?_; rintro e w3 ⟨rfl, hb3⟩; replace bb := below_stepT bb hb3))
            obtain ⟨y0, y1, y2, yc⟩ := ‹_ ∧ _ ∧ _ ∧ _›
            have s' : InT w3 g B D F := ⟨y0, y1, y2⟩
            have hgl3 : g < w3.heap.size := s'.lt
            have v0 := fzT f0 bb hgl
            have v1 := fzT f1 bb hgl
            have v2 := fzT f2 bb hgl
            have b3 := below_stepT hb bb
            clear bb hb3
            cases B
            · go_wp2
              go_roundw
              case rel => exact ⟨k + 1, false, F, D, by omega, by go_num, rfl, rfl, s', v0, v1, v2, hM, D0, D1, b3⟩
              case measure => simp [intOf]; omega
            · have hd3 : decide (D ≤ x) = false := by simpa using e9
              go_wp2
              go_roundw
              case rel => exact ⟨k + 1, true, F, D, by omega, by go_num, rfl, rfl, s', v0, v1, v2, hM, D0, D1, b3⟩
              case measure => simp [intOf]; omega
      · obtain rfl : k = n := by omega
        have HM := Lib.hid (tmay_any B D F)
        rw [hM.out] at HM
        unfold tmV at HM
        have s0 := s.c0
        have s1 := s.c1
        have s2 := s.c2
        go_wp2_with (first
          | (go_at_call 16; (with_reducible refine (HM.out _).mono ?_); rintro e w2 ⟨rfl, hb2⟩)
          | (go_at_call 18; (with_reducible refine (HW.out _).mono ?_); rintro e w3 ⟨rfl, hb3⟩))
        all_goals first | (exfalso; omega) | skip
        go_ret
        exact ⟨rfl, below_stepT (below_stepT hb hb2) hb3⟩
  · go_enter Try.func4, Try.ntmps4
    go_wp2_with (go_at_call 18; refine (HW.out _).mono ?_; rintro e w' ⟨rfl, hb1⟩)
    all_goals first | (exfalso; omega) | skip
    go_ret
    exact ⟨rfl, hb1⟩
/-- A slice of numbers that came in: nil, or a row of cells (the shell's own words). -/
def IsRowT (k : IntKind) (w : World) (a : Option Addr) (len cap : Nat) (zs : List Int) : Prop :=
  (a = none ∧ len = 0 ∧ cap = 0 ∧ zs = []) ∨
  ∃ x, a = some x ∧ len ≤ cap ∧ cap ≤ maxLen ∧ zs.length = cap ∧ (∀ i, i < zs.length → w.cell? (x.add i) = some (.int k (zs.getD i 0))) ∧ ∀ n ∈ zs, (Lit.int k n).wf = true
theorem wf_u32T {a : Int} (h : (Lit.int .u32 a).wf = true) : 0 ≤ a ∧ a ≤ 4294967295 := by simpa [Lit.wf, IntKind.min, IntKind.max, IntKind.bits, IntKind.signed] using h
theorem row_intsT {w : World} {a : Option Addr} {len cap : Nat} {zs : List Int} (h : IsRowT .u32 w a len cap zs) : IntsU w a len (fun i => zs.getD i 0) := by
  rcases h with ⟨rfl, rfl, rfl, rfl⟩ | ⟨⟨b, off, spot⟩, rfl, hl, hm, hz, hc, hw⟩
  · exact ⟨fun i hi => absurd hi (Nat.not_lt_zero _), fun i hi => absurd hi (Nat.not_lt_zero _)⟩
  · refine ⟨fun i hi => ?_, fun i hi => ?_⟩
    · have c00 := hc 0 (by omega)
      have hspot : spot = none := by simpa [Addr.add] using World.cell?_spot c00
      clear c00
      have c0 := hc i (by omega)
      subst hspot
      exact ⟨b, off, rfl, by rw [← add_plain]; exact c0⟩
    · have hlt : i < zs.length := by omega
      have e : zs.getD i 0 = zs[i] := by simp [List.getD, hlt]
      show _ ≤ zs.getD i 0 ∧ zs.getD i 0 ≤ _
      rw [e]
      exact wf_u32T (hw _ (List.getElem_mem hlt))
theorem once_row (a0 : Option Addr) (len0 cap0 : Nat) (z0 : List Int) (w : World) (w0 : IsRowT .u32 w a0 len0 cap0 z0) :
    Calls Try.prog 4 #[.slice a0 len0 cap0] w fun e w' => e = .returned (.bool true) ∧ Below w.heap.size w w' :=
  once_walk a0 len0 cap0 _ w (row_intsT w0)
end Go.Proofs.Ytindjmlceeglfaa
