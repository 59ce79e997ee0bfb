import Derived.Test.YtkilbakghacooaaNcSnd
namespace Go.Proofs.Ytkilbakghacooaa
set_option linter.unusedVariables false
set_option linter.unusedSimpArgs false
set_option maxRecDepth 20000
open Go.ChangeShapes Go.WideShapes Go.ChangeAt Go.RowKit Go.Proofs.Ytkilbakghacooaa.Num Go.Proofs.Ytkilbakghacooaa.Mem
/- The program's card. -/
theorem ncLen_any (x : Int) (w : World) :
    Calls Try.prog 35 #[.int .i64 x] w fun e w' => e = .returned (.bool (decide (1 ≤ x ∧ x ≤ 128))) ∧ ∃ m, w' = w.drewN m := by
  go_enter Try.func35, Try.ntmps35
  go_wp2
  all_goals go_ret
  all_goals exact ⟨ret_bool (by rw [Bool.eq_iff_iff]; simp <;> omega), 0, rfl⟩
theorem ncPage_any (f p : Int) (w : World) (f0 : 0 ≤ f) (f1 : f ≤ 4294967295) :
    Calls Try.prog 51 #[.int .u32 f, .int .i64 p] w fun e w' => e = .returned (.bool (decide (f < p))) ∧ ∃ m, w' = w.drewN m := by
  go_enter Try.func51, Try.ntmps51
  go_wp2
  go_ret
  exact ⟨rfl, 0, rfl⟩
theorem ncSt_any (F L : Int) (P : Bool) (B : Int) (R : Bool) (G : Int) (w : World) :
    Calls Try.prog 32 #[ncV F L P B R G] w fun e w' => e = .returned (.int .u32 ((if P then 1 else 0) + (if R then 2 else 0))) ∧ Below w.heap.size w w' := by
  unfold ncV
  cases P <;> cases R
  all_goals
    go_enter Try.func32, Try.ntmps32
    go_wp2
    all_goals go_ret
    all_goals exact ⟨ret_u32N (by decide), by (repeat' (first | with_reducible exact Below.refl _ _ | with_reducible assumption | with_reducible apply below_drewN | with_reducible apply Below.drew | with_reducible apply Below.setCell | with_reducible apply Below.alloc | (simp; done) | omega | (simp; omega)))⟩
theorem ncIn_any (F L : Int) (P : Bool) (B : Int) (R : Bool) (G : Int) (p : Int) (w : World) :
    Calls Try.prog 13 #[ncV F L P B R G, .int .i64 p] w fun e w' => e = .returned (.int .u32 (ncIn F P R G p)) ∧ Below w.heap.size w w' := by
  have HS := Lib.hid (fun W => ncSt_any F L P B R G W)
  generalize hx : ((if P then 1 else 0) + (if R then 2 else 0) : Int) = x at HS
  have HX : Hid (∀ y, y = (if p = 7 then F else if p = 8 then G else if p = 9 then x else 0) → y = ncIn F P R G p) := fun y h => by rw [h]; unfold ncIn; rw [hx]
  clear hx
  unfold ncV at HS ⊢
  go_enter Try.func13, Try.ntmps13
  go_wp2_with (go_at_call 32; (with_reducible refine (HS.out _).mono ?_); rintro e w1 ⟨rfl, hb1⟩; have b1 : Below w.heap.size w w1 := Below.trans (by (repeat' (first | with_reducible exact Below.refl _ _ | with_reducible assumption | with_reducible apply below_drewN | with_reducible apply Below.drew | with_reducible apply Below.setCell | with_reducible apply Below.alloc | (simp; done) | omega | (simp; omega)))) (hb1.mono (by simp)); clear hb1)
  all_goals go_ret
  all_goals exact ⟨ret_u32N (HX.out _ (by simp_all)), by (repeat' (first | with_reducible exact Below.refl _ _ | with_reducible assumption | with_reducible apply below_drewN | with_reducible apply Below.drew | with_reducible apply Below.setCell | with_reducible apply Below.alloc | (simp; done) | omega | (simp; omega)))⟩
theorem ncPend_any (F L : Int) (P : Bool) (B : Int) (R : Bool) (G : Int) (w : World) :
    Calls Try.prog 22 #[ncV F L P B R G] w fun e w' => e = .returned (.bool R) ∧ Below w.heap.size w w' := by
  unfold ncV
  go_enter Try.func22, Try.ntmps22
  go_wp2
  all_goals go_ret
  all_goals exact ⟨rfl, by (repeat' (first | with_reducible exact Below.refl _ _ | with_reducible assumption | with_reducible apply below_drewN | with_reducible apply Below.drew | with_reducible apply Below.setCell | with_reducible apply Below.alloc | (simp; done) | omega | (simp; omega)))⟩
theorem ncMayP_any (F L : Int) (P : Bool) (B : Int) (R : Bool) (G : Int) (p : Int) (w : World) (b0 : 0 ≤ B) (b1 : B ≤ 4294967295) :
    Calls Try.prog 40 #[ncV F L P B R G, .int .i64 p] w fun e w' => e = .returned (.bool (decide ((P = true → B < p) ∧ (¬ P = true → B = 0)))) ∧ Below w.heap.size w w' := by
  have HP := Lib.hid (fun W => ncPage_any B p W b0 b1)
  unfold ncV
  cases P
  all_goals
    go_enter Try.func40, Try.ntmps40
    go_wp2_with (go_at_call 51; (with_reducible refine (HP.out _).mono ?_); rintro e w1 ⟨rfl, m1, rfl⟩)
    all_goals go_ret
    all_goals exact ⟨ret_bool (by rw [Bool.eq_iff_iff]; simp), by (repeat' (first | with_reducible exact Below.refl _ _ | with_reducible assumption | with_reducible apply below_drewN | with_reducible apply Below.drew | with_reducible apply Below.setCell | with_reducible apply Below.alloc | (simp; done) | omega | (simp; omega)))⟩
theorem ncMayG_any (F L : Int) (P : Bool) (B : Int) (R : Bool) (G : Int) (w : World) (g0 : 0 ≤ G) (g1 : G ≤ 4294967295) :
    Calls Try.prog 41 #[ncV F L P B R G] w fun e w' => e = .returned (.bool (decide ((R = true → 1 ≤ G ∧ G ≤ 128) ∧ (¬ R = true → G = 0)))) ∧ Below w.heap.size w w' := by
  have HL := Lib.hid (fun W => ncLen_any G W)
  unfold ncV
  cases R
  all_goals
    go_enter Try.func41, Try.ntmps41
    go_wp2_with (go_at_call 35; (with_reducible refine (HL.out _).mono ?_); rintro e w1 ⟨rfl, m1, rfl⟩)
    all_goals go_ret
    all_goals exact ⟨ret_bool (by rw [Bool.eq_iff_iff]; simp), by (repeat' (first | with_reducible exact Below.refl _ _ | with_reducible assumption | with_reducible apply below_drewN | with_reducible apply Below.drew | with_reducible apply Below.setCell | with_reducible apply Below.alloc | (simp; done) | omega | (simp; omega)))⟩
theorem ncMay_any (F L : Int) (P : Bool) (B : Int) (R : Bool) (G : Int) (p : Int) (w : World) (b0 : 0 ≤ B) (b1 : B ≤ 4294967295) (g0 : 0 ≤ G) (g1 : G ≤ 4294967295) :
    Calls Try.prog 24 #[ncV F L P B R G, .int .i64 p] w fun e w' => e = .returned (.bool (ncMay P B R G p)) ∧ Below w.heap.size w w' := by
  have HP := Lib.hid (fun W => ncMayP_any F L P B R G p W b0 b1)
  have HG := Lib.hid (fun W => ncMayG_any F L P B R G W g0 g1)
  have HM : Hid (ncMay P B R G p = (!(P && R) && (decide ((P = true → B < p) ∧ (¬ P = true → B = 0)) && decide ((R = true → 1 ≤ G ∧ G ≤ 128) ∧ (¬ R = true → G = 0))))) := by
    show _ = _
    unfold ncMay
    rw [Bool.eq_iff_iff]
    cases P <;> cases R <;> simp
  generalize decide ((P = true → B < p) ∧ (¬ P = true → B = 0)) = x at HP HM
  generalize decide ((R = true → 1 ≤ G ∧ G ≤ 128) ∧ (¬ R = true → G = 0)) = y at HG HM
  generalize ncMay P B R G p = M at HM ⊢
  unfold ncV at HP HG ⊢
  cases P <;> cases R
  · cases x
    all_goals
      go_enter Try.func24, Try.ntmps24
      go_wp2_with (first
        | go_skip
        | (go_at_call 40; (with_reducible refine (HP.out _).mono ?_); rintro e w1 ⟨rfl, hb1⟩; have bb1 : Below w.heap.size w w1 := Below.trans (by (repeat' (first | with_reducible exact Below.refl _ _ | with_reducible assumption | with_reducible apply below_drewN | with_reducible apply Below.drew | with_reducible apply Below.setCell | with_reducible apply Below.alloc | (simp; done) | omega | (simp; omega)))) (hb1.mono (by simp)); have X1 : InN w1 w.heap.size F L false B false G := InN.on ⟨by simp [go_sem], by simp [go_sem], by simp [go_sem], by simp [go_sem], by simp [go_sem], by simp [go_sem], fun i => by simp [go_sem]⟩ hb1; clear hb1; have l1 := X1.lt; obtain ⟨c0, c1, c2, c3, c4, c5, cz⟩ := X1)
        | (go_at_call 41; (with_reducible refine (HG.out _).mono ?_); rintro e w2 ⟨rfl, hb2⟩; have b2 : Below w.heap.size w w2 := below_stepI (by assumption) (hb2.mono (by simp)) (by (repeat' (first | with_reducible exact Below.refl _ _ | with_reducible assumption | with_reducible apply below_drewN | with_reducible apply Below.drew | with_reducible apply Below.setCell | with_reducible apply Below.alloc | (simp; done) | omega | (simp; omega)))); clear hb2))
      all_goals go_ret
      all_goals exact ⟨ret_bool (by rw [HM.out]; simp), by (repeat' (first | with_reducible exact Below.refl _ _ | with_reducible assumption | with_reducible apply below_drewN | with_reducible apply Below.drew | with_reducible apply Below.setCell | with_reducible apply Below.alloc | (simp; done) | omega | (simp; omega)))⟩
  · cases x
    all_goals
      go_enter Try.func24, Try.ntmps24
      go_wp2_with (first
        | go_skip
        | (go_at_call 40; (with_reducible refine (HP.out _).mono ?_); rintro e w1 ⟨rfl, hb1⟩; have bb1 : Below w.heap.size w w1 := Below.trans (by (repeat' (first | with_reducible exact Below.refl _ _ | with_reducible assumption | with_reducible apply below_drewN | with_reducible apply Below.drew | with_reducible apply Below.setCell | with_reducible apply Below.alloc | (simp; done) | omega | (simp; omega)))) (hb1.mono (by simp)); have X1 : InN w1 w.heap.size F L false B true G := InN.on ⟨by simp [go_sem], by simp [go_sem], by simp [go_sem], by simp [go_sem], by simp [go_sem], by simp [go_sem], fun i => by simp [go_sem]⟩ hb1; clear hb1; have l1 := X1.lt; obtain ⟨c0, c1, c2, c3, c4, c5, cz⟩ := X1)
        | (go_at_call 41; (with_reducible refine (HG.out _).mono ?_); rintro e w2 ⟨rfl, hb2⟩; have b2 : Below w.heap.size w w2 := below_stepI (by assumption) (hb2.mono (by simp)) (by (repeat' (first | with_reducible exact Below.refl _ _ | with_reducible assumption | with_reducible apply below_drewN | with_reducible apply Below.drew | with_reducible apply Below.setCell | with_reducible apply Below.alloc | (simp; done) | omega | (simp; omega)))); clear hb2))
      all_goals go_ret
      all_goals exact ⟨ret_bool (by rw [HM.out]; simp), by (repeat' (first | with_reducible exact Below.refl _ _ | with_reducible assumption | with_reducible apply below_drewN | with_reducible apply Below.drew | with_reducible apply Below.setCell | with_reducible apply Below.alloc | (simp; done) | omega | (simp; omega)))⟩
  · cases x
    all_goals
      go_enter Try.func24, Try.ntmps24
      go_wp2_with (first
        | go_skip
        | (go_at_call 40; (with_reducible refine (HP.out _).mono ?_); rintro e w1 ⟨rfl, hb1⟩; have bb1 : Below w.heap.size w w1 := Below.trans (by (repeat' (first | with_reducible exact Below.refl _ _ | with_reducible assumption | with_reducible apply below_drewN | with_reducible apply Below.drew | with_reducible apply Below.setCell | with_reducible apply Below.alloc | (simp; done) | omega | (simp; omega)))) (hb1.mono (by simp)); have X1 : InN w1 w.heap.size F L true B false G := InN.on ⟨by simp [go_sem], by simp [go_sem], by simp [go_sem], by simp [go_sem], by simp [go_sem], by simp [go_sem], fun i => by simp [go_sem]⟩ hb1; clear hb1; have l1 := X1.lt; obtain ⟨c0, c1, c2, c3, c4, c5, cz⟩ := X1)
        | (go_at_call 41; (with_reducible refine (HG.out _).mono ?_); rintro e w2 ⟨rfl, hb2⟩; have b2 : Below w.heap.size w w2 := below_stepI (by assumption) (hb2.mono (by simp)) (by (repeat' (first | with_reducible exact Below.refl _ _ | with_reducible assumption | with_reducible apply below_drewN | with_reducible apply Below.drew | with_reducible apply Below.setCell | with_reducible apply Below.alloc | (simp; done) | omega | (simp; omega)))); clear hb2))
      all_goals go_ret
      all_goals exact ⟨ret_bool (by rw [HM.out]; simp), by (repeat' (first | with_reducible exact Below.refl _ _ | with_reducible assumption | with_reducible apply below_drewN | with_reducible apply Below.drew | with_reducible apply Below.setCell | with_reducible apply Below.alloc | (simp; done) | omega | (simp; omega)))⟩
  · cases x
    all_goals
      go_enter Try.func24, Try.ntmps24
      go_wp2_with (first
        | go_skip
        | (go_at_call 40; (with_reducible refine (HP.out _).mono ?_); rintro e w1 ⟨rfl, hb1⟩; have bb1 : Below w.heap.size w w1 := Below.trans (by (repeat' (first | with_reducible exact Below.refl _ _ | with_reducible assumption | with_reducible apply below_drewN | with_reducible apply Below.drew | with_reducible apply Below.setCell | with_reducible apply Below.alloc | (simp; done) | omega | (simp; omega)))) (hb1.mono (by simp)); have X1 : InN w1 w.heap.size F L true B true G := InN.on ⟨by simp [go_sem], by simp [go_sem], by simp [go_sem], by simp [go_sem], by simp [go_sem], by simp [go_sem], fun i => by simp [go_sem]⟩ hb1; clear hb1; have l1 := X1.lt; obtain ⟨c0, c1, c2, c3, c4, c5, cz⟩ := X1)
        | (go_at_call 41; (with_reducible refine (HG.out _).mono ?_); rintro e w2 ⟨rfl, hb2⟩; have b2 : Below w.heap.size w w2 := below_stepI (by assumption) (hb2.mono (by simp)) (by (repeat' (first | with_reducible exact Below.refl _ _ | with_reducible assumption | with_reducible apply below_drewN | with_reducible apply Below.drew | with_reducible apply Below.setCell | with_reducible apply Below.alloc | (simp; done) | omega | (simp; omega)))); clear hb2))
      all_goals go_ret
      all_goals exact ⟨ret_bool (by rw [HM.out]; simp), by (repeat' (first | with_reducible exact Below.refl _ _ | with_reducible assumption | with_reducible apply below_drewN | with_reducible apply Below.drew | with_reducible apply Below.setCell | with_reducible apply Below.alloc | (simp; done) | omega | (simp; omega)))⟩
end Go.Proofs.Ytkilbakghacooaa
