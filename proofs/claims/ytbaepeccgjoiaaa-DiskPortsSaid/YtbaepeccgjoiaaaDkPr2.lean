import Derived.Test.YtbaepeccgjoiaaaDkPrg
namespace Go.Proofs.Ytbaepeccgjoiaaa
set_option linter.unusedVariables false
set_option linter.unusedSimpArgs false
set_option maxRecDepth 20000
open Go.ChangeShapes Go.WideShapes Go.ChangeAt Go.RowKit Go.Proofs.Ytbaepeccgjoiaaa.Num Go.Proofs.Ytbaepeccgjoiaaa.Mem
theorem dkErr_any (B K F C OB OF : Int) (D : ByteArray) (A : Option Addr) (n c : Nat) (v a : Int) (w : World) (hn : n ≤ 1024) (F0 : 0 ≤ F) (F1 : F ≤ 4294967295) (ho : ¬ (K < B ∧ F < pagesN n)) :
    Calls Try.prog 40 #[dkV B K F 0 C OB OF D, .slice A n c, .int .i64 v, .int .u64 a] w (OutPost B K F 3 C OB OF D none w) := by
  have hpn := pagesN_le n
  have HPS := Lib.hid (fun W => pages_any A n c W (by omega))
  have HPG := Lib.hid (fun W => isPage_any F (pagesN n) W F0 F1)
  unfold dkV
  by_cases hK : K < B
  · rw [decide_eq_false (show ¬ F < pagesN n from fun h => ho ⟨hK, h⟩)] at HPG
    have dK : decide (B ≤ K) = false := by simp; omega
    clear ho
    go_enter Try.func40, Try.ntmps40
    go_wp2_with (first | go_skip | fail)
    go_quiet (first | (go_at_call 44; exact quiet_on (HPS.out _)) | (go_at_call 43; exact quiet_on (HPG.out _)))
    go_wp2
    refine bodyPost_ret (v := .tuple #[.agg #[.int .u32 B, .int .u32 K, .int .u32 F, .int .i64 3, .int .i64 C, .int .u32 OB, .int .u32 OF, .string D], .slice none 0 0]) (by rw [results_cell_tmp rfl]; go_simp) rfl ⟨⟨_, rfl, rfl⟩, by (repeat' (first | with_reducible exact Below.refl _ _ | with_reducible assumption | with_reducible apply below_drewN | with_reducible apply Below.drew | with_reducible apply Below.setCell | with_reducible apply Below.alloc | (simp; done) | omega | (simp; omega)))⟩
  · have dK : decide (B ≤ K) = true := by simp; omega
    clear ho HPG HPS
    go_enter Try.func40, Try.ntmps40
    go_wp2_with (first | go_skip | fail)
    go_quiet (fail)
    go_wp2
    refine bodyPost_ret (v := .tuple #[.agg #[.int .u32 B, .int .u32 K, .int .u32 F, .int .i64 3, .int .i64 C, .int .u32 OB, .int .u32 OF, .string D], .slice none 0 0]) (by rw [results_cell_tmp rfl]; go_simp) rfl ⟨⟨_, rfl, rfl⟩, by (repeat' (first | with_reducible exact Below.refl _ _ | with_reducible assumption | with_reducible apply below_drewN | with_reducible apply Below.drew | with_reducible apply Below.setCell | with_reducible apply Below.alloc | (simp; done) | omega | (simp; omega)))⟩
theorem mayRun_any (B K F S C OB OF : Int) (D : ByteArray) (p : Int) (w : World) (o0 : 0 ≤ OF) (o1 : OF ≤ 4294967295) :
    Calls Try.prog 37 #[dkV B K F S C OB OF D, .int .i64 p] w fun e w' => e = .returned (.bool (decide (OB < B ∧ OF < p ∧ ((C = 1 ∧ D.size = 0) ∨ (C = 2 ∧ D.size = 128))))) ∧ Below w.heap.size w w' := by
  have hE := Lib.hid (empty_is D)
  have HB : Hid (∀ b : Bool, (b = true ↔ (OB < B ∧ OF < p ∧ ((C = 1 ∧ D.size = 0) ∨ (C = 2 ∧ D.size = 128)))) → b = decide (OB < B ∧ OF < p ∧ ((C = 1 ∧ D.size = 0) ∨ (C = 2 ∧ D.size = 128)))) := fun b h => by
    rw [Bool.eq_iff_iff, decide_eq_true_iff]; exact h
  generalize decide (OB < B ∧ OF < p ∧ ((C = 1 ∧ D.size = 0) ∨ (C = 2 ∧ D.size = 128))) = M at *
  have HP := Lib.hid (fun W => isPage_any OF p W o0 o1)
  unfold dkV
  go_enter Try.func37, Try.ntmps37
  go_wp2_with (go_at_call 43; (with_reducible refine (HP.out _).mono ?_); rintro e w1 ⟨rfl, m1, rfl⟩)
  all_goals go_ret
  all_goals refine ⟨ret_bool (HB.out _ ?_), by (repeat' (first | with_reducible exact Below.refl _ _ | with_reducible assumption | with_reducible apply below_drewN | with_reducible apply Below.drew | with_reducible apply Below.setCell | with_reducible apply Below.alloc | (simp; done) | omega | (simp; omega)))⟩
  all_goals (have hE := hE.out; have hN := empty_nil D; simp only [hE, hN, Bool.false_eq_true, false_iff, beq_iff_eq, bne_iff_ne, bne_eq_false_iff_eq, beq_eq_false_iff_ne, decide_eq_true_eq, decide_eq_false_iff_not, true_iff, ne_eq, Bool.not_eq_true', Bool.not_eq_false', Bool.not_eq_true, Bool.not_eq_false] at *)
  all_goals omega
theorem dkMay_any (B K F S C OB OF : Int) (D : ByteArray) (p : Int) (w : World) (o0 : 0 ≤ OF) (o1 : OF ≤ 4294967295) :
    Calls Try.prog 24 #[dkV B K F S C OB OF D, .int .i64 p] w fun e w' => e = .returned (.bool (dkMay B S C OB OF D p)) ∧ Below w.heap.size w w' := by
  have hE := Lib.hid (empty_is D)
  have HB : Hid (∀ b : Bool, (b = true ↔ (B ≤ 64 ∧ 0 ≤ S ∧ S ≤ 3 ∧ (S = 1 → OB < B ∧ OF < p ∧ ((C = 1 ∧ D.size = 0) ∨ (C = 2 ∧ D.size = 128))) ∧ (¬ S = 1 → C = 0 ∧ OB = 0 ∧ OF = 0 ∧ D.size = 0))) → b = dkMay B S C OB OF D p) := fun b h => by
    unfold dkMay; rw [Bool.eq_iff_iff, decide_eq_true_iff]; exact h
  generalize dkMay B S C OB OF D p = M at *
  have HR := Lib.hid (fun W => mayRun_any B K F S C OB OF D p W o0 o1)
  obtain ⟨R, hR⟩ : ∃ R, decide (OB < B ∧ OF < p ∧ ((C = 1 ∧ D.size = 0) ∨ (C = 2 ∧ D.size = 128))) = R := ⟨_, rfl⟩
  rw [hR] at HR
  replace hR := Lib.hid hR
  unfold dkV at HR ⊢
  go_enter Try.func24, Try.ntmps24
  go_wp2_with (go_at_call 37; (with_reducible refine (HR.out _).mono ?_); rintro e w1 ⟨rfl, hb1⟩; have b1 : Below w.heap.size w w1 := Below.trans (by (repeat' (first | with_reducible exact Below.refl _ _ | with_reducible assumption | with_reducible apply below_drewN | with_reducible apply Below.drew | with_reducible apply Below.setCell | with_reducible apply Below.alloc | (simp; done) | omega | (simp; omega)))) (hb1.mono (by simp)); clear hb1)
  all_goals go_ret
  all_goals refine ⟨ret_bool (HB.out _ ?_), by (repeat' (first | with_reducible exact Below.refl _ _ | with_reducible assumption | with_reducible apply below_drewN | with_reducible apply Below.drew | with_reducible apply Below.setCell | with_reducible apply Below.alloc | (simp; done) | omega | (simp; omega)))⟩
  all_goals (have hE := hE.out; have hN := empty_nil D; have hR := hR.out; simp only [hE, hN, ← hR, Bool.false_eq_true, false_iff, beq_iff_eq, bne_iff_ne, bne_eq_false_iff_eq, beq_eq_false_iff_ne, decide_eq_true_eq, decide_eq_false_iff_not, true_iff, ne_eq, Bool.not_eq_true', Bool.not_eq_false', Bool.not_eq_true, Bool.not_eq_false] at *)
  all_goals omega
end Go.Proofs.Ytbaepeccgjoiaaa
