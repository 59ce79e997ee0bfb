import Derived.Test.YteghkamgbhjoeabLaw3
import Derived.Test.YteghkamgbhjoeabNum5
namespace Go.Proofs.Yteghkamgbhjoeab
set_option linter.unusedVariables false
open Go.ChangeShapes Go.WideShapes Go.ChangeAt Go.RowKit Go.Proofs.Yteghkamgbhjoeab.Num Go.Proofs.Yteghkamgbhjoeab.Mem
theorem signs_walk (x n : Int) (w0 : (Lit.int .u32 x).wf = true) (w1 : (Lit.int .i64 n).wf = true) (w : World) :
    Calls Try.prog 5 #[.int .u32 x, .int .i64 n] w fun e w' => e = .returned (.bool true) ∧ Below w.heap.size w w' := by
  have b0 := wf_u32 w0
  have b1 := wf_i64 w1
  by_cases c : 1 ≤ n ∧ n ≤ 32
  · obtain ⟨c1, c2⟩ := c
    have hb := sext_bd x n b0.1 b0.2
    have e2 : fieldR (sext x n) 0 n = fieldR x 0 n := by
      by_cases h : n = 32
      · subst h; rfl
      · exact low_kept x n b0.1 b0.2 c1 (by omega)
    have e3 : sext (sext x n) n = sext x n := by
      by_cases h : n = 32
      · subst h; rfl
      · exact sext_again x n b0.1 b0.2 c1 (by omega)
    have H2 := Lib.hid e2
    have H3 := Lib.hid e3
    clear e2 e3
    go_enter Try.func5, Try.ntmps5
    go_wp2_with (first
      | (go_at_call 11; refine (sext_any _ _ _ b0.1 b0.2).mono ?_; rintro e w' ⟨rfl, m1, rfl⟩)
      | (go_at_call 12; refine (field_any _ _ _ _ b0.1 b0.2).mono ?_; rintro e w' ⟨rfl, m2, rfl⟩))
    all_goals first | (exfalso; omega) | skip
    go_loopw [7] (fun i wr => ∃ k : Nat, n ≤ k ∧ k ≤ 32 ∧ i = .int .i64 k ∧ ∃ m, wr = w.drewN m) (fun i _ => 32 - (intOf i).toNat)
    case atStart => exact ⟨n.toNat, by omega, by omega, by congr 1; omega, _, rfl⟩
    case round =>
      obtain ⟨k, hk, hk', rfl, m, rfl⟩ := hrel
      by_cases hlt : k < 32
      · have e1 : fieldR (sext x n) k 1 = fieldR x (n - 1) 1 := sign_above x n b0.1 b0.2 c1 (by omega) k hk (by omega)
        go_wp2_with (go_at_call 12; refine (field_any _ _ _ _ hb.1 hb.2).mono ?_; rintro e w' ⟨rfl, m3, rfl⟩)
        go_roundw
        case rel => exact ⟨k + 1, by omega, by omega, by go_num, _, rfl⟩
        case measure => simp [intOf]; omega
      · have e2 := H2.out
        have e3 := H3.out
        go_wp2_with (first
          | (go_at_call 11; refine (sext_any _ _ _ hb.1 hb.2).mono ?_; rintro e w' ⟨rfl, m1, rfl⟩)
          | (go_at_call 12; refine (field_any _ _ _ _ (by first | exact b0.1 | exact hb.1) (by first | exact b0.2 | exact hb.2)).mono ?_; rintro e w' ⟨rfl, m2, rfl⟩)
          | (go_at_call 7; refine (awake_any _).mono ?_; rintro e w' ⟨rfl, n7, rfl⟩))
        go_ret
        exact ⟨rfl, drewN_below _ _⟩
  · go_enter Try.func5, Try.ntmps5
    go_wp2_with (go_at_call 7; refine (awake_any _).mono ?_; rintro e w' ⟨rfl, n7, rfl⟩)
    all_goals first | (exfalso; omega) | skip
    all_goals go_ret
    all_goals exact ⟨rfl, drewN_below _ _⟩
end Go.Proofs.Yteghkamgbhjoeab
