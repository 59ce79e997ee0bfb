import Derived.Test.YtfnfbdjbdbifaaaDoorCpAlu
namespace Go.Proofs.YtfnfbdjbdbifaaaDoor
set_option linter.unusedVariables false
set_option linter.unusedSimpArgs false
open Go.ChangeShapes Go.WideShapes Go.ChangeAt Go.RowKit Go.Proofs.YtfnfbdjbdbifaaaDoor.Num Go.Proofs.YtfnfbdjbdbifaaaDoor.Mem Go.Proofs.YtfnfbdjbdbifaaaDoor.Isa
set_option maxHeartbeats 4000000 in
theorem alu_ref (op a b : Int) (w : World) (a0 : 0 ≤ a) (a1 : a ≤ 4294967295) (b0 : 0 ≤ b) (b1 : b ≤ 4294967295) :
    Calls Tryd.prog 62 #[.int .i64 op, .int .u32 a, .int .u32 b] w (AluPost op a b w) := by
  have hb := and_31 b b0 b1
  have hB := aluB_pln op
  have HP := Lib.hid (fun w => plain_ref op w)
  have HV : Hid (aluV op a b = aluP (pln op) a b) := rfl
  by_cases hp : 1 ≤ pln op ∧ pln op ≤ 13
  · rw [decide_eq_true hp] at hB
    have HB := Lib.hid hB
    generalize pln op = p at *
    have c : p = 1 ∨ p = 2 ∨ p = 3 ∨ p = 4 ∨ p = 5 ∨ p = 6 ∨ p = 7 ∨ p = 8 ∨ p = 9 ∨ p = 10 ∨ p = 11 ∨ p = 12 ∨ p = 13 := by omega
    clear hp hB
    rcases c with rfl | rfl | rfl | rfl | rfl | rfl | rfl | rfl | rfl | rfl | rfl | rfl | rfl
    all_goals
      go_enter Tryd.func62, Tryd.ntmps62
      repeat' (first
        | (with_reducible refine then_normal ?_) | (with_reducible refine wp_exit ?_) | (with_reducible refine wp_ret ?_) | (with_reducible refine then_exit ?_) | (with_reducible refine blk_hit ?_) | (with_reducible refine blk_pass (by decide) ?_) | (with_reducible refine then_ret ?_) | (with_reducible refine blk_ret ?_) | (with_reducible refine blk_normal ?_)
        | (go_at_call 89; refine (HP.out _).mono ?_; rintro e w1 ⟨rfl, rfl⟩)
        | (go_at_call 90; refine (div_ref _ _ _ a0 a1 b0 b1).mono ?_; rintro e w1 ⟨rfl, m1, rfl⟩)
        | (go_at_call 83; refine (bit_any _ _).mono ?_; rintro e w1 ⟨rfl, rfl⟩)
        | go_values | go_skip | go_guarded | go_step | go_upon | (simp only [Int.not_lt, Int.not_le] at *; go_simp) | (go_values <;> (try go_simp)) | (go_ite <;> go_prune <;> (try go_simp)))
    all_goals go_ret2
    · exact ⟨ret_ub HV.out.symm HB.out.symm, 0, rfl⟩
    · exact ⟨ret_ub HV.out.symm HB.out.symm, 0, rfl⟩
    · exact ⟨ret_ub HV.out.symm HB.out.symm, 0, rfl⟩
    · exact ⟨ret_ub HV.out.symm HB.out.symm, 0, rfl⟩
    · exact ⟨ret_ub HV.out.symm HB.out.symm, 0, rfl⟩
    · exact ⟨ret_ub HV.out.symm HB.out.symm, 0, rfl⟩
    · exact ⟨ret_ub HV.out.symm HB.out.symm, 0, rfl⟩
    · exact ⟨ret_ub HV.out.symm HB.out.symm, 0, rfl⟩
    · exact ⟨ret_ub HV.out.symm HB.out.symm, 0, rfl⟩
    · exact ⟨ret_ub HV.out.symm HB.out.symm, m1, rfl⟩
    · exact ⟨ret_ub HV.out.symm HB.out.symm, m1, rfl⟩
    all_goals rename_i h
    · exact ⟨ret_ub ((if_pos h).symm.trans HV.out.symm) HB.out.symm, 0, rfl⟩
    · exact ⟨ret_ub ((if_neg (by omega)).symm.trans HV.out.symm) HB.out.symm, 0, rfl⟩
    · exact ⟨ret_ub ((if_pos h).symm.trans HV.out.symm) HB.out.symm, 0, rfl⟩
    · exact ⟨ret_ub ((if_neg (by omega)).symm.trans HV.out.symm) HB.out.symm, 0, rfl⟩
  · rw [decide_eq_false hp] at hB
    have HB := Lib.hid hB
    have HZ := Lib.hid (aluV_none op a b hB)
    generalize pln op = p at *
    have n1 : ¬ p = 1 := by omega
    have n2 : ¬ p = 2 := by omega
    have n3 : ¬ p = 3 := by omega
    have n4 : ¬ p = 4 := by omega
    have n5 : ¬ p = 5 := by omega
    have n6 : ¬ p = 6 := by omega
    have n7 : ¬ p = 7 := by omega
    have n8 : ¬ p = 8 := by omega
    have n9 : ¬ p = 9 := by omega
    have n10 : ¬ p = 10 := by omega
    have n11 : ¬ p = 11 := by omega
    have n12 : ¬ p = 12 := by omega
    have n13 : ¬ p = 13 := by omega
    clear hp hB
    go_enter Tryd.func62, Tryd.ntmps62
    repeat' (first
      | (with_reducible refine then_normal ?_) | (with_reducible refine wp_exit ?_) | (with_reducible refine wp_ret ?_) | (with_reducible refine then_exit ?_) | (with_reducible refine blk_hit ?_) | (with_reducible refine blk_pass (by decide) ?_) | (with_reducible refine then_ret ?_) | (with_reducible refine blk_ret ?_) | (with_reducible refine blk_normal ?_)
      | (go_at_call 89; refine (HP.out _).mono ?_; rintro e w1 ⟨rfl, rfl⟩)
      | go_values | go_skip | go_guarded | go_step | go_upon | (simp only [Int.not_lt, Int.not_le] at *; go_simp) | (go_values <;> (try go_simp)) | (go_ite <;> go_prune <;> (try go_simp)))
    go_ret2
    exact ⟨ret_ub HZ.out.symm HB.out.symm, 0, rfl⟩
end Go.Proofs.YtfnfbdjbdbifaaaDoor
