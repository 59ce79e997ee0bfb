import Derived.Test.YthghbcjaokpilaaDoorFn
import Derived.Test.YthghbcjaokpilaaDoorIsaNum
namespace Go.Proofs.YthghbcjaokpilaaDoor
set_option linter.unusedVariables false
set_option linter.unusedSimpArgs false
open Go.ChangeShapes Go.WideShapes Go.ChangeAt Go.RowKit Go.Proofs.YthghbcjaokpilaaDoor.Num Go.Proofs.YthghbcjaokpilaaDoor.Isa
theorem ret_iff {a b : Bool} (h : a = true ↔ b = true) : Ending.returned (.bool a) = .returned (.bool b) := by rw [Bool.eq_iff_iff.2 h]
theorem branch_any (op : Int) (w : World) :
    Calls Tryd.prog 82 #[.int .i64 op] w fun e w' => e = .returned (.bool (decide (40 ≤ op ∧ op ≤ 45))) ∧ ∃ m, w' = w.drewN m := by
  go_enter Tryd.func82, Tryd.ntmps82
  go_wp2
  all_goals go_ret
  all_goals refine ⟨ret_iff ?_, 0, rfl⟩
  all_goals try simp only [beq_iff_eq, beq_eq_false_iff_ne, bne_iff_ne, ne_eq, decide_eq_true_eq, decide_eq_false_iff_not, Bool.and_eq_true, Bool.or_eq_true, Bool.not_eq_true', Bool.and_eq_false_imp, Bool.false_eq_true, true_iff, iff_true, false_iff, iff_false] at *
  all_goals omega
theorem layout_any (op : Int) (w : World) :
    Calls Tryd.prog 69 #[.int .i64 op] w fun e w' => e = .returned (.int .i64 (lay op)) ∧ ∃ m, w' = w.drewN m := by
  go_enter Tryd.func69, Tryd.ntmps69
  go_wp2_with (go_at_call 82; refine (branch_any _ _).mono ?_; rintro e w' ⟨rfl, m, rfl⟩)
  all_goals go_ret
  all_goals refine ⟨ret_int ?_, by first | exact ⟨0, rfl⟩ | exact ⟨_, rfl⟩⟩
  all_goals try simp only [beq_iff_eq, beq_eq_false_iff_ne, ne_eq, decide_eq_true_eq, decide_eq_false_iff_not] at *
  all_goals (symm; unfold lay; first | (rw [if_pos (by omega)]; done) | (rw [if_neg (by omega), if_pos (by omega)]; done) | (rw [if_neg (by omega), if_neg (by omega), if_pos (by omega)]; done) | (rw [if_neg (by omega), if_neg (by omega), if_neg (by omega), if_pos (by omega)]; done) | (rw [if_neg (by omega), if_neg (by omega), if_neg (by omega), if_neg (by omega), if_pos (by omega)]; done) | (rw [if_neg (by omega), if_neg (by omega), if_neg (by omega), if_neg (by omega), if_neg (by omega)]; done))
theorem imm_any (op : Int) (w : World) :
    Calls Tryd.prog 80 #[.int .i64 op] w fun e w' => e = .returned (.tuple #[.int .i32 (lo op), .int .i32 (hi op)]) ∧ ∃ m, w' = w.drewN m := by
  go_enter Tryd.func80, Tryd.ntmps80
  go_wp2_with (go_at_call 69; refine (layout_any _ _).mono ?_; rintro e w' ⟨rfl, m, rfl⟩)
  all_goals go_ret2
  all_goals refine ⟨ret_int2 ?_ ?_, by first | exact ⟨0, rfl⟩ | exact ⟨_, rfl⟩⟩
  all_goals try simp only [beq_iff_eq, beq_eq_false_iff_ne, bne_iff_ne, ne_eq, decide_eq_true_eq, decide_eq_false_iff_not, Bool.and_eq_true, Bool.or_eq_true, Bool.not_eq_true', Bool.and_eq_false_imp] at *
  all_goals (rcases kind op with k | k | k | k | k | k | k | k | k | k | k <;> obtain ⟨k1, k2, k3, k4, k5⟩ := k <;> omega)
theorem reg_any (r : Int) (w : World) :
    Calls Tryd.prog 81 #[.int .i64 r] w fun e w' => e = .returned (.bool (decide (0 ≤ r ∧ r ≤ 15))) ∧ ∃ m, w' = w.drewN m := by
  go_enter Tryd.func81, Tryd.ntmps81
  go_wp2
  all_goals go_ret
  all_goals refine ⟨ret_iff ?_, by first | exact ⟨0, rfl⟩ | exact ⟨_, rfl⟩⟩
  all_goals try simp only [beq_iff_eq, beq_eq_false_iff_ne, bne_iff_ne, ne_eq, decide_eq_true_eq, decide_eq_false_iff_not, Bool.and_eq_true, Bool.or_eq_true, Bool.not_eq_true', Bool.and_eq_false_imp, Bool.false_eq_true, true_iff, iff_true, false_iff, iff_false] at *
  all_goals omega
theorem reg_ref (r : Int) (w : World) :
    Calls Tryd.prog 37 #[.int .i64 r] w fun e w' => e = .returned (.bool (decide (0 ≤ r ∧ r ≤ 15))) ∧ ∃ m, w' = w.drewN m := by
  go_enter Tryd.func37, Tryd.ntmps37
  go_wp2
  all_goals go_ret
  all_goals refine ⟨ret_iff ?_, by first | exact ⟨0, rfl⟩ | exact ⟨_, rfl⟩⟩
  all_goals try simp only [beq_iff_eq, beq_eq_false_iff_ne, bne_iff_ne, ne_eq, decide_eq_true_eq, decide_eq_false_iff_not, Bool.and_eq_true, Bool.or_eq_true, Bool.not_eq_true', Bool.and_eq_false_imp, Bool.false_eq_true, true_iff, iff_true, false_iff, iff_false] at *
  all_goals omega
set_option maxHeartbeats 2000000 in
theorem form_ref (op : Int) (w : World) :
    Calls Tryd.prog 26 #[.int .i64 op] w fun e w' => e = .returned (.int .i64 (frm op)) ∧ ∃ m, w' = w.drewN m := by
  go_enter Tryd.func26, Tryd.ntmps26
  go_wp2
  all_goals go_ret
  all_goals refine ⟨ret_int ?_, by first | exact ⟨0, rfl⟩ | exact ⟨_, rfl⟩⟩
  all_goals try simp only [beq_iff_eq, beq_eq_false_iff_ne, bne_iff_ne, ne_eq, decide_eq_true_eq, decide_eq_false_iff_not, Bool.and_eq_true, Bool.or_eq_true, Bool.not_eq_true', Bool.and_eq_false_imp] at *
  all_goals (rcases kind op with k | k | k | k | k | k | k | k | k | k | k <;> obtain ⟨k1, k2, k3, k4, k5⟩ := k <;> omega)
theorem bounds_ref (f : Int) (w : World) :
    Calls Tryd.prog 27 #[.int .i64 f] w fun e w' => e = .returned (.tuple #[.int .i64 (flo f), .int .i64 (fhi f)]) ∧ ∃ m, w' = w.drewN m := by
  go_enter Tryd.func27, Tryd.ntmps27
  go_wp2
  all_goals go_ret2
  all_goals refine ⟨ret_int2 ?_ ?_, by first | exact ⟨0, rfl⟩ | exact ⟨_, rfl⟩⟩
  all_goals try simp only [beq_iff_eq, beq_eq_false_iff_ne, bne_iff_ne, ne_eq, decide_eq_true_eq, decide_eq_false_iff_not, Bool.and_eq_true, Bool.or_eq_true, Bool.not_eq_true', Bool.and_eq_false_imp] at *
  all_goals first
    | (symm; unfold flo; first | (rw [if_pos (by omega)]; done) | (rw [if_neg (by omega)]; done))
    | (symm; unfold fhi; first | (rw [if_pos (by omega)]; done) | (rw [if_neg (by omega), if_pos (by omega)]; done) | (rw [if_neg (by omega), if_neg (by omega), if_pos (by omega)]; done) | (rw [if_neg (by omega), if_neg (by omega), if_neg (by omega), if_pos (by omega)]; done) | (rw [if_neg (by omega), if_neg (by omega), if_neg (by omega), if_neg (by omega), if_pos (by omega)]; done) | (rw [if_neg (by omega), if_neg (by omega), if_neg (by omega), if_neg (by omega), if_neg (by omega)]; done))
/-- An operation that ends a block. -/
def EndsOp (op : Int) : Prop := (40 ≤ op ∧ op ≤ 45) ∨ (48 ≤ op ∧ op ≤ 49) ∨ (56 ≤ op ∧ op ≤ 64)
instance (op : Int) : Decidable (EndsOp op) := by unfold EndsOp; infer_instance
theorem ends_iff (op : Int) : decide (EndsOp op) = true ↔ (40 ≤ op ∧ op ≤ 45) ∨ (48 ≤ op ∧ op ≤ 49) ∨ (56 ≤ op ∧ op ≤ 64) := by rw [decide_eq_true_eq]; rfl
end Go.Proofs.YthghbcjaokpilaaDoor
