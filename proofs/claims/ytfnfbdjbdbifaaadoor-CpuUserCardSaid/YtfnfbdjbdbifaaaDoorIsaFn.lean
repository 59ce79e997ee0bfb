import Derived.Test.YtfnfbdjbdbifaaaDoorFn
import Derived.Test.YtfnfbdjbdbifaaaDoorIsaNum
namespace Go.Proofs.YtfnfbdjbdbifaaaDoor
set_option linter.unusedVariables false
set_option linter.unusedSimpArgs false
open Go.ChangeShapes Go.WideShapes Go.ChangeAt Go.RowKit Go.Proofs.YtfnfbdjbdbifaaaDoor.Num Go.Proofs.YtfnfbdjbdbifaaaDoor.Isa
theorem ret_iff {a b : Bool} (h : a = true ↔ b = true) : Ending.returned (.bool a) = .returned (.bool b) := by rw [Bool.eq_iff_iff.2 h]
theorem branch_any (op : Int) (w : World) :
    Calls Tryd.prog 73 #[.int .i64 op] w fun e w' => e = .returned (.bool (decide (40 ≤ op ∧ op ≤ 45))) ∧ ∃ m, w' = w.drewN m := by
  go_enter Tryd.func73, Tryd.ntmps73
  go_wp2
  all_goals go_ret
  all_goals refine ⟨ret_iff ?_, 0, rfl⟩
  all_goals try simp only [beq_iff_eq, beq_eq_false_iff_ne, bne_iff_ne, ne_eq, decide_eq_true_eq, decide_eq_false_iff_not, Bool.and_eq_true, Bool.or_eq_true, Bool.not_eq_true', Bool.and_eq_false_imp, Bool.false_eq_true, true_iff, iff_true, false_iff, iff_false] at *
  all_goals omega
theorem layout_any (op : Int) (w : World) :
    Calls Tryd.prog 41 #[.int .i64 op] w fun e w' => e = .returned (.int .i64 (lay op)) ∧ ∃ m, w' = w.drewN m := by
  go_enter Tryd.func41, Tryd.ntmps41
  go_wp2_with (go_at_call 73; refine (branch_any _ _).mono ?_; rintro e w' ⟨rfl, m, rfl⟩)
  all_goals go_ret
  all_goals refine ⟨ret_int ?_, by first | exact ⟨0, rfl⟩ | exact ⟨_, rfl⟩⟩
  all_goals try simp only [beq_iff_eq, beq_eq_false_iff_ne, ne_eq, decide_eq_true_eq, decide_eq_false_iff_not] at *
  all_goals (symm; unfold lay; first | (rw [if_pos (by omega)]; done) | (rw [if_neg (by omega), if_pos (by omega)]; done) | (rw [if_neg (by omega), if_neg (by omega), if_pos (by omega)]; done) | (rw [if_neg (by omega), if_neg (by omega), if_neg (by omega), if_pos (by omega)]; done) | (rw [if_neg (by omega), if_neg (by omega), if_neg (by omega), if_neg (by omega), if_pos (by omega)]; done) | (rw [if_neg (by omega), if_neg (by omega), if_neg (by omega), if_neg (by omega), if_neg (by omega)]; done))
theorem imm_any (op : Int) (w : World) :
    Calls Tryd.prog 74 #[.int .i64 op] w fun e w' => e = .returned (.tuple #[.int .i32 (lo op), .int .i32 (hi op)]) ∧ ∃ m, w' = w.drewN m := by
  go_enter Tryd.func74, Tryd.ntmps74
  go_wp2_with (go_at_call 41; refine (layout_any _ _).mono ?_; rintro e w' ⟨rfl, m, rfl⟩)
  all_goals go_ret2
  all_goals refine ⟨ret_int2 ?_ ?_, by first | exact ⟨0, rfl⟩ | exact ⟨_, rfl⟩⟩
  all_goals try simp only [beq_iff_eq, beq_eq_false_iff_ne, bne_iff_ne, ne_eq, decide_eq_true_eq, decide_eq_false_iff_not, Bool.and_eq_true, Bool.or_eq_true, Bool.not_eq_true', Bool.and_eq_false_imp] at *
  all_goals (rcases kind op with k | k | k | k | k | k | k | k | k | k | k <;> obtain ⟨k1, k2, k3, k4, k5⟩ := k <;> omega)
theorem reg_any (r : Int) (w : World) :
    Calls Tryd.prog 75 #[.int .i64 r] w fun e w' => e = .returned (.bool (decide (0 ≤ r ∧ r ≤ 15))) ∧ ∃ m, w' = w.drewN m := by
  go_enter Tryd.func75, Tryd.ntmps75
  go_wp2
  all_goals go_ret
  all_goals refine ⟨ret_iff ?_, by first | exact ⟨0, rfl⟩ | exact ⟨_, rfl⟩⟩
  all_goals try simp only [beq_iff_eq, beq_eq_false_iff_ne, bne_iff_ne, ne_eq, decide_eq_true_eq, decide_eq_false_iff_not, Bool.and_eq_true, Bool.or_eq_true, Bool.not_eq_true', Bool.and_eq_false_imp, Bool.false_eq_true, true_iff, iff_true, false_iff, iff_false] at *
  all_goals omega
theorem reg_ref (r : Int) (w : World) :
    Calls Tryd.prog 34 #[.int .i64 r] w fun e w' => e = .returned (.bool (decide (0 ≤ r ∧ r ≤ 15))) ∧ ∃ m, w' = w.drewN m := by
  go_enter Tryd.func34, Tryd.ntmps34
  go_wp2
  all_goals go_ret
  all_goals refine ⟨ret_iff ?_, by first | exact ⟨0, rfl⟩ | exact ⟨_, rfl⟩⟩
  all_goals try simp only [beq_iff_eq, beq_eq_false_iff_ne, bne_iff_ne, ne_eq, decide_eq_true_eq, decide_eq_false_iff_not, Bool.and_eq_true, Bool.or_eq_true, Bool.not_eq_true', Bool.and_eq_false_imp, Bool.false_eq_true, true_iff, iff_true, false_iff, iff_false] at *
  all_goals omega
set_option maxHeartbeats 2000000 in
theorem form_ref (op : Int) (w : World) :
    Calls Tryd.prog 33 #[.int .i64 op] w fun e w' => e = .returned (.int .i64 (frm op)) ∧ ∃ m, w' = w.drewN m := by
  go_enter Tryd.func33, Tryd.ntmps33
  go_wp2
  all_goals go_ret
  all_goals refine ⟨ret_int ?_, by first | exact ⟨0, rfl⟩ | exact ⟨_, rfl⟩⟩
  all_goals try simp only [beq_iff_eq, beq_eq_false_iff_ne, bne_iff_ne, ne_eq, decide_eq_true_eq, decide_eq_false_iff_not, Bool.and_eq_true, Bool.or_eq_true, Bool.not_eq_true', Bool.and_eq_false_imp] at *
  all_goals (rcases kind op with k | k | k | k | k | k | k | k | k | k | k <;> obtain ⟨k1, k2, k3, k4, k5⟩ := k <;> omega)
theorem bounds_ref (f : Int) (w : World) :
    Calls Tryd.prog 35 #[.int .i64 f] w fun e w' => e = .returned (.tuple #[.int .i64 (flo f), .int .i64 (fhi f)]) ∧ ∃ m, w' = w.drewN m := by
  go_enter Tryd.func35, Tryd.ntmps35
  go_wp2
  all_goals go_ret2
  all_goals refine ⟨ret_int2 ?_ ?_, by first | exact ⟨0, rfl⟩ | exact ⟨_, rfl⟩⟩
  all_goals try simp only [beq_iff_eq, beq_eq_false_iff_ne, bne_iff_ne, ne_eq, decide_eq_true_eq, decide_eq_false_iff_not, Bool.and_eq_true, Bool.or_eq_true, Bool.not_eq_true', Bool.and_eq_false_imp] at *
  all_goals first
    | (symm; unfold flo; first | (rw [if_pos (by omega)]; done) | (rw [if_neg (by omega)]; done))
    | (symm; unfold fhi; first | (rw [if_pos (by omega)]; done) | (rw [if_neg (by omega), if_pos (by omega)]; done) | (rw [if_neg (by omega), if_neg (by omega), if_pos (by omega)]; done) | (rw [if_neg (by omega), if_neg (by omega), if_neg (by omega), if_pos (by omega)]; done) | (rw [if_neg (by omega), if_neg (by omega), if_neg (by omega), if_neg (by omega), if_pos (by omega)]; done) | (rw [if_neg (by omega), if_neg (by omega), if_neg (by omega), if_neg (by omega), if_neg (by omega)]; done))
theorem priv_any (op : Int) (w : World) :
    Calls Tryd.prog 23 #[.int .i64 op] w fun e w' => e = .returned (.bool (decide (57 ≤ op ∧ op ≤ 64))) ∧ ∃ m, w' = w.drewN m := by
  go_enter Tryd.func23, Tryd.ntmps23
  go_wp2
  all_goals go_ret
  all_goals refine ⟨ret_iff ?_, by first | exact ⟨0, rfl⟩ | exact ⟨_, rfl⟩⟩
  all_goals try simp only [beq_iff_eq, beq_eq_false_iff_ne, bne_iff_ne, ne_eq, decide_eq_true_eq, decide_eq_false_iff_not, Bool.and_eq_true, Bool.or_eq_true, Bool.not_eq_true', Bool.and_eq_false_imp, Bool.false_eq_true, true_iff, iff_true, false_iff, iff_false] at *
  all_goals omega
theorem priv_ref (op : Int) (w : World) :
    Calls Tryd.prog 57 #[.int .i64 op] w fun e w' => e = .returned (.bool (decide (57 ≤ op ∧ op ≤ 64))) ∧ ∃ m, w' = w.drewN m := by
  go_enter Tryd.func57, Tryd.ntmps57
  go_wp2
  all_goals go_ret
  all_goals refine ⟨ret_iff ?_, by first | exact ⟨0, rfl⟩ | exact ⟨_, rfl⟩⟩
  all_goals try simp only [beq_iff_eq, beq_eq_false_iff_ne, bne_iff_ne, ne_eq, decide_eq_true_eq, decide_eq_false_iff_not, Bool.and_eq_true, Bool.or_eq_true, Bool.not_eq_true', Bool.and_eq_false_imp, Bool.false_eq_true, true_iff, iff_true, false_iff, iff_false] at *
  all_goals omega
/-- An operation that ends a block. -/
def EndsOp (op : Int) : Prop := (40 ≤ op ∧ op ≤ 45) ∨ (48 ≤ op ∧ op ≤ 49) ∨ (56 ≤ op ∧ op ≤ 64)
instance (op : Int) : Decidable (EndsOp op) := by unfold EndsOp; infer_instance
theorem ends_iff (op : Int) : decide (EndsOp op) = true ↔ (40 ≤ op ∧ op ≤ 45) ∨ (48 ≤ op ∧ op ≤ 49) ∨ (56 ≤ op ∧ op ≤ 64) := by rw [decide_eq_true_eq]; rfl
end Go.Proofs.YtfnfbdjbdbifaaaDoor
