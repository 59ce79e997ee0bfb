import Derived.Test.YtkpboooifkhijaaDoorFn
import Derived.Test.YtkpboooifkhijaaDoorIsaNum
namespace Go.Proofs.YtkpboooifkhijaaDoor
set_option linter.unusedVariables false
set_option linter.unusedSimpArgs false
open Go.ChangeShapes Go.WideShapes Go.ChangeAt Go.RowKit Go.Proofs.YtkpboooifkhijaaDoor.Num Go.Proofs.YtkpboooifkhijaaDoor.Isa
theorem ret_iff {a b : Bool} (h : a = true ↔ b = true) : Ending.returned (.bool a) = .returned (.bool b) := by rw [Bool.eq_iff_iff.2 h]
theorem branch_any (op : Int) (w : World) :
    Calls Tryd.prog 78 #[.int .i64 op] w fun e w' => e = .returned (.bool (decide (40 ≤ op ∧ op ≤ 45))) ∧ ∃ m, w' = w.drewN m := by
  go_enter Tryd.func78, Tryd.ntmps78
  go_wp2
  all_goals go_ret
  all_goals refine ⟨ret_iff ?_, 0, rfl⟩
  all_goals try simp only [beq_iff_eq, beq_eq_false_iff_ne, bne_iff_ne, ne_eq, decide_eq_true_eq, decide_eq_false_iff_not, Bool.and_eq_true, Bool.or_eq_true, Bool.not_eq_true', Bool.and_eq_false_imp, Bool.false_eq_true, true_iff, iff_true, false_iff, iff_false] at *
  all_goals omega
theorem layout_any (op : Int) (w : World) :
    Calls Tryd.prog 47 #[.int .i64 op] w fun e w' => e = .returned (.int .i64 (lay op)) ∧ ∃ m, w' = w.drewN m := by
  go_enter Tryd.func47, Tryd.ntmps47
  go_wp2_with (go_at_call 78; refine (branch_any _ _).mono ?_; rintro e w' ⟨rfl, m, rfl⟩)
  all_goals go_ret
  all_goals refine ⟨ret_int ?_, by first | exact ⟨0, rfl⟩ | exact ⟨_, rfl⟩⟩
  all_goals try simp only [beq_iff_eq, beq_eq_false_iff_ne, ne_eq, decide_eq_true_eq, decide_eq_false_iff_not] at *
  all_goals (symm; unfold lay; first | (rw [if_pos (by omega)]; done) | (rw [if_neg (by omega), if_pos (by omega)]; done) | (rw [if_neg (by omega), if_neg (by omega), if_pos (by omega)]; done) | (rw [if_neg (by omega), if_neg (by omega), if_neg (by omega), if_pos (by omega)]; done) | (rw [if_neg (by omega), if_neg (by omega), if_neg (by omega), if_neg (by omega), if_pos (by omega)]; done) | (rw [if_neg (by omega), if_neg (by omega), if_neg (by omega), if_neg (by omega), if_neg (by omega)]; done))
theorem imm_any (op : Int) (w : World) :
    Calls Tryd.prog 79 #[.int .i64 op] w fun e w' => e = .returned (.tuple #[.int .i32 (lo op), .int .i32 (hi op)]) ∧ ∃ m, w' = w.drewN m := by
  go_enter Tryd.func79, Tryd.ntmps79
  go_wp2_with (go_at_call 47; refine (layout_any _ _).mono ?_; rintro e w' ⟨rfl, m, rfl⟩)
  all_goals go_ret2
  all_goals refine ⟨ret_int2 ?_ ?_, by first | exact ⟨0, rfl⟩ | exact ⟨_, rfl⟩⟩
  all_goals try simp only [beq_iff_eq, beq_eq_false_iff_ne, bne_iff_ne, ne_eq, decide_eq_true_eq, decide_eq_false_iff_not, Bool.and_eq_true, Bool.or_eq_true, Bool.not_eq_true', Bool.and_eq_false_imp] at *
  all_goals (rcases kind op with k | k | k | k | k | k | k | k | k | k | k <;> obtain ⟨k1, k2, k3, k4, k5⟩ := k <;> omega)
theorem reg_any (r : Int) (w : World) :
    Calls Tryd.prog 80 #[.int .i64 r] w fun e w' => e = .returned (.bool (decide (0 ≤ r ∧ r ≤ 15))) ∧ ∃ m, w' = w.drewN m := by
  go_enter Tryd.func80, Tryd.ntmps80
  go_wp2
  all_goals go_ret
  all_goals refine ⟨ret_iff ?_, by first | exact ⟨0, rfl⟩ | exact ⟨_, rfl⟩⟩
  all_goals try simp only [beq_iff_eq, beq_eq_false_iff_ne, bne_iff_ne, ne_eq, decide_eq_true_eq, decide_eq_false_iff_not, Bool.and_eq_true, Bool.or_eq_true, Bool.not_eq_true', Bool.and_eq_false_imp, Bool.false_eq_true, true_iff, iff_true, false_iff, iff_false] at *
  all_goals omega
theorem reg_ref (r : Int) (w : World) :
    Calls Tryd.prog 40 #[.int .i64 r] w fun e w' => e = .returned (.bool (decide (0 ≤ r ∧ r ≤ 15))) ∧ ∃ m, w' = w.drewN m := by
  go_enter Tryd.func40, Tryd.ntmps40
  go_wp2
  all_goals go_ret
  all_goals refine ⟨ret_iff ?_, by first | exact ⟨0, rfl⟩ | exact ⟨_, rfl⟩⟩
  all_goals try simp only [beq_iff_eq, beq_eq_false_iff_ne, bne_iff_ne, ne_eq, decide_eq_true_eq, decide_eq_false_iff_not, Bool.and_eq_true, Bool.or_eq_true, Bool.not_eq_true', Bool.and_eq_false_imp, Bool.false_eq_true, true_iff, iff_true, false_iff, iff_false] at *
  all_goals omega
set_option maxHeartbeats 2000000 in
theorem form_ref (op : Int) (w : World) :
    Calls Tryd.prog 39 #[.int .i64 op] w fun e w' => e = .returned (.int .i64 (frm op)) ∧ ∃ m, w' = w.drewN m := by
  go_enter Tryd.func39, Tryd.ntmps39
  go_wp2
  all_goals go_ret
  all_goals refine ⟨ret_int ?_, by first | exact ⟨0, rfl⟩ | exact ⟨_, rfl⟩⟩
  all_goals try simp only [beq_iff_eq, beq_eq_false_iff_ne, bne_iff_ne, ne_eq, decide_eq_true_eq, decide_eq_false_iff_not, Bool.and_eq_true, Bool.or_eq_true, Bool.not_eq_true', Bool.and_eq_false_imp] at *
  all_goals (rcases kind op with k | k | k | k | k | k | k | k | k | k | k <;> obtain ⟨k1, k2, k3, k4, k5⟩ := k <;> omega)
theorem bounds_ref (f : Int) (w : World) :
    Calls Tryd.prog 41 #[.int .i64 f] w fun e w' => e = .returned (.tuple #[.int .i64 (flo f), .int .i64 (fhi f)]) ∧ ∃ m, w' = w.drewN m := by
  go_enter Tryd.func41, Tryd.ntmps41
  go_wp2
  all_goals go_ret2
  all_goals refine ⟨ret_int2 ?_ ?_, by first | exact ⟨0, rfl⟩ | exact ⟨_, rfl⟩⟩
  all_goals try simp only [beq_iff_eq, beq_eq_false_iff_ne, bne_iff_ne, ne_eq, decide_eq_true_eq, decide_eq_false_iff_not, Bool.and_eq_true, Bool.or_eq_true, Bool.not_eq_true', Bool.and_eq_false_imp] at *
  all_goals first
    | (symm; unfold flo; first | (rw [if_pos (by omega)]; done) | (rw [if_neg (by omega)]; done))
    | (symm; unfold fhi; first | (rw [if_pos (by omega)]; done) | (rw [if_neg (by omega), if_pos (by omega)]; done) | (rw [if_neg (by omega), if_neg (by omega), if_pos (by omega)]; done) | (rw [if_neg (by omega), if_neg (by omega), if_neg (by omega), if_pos (by omega)]; done) | (rw [if_neg (by omega), if_neg (by omega), if_neg (by omega), if_neg (by omega), if_pos (by omega)]; done) | (rw [if_neg (by omega), if_neg (by omega), if_neg (by omega), if_neg (by omega), if_neg (by omega)]; done))
theorem priv_any (op : Int) (w : World) :
    Calls Tryd.prog 29 #[.int .i64 op] w fun e w' => e = .returned (.bool (decide (57 ≤ op ∧ op ≤ 64))) ∧ ∃ m, w' = w.drewN m := by
  go_enter Tryd.func29, Tryd.ntmps29
  go_wp2
  all_goals go_ret
  all_goals refine ⟨ret_iff ?_, by first | exact ⟨0, rfl⟩ | exact ⟨_, rfl⟩⟩
  all_goals try simp only [beq_iff_eq, beq_eq_false_iff_ne, bne_iff_ne, ne_eq, decide_eq_true_eq, decide_eq_false_iff_not, Bool.and_eq_true, Bool.or_eq_true, Bool.not_eq_true', Bool.and_eq_false_imp, Bool.false_eq_true, true_iff, iff_true, false_iff, iff_false] at *
  all_goals omega
theorem priv_ref (op : Int) (w : World) :
    Calls Tryd.prog 19 #[.int .i64 op] w fun e w' => e = .returned (.bool (decide (57 ≤ op ∧ op ≤ 64))) ∧ ∃ m, w' = w.drewN m := by
  go_enter Tryd.func19, Tryd.ntmps19
  go_wp2
  all_goals go_ret
  all_goals refine ⟨ret_iff ?_, by first | exact ⟨0, rfl⟩ | exact ⟨_, rfl⟩⟩
  all_goals try simp only [beq_iff_eq, beq_eq_false_iff_ne, bne_iff_ne, ne_eq, decide_eq_true_eq, decide_eq_false_iff_not, Bool.and_eq_true, Bool.or_eq_true, Bool.not_eq_true', Bool.and_eq_false_imp, Bool.false_eq_true, true_iff, iff_true, false_iff, iff_false] at *
  all_goals omega
/-- An operation that ends a block. -/
def EndsOp (op : Int) : Prop := (40 ≤ op ∧ op ≤ 45) ∨ (48 ≤ op ∧ op ≤ 49) ∨ (56 ≤ op ∧ op ≤ 64)
instance (op : Int) : Decidable (EndsOp op) := by unfold EndsOp; infer_instance
theorem ends_iff (op : Int) : decide (EndsOp op) = true ↔ (40 ≤ op ∧ op ≤ 45) ∨ (48 ≤ op ∧ op ≤ 49) ∨ (56 ≤ op ∧ op ≤ 64) := by rw [decide_eq_true_eq]; rfl
end Go.Proofs.YtkpboooifkhijaaDoor
