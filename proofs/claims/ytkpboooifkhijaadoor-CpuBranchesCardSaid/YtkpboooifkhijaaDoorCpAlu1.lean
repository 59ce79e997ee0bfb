import Derived.Test.YtkpboooifkhijaaDoorCpAlu
namespace Go.Proofs.YtkpboooifkhijaaDoor
set_option linter.unusedVariables false
set_option linter.unusedSimpArgs false
open Go.ChangeShapes Go.WideShapes Go.ChangeAt Go.RowKit Go.Proofs.YtkpboooifkhijaaDoor.Num Go.Proofs.YtkpboooifkhijaaDoor.Mem Go.Proofs.YtkpboooifkhijaaDoor.Isa
set_option maxHeartbeats 4000000 in
theorem alu_g1 (op a b : Int) (w : World) (a0 : 0 ≤ a) (a1 : a ≤ 4294967295) (b0 : 0 ≤ b) (b1 : b ≤ 4294967295) (ho : op = 1 ∨ op = 3 ∨ op = 4 ∨ op = 5 ∨ op = 9 ∨ op = 16 ∨ op = 17 ∨ op = 18 ∨ op = 19) :
    Calls Tryd.prog 38 #[.int .i64 op, .int .u32 a, .int .u32 b] w (AluPost op a b w) := by
  rcases ho with rfl | rfl | rfl | rfl | rfl | rfl | rfl | rfl | rfl
  all_goals
    go_enter Tryd.func38, Tryd.ntmps38
    repeat' (first
      | (with_reducible refine then_normal ?_) | (with_reducible refine wp_exit ?_) | (with_reducible refine wp_ret ?_) | (with_reducible refine then_exit ?_) | (with_reducible refine blk_hit ?_) | (with_reducible refine blk_pass (by decide) ?_) | (with_reducible refine then_ret ?_) | (with_reducible refine blk_ret ?_) | (with_reducible refine blk_normal ?_)
      | (go_at_call 68; refine (div_any _ _ _ a0 a1 b0 b1).mono ?_; rintro e w1 ⟨rfl, m1, rfl⟩)
      | (go_at_call 69; refine (truth_any _ _).mono ?_; rintro e w1 ⟨rfl, rfl⟩)
      | go_values | go_skip | go_guarded | go_step | go_upon | (simp only [Int.not_lt, Int.not_le] at *; go_simp) | (go_values <;> (try go_simp)) | (go_ite <;> go_prune <;> (try go_simp)))
  all_goals go_ret2
  · exact ⟨ret_ub (av1 a b).symm rfl, 0, rfl⟩
  · exact ⟨ret_ub (av3 a b).symm rfl, 0, rfl⟩
  · exact ⟨ret_ub (av4 a b).symm rfl, 0, rfl⟩
  · exact ⟨ret_ub (av5 a b).symm rfl, 0, rfl⟩
  · exact ⟨ret_ub (av9 a b).symm rfl, 0, rfl⟩
  · exact ⟨ret_ub (av16 a b).symm rfl, 0, rfl⟩
  · exact ⟨ret_ub (av17 a b).symm rfl, 0, rfl⟩
  · exact ⟨ret_ub (av18 a b).symm rfl, 0, rfl⟩
  · exact ⟨ret_ub (av19 a b).symm rfl, 0, rfl⟩
set_option maxHeartbeats 4000000 in
theorem alu_g5 (op a b : Int) (w : World) (a0 : 0 ≤ a) (a1 : a ≤ 4294967295) (b0 : 0 ≤ b) (b1 : b ≤ 4294967295) (ho : op = 2) :
    Calls Tryd.prog 38 #[.int .i64 op, .int .u32 a, .int .u32 b] w (AluPost op a b w) := by
  rcases ho with rfl
  all_goals
    go_enter Tryd.func38, Tryd.ntmps38
    repeat' (first
      | (with_reducible refine then_normal ?_) | (with_reducible refine wp_exit ?_) | (with_reducible refine wp_ret ?_) | (with_reducible refine then_exit ?_) | (with_reducible refine blk_hit ?_) | (with_reducible refine blk_pass (by decide) ?_) | (with_reducible refine then_ret ?_) | (with_reducible refine blk_ret ?_) | (with_reducible refine blk_normal ?_)
      | (go_at_call 68; refine (div_any _ _ _ a0 a1 b0 b1).mono ?_; rintro e w1 ⟨rfl, m1, rfl⟩)
      | (go_at_call 69; refine (truth_any _ _).mono ?_; rintro e w1 ⟨rfl, rfl⟩)
      | go_values | go_skip | go_guarded | go_step | go_upon | (simp only [Int.not_lt, Int.not_le] at *; go_simp) | (go_values <;> (try go_simp)) | (go_ite <;> go_prune <;> (try go_simp)))
  all_goals go_ret2
  exact ⟨ret_ub (by show _ = (a - b) % 4294967296; omega) rfl, 0, rfl⟩
end Go.Proofs.YtkpboooifkhijaaDoor
