import Derived.Test.YtkpboooifkhijaaDoorCpAlu
namespace Go.Proofs.YtkpboooifkhijaaDoor
set_option linter.unusedVariables false
set_option linter.unusedSimpArgs false
open Go.ChangeShapes Go.WideShapes Go.ChangeAt Go.RowKit Go.Proofs.YtkpboooifkhijaaDoor.Num Go.Proofs.YtkpboooifkhijaaDoor.Mem Go.Proofs.YtkpboooifkhijaaDoor.Isa
set_option maxHeartbeats 4000000 in
theorem alu_g3 (op a b : Int) (w : World) (a0 : 0 ≤ a) (a1 : a ≤ 4294967295) (b0 : 0 ≤ b) (b1 : b ≤ 4294967295) (ho : op = 10 ∨ op = 11) :
    Calls Tryd.prog 38 #[.int .i64 op, .int .u32 a, .int .u32 b] w (AluPost op a b w) := by
  rcases ho with rfl | rfl
  all_goals
    go_enter Tryd.func38, Tryd.ntmps38
    repeat' (first
      | (with_reducible refine then_normal ?_) | (with_reducible refine wp_exit ?_) | (with_reducible refine wp_ret ?_) | (with_reducible refine then_exit ?_) | (with_reducible refine blk_hit ?_) | (with_reducible refine blk_pass (by decide) ?_) | (with_reducible refine then_ret ?_) | (with_reducible refine blk_ret ?_) | (with_reducible refine blk_normal ?_)
      | (go_at_call 68; refine (div_any _ _ _ a0 a1 b0 b1).mono ?_; rintro e w1 ⟨rfl, m1, rfl⟩)
      | (go_at_call 69; refine (truth_any _ _).mono ?_; rintro e w1 ⟨rfl, rfl⟩)
      | go_values | go_skip | go_guarded | go_step | go_upon | (simp only [Int.not_lt, Int.not_le] at *; go_simp) | (go_values <;> (try go_simp)) | (go_ite <;> go_prune <;> (try go_simp)))
  all_goals go_ret2
  · exact ⟨ret_ub (av10 a b).symm rfl, m1, rfl⟩
  · exact ⟨ret_ub (av11 a b).symm rfl, m1, rfl⟩
set_option maxHeartbeats 4000000 in
theorem alu_g4 (op a b : Int) (w : World) (a0 : 0 ≤ a) (a1 : a ≤ 4294967295) (b0 : 0 ≤ b) (b1 : b ≤ 4294967295) (ho : op = 12 ∨ op = 13 ∨ op = 23) :
    Calls Tryd.prog 38 #[.int .i64 op, .int .u32 a, .int .u32 b] w (AluPost op a b w) := by
  have xa := xor_sign a a0 a1
  have xb := xor_sign b b0 b1
  have HX := Lib.hid (sltb a b a0 a1 b0 b1)
  rcases ho with rfl | rfl | rfl
  all_goals
    go_enter Tryd.func38, Tryd.ntmps38
    repeat' (first
      | (with_reducible refine then_normal ?_) | (with_reducible refine wp_exit ?_) | (with_reducible refine wp_ret ?_) | (with_reducible refine then_exit ?_) | (with_reducible refine blk_hit ?_) | (with_reducible refine blk_pass (by decide) ?_) | (with_reducible refine then_ret ?_) | (with_reducible refine blk_ret ?_) | (with_reducible refine blk_normal ?_)
      | (go_at_call 68; refine (div_any _ _ _ a0 a1 b0 b1).mono ?_; rintro e w1 ⟨rfl, m1, rfl⟩)
      | (go_at_call 69; refine (truth_any _ _).mono ?_; rintro e w1 ⟨rfl, rfl⟩)
      | go_values | go_skip | go_guarded | go_step | go_upon | (simp only [Int.not_lt, Int.not_le] at *; go_simp) | (go_values <;> (try go_simp)) | (go_ite <;> go_prune <;> (try go_simp)))
  all_goals go_ret2
  all_goals rename_i h
  · exact ⟨ret_ub ((if_pos (HX.out.1 h)).symm.trans (av12 a b).symm) rfl, 0, rfl⟩
  · exact ⟨ret_ub ((if_neg (fun hh => absurd (HX.out.2 hh) (by omega))).symm.trans (av12 a b).symm) rfl, 0, rfl⟩
  · exact ⟨ret_ub ((if_pos h).symm.trans (av13 a b).symm) rfl, 0, rfl⟩
  · exact ⟨ret_ub ((if_neg (by omega)).symm.trans (av13 a b).symm) rfl, 0, rfl⟩
  · exact ⟨ret_ub ((if_pos (HX.out.1 h)).symm.trans (av23 a b).symm) rfl, 0, rfl⟩
  · exact ⟨ret_ub ((if_neg (fun hh => absurd (HX.out.2 hh) (by omega))).symm.trans (av23 a b).symm) rfl, 0, rfl⟩
end Go.Proofs.YtkpboooifkhijaaDoor
