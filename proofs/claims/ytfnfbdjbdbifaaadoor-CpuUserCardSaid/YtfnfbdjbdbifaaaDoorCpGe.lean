import Derived.Test.YtfnfbdjbdbifaaaDoorCpAlu
namespace Go.Proofs.YtfnfbdjbdbifaaaDoor
set_option linter.unusedVariables false
set_option linter.unusedSimpArgs false
open Go.ChangeShapes Go.WideShapes Go.ChangeAt Go.RowKit Go.Proofs.YtfnfbdjbdbifaaaDoor.Num Go.Proofs.YtfnfbdjbdbifaaaDoor.Mem Go.Proofs.YtfnfbdjbdbifaaaDoor.Isa
set_option maxHeartbeats 4000000 in
theorem alu_g1 (op a b : Int) (w : World) (a0 : 0 ≤ a) (a1 : a ≤ 4294967295) (b0 : 0 ≤ b) (b1 : b ≤ 4294967295) (ho : op = 1 ∨ op = 3 ∨ op = 4 ∨ op = 5 ∨ op = 9 ∨ op = 16 ∨ op = 17 ∨ op = 18 ∨ op = 19) :
    Calls Tryd.prog 32 #[.int .i64 op, .int .u32 a, .int .u32 b] w (AluPost op a b w) := by
  rcases ho with rfl | rfl | rfl | rfl | rfl | rfl | rfl | rfl | rfl
  all_goals
    go_enter Tryd.func32, Tryd.ntmps32
    repeat' (first
      | (with_reducible refine then_normal ?_) | (with_reducible refine wp_exit ?_) | (with_reducible refine wp_ret ?_) | (with_reducible refine then_exit ?_) | (with_reducible refine blk_hit ?_) | (with_reducible refine blk_pass (by decide) ?_) | (with_reducible refine then_ret ?_) | (with_reducible refine blk_ret ?_) | (with_reducible refine blk_normal ?_)
      | (go_at_call 63; refine (div_any _ _ _ a0 a1 b0 b1).mono ?_; rintro e w1 ⟨rfl, m1, rfl⟩)
      | (go_at_call 64; refine (truth_any _ _).mono ?_; rintro e w1 ⟨rfl, rfl⟩)
      | go_values | go_skip | go_guarded | go_step | go_upon | (simp only [Int.not_lt, Int.not_le] at *; go_simp) | (go_values <;> (try go_simp)) | (go_ite <;> go_prune <;> (try go_simp)))
  all_goals go_ret2
  · exact ⟨ret_ub (av1 a b).symm rfl, 0, rfl⟩
  · exact ⟨ret_ub (av3 a b).symm rfl, 0, rfl⟩
  · exact ⟨ret_ub (av4 a b).symm rfl, 0, rfl⟩
  · exact ⟨ret_ub (av5 a b).symm rfl, 0, rfl⟩
  · exact ⟨ret_ub (av9 a b).symm rfl, 0, rfl⟩
  · exact ⟨ret_ub (av16 a b).symm rfl, 0, rfl⟩
  · exact ⟨ret_ub (av17 a b).symm rfl, 0, rfl⟩
  · exact ⟨ret_ub (av18 a b).symm rfl, 0, rfl⟩
  · exact ⟨ret_ub (av19 a b).symm rfl, 0, rfl⟩
set_option maxHeartbeats 4000000 in
theorem alu_g5 (op a b : Int) (w : World) (a0 : 0 ≤ a) (a1 : a ≤ 4294967295) (b0 : 0 ≤ b) (b1 : b ≤ 4294967295) (ho : op = 2) :
    Calls Tryd.prog 32 #[.int .i64 op, .int .u32 a, .int .u32 b] w (AluPost op a b w) := by
  rcases ho with rfl
  all_goals
    go_enter Tryd.func32, Tryd.ntmps32
    repeat' (first
      | (with_reducible refine then_normal ?_) | (with_reducible refine wp_exit ?_) | (with_reducible refine wp_ret ?_) | (with_reducible refine then_exit ?_) | (with_reducible refine blk_hit ?_) | (with_reducible refine blk_pass (by decide) ?_) | (with_reducible refine then_ret ?_) | (with_reducible refine blk_ret ?_) | (with_reducible refine blk_normal ?_)
      | (go_at_call 63; refine (div_any _ _ _ a0 a1 b0 b1).mono ?_; rintro e w1 ⟨rfl, m1, rfl⟩)
      | (go_at_call 64; refine (truth_any _ _).mono ?_; rintro e w1 ⟨rfl, rfl⟩)
      | go_values | go_skip | go_guarded | go_step | go_upon | (simp only [Int.not_lt, Int.not_le] at *; go_simp) | (go_values <;> (try go_simp)) | (go_ite <;> go_prune <;> (try go_simp)))
  all_goals go_ret2
  exact ⟨ret_ub (by show _ = (a - b) % 4294967296; omega) rfl, 0, rfl⟩
end Go.Proofs.YtfnfbdjbdbifaaaDoor

namespace Go.Proofs.YtfnfbdjbdbifaaaDoor
set_option linter.unusedVariables false
set_option linter.unusedSimpArgs false
open Go.ChangeShapes Go.WideShapes Go.ChangeAt Go.RowKit Go.Proofs.YtfnfbdjbdbifaaaDoor.Num Go.Proofs.YtfnfbdjbdbifaaaDoor.Mem Go.Proofs.YtfnfbdjbdbifaaaDoor.Isa
set_option maxHeartbeats 4000000 in
theorem alu_g2 (op a b : Int) (w : World) (a0 : 0 ≤ a) (a1 : a ≤ 4294967295) (b0 : 0 ≤ b) (b1 : b ≤ 4294967295) (ho : op = 6 ∨ op = 7 ∨ op = 8 ∨ op = 20 ∨ op = 21 ∨ op = 22) :
    Calls Tryd.prog 32 #[.int .i64 op, .int .u32 a, .int .u32 b] w (AluPost op a b w) := by
  have hb := and_31 b b0 b1
  rcases ho with rfl | rfl | rfl | rfl | rfl | rfl
  all_goals
    go_enter Tryd.func32, Tryd.ntmps32
    repeat' (first
      | (with_reducible refine then_normal ?_) | (with_reducible refine wp_exit ?_) | (with_reducible refine wp_ret ?_) | (with_reducible refine then_exit ?_) | (with_reducible refine blk_hit ?_) | (with_reducible refine blk_pass (by decide) ?_) | (with_reducible refine then_ret ?_) | (with_reducible refine blk_ret ?_) | (with_reducible refine blk_normal ?_)
      | (go_at_call 63; refine (div_any _ _ _ a0 a1 b0 b1).mono ?_; rintro e w1 ⟨rfl, m1, rfl⟩)
      | (go_at_call 64; refine (truth_any _ _).mono ?_; rintro e w1 ⟨rfl, rfl⟩)
      | go_values | go_skip | go_guarded | go_step | go_upon | (simp only [Int.not_lt, Int.not_le] at *; go_simp) | (go_values <;> (try go_simp)) | (go_ite <;> go_prune <;> (try go_simp)))
  all_goals go_ret2
  · exact ⟨ret_ub (av6 a b).symm rfl, 0, rfl⟩
  · exact ⟨ret_ub (av7 a b).symm rfl, 0, rfl⟩
  · exact ⟨ret_ub (av8 a b).symm rfl, 0, rfl⟩
  · exact ⟨ret_ub (av20 a b).symm rfl, 0, rfl⟩
  · exact ⟨ret_ub (av21 a b).symm rfl, 0, rfl⟩
  · exact ⟨ret_ub (av22 a b).symm rfl, 0, rfl⟩
end Go.Proofs.YtfnfbdjbdbifaaaDoor

namespace Go.Proofs.YtfnfbdjbdbifaaaDoor
set_option linter.unusedVariables false
set_option linter.unusedSimpArgs false
open Go.ChangeShapes Go.WideShapes Go.ChangeAt Go.RowKit Go.Proofs.YtfnfbdjbdbifaaaDoor.Num Go.Proofs.YtfnfbdjbdbifaaaDoor.Mem Go.Proofs.YtfnfbdjbdbifaaaDoor.Isa
theorem alu_no (op a b : Int) (w : World) (ho : aluB op = false) :
    Calls Tryd.prog 32 #[.int .i64 op, .int .u32 a, .int .u32 b] w (AluPost op a b w) := by
  have HO := Lib.hid ho
  have hv : aluV op a b = 0 := aluV_none op a b ho
  unfold aluB at ho
  have ho := of_decide_eq_false ho
  have n1 : ¬ op = 1 := by omega
  have n2 : ¬ op = 2 := by omega
  have n3 : ¬ op = 3 := by omega
  have n4 : ¬ op = 4 := by omega
  have n5 : ¬ op = 5 := by omega
  have n6 : ¬ op = 6 := by omega
  have n7 : ¬ op = 7 := by omega
  have n8 : ¬ op = 8 := by omega
  have n9 : ¬ op = 9 := by omega
  have n10 : ¬ op = 10 := by omega
  have n11 : ¬ op = 11 := by omega
  have n12 : ¬ op = 12 := by omega
  have n13 : ¬ op = 13 := by omega
  have n16 : ¬ op = 16 := by omega
  have n17 : ¬ op = 17 := by omega
  have n18 : ¬ op = 18 := by omega
  have n19 : ¬ op = 19 := by omega
  have n20 : ¬ op = 20 := by omega
  have n21 : ¬ op = 21 := by omega
  have n22 : ¬ op = 22 := by omega
  have n23 : ¬ op = 23 := by omega
  have HV := Lib.hid hv
  clear ho hv
  go_enter Tryd.func32, Tryd.ntmps32
  repeat' (first
    | (with_reducible refine then_normal ?_) | (with_reducible refine wp_exit ?_) | (with_reducible refine wp_ret ?_) | (with_reducible refine then_exit ?_) | (with_reducible refine blk_hit ?_) | (with_reducible refine blk_pass (by decide) ?_) | (with_reducible refine then_ret ?_) | (with_reducible refine blk_ret ?_) | (with_reducible refine blk_normal ?_)
    | go_values | go_skip | go_guarded | go_step | go_upon | (simp only [Int.not_lt, Int.not_le] at *; go_simp) | (go_values <;> (try go_simp)) | (go_ite <;> go_prune <;> (try go_simp)))
  go_ret2
  exact ⟨ret_ub HV.out.symm HO.out.symm, 0, rfl⟩
end Go.Proofs.YtfnfbdjbdbifaaaDoor

namespace Go.Proofs.YtfnfbdjbdbifaaaDoor
set_option linter.unusedVariables false
set_option linter.unusedSimpArgs false
open Go.ChangeShapes Go.WideShapes Go.ChangeAt Go.RowKit Go.Proofs.YtfnfbdjbdbifaaaDoor.Num Go.Proofs.YtfnfbdjbdbifaaaDoor.Mem Go.Proofs.YtfnfbdjbdbifaaaDoor.Isa
set_option maxHeartbeats 4000000 in
theorem alu_g3 (op a b : Int) (w : World) (a0 : 0 ≤ a) (a1 : a ≤ 4294967295) (b0 : 0 ≤ b) (b1 : b ≤ 4294967295) (ho : op = 10 ∨ op = 11) :
    Calls Tryd.prog 32 #[.int .i64 op, .int .u32 a, .int .u32 b] w (AluPost op a b w) := by
  rcases ho with rfl | rfl
  all_goals
    go_enter Tryd.func32, Tryd.ntmps32
    repeat' (first
      | (with_reducible refine then_normal ?_) | (with_reducible refine wp_exit ?_) | (with_reducible refine wp_ret ?_) | (with_reducible refine then_exit ?_) | (with_reducible refine blk_hit ?_) | (with_reducible refine blk_pass (by decide) ?_) | (with_reducible refine then_ret ?_) | (with_reducible refine blk_ret ?_) | (with_reducible refine blk_normal ?_)
      | (go_at_call 63; refine (div_any _ _ _ a0 a1 b0 b1).mono ?_; rintro e w1 ⟨rfl, m1, rfl⟩)
      | (go_at_call 64; refine (truth_any _ _).mono ?_; rintro e w1 ⟨rfl, rfl⟩)
      | go_values | go_skip | go_guarded | go_step | go_upon | (simp only [Int.not_lt, Int.not_le] at *; go_simp) | (go_values <;> (try go_simp)) | (go_ite <;> go_prune <;> (try go_simp)))
  all_goals go_ret2
  · exact ⟨ret_ub (av10 a b).symm rfl, m1, rfl⟩
  · exact ⟨ret_ub (av11 a b).symm rfl, m1, rfl⟩
set_option maxHeartbeats 4000000 in
theorem alu_g4 (op a b : Int) (w : World) (a0 : 0 ≤ a) (a1 : a ≤ 4294967295) (b0 : 0 ≤ b) (b1 : b ≤ 4294967295) (ho : op = 12 ∨ op = 13 ∨ op = 23) :
    Calls Tryd.prog 32 #[.int .i64 op, .int .u32 a, .int .u32 b] w (AluPost op a b w) := by
  have xa := xor_sign a a0 a1
  have xb := xor_sign b b0 b1
  have HX := Lib.hid (sltb a b a0 a1 b0 b1)
  rcases ho with rfl | rfl | rfl
  all_goals
    go_enter Tryd.func32, Tryd.ntmps32
    repeat' (first
      | (with_reducible refine then_normal ?_) | (with_reducible refine wp_exit ?_) | (with_reducible refine wp_ret ?_) | (with_reducible refine then_exit ?_) | (with_reducible refine blk_hit ?_) | (with_reducible refine blk_pass (by decide) ?_) | (with_reducible refine then_ret ?_) | (with_reducible refine blk_ret ?_) | (with_reducible refine blk_normal ?_)
      | (go_at_call 63; refine (div_any _ _ _ a0 a1 b0 b1).mono ?_; rintro e w1 ⟨rfl, m1, rfl⟩)
      | (go_at_call 64; refine (truth_any _ _).mono ?_; rintro e w1 ⟨rfl, rfl⟩)
      | go_values | go_skip | go_guarded | go_step | go_upon | (simp only [Int.not_lt, Int.not_le] at *; go_simp) | (go_values <;> (try go_simp)) | (go_ite <;> go_prune <;> (try go_simp)))
  all_goals go_ret2
  all_goals rename_i h
  · exact ⟨ret_ub ((if_pos (HX.out.1 h)).symm.trans (av12 a b).symm) rfl, 0, rfl⟩
  · exact ⟨ret_ub ((if_neg (fun hh => absurd (HX.out.2 hh) (by omega))).symm.trans (av12 a b).symm) rfl, 0, rfl⟩
  · exact ⟨ret_ub ((if_pos h).symm.trans (av13 a b).symm) rfl, 0, rfl⟩
  · exact ⟨ret_ub ((if_neg (by omega)).symm.trans (av13 a b).symm) rfl, 0, rfl⟩
  · exact ⟨ret_ub ((if_pos (HX.out.1 h)).symm.trans (av23 a b).symm) rfl, 0, rfl⟩
  · exact ⟨ret_ub ((if_neg (fun hh => absurd (HX.out.2 hh) (by omega))).symm.trans (av23 a b).symm) rfl, 0, rfl⟩
end Go.Proofs.YtfnfbdjbdbifaaaDoor
