import Derived.Test.YtfnfbdjbdbifaaaDoorCpFn
namespace Go.Proofs.YtfnfbdjbdbifaaaDoor
set_option linter.unusedVariables false
set_option linter.unusedSimpArgs false
open Go.ChangeShapes Go.WideShapes Go.ChangeAt Go.RowKit Go.Proofs.YtfnfbdjbdbifaaaDoor.Num Go.Proofs.YtfnfbdjbdbifaaaDoor.Mem Go.Proofs.YtfnfbdjbdbifaaaDoor.Isa
theorem plain_ref (op : Int) (w : World) :
    Calls Tryd.prog 89 #[.int .i64 op] w fun e w' => e = .returned (.int .i64 (pln op)) ∧ w' = w := by
  go_enter Tryd.func89, Tryd.ntmps89
  go_wp2
  all_goals go_ret
  all_goals exact ⟨ret_int (by unfold pln; simp_all), rfl⟩
/-- The operations that compute. -/
theorem alu_cases (op : Int) : (op = 1 ∨ op = 2 ∨ op = 3 ∨ op = 4 ∨ op = 5 ∨ op = 6 ∨ op = 7 ∨ op = 8 ∨ op = 9 ∨ op = 10 ∨ op = 11 ∨ op = 12 ∨ op = 13 ∨ op = 16 ∨ op = 17 ∨ op = 18 ∨ op = 19 ∨ op = 20 ∨ op = 21 ∨ op = 22 ∨ op = 23) ∨ aluB op = false := by
  unfold aluB
  simp only [decide_eq_false_iff_not]
  omega
theorem aluB_pln (op : Int) : aluB op = decide (1 ≤ pln op ∧ pln op ≤ 13) := by
  unfold aluB pln
  rw [Bool.eq_iff_iff]
  simp only [decide_eq_true_eq]
  repeat' split
  all_goals omega
theorem aluV_none (op a b : Int) (h : aluB op = false) : aluV op a b = 0 := by
  rw [aluB_pln] at h
  have h := of_decide_eq_false h
  unfold aluV aluP
  generalize pln op = p at *
  rw [if_neg (by omega), if_neg (by omega), if_neg (by omega), if_neg (by omega), if_neg (by omega), if_neg (by omega), if_neg (by omega), if_neg (by omega), if_neg (by omega), if_neg (by omega), if_neg (by omega), if_neg (by omega), if_neg (by omega)]
def AluPost (op a b : Int) (w : World) (e : Ending) (w' : World) : Prop := e = .returned (.tuple #[.int .u32 (aluV op a b), .bool (aluB op)]) ∧ ∃ m, w' = w.drewN m
theorem ret_ub {a b : Int} {c d : Bool} (h : a = b) (h' : c = d) : Ending.returned (.tuple #[.int .u32 a, .bool c]) = .returned (.tuple #[.int .u32 b, .bool d]) := by rw [h, h']
theorem av16 (a b : Int) : aluV 16 a b = (a + b) % 4294967296 := rfl
theorem av17 (a b : Int) : aluV 17 a b = bits .and .u32 a b := rfl
theorem av18 (a b : Int) : aluV 18 a b = bits .or .u32 a b := rfl
theorem av19 (a b : Int) : aluV 19 a b = bits .xor .u32 a b := rfl
theorem av20 (a b : Int) : aluV 20 a b = a * 2 ^ (b % 32).toNat % 4294967296 := rfl
theorem av21 (a b : Int) : aluV 21 a b = a / 2 ^ (b % 32).toNat := rfl
theorem av8 (a b : Int) : aluV 8 a b = wrap32 a / 2 ^ (b % 32).toNat % 4294967296 := rfl
theorem av22 (a b : Int) : aluV 22 a b = wrap32 a / 2 ^ (b % 32).toNat % 4294967296 := rfl
theorem av23 (a b : Int) : aluV 23 a b = if wrap32 a < wrap32 b then 1 else 0 := rfl
end Go.Proofs.YtfnfbdjbdbifaaaDoor
