import Derived.Test.YtackgjmmeojpiaaFn
import Derived.Lib.Hide
import Derived.Test.YtackgjmmeojpiaaNum2
namespace Go.Proofs.Ytackgjmmeojpiaa
set_option linter.unusedVariables false
open Go.ChangeShapes Go.WideShapes Go.ChangeAt Go.RowKit Go.Proofs.Ytackgjmmeojpiaa.Num
theorem next_ref0 (s : Int) (w : World) :
    Calls Try.prog 33 #[.int .u64 s] w fun e w' => e = .returned (.tuple #[.int .u64 (mixed s), .int .u64 (seedStep s)]) ∧ w = w' := by
  go_enter Try.func33, Try.ntmps33
  go_wp2
  go_ret2
  exact ⟨ret_int2 rfl rfl, rfl⟩
theorem next_ref (s : Int) (w : World) :
    Calls Try.prog 33 #[.int .u64 s] w fun e w' => e = .returned (.tuple #[.int .u64 (mixed s), .int .u64 (seedStep s)]) ∧ ∃ m, w' = w.drewN m :=
  (next_ref0 s w).mono fun _ _ ⟨h, hw⟩ => ⟨h, 0, hw.symm⟩
def retDec : Option (Nat × Nat) → Ending
  | none => .returned (.tuple #[.int .u64 0, .int .i64 0, .bool false])
  | some (v, n) => .returned (.tuple #[.int .u64 v, .int .i64 n, .bool true])
theorem retDec_none {o : Option (Nat × Nat)} (h : o = none) : .returned (.tuple #[.int .u64 0, .int .i64 0, .bool false]) = retDec o := by rw [h]; rfl
theorem retDec_some {o : Option (Nat × Nat)} {v n : Nat} {a b : Int} (h : o = some (v, n)) (ha : a = v) (hb : b = n) : .returned (.tuple #[.int .u64 a, .int .i64 b, .bool true]) = retDec o := by rw [h, ha, hb]; rfl
end Go.Proofs.Ytackgjmmeojpiaa
