import Derived.Test.YthghbcjaokpilaaDoorFn
import Derived.Lib.Hide
import Derived.Test.YthghbcjaokpilaaDoorNum2
namespace Go.Proofs.YthghbcjaokpilaaDoor
set_option linter.unusedVariables false
open Go.ChangeShapes Go.WideShapes Go.ChangeAt Go.RowKit Go.Proofs.YthghbcjaokpilaaDoor.Num
def retDec : Option (Nat × Nat) → Ending
  | none => .returned (.tuple #[.int .u64 0, .int .i64 0, .bool false])
  | some (v, n) => .returned (.tuple #[.int .u64 v, .int .i64 n, .bool true])
theorem retDec_none {o : Option (Nat × Nat)} (h : o = none) : .returned (.tuple #[.int .u64 0, .int .i64 0, .bool false]) = retDec o := by rw [h]; rfl
theorem retDec_some {o : Option (Nat × Nat)} {v n : Nat} {a b : Int} (h : o = some (v, n)) (ha : a = v) (hb : b = n) : .returned (.tuple #[.int .u64 a, .int .i64 b, .bool true]) = retDec o := by rw [h, ha, hb]; rfl
end Go.Proofs.YthghbcjaokpilaaDoor
