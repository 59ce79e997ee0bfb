import Derived.Test.YthghbcjaokpilaaDoorIsaFn2
import Derived.Laws.ResultCell
namespace Go.Proofs.YthghbcjaokpilaaDoor
set_option linter.unusedVariables false
set_option linter.unusedSimpArgs false
open Go.ChangeShapes Go.WideShapes Go.ChangeAt Go.RowKit Go.Proofs.YthghbcjaokpilaaDoor.Num Go.Proofs.YthghbcjaokpilaaDoor.Isa Go.Proofs.YthghbcjaokpilaaDoor.Mem
theorem ret_dec {op a b c m op' a' b' c' m' : Int} {k k' : Bool} (h0 : op = op') (h1 : a = a') (h2 : b = b') (h3 : c = c') (h4 : m = m') (h5 : k = k') :
    Ending.returned (.tuple #[.agg #[.int .i64 op, .int .i64 a, .int .i64 b, .int .i64 c, .int .i32 m], .bool k]) = .returned (.tuple #[.agg #[.int .i64 op', .int .i64 a', .int .i64 b', .int .i64 c', .int .i32 m'], .bool k']) := by
  rw [h0, h1, h2, h3, h4, h5]
theorem immOf_bd (op x : Int) (h0 : 0 ≤ x) (h1 : x ≤ 65535) : -2147483648 ≤ immOf op x ∧ immOf op x ≤ 2147483647 := by
  unfold immOf; split <;> omega
/-- What a call leaves where it was. -/
theorem still {w w' : World} {p : Addr} {v : Value} (h : w.cell? p = some v) (hb : Below w.heap.size w w') : w'.cell? p = some v := (hb.cell (block_lt_of_cell h)).trans h
end Go.Proofs.YthghbcjaokpilaaDoor
