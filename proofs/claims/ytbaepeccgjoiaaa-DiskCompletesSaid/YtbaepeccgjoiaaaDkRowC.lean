import Derived.Test.YtbaepeccgjoiaaaDkOpen
import Derived.Test.YtbaepeccgjoiaaaDkLawC
namespace Go.Proofs.Ytbaepeccgjoiaaa
set_option linter.unusedVariables false
set_option linter.unusedSimpArgs false
open Go.ChangeShapes Go.WideShapes Go.ChangeAt Go.RowKit Go.Proofs.Ytbaepeccgjoiaaa.Num Go.Proofs.Ytbaepeccgjoiaaa.Mem
theorem completes_row (t : Int × Int × Int × Int × Int × Int × Int × ByteArray) (hc : 0 ≤ t.2.2.1 ∧ t.2.2.1 ≤ 4294967295 ∧ 0 ≤ t.2.2.2.2.2.2.1 ∧ t.2.2.2.2.2.2.1 ≤ 4294967295) (raw : Bool) (x y : Int) (e : Int × Int × ByteArray) (he : 0 ≤ e.2.1 ∧ e.2.1 ≤ 4294967295) (made : Bool) (w : World) (hx : (Lit.int .i64 x).wf = true) (hy : (Lit.int .i64 y).wf = true) :
    Calls Try.prog 4 #[.agg #[.int .u32 t.1, .int .u32 t.2.1, .int .u32 t.2.2.1, .int .i64 t.2.2.2.1, .int .i64 t.2.2.2.2.1, .int .u32 t.2.2.2.2.2.1, .int .u32 t.2.2.2.2.2.2.1, .string t.2.2.2.2.2.2.2], .bool raw, .int .i64 x, .int .i64 y, .agg #[.int .i64 e.1, .int .u32 e.2.1, .string e.2.2], .bool made] w fun e w' => e = .returned (.bool true) ∧ Below w.heap.size w w' := by
  cases made with
  | true => exact completes_made t.1 t.2.1 t.2.2.1 t.2.2.2.1 t.2.2.2.2.1 t.2.2.2.2.2.1 t.2.2.2.2.2.2.1 t.2.2.2.2.2.2.2 raw x y e.1 e.2.1 e.2.2 w hc.1 hc.2.1 hc.2.2.1 hc.2.2.2 (wf_i64D hx).1 (wf_i64D hx).2 (wf_i64D hy).1 (wf_i64D hy).2
  | false =>
    by_cases hs : e.2.2.size ≤ 300
    · exact completes_short t.1 t.2.1 t.2.2.1 t.2.2.2.1 t.2.2.2.2.1 t.2.2.2.2.2.1 t.2.2.2.2.2.2.1 t.2.2.2.2.2.2.2 raw x y e.1 e.2.1 e.2.2 w hc.1 hc.2.1 hc.2.2.1 hc.2.2.2 (wf_i64D hx).1 (wf_i64D hx).2 (wf_i64D hy).1 (wf_i64D hy).2 he.1 hs
    · exact completes_long t.1 t.2.1 t.2.2.1 t.2.2.2.1 t.2.2.2.2.1 t.2.2.2.2.2.1 t.2.2.2.2.2.2.1 t.2.2.2.2.2.2.2 raw x y e.1 e.2.1 e.2.2 w hc.1 hc.2.1 hc.2.2.1 hc.2.2.2 (wf_i64D hx).1 (wf_i64D hx).2 (wf_i64D hy).1 (wf_i64D hy).2 hs
end Go.Proofs.Ytbaepeccgjoiaaa
