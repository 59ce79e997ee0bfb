import Derived.Test.YtkilbakghacooaaNcOpen
import Derived.Test.YtkilbakghacooaaNcLawC
namespace Go.Proofs.Ytkilbakghacooaa
set_option linter.unusedVariables false
set_option linter.unusedSimpArgs false
open Go.ChangeShapes Go.WideShapes Go.ChangeAt Go.RowKit Go.Proofs.Ytkilbakghacooaa.Num Go.Proofs.Ytkilbakghacooaa.Mem
theorem nrec_row (t : Int × Int × Bool × Int × Bool × Int) (hc : 0 ≤ t.1 ∧ t.1 ≤ 4294967295 ∧ 0 ≤ t.2.1 ∧ t.2.1 ≤ 4294967295 ∧ 0 ≤ t.2.2.2.1 ∧ t.2.2.2.1 ≤ 4294967295 ∧ 0 ≤ t.2.2.2.2.2 ∧ t.2.2.2.2.2 ≤ 4294967295) (raw : Bool) (x y : Int) (D : ByteArray) (made : Bool) (w : World) (hx : (Lit.int .i64 x).wf = true) (hy : (Lit.int .i64 y).wf = true) :
    Calls Try.prog 4 #[.agg #[.int .u32 t.1, .int .u32 t.2.1, .bool t.2.2.1, .int .u32 t.2.2.2.1, .bool t.2.2.2.2.1, .int .u32 t.2.2.2.2.2], .bool raw, .int .i64 x, .int .i64 y, .string D, .bool made] w fun e w' => e = .returned (.bool true) ∧ Below w.heap.size w w' := by
  cases made with
  | true => exact nrec_made t.1 t.2.1 t.2.2.1 t.2.2.2.1 t.2.2.2.2.1 t.2.2.2.2.2 raw x y D w hc.1 hc.2.1 hc.2.2.1 hc.2.2.2.1 hc.2.2.2.2.1 hc.2.2.2.2.2.1 hc.2.2.2.2.2.2.1 hc.2.2.2.2.2.2.2 (wf_i64N hx).1 (wf_i64N hx).2 (wf_i64N hy).1 (wf_i64N hy).2
  | false =>
    by_cases hs : D.size ≤ 300
    · exact nrec_short t.1 t.2.1 t.2.2.1 t.2.2.2.1 t.2.2.2.2.1 t.2.2.2.2.2 raw x y D w hc.1 hc.2.1 hc.2.2.1 hc.2.2.2.1 hc.2.2.2.2.1 hc.2.2.2.2.2.1 hc.2.2.2.2.2.2.1 hc.2.2.2.2.2.2.2 (wf_i64N hx).1 (wf_i64N hx).2 (wf_i64N hy).1 (wf_i64N hy).2 hs
    · exact nrec_long t.1 t.2.1 t.2.2.1 t.2.2.2.1 t.2.2.2.2.1 t.2.2.2.2.2 raw x y D w hc.1 hc.2.1 hc.2.2.1 hc.2.2.2.1 hc.2.2.2.2.1 hc.2.2.2.2.2.1 hc.2.2.2.2.2.2.1 hc.2.2.2.2.2.2.2 (wf_i64N hx).1 (wf_i64N hx).2 (wf_i64N hy).1 (wf_i64N hy).2 hs
end Go.Proofs.Ytkilbakghacooaa
