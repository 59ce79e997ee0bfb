import Derived.Test.YtkilbakghacooaaNcOpen
import Derived.Test.YtkilbakghacooaaNcLawK
namespace Go.Proofs.Ytkilbakghacooaa
set_option linter.unusedVariables false
set_option linter.unusedSimpArgs false
open Go.ChangeShapes Go.WideShapes Go.ChangeAt Go.RowKit Go.Proofs.Ytkilbakghacooaa.Num Go.Proofs.Ytkilbakghacooaa.Mem
theorem nkeeps_row (t : Int × Int × Bool × Int × Bool × Int) (hc : 0 ≤ t.1 ∧ t.1 ≤ 4294967295 ∧ 0 ≤ t.2.1 ∧ t.2.1 ≤ 4294967295 ∧ 0 ≤ t.2.2.2.1 ∧ t.2.2.2.1 ≤ 4294967295 ∧ 0 ≤ t.2.2.2.2.2 ∧ t.2.2.2.2.2 ≤ 4294967295) (raw : Bool) (x y p v : Int) (w : World) (hx : (Lit.int .i64 x).wf = true) (hy : (Lit.int .i64 y).wf = true) (hp : (Lit.int .i64 p).wf = true) (hv : (Lit.int .u32 v).wf = true) :
    Calls Try.prog 5 #[.agg #[.int .u32 t.1, .int .u32 t.2.1, .bool t.2.2.1, .int .u32 t.2.2.2.1, .bool t.2.2.2.2.1, .int .u32 t.2.2.2.2.2], .bool raw, .int .i64 x, .int .i64 y, .int .i64 p, .int .u32 v] w fun e w' => e = .returned (.bool true) ∧ Below w.heap.size w w' :=
  nkeeps_walk t.1 t.2.1 t.2.2.1 t.2.2.2.1 t.2.2.2.2.1 t.2.2.2.2.2 raw x y p v w hc.1 hc.2.1 hc.2.2.1 hc.2.2.2.1 hc.2.2.2.2.1 hc.2.2.2.2.2.1 hc.2.2.2.2.2.2.1 hc.2.2.2.2.2.2.2 (wf_i64N hx).1 (wf_i64N hx).2 (wf_i64N hy).1 (wf_i64N hy).2 (wf_i64N hp).1 (wf_i64N hp).2 (wf_u32N hv).1 (wf_u32N hv).2
end Go.Proofs.Ytkilbakghacooaa
