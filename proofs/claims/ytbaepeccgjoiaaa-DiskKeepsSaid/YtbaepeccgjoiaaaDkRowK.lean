import Derived.Test.YtbaepeccgjoiaaaDkOpen
import Derived.Test.YtbaepeccgjoiaaaDkLawK
namespace Go.Proofs.Ytbaepeccgjoiaaa
set_option linter.unusedVariables false
set_option linter.unusedSimpArgs false
open Go.ChangeShapes Go.WideShapes Go.ChangeAt Go.RowKit Go.Proofs.Ytbaepeccgjoiaaa.Num Go.Proofs.Ytbaepeccgjoiaaa.Mem
theorem keeps_row (t : Int × Int × Int × Int × Int × Int × Int × ByteArray) (hc : 0 ≤ t.2.2.1 ∧ t.2.2.1 ≤ 4294967295 ∧ 0 ≤ t.2.2.2.2.2.2.1 ∧ t.2.2.2.2.2.2.1 ≤ 4294967295) (raw : Bool) (x y p v : Int) (w : World) (hx : (Lit.int .i64 x).wf = true) (hy : (Lit.int .i64 y).wf = true) (hp : (Lit.int .i64 p).wf = true) (hv : (Lit.int .u32 v).wf = true) :
    Calls Try.prog 5 #[.agg #[.int .u32 t.1, .int .u32 t.2.1, .int .u32 t.2.2.1, .int .i64 t.2.2.2.1, .int .i64 t.2.2.2.2.1, .int .u32 t.2.2.2.2.2.1, .int .u32 t.2.2.2.2.2.2.1, .string t.2.2.2.2.2.2.2], .bool raw, .int .i64 x, .int .i64 y, .int .i64 p, .int .u32 v] w fun e w' => e = .returned (.bool true) ∧ Below w.heap.size w w' :=
  keeps_walk t.1 t.2.1 t.2.2.1 t.2.2.2.1 t.2.2.2.2.1 t.2.2.2.2.2.1 t.2.2.2.2.2.2.1 t.2.2.2.2.2.2.2 raw x y p v w hc.1 hc.2.1 hc.2.2.1 hc.2.2.2 (wf_i64D hx).1 (wf_i64D hx).2 (wf_i64D hy).1 (wf_i64D hy).2 (wf_i64D hp).1 (wf_i64D hp).2 (wf_u32D hv).1 (wf_u32D hv).2
end Go.Proofs.Ytbaepeccgjoiaaa
