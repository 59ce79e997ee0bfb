import Derived.Test.YtbaepeccgjoiaaaDkOpen
import Derived.Test.YtbaepeccgjoiaaaDkLawS
import Derived.Test.YtbaepeccgjoiaaaPmRow
namespace Go.Proofs.Ytbaepeccgjoiaaa
set_option linter.unusedVariables false
set_option linter.unusedSimpArgs false
open Go.ChangeShapes Go.WideShapes Go.ChangeAt Go.RowKit Go.Proofs.Ytbaepeccgjoiaaa.Num Go.Proofs.Ytbaepeccgjoiaaa.Mem
theorem stores_row (x y bk fr : Int) (a : Option Addr) (len cap : Nat) (zs : List Int) (rd : Bool) (w : World) (wz : IsRow .i64 w a len cap zs) (hx : (Lit.int .i64 x).wf = true) (hy : (Lit.int .i64 y).wf = true) (hb : (Lit.int .u32 bk).wf = true) (hf : (Lit.int .u32 fr).wf = true) :
    Calls Try.prog 6 #[.int .i64 x, .int .i64 y, .int .u32 bk, .int .u32 fr, .slice a len cap, .bool rd] w fun e w' => e = .returned (.bool true) ∧ Below w.heap.size w w' := by
  by_cases hk : len ≤ 20
  · cases rd with
    | true => exact stores_read x y bk fr a len cap _ w (row_ints wz) hk (wf_i64D hx).1 (wf_i64D hx).2 (wf_i64D hy).1 (wf_i64D hy).2 (wf_u32D hb).1 (wf_u32D hb).2 (wf_u32D hf).1 (wf_u32D hf).2
    | false => exact stores_write x y bk fr a len cap _ w (row_ints wz) hk (wf_i64D hx).1 (wf_i64D hx).2 (wf_i64D hy).1 (wf_i64D hy).2 (wf_u32D hb).1 (wf_u32D hb).2 (wf_u32D hf).1 (wf_u32D hf).2
  · exact stores_long x y bk fr a len cap rd w hk
end Go.Proofs.Ytbaepeccgjoiaaa
