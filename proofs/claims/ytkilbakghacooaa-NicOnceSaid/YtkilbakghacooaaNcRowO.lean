import Derived.Test.YtkilbakghacooaaNcOpen
import Derived.Test.YtkilbakghacooaaNcLawO
namespace Go.Proofs.Ytkilbakghacooaa
set_option linter.unusedVariables false
set_option linter.unusedSimpArgs false
open Go.ChangeShapes Go.WideShapes Go.ChangeAt Go.RowKit Go.Proofs.Ytkilbakghacooaa.Num Go.Proofs.Ytkilbakghacooaa.Mem
theorem nonce_row (a : Option Addr) (len cap : Nat) (zs : List Int) (y : Int) (w : World) (wz : IsRow .i64 w a len cap zs) (hy : (Lit.int .i64 y).wf = true) :
    Calls Try.prog 6 #[.slice a len cap, .int .i64 y] w fun e w' => e = .returned (.bool true) ∧ Below w.heap.size w w' := by
  by_cases hk : len ≤ 60
  · exact nonce_walk a len cap _ y w (row_ints wz) hk (wf_i64N hy).1 (wf_i64N hy).2
  · exact nonce_long a len cap y w hk
end Go.Proofs.Ytkilbakghacooaa
