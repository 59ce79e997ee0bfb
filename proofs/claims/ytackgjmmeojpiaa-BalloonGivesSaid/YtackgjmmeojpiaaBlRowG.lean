import Derived.Test.YtackgjmmeojpiaaBlLawG
import Derived.Test.YtackgjmmeojpiaaBlOpen
namespace Go.Proofs.Ytackgjmmeojpiaa
set_option linter.unusedVariables false
set_option linter.unusedSimpArgs false
open Go.ChangeShapes Go.WideShapes Go.ChangeAt Go.RowKit Go.Proofs.Ytackgjmmeojpiaa.Num Go.Proofs.Ytackgjmmeojpiaa.Mem
theorem gives_row (x pg : Int) (a : Option Addr) (len cap : Nat) (zs : List Int) (w : World) (hx : (Lit.int .i64 x).wf = true) (hg : (Lit.int .i64 pg).wf = true) (hw : IsRow .i64 w a len cap zs) :
    Calls Try.prog 4 #[.int .i64 x, .int .i64 pg, .slice a len cap] w fun e w' => e = .returned (.bool true) ∧ Below w.heap.size w w' := by
  by_cases h : len ≤ 60
  · exact gives_walk x pg a len cap _ w (row_ints hw) h (wf_i64B hx).1 (wf_i64B hx).2 (wf_i64B hg).1 (wf_i64B hg).2
  · exact gives_long x pg a len cap w (by omega)
end Go.Proofs.Ytackgjmmeojpiaa
