import Derived.Test.YtkilbakghacooaaNcOpen
import Derived.Test.YtkilbakghacooaaNcLawS
namespace Go.Proofs.Ytkilbakghacooaa
set_option linter.unusedVariables false
set_option linter.unusedSimpArgs false
open Go.ChangeShapes Go.WideShapes Go.ChangeAt Go.RowKit Go.Proofs.Ytkilbakghacooaa.Num Go.Proofs.Ytkilbakghacooaa.Mem
theorem nsends_row (x y u v : Int) (w : World) (hx : (Lit.int .i64 x).wf = true) (hy : (Lit.int .i64 y).wf = true) (hu : (Lit.int .u32 u).wf = true) (hv : (Lit.int .u32 v).wf = true) :
    Calls Try.prog 7 #[.int .i64 x, .int .i64 y, .int .u32 u, .int .u32 v] w fun e w' => e = .returned (.bool true) ∧ Below w.heap.size w w' := by
  obtain ⟨r, hr⟩ : ∃ r : Nat, y % 6 = r := ⟨(y % 6).toNat, by omega⟩
  have hu0 := (wf_u32N hu).1
  have hv0 := (wf_u32N hv).1
  by_cases ho : 1 ≤ v % 140 ∧ v % 140 ≤ 128 ∧ u % 8 < pagesN (32 * (1 + r))
  · exact nsends_yes x y u v _ _ r w (wf_i64N hx).1 (wf_i64N hx).2 (wf_i64N hy).1 (wf_i64N hy).2 hr hu0 hv0 rfl rfl (by omega) (by omega) (by omega) (by omega) ho.1 ho.2.1 ho.2.2
  · exact nsends_no x y u v _ _ r w (wf_i64N hx).1 (wf_i64N hx).2 (wf_i64N hy).1 (wf_i64N hy).2 hr hu0 hv0 rfl rfl (by omega) (by omega) (by omega) (by omega) ho
end Go.Proofs.Ytkilbakghacooaa
