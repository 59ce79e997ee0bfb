import Derived.Test.YtmifhijkfofbcaaDvLawD
import Derived.OpenShut
import Derived.ProofKit
namespace Go.Proofs.Ytmifhijkfofbcaa
set_option linter.unusedVariables false
set_option linter.unusedSimpArgs false
set_option maxRecDepth 20000
open Go.ChangeShapes Go.WideShapes Go.ChangeAt Go.RowKit Go.Proofs.Ytmifhijkfofbcaa.Num Go.Proofs.Ytmifhijkfofbcaa.Mem
theorem cell_string {w : World} {r : Reach} {b0 : Nat} {v : Value} (h : Cell.okWide Try.prog w r b0 9 v) : ∃ s : ByteArray, v = .string s := by
  unfold Cell.okWide at h
  rw [Try.underlying9] at h
  simp only at h
  unfold Cell.ok at h
  rw [Try.underlying9] at h
  cases v <;> simp at h
  exact ⟨_, rfl⟩
/- A console that comes in by value. -/
theorem cellsCon : Try.prog.cellsOf 23 = 1 := by kernel_rfl
theorem typesCon : Try.prog.cellTypes Try.prog.depth 23 = some [9] := by kernel_rfl
theorem open_con {w : World} {r : Reach} {b0 : Nat} {v : Value} (hv : Value.okWide Try.prog w r b0 23 v) : ∃ s : ByteArray, v = .agg #[.string s] ∧ True := by
  unfold Value.okWide at hv
  rw [Try.underlying23] at hv
  obtain ⟨cs, rfl, hsz, ts, hts, _, hc⟩ := hv
  rw [cellsCon] at hsz
  rw [typesCon] at hts
  obtain rfl := (Option.some.inj hts).symm
  have e : cs[0]? = some cs[0] := by simp
  obtain ⟨u, hu, ho⟩ := hc 0 _ e
  simp at hu
  subst hu
  obtain ⟨s, hs⟩ := cell_string ho
  refine ⟨s, ?_, trivial⟩
  rw [← hs]
  congr 1
  apply Array.ext (by simp [hsz])
  intro i h1 h2
  have : i = 0 := by omega
  subst this
  simp
theorem tells_row (s : ByteArray) (a1 a2 : Int) (a3 : Bool) (w : World) (w1 : (Lit.int .u8 a1).wf = true) (w2 : (Lit.int .i64 a2).wf = true) :
    Calls Try.prog 3 #[.agg #[.string s], .int .u8 a1, .int .i64 a2, .bool a3] w fun e w' => e = .returned (.bool true) ∧ Below w.heap.size w w' :=
  tells_walk s a1 a2 a3 w (wf_u8D w1).1 (wf_u8D w1).2 (wf_i64 w2).1 (wf_i64 w2).2
end Go.Proofs.Ytmifhijkfofbcaa
