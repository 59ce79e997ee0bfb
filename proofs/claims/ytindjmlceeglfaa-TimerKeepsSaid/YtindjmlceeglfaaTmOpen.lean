import Derived.Test.YtindjmlceeglfaaTmLawK
import Derived.OpenShut
import Derived.ProofKit
namespace Go.Proofs.Ytindjmlceeglfaa
set_option linter.unusedVariables false
set_option linter.unusedSimpArgs false
set_option maxRecDepth 20000
open Go.ChangeShapes Go.WideShapes Go.ChangeAt Go.RowKit Go.Proofs.Ytindjmlceeglfaa.Num Go.Proofs.Ytindjmlceeglfaa.Mem
theorem cell_boolT {w : World} {r : Reach} {b0 : Nat} {v : Value} (h : Cell.okWide Try.prog w r b0 4 v) : ∃ b : Bool, v = .bool b := by
  unfold Cell.okWide at h
  rw [Try.underlying4] at h
  simp only at h
  unfold Cell.ok at h
  rw [Try.underlying4] at h
  cases v <;> simp at h
  exact ⟨_, rfl⟩
theorem cell_u32T {w : World} {r : Reach} {b0 : Nat} {v : Value} (h : Cell.okWide Try.prog w r b0 22 v) : ∃ n : Int, v = .int .u32 n := by
  unfold Cell.okWide at h
  rw [Try.underlying22] at h
  simp only at h
  unfold Cell.ok at h
  rw [Try.underlying22] at h
  cases v <;> simp at h
  rename_i k n
  obtain ⟨rfl, hr⟩ := h
  exact ⟨n, rfl⟩
/- A timer that comes in by value. -/
theorem cellsTm : Try.prog.cellsOf 24 = 3 := by kernel_rfl
theorem typesTm : Try.prog.cellTypes Try.prog.depth 24 = some [4, 22, 4] := by kernel_rfl
theorem open_tm {w : World} {r : Reach} {b0 : Nat} {v : Value} (hv : Value.okWide Try.prog w r b0 24 v) : ∃ t : Bool × Int × Bool, v = .agg #[.bool t.1, .int .u32 t.2.1, .bool t.2.2] ∧ True := by
  unfold Value.okWide at hv
  rw [Try.underlying24] at hv
  obtain ⟨cs, rfl, hsz, ts, hts, _, hc⟩ := hv
  rw [cellsTm] at hsz
  rw [typesTm] at hts
  obtain rfl := (Option.some.inj hts).symm
  have g0 : cs[0]? = some cs[0] := by simp
  have g1 : cs[1]? = some cs[1] := by simp
  have g2 : cs[2]? = some cs[2] := by simp
  obtain ⟨u0, hu0, ho0⟩ := hc 0 _ g0
  obtain ⟨u1, hu1, ho1⟩ := hc 1 _ g1
  obtain ⟨u2, hu2, ho2⟩ := hc 2 _ g2
  simp at hu0 hu1 hu2
  subst hu0 hu1 hu2
  obtain ⟨a, ha⟩ := cell_boolT ho0
  obtain ⟨d, hd⟩ := cell_u32T ho1
  obtain ⟨f, hf⟩ := cell_boolT ho2
  refine ⟨(a, d, f), ?_, trivial⟩
  simp only
  rw [← ha, ← hd, ← hf]
  congr 1
  apply Array.ext (by simp [hsz])
  intro i h1 h2
  have : i = 0 ∨ i = 1 ∨ i = 2 := by omega
  rcases this with rfl | rfl | rfl <;> simp
theorem tells_row (t : Bool × Int × Bool) (a1 a2 : Int) (w : World) :
    Calls Try.prog 3 #[.agg #[.bool t.1, .int .u32 t.2.1, .bool t.2.2], .int .u32 a1, .int .u32 a2] w fun e w' => e = .returned (.bool true) ∧ Below w.heap.size w w' :=
  tells_walk t.1 t.2.1 t.2.2 a1 a2 w
theorem keeps_row (t : Bool × Int × Bool) (a1 : Int) (w : World) :
    Calls Try.prog 5 #[.agg #[.bool t.1, .int .u32 t.2.1, .bool t.2.2], .int .u32 a1] w fun e w' => e = .returned (.bool true) ∧ Below w.heap.size w w' :=
  keeps_walk t.1 t.2.1 t.2.2 a1 w
end Go.Proofs.Ytindjmlceeglfaa
