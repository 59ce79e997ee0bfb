import Derived.Test.YtkilbakghacooaaMem
import Derived.Test.YtkilbakghacooaaFn2
import Derived.OpenShut
import Derived.ProofKit
namespace Go.Proofs.Ytkilbakghacooaa
set_option linter.unusedVariables false
set_option linter.unusedSimpArgs false
set_option maxRecDepth 20000
open Go.ChangeShapes Go.WideShapes Go.ChangeAt Go.RowKit Go.Proofs.Ytkilbakghacooaa.Num Go.Proofs.Ytkilbakghacooaa.Mem
/- Cards that come in by value. -/
theorem cell_strN {w : World} {r : Reach} {b0 : Nat} {v : Value} (h : Cell.okWide Try.prog w r b0 9 v) : ∃ s : ByteArray, v = .string s := by
  unfold Cell.okWide at h
  rw [Try.underlying9] at h
  simp only at h
  unfold Cell.ok at h
  rw [Try.underlying9] at h
  cases v <;> simp at h
  exact ⟨_, rfl⟩
theorem cell_i64N {w : World} {r : Reach} {b0 : Nat} {v : Value} (h : Cell.okWide Try.prog w r b0 3 v) : ∃ n : Int, v = .int .i64 n := by
  unfold Cell.okWide at h
  rw [Try.underlying3] at h
  simp only at h
  unfold Cell.ok at h
  rw [Try.underlying3] at h
  cases v <;> simp at h
  rename_i k n
  obtain ⟨rfl, hr⟩ := h
  exact ⟨n, rfl⟩
theorem cell_u32N {w : World} {r : Reach} {b0 : Nat} {v : Value} (h : Cell.okWide Try.prog w r b0 22 v) : ∃ n : Int, v = .int .u32 n ∧ 0 ≤ n ∧ n ≤ 4294967295 := by
  unfold Cell.okWide at h
  rw [Try.underlying22] at h
  simp only at h
  unfold Cell.ok at h
  rw [Try.underlying22] at h
  cases v <;> simp at h
  rename_i k n
  obtain ⟨rfl, hr⟩ := h
  exact ⟨n, rfl, by simpa [IntKind.has, IntKind.min, IntKind.max, IntKind.bits, IntKind.signed] using hr⟩
theorem wf_u32N {a : Int} (h : (Lit.int .u32 a).wf = true) : 0 ≤ a ∧ a ≤ 4294967295 := by simpa [Lit.wf, IntKind.min, IntKind.max, IntKind.bits, IntKind.signed] using h
theorem wf_i64N {a : Int} (h : (Lit.int .i64 a).wf = true) : -9223372036854775808 ≤ a ∧ a ≤ 9223372036854775807 := by simpa [Lit.wf, IntKind.min, IntKind.max, IntKind.bits, IntKind.signed] using h
theorem cell_boolN {w : World} {r : Reach} {b0 : Nat} {v : Value} (h : Cell.okWide Try.prog w r b0 4 v) : ∃ b : Bool, v = .bool b := by
  unfold Cell.okWide at h
  rw [Try.underlying4] at h
  simp only at h
  unfold Cell.ok at h
  rw [Try.underlying4] at h
  cases v <;> simp at h
  exact ⟨_, rfl⟩
theorem cells_nc : Try.prog.cellsOf 24 = 6 := by kernel_rfl
theorem types_nc : Try.prog.cellTypes Try.prog.depth 24 = some [22, 22, 4, 22, 4, 22] := by kernel_rfl
theorem open_nc {w : World} {r : Reach} {b0 : Nat} {v : Value} (hv : Value.okWide Try.prog w r b0 24 v) : ∃ t : Int × Int × Bool × Int × Bool × Int, v = .agg #[.int .u32 t.1, .int .u32 t.2.1, .bool t.2.2.1, .int .u32 t.2.2.2.1, .bool t.2.2.2.2.1, .int .u32 t.2.2.2.2.2] ∧ 0 ≤ t.1 ∧ t.1 ≤ 4294967295 ∧ 0 ≤ t.2.1 ∧ t.2.1 ≤ 4294967295 ∧ 0 ≤ t.2.2.2.1 ∧ t.2.2.2.1 ≤ 4294967295 ∧ 0 ≤ t.2.2.2.2.2 ∧ t.2.2.2.2.2 ≤ 4294967295 := by
  unfold Value.okWide at hv
  rw [Try.underlying24] at hv
  obtain ⟨cs, rfl, hsz, ts, hts, _, hc⟩ := hv
  rw [cells_nc] at hsz
  rw [types_nc] at hts
  obtain rfl := (Option.some.inj hts).symm
  have g0 : cs[0]? = some cs[0] := by simp
  have g1 : cs[1]? = some cs[1] := by simp
  have g2 : cs[2]? = some cs[2] := by simp
  have g3 : cs[3]? = some cs[3] := by simp
  have g4 : cs[4]? = some cs[4] := by simp
  have g5 : cs[5]? = some cs[5] := by simp
  obtain ⟨u0, hu0, ho0⟩ := hc 0 _ g0
  obtain ⟨u1, hu1, ho1⟩ := hc 1 _ g1
  obtain ⟨u2, hu2, ho2⟩ := hc 2 _ g2
  obtain ⟨u3, hu3, ho3⟩ := hc 3 _ g3
  obtain ⟨u4, hu4, ho4⟩ := hc 4 _ g4
  obtain ⟨u5, hu5, ho5⟩ := hc 5 _ g5
  simp at hu0 hu1 hu2 hu3 hu4 hu5
  subst hu0 hu1 hu2 hu3 hu4 hu5
  obtain ⟨x0, hx0, y0⟩ := cell_u32N ho0
  obtain ⟨x1, hx1, y1⟩ := cell_u32N ho1
  obtain ⟨x2, hx2⟩ := cell_boolN ho2
  obtain ⟨x3, hx3, y3⟩ := cell_u32N ho3
  obtain ⟨x4, hx4⟩ := cell_boolN ho4
  obtain ⟨x5, hx5, y5⟩ := cell_u32N ho5
  refine ⟨(x0, x1, x2, x3, x4, x5), ?_, y0.1, y0.2, y1.1, y1.2, y3.1, y3.2, y5.1, y5.2⟩
  simp only
  rw [← hx0, ← hx1, ← hx2, ← hx3, ← hx4, ← hx5]
  congr 1
  apply Array.ext (by simp [hsz])
  intro i h1 h2
  have : i = 0 ∨ i = 1 ∨ i = 2 ∨ i = 3 ∨ i = 4 ∨ i = 5 := by omega
  rcases this with rfl | rfl | rfl | rfl | rfl | rfl <;> simp
end Go.Proofs.Ytkilbakghacooaa
