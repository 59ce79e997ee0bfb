import Derived.Test.YtackgjmmeojpiaaBlLawT
import Derived.OpenShut
import Derived.ProofKit
namespace Go.Proofs.Ytackgjmmeojpiaa
set_option linter.unusedVariables false
set_option linter.unusedSimpArgs false
set_option maxRecDepth 20000
open Go.ChangeShapes Go.WideShapes Go.ChangeAt Go.RowKit Go.Proofs.Ytackgjmmeojpiaa.Num Go.Proofs.Ytackgjmmeojpiaa.Mem
theorem cell_u32B {w : World} {r : Reach} {b0 : Nat} {v : Value} (h : Cell.okWide Try.prog w r b0 22 v) : ∃ n : Int, v = .int .u32 n ∧ 0 ≤ n ∧ n ≤ 4294967295 := by
  unfold Cell.okWide at h
  rw [Try.underlying22] at h
  simp only at h
  unfold Cell.ok at h
  rw [Try.underlying22] at h
  cases v <;> simp at h
  rename_i k n
  obtain ⟨rfl, hr⟩ := h
  exact ⟨n, rfl, by simpa [IntKind.has, IntKind.min, IntKind.max, IntKind.bits, IntKind.signed] using hr⟩
theorem wf_u32B {a : Int} (h : (Lit.int .u32 a).wf = true) : 0 ≤ a ∧ a ≤ 4294967295 := by simpa [Lit.wf, IntKind.min, IntKind.max, IntKind.bits, IntKind.signed] using h
theorem wf_i64B {a : Int} (h : (Lit.int .i64 a).wf = true) : -9223372036854775808 ≤ a ∧ a ≤ 9223372036854775807 := by simpa [Lit.wf, IntKind.min, IntKind.max, IntKind.bits, IntKind.signed] using h
theorem cells_bl : Try.prog.cellsOf 24 = 2 := by kernel_rfl
theorem types_bl : Try.prog.cellTypes Try.prog.depth 24 = some [22, 22] := by kernel_rfl
theorem open_bl {w : World} {r : Reach} {b0 : Nat} {v : Value} (hv : Value.okWide Try.prog w r b0 24 v) : ∃ t : Int × Int, v = .agg #[.int .u32 t.1, .int .u32 t.2] ∧ 0 ≤ t.1 ∧ t.1 ≤ 4294967295 ∧ 0 ≤ t.2 ∧ t.2 ≤ 4294967295 := by
  unfold Value.okWide at hv
  rw [Try.underlying24] at hv
  obtain ⟨cs, rfl, hsz, ts, hts, _, hc⟩ := hv
  rw [cells_bl] at hsz
  rw [types_bl] at hts
  obtain rfl := (Option.some.inj hts).symm
  have g0 : cs[0]? = some cs[0] := by simp
  have g1 : cs[1]? = some cs[1] := by simp
  obtain ⟨u0, hu0, ho0⟩ := hc 0 _ g0
  obtain ⟨u1, hu1, ho1⟩ := hc 1 _ g1
  simp at hu0 hu1
  subst hu0 hu1
  obtain ⟨a, ha, a0, a1⟩ := cell_u32B ho0
  obtain ⟨d, hd, d0, d1⟩ := cell_u32B ho1
  refine ⟨(a, d), ?_, a0, a1, d0, d1⟩
  simp only
  rw [← ha, ← hd]
  congr 1
  apply Array.ext (by simp [hsz])
  intro i h1 h2
  have : i = 0 ∨ i = 1 := by omega
  rcases this with rfl | rfl <;> simp
theorem asks_row (a b : Int) (w : World) (ha : (Lit.int .u32 a).wf = true) (hb : (Lit.int .u32 b).wf = true) :
    Calls Try.prog 5 #[.int .u32 a, .int .u32 b] w fun e w' => e = .returned (.bool true) ∧ Below w.heap.size w w' := by
  obtain ⟨g, rfl⟩ : ∃ g : Nat, a = g := ⟨a.toNat, by have := wf_u32B ha; omega⟩
  exact asks_walk g b w (by have := wf_u32B ha; omega) (wf_u32B hb).1 (wf_u32B hb).2
theorem tells_row (t : Int × Int) (hc : 0 ≤ t.1 ∧ t.1 ≤ 4294967295 ∧ 0 ≤ t.2 ∧ t.2 ≤ 4294967295) (x pg p v : Int) (small : Bool) (w : World) (hx : (Lit.int .i64 x).wf = true) (hg : (Lit.int .i64 pg).wf = true) (hp : (Lit.int .i64 p).wf = true) (hv : (Lit.int .u32 v).wf = true) :
    Calls Try.prog 3 #[.agg #[.int .u32 t.1, .int .u32 t.2], .int .i64 x, .int .i64 pg, .int .i64 p, .int .u32 v, .bool small] w fun e w' => e = .returned (.bool true) ∧ Below w.heap.size w w' := by
  obtain ⟨T, G⟩ := t
  obtain ⟨t0, t1, g0, g1⟩ := hc
  simp only at t0 t1 g0 g1 ⊢
  obtain ⟨g, rfl⟩ : ∃ g : Nat, G = g := ⟨G.toNat, by omega⟩
  obtain ⟨u, rfl⟩ : ∃ u : Nat, v = u := ⟨v.toNat, by have := wf_u32B hv; omega⟩
  have hu := wf_u32B hv
  cases small with
  | true => exact tells_small T g u x pg p w (by omega) t0 t1 (wf_i64B hx).1 (wf_i64B hx).2 (wf_i64B hg).1 (wf_i64B hg).2 (wf_i64B hp).1 (wf_i64B hp).2 (by omega)
  | false => exact tells_walk T g u x pg p w (by omega) t0 t1 (wf_i64B hx).1 (wf_i64B hx).2 (wf_i64B hg).1 (wf_i64B hg).2 (by omega)
end Go.Proofs.Ytackgjmmeojpiaa
