import Derived.Test.YtackgjmmeojpiaaPmFn5
import Derived.Test.YtackgjmmeojpiaaLaw1
namespace Go.Proofs.Ytackgjmmeojpiaa
set_option linter.unusedVariables false
set_option linter.unusedSimpArgs false
open Go.ChangeShapes Go.WideShapes Go.ChangeAt Go.RowKit Go.Proofs.Ytackgjmmeojpiaa.Num Go.Proofs.Ytackgjmmeojpiaa.Mem
/-- A slice of numbers that came in: nil, or a row of cells (the shell's own words). -/
def IsRow (k : IntKind) (w : World) (a : Option Addr) (len cap : Nat) (zs : List Int) : Prop :=
  (a = none ∧ len = 0 ∧ cap = 0 ∧ zs = []) ∨
  ∃ x, a = some x ∧ len ≤ cap ∧ cap ≤ maxLen ∧ zs.length = cap ∧ (∀ i, i < zs.length → w.cell? (x.add i) = some (.int k (zs.getD i 0))) ∧ ∀ n ∈ zs, (Lit.int k n).wf = true
theorem row_cell {k : IntKind} {w : World} {x : Addr} {len cap : Nat} {zs : List Int} (hz : zs.length = cap) (hl : len ≤ cap) (hc : ∀ i, i < zs.length → w.cell? (x.add i) = some (.int k (zs.getD i 0))) (h0 : 0 < len) :
    ∃ b off, x = ⟨b, off, none⟩ ∧ ∀ i, i < len → w.cell? ⟨b, off + i, none⟩ = some (.int k (zs.getD i 0)) := by
  obtain ⟨b, off, spot⟩ := x
  have c0 := hc 0 (by omega)
  have hspot : spot = none := by simpa [Addr.add] using World.cell?_spot c0
  subst hspot
  exact ⟨b, off, rfl, fun i hi => by rw [← add_plain]; exact hc i (by omega)⟩
theorem row_mem {w : World} {a : Option Addr} {len cap : Nat} {zs : List Int} (h : IsRow .u32 w a len cap zs) : len ≤ 200 → ∃ l, Mem w a len cap l := by
  intro hn
  rcases h with ⟨rfl, rfl, rfl, rfl⟩ | ⟨x, rfl, hl, hm, hz, hc, hw⟩
  · exact ⟨[], Mem.nil _ _ _⟩
  · refine ⟨zs.take len, by rw [List.length_take]; omega, hl, by omega, fun y hy => wf_u32 (hw y (List.mem_of_mem_take hy)), fun h0 => ?_⟩
    rw [List.length_take] at h0
    obtain ⟨b, off, rfl, hcc⟩ := row_cell hz hl hc (by omega)
    refine ⟨b, off, rfl, fun i hi => ?_⟩
    rw [List.length_take] at hi
    have : wd (zs.take len) i = zs.getD i 0 := by
      unfold wd
      have h2 : i < len := by omega
      simp [List.getD, h2]
    rw [this]
    exact hcc i (by omega)
theorem row_ints {w : World} {a : Option Addr} {len cap : Nat} {zs : List Int} (h : IsRow .i64 w a len cap zs) : Ints w a len (fun i => zs.getD i 0) := by
  rcases h with ⟨rfl, rfl, rfl, rfl⟩ | ⟨x, rfl, hl, hm, hz, hc, hw⟩
  · exact ⟨fun i hi => absurd hi (Nat.not_lt_zero _), fun i hi => absurd hi (Nat.not_lt_zero _)⟩
  · refine ⟨fun i hi => ?_, fun i hi => ?_⟩
    · obtain ⟨b, off, rfl, hcc⟩ := row_cell hz hl hc (by omega)
      exact ⟨b, off, rfl, hcc i hi⟩
    · have hlt : i < zs.length := by omega
      have e : zs.getD i 0 = zs[i] := by simp [List.getD, hlt]
      show _ ≤ zs.getD i 0 ∧ zs.getD i 0 ≤ _
      rw [e]
      exact wf_i64 (hw _ (List.getElem_mem hlt))
theorem ints_nil (w : World) (A : Option Addr) (z : Nat → Int) : Ints w A 0 z := ⟨fun i hi => absurd hi (Nat.not_lt_zero _), fun i hi => absurd hi (Nat.not_lt_zero _)⟩
end Go.Proofs.Ytackgjmmeojpiaa
