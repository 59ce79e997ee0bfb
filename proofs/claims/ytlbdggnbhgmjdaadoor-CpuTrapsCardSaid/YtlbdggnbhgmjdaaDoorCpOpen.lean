import Derived.Test.YtlbdggnbhgmjdaaDoorCpBox
import Derived.Lib.SmallJoins
import Derived.OpenShut
import Derived.ProofKit
namespace Go.Proofs.YtlbdggnbhgmjdaaDoor
set_option linter.unusedVariables false
set_option linter.unusedSimpArgs false
set_option maxRecDepth 20000
open Go.ChangeShapes Go.WideShapes Go.ChangeAt Go.RowKit Go.Joins
/- A processor that comes in by value. -/
theorem cellsCpu : Tryd.prog.cellsOf 29 = 25 := by kernel_rfl
theorem typesCpu : Tryd.prog.cellTypes Tryd.prog.depth 29 = some (List.replicate 25 22) := by kernel_rfl
theorem cell_u32 {w : World} {r : Reach} {b0 : Nat} {v : Value} (h : Cell.okWide Tryd.prog w r b0 22 v) : ∃ n : Int, v = .int .u32 n ∧ 0 ≤ n ∧ n ≤ 4294967295 := by
  unfold Cell.okWide at h
  rw [Tryd.underlying22] at h
  simp only at h
  unfold Cell.ok at h
  rw [Tryd.underlying22] at h
  cases v <;> simp at h
  rename_i k n
  obtain ⟨rfl, hr⟩ := h
  refine ⟨n, rfl, ?_⟩
  simp [IntKind.has, IntKind.min, IntKind.max, IntKind.signed, IntKind.bits] at hr
  omega
theorem open_cpu {w : World} {r : Reach} {b0 : Nat} {v : Value} (hv : Value.okWide Tryd.prog w r b0 29 v) : ∃ L, v = cpV L ∧ C25 L := by
  unfold Value.okWide at hv
  rw [Tryd.underlying29] at hv
  obtain ⟨cs, rfl, hsz, ts, hts, _, hc⟩ := hv
  rw [cellsCpu] at hsz
  rw [typesCpu] at hts
  obtain rfl := (Option.some.inj hts).symm
  have hcell : ∀ i : Nat, i < 25 → ∃ n : Int, cs[i]? = some (.int .u32 n) ∧ 0 ≤ n ∧ n ≤ 4294967295 := fun i hi => by
    have e : cs[i]? = some cs[i] := by simp
    obtain ⟨u, hu, ho⟩ := hc i _ e
    rw [List.length_replicate, Nat.mod_eq_of_lt hi, List.getElem?_replicate, if_pos hi] at hu
    obtain rfl := (Option.some.inj hu).symm
    obtain ⟨n, hn, n0, n1⟩ := cell_u32 ho
    exact ⟨n, by rw [e, hn], n0, n1⟩
  refine ⟨cs.toList.map (fun v => match v with | .int _ n => n | _ => 0), ?_, by simpa using hsz, ?_⟩
  · unfold cpV cw
    congr 1
    apply Array.ext_getElem?
    intro i
    by_cases hi : i < 25
    · obtain ⟨n, hn, _⟩ := hcell i hi
      simp [hn]
    · have h1 : cs[i]? = none := by simp; omega
      simp [h1]
  · intro x hx
    obtain ⟨v, hv, rfl⟩ := List.mem_map.1 hx
    obtain ⟨i, hi, hiv⟩ := List.getElem_of_mem hv
    obtain ⟨n, hn, n0, n1⟩ := hcell i (by simpa [hsz] using hi)
    have : v = .int .u32 n := by
      have e : cs[i]? = some v := by rw [← hiv]; simp
      rw [e] at hn; exact Option.some.inj hn
    subst this
    exact ⟨n0, n1⟩
end Go.Proofs.YtlbdggnbhgmjdaaDoor
