import Derived.Test.YtfnfbdjbdbifaaaDoorCpFn2
import Derived.Test.YtfnfbdjbdbifaaaDoorRows
import Derived.LaidMore
import Derived.ProofKit
import Derived.FnData
import Derived.Lib.LaidTab
namespace Go.Proofs.YtfnfbdjbdbifaaaDoor
set_option linter.unusedVariables false
set_option linter.unusedSimpArgs false
open Go.Lib Go.ChangeShapes Go.WideShapes Go.ChangeAt Go.RowKit
/-- Each listed variable reads as listed. -/
theorem laid_mem {P : Program} {w : World} {name : String} {d : DataW Unit} : ∀ {l : List (String × DataW Unit)} {ps : List MemPlace}, DataW.LaidVars P w l ps → (name, d) ∈ l →
    ∃ g t cs fuel p, P.globalNamed name = some g ∧ (P.globals[g]?).map (·.type) = some t ∧ w.var? P name = some cs ∧ DataW.trod (fun _ => ()) P w 0 (fun _ => true) false fuel t cs.toList = some (d, p)
  | [], _, _, h => by simp at h
  | (n, d') :: r, ps, ⟨g, t, cs, fuel, p, q, h1, h2, h3, h4, h5, _⟩, h => by
    rcases List.mem_cons.1 h with e | h
    · cases e; exact ⟨g, t, cs, fuel, p, h1, h2, h3, h4⟩
    · exact laid_mem h5 h
theorem kb_laid : (Rows.laid_vmfleet_cpu_keptBits : DataW Unit) = tabData .u32 kb := by kernel_rfl
theorem gKb : Tryd.prog.globalNamed "vmfleet/cpu.keptBits" = some 0 := by kernel_rfl
theorem tKb : (Tryd.prog.globals[0]?).map (·.type) = some 30 := by kernel_rfl
theorem cKb8 : Tryd.prog.cellsOf 30 = 8 := by kernel_rfl
theorem cKb1 : Tryd.prog.cellsOf 23 = 1 := by kernel_rfl
theorem tabk_of {w : World} {l : List (String × DataW Unit)} (h : laidMet Tryd.prog l w) (h1 : ("vmfleet/cpu.keptBits", Rows.laid_vmfleet_cpu_keptBits) ∈ l) : TabK w := by
  obtain ⟨ps, hl, _⟩ := h
  intro k hk
  obtain ⟨g, t, cs, fuel, p, hg, ht, hv, hd⟩ := laid_mem hl h1
  obtain rfl := Option.some.inj (gKb.symm.trans hg)
  obtain rfl := Option.some.inj (tKb.symm.trans ht)
  rw [kb_laid] at hd
  have hc := cells_of_tab Tryd.underlying30 Tryd.underlying23 cKb1 cKb8 hd
  have := World.var?_cell hg hv k
  rw [this]
  have e : cs[k]? = cs.toList[k]? := by simp
  rw [e, hc]
  have c : k = 0 ∨ k = 1 ∨ k = 2 ∨ k = 3 ∨ k = 4 ∨ k = 5 ∨ k = 6 ∨ k = 7 := by omega
  rcases c with rfl | rfl | rfl | rfl | rfl | rfl | rfl | rfl <;> rfl
end Go.Proofs.YtfnfbdjbdbifaaaDoor
