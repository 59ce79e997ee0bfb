import Derived.Test.YtamjfbcjenocpaaGreatDoorIsaFn5
import Derived.Test.YtamjfbcjenocpaaGreatDoorRows
import Derived.LaidMore
import Derived.ProofKit
namespace Go.Proofs.YtamjfbcjenocpaaGreatDoor
set_option linter.unusedVariables false
set_option linter.unusedSimpArgs false
open Go.Lib Go.ChangeShapes Go.WideShapes Go.ChangeAt Go.RowKit Go.Proofs.YtamjfbcjenocpaaGreatDoor.Num Go.Proofs.YtamjfbcjenocpaaGreatDoor.Isa Go.Proofs.YtamjfbcjenocpaaGreatDoor.Mem
/-- Each listed variable reads as listed. -/
theorem laid_mem {P : Program} {w : World} {name : String} {d : DataW Unit} : ∀ {l : List (String × DataW Unit)} {ps : List MemPlace}, DataW.LaidVars P w l ps → (name, d) ∈ l →
    ∃ g t cs fuel p, P.globalNamed name = some g ∧ (P.globals[g]?).map (·.type) = some t ∧ w.var? P name = some cs ∧ DataW.trod (fun _ => ()) P w 0 (fun _ => true) false fuel t cs.toList = some (d, p)
  | [], _, _, h => by simp at h
  | (n, d') :: r, ps, ⟨g, t, cs, fuel, p, q, h1, h2, h3, h4, h5, _⟩, h => by
    rcases List.mem_cons.1 h with e | h
    · cases e; exact ⟨g, t, cs, fuel, p, h1, h2, h3, h4⟩
    · exact laid_mem h5 h
/-- An array of strings that reads as listed holds them. -/
theorem cells_of_strs {H : Type} {enc : TypeId × Value → H} {P : Program} {w : World} {base : Nat} {sp : Nat → Bool} {held : Bool} {fuel : Nat} {t e : TypeId} {n : Nat} {cs : List Value} {ss : List (List UInt8)} {p : List MemPlace}
    (ht : P.underlying t = some (.array n e)) (he : P.underlying e = some .string) (hce : P.cellsOf e = 1) (hct : P.cellsOf t = n)
    (h : DataW.trod enc P w base sp held fuel t cs = some (.agg (ss.map fun s => .lit (.string s)), p)) (i : Nat) (hi : i < ss.length) : cs[i]? = some (.string ⟨(ss.getD i []).toArray⟩) := by
  cases fuel with
  | zero => simp [DataW.trod] at h
  | succ fuel =>
    simp only [DataW.trod, ht, hce, hct, Nat.mul_one] at h
    split at h
    · rename_i hl
      obtain ⟨xs, hm, hx⟩ := Option.map_eq_some_iff.1 h
      have hxs : xs.map (·.1) = ss.map fun s => (DataW.lit (.string s) : DataW H) := by
        have := congrArg Prod.fst hx
        simpa using this
      have hxl : xs.length = n := by simpa using mapM_length hm
      have hzl : ss.length = n := by
        have := congrArg List.length hxs
        simp at this
        omega
      obtain ⟨b, hb, hf⟩ := mapM_at hm i i (by simp [← hzl, hi])
      obtain ⟨s, hc, rfl, _⟩ := DataW.trod_string he hf
      have h1 : cs[i]? = some (.string s) := by
        have := congrArg (·[0]?) hc
        simpa [List.getElem?_take, List.getElem?_drop] using this
      have h2 : (xs.map (·.1))[i]? = some (DataW.lit (.string s.data.toList) : DataW H) := by simp [hb]
      rw [hxs] at h2
      simp only [List.getElem?_map, Option.map_eq_some_iff, DataW.lit.injEq, Lit.string.injEq] at h2
      obtain ⟨s', hs', e⟩ := h2
      rw [h1, List.getD_eq_getElem?_getD, hs']
      simp [e]
    · cases h
theorem names_laid : (Rows.laid_vmfleet_isa_mnemonics : DataW Unit) = .agg (names.map fun s => .lit (.string s)) := by kernel_rfl
theorem pow_laid : (Rows.laid_internal_strconv_uint64pow10 : DataW Unit) = tabData .u64 pow10Tab := by kernel_rfl
theorem gNames : Tryz.prog.globalNamed "vmfleet/isa.mnemonics" = some 0 := by kernel_rfl
theorem tNames : (Tryz.prog.globals[0]?).map (·.type) = some 65 := by kernel_rfl
theorem tPow : (Tryz.prog.globals[1]?).map (·.type) = some 132 := by kernel_rfl
theorem cNames : Tryz.prog.cellsOf 65 = 65 := by kernel_rfl
theorem cPow : Tryz.prog.cellsOf 132 = 20 := by kernel_rfl
theorem cStr : Tryz.prog.cellsOf 9 = 1 := by kernel_rfl
theorem cU64 : Tryz.prog.cellsOf 69 = 1 := by kernel_rfl
theorem tabs_of {w : World} {l : List (String × DataW Unit)} (h : laidMet Tryz.prog l w) (h1 : ("internal/strconv.uint64pow10", Rows.laid_internal_strconv_uint64pow10) ∈ l) (h2 : ("vmfleet/isa.mnemonics", Rows.laid_vmfleet_isa_mnemonics) ∈ l) : Tabs w := by
  obtain ⟨ps, hl, _⟩ := h
  refine ⟨?_, fun k hk => ?_⟩
  · obtain ⟨g, t, cs, fuel, p, hg, ht, hv, hd⟩ := laid_mem hl h1
    obtain rfl := Option.some.inj (gPow.symm.trans hg)
    obtain rfl := Option.some.inj (tPow.symm.trans ht)
    rw [pow_laid] at hd
    unfold TabIs
    rw [hv, ← cells_of_tab Tryz.underlying132 Tryz.underlying69 cU64 cPow hd]
  · obtain ⟨g, t, cs, fuel, p, hg, ht, hv, hd⟩ := laid_mem hl h2
    obtain rfl := Option.some.inj (gNames.symm.trans hg)
    obtain rfl := Option.some.inj (tNames.symm.trans ht)
    rw [names_laid] at hd
    have hc := cells_of_strs Tryz.underlying65 Tryz.underlying9 cStr cNames hd k (by simpa [names] using hk)
    have := World.var?_cell hg hv k
    rw [this]
    have e : cs[k]? = cs.toList[k]? := by simp
    rw [e, hc]
    rfl
end Go.Proofs.YtamjfbcjenocpaaGreatDoor
