import Derived.Test.YtamjfbcjenocpaaGreatDoorIsaLaid
import Derived.Test.YtamjfbcjenocpaaGreatDoorAsmGh
namespace Go.Proofs.YtamjfbcjenocpaaGreatDoor
set_option linter.unusedVariables false
set_option linter.unusedSimpArgs false
open Go.Lib Go.ChangeShapes Go.WideShapes Go.ChangeAt Go.RowKit Go.Proofs.YtamjfbcjenocpaaGreatDoor.Num Go.Proofs.YtamjfbcjenocpaaGreatDoor.Isa Go.Proofs.YtamjfbcjenocpaaGreatDoor.Mem
def bruijnL : List Int := [0, 1, 56, 2, 57, 49, 28, 3, 61, 58, 42, 50, 38, 29, 17, 4, 62, 47, 59, 36, 45, 43, 51, 22, 53, 39, 33, 30, 24, 18, 12, 5, 63, 55, 48, 27, 60, 41, 37, 16, 46, 35, 44, 21, 52, 32, 23, 11, 54, 26, 40, 15, 34, 20, 31, 10, 25, 14, 19, 9, 13, 8, 7, 6]
theorem bru_laid : (Rows.laid_math_bits_deBruijn64tab : DataW Unit) = tabData .u8 bruijnL := by kernel_rfl
theorem gBru : Tryz.prog.globalNamed "math/bits.deBruijn64tab" = some 4 := by kernel_rfl
theorem tBru : (Tryz.prog.globals[4]?).map (·.type) = some 158 := by kernel_rfl
theorem cBru : Tryz.prog.cellsOf 158 = 64 := by kernel_rfl
theorem cU8 : Tryz.prog.cellsOf 5 = 1 := by kernel_rfl
theorem brj_of {w : World} {l : List (String × DataW Unit)} (h : laidMet Tryz.prog l w) (h1 : ("math/bits.deBruijn64tab", Rows.laid_math_bits_deBruijn64tab) ∈ l) : Brj w := by
  obtain ⟨ps, hl, _⟩ := h
  obtain ⟨g, t, cs, fuel, p, hg, ht, hv, hd⟩ := laid_mem hl h1
  obtain rfl := Option.some.inj (gBru.symm.trans hg)
  obtain rfl := Option.some.inj (tBru.symm.trans ht)
  rw [bru_laid] at hd
  have hc := cells_of_tab Tryz.underlying158 Tryz.underlying5 cU8 cBru hd
  have := World.var?_cell hg hv 15
  unfold Brj
  have e : cs[15]? = cs.toList[15]? := by simp
  rw [this, e, hc]
  rfl
end Go.Proofs.YtamjfbcjenocpaaGreatDoor
