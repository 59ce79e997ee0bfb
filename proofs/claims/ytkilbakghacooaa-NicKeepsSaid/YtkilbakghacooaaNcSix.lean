import Derived.Test.YtkilbakghacooaaNcAwk
namespace Go.Proofs.Ytkilbakghacooaa
set_option linter.unusedVariables false
set_option linter.unusedSimpArgs false
set_option maxRecDepth 20000
open Go.ChangeShapes Go.WideShapes Go.ChangeAt Go.RowKit Go.Proofs.Ytkilbakghacooaa.Num Go.Proofs.Ytkilbakghacooaa.Mem
theorem far6 (w : World) {b g : Nat} (h : ¬ b = g) (v0 v1 v2 v3 v4 v5 : Value) (i : Nat) : ((((((w.setCell ⟨b, 0, none⟩ v0).setCell ⟨b, 1, none⟩ v1).setCell ⟨b, 2, none⟩ v2).setCell ⟨b, 3, none⟩ v3).setCell ⟨b, 4, none⟩ v4).setCell ⟨b, 5, none⟩ v5).cell? ⟨g, i, none⟩ = w.cell? ⟨g, i, none⟩ := by
  iterate 6 rw [World.cell?_setCell_far _ _ _ _ (by exact h)]
theorem frozen6 (w : World) (b : Nat) (v0 v1 v2 v3 v4 v5 : Value) (p : Addr) : ((((((w.setCell ⟨b, 0, none⟩ v0).setCell ⟨b, 1, none⟩ v1).setCell ⟨b, 2, none⟩ v2).setCell ⟨b, 3, none⟩ v3).setCell ⟨b, 4, none⟩ v4).setCell ⟨b, 5, none⟩ v5).frozen? p = w.frozen? p := by
  iterate 6 rw [World.frozen?_setCell]
theorem InN.far6 {w : World} {b : Nat} {F L : Int} {P : Bool} {B : Int} {R : Bool} {G : Int} (h : InN w b F L P B R G) {g : Nat} (hg : ¬ g = b) (v0 v1 v2 v3 v4 v5 : Value) : InN ((((((w.setCell ⟨g, 0, none⟩ v0).setCell ⟨g, 1, none⟩ v1).setCell ⟨g, 2, none⟩ v2).setCell ⟨g, 3, none⟩ v3).setCell ⟨g, 4, none⟩ v4).setCell ⟨g, 5, none⟩ v5) b F L P B R G :=
  ⟨(Go.Proofs.Ytkilbakghacooaa.far6 _ hg _ _ _ _ _ _ 0).trans h.c0, (Go.Proofs.Ytkilbakghacooaa.far6 _ hg _ _ _ _ _ _ 1).trans h.c1, (Go.Proofs.Ytkilbakghacooaa.far6 _ hg _ _ _ _ _ _ 2).trans h.c2, (Go.Proofs.Ytkilbakghacooaa.far6 _ hg _ _ _ _ _ _ 3).trans h.c3, (Go.Proofs.Ytkilbakghacooaa.far6 _ hg _ _ _ _ _ _ 4).trans h.c4, (Go.Proofs.Ytkilbakghacooaa.far6 _ hg _ _ _ _ _ _ 5).trans h.c5, fun i => (frozen6 ..).trans (h.z i)⟩
theorem InN.st6 {w : World} {b : Nat} {F L : Int} {P : Bool} {B : Int} {R : Bool} {G : Int} (h : InN w b F L P B R G) (F' L' : Int) (P' : Bool) (B' : Int) (R' : Bool) (G' : Int) : InN ((((((w.setCell ⟨b, 0, none⟩ (.int .u32 F')).setCell ⟨b, 1, none⟩ (.int .u32 L')).setCell ⟨b, 2, none⟩ (.bool P')).setCell ⟨b, 3, none⟩ (.int .u32 B')).setCell ⟨b, 4, none⟩ (.bool R')).setCell ⟨b, 5, none⟩ (.int .u32 G')) b F' L' P' B' R' G' := by
  obtain ⟨c0, c1, c2, c3, c4, c5, z⟩ := h
  exact ⟨by simp [go_sem, c0, c1, c2, c3, c4, c5], by simp [go_sem, c0, c1, c2, c3, c4, c5], by simp [go_sem, c0, c1, c2, c3, c4, c5], by simp [go_sem, c0, c1, c2, c3, c4, c5], by simp [go_sem, c0, c1, c2, c3, c4, c5], by simp [go_sem, c0, c1, c2, c3, c4, c5], fun i => (frozen6 ..).trans (z i)⟩
theorem Own.far6 {w : World} {g : Nat} {l : List Int} (h : Own w g l) {b : Nat} (hb : ¬ b = g) (v0 v1 v2 v3 v4 v5 : Value) : Own ((((((w.setCell ⟨b, 0, none⟩ v0).setCell ⟨b, 1, none⟩ v1).setCell ⟨b, 2, none⟩ v2).setCell ⟨b, 3, none⟩ v3).setCell ⟨b, 4, none⟩ v4).setCell ⟨b, 5, none⟩ v5) g l :=
  (((((h.far 0 v0 hb).far 1 v1 hb).far 2 v2 hb).far 3 v3 hb).far 4 v4 hb).far 5 v5 hb
theorem below_st6 {n : Nat} {a w : World} (h : Below n a w) {b : Nat} (hb : n ≤ b) (v0 v1 v2 v3 v4 v5 : Value) : Below n a ((((((w.setCell ⟨b, 0, none⟩ v0).setCell ⟨b, 1, none⟩ v1).setCell ⟨b, 2, none⟩ v2).setCell ⟨b, 3, none⟩ v3).setCell ⟨b, 4, none⟩ v4).setCell ⟨b, 5, none⟩ v5) :=
  (((((h.setCell (p := ⟨b, 0, none⟩) hb v0).setCell (p := ⟨b, 1, none⟩) hb v1).setCell (p := ⟨b, 2, none⟩) hb v2).setCell (p := ⟨b, 3, none⟩) hb v3).setCell (p := ⟨b, 4, none⟩) hb v4).setCell (p := ⟨b, 5, none⟩) hb v5
end Go.Proofs.Ytkilbakghacooaa
