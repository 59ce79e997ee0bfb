import Derived.Test.YtackgjmmeojpiaaPmFn3
import Derived.Laws.ResultCell
import Derived.Deep.MidRow
import Derived.Deep.WholeRow
import Derived.Deep.RegionHeld3
namespace Go.Proofs.Ytackgjmmeojpiaa
set_option linter.unusedVariables false
set_option linter.unusedSimpArgs false
open Go.ChangeShapes Go.WideShapes Go.ChangeAt Go.RowKit Go.Proofs.Ytackgjmmeojpiaa.Num Go.Proofs.Ytackgjmmeojpiaa.Mem
/-- What lies in a block. -/
def lk (w : World) (g : Nat) : Option Obj := w.heap[g]?
theorem look_alloc (w : World) (o : Obj) (g : Nat) : lk (w.alloc o) g = if g = w.heap.size then some o else lk w g := by
  show (w.heap.push o)[g]? = _
  rw [Array.getElem?_push]; rfl
theorem look_setRow (w : World) (b g : Nat) (cs : Array Value) : lk (w.setRow b cs) g = if b = g then (lk w g).map (fun o => match o with | .cells _ t f => .cells cs t f | o => o) else lk w g := by
  unfold lk World.setRow
  simp only [Array.getElem?_modify]
  split
  · subst_vars; rfl
  · rfl
theorem look_drew (w : World) (g : Nat) : lk w.drew g = lk w g := rfl
theorem look_drewN (w : World) (m g : Nat) : lk (w.drewN m) g = lk w g := rfl
theorem look_on {w w' : World} {g B : Nat} {o : Obj} (h : lk w g = some o) (hb : Below B w w') (hg : g < B) : lk w' g = some o := (hb.block g hg).trans h
theorem look_setCell (w : World) (b k g : Nat) (v : Value) : lk (w.setCell ⟨b, k, none⟩ v) g = if b = g then (lk w g).map (fun o => match o with | .cells c t f => .cells (c.setIfInBounds k v) t f | o => o) else lk w g := by
  unfold lk World.setCell
  simp only [Array.getElem?_modify]
  split
  · subst_vars; rfl
  · rfl
theorem cell_lk {w : World} {g : Nat} {cs : Array Value} {T : TypeId} (h : lk w g = some (.cells cs T (0, 0))) (k : Nat) : w.cell? ⟨g, k, none⟩ = cs[k]? := cell_of_row w g k cs T (0, 0) h
theorem frozen_lk {w : World} {g : Nat} {cs : Array Value} {T : TypeId} (h : lk w g = some (.cells cs T (0, 0))) (k : Nat) : w.frozen? ⟨g, k, none⟩ = false := frozen_of_row w g k cs T h
theorem row_alloc_same (w : World) (c c' : Array Value) (t : TypeId) (g : Nat) (h : g = w.heap.size) : (w.alloc (.cells c t)).setRow g c' = w.alloc (.cells c' t) := by
  subst h; exact World.setRow_alloc_new w c c' t
theorem push_modify (h : Array Obj) (o : Obj) (g : Nat) (f : Obj → Obj) (hg : g < h.size) : (h.push o).modify g f = (h.modify g f).push o := by
  apply Array.ext_getElem?
  intro i
  simp only [Array.getElem?_modify, Array.getElem?_push, Array.size_modify]
  by_cases h1 : i = h.size
  · subst h1
    rw [if_neg (by omega), if_pos rfl, if_pos rfl]
  · rw [if_neg h1, if_neg h1]
theorem row_alloc_old (w : World) (o : Obj) (c' : Array Value) (g : Nat) (h : g < w.heap.size) : (w.alloc o).setRow g c' = (w.setRow g c').alloc o := by
  unfold World.setRow World.alloc
  simp only [push_modify _ _ _ _ h]
/- A memory of the call's own that callees change: what else stands. -/
/-- Every block stands but g (which may change if p). -/
structure Keep (p : Prop) (g : Nat) (w w' : World) : Prop where
  os : w'.os = w.os
  tape : w'.tape = w.tape
  output : w'.output = w.output
  size : w.heap.size ≤ w'.heap.size
  block : ∀ k, k < w.heap.size → ¬ (p ∧ k = g) → lk w' k = lk w k
theorem Keep.refl (p : Prop) (g : Nat) (w : World) : Keep p g w w := ⟨rfl, rfl, rfl, Nat.le_refl _, fun _ _ _ => rfl⟩
theorem Keep.drewN (p : Prop) (g : Nat) (w : World) (m : Nat) : Keep p g w (w.drewN m) := by
  have h := below_drewN (Below.refl w.heap.size w) m
  exact ⟨h.os, h.tape, h.output, h.size, fun k hk _ => h.block k hk⟩
theorem Keep.of {p : Prop} {g : Nat} {w w' : World} (h : Below w.heap.size w w') : Keep p g w w' := ⟨h.os, h.tape, h.output, h.size, fun k hk _ => h.block k hk⟩
theorem Keep.trans {p : Prop} {g : Nat} {a b c : World} (h : Keep p g a b) (k : Keep p g b c) : Keep p g a c :=
  ⟨k.os.trans h.os, k.tape.trans h.tape, k.output.trans h.output, Nat.le_trans h.size k.size, fun i hi hn => (k.block i (Nat.lt_of_lt_of_le hi h.size) hn).trans (h.block i hi hn)⟩
theorem Keep.setCell {p : Prop} {g : Nat} {a w : World} (h : Keep p g a w) (hp : p) (i : Nat) (v : Value) : Keep p g a (w.setCell ⟨g, i, none⟩ v) := by
  have h2 := (Below.refl g w).setCell (p := ⟨g, i, none⟩) (Nat.le_refl _) v
  refine ⟨h2.os.trans h.os, h2.tape.trans h.tape, h2.output.trans h.output, Nat.le_trans h.size h2.size, fun k hk hn => ?_⟩
  rw [← h.block k hk hn]
  rw [look_setCell, if_neg (fun e => hn ⟨hp, e.symm⟩)]
theorem Keep.below {p : Prop} {g B : Nat} {w w' : World} (h : Keep p g w w') (hB : B ≤ w.heap.size) (hg : p → B ≤ g) : Below B w w' :=
  ⟨h.os, h.tape, h.output, h.size, fun k hk => h.block k (Nat.lt_of_lt_of_le hk hB) (fun ⟨hp, e⟩ => by have := hg hp; omega)⟩
theorem look_kp {p : Prop} {g k : Nat} {w w' : World} {o : Obj} (h : lk w k = some o) (hk : Keep p g w w') (hn : ¬ (p ∧ k = g)) : lk w' k = some o := by
  have hlt : k < w.heap.size := by
    unfold lk at h
    exact (Array.getElem?_eq_some_iff.1 h).1
  rw [hk.block k hlt hn]; exact h
/-- A memory of the call's own: the slice A (n words) is the block g. -/
def Out (w : World) (A : Option Addr) (n c : Nat) (l : List Int) (g : Nat) : Prop := Mem w A n c l ∧ (0 < n → A = some ⟨g, 0, none⟩ ∧ Own w g l)
theorem Out.lt {w : World} {A : Option Addr} {n c g : Nat} {l : List Int} (h : Out w A n c l g) : 0 < n → g < w.heap.size := fun hn => (h.2 hn).2.lt
theorem Out.on {w w' : World} {A : Option Addr} {n c g : Nat} {l : List Int} (h : Out w A n c l g) (hb : Below w.heap.size w w') : Out w' A n c l g := ⟨h.1.on hb, fun hn => ⟨(h.2 hn).1, (h.2 hn).2.on hb⟩⟩
theorem Out.of {w : World} {A : Option Addr} {n c g : Nat} {l : List Int} (hl : l.length = n) (hc : n ≤ c) (hn : n ≤ 1024) (hu : U32 l) (hz : 0 < n) (hA : A = some ⟨g, 0, none⟩) (ho : Own w g l) : Out w A n c l g := ⟨by rw [hA]; exact ho.mem hl hc hn hu, fun _ => ⟨hA, ho⟩⟩
end Go.Proofs.Ytackgjmmeojpiaa
