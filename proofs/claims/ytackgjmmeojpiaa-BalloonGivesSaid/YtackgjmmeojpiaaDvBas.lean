import Derived.Test.YtackgjmmeojpiaaDkMk
import Derived.Test.YtackgjmmeojpiaaDkSet
import Derived.Test.YtackgjmmeojpiaaKeep
import Derived.Test.YtackgjmmeojpiaaExit
import Derived.Below
import Derived.IntWalk
import Derived.Lib.Hide
import Derived.Lib.QuietBelow
import Derived.Laws.ResultCell
import Derived.Deep.RegionHeld
import Derived.Deep.RegionHeld3
import Derived.BigRegion
namespace Go.Proofs.Ytackgjmmeojpiaa
set_option linter.unusedVariables false
set_option linter.unusedSimpArgs false
set_option maxRecDepth 20000
open Go.ChangeShapes Go.WideShapes Go.ChangeAt Go.RowKit Go.Proofs.Ytackgjmmeojpiaa.Num Go.Proofs.Ytackgjmmeojpiaa.Mem
/- What the devices' texts share: outputs, pages, memories that laws make. -/
/-- An output. -/
def otV (K A B : Int) (D : ByteArray) : Value := .agg #[.int .i64 K, .int .u64 A, .int .u32 B, .string D]
theorem stillI {w w' : World} {p : Addr} {v : Value} (h : w.cell? p = some v) (hb : Below w.heap.size w w') : w'.cell? p = some v := (hb.cell (World.block_lt_of_cell? w p h)).trans h
/-- The four cells of an output in a block. -/
structure InO (w : World) (b : Nat) (k : Int) (a : Int) (u : Int) (d : ByteArray) : Prop where
  c0 : w.cell? ⟨b, 0, none⟩ = some (.int .i64 k)
  c1 : w.cell? ⟨b, 1, none⟩ = some (.int .u64 a)
  c2 : w.cell? ⟨b, 2, none⟩ = some (.int .u32 u)
  c3 : w.cell? ⟨b, 3, none⟩ = some (.string d)
  z : ∀ i, w.frozen? ⟨b, i, none⟩ = false
theorem InO.lt {w : World} {b : Nat} {k : Int} {a : Int} {u : Int} {d : ByteArray} (h : InO w b k a u d) : b < w.heap.size := World.block_lt_of_cell? w _ h.c0
theorem InO.on {w w' : World} {b : Nat} {k : Int} {a : Int} {u : Int} {d : ByteArray} (h : InO w b k a u d) (hb : Below w.heap.size w w') : InO w' b k a u d := ⟨stillI h.c0 hb, stillI h.c1 hb, stillI h.c2 hb, stillI h.c3 hb, fun i => (hb.frozen (p := ⟨b, i, none⟩) h.lt).trans (h.z i)⟩
theorem InO.alloc {w : World} {b : Nat} {k : Int} {a : Int} {u : Int} {d : ByteArray} (h : InO w b k a u d) (o : Obj) : InO (w.alloc o) b k a u d := h.on ((Below.refl _ _).alloc (Nat.le_refl _) o)
theorem InO.drewN {w : World} {b : Nat} {k : Int} {a : Int} {u : Int} {d : ByteArray} (h : InO w b k a u d) (j : Nat) : InO (w.drewN j) b k a u d := h.on (below_drewN (Below.refl _ _) j)
theorem InO.drew {w : World} {b : Nat} {k : Int} {a : Int} {u : Int} {d : ByteArray} (h : InO w b k a u d) : InO w.drew b k a u d := h.on ((Below.refl _ _).drew)
theorem InO.new (w : World) (k a u d : _) (ty : TypeId) : InO (w.alloc (.cells #[.int .i64 k, .int .u64 a, .int .u32 u, .string d] ty)) w.heap.size k a u d := ⟨by simp [go_sem], by simp [go_sem], by simp [go_sem], by simp [go_sem], fun i => by simp [go_sem]⟩
theorem below_stepI {B : Nat} {w w1 w2 : World} (h : Below B w w1) (h2 : Below w1.heap.size w1 w2) (hB : B ≤ w.heap.size) : Below B w w2 := Below.trans h (h2.mono (Nat.le_trans hB h.size))
/- The disk's controller: writing a port. -/
theorem dkPage_ref (A : Option Addr) (n c : Nat) (f : Int) (w : World) (hn : n ≤ 1024) (f0 : 0 ≤ f) (f1 : f ≤ 4294967295) :
    Calls Try.prog 36 #[.slice A n c, .int .u32 f] w fun e w' => e = .returned (.bool (decide (f < pagesN n))) ∧ ∃ m, w' = w.drewN m := by
  have hp := pagesN_le n
  have HP := Lib.hid (fun W => pages_ref A n c W (by omega))
  go_enter Try.func36, Try.ntmps36
  go_wp2_with (go_at_call 20; (with_reducible refine (HP.out _).mono ?_); rintro e w1 ⟨rfl, m1, rfl⟩)
  go_ret
  exact ⟨rfl, m1, rfl⟩
/-- The outputs of a port write: none, or one. -/
def Outs (n0 : Nat) (w : World) (sl : Value) (o : Option (Int × Int × Int × ByteArray)) : Prop :=
  match o with
  | none => sl = .slice none 0 0
  | some (k, a, b, d) => ∃ g, n0 ≤ g ∧ sl = .slice (some ⟨g, 0, none⟩) 1 1 ∧ InO w g k a b d
theorem Outs.off {n0 : Nat} {w : World} {sl : Value} {o : Option (Int × Int × Int × ByteArray)} (h : Outs n0 w sl o) {p : Addr} (v : Value) (hp : p.block < n0) : Outs n0 (w.setCell p v) sl o := by
  match o, h with
  | none, h => exact h
  | some (k, a, b, d), ⟨g, hg, hs, h⟩ =>
    have e : ∀ i, (w.setCell p v).cell? ⟨g, i, none⟩ = w.cell? ⟨g, i, none⟩ := fun i => World.cell?_setCell_far w p ⟨g, i, none⟩ v (by show p.block ≠ g; omega)
    exact ⟨g, hg, hs, (e 0).trans h.c0, (e 1).trans h.c1, (e 2).trans h.c2, (e 3).trans h.c3, fun i => by rw [World.frozen?_setCell]; exact h.z i⟩
theorem Outs.mono {n0 n1 : Nat} {w : World} {sl : Value} {o : Option (Int × Int × Int × ByteArray)} (h : Outs n1 w sl o) (hn : n0 ≤ n1) : Outs n0 w sl o := by
  match o, h with
  | none, h => exact h
  | some (k, a, b, d), ⟨g, hg, hs, h⟩ => exact ⟨g, Nat.le_trans hn hg, hs, h⟩
theorem Outs.on {n0 : Nat} {w w' : World} {sl : Value} {o : Option (Int × Int × Int × ByteArray)} (h : Outs n0 w sl o) (hb : Below w.heap.size w w') : Outs n0 w' sl o := by
  match o, h with
  | none, h => exact h
  | some (k, a, b, d), ⟨g, hg, hs, h⟩ => exact ⟨g, hg, hs, h.on hb⟩
theorem results_cst {fn : Func} {p u u' : Tmp} {ty : TypeId} (h : fn.results = #[.cell p ty, .tmp u, .tmp u']) (tmps : Array Value) (P : Program) (w : World) :
    (results fn tmps).run P w =
      ((asAddr (tmps.getD p undef)).run P w).andThen fun a w₁ => ((loadVar ty a).run P w₁).andThen fun v w₂ => .ok (.tuple #[v, tmps.getD u undef, tmps.getD u' undef]) w₂ := by
  simp only [results, h]
  simp [Sem.run_bind, Result.andThen]
theorem Own.far {w : World} {g : Nat} {l : List Int} (h : Own w g l) {b : Nat} (i : Nat) (v : Value) (hb : ¬ b = g) : Own (w.setCell ⟨b, i, none⟩ v) g l := by
  have e := look_setCell w b i g v
  rw [if_neg hb] at e
  unfold lk at e
  unfold Own at h ⊢
  rw [e]; exact h
theorem Keep.high {p : Prop} {g : Nat} {a w : World} (h : Keep p g a w) {b : Nat} (i : Nat) (v : Value) (hb : a.heap.size ≤ b) : Keep p g a (w.setCell ⟨b, i, none⟩ v) := by
  have h2 := (Below.refl b w).setCell (p := ⟨b, i, none⟩) (Nat.le_refl _) v
  refine ⟨h2.os.trans h.os, h2.tape.trans h.tape, h2.output.trans h.output, Nat.le_trans h.size h2.size, fun k hk hn => ?_⟩
  rw [← h.block k hk hn, look_setCell, if_neg (by omega)]
theorem new_one (w : World) : Calls Try.prog 23 #[.int .i64 1] w fun e w' => (∃ g l c, e = .returned (.slice (some ⟨g, 0, none⟩) 32 c) ∧ w.heap.size ≤ g ∧ 32 ≤ c ∧ Hid (l.length = 32) ∧ Hid (U32 l) ∧ Own w' g l) ∧ Below w.heap.size w w' := by
  have h := new_made 0 w (by omega)
  have e : (1 + ((0 : Nat) : Int)) = 1 := rfl
  rw [e] at h
  exact h.mono fun e w' ⟨⟨l, c, he, hc, hl, hu, ho⟩, hb⟩ => ⟨⟨_, l, c, he, Nat.le_refl _, hc, hl, hu, ho⟩, hb⟩
/-- A memory that the law has made: 1 to 6 pages, the call's own. -/
def WordsPost (r : Nat) (w : World) (e : Ending) (w' : World) : Prop :=
  (∃ g c l, e = .returned (.slice (some ⟨g, 0, none⟩) (32 * (1 + r)) c) ∧ w.heap.size ≤ g ∧ 32 * (1 + r) ≤ c ∧ l.length = 32 * (1 + r) ∧ U32 l ∧ Own w' g l) ∧ Below w.heap.size w w'
theorem words_end {r N c g : Nat} {w w' : World} {l : List Int} (hN : N = 32 * (1 + r)) (hl : l.length = N) (ho : Own w' g l) (hu : U32 l) (hb : Below w.heap.size w w') (hc : N ≤ c) (hg : w.heap.size ≤ g) : WordsPost r w (.returned (.slice (some ⟨g, 0, none⟩) N c)) w' := by
  subst hN
  exact ⟨⟨g, c, l, rfl, hg, hc, hl, hu, ho⟩, hb⟩
theorem pgS_size {n : Nat} {l : List Int} {F : Int} (hl : l.length = n) (h0 : 0 ≤ F) (h1 : F < pagesN n) : (pgS n l F).size = 128 := by
  unfold pgS
  rw [if_pos ⟨h0, h1⟩]
  have hp := pagesN_le n
  exact pageS_size (by omega)
theorem cell_kp {w w' : World} {b : Nat} (h : lk w' b = lk w b) (i : Nat) : w'.cell? ⟨b, i, none⟩ = w.cell? ⟨b, i, none⟩ := by
  unfold lk at h
  simp only [World.cell?, h]
theorem frozen_kp {w w' : World} {b : Nat} (h : lk w' b = lk w b) (i : Nat) : w'.frozen? ⟨b, i, none⟩ = w.frozen? ⟨b, i, none⟩ := by
  unfold lk at h
  simp only [World.frozen?, h]
end Go.Proofs.Ytackgjmmeojpiaa
