import Derived.Test.YtackgjmmeojpiaaFn2
import Derived.Test.YtackgjmmeojpiaaMem
import Derived.Below
import Derived.Laws.OwnMore
import Derived.Laws.ResultCell
import Derived.Lib.Hide
namespace Go.Proofs.Ytackgjmmeojpiaa
set_option linter.unusedVariables false
set_option linter.unusedSimpArgs false
open Go.ChangeShapes Go.WideShapes Go.ChangeAt Go.RowKit Go.Proofs.Ytackgjmmeojpiaa.Num Go.Proofs.Ytackgjmmeojpiaa.Mem
/-- The word at a place of a list. -/
def wd (l : List Int) (i : Nat) : Int := l.getD i 0
def U32 (l : List Int) : Prop := ∀ x ∈ l, 0 ≤ x ∧ x ≤ 4294967295
theorem wd_bd {l : List Int} (h : U32 l) (i : Nat) : 0 ≤ wd l i ∧ wd l i ≤ 4294967295 := by
  unfold wd
  by_cases hi : i < l.length
  · have e : l.getD i 0 = l[i] := by simp [List.getD, hi]
    rw [e]; exact h _ (List.getElem_mem hi)
  · have e : l.getD i 0 = 0 := by simp [List.getD, hi]
    rw [e]; omega
theorem wd_set (l : List Int) (i j : Nat) (v : Int) (hi : i < l.length) : wd (l.set i v) j = if i = j then v else wd l j := by
  unfold wd
  rw [List.getD_eq_getElem?_getD, List.getD_eq_getElem?_getD, List.getElem?_set]
  by_cases h : i = j
  · subst h; simp [hi]
  · simp [h]
theorem U32.set {l : List Int} (h : U32 l) (i : Nat) {v : Int} (h0 : 0 ≤ v) (h1 : v ≤ 4294967295) : U32 (l.set i v) := fun x hx => by
  rcases List.mem_or_eq_of_mem_set hx with hx | rfl
  · exact h x hx
  · exact ⟨h0, h1⟩
/-- A slice's address, under which the words lie. -/
def Rd (w : World) (A : Option Addr) (l : List Int) : Prop := 0 < l.length → ∃ b off, A = some ⟨b, off, none⟩ ∧ ∀ i, i < l.length → w.cell? ⟨b, off + i, none⟩ = some (.int .u32 (wd l i))
/-- The slice A, n, c reads as the words l, at most 1024 of them. -/
def Mem (w : World) (A : Option Addr) (n c : Nat) (l : List Int) : Prop := l.length = n ∧ n ≤ c ∧ n ≤ 1024 ∧ U32 l ∧ Rd w A l
theorem block_of {w : World} {p : Addr} {v : Value} (h : w.cell? p = some v) : p.block < w.heap.size := World.block_lt_of_cell? w p h
theorem cell_on {w w' : World} {p : Addr} {v : Value} (h : w.cell? p = some v) (hb : Below w.heap.size w w') : w'.cell? p = some v := (hb.cell (block_of h)).trans h
theorem Rd.on {w w' : World} {A : Option Addr} {l : List Int} (h : Rd w A l) (hb : Below w.heap.size w w') : Rd w' A l := fun h0 => by
  obtain ⟨b, off, hA, hc⟩ := h h0
  exact ⟨b, off, hA, fun i hi => cell_on (hc i hi) hb⟩
theorem Mem.on {w w' : World} {A : Option Addr} {n c : Nat} {l : List Int} (h : Mem w A n c l) (hb : Below w.heap.size w w') : Mem w' A n c l := ⟨h.1, h.2.1, h.2.2.1, h.2.2.2.1, h.2.2.2.2.on hb⟩
theorem Mem.drewN {w : World} {A : Option Addr} {n c : Nat} {l : List Int} (h : Mem w A n c l) (k : Nat) : Mem (w.drewN k) A n c l := h
theorem Mem.nil (w : World) (A : Option Addr) (c : Nat) : Mem w A 0 c [] := ⟨rfl, Nat.zero_le _, Nat.zero_le _, fun x hx => by simp at hx, fun h => absurd h (by simp)⟩
theorem Mem.at_ {w : World} {A : Option Addr} {n c : Nat} {l : List Int} (h : Mem w A n c l) {k : Nat} (hk : k < n) : ∃ b off, A = some ⟨b, off, none⟩ ∧ w.cell? ⟨b, off + k, none⟩ = some (.int .u32 (wd l k)) ∧ 0 ≤ wd l k ∧ wd l k ≤ 4294967295 := by
  obtain ⟨hl, _, _, hu, hr⟩ := h
  obtain ⟨b, off, hA, hc⟩ := hr (by omega)
  exact ⟨b, off, hA, hc k (by omega), wd_bd hu k⟩
/-- A block of the call's own, whose first cells are the words l. -/
def Own (w : World) (g : Nat) (l : List Int) : Prop := ∃ cs : Array Value, w.heap[g]? = some (.cells cs 22 (0, 0)) ∧ ∀ i, i < l.length → cs[i]? = some (.int .u32 (wd l i))
theorem Own.cell {w : World} {g : Nat} {l : List Int} (h : Own w g l) {i : Nat} (hi : i < l.length) : w.cell? ⟨g, i, none⟩ = some (.int .u32 (wd l i)) := by
  obtain ⟨cs, hg, hc⟩ := h
  simp [World.cell?, hg, hc i hi]
theorem Own.free {w : World} {g : Nat} {l : List Int} (h : Own w g l) (i : Nat) : w.frozen? ⟨g, i, none⟩ = false := by
  obtain ⟨cs, hg, hc⟩ := h
  simp [World.frozen?, hg]
theorem Own.lt {w : World} {g : Nat} {l : List Int} (h : Own w g l) : g < w.heap.size := by
  obtain ⟨cs, hg, hc⟩ := h
  exact (Array.getElem?_eq_some_iff.1 hg).1
theorem Own.mem {w : World} {g : Nat} {l : List Int} (h : Own w g l) {n c : Nat} (hl : l.length = n) (hc : n ≤ c) (hn : n ≤ 1024) (hu : U32 l) : Mem w (some ⟨g, 0, none⟩) n c l :=
  ⟨hl, hc, hn, hu, fun _ => ⟨g, 0, rfl, fun i hi => by rw [Nat.zero_add]; exact h.cell hi⟩⟩
theorem Own.below {w w' : World} {g B : Nat} {l : List Int} (h : Own w g l) (hb : Below B w w') (hg : g < B) : Own w' g l := by
  obtain ⟨cs, h1, h2⟩ := h
  exact ⟨cs, by rw [hb.block g hg]; exact h1, h2⟩
theorem Own.on {w w' : World} {g : Nat} {l : List Int} (h : Own w g l) (hb : Below w.heap.size w w') : Own w' g l := h.below hb h.lt
theorem Own.drewN {w : World} {g : Nat} {l : List Int} (h : Own w g l) (k : Nat) : Own (w.drewN k) g l := h
theorem Own.set {w : World} {g : Nat} {l : List Int} (h : Own w g l) {i : Nat} (hi : i < l.length) (v : Int) : Own (w.setCell ⟨g, i, none⟩ (.int .u32 v)) g (l.set i v) := by
  have hlt := h.lt
  obtain ⟨cs, h1, h2⟩ := h
  refine ⟨cs.setIfInBounds i (.int .u32 v), ?_, fun j hj => ?_⟩
  · simp [World.setCell, Array.getElem?_modify, h1]
  · rw [List.length_set] at hj
    have hci : i < cs.size := (Array.getElem?_eq_some_iff.1 (h2 i hi)).1
    rw [wd_set l i j v hi, Array.getElem?_setIfInBounds]
    by_cases e : i = j
    · subst e; simp [hci]
    · simp [e]; exact h2 j hj
theorem Own.ofRow {w : World} {base n : Nat} {v : Value} {l : List Int} (h : w.ownsRow base 22 1 v n (l.map (Value.int .u32))) (hn : 0 < n) : ∃ g cap, v = .slice (some ⟨g, 0, none⟩) n cap ∧ n ≤ cap ∧ base ≤ g ∧ Own w g l := by
  rcases h.2 with ⟨_, h0⟩ | ⟨g, cap, cur, rfl, hbg, hg, hnc, hcm, hcs, htake⟩
  · omega
  · refine ⟨g, cap, rfl, hnc, hbg, cur, hg, fun i hi => ?_⟩
    have hl := h.1
    rw [List.length_map] at hl
    have := h.cellAt i (by omega)
    have hlt := (Array.getElem?_eq_some_iff.1 hg).1
    simp [World.cell?, hg] at this
    rw [this, List.getElem?_eq_getElem hi]
    simp [wd, List.getD, hi]
/-- The words' bytes, the least significant one first. -/
def low (x : Int) (i : Nat) : UInt8 := UInt8.ofNat (x.toNat / 256 ^ i)
def lowL (x : Int) : List UInt8 := [low x 0, low x 1, low x 2, low x 3]
def bytesL (l : List Int) : List UInt8 := l.flatMap lowL
theorem bytesL_len (l : List Int) : (bytesL l).length = 4 * l.length := by
  induction l with
  | nil => rfl
  | cons x l ih => show (lowL x ++ bytesL l).length = _; rw [List.length_append, ih]; simp [lowL]; omega
def S8 (l : List UInt8) : ByteArray := ⟨l.toArray⟩
theorem S8_size (l : List UInt8) : (S8 l).size = l.length := by simp [S8, ByteArray.size]
theorem S8_list (l : List UInt8) : (S8 l).data.toList = l := by simp [S8]
end Go.Proofs.Ytackgjmmeojpiaa
