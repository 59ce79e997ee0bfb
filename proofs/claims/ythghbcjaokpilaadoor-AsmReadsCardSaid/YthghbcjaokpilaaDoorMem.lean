/- Bytes of the call's own as a string. No program is named here. -/
import Derived.WalkKit
import Derived.Handy
import Derived.Deep.Draws
namespace Go.Proofs.YthghbcjaokpilaaDoor.Mem
open Go.RowKit Go.WideShapes
set_option linter.unusedVariables false

theorem fold_push (l : List UInt8) : ∀ s : ByteArray, (l.map fun b => (b.toNat : Int)).foldl (fun r n => r.push (UInt8.ofNat n.toNat)) s = ⟨s.data ++ l.toArray⟩ := by
  induction l with
  | nil => intro s; simp
  | cons b l ih =>
    intro s
    simp only [List.map_cons, List.foldl_cons, ih, Int.toNat_natCast]
    have : (UInt8.ofNat b.toNat) = b := by simp
    rw [this]
    show (⟨(s.data.push b) ++ l.toArray⟩ : ByteArray) = _
    congr 1
    simp
theorem bytes_string {P : Program} (w : World) (a : Addr) (n cap : Nat) (l : List UInt8) (hl : l.length = n) (h : ∀ j, (hj : j < l.length) → w.cell? (a.add j) = some (.int .u8 (l[j].toNat : Int))) :
    (Conv.bytesToString (.slice (some a) n cap)).run P w = .ok (.string ⟨l.toArray⟩) w := by
  have h1 := run_loadCells_list (P := P) (w := w) a (l.map fun b => Value.int .u8 (b.toNat : Int)) (fun j v hv => by
    rw [List.getElem?_map] at hv
    cases hj : l[j]? with
    | none => simp [hj] at hv
    | some b =>
      obtain ⟨hlt, rfl⟩ := List.getElem?_eq_some_iff.1 hj
      simp [hj] at hv
      rw [h j hlt, hv])
  rw [List.length_map, hl] at h1
  have h2 := run_bytesToString (P := P) w a n cap (l.map fun b => (b.toNat : Int)) (by rw [List.map_map]; exact h1)
  rw [h2, fold_push]
  congr 3
  show (#[] : Array UInt8) ++ l.toArray = l.toArray
  simp
/-- The cell that append's one new element lies in. -/
theorem new_cell (w : World) (x : Value) (T : TypeId) : ∀ j u, [x][j]? = some u → (w.alloc (.cells #[x] T)).cell? ((⟨w.heap.size, 0, none⟩ : Addr).add j) = some u := by
  intro j u h
  cases j with
  | zero =>
    simp at h; subst h
    rw [add_plain, World.cell?_alloc_at _ _ _ _ rfl]; rfl
  | succ j => simp at h
theorem one_cell (k : IntKind) (n : Int) : ∀ u ∈ [Value.int k n], u.oneCell' = true := by simp [Value.oneCell']

def u8s (l : List UInt8) : List Value := l.map fun b => .int .u8 (b.toNat : Int)
theorem u8s_snoc (l : List UInt8) (b : UInt8) (v : Int) (h : v = (b.toNat : Int)) : u8s l ++ [Value.int .u8 v] = u8s (l ++ [b]) := by subst h; simp [u8s]

/-- A slice of bytes that the call owns, as a string. -/
theorem own_string {P : Program} {w : World} {base : Nat} {e : TypeId} {v : Value} (l : List UInt8) (h : w.ownsRow base e 1 v l.length (u8s l)) (hl : l ≠ []) :
    (Conv.bytesToString v).run P w = .ok (.string ⟨l.toArray⟩) w := by
  rcases h.2 with ⟨_, h0⟩ | ⟨g, cap, cur, rfl, _⟩
  · exact absurd (List.eq_nil_of_length_eq_zero h0) hl
  · refine bytes_string w _ _ _ l rfl fun j hj => ?_
    have h2 := h.cellAt j (by omega)
    rw [add_plain, Nat.zero_add, h2, u8s, List.getElem?_map, List.getElem?_eq_getElem hj]; rfl
theorem own_convert {P : Program} {w : World} {base : Nat} {e src dst : TypeId} {v : Value} (hs : P.underlying src = some (.slice e)) (he : P.underlying e = some (.int .u8)) (hd : P.underlying dst = some .string)
    (l : List UInt8) (n : Nat) (h : w.ownsRow base e 1 v n (u8s l)) (hn : n = l.length) (hl : l ≠ []) : (convert src dst v).run P w = .ok (.string ⟨l.toArray⟩) w := by
  subst hn
  have h1 := own_string (P := P) l h hl
  rcases h.2 with ⟨_, h0⟩ | ⟨g, cap, cur, rfl, _⟩
  · exact absurd (List.eq_nil_of_length_eq_zero h0) hl
  · rw [run_convert_bytes_string w src dst e _ _ _ hs he hd]; exact h1
theorem below_drewN {B : Nat} {a w : World} (h : Below B a w) (n : Nat) : Below B a (w.drewN n) := ⟨h.os, h.tape, h.output, h.size, h.block⟩
theorem below_step {a b c : World} (h : Below a.heap.size a b) (k : Below b.heap.size b c) : Below a.heap.size a c := h.trans (k.mono h.size)
end Go.Proofs.YthghbcjaokpilaaDoor.Mem
