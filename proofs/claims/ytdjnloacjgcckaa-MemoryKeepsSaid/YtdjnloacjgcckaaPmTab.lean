import Derived.Test.YtdjnloacjgcckaaPmFn9
import Derived.Test.YtdjnloacjgcckaaPmLawO
namespace Go.Proofs.Ytdjnloacjgcckaa
set_option linter.unusedVariables false
set_option linter.unusedSimpArgs false
open Go.ChangeShapes Go.WideShapes Go.ChangeAt Go.RowKit Go.Proofs.Ytdjnloacjgcckaa.Num Go.Proofs.Ytdjnloacjgcckaa.Mem
/-- Block g holds the bytes t, and nothing else. -/
def Tab (w : World) (g : Nat) (t : List UInt8) : Prop := w.heap[g]? = some (.cells (u8s t).toArray 5 (0, 0))
theorem Tab.lt {w : World} {g : Nat} {t : List UInt8} (h : Tab w g t) : g < w.heap.size := (Array.getElem?_eq_some_iff.1 h).1
theorem Tab.on {w w' : World} {g : Nat} {t : List UInt8} (h : Tab w g t) (hb : Below w.heap.size w w') : Tab w' g t := by
  unfold Tab; rw [hb.block g h.lt]; exact h
theorem Tab.cell {w : World} {g : Nat} {t : List UInt8} (h : Tab w g t) {i : Nat} (hi : i < t.length) : w.cell? ⟨g, i, none⟩ = some (.int .u8 ((t.getD i 0).toNat : Int)) := by
  unfold Tab at h
  simp [World.cell?, h, u8s, List.getD, hi]
theorem Tab.free {w : World} {g : Nat} {t : List UInt8} (h : Tab w g t) (i : Nat) : w.frozen? ⟨g, i, none⟩ = false := by
  unfold Tab at h
  simp [World.frozen?, h]
theorem Tab.set {w : World} {g : Nat} {t : List UInt8} (h : Tab w g t) (i : Nat) (b : UInt8) : Tab (w.setCell ⟨g, i, none⟩ (.int .u8 (b.toNat : Int))) g (t.set i b) := by
  unfold Tab at h ⊢
  have e : (u8s (t.set i b)).toArray = (u8s t).toArray.setIfInBounds i (.int .u8 (b.toNat : Int)) := by
    apply Array.toList_inj.1
    simp [u8s, List.map_set]
  rw [e]
  simp [World.setCell, Array.getElem?_modify, h]
theorem Tab.not {w : World} {g b off : Nat} {t : List UInt8} {x : Int} (h : Tab w g t) (hc : w.cell? ⟨b, off, none⟩ = some (.int .u32 x)) : g ≠ b := by
  rintro rfl
  unfold Tab at h
  by_cases hi : off < t.length
  · simp [World.cell?, h, u8s, hi] at hc
  · simp [World.cell?, h, u8s, hi] at hc
theorem Mem.setTab {w : World} {g i : Nat} {t : List UInt8} {A : Option Addr} {n c : Nat} {l : List Int} (h : Mem w A n c l) (ht : Tab w g t) (u : Value) : Mem (w.setCell ⟨g, i, none⟩ u) A n c l := by
  refine ⟨h.1, h.2.1, h.2.2.1, h.2.2.2.1, fun h0 => ?_⟩
  obtain ⟨b, off, hA, hc⟩ := h.2.2.2.2 h0
  refine ⟨b, off, hA, fun j hj => ?_⟩
  have hne := ht.not (hc j hj)
  rw [World.cell?_setCell_other w _ _ _ (fun e => hne (congrArg Addr.block e))]
  exact hc j hj
/-- k bytes of v laid from place a on. -/
def setK (t : List UInt8) (a : Nat) (v : Int) : Nat → List UInt8
  | 0 => t
  | k + 1 => (setK t a v k).set (a + k) (low v k)
theorem setK_len (t : List UInt8) (a : Nat) (v : Int) : ∀ k, (setK t a v k).length = t.length
  | 0 => rfl
  | k + 1 => by unfold setK; rw [List.length_set, setK_len t a v k]
theorem setK_get (t : List UInt8) (a : Nat) (v : Int) (i : Nat) : ∀ k, i < t.length → (setK t a v k)[i]? = if a ≤ i ∧ i < a + k then some (low v (i - a)) else t[i]?
  | 0, h => by rw [if_neg (by omega)]; rfl
  | k + 1, h => by
    unfold setK
    rw [List.getElem?_set, setK_get t a v i k h, setK_len]
    by_cases e : a + k = i
    · subst e
      rw [if_pos rfl, if_pos h, if_pos ⟨by omega, by omega⟩, Nat.add_sub_cancel_left]
    · rw [if_neg e]
      by_cases h2 : a ≤ i ∧ i < a + k
      · rw [if_pos h2, if_pos ⟨h2.1, by omega⟩]
      · rw [if_neg h2, if_neg (by omega)]
theorem low_zero (v : Int) (hv : 0 ≤ v) : UInt8.ofNat v.toNat = low v 0 := by
  unfold low; simp
/-- A store, as the table of bytes sees it. -/
theorem bytes_store (l : List Int) (a : Nat) (size : Nat) (v : Int) (hu : U32 l) (hs : size = 1 ∨ size = 4) (ha : a % size = 0) (hlt : a / 4 < l.length) (hv : 0 ≤ v) (hv' : v ≤ 4294967295) : bytesL (stV l a size v) = setK (bytesL l) a v size := by
  have e1 : ((a : Int) / 4).toNat = a / 4 := by omega
  have e2 : ((a : Int) % 4).toNat = a % 4 := by omega
  have hw := wd_bd hu (a / 4)
  apply List.ext_getElem?
  intro i
  by_cases hi : i < 4 * l.length
  · rw [bytesL_get _ _ (by rw [stV_len]; exact hi), setK_get _ _ _ _ _ (by rw [bytesL_len]; exact hi), bytesL_get _ _ hi]
    unfold stV
    rw [e1, byteAt_set _ _ _ _ hlt]
    unfold stW
    rcases hs with rfl | rfl
    · have n14 : ¬ ((1 : Nat) : Int) = 4 := by decide
      simp only [n14, if_false]
      rw [e2]
      by_cases hq : i / 4 = a / 4
      · rw [if_pos hq, low_setB _ _ _ _ hw.1 hw.2 (by omega) (by omega)]
        by_cases hr : i % 4 = a % 4
        · have e : i = a := by omega
          subst e
          rw [if_pos rfl, if_pos ⟨by omega, by omega⟩, Nat.sub_self, low_zero v hv]
        · rw [if_neg hr, if_neg (by omega)]
          unfold byteAt
          rw [hq]
      · rw [if_neg hq, if_neg (by omega)]
    · have n44 : ((4 : Nat) : Int) = 4 := rfl
      simp only [n44, if_true]
      by_cases hq : i / 4 = a / 4
      · rw [if_pos hq, if_pos ⟨by omega, by omega⟩]
        have e : i - a = i % 4 := by omega
        rw [e]
      · rw [if_neg hq, if_neg (by omega)]
  · rw [List.getElem?_eq_none (by rw [bytesL_len, stV_len]; omega), List.getElem?_eq_none (by rw [setK_len, bytesL_len]; omega)]
theorem bytes_zs (n : Nat) : bytesL (zs n) = List.replicate (4 * n) 0 := by
  apply List.ext_getElem?
  intro i
  by_cases hi : i < 4 * n
  · rw [bytesL_get _ _ (by rw [zs_len]; exact hi), byteAt_zs]
    simp [hi]
  · rw [List.getElem?_eq_none (by rw [bytesL_len, zs_len]; omega), List.getElem?_eq_none (by simp; omega)]
theorem bytes_page (l : List Int) (f : Nat) (h : 32 * f + 32 ≤ l.length) : ((bytesL l).drop (128 * f)).take 128 = bytesL (pageL l f) := by
  have hl := pageL_len h
  apply List.ext_getElem?
  intro i
  by_cases hi : i < 128
  · rw [List.getElem?_take, if_pos hi, List.getElem?_drop, bytesL_get _ _ (by omega), bytesL_get _ _ (by rw [hl]; omega), page_byte hi]
  · rw [List.getElem?_eq_none (by simp; omega), List.getElem?_eq_none (by rw [bytesL_len, hl]; omega)]
theorem mk_tab (N : Int) (n : Nat) (hN : N = (n : Int)) (hn : n ≤ 4096) (w : World) : (Instr.makeSlice 46 (.int .i64 N) (.int .i64 N)).run Try.prog w = .ok (.slice (some ⟨w.heap.size, 0, none⟩) n n) (w.alloc (.cells (u8s (List.replicate n 0)).toArray 5)) := by
  obtain ⟨i0, hi0, hz0, hz1, hz2⟩ := info_parts info_u8
  subst hN
  have h := run_make (P := Try.prog) w 46 5 i0 (.int .u8 0) Try.underlying46 hi0 hz0 .i64 .i64 n n (by omega) (by omega) (by rw [hz2]; omega) (by omega)
  rw [h, hz1]
  simp only [Int.toNat_natCast, Nat.mul_one]
  congr 3
  have e : (Value.int IntKind.u8 0).cells = #[Value.int .u8 0] := rfl
  rw [e]
  apply Array.toList_inj.1
  rw [toList_madeCells_one]
  simp [u8s]
theorem tab_string (w : World) (g o n c : Nat) (t : List UInt8) (h : Tab w g t) (hn : o + n ≤ t.length) : (convert 46 9 (.slice (some ⟨g, o, none⟩) n c)).run Try.prog w = .ok (.string (S8 ((t.drop o).take n))) w := by
  rw [run_convert_bytes_string w 46 9 5 _ _ _ Try.underlying46 Try.underlying5 Try.underlying9]
  have hl : ((t.drop o).take n).length = n := by simp; omega
  refine bytes_string w _ n c _ hl fun j hj => ?_
  rw [add_plain, h.cell (by omega)]
  congr 3
  rw [hl] at hj
  have : o + j < t.length := by omega
  simp [List.getD, this]
end Go.Proofs.Ytdjnloacjgcckaa
