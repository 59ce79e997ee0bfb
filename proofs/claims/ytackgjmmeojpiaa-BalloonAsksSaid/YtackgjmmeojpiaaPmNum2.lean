import Derived.Test.YtackgjmmeojpiaaPmNum
import Derived.Test.YtackgjmmeojpiaaPmFn7
namespace Go.Proofs.Ytackgjmmeojpiaa
set_option linter.unusedVariables false
set_option linter.unusedSimpArgs false
open Go.Proofs.Ytackgjmmeojpiaa.Num
/-- The byte at an address. -/
def byteAt (l : List Int) (a : Nat) : UInt8 := low (wd l (a / 4)) (a % 4)
theorem lowL_get (x : Int) (i : Nat) (hi : i < 4) : (lowL x)[i]? = some (low x i) := by
  match i, hi with
  | 0, _ => rfl
  | 1, _ => rfl
  | 2, _ => rfl
  | 3, _ => rfl
theorem bytesL_get : ∀ (l : List Int) (a : Nat), a < 4 * l.length → (bytesL l)[a]? = some (byteAt l a)
  | [], a, h => by simp at h
  | x :: l, a, h => by
    have e : bytesL (x :: l) = lowL x ++ bytesL l := rfl
    have hl : (lowL x).length = 4 := rfl
    rw [e]
    by_cases h4 : a < 4
    · rw [List.getElem?_append_left (by omega), lowL_get x a h4]
      have e1 : a / 4 = 0 := by omega
      have e2 : a % 4 = a := by omega
      unfold byteAt
      rw [e1, e2]
      rfl
    · rw [List.getElem?_append_right (by omega), hl, bytesL_get l (a - 4) (by simp at h; omega)]
      unfold byteAt
      obtain ⟨q, hq⟩ : ∃ q, a / 4 = q + 1 := ⟨a / 4 - 1, by omega⟩
      have e1 : (a - 4) / 4 = q := by omega
      have e2 : (a - 4) % 4 = a % 4 := by omega
      rw [e1, e2, hq]
      rfl
theorem word_ext {x y : Int} (hx : 0 ≤ x ∧ x ≤ 4294967295) (hy : 0 ≤ y ∧ y ≤ 4294967295) (h : ∀ i, i < 4 → low x i = low y i) : x = y := by
  have h0 := low_val x 0 hx.1
  have h1 := low_val x 1 hx.1
  have h2 := low_val x 2 hx.1
  have h3 := low_val x 3 hx.1
  rw [h 0 (by omega), low_val y 0 hy.1] at h0
  rw [h 1 (by omega), low_val y 1 hy.1] at h1
  rw [h 2 (by omega), low_val y 2 hy.1] at h2
  rw [h 3 (by omega), low_val y 3 hy.1] at h3
  omega
theorem byte_ext {l r : List Int} (hl : U32 l) (hr : U32 r) (h : l.length = r.length) (hb : ∀ a, a < 4 * l.length → byteAt l a = byteAt r a) : l = r := by
  refine alike_all h fun j hj => word_ext (wd_bd hl j) (wd_bd hr j) fun i hi => ?_
  have := hb (4 * j + i) (by omega)
  unfold byteAt at this
  have e1 : (4 * j + i) / 4 = j := by omega
  have e2 : (4 * j + i) % 4 = i := by omega
  rw [e1, e2] at this
  exact this
theorem byteAt_set (l : List Int) (i a : Nat) (v : Int) (hi : i < l.length) : byteAt (l.set i v) a = if a / 4 = i then low v (a % 4) else byteAt l a := by
  unfold byteAt
  rw [wd_set l i (a / 4) v hi]
  by_cases h : i = a / 4
  · rw [if_pos h, if_pos h.symm]
  · rw [if_neg h, if_neg (fun e => h e.symm)]
theorem byteAt_zs (n a : Nat) : byteAt (zs n) a = 0 := by
  unfold byteAt
  rw [zs_wd]
  unfold low
  simp
/-- The word of four bytes. -/
def join (a b c d : UInt8) : Int := a.toNat + 256 * b.toNat + 65536 * c.toNat + 16777216 * d.toNat
theorem join_bd (a b c d : UInt8) : 0 ≤ join a b c d ∧ join a b c d ≤ 4294967295 := by
  have := a.toNat_lt; have := b.toNat_lt; have := c.toNat_lt; have := d.toNat_lt
  unfold join; omega
theorem u8_int {a b : UInt8} (h : ((a.toNat : Nat) : Int) = b.toNat) : a = b := UInt8.toNat_inj.1 (by omega)
theorem low_join (a b c d : UInt8) (i : Nat) (hi : i < 4) : low (join a b c d) i = [a, b, c, d].getD i 0 := by
  have h1 := a.toNat_lt; have h2 := b.toNat_lt; have h3 := c.toNat_lt; have h4 := d.toNat_lt
  apply u8_int
  rw [low_val _ _ (join_bd a b c d).1]
  match i, hi with
  | 0, _ => show join a b c d / 256 ^ 0 % 256 = (a.toNat : Int); unfold join; omega
  | 1, _ => show join a b c d / 256 ^ 1 % 256 = (b.toNat : Int); unfold join; omega
  | 2, _ => show join a b c d / 256 ^ 2 % 256 = (c.toNat : Int); unfold join; omega
  | 3, _ => show join a b c d / 256 ^ 3 % 256 = (d.toNat : Int); unfold join; omega
/-- The bytes of s stand from page f on, k of them; all else is as in l. -/
def Filled (s : List UInt8) (f k : Nat) (l l' : List Int) : Prop := l'.length = l.length ∧ U32 l' ∧ ∀ a, a < 4 * l.length → byteAt l' a = if 128 * f ≤ a ∧ a < 128 * f + k then s.getD (a - 128 * f) 0 else byteAt l a
theorem Filled.start {l : List Int} (s : List UInt8) (f : Nat) (hu : U32 l) : Filled s f 0 l l := ⟨rfl, hu, fun a _ => by rw [if_neg (by omega)]⟩
theorem Filled.one {s : List UInt8} {f k : Nat} {l l' : List Int} (h : Filled s f k l l') (hk : k < 128) (hf : 32 * f + 32 ≤ l.length) : Filled s f (k + 1) l (l'.set ((128 * f + k) / 4) (setB (wd l' ((128 * f + k) / 4)) ((128 * f + k) % 4) ((s.getD k 0).toNat : Int))) := by
  obtain ⟨hl, hu, hb⟩ := h
  have hw := wd_bd hu ((128 * f + k) / 4)
  refine ⟨by rw [List.length_set, hl], hu.set _ (setB_bd _ _ _ hw.1 hw.2 (by omega)).1 (setB_bd _ _ _ hw.1 hw.2 (by omega)).2, fun a ha => ?_⟩
  rw [byteAt_set _ _ _ _ (by rw [hl]; omega)]
  by_cases hq : a / 4 = (128 * f + k) / 4
  · rw [if_pos hq, low_setB _ _ _ _ hw.1 hw.2 (by omega) (by omega), Int.toNat_natCast]
    by_cases hr : a % 4 = (128 * f + k) % 4
    · have e : a = 128 * f + k := by omega
      rw [if_pos hr, if_pos (by omega), e, Nat.add_sub_cancel_left]
      simp
    · rw [if_neg hr, ← hq]
      have := hb a ha
      unfold byteAt at this
      rw [this]
      by_cases hc : 128 * f ≤ a ∧ a < 128 * f + k
      · rw [if_pos hc, if_pos (by omega)]
      · rw [if_neg hc, if_neg (by omega)]; rfl
  · rw [if_neg hq, hb a ha]
    by_cases hc : 128 * f ≤ a ∧ a < 128 * f + k
    · rw [if_pos hc, if_pos (by omega)]
    · rw [if_neg hc, if_neg (by omega)]
theorem Filled.four {s : List UInt8} {f k : Nat} {l l' : List Int} (h : Filled s f (4 * k) l l') (hk : k < 32) (hf : 32 * f + 32 ≤ l.length) : Filled s f (4 * (k + 1)) l (l'.set (32 * f + k) (join (s.getD (4 * k) 0) (s.getD (4 * k + 1) 0) (s.getD (4 * k + 2) 0) (s.getD (4 * k + 3) 0))) := by
  obtain ⟨hl, hu, hb⟩ := h
  have hj := join_bd (s.getD (4 * k) 0) (s.getD (4 * k + 1) 0) (s.getD (4 * k + 2) 0) (s.getD (4 * k + 3) 0)
  refine ⟨by rw [List.length_set, hl], hu.set _ hj.1 hj.2, fun a ha => ?_⟩
  rw [byteAt_set _ _ _ _ (by rw [hl]; omega)]
  by_cases hq : a / 4 = 32 * f + k
  · rw [if_pos hq, low_join _ _ _ _ _ (by omega), if_pos (by omega)]
    obtain ⟨i, hi, e⟩ : ∃ i, i < 4 ∧ a = 128 * f + 4 * k + i := ⟨a % 4, by omega, by omega⟩
    have e1 : a % 4 = i := by omega
    have e2 : a - 128 * f = 4 * k + i := by omega
    rw [e1, e2]
    match i, hi with
    | 0, _ => rfl
    | 1, _ => rfl
    | 2, _ => rfl
    | 3, _ => rfl
  · rw [if_neg hq, hb a ha]
    by_cases hc : 128 * f ≤ a ∧ a < 128 * f + 4 * k
    · rw [if_pos hc, if_pos (by omega)]
    · rw [if_neg hc, if_neg (by omega)]
theorem Filled.same {s : List UInt8} {f k : Nat} {l l1 l2 : List Int} (h1 : Filled s f k l l1) (h2 : Filled s f k l l2) : l1 = l2 :=
  byte_ext h1.2.1 h2.2.1 (by rw [h1.1, h2.1]) fun a ha => by rw [h1.2.2 a (by rw [← h1.1]; exact ha), h2.2.2 a (by rw [← h1.1]; exact ha)]
theorem page_byte {l : List Int} {f i : Nat} (hi : i < 128) : byteAt (pageL l f) i = byteAt l (128 * f + i) := by
  unfold byteAt
  rw [pageL_wd (by omega)]
  have e1 : (128 * f + i) / 4 = 32 * f + i / 4 := by omega
  have e2 : (128 * f + i) % 4 = i % 4 := by omega
  rw [e1, e2]
theorem Filled.page {s : List UInt8} {f : Nat} {l l' : List Int} (h : Filled s f 128 l l') (hs : s.length = 128) (hf : 32 * f + 32 ≤ l.length) : bytesL (pageL l' f) = s := by
  obtain ⟨hl, hu, hb⟩ := h
  have hlen : (pageL l' f).length = 32 := pageL_len (by omega)
  apply List.ext_getElem?
  intro i
  by_cases hi : i < 128
  · rw [bytesL_get _ _ (by rw [hlen]; omega), page_byte hi, hb _ (by omega), if_pos (by omega), Nat.add_sub_cancel_left]
    have : i < s.length := by omega
    simp [List.getD, this]
  · rw [List.getElem?_eq_none (by rw [bytesL_len, hlen]; omega), List.getElem?_eq_none (by omega)]
end Go.Proofs.Ytackgjmmeojpiaa
