/- What is encoded is read back, and what is read is an encoding. No program is named here. -/
import Derived.Test.YteghkamgbhjoeabNum3
namespace Go.Proofs.Yteghkamgbhjoeab.Num
open Go.RowKit
set_option linter.unusedVariables false

theorem u8_toNat (n : Nat) (h : n < 256) : (UInt8.ofNat n).toNat = n := by simp; omega
theorem endsB_mk {b i : Nat} (h1 : 0 < i → b ≠ 0) (h2 : i < 9 ∨ b ≤ 1) : endsB b i = true := by
  simp [endsB]; omega

theorem dec_encF (s : List UInt8) : ∀ n x i, n + i = 9 → x < 2 * 128 ^ n → (0 < i → x ≠ 0) → dec (encF n x ++ s) i = some (x, i + (encF n x).length)
  | 0, x, i, hi, hx, h0 => by
    have e := u8_toNat x (by simp at hx; omega)
    simp only [encF, List.singleton_append, List.length_singleton]
    rw [dec_end (by omega) (by rw [e]; simp at hx; omega) (by rw [e]; exact endsB_mk h0 (by simp at hx; omega)), e]
  | n + 1, x, i, hi, hx, h0 => by
    by_cases hb : x < 128
    · have e := u8_toNat x (by omega)
      rw [encF_small _ _ hb]
      simp only [List.singleton_append, List.length_singleton]
      rw [dec_end (by omega) (by rw [e]; exact hb) (by rw [e]; exact endsB_mk h0 (by omega)), e]
    · have e := u8_toNat (x % 128 + 128) (by omega)
      rw [encF_big _ _ hb, List.cons_append, dec_more (by omega) (by rw [e]; omega),
        dec_encF s n (x / 128) (i + 1) (by omega) (by rw [Nat.pow_succ] at hx; omega) (by omega), e]
      simp only [Option.map_some, List.length_cons, Option.some.injEq, Prod.mk.injEq]
      omega

theorem dec_enc (x : Nat) (s : List UInt8) (hx : x < 18446744073709551616) : dec (enc x ++ s) 0 = some (x, (enc x).length) := by
  have : (128 : Nat) ^ 9 = 9223372036854775808 := by decide
  have h := dec_encF s 9 x 0 rfl (by omega) (by omega)
  rw [Nat.zero_add] at h; exact h

theorem dec_back : ∀ (l : List UInt8) (i v m : Nat), i ≤ 9 → dec l i = some (v, m) → i < m ∧ m ≤ i + l.length ∧ encF (9 - i) v = l.take (m - i) ∧ v < 2 * 128 ^ (9 - i) ∧ (0 < i → v ≠ 0)
  | [], i, v, m, _, h => by rw [dec_nil] at h; cases h
  | b :: r, i, v, m, hi, h => by
    by_cases hb : b.toNat < 128
    · by_cases he : endsB b.toNat i = true
      · rw [dec_end (by omega) hb he] at h
        simp only [Option.some.injEq, Prod.mk.injEq] at h
        obtain ⟨rfl, rfl⟩ := h
        have hz := endsB_true he
        have p : 0 < (128 : Nat) ^ (9 - i) := Nat.pow_pos (by decide)
        refine ⟨by omega, by simp, ?_, ?_, by omega⟩
        · rw [encF_small _ _ hb, show i + 1 - i = 1 from by omega]; simp
        · by_cases h9 : i = 9
          · subst h9; simp; omega
          · have : (128 : Nat) ^ 1 ≤ 128 ^ (9 - i) := Nat.pow_le_pow_right (by decide) (by omega)
            omega
      · have he' : endsB b.toNat i = false := by simpa using he
        rw [dec_bad (by omega) hb he'] at h; cases h
    · rw [dec_more (by omega) hb] at h
      cases hd : dec r (i + 1) with
      | none => rw [hd] at h; cases h
      | some p =>
        obtain ⟨v', m'⟩ := p
        rw [hd] at h
        simp only [Option.map_some, Option.some.injEq, Prod.mk.injEq] at h
        obtain ⟨rfl, rfl⟩ := h
        by_cases h9 : i = 9
        · subst h9; rw [dec_ten _ _ (by omega)] at hd; cases hd
        · obtain ⟨h1, h2, h3, h4, h5⟩ := dec_back r (i + 1) v' m' (by omega) hd
          have e : 9 - i = (9 - (i + 1)) + 1 := by omega
          have hb2 := b.toNat_lt
          have hv : v' ≠ 0 := h5 (by omega)
          refine ⟨by omega, by simp; omega, ?_, by rw [e, Nat.pow_succ]; omega, by omega⟩
          rw [e, encF_big _ _ (by omega)]
          have e1 : (b.toNat - 128 + 128 * v') / 128 = v' := by omega
          have e2 : (b.toNat - 128 + 128 * v') % 128 + 128 = b.toNat := by omega
          rw [e1, e2, h3]
          have e3 : m' - i = (m' - (i + 1)) + 1 := by omega
          rw [e3, List.take_succ_cons]
          simp

theorem dec_is {l : List UInt8} {v m : Nat} (h : dec l 0 = some (v, m)) : 1 ≤ m ∧ m ≤ l.length ∧ enc v = l.take m ∧ v < 18446744073709551616 := by
  obtain ⟨h1, h2, h3, h4, _⟩ := dec_back l 0 v m (by omega) h
  have : (128 : Nat) ^ 9 = 9223372036854775808 := by decide
  exact ⟨h1, by omega, by rw [Nat.sub_zero] at h3; exact h3, by omega⟩
theorem u64b (b : UInt8) : IntKind.u64.wrap (b.toNat : Int) = (b.toNat : Int) := by have := b.toNat_lt; rw [IntKind.wrap_u64]; omega
theorem u64b_zero {b : UInt8} (h : (IntKind.u64.wrap (b.toNat : Int) == 0) = true) : b.toNat = 0 := by rw [u64b] at h; simpa using h
theorem u64b_pos {b : UInt8} (h : (IntKind.u64.wrap (b.toNat : Int) == 0) = false) : b.toNat ≠ 0 := by rw [u64b] at h; simpa using h
theorem u64b_lt {b : UInt8} (h : IntKind.u64.wrap (b.toNat : Int) < 128) : (b.toNat : Int) < 128 := by rw [u64b] at h; exact h
theorem u64b_ge {b : UInt8} (h : 128 ≤ IntKind.u64.wrap (b.toNat : Int)) : 128 ≤ (b.toNat : Int) := by rw [u64b] at h; exact h
theorem u64b_le1 {b : UInt8} (h : IntKind.u64.wrap (b.toNat : Int) ≤ 1) : b.toNat ≤ 1 := by rw [u64b] at h; omega
theorem u64b_gt1 {b : UInt8} (h : 1 < IntKind.u64.wrap (b.toNat : Int)) : 1 < b.toNat := by rw [u64b] at h; omega
theorem endsB_no {b i : Nat} (h : (0 < i ∧ b = 0) ∨ (9 ≤ i ∧ 1 < b)) : endsB b i = false := by
  cases he : endsB b i with
  | false => rfl
  | true => exact absurd h (endsB_true he)
theorem Inv.bad9 {s : ByteArray} {k X : Nat} (h : Inv s k X) (hk : k = 9) (hl : k < s.size) (hb : 1 < s[k].toNat) : dec s.data.toList 0 = none := by
  by_cases h1 : (s[k].toNat : Int) < 128
  · exact h.bad (by omega) hl h1 (endsB_no (Or.inr ⟨by omega, hb⟩))
  · exact (h.more (by omega) hl (by omega)).out (Or.inl (by omega))
/-- The same group, as the document's own answer reckons it. -/
theorem or_step_ref (X k : Nat) (b : UInt8) (hk : k ≤ 9) (hX : X < 128 ^ k) :
    bits .or .u64 (X : Int) (IntKind.u64.wrap (bits .and .u64 (IntKind.u64.wrap (b.toNat : Int)) 127 * 2 ^ (7 * k))) = ((X + b.toNat % 128 * 128 ^ k % 2 ^ 64 : Nat) : Int) := by
  have h := b.toNat_lt
  rw [← or_step X b.toNat k h hk hX, u64b]
  have e1 : bits .and .u64 (b.toNat : Int) 127 = ((b.toNat % 128 : Nat) : Int) := by
    rw [show (127 : Int) = ((127 : Nat) : Int) from rfl, u64_and_nat b.toNat 127 (by omega) (by decide), nat_mask7]
  have e2 : bits .and .u8 (b.toNat : Int) 127 = ((b.toNat % 128 : Nat) : Int) := by
    rw [show (127 : Int) = ((127 : Nat) : Int) from rfl, u8_and_nat b.toNat 127 h (by decide), nat_mask7]
  have e3 : IntKind.u64.wrap ((b.toNat % 128 : Nat) : Int) = ((b.toNat % 128 : Nat) : Int) := by rw [IntKind.wrap_u64]; omega
  rw [e1, e2, e3]
theorem or_step_ref9 (X k : Nat) (b : UInt8) (hk : k = 9) (hX : X < 128 ^ k) :
    bits .or .u64 (X : Int) (IntKind.u64.wrap (bits .and .u64 (IntKind.u64.wrap (b.toNat : Int)) 127 * 9223372036854775808)) = ((X + b.toNat % 128 * 128 ^ k % 2 ^ 64 : Nat) : Int) := by
  subst hk; rw [← or_step_ref X 9 b (by omega) hX]; rfl
end Go.Proofs.Yteghkamgbhjoeab.Num
