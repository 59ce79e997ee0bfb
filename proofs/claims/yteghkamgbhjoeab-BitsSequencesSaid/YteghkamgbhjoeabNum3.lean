/- Encodings of numbers in groups of seven bits: what they are, and that they are read back. No program is named here. -/
import Derived.Test.YteghkamgbhjoeabNum2
namespace Go.Proofs.Yteghkamgbhjoeab.Num
open Go.RowKit
set_option linter.unusedVariables false

/-- The encoding of x with at most n groups behind the first. -/
def encF : Nat → Nat → List UInt8
  | 0, x => [UInt8.ofNat x]
  | n + 1, x => if x < 128 then [UInt8.ofNat x] else UInt8.ofNat (x % 128 + 128) :: encF n (x / 128)
def enc (x : Nat) : List UInt8 := encF 9 x

theorem encF_small (n x : Nat) (h : x < 128) : encF n x = [UInt8.ofNat x] := by cases n with | zero => rfl | succ n => unfold encF; rw [if_pos h]
theorem encF_big (n x : Nat) (h : ¬ x < 128) : encF (n + 1) x = UInt8.ofNat (x % 128 + 128) :: encF n (x / 128) := by
  conv => lhs; unfold encF
  rw [if_neg h]
theorem encF_pos : ∀ n x, 1 ≤ (encF n x).length
  | 0, _ => by simp [encF]
  | n + 1, x => by unfold encF; split <;> simp
theorem encF_le : ∀ n x, (encF n x).length ≤ n + 1
  | 0, _ => by simp [encF]
  | n + 1, x => by
    unfold encF; split
    · simp
    · have := encF_le n (x / 128); simp; omega
theorem enc_le (x : Nat) : (enc x).length ≤ 10 := encF_le 9 x
theorem enc_pos (x : Nat) : 1 ≤ (enc x).length := encF_pos 9 x

theorem div_pow_succ (x k : Nat) : x / 128 ^ (k + 1) = x / 128 ^ k / 128 := by rw [Nat.pow_succ, Nat.div_div_eq_div_mul]
theorem nine (x : Nat) (hx : x < 18446744073709551616) : x / 128 ^ 9 < 128 := by
  have : (128 : Nat) ^ 9 = 9223372036854775808 := by decide
  rw [this]; omega
/-- The k-th remainder y, and what is encoded before it. -/
structure EncAt (x k y : Nat) (pre : List UInt8) : Prop where
  eq : enc x = pre ++ encF (9 - k) y
  len : pre.length = k
  le : k ≤ 9
  val : y = x / 128 ^ k
theorem EncAt.start (x : Nat) : EncAt x 0 x [] := ⟨by simp [enc], rfl, by omega, by simp⟩
theorem EncAt.more {x k y : Nat} {pre : List UInt8} (h : EncAt x k y pre) (hb : ¬ y < 128) (hk : k < 9) : EncAt x (k + 1) (y / 128) (pre ++ [UInt8.ofNat (y % 128 + 128)]) := by
  refine ⟨?_, by simp [h.len], by omega, by rw [div_pow_succ, ← h.val]⟩
  have e : 9 - k = (9 - (k + 1)) + 1 := by omega
  rw [h.eq, e, encF_big _ _ hb]; simp
theorem EncAt.done {x k y : Nat} {pre : List UInt8} (h : EncAt x k y pre) (hb : y < 128) : (enc x) = pre ++ [UInt8.ofNat y] := by
  rw [h.eq, encF_small _ _ hb]
theorem EncAt.lenDone {x k y : Nat} {pre : List UInt8} (h : EncAt x k y pre) (hb : y < 128) : (enc x).length = k + 1 := by
  rw [h.done hb]; simp [h.len]
theorem EncAt.lt9 {x k y : Nat} {pre : List UInt8} (h : EncAt x k y pre) (hx : x < 18446744073709551616) (hb : ¬ y < 128) : k < 9 := by
  have := h.le
  have : k ≠ 9 := by rintro rfl; exact hb (by rw [h.val]; exact nine x hx)
  omega
/-- More than one byte to come: the remainder is large. -/
theorem EncAt.big {x k y : Nat} {pre : List UInt8} (h : EncAt x k y pre) (hl : k + 1 < (enc x).length) : ¬ y < 128 := fun hb => by have := h.lenDone hb; omega
theorem EncAt.last {x k y : Nat} {pre : List UInt8} (h : EncAt x k y pre) (hx : x < 18446744073709551616) (hl : (enc x).length ≤ k + 1) : y < 128 := by
  by_cases hb : y < 128
  · exact hb
  · exfalso
    have h9 := h.lt9 hx hb
    have h2 := congrArg List.length h.eq
    rw [List.length_append, h.len] at h2
    have := encF_pos (9 - k) y
    have h3 : (encF (9 - k) y).length = 1 := by omega
    have e : 9 - k = (9 - (k + 1)) + 1 := by omega
    rw [e, encF_big _ _ hb, List.length_cons] at h3
    have := encF_pos (9 - (k + 1)) (y / 128)
    omega
theorem EncAt.lt {x k y : Nat} {pre : List UInt8} (h : EncAt x k y pre) (hx : x < 18446744073709551616) : y < 18446744073709551616 := by
  have := Nat.div_le_self x (128 ^ k); rw [← h.val] at this; omega

/-- The encoding as a string. -/
def encS (x : Nat) : ByteArray := ⟨(enc x).toArray⟩
theorem encS_size (x : Nat) : (encS x).size = (enc x).length := by simp [encS, ByteArray.size]
theorem encS_list (x : Nat) : (encS x).data.toList = enc x := by simp [encS]
theorem encS_le (x : Nat) : (encS x).size ≤ 10 := by rw [encS_size]; exact enc_le x
theorem encS_pos (x : Nat) : 1 ≤ (encS x).size := by rw [encS_size]; exact enc_pos x
end Go.Proofs.Yteghkamgbhjoeab.Num
