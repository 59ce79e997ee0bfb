import Derived.Test.YtackgjmmeojpiaaPmFn
namespace Go.Proofs.Ytackgjmmeojpiaa
set_option linter.unusedVariables false
set_option linter.unusedSimpArgs false
open Go.Proofs.Ytackgjmmeojpiaa.Num
/-- A word with its byte k set. -/
def setB (x : Int) (k : Nat) (v : Int) : Int := ((bitsSet x.toNat (8 * k) 8 v.toNat : Nat) : Int)
theorem setB_bd (x : Int) (k : Nat) (v : Int) (h0 : 0 ≤ x) (h1 : x ≤ 4294967295) (hk : k ≤ 3) : 0 ≤ setB x k v ∧ setB x k v ≤ 4294967295 := by
  have := set_lt x.toNat (8 * k) 8 v.toNat (by omega) (by omega)
  unfold setB; omega
theorem setR_byte (x : Int) (k : Nat) (v : Int) (h0 : 0 ≤ x) (h1 : x ≤ 4294967295) (hk : k ≤ 3) (hv : 0 ≤ v) (hv' : v ≤ 4294967295) : setR x ((k : Int) * 8) 8 v = setB x k v := by
  rw [setR_yes (by omega) (by omega) (by omega), set_is x _ _ v h0 h1 (by omega) (by omega) (by omega) (by omega) hv hv']
  have e : ((k : Int) * 8).toNat = 8 * k := by omega
  rw [e]; rfl
theorem setR_word (x v : Int) (h0 : 0 ≤ x) (h1 : x ≤ 4294967295) (hv : 0 ≤ v) (hv' : v ≤ 4294967295) : setR x 0 32 v = v := by
  rw [setR_yes (by omega) (by omega) (by omega), set_is x _ _ v h0 h1 (by omega) (by omega) (by omega) (by omega) hv hv']
  have e : bitsSet x.toNat 0 32 v.toNat = v.toNat := by
    have h := nget_set x.toNat 0 32 v.toNat (by omega) (by omega)
    have hl := set_lt x.toNat 0 32 v.toNat (by omega) (by omega)
    simp only [Nat.pow_zero, Nat.div_one] at h
    rw [Nat.mod_eq_of_lt hl, Nat.mod_eq_of_lt (by omega)] at h
    exact h
  show ((bitsSet x.toNat 0 32 v.toNat : Nat) : Int) = v
  rw [e]; omega
theorem byte_dec (j k : Nat) : (8 * j ≤ 8 * k ∧ 8 * k < 8 * j + 8) ↔ j = k := by omega
/-- The bytes of a word with its byte k set. -/
theorem low_setB (x : Int) (j k : Nat) (v : Int) (h0 : 0 ≤ x) (h1 : x ≤ 4294967295) (hk : k ≤ 3) (hj : j ≤ 3) : low (setB x k v) j = if j = k then UInt8.ofNat v.toNat else low x j := by
  have e : ∀ y : Nat, UInt8.ofNat (y / 256 ^ j) = UInt8.ofNat (y / 2 ^ (8 * j) % 2 ^ 8) := fun y => by
    rw [Nat.pow_mul]
    apply UInt8.toNat_inj.1
    simp
  unfold low setB
  rw [Int.toNat_natCast, e, e]
  have h : bitsSet x.toNat (8 * k) 8 v.toNat / 2 ^ (8 * j) % 2 ^ 8 = if j = k then v.toNat % 2 ^ 8 else x.toNat / 2 ^ (8 * j) % 2 ^ 8 := by
    apply Nat.eq_of_testBit_eq
    intro i
    rw [← Nat.shiftRight_eq_div_pow, Nat.testBit_mod_two_pow, Nat.testBit_shiftRight, tb_set _ _ _ _ _ (by omega) (by omega)]
    by_cases hi : i < 8
    · by_cases hjk : j = k
      · subst hjk
        rw [if_pos (by omega), if_pos rfl, Nat.testBit_mod_two_pow]
        simp [hi]
      · rw [if_neg (by omega), if_neg hjk, ← Nat.shiftRight_eq_div_pow, Nat.testBit_mod_two_pow, Nat.testBit_shiftRight]
    · have hlt : ∀ y : Nat, (y % 2 ^ 8).testBit i = false := fun y => by rw [Nat.testBit_mod_two_pow]; simp [hi]
      have hr : (if j = k then v.toNat % 2 ^ 8 else x.toNat / 2 ^ (8 * j) % 2 ^ 8).testBit i = false := by split <;> exact hlt _
      rw [hr]; simp [hi]
  rw [h]
  split
  · apply UInt8.toNat_inj.1; simp
  · rfl
/-- The reference's way to set a byte. -/
theorem ref_byte (x v : Int) (k : Nat) (h0 : 0 ≤ x) (h1 : x ≤ 4294967295) (hk : k ≤ 3) (hv : 0 ≤ v) (hv' : v ≤ 4294967295) :
    bits .or .u32 (bits .andNot .u32 x (255 * 2 ^ (8 * k) % 4294967296)) (bits .and .u32 v 255 * 2 ^ (8 * k) % 4294967296) = setB x k v := by
  obtain ⟨X, rfl⟩ : ∃ X : Nat, x = X := ⟨x.toNat, by omega⟩
  obtain ⟨V, rfl⟩ : ∃ V : Nat, v = V := ⟨v.toNat, by omega⟩
  have hp : 2 ^ 8 * 2 ^ (8 * k) ≤ 2 ^ 32 := by rw [← Nat.pow_add]; exact Nat.pow_le_pow_right (by decide) (by omega)
  have hpp := Nat.two_pow_pos (8 * k)
  have e1 : (255 : Int) * 2 ^ (8 * k) % 4294967296 = (((2 ^ 8 - 1) * 2 ^ (8 * k) : Nat) : Int) := by
    have h3 : (2 : Int) ^ (8 * k) = ((2 ^ (8 * k) : Nat) : Int) := by simp
    rw [h3]
    omega
  have hd := and_255 V (by omega) (by omega)
  have e2 : bits .and .u32 (V : Int) 255 * 2 ^ (8 * k) % 4294967296 = ((V % 256 * 2 ^ (8 * k) : Nat) : Int) := by
    have h3 : (2 : Int) ^ (8 * k) = ((2 ^ (8 * k) : Nat) : Int) := by simp
    have h6 : (V : Int) % 256 = ((V % 256 : Nat) : Int) := by omega
    rw [hd, h3, h6, ← Int.natCast_mul]
    have : V % 256 * 2 ^ (8 * k) < 4294967296 := by
      have h5 : V % 256 * 2 ^ (8 * k) < 256 * 2 ^ (8 * k) := Nat.mul_lt_mul_of_pos_right (by omega) hpp
      omega
    omega
  have hm := mask_lt (8 * k) 8 (by omega)
  rw [e1, e2, u32_andNot_nat _ _ (by omega) hm, u32_or_nat]
  · unfold setB bitsSet
    rw [Int.toNat_natCast, Int.toNat_natCast]
    congr 2
    apply Nat.eq_of_testBit_eq
    intro i
    rw [← Nat.shiftLeft_eq, Nat.testBit_shiftLeft, Nat.testBit_and, Nat.testBit_mod_two_pow, ← Nat.shiftLeft_eq, Nat.testBit_shiftLeft, tb_mask]
    have e8 : V % 256 = V % 2 ^ 8 := rfl
    rw [e8, Nat.testBit_mod_two_pow]
    by_cases a : 8 * k ≤ i
    · by_cases b : i < 8 * k + 8
      · have c1 : i - 8 * k < 8 := by omega
        have c2 : i < 32 := by omega
        simp [a, b, c1, c2]
      · have c1 : ¬ i - 8 * k < 8 := by omega
        simp [a, b, c1]
    · simp [a]
  · exact Nat.lt_of_le_of_lt Nat.and_le_left (by omega)
  · have h5 : V % 256 * 2 ^ (8 * k) < 256 * 2 ^ (8 * k) := Nat.mul_lt_mul_of_pos_right (by omega) hpp
    omega
end Go.Proofs.Ytackgjmmeojpiaa
