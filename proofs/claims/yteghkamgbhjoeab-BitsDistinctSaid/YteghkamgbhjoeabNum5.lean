/- Signs of words, and hashes of strings that differ in one byte. No program is named here. -/
import Derived.Test.YteghkamgbhjoeabNum
import Derived.Test.YteghkamgbhjoeabNum2
namespace Go.Proofs.Yteghkamgbhjoeab.Num
open Go.RowKit
set_option linter.unusedVariables false
theorem sext_nat (x n : Int) (h0 : 0 ≤ x) (h1 : x ≤ 4294967295) (hn : 1 ≤ n) (hn' : n < 32) :
    (sext x n).toNat = if x.toNat % 2 ^ n.toNat / 2 ^ (n.toNat - 1) = 1 then x.toNat % 2 ^ n.toNat + (4294967296 - 2 ^ n.toNat) else x.toNat % 2 ^ n.toNat := by
  have e := sext_lo x n h0 h1 hn hn'
  have e1 : (2 : Int) ^ n.toNat = ((2 ^ n.toNat : Nat) : Int) := by simp
  have e2 : (2 : Int) ^ (n.toNat - 1) = ((2 ^ (n.toNat - 1) : Nat) : Int) := by simp
  have ex : x = (x.toNat : Int) := by omega
  have hb := pow_bd n.toNat (by omega)
  have e3 : x % ((2 ^ n.toNat : Nat) : Int) = ((x.toNat % 2 ^ n.toNat : Nat) : Int) := by
    conv => lhs; rw [ex]
    rfl
  rw [e1, e2, e3] at e
  rw [e1] at hb
  have e4 : ((x.toNat % 2 ^ n.toNat : Nat) : Int) / ((2 ^ (n.toNat - 1) : Nat) : Int) = ((x.toNat % 2 ^ n.toNat / 2 ^ (n.toNat - 1) : Nat) : Int) := rfl
  rw [e4] at e
  rw [e]
  by_cases c : x.toNat % 2 ^ n.toNat / 2 ^ (n.toNat - 1) = 1
  · rw [if_pos c, if_pos (by omega)]; omega
  · rw [if_neg c, if_neg (by omega)]; omega
theorem pow_split (n : Nat) (h : 1 ≤ n) : 2 ^ n = 2 * 2 ^ (n - 1) := by
  obtain ⟨k, rfl⟩ : ∃ k, n = k + 1 := ⟨n - 1, by omega⟩
  rw [Nat.add_sub_cancel, Nat.pow_succ]; omega
/-- The sign bit, read off the remainder. -/
theorem top_bit (X N : Nat) (h : 1 ≤ N) : X / 2 ^ (N - 1) % 2 = X % 2 ^ N / 2 ^ (N - 1) := by
  rw [pow_split N h, Nat.mul_comm 2, Nat.mod_mul_right_div_self]
theorem bit_above (X N i : Nat) (h : 1 ≤ N) (hN : N ≤ i) (hi : i ≤ 31) :
    (if X % 2 ^ N / 2 ^ (N - 1) = 1 then X % 2 ^ N + (4294967296 - 2 ^ N) else X % 2 ^ N) / 2 ^ i % 2 = X % 2 ^ N / 2 ^ (N - 1) := by
  have p0 := Nat.two_pow_pos N
  have p1 := Nat.two_pow_pos (N - 1)
  have p2 := Nat.two_pow_pos i
  have p3 : 2 ^ N ≤ 2 ^ i := Nat.pow_le_pow_right (by decide) hN
  have p4 : 2 ^ i * 2 ^ (32 - i) = 4294967296 := by rw [← Nat.pow_add, show i + (32 - i) = 32 from by omega]
  have hs := pow_split N h
  have hr : X % 2 ^ N < 2 ^ N := Nat.mod_lt _ p0
  have hq : X % 2 ^ N / 2 ^ (N - 1) < 2 := Nat.div_lt_of_lt_mul (by omega)
  generalize X % 2 ^ N = R at *
  by_cases c : R / 2 ^ (N - 1) = 1
  · rw [if_pos c, c]
    have e5 : 2 ^ (32 - i) = 2 * 2 ^ (32 - i - 1) := pow_split _ (by omega)
    have p5 := Nat.two_pow_pos (32 - i - 1)
    have hlo : 2 ^ i * (2 ^ (32 - i) - 1) ≤ R + (4294967296 - 2 ^ N) := by rw [Nat.mul_sub, p4, Nat.mul_one]; omega
    have p6 := Nat.two_pow_pos (32 - i)
    have p7 : 2 ^ N ≤ 4294967296 := by rw [← p4]; exact Nat.le_trans p3 (Nat.le_mul_of_pos_right _ p6)
    have hhi : R + (4294967296 - 2 ^ N) < 2 ^ i * (2 ^ (32 - i) - 1 + 1) := by rw [show 2 ^ (32 - i) - 1 + 1 = 2 ^ (32 - i) from by omega, p4]; clear hlo; omega
    have e6 : (R + (4294967296 - 2 ^ N)) / 2 ^ i = 2 ^ (32 - i) - 1 := by
      apply Nat.div_eq_of_lt_le
      · rw [Nat.mul_comm]; exact hlo
      · rw [Nat.mul_comm]; exact hhi
    rw [e6, e5]; omega
  · rw [if_neg c, Nat.div_eq_of_lt (by omega)]; generalize R / 2 ^ (N - 1) = q at *; omega
theorem low_bits (X N : Nat) (hN : N ≤ 31) :
    (if X % 2 ^ N / 2 ^ (N - 1) = 1 then X % 2 ^ N + (4294967296 - 2 ^ N) else X % 2 ^ N) % 2 ^ N = X % 2 ^ N := by
  have p4 : 2 ^ N * 2 ^ (32 - N) = 4294967296 := by rw [← Nat.pow_add, show N + (32 - N) = 32 from by omega]
  split
  · have : 4294967296 - 2 ^ N = 2 ^ N * (2 ^ (32 - N) - 1) := by rw [Nat.mul_sub, p4]; omega
    rw [this, Nat.add_mul_mod_self_left, Nat.mod_mod]
  · exact Nat.mod_mod _ _
section
variable (x n : Int) (h0 : 0 ≤ x) (h1 : x ≤ 4294967295) (hn : 1 ≤ n) (hn' : n < 32)
include h0 h1 hn hn'
theorem sign_above (i : Int) (hi : n ≤ i) (hi' : i ≤ 31) : fieldR (sext x n) i 1 = fieldR x (n - 1) 1 := by
  have hb := sext_bd x n h0 h1
  rw [fieldR_yes (by omega) hi' (by omega), fieldR_yes (by omega) (by omega) (by omega), field_eq _ _ _ hb.1 hb.2 (by omega), field_eq _ _ _ h0 h1 (by omega), sext_nat x n h0 h1 hn hn']
  have e1 : min (1 : Int).toNat 32 = 1 := rfl
  have e2 : (n - 1).toNat = n.toNat - 1 := by omega
  rw [e1, e2, Nat.pow_one, top_bit _ _ (by omega), bit_above _ _ _ (by omega) (by omega) (by omega)]
theorem low_kept : fieldR (sext x n) 0 n = fieldR x 0 n := by
  have hb := sext_bd x n h0 h1
  rw [fieldR_yes (by omega) (by omega) (by omega), fieldR_yes (by omega) (by omega) (by omega), field_eq _ _ _ hb.1 hb.2 (by omega), field_eq _ _ _ h0 h1 (by omega), sext_nat x n h0 h1 hn hn',
    Nat.min_eq_left (by omega)]
  simp only [Int.toNat_zero, Nat.pow_zero, Nat.div_one]
  rw [low_bits _ _ (by omega)]
theorem sext_again : sext (sext x n) n = sext x n := by
  have hb := sext_bd x n h0 h1
  have hb2 := sext_bd (sext x n) n hb.1 hb.2
  have e := sext_nat (sext x n) n hb.1 hb.2 hn hn'
  have e0 := sext_nat x n h0 h1 hn hn'
  have e2 : (sext x n).toNat % 2 ^ n.toNat = x.toNat % 2 ^ n.toNat := by rw [e0, low_bits _ _ (by omega)]
  rw [e2, ← e0] at e
  omega
end
theorem sext_32 (x : Int) : sext x 32 = x := rfl
theorem emod_k {x y m : Int} (h : x % m = y % m) : ∃ q, x = y + m * q :=
  ⟨x / m - y / m, by have h1 := Int.mul_ediv_add_emod x m; have h2 := Int.mul_ediv_add_emod y m; rw [Int.mul_sub]; omega⟩
/-- A number that has an inverse can be struck. -/
theorem strike (a b p m i k : Int) (hi : p * i = 1 + m * k) (h : a * p % m = b * p % m) : ∃ t, a - b = m * t := by
  obtain ⟨q, hq⟩ := emod_k h
  refine ⟨q * i - k * (a - b), ?_⟩
  have h2 : (a - b) * p = m * q := by rw [Int.sub_mul]; omega
  have h3 : (a - b) * (p * i) = m * q * i := by rw [← Int.mul_assoc, h2]
  rw [hi, Int.mul_add, Int.mul_one] at h3
  rw [Int.mul_sub, ← Int.mul_assoc m q i, ← h3, ← Int.mul_assoc m k, Int.mul_comm (m * k) (a - b)]
  omega
theorem mul_inj (a b : Int) (ha : 0 ≤ a) (ha' : a < 18446744073709551616) (hb : 0 ≤ b) (hb' : b < 18446744073709551616) (h : a * 1099511628211 % 18446744073709551616 = b * 1099511628211 % 18446744073709551616) : a = b := by
  obtain ⟨t, ht⟩ := strike a b 1099511628211 18446744073709551616 14886173955864302971 887285111055 (by decide +kernel) h
  clear h
  omega
theorem xor_rng (a b : Int) (ha : 0 ≤ a) (ha' : a < 18446744073709551616) (hb : 0 ≤ b) (hb' : b < 18446744073709551616) : 0 ≤ bits .xor .u64 a b ∧ bits .xor .u64 a b < 18446744073709551616 := by
  rw [u64_xor a b ha ha' hb hb']
  have : a.toNat ^^^ b.toNat < 2 ^ 64 := Nat.xor_lt_two_pow (by omega) (by omega)
  omega
theorem xor_left (a b c : Int) (ha : 0 ≤ a) (ha' : a < 18446744073709551616) (hb : 0 ≤ b) (hb' : b < 18446744073709551616) (hc : 0 ≤ c) (hc' : c < 18446744073709551616) (h : bits .xor .u64 a c = bits .xor .u64 b c) : a = b := by
  rw [u64_xor a c ha ha' hc hc', u64_xor b c hb hb' hc hc'] at h
  have h1 : a.toNat ^^^ c.toNat = b.toNat ^^^ c.toNat := by omega
  have h2 : a.toNat = b.toNat := by rw [← Nat.xor_zero a.toNat, ← Nat.xor_self c.toNat, ← Nat.xor_assoc, h1, Nat.xor_assoc, Nat.xor_self, Nat.xor_zero]
  omega
theorem xor_right (a b c : Int) (ha : 0 ≤ a) (ha' : a < 18446744073709551616) (hb : 0 ≤ b) (hb' : b < 18446744073709551616) (hc : 0 ≤ c) (hc' : c < 18446744073709551616) (h : bits .xor .u64 a b = bits .xor .u64 a c) : b = c := by
  rw [u64_xor a b ha ha' hb hb', u64_xor a c ha ha' hc hc'] at h
  have h1 : a.toNat ^^^ b.toNat = a.toNat ^^^ c.toNat := by omega
  have h2 : b.toNat = c.toNat := by rw [← Nat.zero_xor b.toNat, ← Nat.xor_self a.toNat, Nat.xor_assoc, h1, ← Nat.xor_assoc, Nat.xor_self, Nat.zero_xor]
  omega
theorem hash1_eq (h b : Int) : hash1 h b = bits .xor .u64 h (b % 18446744073709551616) * 1099511628211 % 18446744073709551616 := by unfold hash1; rw [IntKind.wrap_u64, IntKind.wrap_u64]
theorem hash1_rng (h b : Int) : 0 ≤ hash1 h b ∧ hash1 h b < 18446744073709551616 := by rw [hash1_eq]; omega
theorem hash1_left (h k b : Int) (ha : 0 ≤ h) (ha' : h < 18446744073709551616) (hb : 0 ≤ k) (hb' : k < 18446744073709551616) (hc : 0 ≤ b) (hc' : b < 256) (e : hash1 h b = hash1 k b) : h = k := by
  rw [hash1_eq, hash1_eq, show b % 18446744073709551616 = b from by omega] at e
  have r1 := xor_rng h b ha ha' hc (by omega)
  have r2 := xor_rng k b hb hb' hc (by omega)
  exact xor_left h k b ha ha' hb hb' hc (by omega) (mul_inj _ _ r1.1 r1.2 r2.1 r2.2 e)
theorem hash1_right (h a b : Int) (ha : 0 ≤ h) (ha' : h < 18446744073709551616) (hb : 0 ≤ a) (hb' : a < 256) (hc : 0 ≤ b) (hc' : b < 256) (e : hash1 h a = hash1 h b) : a = b := by
  rw [hash1_eq, hash1_eq, show b % 18446744073709551616 = b from by omega, show a % 18446744073709551616 = a from by omega] at e
  have r1 := xor_rng h a ha ha' hb (by omega)
  have r2 := xor_rng h b ha ha' hc (by omega)
  exact xor_right h a b ha ha' hb (by omega) hc (by omega) (mul_inj _ _ r1.1 r1.2 r2.1 r2.2 e)
theorem hash_rng (l : List UInt8) : ∀ h : Int, 0 ≤ h → h < 18446744073709551616 → 0 ≤ hash h l ∧ hash h l < 18446744073709551616 := by
  induction l with
  | nil => intro h h0 h1; exact ⟨h0, h1⟩
  | cons b l ih => intro h h0 h1; have r := hash1_rng h (b.toNat : Int); exact ih _ r.1 r.2
theorem hash_inj (l : List UInt8) : ∀ h k : Int, 0 ≤ h → h < 18446744073709551616 → 0 ≤ k → k < 18446744073709551616 → hash h l = hash k l → h = k := by
  induction l with
  | nil => intro h k _ _ _ _ e; exact e
  | cons b l ih =>
    intro h k h0 h1 k0 k1 e
    have r1 := hash1_rng h (b.toNat : Int)
    have r2 := hash1_rng k (b.toNat : Int)
    have hb := b.toNat_lt
    exact hash1_left h k (b.toNat : Int) h0 h1 k0 k1 (by omega) (by omega) (ih _ _ r1.1 r1.2 r2.1 r2.2 e)
/-- Two strings that differ in one byte. -/
theorem hash_distinct (l : List UInt8) (k : Nat) (b : UInt8) (hk : k < l.length) (hb : l[k] ≠ b) : hash 0 l ≠ hash 0 (l.set k b) := by
  intro e
  have e1 : l = l.take k ++ l[k] :: l.drop (k + 1) := by simp
  have e2 : l.set k b = l.take k ++ b :: l.drop (k + 1) := by rw [List.set_eq_take_append_cons_drop, if_pos hk]
  rw [e2] at e
  conv at e => lhs; rw [e1]
  rw [← hash_append, ← hash_append] at e
  have r := hash_rng (l.take k) 0 (by decide) (by decide)
  have r1 := hash1_rng (hash 0 (l.take k)) (l[k].toNat : Int)
  have r2 := hash1_rng (hash 0 (l.take k)) (b.toNat : Int)
  have h1 := l[k].toNat_lt
  have h2 := b.toNat_lt
  have e3 := hash_inj (l.drop (k + 1)) _ _ r1.1 r1.2 r2.1 r2.2 e
  have e4 := hash1_right _ _ _ r.1 r.2 (by omega) (by omega) (by omega) (by omega) e3
  exact hb (UInt8.toNat_inj.1 (by omega))
end Go.Proofs.Yteghkamgbhjoeab.Num
