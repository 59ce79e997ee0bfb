/- Plain functions for package bits: a value of SplitMix64, the FNV-1a hash, the encoding of numbers in groups of seven bits. No program is named here. -/
import Derived.Test.YthghbcjaokpilaaDoorNum
namespace Go.Proofs.YthghbcjaokpilaaDoor.Num
open Go.RowKit
set_option linter.unusedVariables false

/-! ### SplitMix64 -/
def seedStep (s : Int) : Int := IntKind.u64.wrap (s + 11400714819323198485)
def mixA (z : Int) : Int := IntKind.u64.wrap (bits .xor .u64 z (z / 1073741824) * 13787848793156543929)
def mixB (z : Int) : Int := IntKind.u64.wrap (bits .xor .u64 z (z / 134217728) * 10723151780598845931)
def mixC (z : Int) : Int := bits .xor .u64 z (z / 2147483648)
def mixed (s : Int) : Int := mixC (mixB (mixA (seedStep s)))

/-! ### FNV-1a -/
def hash1 (h b : Int) : Int := IntKind.u64.wrap (bits .xor .u64 h (IntKind.u64.wrap b) * 1099511628211)
def hash (h : Int) (l : List UInt8) : Int := l.foldl (fun h b => hash1 h (b.toNat : Int)) h
theorem hash_nil (h : Int) : hash h [] = h := rfl
theorem hash_snoc (h : Int) (l : List UInt8) (b : UInt8) : hash h (l ++ [b]) = hash1 (hash h l) (b.toNat : Int) := by unfold hash; rw [List.foldl_append]; rfl
theorem hash_append (h : Int) (l r : List UInt8) : hash (hash h l) r = hash h (l ++ r) := by unfold hash; rw [List.foldl_append]
theorem take_snoc (s : ByteArray) (k : Nat) (h : k < s.size) : s.data.toList.take (k + 1) = s.data.toList.take k ++ [s[k]] := by
  rw [List.take_succ_eq_append_getElem (by simpa using h)]; rfl

/-! ### Groups of seven bits -/
/-- What an encoding from index i on stands for, and the index behind it. -/
def dec : List UInt8 → Nat → Option (Nat × Nat)
  | [], _ => none
  | b :: r, i => if 10 ≤ i then none
    else if b.toNat < 128 then (if (0 < i ∧ b.toNat = 0) ∨ (9 ≤ i ∧ 1 < b.toNat) then none else some (b.toNat, i + 1))
    else (dec r (i + 1)).map fun p => (b.toNat - 128 + 128 * p.1, p.2)

theorem dec_nil (i : Nat) : dec [] i = none := rfl
theorem dec_ten (l : List UInt8) (i : Nat) (h : 10 ≤ i) : dec l i = none := by cases l with | nil => rfl | cons b r => unfold dec; rw [if_pos h]

/-- May an encoding end with the byte b at index i? -/
def endsB (b i : Nat) : Bool := !(decide (0 < i) && b == 0) && (decide (i < 9) || decide (b ≤ 1))
theorem endsB_true {b i : Nat} (h : endsB b i = true) : ¬ ((0 < i ∧ b = 0) ∨ (9 ≤ i ∧ 1 < b)) := by simp [endsB] at h; omega
theorem endsB_false {b i : Nat} (h : endsB b i = false) : ((0 < i ∧ b = 0) ∨ (9 ≤ i ∧ 1 < b)) := by
  by_cases h1 : (0 < i ∧ b = 0) ∨ (9 ≤ i ∧ 1 < b)
  · exact h1
  · have : endsB b i = true := by simp [endsB]; omega
    rw [this] at h; cases h

theorem dec_end {l : List UInt8} {b : UInt8} {i : Nat} (h : i < 10) (hb : b.toNat < 128) (he : endsB b.toNat i = true) : dec (b :: l) i = some (b.toNat, i + 1) := by
  unfold dec; rw [if_neg (by omega), if_pos hb, if_neg (endsB_true he)]
theorem dec_bad {l : List UInt8} {b : UInt8} {i : Nat} (h : i < 10) (hb : b.toNat < 128) (he : endsB b.toNat i = false) : dec (b :: l) i = none := by
  unfold dec; rw [if_neg (by omega), if_pos hb, if_pos (endsB_false he)]
theorem dec_more {l : List UInt8} {b : UInt8} {i : Nat} (h : i < 10) (hb : ¬ b.toNat < 128) : dec (b :: l) i = (dec l (i + 1)).map fun p => (b.toNat - 128 + 128 * p.1, p.2) := by
  conv => lhs; unfold dec
  rw [if_neg (by omega), if_neg hb]

theorem pow7 (k : Nat) : 128 ^ k = 2 ^ (7 * k) := by rw [Nat.pow_mul]

/-- One group more. -/
theorem or_step (X b k : Nat) (hb : b < 256) (hk : k ≤ 9) (hX : X < 128 ^ k) :
    bits .or .u64 (X : Int) (IntKind.u64.wrap (IntKind.u64.wrap (bits .and .u8 (b : Int) 127) * 2 ^ (7 * k))) = ((X + b % 128 * 128 ^ k % 2 ^ 64 : Nat) : Int) := by
  have e1 : bits .and .u8 (b : Int) 127 = ((b % 128 : Nat) : Int) := by
    rw [show (127 : Int) = ((127 : Nat) : Int) from rfl, u8_and_nat b 127 hb (by decide), nat_mask7]
  have e2 : ((2 : Int) ^ (7 * k)) = ((2 ^ (7 * k) : Nat) : Int) := by simp
  have e3 : IntKind.u64.wrap (IntKind.u64.wrap (bits .and .u8 (b : Int) 127) * 2 ^ (7 * k)) = ((b % 128 * 128 ^ k % 2 ^ 64 : Nat) : Int) := by
    have e4 : ((b % 128 : Nat) : Int) % 18446744073709551616 = ((b % 128 : Nat) : Int) := Int.emod_eq_of_lt (by omega) (by omega)
    rw [e1, e2, IntKind.wrap_u64, IntKind.wrap_u64, e4, ← Int.natCast_mul, pow7]
    rfl
  have hY : b % 128 * 128 ^ k % 2 ^ 64 < 18446744073709551616 := Nat.mod_lt _ (by decide)
  have hX' : X < 18446744073709551616 := by
    have : (128 : Nat) ^ k ≤ 128 ^ 9 := Nat.pow_le_pow_right (by decide) hk
    have : (128 : Nat) ^ 9 = 9223372036854775808 := by decide
    omega
  rw [e3, u64_or_nat _ _ hX' hY, Nat.or_comm, nat_join (7 * k)]
  · rw [Nat.add_comm]
  · have d : 2 ^ (7 * k) ∣ 2 ^ 64 := Nat.pow_dvd_pow 2 (by omega)
    rw [Nat.mod_mod_of_dvd _ d, pow7]; exact Nat.mul_mod_left _ _
  · rw [← pow7]; exact hX

theorem pow_le9 (k : Nat) (h : k ≤ 8) : 128 * 128 ^ k ≤ 9223372036854775808 := by
  have : (128 : Nat) ^ k ≤ 128 ^ 8 := Nat.pow_le_pow_right (by decide) h
  have : (128 : Nat) ^ 8 = 72057594037927936 := by decide
  omega

/-- The number that has been read so far does not overflow where it counts. -/
theorem grp_mod (b k : Nat) (hk : k ≤ 9) (h : k ≤ 8 ∨ b % 128 ≤ 1) : b % 128 * 128 ^ k % 2 ^ 64 = b % 128 * 128 ^ k := by
  apply Nat.mod_eq_of_lt
  by_cases h8 : k ≤ 8
  · have := pow_le9 k h8
    have hb : b % 128 < 128 := Nat.mod_lt _ (by decide)
    have : b % 128 * 128 ^ k ≤ 128 * 128 ^ k := Nat.mul_le_mul_right _ (by omega)
    omega
  · have hk9 : k = 9 := by omega
    subst hk9
    have : b % 128 * 128 ^ 9 ≤ 1 * 128 ^ 9 := Nat.mul_le_mul_right _ (by omega)
    have : (128 : Nat) ^ 9 = 9223372036854775808 := by decide
    omega

theorem inv_more (l : List UInt8) (k X : Nat) (hk : k < 10) (hl : k < l.length) (hb : ¬ l[k].toNat < 128)
    (hr : dec l 0 = (dec (l.drop k) k).map fun p => (X + 128 ^ k * p.1, p.2)) :
    dec l 0 = (dec (l.drop (k + 1)) (k + 1)).map fun p => ((X + l[k].toNat % 128 * 128 ^ k % 2 ^ 64) + 128 ^ (k + 1) * p.1, p.2) := by
  rw [List.drop_eq_getElem_cons hl, dec_more hk hb] at hr
  rw [hr]
  by_cases h9 : k = 9
  · subst h9; rw [dec_ten _ _ (by omega)]; rfl
  · rw [grp_mod _ _ (by omega) (Or.inl (by omega))]
    cases dec (l.drop (k + 1)) (k + 1) with
    | none => rfl
    | some p =>
      have hb2 : l[k].toNat % 128 = l[k].toNat - 128 := by have := l[k].toNat_lt; omega
      simp only [Option.map_some]
      rw [hb2, Nat.mul_add, Nat.pow_succ, Nat.mul_comm (128 ^ k) (l[k].toNat - 128), Nat.mul_assoc, ← Nat.add_assoc]

theorem inv_lt (b k X : Nat) (hX : X < 128 ^ k) : X + b % 128 * 128 ^ k % 2 ^ 64 < 128 ^ (k + 1) := by
  have h1 : b % 128 * 128 ^ k % 2 ^ 64 ≤ b % 128 * 128 ^ k := Nat.mod_le _ _
  have hb : b % 128 ≤ 127 := by omega
  have h2 : b % 128 * 128 ^ k ≤ 127 * 128 ^ k := Nat.mul_le_mul_right _ hb
  rw [Nat.pow_succ]; omega

theorem inv_end (l : List UInt8) (k X : Nat) (hk : k < 10) (hl : k < l.length) (hb : l[k].toNat < 128) (he : endsB l[k].toNat k = true)
    (hr : dec l 0 = (dec (l.drop k) k).map fun p => (X + 128 ^ k * p.1, p.2)) :
    dec l 0 = some (X + l[k].toNat % 128 * 128 ^ k % 2 ^ 64, k + 1) := by
  have h := endsB_true he
  rw [List.drop_eq_getElem_cons hl, dec_end hk hb he] at hr
  have hb2 : l[k].toNat % 128 = l[k].toNat := by omega
  rw [hr, grp_mod _ _ (by omega) (by omega), hb2, Nat.mul_comm]; rfl

theorem inv_bad (l : List UInt8) (k X : Nat) (hk : k < 10) (hl : k < l.length) (hb : l[k].toNat < 128) (he : endsB l[k].toNat k = false)
    (hr : dec l 0 = (dec (l.drop k) k).map fun p => (X + 128 ^ k * p.1, p.2)) : dec l 0 = none := by
  rw [List.drop_eq_getElem_cons hl, dec_bad hk hb he] at hr
  exact hr

theorem inv_out (l : List UInt8) (k X : Nat) (h : 10 ≤ k ∨ l.length ≤ k)
    (hr : dec l 0 = (dec (l.drop k) k).map fun p => (X + 128 ^ k * p.1, p.2)) : dec l 0 = none := by
  rcases h with h | h
  · rw [dec_ten _ _ h] at hr; exact hr
  · rw [List.drop_eq_nil_of_le h] at hr; exact hr

theorem inv_start (l : List UInt8) : dec l 0 = (dec (l.drop 0) 0).map fun p => (0 + 128 ^ 0 * p.1, p.2) := by
  cases h : dec l 0 with
  | none => simp [h]
  | some p => simp [h]

theorem u8_le (b : UInt8) : b.toNat ≤ 255 := by have := b.toNat_lt; omega
theorem u8_256 (b : UInt8) : b.toNat < 256 := b.toNat_lt
theorem u8_lt {b : UInt8} (h : (b.toNat : Int) < 128) : b.toNat < 128 := by omega
theorem u8_ge {b : UInt8} (h : 128 ≤ (b.toNat : Int)) : ¬ b.toNat < 128 := by omega

/-- What the reading loop knows at its k-th round. -/
def Inv (s : ByteArray) (k X : Nat) : Prop := dec s.data.toList 0 = (dec (s.data.toList.drop k) k).map fun p => (X + 128 ^ k * p.1, p.2)
theorem Inv.start (s : ByteArray) : Inv s 0 0 := inv_start _
theorem Inv.more {s : ByteArray} {k X : Nat} (h : Inv s k X) (hk : k < 10) (hl : k < s.size) (hb : 128 ≤ (s[k].toNat : Int)) : Inv s (k + 1) (X + s[k].toNat % 128 * 128 ^ k % 2 ^ 64) :=
  inv_more _ k X hk (by simpa using hl) (u8_ge hb) h
theorem Inv.ends {s : ByteArray} {k X : Nat} (h : Inv s k X) (hk : k < 10) (hl : k < s.size) (hb : (s[k].toNat : Int) < 128) (he : endsB s[k].toNat k = true) :
    dec s.data.toList 0 = some (X + s[k].toNat % 128 * 128 ^ k % 2 ^ 64, k + 1) := inv_end _ k X hk (by simpa using hl) (u8_lt hb) he h
theorem Inv.bad {s : ByteArray} {k X : Nat} (h : Inv s k X) (hk : k < 10) (hl : k < s.size) (hb : (s[k].toNat : Int) < 128) (he : endsB s[k].toNat k = false) :
    dec s.data.toList 0 = none := inv_bad _ k X hk (by simpa using hl) (u8_lt hb) he h
theorem Inv.out {s : ByteArray} {k X : Nat} (h : Inv s k X) (hk : 10 ≤ k ∨ s.size ≤ k) : dec s.data.toList 0 = none := inv_out _ k X (by simpa using hk) h

/-- The seed after k values. -/
def seedAt (s : Int) (k : Nat) : Int := IntKind.u64.wrap (s + k * 11400714819323198485)
theorem seedAt_zero {s : Int} (h0 : 0 ≤ s) (h1 : s ≤ 18446744073709551615) : seedAt s 0 = s := by unfold seedAt; rw [IntKind.wrap_u64]; omega
theorem seedAt_succ (s : Int) (k : Nat) : seedStep (seedAt s k) = seedAt s (k + 1) := by
  unfold seedStep seedAt; rw [IntKind.wrap_u64, IntKind.wrap_u64, IntKind.wrap_u64]; omega
theorem seedAt_end (s n : Int) (k : Nat) (h : n = k) : seedAt s k = IntKind.u64.wrap (s + IntKind.u64.wrap (IntKind.u64.wrap n * 11400714819323198485)) := by
  subst h; unfold seedAt; simp only [IntKind.wrap_u64]; omega
end Go.Proofs.YthghbcjaokpilaaDoor.Num
