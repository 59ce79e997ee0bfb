/- Plain arithmetic for the texts on package bits: fields of words as numbers. No program is named here. -/
import Derived.WalkKit
import Derived.Handy
namespace Go.Proofs.YthghbcjaokpilaaDoor.Num
open Go.RowKit
set_option linter.unusedVariables false

theorem pow_bd (k : Nat) (h : k ≤ 31) : 1 ≤ (2 : Int) ^ k ∧ (2 : Int) ^ k ≤ 2147483648 := by
  have h1 : (2 : Nat) ^ k ≤ 2 ^ 31 := Nat.pow_le_pow_right (by decide) h
  have h2 : 0 < (2 : Nat) ^ k := Nat.two_pow_pos k
  have h3 : (2 : Int) ^ k = ((2 ^ k : Nat) : Int) := by simp
  rw [h3]; omega

theorem pow_bd1 (k : Nat) (h : k ≤ 31) (h0 : 1 ≤ k) : 2 ≤ (2 : Int) ^ k := by
  have h1 : (2 : Nat) ^ 1 ≤ 2 ^ k := Nat.pow_le_pow_right (by decide) h0
  have h3 : (2 : Int) ^ k = ((2 ^ k : Nat) : Int) := by simp
  rw [h3]; omega

/-- The low n bits set. -/
def mask (n : Int) : Int := if 32 ≤ n then 4294967295 else 2 ^ n.toNat - 1

theorem mask_hi (n : Int) (h : 32 ≤ n) : mask n = 4294967295 := by unfold mask; rw [if_pos h]
theorem mask_lo (n : Int) (h1 : 1 ≤ n) (h : n < 32) : mask n = (2 ^ n.toNat % 4294967296 - 1) % 4294967296 := by
  have := pow_bd n.toNat (by omega)
  unfold mask; rw [if_neg (by omega)]; omega
theorem mask_lo1 (n : Int) (h1 : 1 ≤ n) (h : n < 32) : mask n = (2 ^ n.toNat - 1) % 4294967296 := by
  have := pow_bd n.toNat (by omega)
  unfold mask; rw [if_neg (by omega)]; omega
theorem mask_bd (n : Int) (h1 : 1 ≤ n) : 1 ≤ mask n ∧ mask n ≤ 4294967295 := by
  unfold mask; split
  · omega
  · have := pow_bd1 n.toNat (by omega) (by omega)
    have := pow_bd n.toNat (by omega)
    omega

theorem and_all (x : Int) (h0 : 0 ≤ x) (h1 : x ≤ 4294967295) : bits .and .u32 x 4294967295 = x := by
  rw [u32_and x _ h0 (by omega) (by omega) (by omega)]
  have : x.toNat &&& (4294967295 : Int).toNat = x.toNat := by
    show x.toNat &&& (2 ^ 32 - 1) = x.toNat
    rw [Nat.and_two_pow_sub_one_eq_mod]; omega
  rw [this]; omega

theorem div_bd (w : Int) (k : Nat) (h0 : 0 ≤ w) (h1 : w ≤ 4294967295) : 0 ≤ w / 2 ^ k ∧ w / 2 ^ k ≤ 4294967295 := by
  have h3 : (2 : Int) ^ k = ((2 ^ k : Nat) : Int) := by simp
  have h2 : 0 < (2 : Nat) ^ k := Nat.two_pow_pos k
  rw [h3]
  exact ⟨Int.ediv_nonneg h0 (by omega), Int.le_trans (Int.ediv_le_self _ h0) h1⟩

def field (w low n : Int) : Int := bits .and .u32 (w / 2 ^ low.toNat) (mask n)
def setField (w low n v : Int) : Int := bits .or .u32 (bits .andNot .u32 w (mask n * 2 ^ low.toNat % 4294967296)) (bits .and .u32 (v * 2 ^ low.toNat % 4294967296) (mask n * 2 ^ low.toNat % 4294967296))

def has (low n : Int) : Bool := decide (0 ≤ low) && decide (low < 32) && decide (1 ≤ n)

/-- The field of a word as a quotient and a remainder. -/
theorem field_eq (w low n : Int) (h0 : 0 ≤ w) (h1 : w ≤ 4294967295) (hn : 1 ≤ n) : field w low n = ((w.toNat / 2 ^ low.toNat % 2 ^ (min n.toNat 32) : Nat) : Int) := by
  have hd := div_bd w low.toNat h0 h1
  have hm := mask_bd n hn
  unfold field
  rw [u32_and _ _ hd.1 (by omega) (by omega) (by omega)]
  have e1 : (w / 2 ^ low.toNat).toNat = w.toNat / 2 ^ low.toNat := by
    have h3 : (2 : Int) ^ low.toNat = ((2 ^ low.toNat : Nat) : Int) := by simp
    have h4 : w = (w.toNat : Int) := by omega
    rw [h3]; conv => lhs; rw [h4]
    rw [← Int.natCast_ediv]; rfl
  have e2 : (mask n).toNat = 2 ^ (min n.toNat 32) - 1 := by
    unfold mask; split
    · rw [Nat.min_eq_right (by omega)]; rfl
    · rw [Nat.min_eq_left (by omega)]
      have h3 : (2 : Int) ^ n.toNat = ((2 ^ n.toNat : Nat) : Int) := by simp
      rw [h3]; omega
  rw [e1, e2, Nat.and_two_pow_sub_one_eq_mod]

/-- A word with a field set, as a number with bits. -/
theorem set_eq (w low n v : Int) (h0 : 0 ≤ w) (h1 : w ≤ 4294967295) (hl : 0 ≤ low) (hl' : low ≤ 31) (hn : 1 ≤ n) (hn' : n ≤ 32 - low) (hv : 0 ≤ v) (hv' : v ≤ 4294967295) :
    setField w low n v = ((w.toNat &&& (4294967295 - (2 ^ n.toNat - 1) * 2 ^ low.toNat) ||| (v.toNat * 2 ^ low.toNat % 2 ^ 32 &&& (2 ^ n.toNat - 1) * 2 ^ low.toNat) : Nat) : Int) := by
  have p1 : 2 ^ n.toNat * 2 ^ low.toNat ≤ 2 ^ 32 := by rw [← Nat.pow_add]; exact Nat.pow_le_pow_right (by decide) (by omega)
  have p2 := Nat.two_pow_pos n.toNat
  have p3 := Nat.two_pow_pos low.toNat
  have em : mask n * 2 ^ low.toNat % 4294967296 = (((2 ^ n.toNat - 1) * 2 ^ low.toNat : Nat) : Int) := by
    have e2 : mask n = ((2 ^ n.toNat - 1 : Nat) : Int) := by
      unfold mask; split
      · have : n = 32 := by omega
        subst this; rfl
      · have h3 : (2 : Int) ^ n.toNat = ((2 ^ n.toNat : Nat) : Int) := by simp
        rw [h3]; omega
    have h3 : (2 : Int) ^ low.toNat = ((2 ^ low.toNat : Nat) : Int) := by simp
    rw [e2, h3, ← Int.natCast_mul]
    have : (2 ^ n.toNat - 1) * 2 ^ low.toNat < 4294967296 := by
      rw [Nat.sub_mul]; omega
    omega
  have lt : (2 ^ n.toNat - 1) * 2 ^ low.toNat < 4294967296 := by rw [Nat.sub_mul]; omega
  have ev : v * 2 ^ low.toNat % 4294967296 = ((v.toNat * 2 ^ low.toNat % 2 ^ 32 : Nat) : Int) := by
    have h3 : (2 : Int) ^ low.toNat = ((2 ^ low.toNat : Nat) : Int) := by simp
    have h4 : v = (v.toNat : Int) := by omega
    rw [h3]; conv => lhs; rw [h4]
    rw [← Int.natCast_mul]; rfl
  have lv : v.toNat * 2 ^ low.toNat % 2 ^ 32 < 4294967296 := Nat.mod_lt _ (by decide)
  have hw4 : w = (w.toNat : Int) := by omega
  unfold setField
  rw [em, ev]
  conv => lhs; rw [hw4]
  rw [u32_andNot_nat _ _ (by omega) lt, u32_and_nat _ _ lv lt]
  refine u32_or_nat _ _ ?_ ?_
  · exact Nat.lt_of_le_of_lt Nat.and_le_left (by omega)
  · exact Nat.lt_of_le_of_lt Nat.and_le_left lv

theorem tb_mask (L N i : Nat) : ((2 ^ N - 1) * 2 ^ L).testBit i = (decide (L ≤ i) && decide (i < L + N)) := by
  rw [← Nat.shiftLeft_eq, Nat.testBit_shiftLeft, Nat.testBit_two_pow_sub_one]
  by_cases h : L ≤ i
  · have : (i - L < N) ↔ (i < L + N) := by omega
    simp [h, this]
  · simp [h]

/-- The bits of a word with a field set. -/
def bitsSet (W L N V : Nat) : Nat := W &&& (4294967295 - (2 ^ N - 1) * 2 ^ L) ||| (V * 2 ^ L % 2 ^ 32 &&& (2 ^ N - 1) * 2 ^ L)

theorem mask_lt (L N : Nat) (h : L + N ≤ 32) : (2 ^ N - 1) * 2 ^ L < 2 ^ 32 := by
  have p1 : 2 ^ N * 2 ^ L ≤ 2 ^ 32 := by rw [← Nat.pow_add]; exact Nat.pow_le_pow_right (by decide) (by omega)
  have p3 := Nat.two_pow_pos L
  have p2 := Nat.two_pow_pos N
  rw [Nat.sub_mul]; omega

theorem tb_set (W L N V i : Nat) (hW : W < 2 ^ 32) (h : L + N ≤ 32) :
    (bitsSet W L N V).testBit i = if L ≤ i ∧ i < L + N then V.testBit (i - L) else W.testBit i := by
  have hm := mask_lt L N h
  have e : 4294967295 - (2 ^ N - 1) * 2 ^ L = 2 ^ 32 - ((2 ^ N - 1) * 2 ^ L + 1) := by omega
  unfold bitsSet
  rw [Nat.testBit_or, Nat.testBit_and, Nat.testBit_and, e, Nat.testBit_two_pow_sub_succ hm, tb_mask, Nat.testBit_mod_two_pow, ← Nat.shiftLeft_eq, Nat.testBit_shiftLeft]
  by_cases hi : i < 32
  · by_cases h1 : L ≤ i
    · by_cases h2 : i < L + N
      · simp [hi, h1, h2]
      · simp [hi, h1, h2]
    · simp [hi, h1]
  · have : W.testBit i = false := Nat.testBit_lt_two_pow (Nat.lt_of_lt_of_le hW (Nat.pow_le_pow_right (by decide) (by omega)))
    have h2 : ¬ (i < L + N) := by omega
    simp [hi, h2, this]

theorem set_lt (W L N V : Nat) (hW : W < 2 ^ 32) (h : L + N ≤ 32) : bitsSet W L N V < 2 ^ 32 := by
  apply Nat.lt_pow_two_of_testBit
  intro i hi
  rw [tb_set W L N V i hW h]
  have h2 : ¬ (i < L + N) := by omega
  rw [if_neg (by omega)]
  exact Nat.testBit_lt_two_pow (Nat.lt_of_lt_of_le hW (Nat.pow_le_pow_right (by decide) (by omega)))

theorem nget_set (W L N V : Nat) (hW : W < 2 ^ 32) (h : L + N ≤ 32) : bitsSet W L N V / 2 ^ L % 2 ^ N = V % 2 ^ N := by
  apply Nat.eq_of_testBit_eq
  intro i
  rw [← Nat.shiftRight_eq_div_pow, Nat.testBit_mod_two_pow, Nat.testBit_mod_two_pow, Nat.testBit_shiftRight, tb_set W L N V _ hW h]
  by_cases h2 : i < N
  · rw [if_pos (by omega), Nat.add_sub_cancel_left]
  · simp [h2]

theorem nset_get (U W L N V : Nat) (hW : W < 2 ^ 32) (hU : U < 2 ^ 32) (h : L + N ≤ 32) (hV : V = W / 2 ^ L % 2 ^ N) (he : ∀ i, ¬ (L ≤ i ∧ i < L + N) → U.testBit i = W.testBit i) : bitsSet U L N V = W := by
  apply Nat.eq_of_testBit_eq
  intro i
  rw [tb_set U L N V _ hU h]
  split
  next h1 =>
    rw [hV, ← Nat.shiftRight_eq_div_pow, Nat.testBit_mod_two_pow, Nat.testBit_shiftRight]
    have h2 : i - L < N := by omega
    have h3 : L + (i - L) = i := by omega
    simp [h2, h3]
  next h1 => exact he i h1

section
variable (w low n v : Int) (h0 : 0 ≤ w) (h1 : w ≤ 4294967295) (hl : 0 ≤ low) (hl' : low ≤ 31) (hn : 1 ≤ n) (hn' : n ≤ 32 - low) (hv : 0 ≤ v) (hv' : v ≤ 4294967295)
include h0 h1 hl hl' hn hn' hv hv'

theorem set_is : setField w low n v = ((bitsSet w.toNat low.toNat n.toNat v.toNat : Nat) : Int) := set_eq w low n v h0 h1 hl hl' hn hn' hv hv'

theorem set_bd : 0 ≤ setField w low n v ∧ setField w low n v ≤ 4294967295 := by
  have := set_lt w.toNat low.toNat n.toNat v.toNat (by omega) (by omega)
  rw [set_is w low n v h0 h1 hl hl' hn hn' hv hv']; omega

theorem get_set : field (setField w low n v) low n = field v 0 n := by
  have hb := set_bd w low n v h0 h1 hl hl' hn hn' hv hv'
  rw [field_eq _ _ _ hb.1 hb.2 hn, field_eq _ _ _ hv hv' hn, set_is w low n v h0 h1 hl hl' hn hn' hv hv', Int.toNat_natCast, Nat.min_eq_left (by omega),
    nget_set _ _ _ _ (by omega) (by omega)]
  simp

theorem set_set : setField (setField w low n v) low n (field w low n) = w := by
  have hb := set_bd w low n v h0 h1 hl hl' hn hn' hv hv'
  have hf := field_eq w low n h0 h1 hn
  rw [Nat.min_eq_left (by omega)] at hf
  have hlt : w.toNat / 2 ^ low.toNat % 2 ^ n.toNat ≤ w.toNat := Nat.le_trans (Nat.mod_le _ _) (Nat.div_le_self _ _)
  have hs := set_is w low n v h0 h1 hl hl' hn hn' hv hv'
  rw [set_is _ low n _ hb.1 hb.2 hl hl' hn hn' (by omega) (by omega), hf, hs, Int.toNat_natCast, Int.toNat_natCast]
  rw [nset_get _ w.toNat _ _ _ (by omega) (set_lt _ _ _ _ (by omega) (by omega)) (by omega) rfl (fun i hi => by rw [tb_set _ _ _ _ _ (by omega) (by omega), if_neg hi])]
  omega
end

theorem set_get (w low n : Int) (h0 : 0 ≤ w) (h1 : w ≤ 4294967295) (hl : 0 ≤ low) (hl' : low ≤ 31) (hn : 1 ≤ n) (hn' : n ≤ 32 - low) : setField w low n (field w low n) = w := by
  have hf := field_eq w low n h0 h1 hn
  rw [Nat.min_eq_left (by omega)] at hf
  have hlt : w.toNat / 2 ^ low.toNat % 2 ^ n.toNat ≤ w.toNat := Nat.le_trans (Nat.mod_le _ _) (Nat.div_le_self _ _)
  rw [set_is w low n _ h0 h1 hl hl' hn hn' (by omega) (by omega), hf, Int.toNat_natCast,
    nset_get _ w.toNat _ _ _ (by omega) (by omega) (by omega) rfl (fun _ _ => rfl)]
  omega

/-! ### Signed numbers -/
/-- The low n bits of x as a signed number, as a word. -/
def sext (x n : Int) : Int := if n < 1 then 0 else if 32 ≤ n then x else wrap32 (x * 2 ^ (32 - n).toNat % 4294967296) / 2 ^ (32 - n).toNat % 4294967296

theorem sext_lo (x n : Int) (h0 : 0 ≤ x) (h1 : x ≤ 4294967295) (hn : 1 ≤ n) (hn' : n < 32) :
    sext x n = if x % 2 ^ n.toNat / 2 ^ (n.toNat - 1) = 1 then x % 2 ^ n.toNat + (4294967296 - 2 ^ n.toNat) else x % 2 ^ n.toNat := by
  obtain ⟨k, rfl⟩ : ∃ k : Nat, n = k + 1 := ⟨(n - 1).toNat, by omega⟩
  have e1 : ((k : Int) + 1).toNat = k + 1 := by omega
  have e2 : (32 - ((k : Int) + 1)).toNat = 31 - k := by omega
  unfold sext
  rw [if_neg (by omega), if_neg (by omega), e1, e2, Nat.add_sub_cancel]
  have eP : (2 : Int) ^ (k + 1) = 2 * 2 ^ k := by rw [Int.pow_succ]; omega
  have hH := pow_bd k (by omega)
  have hU := pow_bd (31 - k) (by omega)
  have eM : (2 : Int) ^ (31 - k) * 2 ^ k = 2147483648 := by
    rw [← Int.pow_add]
    have : 31 - k + k = 31 := by omega
    rw [this]; rfl
  rw [eP]
  generalize (2 : Int) ^ k = H at *
  generalize (2 : Int) ^ (31 - k) = U at *
  have e3 : x * U % 4294967296 = U * (x % (2 * H)) := by
    have : (4294967296 : Int) = U * (2 * H) := by rw [Int.mul_left_comm, eM]; rfl
    rw [this, Int.mul_comm x U, Int.mul_emod_mul_of_pos _ _ (by omega)]
  rw [e3]
  have y0 : 0 ≤ x % (2 * H) := Int.emod_nonneg _ (by omega)
  have y1 : x % (2 * H) < 2 * H := Int.emod_lt_of_pos _ (by omega)
  generalize x % (2 * H) = y at *
  have hUy : U * y < 4294967296 := by
    have : U * y < U * (2 * H) := Int.mul_lt_mul_of_pos_left y1 (by omega)
    have e : U * (2 * H) = 4294967296 := by rw [Int.mul_left_comm, eM]; rfl
    omega
  have hUy0 : 0 ≤ U * y := Int.mul_nonneg (by omega) y0
  by_cases c : H ≤ y
  · have t : y / H = 1 := by
      have a1 : y / H < 2 := Int.ediv_lt_of_lt_mul (by omega) (by omega)
      have a2 : 1 ≤ y / H := (Int.le_ediv_iff_mul_le (by omega)).mpr (by omega)
      omega
    rw [if_pos t]
    have g : 2147483648 ≤ U * y := by
      have : U * H ≤ U * y := Int.mul_le_mul_of_nonneg_left c (by omega)
      omega
    have e4 : wrap32 (U * y) = U * (y - 2 * H) := by
      unfold wrap32
      rw [Int.mul_sub, Int.mul_left_comm, eM]
      omega
    rw [e4, Int.mul_ediv_cancel_left _ (by omega)]
    omega
  · have t : y / H = 0 := Int.ediv_eq_zero_of_lt y0 (by omega)
    rw [if_neg (by omega)]
    have g : U * y < 2147483648 := by
      have : U * y < U * H := Int.mul_lt_mul_of_pos_left (by omega) (by omega)
      omega
    have e4 : wrap32 (U * y) = U * y := by unfold wrap32; omega
    rw [e4, Int.mul_ediv_cancel_left _ (by omega)]
    omega

/-- The remainder by a power of two as an and. -/
theorem and_low (x : Int) (k : Nat) (h0 : 0 ≤ x) (h1 : x ≤ 4294967295) (hk : k ≤ 31) : bits .and .u32 x ((2 ^ k - 1) % 4294967296) = x % 2 ^ k := by
  have hp := pow_bd k hk
  have e : (2 : Int) ^ k = ((2 ^ k : Nat) : Int) := by simp
  rw [u32_and x _ h0 (by omega) (by omega) (by omega)]
  have e2 : ((2 ^ k - 1) % 4294967296 : Int).toNat = 2 ^ k - 1 := by omega
  rw [e2, Nat.and_two_pow_sub_one_eq_mod, e]
  have : x = (x.toNat : Int) := by omega
  conv => rhs; rw [this]
  rfl

theorem or_high (y : Int) (k : Nat) (h0 : 0 ≤ y) (h1 : y < 2 ^ k) (hk : k ≤ 31) : bits .or .u32 y (4294967295 * 2 ^ k % 4294967296) = y + (4294967296 - 2 ^ k) := by
  have hp := pow_bd k hk
  have e : (2 : Int) ^ k = ((2 ^ k : Nat) : Int) := by simp
  have e1 : (4294967295 * 2 ^ k % 4294967296 : Int) = 4294967296 - 2 ^ k := by omega
  rw [e1, u32_or y _ h0 (by omega) (by omega) (by omega), Nat.or_comm, nat_join k]
  · omega
  · have e3 : (4294967296 - 2 ^ k : Int).toNat = 2 ^ 32 - 2 ^ k := by omega
    rw [e3]
    have : 2 ^ 32 - 2 ^ k = (2 ^ (32 - k) - 1) * 2 ^ k := by
      rw [Nat.sub_mul, ← Nat.pow_add]
      have : 32 - k + k = 32 := by omega
      rw [this]; omega
    rw [this]; exact Nat.mul_mod_left _ _
  · omega

theorem sext_bd (x n : Int) (h0 : 0 ≤ x) (h1 : x ≤ 4294967295) : 0 ≤ sext x n ∧ sext x n ≤ 4294967295 := by
  unfold sext; split
  · omega
  · split
    · omega
    · omega

def fieldR (w low n : Int) : Int := if has low n = true then field w low n else 0
def setR (w low n v : Int) : Int := if has low n = true then setField w low n v else w

theorem has_yes {low n : Int} (h1 : 0 ≤ low) (h2 : low ≤ 31) (h3 : 1 ≤ n) : has low n = true := by simp [has]; omega
theorem has_no {low n : Int} (h : low < 0 ∨ 31 < low ∨ n < 1) : ¬ has low n = true := by simp [has]; omega
theorem fieldR_yes {w low n : Int} (h1 : 0 ≤ low) (h2 : low ≤ 31) (h3 : 1 ≤ n) : fieldR w low n = field w low n := by unfold fieldR; rw [if_pos (has_yes h1 h2 h3)]
theorem fieldR_no {w low n : Int} (h : low < 0 ∨ 31 < low ∨ n < 1) : fieldR w low n = 0 := by unfold fieldR; rw [if_neg (has_no h)]
theorem setR_yes {w low n v : Int} (h1 : 0 ≤ low) (h2 : low ≤ 31) (h3 : 1 ≤ n) : setR w low n v = setField w low n v := by unfold setR; rw [if_pos (has_yes h1 h2 h3)]
theorem setR_no {w low n v : Int} (h : low < 0 ∨ 31 < low ∨ n < 1) : setR w low n v = w := by unfold setR; rw [if_neg (has_no h)]

theorem field_hi (w low n : Int) (h0 : 0 ≤ w) (h1 : w ≤ 4294967295) (hn : 32 ≤ n) : field w low n = w / 2 ^ low.toNat := by
  have hd := div_bd w low.toNat h0 h1
  unfold field; rw [mask_hi n hn, and_all _ hd.1 hd.2]

/-! ### Division -/
def sq (a b : Int) : Int := if b = 0 then 4294967295 else (wrap32 a).tdiv (wrap32 b) % 4294967296
def sr (a b : Int) : Int := if b = 0 then a else (wrap32 a).tmod (wrap32 b) % 4294967296

theorem wrap32_mod (x : Int) : wrap32 x % 4294967296 = x % 4294967296 := by unfold wrap32; omega
theorem wrap64_mod (x : Int) : wrap64 x % 4294967296 = x % 4294967296 := by unfold wrap64; omega
theorem i64_mod (x : Int) : IntKind.i64.wrap x % 4294967296 = x % 4294967296 := by rw [IntWalk.i64_left]; exact wrap64_mod x

theorem tdiv_facts (x y : Int) (hy : y ≠ 0) : y * x.tdiv y + x.tmod y = x ∧ (0 ≤ x → 0 ≤ x.tmod y) ∧ (x ≤ 0 → x.tmod y ≤ 0) ∧ (0 < y → -y < x.tmod y ∧ x.tmod y < y) ∧ (y < 0 → y < x.tmod y ∧ x.tmod y < -y) := by
  have pos : ∀ a b : Int, 0 ≤ a → 0 < b → 0 ≤ a.tmod b ∧ a.tmod b < b := fun a b ha hb => ⟨Int.tmod_nonneg b ha, Int.tmod_lt_of_pos a hb⟩
  refine ⟨Int.mul_tdiv_add_tmod x y, ?_, ?_, ?_, ?_⟩
  · intro hx; exact Int.tmod_nonneg y hx
  · intro hx
    have := Int.tmod_nonneg y (a := -x) (by omega)
    rw [Int.neg_tmod] at this; omega
  · intro h
    by_cases hx : 0 ≤ x
    · have := pos x y hx h; omega
    · have := pos (-x) y (by omega) h
      rw [Int.neg_tmod] at this; omega
  · intro h
    by_cases hx : 0 ≤ x
    · have := pos x (-y) hx (by omega)
      rw [Int.tmod_neg] at this; omega
    · have := pos (-x) (-y) (by omega) (by omega)
      rw [Int.neg_tmod, Int.tmod_neg] at this; omega

theorem wrap32_k (a : Int) : ∃ k, a = wrap32 a + 4294967296 * k := ⟨(a + 2147483648) / 4294967296, by unfold wrap32; omega⟩
theorem mod_k (a : Int) : ∃ k, a % 4294967296 = a + 4294967296 * k := ⟨-(a / 4294967296), by omega⟩
theorem wrap32_bd (a : Int) : -2147483648 ≤ wrap32 a ∧ wrap32 a ≤ 2147483647 := by unfold wrap32; omega

theorem div_back (a b : Int) (ha : 0 ≤ a) (ha' : a ≤ 4294967295) (hb : b ≠ 0) (hb0 : 0 ≤ b) (hb' : b ≤ 4294967295) : (sq a b * b % 4294967296 + sr a b) % 4294967296 = a := by
  have hy : wrap32 b ≠ 0 := by unfold wrap32; omega
  have f := (tdiv_facts (wrap32 a) (wrap32 b) hy).1
  unfold sq sr; rw [if_neg hb, if_neg hb]
  obtain ⟨ka, ea⟩ := wrap32_k a
  obtain ⟨kb, eb⟩ := wrap32_k b
  obtain ⟨kq, eq⟩ := mod_k ((wrap32 a).tdiv (wrap32 b))
  obtain ⟨kr, er⟩ := mod_k ((wrap32 a).tmod (wrap32 b))
  rw [eq, er, Int.emod_add_emod]
  generalize (wrap32 a).tdiv (wrap32 b) = Q at *
  generalize (wrap32 a).tmod (wrap32 b) = R at *
  generalize wrap32 a = X at *
  generalize wrap32 b = Y at *
  have e : (Q + 4294967296 * kq) * b + (R + 4294967296 * kr) = a + 4294967296 * (Q * kb + kq * b + kr - ka) := by
    have e1 : (Q + 4294967296 * kq) * b = Q * Y + 4294967296 * (Q * kb) + 4294967296 * (kq * b) := by
      rw [Int.add_mul, Int.mul_assoc]
      conv => lhs; rw [show Q * b = Q * (Y + 4294967296 * kb) from by rw [← eb]]
      rw [Int.mul_add, Int.mul_left_comm]
    rw [e1, Int.mul_comm Q Y]
    omega
  rw [e, Int.add_mul_emod_self_left]
  omega

theorem sr_signed (a b : Int) (hbz : b ≠ 0) (hb0 : 0 ≤ b) (hb' : b ≤ 4294967295) : wrap32 (sr a b) = (wrap32 a).tmod (wrap32 b) := by
  have hy : wrap32 b ≠ 0 := by unfold wrap32; omega
  have f := tdiv_facts (wrap32 a) (wrap32 b) hy
  have hb := wrap32_bd b
  unfold sr; rw [if_neg hbz]
  generalize (wrap32 a).tmod (wrap32 b) = R at *
  generalize wrap32 b = Y at *
  unfold wrap32; omega

theorem sr_small (a b : Int) (hb : b ≠ 0) (hb0 : 0 ≤ b) (hb' : b ≤ 4294967295) :
    (wrap32 (sr a b) < 0 → wrap32 b < 0 → - wrap32 (sr a b) < - wrap32 b) ∧ (wrap32 (sr a b) < 0 → 0 ≤ wrap32 b → - wrap32 (sr a b) < wrap32 b) ∧
    (0 ≤ wrap32 (sr a b) → wrap32 b < 0 → wrap32 (sr a b) < - wrap32 b) ∧ (0 ≤ wrap32 (sr a b) → 0 ≤ wrap32 b → wrap32 (sr a b) < wrap32 b) := by
  have hy : wrap32 b ≠ 0 := by unfold wrap32; omega
  have f := tdiv_facts (wrap32 a) (wrap32 b) hy
  rw [sr_signed a b hb hb0 hb']
  omega

theorem sr_sign (a b : Int) (ha : 0 ≤ a) (ha' : a ≤ 4294967295) (hb : b ≠ 0) (hb0 : 0 ≤ b) (hb' : b ≤ 4294967295) (hr : sr a b ≠ 0) : sr a b / 2147483648 = a / 2147483648 := by
  have hy : wrap32 b ≠ 0 := by unfold wrap32; omega
  have f := tdiv_facts (wrap32 a) (wrap32 b) hy
  have hB := wrap32_bd b
  have hA : wrap32 a = if a < 2147483648 then a else a - 4294967296 := by unfold wrap32; split <;> omega
  unfold sr at hr ⊢; rw [if_neg hb] at hr ⊢
  generalize (wrap32 a).tmod (wrap32 b) = R at *
  generalize wrap32 b = Y at *
  by_cases c : a < 2147483648
  · rw [if_pos c] at hA; omega
  · rw [if_neg c] at hA; omega

theorem sr_bd (a b : Int) (ha : 0 ≤ a) (ha' : a ≤ 4294967295) : 0 ≤ sr a b ∧ sr a b ≤ 4294967295 := by unfold sr; split <;> omega
theorem sq_bd (a b : Int) : 0 ≤ sq a b ∧ sq a b ≤ 4294967295 := by unfold sq; split <;> omega
end Go.Proofs.YthghbcjaokpilaaDoor.Num
