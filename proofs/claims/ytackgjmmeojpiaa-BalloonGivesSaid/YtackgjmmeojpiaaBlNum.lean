import Derived.Test.YtackgjmmeojpiaaPmFn10
import Derived.Lib.BitFns
import Derived.Lib.ItoaNum
import Derived.Test.YtackgjmmeojpiaaShelf
namespace Go.Proofs.Ytackgjmmeojpiaa
set_option linter.unusedVariables false
set_option linter.unusedSimpArgs false
open Go.RowKit Go.Proofs.Ytackgjmmeojpiaa.Num
/- Plain mathematics of a balloon: a set of frames as the bits of a number. -/
def cnt (g : Nat) : Nat → Nat
  | 0 => 0
  | k + 1 => cnt g k + (g.testBit k).toNat
theorem cnt_le (g k : Nat) : cnt g k ≤ k := by
  induction k with
  | zero => exact Nat.le_refl 0
  | succ k ih => unfold cnt; have := Bool.toNat_le (g.testBit k); omega
theorem cnt_ext {g h : Nat} {k : Nat} (e : ∀ i, i < k → g.testBit i = h.testBit i) : cnt g k = cnt h k := by
  induction k with
  | zero => rfl
  | succ k ih => unfold cnt; rw [ih (fun i hi => e i (by omega)), e k (by omega)]
theorem cnt_add (g a b : Nat) : cnt g (a + b) = cnt g a + cnt (g / 2 ^ a) b := by
  induction b with
  | zero => rfl
  | succ b ih =>
    show cnt g (a + b) + (g.testBit (a + b)).toNat = cnt g a + (cnt (g / 2 ^ a) b + ((g / 2 ^ a).testBit b).toNat)
    rw [ih, Nat.testBit_div_two_pow, Nat.add_comm b a]
    omega
theorem cnt_mod (g m k : Nat) (h : k ≤ m) : cnt (g % 2 ^ m) k = cnt g k :=
  cnt_ext fun i hi => by rw [Nat.testBit_mod_two_pow]; simp; omega
theorem pop8_cnt : ∀ n : Fin 256, Lib.pop8 (n.val : Int) = (cnt n.val 8 : Int) := by decide +kernel
theorem pop_cnt (x : Int) (n : Nat) (h : x = (n : Int)) (hn : n < 256) : Lib.pop8 x = (cnt n 8 : Int) := by
  subst h; exact pop8_cnt ⟨n, hn⟩
theorem cnt32 (g : Nat) (hg : g < 4294967296) : cnt g 32 = cnt (g / 16777216) 8 + cnt (g / 65536 % 256) 8 + cnt (g / 256 % 256) 8 + cnt (g % 256) 8 := by
  rw [show (32 : Nat) = 8 + (8 + (8 + 8)) from rfl, cnt_add, cnt_add, cnt_add]
  rw [Nat.div_div_eq_div_mul, Nat.div_div_eq_div_mul]
  rw [show cnt (g % 256) 8 = cnt g 8 from cnt_mod g 8 8 (Nat.le_refl _), show cnt (g / 256 % 256) 8 = cnt (g / 256) 8 from cnt_mod _ 8 8 (Nat.le_refl _), show cnt (g / 65536 % 256) 8 = cnt (g / 65536) 8 from cnt_mod _ 8 8 (Nat.le_refl _)]
  show cnt g 8 + (cnt (g / 256) 8 + (cnt (g / 65536) 8 + cnt (g / 16777216) 8)) = _
  omega
theorem and_b255 (x : Nat) (h : x < 4294967296) : bits .and .u32 (x : Int) 255 = ((x % 256 : Nat) : Int) := by
  have := u32_and_nat x 255 h (by omega)
  rw [show ((255 : Nat) : Int) = 255 from rfl] at this
  rw [this, show (255 : Nat) = 2 ^ 8 - 1 from rfl, Nat.and_two_pow_sub_one_eq_mod]
theorem and_b1 (x : Nat) (h : x < 4294967296) : bits .and .u32 (x : Int) 1 = ((x % 2 : Nat) : Int) := by
  have := u32_and_nat x 1 h (by omega)
  rw [show ((1 : Nat) : Int) = 1 from rfl] at this
  rw [this, show (1 : Nat) = 2 ^ 1 - 1 from rfl, Nat.and_two_pow_sub_one_eq_mod]
/-- Bit i of a number, as the program reads it. -/
theorem bit_of (g i : Nat) (hg : g < 4294967296) : bits .and .u32 ((g : Int) / 2 ^ i) 1 = ((g.testBit i).toNat : Int) := by
  have e : ((g : Int) / 2 ^ i) = ((g / 2 ^ i : Nat) : Int) := by
    rw [Int.natCast_ediv]; congr 1
  rw [e, and_b1 _ (Nat.lt_of_le_of_lt (Nat.div_le_self _ _) hg), Nat.testBit_eq_decide_div_mod_eq]
  have : g / 2 ^ i % 2 < 2 := Nat.mod_lt _ (by decide)
  generalize g / 2 ^ i % 2 = y at *
  rcases (by omega : y = 0 ∨ y = 1) with rfl | rfl <;> rfl
/-- The bit of a frame. -/
def bitN (v : Nat) : Nat := if v < 32 then 2 ^ v else 0
theorem bitN_lt (v : Nat) : bitN v < 4294967296 := by
  unfold bitN
  split
  · rename_i h
    exact Nat.lt_of_le_of_lt (Nat.pow_le_pow_right (by decide) (show v ≤ 31 by omega)) (by decide)
  · decide
theorem bitN_is (v : Nat) : (2 : Int) ^ min v 32 % 4294967296 = (bitN v : Int) := by
  unfold bitN
  split
  · rename_i h
    rw [Nat.min_eq_left (by omega)]
    have : 2 ^ v ≤ 2 ^ 31 := Nat.pow_le_pow_right (by decide) (by omega)
    have e : ((2 : Int) ^ v) = ((2 ^ v : Nat) : Int) := by simp
    have h2 : 2 ^ v < 4294967296 := Nat.lt_of_le_of_lt this (by decide)
    rw [e, show (4294967296 : Int) = ((4294967296 : Nat) : Int) from rfl, ← Int.natCast_emod, Nat.mod_eq_of_lt h2]
  · rw [Nat.min_eq_right (by omega)]; rfl
/-- A frame is given; a frame is taken back. -/
def giveB (g v : Nat) : Nat := g ||| bitN v
def takeB (g v : Nat) : Nat := g &&& (4294967295 - bitN v)
theorem bitN_test (v i : Nat) (hv : v < 32) : (bitN v).testBit i = decide (v = i) := by
  unfold bitN
  rw [if_pos hv, Nat.testBit_two_pow]
theorem giveB_test (g v i : Nat) (hv : v < 32) : (giveB g v).testBit i = (g.testBit i || decide (v = i)) := by
  unfold giveB
  rw [Nat.testBit_or, bitN_test v i hv]
theorem lt_of_bits {g k : Nat} (h : ∀ i, k ≤ i → g.testBit i = false) : g < 2 ^ k := Nat.lt_pow_two_of_testBit g h
theorem bits_of_lt {g k i : Nat} (h : g < 2 ^ k) (hi : k ≤ i) : g.testBit i = false := Nat.testBit_lt_two_pow (Nat.lt_of_lt_of_le h (Nat.pow_le_pow_right (by decide) hi))
theorem takeB_test (g v i : Nat) (hv : v < 32) (hg : g < 4294967296) : (takeB g v).testBit i = (g.testBit i && !decide (v = i)) := by
  unfold takeB
  rw [Nat.testBit_and]
  by_cases hi : i < 32
  · rw [show (4294967295 : Nat) - bitN v = 2 ^ 32 - (bitN v + 1) from by have := bitN_lt v; omega, Nat.testBit_two_pow_sub_succ (bitN_lt v), bitN_test v i hv]
    simp [hi]
  · rw [bits_of_lt (k := 32) hg (by omega)]; simp
theorem takeB_far (g v : Nat) (hv : ¬ v < 32) (hg : g < 4294967296) : takeB g v = g := by
  unfold takeB bitN
  rw [if_neg hv, show (4294967295 : Nat) - 0 = 2 ^ 32 - 1 from rfl, Nat.and_two_pow_sub_one_eq_mod]
  exact Nat.mod_eq_of_lt hg
theorem giveB_lt (g v : Nat) (hg : g < 4294967296) : giveB g v < 4294967296 := Nat.or_lt_two_pow (n := 32) hg (bitN_lt v)
theorem takeB_lt (g v : Nat) (hg : g < 4294967296) : takeB g v < 4294967296 := Nat.lt_of_le_of_lt Nat.and_le_left hg
/-- Whether bit v is set, as the program asks. -/
theorem has_is (g v : Nat) (hv : v < 32) (hg : g < 4294967296) : bits .and .u32 (g : Int) (bitN v : Int) = if g.testBit v then (bitN v : Int) else 0 := by
  rw [u32_and_nat _ _ hg (bitN_lt v)]
  have : g &&& bitN v = if g.testBit v then bitN v else 0 := by
    apply Nat.eq_of_testBit_eq
    intro i
    rw [Nat.testBit_and, bitN_test v i hv]
    by_cases e : v = i
    · subst e; cases h : g.testBit v <;> simp [bitN_test v v hv]
    · cases h : g.testBit v <;> simp [e, bitN_test v i hv]
  rw [this]
  split <;> rfl
theorem bitN_pos (v : Nat) (hv : v < 32) : 1 ≤ bitN v := by
  unfold bitN; rw [if_pos hv]; exact Nat.one_le_two_pow
/-- Whether a balloon of a machine with so many pages may be so. -/
def mayB (g : Nat) (p : Int) : Bool := decide ((Lib.bitLen g : Int) ≤ max p 0)
theorem bitLen_bounds (g : Nat) (hg : g < 4294967296) (h0 : g ≠ 0) : 1 ≤ Lib.bitLen g ∧ 2 ^ (Lib.bitLen g - 1) ≤ g ∧ g < 2 ^ Lib.bitLen g :=
  Lib.bitLenAux_bounds 64 g (Nat.lt_trans hg (by decide)) h0
theorem bitLen_le (g k : Nat) (hg : g < 4294967296) : Lib.bitLen g ≤ k ↔ g < 2 ^ k := by
  by_cases h0 : g = 0
  · subst h0
    have : Lib.bitLen 0 = 0 := rfl
    exact ⟨fun _ => Nat.two_pow_pos k, fun _ => by rw [this]; exact Nat.zero_le _⟩
  · obtain ⟨h1, h2, h3⟩ := bitLen_bounds g hg h0
    constructor
    · intro h; exact Nat.lt_of_lt_of_le h3 (Nat.pow_le_pow_right (by decide) h)
    · intro h
      have := (Nat.pow_lt_pow_iff_right (a := 2) (by decide)).1 (Nat.lt_of_le_of_lt h2 h)
      omega
theorem mayB_no {g i : Nat} {p : Int} (hg : g < 4294967296) (hb : g.testBit i = true) (hi : p ≤ i) : mayB g p = false := by
  unfold mayB
  refine decide_eq_false fun h => ?_
  have h2 : Lib.bitLen g ≤ (max p 0).toNat := by omega
  have := bits_of_lt ((bitLen_le g _ hg).1 h2) (show (max p 0).toNat ≤ i by omega)
  rw [hb] at this; cases this
theorem mayB_yes {g : Nat} {p : Int} (hg : g < 4294967296) (h : ∀ i, i < 32 → g.testBit i = true → (i : Int) < p) : mayB g p = true := by
  unfold mayB
  refine decide_eq_true ?_
  have : Lib.bitLen g ≤ (max p 0).toNat := by
    rw [bitLen_le g _ hg]
    refine lt_of_bits fun i hi => ?_
    by_cases h32 : i < 32
    · cases hb : g.testBit i
      · rfl
      · have := h i h32 hb; omega
    · exact bits_of_lt (k := 32) hg (by omega)
  omega
theorem len_cast {L P : Nat} {p : Int} (h : (P : Int) = max p 0) : ((L : Int) ≤ max p 0) ↔ L ≤ P := by omega
/-- What a port write makes of the set. -/
def outC (n g : Nat) (port : Int) (v : Nat) : Prop := port = 10 ∧ v < pagesN n ∧ g.testBit v = false
def outG (n g : Nat) (port : Int) (v : Nat) : Nat :=
  if port = 10 then (if v < pagesN n ∧ g.testBit v = false then giveB g v else g) else if port = 11 then takeB g v else g
theorem outG_lt (n g : Nat) (port : Int) (v : Nat) (hg : g < 4294967296) : outG n g port v < 4294967296 := by
  unfold outG
  repeat' split
  · exact giveB_lt g v hg
  · exact hg
  · exact takeB_lt g v hg
  · exact hg
def zs8 : ByteArray := ⟨(Lib.repeatL [0] 128).toArray⟩
theorem zs8_size : zs8.size = 128 := by decide +kernel
theorem zs8_list : zs8.data.toList = List.replicate 128 0 := by decide +kernel
end Go.Proofs.Ytackgjmmeojpiaa
