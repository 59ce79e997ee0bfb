import Derived.Test.YthghbcjaokpilaaDoorIsaNum
namespace Go.Proofs.YthghbcjaokpilaaDoor.Isa
set_option linter.unusedVariables false
set_option linter.unusedSimpArgs false
open Go.RowKit Go.Proofs.YthghbcjaokpilaaDoor.Num
theorem set_hi (W L N V : Nat) (hW : W < 2 ^ 32) (h : L + N ≤ 32) : bitsSet W L N V / 2 ^ (L + N) = W / 2 ^ (L + N) := by
  apply Nat.eq_of_testBit_eq
  intro i
  rw [Nat.testBit_div_two_pow, Nat.testBit_div_two_pow, tb_set _ _ _ _ _ hW h, if_neg (by omega)]
theorem set_lo (W L N V : Nat) (hW : W < 2 ^ 32) (h : L + N ≤ 32) : bitsSet W L N V % 2 ^ L = W % 2 ^ L := by
  apply Nat.eq_of_testBit_eq
  intro i
  rw [Nat.testBit_mod_two_pow, Nat.testBit_mod_two_pow, tb_set _ _ _ _ _ hW h]
  by_cases hi : i < L
  · rw [if_neg (by omega)]
  · simp [hi]
theorem set24 (v : Int) (h0 : 0 ≤ v) (h1 : v ≤ 4294967295) : setR 0 24 8 v = v % 256 * 16777216 := by
  rw [setR_yes (by decide) (by decide) (by decide), set_is 0 24 8 v (by decide) (by decide) (by decide) (by decide) (by decide) (by decide) h0 h1]
  have a := set_hi (Int.toNat 0) (Int.toNat 24) (Int.toNat 8) v.toNat (by decide) (by decide)
  have b := set_lo (Int.toNat 0) (Int.toNat 24) (Int.toNat 8) v.toNat (by decide) (by decide)
  have c := nget_set (Int.toNat 0) (Int.toNat 24) (Int.toNat 8) v.toNat (by decide) (by decide)
  generalize bitsSet (Int.toNat 0) (Int.toNat 24) (Int.toNat 8) v.toNat = X at *
  simp at a b c
  omega
theorem set20 (w v : Int) (hw : 0 ≤ w) (hw1 : w ≤ 4294967295) (hd : w % 16777216 = 0) (h0 : 0 ≤ v) (h1 : v ≤ 15) : setR w 20 4 v = w + v * 1048576 := by
  rw [setR_yes (by decide) (by decide) (by decide), set_is w 20 4 v hw hw1 (by decide) (by decide) (by decide) (by decide) h0 (by omega)]
  have a := set_hi w.toNat (Int.toNat 20) (Int.toNat 4) v.toNat (by omega) (by decide)
  have b := set_lo w.toNat (Int.toNat 20) (Int.toNat 4) v.toNat (by omega) (by decide)
  have c := nget_set w.toNat (Int.toNat 20) (Int.toNat 4) v.toNat (by omega) (by decide)
  generalize bitsSet w.toNat (Int.toNat 20) (Int.toNat 4) v.toNat = X at *
  simp at a b c
  omega
theorem set16 (w v : Int) (hw : 0 ≤ w) (hw1 : w ≤ 4294967295) (hd : w % 1048576 = 0) (h0 : 0 ≤ v) (h1 : v ≤ 15) : setR w 16 4 v = w + v * 65536 := by
  rw [setR_yes (by decide) (by decide) (by decide), set_is w 16 4 v hw hw1 (by decide) (by decide) (by decide) (by decide) h0 (by omega)]
  have a := set_hi w.toNat (Int.toNat 16) (Int.toNat 4) v.toNat (by omega) (by decide)
  have b := set_lo w.toNat (Int.toNat 16) (Int.toNat 4) v.toNat (by omega) (by decide)
  have c := nget_set w.toNat (Int.toNat 16) (Int.toNat 4) v.toNat (by omega) (by decide)
  generalize bitsSet w.toNat (Int.toNat 16) (Int.toNat 4) v.toNat = X at *
  simp at a b c
  omega
theorem set0 (w v : Int) (hw : 0 ≤ w) (hw1 : w ≤ 4294967295) (hd : w % 65536 = 0) (h0 : 0 ≤ v) (h1 : v ≤ 4294967295) : setR w 0 16 v = w + v % 65536 := by
  rw [setR_yes (by decide) (by decide) (by decide), set_is w 0 16 v hw hw1 (by decide) (by decide) (by decide) (by decide) h0 h1]
  have a := set_hi w.toNat (Int.toNat 0) (Int.toNat 16) v.toNat (by omega) (by decide)
  have c := nget_set w.toNat (Int.toNat 0) (Int.toNat 16) v.toNat (by omega) (by decide)
  generalize bitsSet w.toNat (Int.toNat 0) (Int.toNat 16) v.toNat = X at *
  simp at a c
  omega
/-- The word as the program composes it. -/
theorem set_word {op a b c m : Int} (h : Ok op a b c m) (v : Int) (hv : v = if lay op = 1 then c % 4294967296 else m % 4294967296) :
    setR (setR (setR (setR 0 24 8 (op % 4294967296)) 20 4 (a % 4294967296)) 16 4 (b % 4294967296)) 0 16 v = word op a b c m := by
  have hb := ok_bound h
  obtain ⟨h0, h1, h2, h3, h4, h5, h6, h7, h8, h9, h10, h11⟩ := h
  rw [set24 _ (by omega) (by omega), set20 _ _ (by omega) (by omega) (by omega) (by omega) (by omega), set16 _ _ (by omega) (by omega) (by omega) (by omega) (by omega)]
  have hm : v % 65536 = m % 65536 + c ∧ 0 ≤ v ∧ v ≤ 4294967295 := by
    subst hv
    rcases kind op with k | k | k | k | k | k | k | k | k | k | k <;> obtain ⟨k1, k2, k3, k4, k5⟩ := k <;> split <;> omega
  rw [set0 _ _ (by omega) (by omega) (by omega) (by omega) (by omega), hm.1]
  unfold word; omega
theorem or_add (x y : Int) (k : Nat) (hx : 0 ≤ x) (hx1 : x ≤ 4294967295) (hd : x % (2 ^ k : Nat) = 0) (hy : 0 ≤ y) (hy1 : y < (2 ^ k : Nat)) (hy2 : y ≤ 4294967295) : bits .or .u32 x y = x + y := by
  obtain ⟨a, rfl⟩ : ∃ a : Nat, x = a := ⟨x.toNat, by omega⟩
  obtain ⟨b, rfl⟩ : ∃ b : Nat, y = b := ⟨y.toNat, by omega⟩
  rw [u32_or_nat _ _ (by omega) (by omega)]
  have hd' : a % 2 ^ k = 0 := by exact_mod_cast hd
  have e : 2 ^ k * (a / 2 ^ k) = a := by have := Nat.div_add_mod a (2 ^ k); omega
  have := Nat.two_pow_add_eq_or_of_lt (i := k) (b := b) (by omega) (a / 2 ^ k)
  rw [e] at this
  omega
/-- The word as the reference composes it. -/
theorem or_word {op a b c m : Int} (h : Ok op a b c m) :
    bits .or .u32 (bits .or .u32 (bits .or .u32 (bits .or .u32 (op % 4294967296 * 2 ^ 24 % 4294967296) (a % 4294967296 * 2 ^ 20 % 4294967296)) (b % 4294967296 * 2 ^ 16 % 4294967296)) (bits .and .u32 (m % 4294967296) 65535)) (c % 4294967296) = word op a b c m := by
  have hb := ok_bound h
  obtain ⟨h0, h1, h2, h3, h4, h5, h6, h7, h8, h9, h10, h11⟩ := h
  have e := and_low (m % 4294967296) 16 (by omega) (by omega) (by decide)
  have e1 : bits .and .u32 (m % 4294967296) 65535 = m % 65536 := by
    refine Eq.trans e ?_
    show m % 4294967296 % 65536 = _
    omega
  rw [e1]
  simp only [Int.reducePow]
  rw [or_add (op % 4294967296 * 16777216 % 4294967296) (a % 4294967296 * 1048576 % 4294967296) 24 (by omega) (by omega) (by simp <;> omega) (by omega) (by simp <;> omega) (by omega)]
  rw [or_add _ (b % 4294967296 * 65536 % 4294967296) 20 (by omega) (by omega) (by simp <;> omega) (by omega) (by simp <;> omega) (by omega)]
  rw [or_add _ (m % 65536) 16 (by omega) (by omega) (by simp <;> omega) (by omega) (by simp <;> omega) (by omega)]
  have : ∀ x : Int, x = op % 4294967296 * 16777216 % 4294967296 + a % 4294967296 * 1048576 % 4294967296 + b % 4294967296 * 65536 % 4294967296 + m % 65536 → bits .or .u32 x (c % 4294967296) = x + c := by
    intro x hx
    rcases hb.2.2.2.2 with hc | hm
    · subst hc
      rw [or_add x _ 0 (by omega) (by omega) (by simp <;> omega) (by omega) (by simp) (by omega)]; omega
    · rw [or_add x _ 16 (by omega) (by omega) (by simp <;> omega) (by omega) (by simp <;> omega) (by omega)]; omega
  rw [this _ rfl]
  unfold word; omega
theorem ok_iff (op a b c m : Int) : decide (Ok op a b c m) = true ↔ (lay op ≠ 0 ∧ 0 ≤ a ∧ a ≤ 15 ∧ 0 ≤ b ∧ b ≤ 15 ∧ 0 ≤ c ∧ c ≤ 15 ∧ lo op ≤ m ∧ m ≤ hi op ∧ (lay op = 1 ∨ c = 0) ∧ (lay op = 5 → a = 0) ∧ (lay op = 1 ∨ lay op = 2 ∨ lay op = 3 ∨ b = 0)) := by
  rw [decide_eq_true_eq]; rfl
theorem f24 (w : Int) (h0 : 0 ≤ w) (h1 : w ≤ 4294967295) : fieldR w 24 8 = dOp w := by
  rw [fieldR_yes (by decide) (by decide) (by decide), field_eq _ _ _ h0 h1 (by decide)]
  simp; unfold dOp; omega
theorem f20 (w : Int) (h0 : 0 ≤ w) (h1 : w ≤ 4294967295) : fieldR w 20 4 = dA w := by
  rw [fieldR_yes (by decide) (by decide) (by decide), field_eq _ _ _ h0 h1 (by decide)]
  simp; unfold dA; omega
theorem f16 (w : Int) (h0 : 0 ≤ w) (h1 : w ≤ 4294967295) : fieldR w 16 4 = dB w := by
  rw [fieldR_yes (by decide) (by decide) (by decide), field_eq _ _ _ h0 h1 (by decide)]
  simp; unfold dB; omega
theorem f0 (w : Int) (h0 : 0 ≤ w) (h1 : w ≤ 4294967295) : fieldR w 0 16 = dL w := by
  rw [fieldR_yes (by decide) (by decide) (by decide), field_eq _ _ _ h0 h1 (by decide)]
  simp; unfold dL; omega
theorem d_bd (w : Int) (h0 : 0 ≤ w) (h1 : w ≤ 4294967295) : 0 ≤ dOp w ∧ dOp w ≤ 255 ∧ 0 ≤ dA w ∧ dA w ≤ 15 ∧ 0 ≤ dB w ∧ dB w ≤ 15 := by unfold dOp dA dB; omega
theorem d_wrap (w : Int) (h0 : 0 ≤ w) (h1 : w ≤ 4294967295) : wrap64 (dOp w) = dOp w ∧ wrap64 (dA w) = dA w ∧ wrap64 (dB w) = dB w ∧ wrap64 (dL w) = dL w := by
  have := d_bd w h0 h1
  have : 0 ≤ dL w ∧ dL w ≤ 65535 := by unfold dL; omega
  unfold wrap64; omega
theorem dL_bd (w : Int) : 0 ≤ dL w ∧ dL w ≤ 65535 := by unfold dL; omega
/-- What the 16-bit field tells of an immediate. -/
def immOf (op x : Int) : Int := if lo op < 0 ∧ 32768 ≤ x then x - 65536 else x
theorem sext16 (x : Int) (h0 : 0 ≤ x) (h1 : x ≤ 65535) : wrap32 (sext x 16) = if 32768 ≤ x then x - 65536 else x := by
  have e := sext_lo x 16 h0 (by omega) (by decide) (by decide)
  have e2 : x % 2 ^ (16 : Int).toNat = x := by show x % 65536 = x; omega
  rw [e2] at e
  have e3 : (2 : Int) ^ ((16 : Int).toNat - 1) = 32768 := rfl
  have e4 : (2 : Int) ^ (16 : Int).toNat = 65536 := rfl
  rw [e3, e4] at e
  rw [e]
  unfold wrap32
  by_cases h : 32768 ≤ x
  · rw [if_pos h, if_pos (by omega)]; omega
  · rw [if_neg h, if_neg (by omega)]; omega
end Go.Proofs.YthghbcjaokpilaaDoor.Isa
