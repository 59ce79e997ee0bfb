import Derived.Test.YtfnfbdjbdbifaaaDoorCpNum
namespace Go.Proofs.YtfnfbdjbdbifaaaDoor
set_option linter.unusedVariables false
set_option linter.unusedSimpArgs false
open Go.RowKit Go.Proofs.YtfnfbdjbdbifaaaDoor.Num
/- The laws of the operations, as plain mathematics. -/
theorem av1 (a b : Int) : aluV 1 a b = (a + b) % 4294967296 := rfl
theorem av2 (a b : Int) : aluV 2 a b = (a - b) % 4294967296 := rfl
theorem av3 (a b : Int) : aluV 3 a b = bits .and .u32 a b := rfl
theorem av4 (a b : Int) : aluV 4 a b = bits .or .u32 a b := rfl
theorem av5 (a b : Int) : aluV 5 a b = bits .xor .u32 a b := rfl
theorem av6 (a b : Int) : aluV 6 a b = a * 2 ^ (b % 32).toNat % 4294967296 := rfl
theorem av7 (a b : Int) : aluV 7 a b = a / 2 ^ (b % 32).toNat := rfl
theorem av9 (a b : Int) : aluV 9 a b = a * b % 4294967296 := rfl
theorem av10 (a b : Int) : aluV 10 a b = sq a b := rfl
theorem av11 (a b : Int) : aluV 11 a b = sr a b := rfl
theorem av12 (a b : Int) : aluV 12 a b = if wrap32 a < wrap32 b then 1 else 0 := rfl
theorem av13 (a b : Int) : aluV 13 a b = if a < b then 1 else 0 := rfl
theorem nat_bits (op : BinOp) (a : Int) : True := trivial
theorem al1 (a b : Int) (a0 : 0 ≤ a) (a1 : a ≤ 4294967295) (b0 : 0 ≤ b) (b1 : b ≤ 4294967295) : aluV 2 (aluV 1 a b) b = a := by rw [av1, av2]; omega
theorem al2 (a b : Int) : aluV 1 a b = aluV 1 b a := by rw [av1, av1, Int.add_comm]
theorem al3 (a b c : Int) : aluV 9 a (aluV 1 b c) = aluV 1 (aluV 9 a b) (aluV 9 a c) := by
  rw [av1, av1, av9, av9, av9, Int.mul_emod, Int.emod_emod_of_dvd _ (Int.dvd_refl _), ← Int.mul_emod, Int.mul_add, Int.add_emod]
theorem al4 (a b : Int) (a0 : 0 ≤ a) (a1 : a ≤ 4294967295) (b0 : 0 ≤ b) (b1 : b ≤ 4294967295) : aluV 5 (aluV 5 a b) b = a := by
  obtain ⟨A, rfl⟩ : ∃ A : Nat, a = A := ⟨a.toNat, by omega⟩
  obtain ⟨B, rfl⟩ : ∃ B : Nat, b = B := ⟨b.toNat, by omega⟩
  have hx : A ^^^ B < 2 ^ 32 := Nat.xor_lt_two_pow (by omega) (by omega)
  rw [av5, av5, u32_xor_nat A B (by omega) (by omega), u32_xor_nat _ B (by omega) (by omega), Nat.xor_assoc, Nat.xor_self, Nat.xor_zero]
theorem al5 (a b : Int) (a0 : 0 ≤ a) (a1 : a ≤ 4294967295) (b0 : 0 ≤ b) (b1 : b ≤ 4294967295) : aluV 4 a b = aluV 5 (aluV 5 a b) (aluV 3 a b) := by
  obtain ⟨A, rfl⟩ : ∃ A : Nat, a = A := ⟨a.toNat, by omega⟩
  obtain ⟨B, rfl⟩ : ∃ B : Nat, b = B := ⟨b.toNat, by omega⟩
  have hx : A ^^^ B < 2 ^ 32 := Nat.xor_lt_two_pow (by omega) (by omega)
  have hy : A &&& B < 2 ^ 32 := Nat.and_lt_two_pow _ (by omega)
  rw [av4, av5, av5, av3, u32_or_nat A B (by omega) (by omega), u32_xor_nat A B (by omega) (by omega), u32_and_nat A B (by omega) (by omega), u32_xor_nat _ _ (by omega) (by omega)]
  congr 1
  apply Nat.eq_of_testBit_eq
  intro i
  rw [Nat.testBit_or, Nat.testBit_xor, Nat.testBit_xor, Nat.testBit_and]
  cases A.testBit i <;> cases B.testBit i <;> rfl
theorem sq_bd (a b : Int) : 0 ≤ sq a b ∧ sq a b ≤ 4294967295 := by unfold sq; split <;> omega
theorem sr_bd (a b : Int) (a0 : 0 ≤ a) (a1 : a ≤ 4294967295) : 0 ≤ sr a b ∧ sr a b ≤ 4294967295 := by unfold sr; split <;> omega
theorem al6 (a b : Int) (a0 : 0 ≤ a) (a1 : a ≤ 4294967295) (b0 : 0 ≤ b) (b1 : b ≤ 4294967295) : aluV 1 (aluV 9 (aluV 10 a b) b) (aluV 11 a b) = a := by
  rw [av1, av9, av10, av11]
  by_cases hb : b = 0
  · subst hb
    have : sr a 0 = a := by unfold sr; rw [if_pos rfl]
    rw [this, Int.mul_zero]; omega
  · unfold sq sr
    rw [if_neg hb, if_neg hb]
    have hy : wrap32 b ≠ 0 := by unfold wrap32; omega
    have f := Int.mul_tdiv_add_tmod (wrap32 a) (wrap32 b)
    obtain ⟨ka, ea⟩ := wrap32_k a
    obtain ⟨kb, eb⟩ := wrap32_k b
    obtain ⟨kq, eq⟩ := mod_k ((wrap32 a).tdiv (wrap32 b))
    obtain ⟨kr, er⟩ := mod_k ((wrap32 a).tmod (wrap32 b))
    have hm := Int.emod_emod_of_dvd ((wrap32 a).tdiv (wrap32 b) % 4294967296 * b) (Int.dvd_refl 4294967296)
    have hw : wrap32 b % 4294967296 = b := by rw [wrap32_mod]; omega
    have h2 : (wrap32 a).tdiv (wrap32 b) % 4294967296 * b % 4294967296 = (wrap32 a).tdiv (wrap32 b) * wrap32 b % 4294967296 := by
      generalize (wrap32 a).tdiv (wrap32 b) = Q
      generalize wrap32 b = Y at hw
      rw [← hw, Int.mul_emod, Int.emod_emod_of_dvd _ (Int.dvd_refl _), Int.emod_emod_of_dvd _ (Int.dvd_refl _), ← Int.mul_emod]
    rw [h2, ← Int.add_emod, Int.mul_comm ((wrap32 a).tdiv (wrap32 b)), f, wrap32_mod]
    omega
theorem al7 (a c : Int) (a0 : 0 ≤ a) (a1 : a ≤ 4294967295) (c0 : 0 ≤ c) (c1 : c ≤ 4294967295) : aluV 6 (aluV 7 a c) c = aluV 3 a (aluV 6 4294967295 c) := by
  rw [av6, av7, av3, av6]
  obtain ⟨A, rfl⟩ : ∃ A : Nat, a = A := ⟨a.toNat, by omega⟩
  have hk : (c % 32).toNat < 32 := by omega
  generalize (c % 32).toNat = k at *
  have e1 : (A : Int) / 2 ^ k * 2 ^ k % 4294967296 = ((A / 2 ^ k * 2 ^ k % 4294967296 : Nat) : Int) := by simp
  have e2 : (4294967295 : Int) * 2 ^ k % 4294967296 = ((4294967295 * 2 ^ k % 4294967296 : Nat) : Int) := by simp
  rw [e1, e2, u32_and_nat A _ (by omega) (by omega)]
  congr 1
  apply Nat.eq_of_testBit_eq
  intro i
  rw [show (4294967296 : Nat) = 2 ^ 32 from rfl, Nat.testBit_and, Nat.testBit_mod_two_pow, Nat.testBit_mod_two_pow, Nat.testBit_mul_two_pow, Nat.testBit_mul_two_pow, Nat.testBit_div_two_pow, show (4294967295 : Nat) = 2 ^ 32 - 1 from rfl, Nat.testBit_two_pow_sub_one]
  by_cases hi : i < 32
  · by_cases hk' : k ≤ i
    · have e : i - k + k = i := by omega
      have : i - k < 32 := by omega
      simp [hi, hk', e, this]
    · simp [hk']
  · simp [hi]
theorem al8 (a b : Int) (a0 : 0 ≤ a) (a1 : a ≤ 4294967295) (b0 : 0 ≤ b) (b1 : b ≤ 4294967295) : (aluV 13 a b + aluV 13 b a) % 4294967296 = aluV 13 0 (aluV 5 a b) := by
  rw [av13, av13, av13, av5]
  obtain ⟨A, rfl⟩ : ∃ A : Nat, a = A := ⟨a.toNat, by omega⟩
  obtain ⟨B, rfl⟩ : ∃ B : Nat, b = B := ⟨b.toNat, by omega⟩
  rw [u32_xor_nat A B (by omega) (by omega)]
  by_cases h : A = B
  · subst h
    rw [Nat.xor_self]; simp
  · have : A ^^^ B ≠ 0 := fun hh => h (by
      have := congrArg (· ^^^ B) hh
      simpa [Nat.xor_assoc] using this)
    rcases Nat.lt_or_gt_of_ne h with hl | hl
    · rw [if_pos (by omega), if_neg (by omega), if_pos (by omega)]; rfl
    · rw [if_neg (by omega), if_pos (by omega), if_pos (by omega)]; rfl
theorem al9 (a b : Int) (a0 : 0 ≤ a) (a1 : a ≤ 4294967295) (b0 : 0 ≤ b) (b1 : b ≤ 4294967295) : aluV 12 a b = aluV 13 (bits .xor .u32 a 2147483648) (bits .xor .u32 b 2147483648) := by
  rw [av12, av13, xor_sign a a0 a1, xor_sign b b0 b1]
  by_cases h : wrap32 a < wrap32 b
  · rw [if_pos h, if_pos ((sltb a b a0 a1 b0 b1).2 h)]
  · rw [if_neg h, if_neg (fun hh => h ((sltb a b a0 a1 b0 b1).1 hh))]
theorem bits_bd (op : BinOp) (ho : op = .and ∨ op = .or ∨ op = .xor) (a b : Int) (a0 : 0 ≤ a) (a1 : a ≤ 4294967295) (b0 : 0 ≤ b) (b1 : b ≤ 4294967295) : 0 ≤ bits op .u32 a b ∧ bits op .u32 a b ≤ 4294967295 := by
  obtain ⟨A, rfl⟩ : ∃ A : Nat, a = A := ⟨a.toNat, by omega⟩
  obtain ⟨B, rfl⟩ : ∃ B : Nat, b = B := ⟨b.toNat, by omega⟩
  have hx : A ^^^ B < 2 ^ 32 := Nat.xor_lt_two_pow (by omega) (by omega)
  have hy : A &&& B < 2 ^ 32 := Nat.and_lt_two_pow _ (by omega)
  have hz : A ||| B < 2 ^ 32 := Nat.or_lt_two_pow (by omega) (by omega)
  rcases ho with rfl | rfl | rfl
  · rw [u32_and_nat A B (by omega) (by omega)]; omega
  · rw [u32_or_nat A B (by omega) (by omega)]; omega
  · rw [u32_xor_nat A B (by omega) (by omega)]; omega
theorem aluP_bd (p a b : Int) (a0 : 0 ≤ a) (a1 : a ≤ 4294967295) (b0 : 0 ≤ b) (b1 : b ≤ 4294967295) : 0 ≤ aluP p a b ∧ aluP p a b ≤ 4294967295 := by
  have h1 := bits_bd .and (by simp) a b a0 a1 b0 b1
  have h2 := bits_bd .or (by simp) a b a0 a1 b0 b1
  have h3 := bits_bd .xor (by simp) a b a0 a1 b0 b1
  have h4 := sq_bd a b
  have h5 := sr_bd a b a0 a1
  have h6 : 0 ≤ a / 2 ^ (b % 32).toNat ∧ a / 2 ^ (b % 32).toNat ≤ 4294967295 := by
    have hp : (0 : Int) < 2 ^ (b % 32).toNat := Int.pow_pos (by decide)
    refine ⟨Int.ediv_nonneg a0 (by omega), ?_⟩
    have := Int.ediv_le_self (2 ^ (b % 32).toNat) a0
    omega
  unfold aluP
  generalize a * 2 ^ (b % 32).toNat = z1 at *
  generalize wrap32 a / 2 ^ (b % 32).toNat = z2 at *
  generalize a / 2 ^ (b % 32).toNat = z3 at *
  generalize a * b = z4 at *
  repeat' split
  all_goals omega
theorem aluV_bd (op a b : Int) (a0 : 0 ≤ a) (a1 : a ≤ 4294967295) (b0 : 0 ≤ b) (b1 : b ≤ 4294967295) : 0 ≤ aluV op a b ∧ aluV op a b ≤ 4294967295 := aluP_bd _ a b a0 a1 b0 b1
end Go.Proofs.YtfnfbdjbdbifaaaDoor
