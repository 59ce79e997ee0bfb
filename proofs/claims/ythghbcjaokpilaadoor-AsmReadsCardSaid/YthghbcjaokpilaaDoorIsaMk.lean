import Derived.Test.YthghbcjaokpilaaDoorIsaNum2
import Derived.Test.YthghbcjaokpilaaDoorNum2
import Derived.Laws.BitsAllLaws
import Derived.Lib.EndianBits
namespace Go.Proofs.YthghbcjaokpilaaDoor.Isa
set_option linter.unusedVariables false
set_option linter.unusedSimpArgs false
open Go.RowKit Go.Proofs.YthghbcjaokpilaaDoor.Num
/-- The operations that an instruction is chosen from. -/
def opsL : List Int := [1, 2, 3, 4, 5, 6, 7, 8, 9, 10, 11, 12, 13, 16, 16, 17, 18, 19, 20, 21, 22, 23, 24, 24, 32, 32, 33, 34, 35, 35, 36, 40, 41, 42, 43, 44, 45, 48, 49, 56, 57, 58, 59, 60, 60, 61, 61, 62, 63, 64]
theorem ops_fin : ∀ j : Fin 50, lay (opsL.getD j.val 0) ≠ 0 := by decide +kernel
def gA (op x : Int) : Int := if lay op = 5 then 0 else x
def gB (op x : Int) : Int := if lay op = 4 ∨ lay op = 5 then 0 else x
def gC (op x : Int) : Int := if lay op = 1 then x else 0
def gM (op k t : Int) : Int :=
  if lay op = 1 ∨ lay op = 5 then 0 else if (40 ≤ op ∧ op ≤ 45) ∨ op = 48 then k - 12 else if frm op = 3 then 8 * k - 32 else if frm op = 6 then k * t else if frm op = 8 then k % 8 else if frm op = 9 then k % 12 else k
theorem gen_ok {op a b c k t : Int} (ho : lay op ≠ 0) (ha : 0 ≤ a ∧ a ≤ 5) (hb : 0 ≤ b ∧ b ≤ 5) (hc : 0 ≤ c ∧ c ≤ 5) (hk : 0 ≤ k ∧ k ≤ 23) (ht : t = 0 ∨ t = 1) :
    Ok op (gA op a) (gB op b) (gC op c) (gM op k t) := by
  have hkt : 0 ≤ k * t ∧ k * t ≤ 23 := by rcases ht with h | h <;> (rw [h]; omega)
  have hm : lo op ≤ gM op k t ∧ gM op k t ≤ hi op := by
    rcases kind op with q | q | q | q | q | q | q | q | q | q | q <;> obtain ⟨k1, k2, k3, k4, k5⟩ := q <;> rw [k3, k4]
    · exact absurd k1 ho
    · unfold gM; rw [if_pos (Or.inl k1)]; omega
    · unfold gM; rw [if_neg (by omega)]; split <;> first | omega | (rw [if_pos k2]; omega)
    · unfold gM; rw [if_neg (by omega), if_neg (by omega), if_neg (by omega), if_neg (by omega), if_neg (by omega), if_neg (by omega)]; omega
    · unfold gM; rw [if_neg (by omega), if_neg (by omega), if_neg (by omega), if_neg (by omega), if_neg (by omega), if_neg (by omega)]; omega
    · unfold gM; rw [if_neg (by omega), if_neg (by omega), if_neg (by omega), if_pos k2]; exact ⟨hkt.1, Int.le_trans hkt.2 (by decide)⟩
    · unfold gM; rw [if_neg (by omega), if_neg (by omega), if_pos k2]; omega
    · unfold gM; rw [if_neg (by omega), if_pos (by omega)]; omega
    · unfold gM; rw [if_neg (by omega), if_neg (by omega), if_neg (by omega), if_neg (by omega), if_pos k2]; omega
    · unfold gM; rw [if_neg (by omega), if_neg (by omega), if_neg (by omega), if_neg (by omega), if_neg (by omega), if_pos k2]; omega
    · unfold gM; rw [if_pos (Or.inr k1)]; omega
  refine ⟨ho, ?_, ?_, ?_, ?_, ?_, ?_, hm.1, hm.2, ?_, ?_, ?_⟩
  · unfold gA; split <;> omega
  · unfold gA; split <;> omega
  · unfold gB; split <;> omega
  · unfold gB; split <;> omega
  · unfold gC; split <;> omega
  · unfold gC; split <;> omega
  · unfold gC; split <;> omega
  · intro h; unfold gA; rw [if_pos h]
  · have := kind_lay op
    unfold gB; split <;> omega
/-- The number that an instruction is made from. -/
def mixN (n : Int) : Int := mixed (bits .xor .u64 (IntKind.u64.wrap n) 11400714819323198485) / 2
theorem u64_bdI (x : Int) : 0 ≤ IntKind.u64.wrap x ∧ IntKind.u64.wrap x < 18446744073709551616 := by
  rw [IntKind.wrap_u64]; omega
theorem mixC_bdI (y : Int) (h0 : 0 ≤ y) (h1 : y < 18446744073709551616) : 0 ≤ mixC y ∧ mixC y < 18446744073709551616 := by
  obtain ⟨z, rfl⟩ : ∃ z : Nat, y = z := ⟨y.toNat, by omega⟩
  have e : (z : Int) / 2147483648 = ((z / 2147483648 : Nat) : Int) := by omega
  unfold mixC
  rw [e, u64_xor_nat _ _ (by omega) (by omega)]
  have := Nat.xor_lt_two_pow (x := z) (y := z / 2147483648) (n := 64) (by omega) (by omega)
  omega
theorem mixed_bdI (s : Int) : 0 ≤ mixed s ∧ mixed s < 18446744073709551616 := by
  unfold mixed
  generalize mixA (seedStep s) = q
  unfold mixB
  have h := u64_bdI (bits .xor .u64 q (q / 134217728) * 10723151780598845931)
  generalize IntKind.u64.wrap (bits .xor .u64 q (q / 134217728) * 10723151780598845931) = y at *
  exact mixC_bdI y h.1 h.2
theorem mixN_bd (n : Int) : 0 ≤ mixN n ∧ mixN n ≤ 9223372036854775807 := by
  unfold mixN
  have h := mixed_bdI (bits .xor .u64 (IntKind.u64.wrap n) 11400714819323198485)
  generalize mixed (bits .xor .u64 (IntKind.u64.wrap n) 11400714819323198485) = y at *
  omega
def mO (n : Int) : Int := opsL.getD (mixN n % 50).toNat 0
def mA (n : Int) : Int := gA (mO n) (mixN n / 256 % 6)
def mB (n : Int) : Int := gB (mO n) (mixN n / 4096 % 6)
def mC (n : Int) : Int := gC (mO n) (mixN n / 65536 % 6)
def mM (n : Int) : Int := gM (mO n) (mixN n / 1048576 % 24) (mixN n / 1099511627776 % 2)
theorem mO_lay (n : Int) : lay (mO n) ≠ 0 := by
  have := mixN_bd n
  exact ops_fin ⟨(mixN n % 50).toNat, by omega⟩
theorem made_ok (n : Int) : Ok (mO n) (mA n) (mB n) (mC n) (mM n) := by
  have := mixN_bd n
  exact gen_ok (mO_lay n) (by omega) (by omega) (by omega) (by omega) (by omega)
theorem mC_le (n : Int) : mC n ≤ 5 := by
  have := mixN_bd n
  unfold mC gC; split <;> omega
end Go.Proofs.YthghbcjaokpilaaDoor.Isa
