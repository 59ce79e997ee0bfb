import Derived.Test.YtfnfbdjbdbifaaaDoorIsaNum2
import Derived.Test.YtfnfbdjbdbifaaaDoorNum2
import Derived.Laws.BitsAllLaws
import Derived.Lib.EndianBits
import Derived.Test.YtfnfbdjbdbifaaaDoorIsaFn3
import Derived.Test.YtfnfbdjbdbifaaaDoorFn2
import Derived.Laws.ResultCell
import Derived.Deep.RegionHeld3
namespace Go.Proofs.YtfnfbdjbdbifaaaDoor.Isa
set_option linter.unusedVariables false
set_option linter.unusedSimpArgs false
open Go.RowKit Go.Proofs.YtfnfbdjbdbifaaaDoor.Num
/-- The operations that an instruction is chosen from. -/
def opsL : List Int := [1, 2, 3, 4, 5, 6, 7, 8, 9, 10, 11, 12, 13, 16, 16, 17, 18, 19, 20, 21, 22, 23, 24, 24, 32, 32, 33, 34, 35, 35, 36, 40, 41, 42, 43, 44, 45, 48, 49, 56, 57, 58, 59, 60, 60, 61, 61, 62, 63, 64]
theorem ops_fin : ∀ j : Fin 50, lay (opsL.getD j.val 0) ≠ 0 := by decide +kernel
def gA (op x : Int) : Int := if lay op = 5 then 0 else x
def gB (op x : Int) : Int := if lay op = 4 ∨ lay op = 5 then 0 else x
def gC (op x : Int) : Int := if lay op = 1 then x else 0
def gM (op k t : Int) : Int :=
  if lay op = 1 ∨ lay op = 5 then 0 else if (40 ≤ op ∧ op ≤ 45) ∨ op = 48 then k - 12 else if frm op = 3 then 8 * k - 32 else if frm op = 6 then k * t else if frm op = 8 then k % 8 else if frm op = 9 then k % 12 else k
theorem gen_ok {op a b c k t : Int} (ho : lay op ≠ 0) (ha : 0 ≤ a ∧ a ≤ 5) (hb : 0 ≤ b ∧ b ≤ 5) (hc : 0 ≤ c ∧ c ≤ 5) (hk : 0 ≤ k ∧ k ≤ 23) (ht : t = 0 ∨ t = 1) :
    Ok op (gA op a) (gB op b) (gC op c) (gM op k t) := by
  have hkt : 0 ≤ k * t ∧ k * t ≤ 23 := by rcases ht with h | h <;> (rw [h]; omega)
  have hm : lo op ≤ gM op k t ∧ gM op k t ≤ hi op := by
    rcases kind op with q | q | q | q | q | q | q | q | q | q | q <;> obtain ⟨k1, k2, k3, k4, k5⟩ := q <;> rw [k3, k4]
    · exact absurd k1 ho
    · unfold gM; rw [if_pos (Or.inl k1)]; omega
    · unfold gM; rw [if_neg (by omega)]; split <;> first | omega | (rw [if_pos k2]; omega)
    · unfold gM; rw [if_neg (by omega), if_neg (by omega), if_neg (by omega), if_neg (by omega), if_neg (by omega), if_neg (by omega)]; omega
    · unfold gM; rw [if_neg (by omega), if_neg (by omega), if_neg (by omega), if_neg (by omega), if_neg (by omega), if_neg (by omega)]; omega
    · unfold gM; rw [if_neg (by omega), if_neg (by omega), if_neg (by omega), if_pos k2]; exact ⟨hkt.1, Int.le_trans hkt.2 (by decide)⟩
    · unfold gM; rw [if_neg (by omega), if_neg (by omega), if_pos k2]; omega
    · unfold gM; rw [if_neg (by omega), if_pos (by omega)]; omega
    · unfold gM; rw [if_neg (by omega), if_neg (by omega), if_neg (by omega), if_neg (by omega), if_pos k2]; omega
    · unfold gM; rw [if_neg (by omega), if_neg (by omega), if_neg (by omega), if_neg (by omega), if_neg (by omega), if_pos k2]; omega
    · unfold gM; rw [if_pos (Or.inr k1)]; omega
  refine ⟨ho, ?_, ?_, ?_, ?_, ?_, ?_, hm.1, hm.2, ?_, ?_, ?_⟩
  · unfold gA; split <;> omega
  · unfold gA; split <;> omega
  · unfold gB; split <;> omega
  · unfold gB; split <;> omega
  · unfold gC; split <;> omega
  · unfold gC; split <;> omega
  · unfold gC; split <;> omega
  · intro h; unfold gA; rw [if_pos h]
  · have := kind_lay op
    unfold gB; split <;> omega
/-- The number that an instruction is made from. -/
def mixN (n : Int) : Int := mixed (bits .xor .u64 (IntKind.u64.wrap n) 11400714819323198485) / 2
theorem u64_bdI (x : Int) : 0 ≤ IntKind.u64.wrap x ∧ IntKind.u64.wrap x < 18446744073709551616 := by
  rw [IntKind.wrap_u64]; omega
theorem mixC_bdI (y : Int) (h0 : 0 ≤ y) (h1 : y < 18446744073709551616) : 0 ≤ mixC y ∧ mixC y < 18446744073709551616 := by
  obtain ⟨z, rfl⟩ : ∃ z : Nat, y = z := ⟨y.toNat, by omega⟩
  have e : (z : Int) / 2147483648 = ((z / 2147483648 : Nat) : Int) := by omega
  unfold mixC
  rw [e, u64_xor_nat _ _ (by omega) (by omega)]
  have := Nat.xor_lt_two_pow (x := z) (y := z / 2147483648) (n := 64) (by omega) (by omega)
  omega
theorem mixed_bdI (s : Int) : 0 ≤ mixed s ∧ mixed s < 18446744073709551616 := by
  unfold mixed
  generalize mixA (seedStep s) = q
  unfold mixB
  have h := u64_bdI (bits .xor .u64 q (q / 134217728) * 10723151780598845931)
  generalize IntKind.u64.wrap (bits .xor .u64 q (q / 134217728) * 10723151780598845931) = y at *
  exact mixC_bdI y h.1 h.2
theorem mixN_bd (n : Int) : 0 ≤ mixN n ∧ mixN n ≤ 9223372036854775807 := by
  unfold mixN
  have h := mixed_bdI (bits .xor .u64 (IntKind.u64.wrap n) 11400714819323198485)
  generalize mixed (bits .xor .u64 (IntKind.u64.wrap n) 11400714819323198485) = y at *
  omega
def mO (n : Int) : Int := opsL.getD (mixN n % 50).toNat 0
def mA (n : Int) : Int := gA (mO n) (mixN n / 256 % 6)
def mB (n : Int) : Int := gB (mO n) (mixN n / 4096 % 6)
def mC (n : Int) : Int := gC (mO n) (mixN n / 65536 % 6)
def mM (n : Int) : Int := gM (mO n) (mixN n / 1048576 % 24) (mixN n / 1099511627776 % 2)
theorem mO_lay (n : Int) : lay (mO n) ≠ 0 := by
  have := mixN_bd n
  exact ops_fin ⟨(mixN n % 50).toNat, by omega⟩
theorem made_ok (n : Int) : Ok (mO n) (mA n) (mB n) (mC n) (mM n) := by
  have := mixN_bd n
  exact gen_ok (mO_lay n) (by omega) (by omega) (by omega) (by omega) (by omega)
theorem mC_le (n : Int) : mC n ≤ 5 := by
  have := mixN_bd n
  unfold mC gC; split <;> omega
end Go.Proofs.YtfnfbdjbdbifaaaDoor.Isa

namespace Go.Proofs.YtfnfbdjbdbifaaaDoor.Isa
set_option linter.unusedVariables false
set_option linter.unusedSimpArgs false
open Go Go.RowKit Go.Proofs.YtfnfbdjbdbifaaaDoor.Num
theorem and_bit (n : Int) : bits BinOp.and IntKind.i64 n 1 = n % 2 := by
  have h1 : (BitVec.ofInt 64 1).toNat = 2 ^ 1 - 1 := by decide
  have key : (BitVec.ofInt 64 n &&& BitVec.ofInt 64 1).toNat = (n % ((2 ^ 64 : Nat) : Int)).toNat % 2 ^ 1 := by
    rw [BitVec.toNat_and, BitVec.toNat_ofInt, h1, Nat.and_two_pow_sub_one_eq_mod]
  show IntKind.i64.wrap ((BitVec.ofInt 64 n &&& BitVec.ofInt 64 1).toNat : Nat) = n % 2
  rw [key, IntKind.wrap_i64]
  omega
theorem ret_made {n o v A B C M : Int} (hO : mO n = o) (hv : mixN n = v) (eA : gA o (v / 256 % 6) = A) (eB : gB o (v / 4096 % 6) = B) (eC : gC o (v / 65536 % 6) = C) (eM : gM o (v / 1048576 % 24) (v / 1099511627776 % 2) = M) :
    Ending.returned (.agg #[.int .i64 o, .int .i64 A, .int .i64 B, .int .i64 C, .int .i32 M]) = .returned (.agg #[.int .i64 (mO n), .int .i64 (mA n), .int .i64 (mB n), .int .i64 (mC n), .int .i32 (mM n)]) := by
  unfold mA mB mC mM
  rw [hO, hv, eA, eB, eC, eM]
theorem made_a (o : Int) (v : Int) (h0 : 0 ≤ v) (h : 1 ≤ o ∧ o ≤ 13) : gA o (v / 256 % 6) = v / 256 % 6 ∧ gB o (v / 4096 % 6) = v / 4096 % 6 ∧ gC o (v / 65536 % 6) = v / 65536 % 6 ∧ gM o (v / 1048576 % 24) (v / 1099511627776 % 2) = 0 := by
  have hl : lay (o) = 1 ∧ frm (o) = 2 := by rcases kind o with k | k | k | k | k | k | k | k | k | k | k <;> obtain ⟨k1, k2, k3, k4, k5⟩ := k <;> omega
  have hr : ¬ ((40 ≤ (o : Int) ∧ (o : Int) ≤ 45) ∨ (o : Int) = 48) := by omega
  refine ⟨by simp [gA, hl.1], by simp [gB, hl.1], by simp [gC, hl.1], ?_⟩
  unfold gM; rw [if_pos (by omega)]
theorem made_b (o : Int) (v : Int) (h0 : 0 ≤ v) (h : 40 ≤ o ∧ o ≤ 45) : gA o (v / 256 % 6) = v / 256 % 6 ∧ gB o (v / 4096 % 6) = v / 4096 % 6 ∧ gC o (v / 65536 % 6) = 0 ∧ gM o (v / 1048576 % 24) (v / 1099511627776 % 2) = (v / 1048576 % 24) - 12 := by
  have hl : lay (o) = 2 ∧ frm (o) = 3 := by rcases kind o with k | k | k | k | k | k | k | k | k | k | k <;> obtain ⟨k1, k2, k3, k4, k5⟩ := k <;> omega
  have hr : ((40 ≤ (o : Int) ∧ (o : Int) ≤ 45) ∨ (o : Int) = 48) := by omega
  refine ⟨by simp [gA, hl.1], by simp [gB, hl.1], by simp [gC, hl.1], ?_⟩
  unfold gM; rw [if_neg (by omega), if_pos hr]
theorem made_c (v : Int) (h0 : 0 ≤ v) : gA 48 (v / 256 % 6) = v / 256 % 6 ∧ gB 48 (v / 4096 % 6) = 0 ∧ gC 48 (v / 65536 % 6) = 0 ∧ gM 48 (v / 1048576 % 24) (v / 1099511627776 % 2) = (v / 1048576 % 24) - 12 := by
  have hl : lay (48) = 4 ∧ frm (48) = 7 := by decide +kernel
  have hr : ((40 ≤ (48 : Int) ∧ (48 : Int) ≤ 45) ∨ (48 : Int) = 48) := by omega
  refine ⟨by simp [gA, hl.1], by simp [gB, hl.1], by simp [gC, hl.1], ?_⟩
  unfold gM; rw [if_neg (by omega), if_pos hr]
theorem made_d (v : Int) (h0 : 0 ≤ v) : gA 16 (v / 256 % 6) = v / 256 % 6 ∧ gB 16 (v / 4096 % 6) = v / 4096 % 6 ∧ gC 16 (v / 65536 % 6) = 0 ∧ gM 16 (v / 1048576 % 24) (v / 1099511627776 % 2) = 8 * (v / 1048576 % 24) - 32 := by
  have hl : lay (16) = 2 ∧ frm (16) = 3 := by decide +kernel
  have hr : ¬ ((40 ≤ (16 : Int) ∧ (16 : Int) ≤ 45) ∨ (16 : Int) = 48) := by omega
  refine ⟨by simp [gA, hl.1], by simp [gB, hl.1], by simp [gC, hl.1], ?_⟩
  unfold gM; rw [if_neg (by omega), if_neg hr, if_pos hl.2]
theorem made_e (v : Int) (h0 : 0 ≤ v) : gA 23 (v / 256 % 6) = v / 256 % 6 ∧ gB 23 (v / 4096 % 6) = v / 4096 % 6 ∧ gC 23 (v / 65536 % 6) = 0 ∧ gM 23 (v / 1048576 % 24) (v / 1099511627776 % 2) = 8 * (v / 1048576 % 24) - 32 := by
  have hl : lay (23) = 2 ∧ frm (23) = 3 := by decide +kernel
  have hr : ¬ ((40 ≤ (23 : Int) ∧ (23 : Int) ≤ 45) ∨ (23 : Int) = 48) := by omega
  refine ⟨by simp [gA, hl.1], by simp [gB, hl.1], by simp [gC, hl.1], ?_⟩
  unfold gM; rw [if_neg (by omega), if_neg hr, if_pos hl.2]
theorem made_f (o : Int) (v : Int) (h0 : 0 ≤ v) (h : 32 ≤ o ∧ o ≤ 36) : gA o (v / 256 % 6) = v / 256 % 6 ∧ gB o (v / 4096 % 6) = v / 4096 % 6 ∧ gC o (v / 65536 % 6) = 0 ∧ gM o (v / 1048576 % 24) (v / 1099511627776 % 2) = 8 * (v / 1048576 % 24) - 32 := by
  have hl : lay (o) = 3 ∧ frm (o) = 3 := by rcases kind o with k | k | k | k | k | k | k | k | k | k | k <;> obtain ⟨k1, k2, k3, k4, k5⟩ := k <;> omega
  have hr : ¬ ((40 ≤ (o : Int) ∧ (o : Int) ≤ 45) ∨ (o : Int) = 48) := by omega
  refine ⟨by simp [gA, hl.1], by simp [gB, hl.1], by simp [gC, hl.1], ?_⟩
  unfold gM; rw [if_neg (by omega), if_neg hr, if_pos hl.2]
theorem made_g (v : Int) (h0 : 0 ≤ v) : gA 49 (v / 256 % 6) = v / 256 % 6 ∧ gB 49 (v / 4096 % 6) = v / 4096 % 6 ∧ gC 49 (v / 65536 % 6) = 0 ∧ gM 49 (v / 1048576 % 24) (v / 1099511627776 % 2) = 8 * (v / 1048576 % 24) - 32 := by
  have hl : lay (49) = 2 ∧ frm (49) = 3 := by decide +kernel
  have hr : ¬ ((40 ≤ (49 : Int) ∧ (49 : Int) ≤ 45) ∨ (49 : Int) = 48) := by omega
  refine ⟨by simp [gA, hl.1], by simp [gB, hl.1], by simp [gC, hl.1], ?_⟩
  unfold gM; rw [if_neg (by omega), if_neg hr, if_pos hl.2]
theorem made_h (v : Int) (h0 : 0 ≤ v) (h1 : v ≤ 9223372036854775807) : gA 24 (v / 256 % 6) = v / 256 % 6 ∧ gB 24 (v / 4096 % 6) = 0 ∧ gC 24 (v / 65536 % 6) = 0 ∧ gM 24 (v / 1048576 % 24) (v / 1099511627776 % 2) = wrap32 (wrap64 (v / 1048576 % 24 * bits BinOp.and IntKind.i64 (v / 1099511627776) 1)) := by
  have hl : lay (24) = 4 ∧ frm (24) = 6 := by decide +kernel
  have hr : ¬ ((40 ≤ (24 : Int) ∧ (24 : Int) ≤ 45) ∨ (24 : Int) = 48) := by omega
  refine ⟨by simp [gA, hl.1], by simp [gB, hl.1], by simp [gC, hl.1], ?_⟩
  have e : bits BinOp.and IntKind.i64 (v / 1099511627776) 1 = v / 1099511627776 % 2 := and_bit _
  have e2 : v / 1099511627776 % 2 = 0 ∨ v / 1099511627776 % 2 = 1 := by omega
  rw [e]
  unfold gM
  rw [if_neg (by omega), if_neg hr, if_neg (by omega), if_pos hl.2]
  rcases e2 with e2 | e2 <;> (rw [e2]; unfold wrap32 wrap64; omega)
theorem made_i (o : Int) (v : Int) (h0 : 0 ≤ v) (h : 17 ≤ o ∧ o ≤ 22) : gA o (v / 256 % 6) = v / 256 % 6 ∧ gB o (v / 4096 % 6) = v / 4096 % 6 ∧ gC o (v / 65536 % 6) = 0 ∧ gM o (v / 1048576 % 24) (v / 1099511627776 % 2) = (v / 1048576 % 24) := by
  have hl : lay o = 2 ∧ (frm o = 4 ∨ frm o = 5) := by rcases kind o with k | k | k | k | k | k | k | k | k | k | k <;> obtain ⟨k1, k2, k3, k4, k5⟩ := k <;> omega
  have hr : ¬ ((40 ≤ o ∧ o ≤ 45) ∨ o = 48) := by omega
  refine ⟨by simp [gA, hl.1], by simp [gB, hl.1], by simp [gC, hl.1], ?_⟩
  rcases hl.2 with hf | hf <;> simp [gM, hl.1, hf, hr]
theorem made_j (v : Int) (h0 : 0 ≤ v) : gA 58 (v / 256 % 6) = v / 256 % 6 ∧ gB 58 (v / 4096 % 6) = 0 ∧ gC 58 (v / 65536 % 6) = 0 ∧ gM 58 (v / 1048576 % 24) (v / 1099511627776 % 2) = v / 1048576 % 8 := by
  have hl : lay (58) = 4 ∧ frm (58) = 8 := by decide +kernel
  have hr : ¬ ((40 ≤ (58 : Int) ∧ (58 : Int) ≤ 45) ∨ (58 : Int) = 48) := by omega
  refine ⟨by simp [gA, hl.1], by simp [gB, hl.1], by simp [gC, hl.1], ?_⟩
  simp [gM, hl.1, hl.2]
theorem made_k (v : Int) (h0 : 0 ≤ v) : gA 59 (v / 256 % 6) = v / 256 % 6 ∧ gB 59 (v / 4096 % 6) = 0 ∧ gC 59 (v / 65536 % 6) = 0 ∧ gM 59 (v / 1048576 % 24) (v / 1099511627776 % 2) = v / 1048576 % 8 := by
  have hl : lay (59) = 4 ∧ frm (59) = 8 := by decide +kernel
  have hr : ¬ ((40 ≤ (59 : Int) ∧ (59 : Int) ≤ 45) ∨ (59 : Int) = 48) := by omega
  refine ⟨by simp [gA, hl.1], by simp [gB, hl.1], by simp [gC, hl.1], ?_⟩
  simp [gM, hl.1, hl.2]
theorem made_l (v : Int) (h0 : 0 ≤ v) : gA 60 (v / 256 % 6) = v / 256 % 6 ∧ gB 60 (v / 4096 % 6) = 0 ∧ gC 60 (v / 65536 % 6) = 0 ∧ gM 60 (v / 1048576 % 24) (v / 1099511627776 % 2) = v / 1048576 % 12 := by
  have hl : lay (60) = 4 ∧ frm (60) = 9 := by decide +kernel
  have hr : ¬ ((40 ≤ (60 : Int) ∧ (60 : Int) ≤ 45) ∨ (60 : Int) = 48) := by omega
  refine ⟨by simp [gA, hl.1], by simp [gB, hl.1], by simp [gC, hl.1], ?_⟩
  simp [gM, hl.1, hl.2]
theorem made_m (v : Int) (h0 : 0 ≤ v) : gA 61 (v / 256 % 6) = v / 256 % 6 ∧ gB 61 (v / 4096 % 6) = 0 ∧ gC 61 (v / 65536 % 6) = 0 ∧ gM 61 (v / 1048576 % 24) (v / 1099511627776 % 2) = v / 1048576 % 12 := by
  have hl : lay (61) = 4 ∧ frm (61) = 9 := by decide +kernel
  have hr : ¬ ((40 ≤ (61 : Int) ∧ (61 : Int) ≤ 45) ∨ (61 : Int) = 48) := by omega
  refine ⟨by simp [gA, hl.1], by simp [gB, hl.1], by simp [gC, hl.1], ?_⟩
  simp [gM, hl.1, hl.2]
theorem made_n (o : Int) (v : Int) (h0 : 0 ≤ v) (h : 56 ≤ o ∧ o ≤ 57) : gA o (v / 256 % 6) = 0 ∧ gB o (v / 4096 % 6) = 0 ∧ gC o (v / 65536 % 6) = 0 ∧ gM o (v / 1048576 % 24) (v / 1099511627776 % 2) = 0 := by
  have hl : lay (o) = 5 ∧ frm (o) = 1 := by rcases kind o with k | k | k | k | k | k | k | k | k | k | k <;> obtain ⟨k1, k2, k3, k4, k5⟩ := k <;> omega
  have hr : ¬ ((40 ≤ (o : Int) ∧ (o : Int) ≤ 45) ∨ (o : Int) = 48) := by omega
  refine ⟨by simp [gA, hl.1], by simp [gB, hl.1], by simp [gC, hl.1], ?_⟩
  unfold gM; rw [if_pos (by omega)]
theorem made_o (o : Int) (v : Int) (h0 : 0 ≤ v) (h : 62 ≤ o ∧ o ≤ 64) : gA o (v / 256 % 6) = 0 ∧ gB o (v / 4096 % 6) = 0 ∧ gC o (v / 65536 % 6) = 0 ∧ gM o (v / 1048576 % 24) (v / 1099511627776 % 2) = 0 := by
  have hl : lay (o) = 5 ∧ frm (o) = 1 := by rcases kind o with k | k | k | k | k | k | k | k | k | k | k <;> obtain ⟨k1, k2, k3, k4, k5⟩ := k <;> omega
  have hr : ¬ ((40 ≤ (o : Int) ∧ (o : Int) ≤ 45) ∨ (o : Int) = 48) := by omega
  refine ⟨by simp [gA, hl.1], by simp [gB, hl.1], by simp [gC, hl.1], ?_⟩
  unfold gM; rw [if_pos (by omega)]
end Go.Proofs.YtfnfbdjbdbifaaaDoor.Isa

namespace Go.Proofs.YtfnfbdjbdbifaaaDoor
set_option linter.unusedVariables false
set_option linter.unusedSimpArgs false
open Go.Lib Go.ChangeShapes Go.WideShapes Go.ChangeAt Go.RowKit Go.Proofs.YtfnfbdjbdbifaaaDoor.Num Go.Proofs.YtfnfbdjbdbifaaaDoor.Isa Go.Proofs.YtfnfbdjbdbifaaaDoor.Mem
theorem rndI (n k : Int) (hk : 1 ≤ k) : (n.tmod k < 0 → n % k = n.tmod k + k ∧ -k < n.tmod k) ∧ (0 ≤ n.tmod k → n % k = n.tmod k ∧ n.tmod k < k) := by
  obtain ⟨h1, h2, h3, h4, h5⟩ := tdiv_facts n k (by omega)
  obtain ⟨h6, h7⟩ := h4 (by omega)
  have e : n % k = n.tmod k % k := by
    conv => lhs; rw [← h1]
    rw [Int.add_comm, Int.add_mul_emod_self_left]
  refine ⟨fun h => ⟨?_, h6⟩, fun h => ⟨?_, h7⟩⟩
  · rw [e]
    have : n.tmod k % k = (n.tmod k + k) % k := by simp
    rw [this, Int.emod_eq_of_lt (by omega) (by omega)]
  · rw [e, Int.emod_eq_of_lt h h7]
theorem round_anyI (n k : Int) (w : World) (hk : 1 ≤ k) (hk' : k ≤ 1000000) (h0 : -9223372036854775808 ≤ n) (h1 : n ≤ 9223372036854775807) :
    Calls Tryd.prog 16 #[.int .i64 n, .int .i64 k] w fun e w' => e = .returned (.int .i64 (n % k)) ∧ ∃ m, w' = w.drewN m := by
  have hz : ¬ k = 0 := by omega
  have hr := Lib.hid (rndI n k hk)
  go_enter Tryd.func16, Tryd.ntmps16
  go_wp2
  all_goals go_ret
  all_goals refine ⟨ret_int ?_, 0, rfl⟩
  · have := (hr.out.1 (by assumption)).2
    rw [(hr.out.1 (by assumption)).1]
    (try unfold wrap64); omega
  · rw [(hr.out.2 (by assumption)).1]
theorem mix_anyI (n : Int) (w : World) (h0 : -9223372036854775808 ≤ n) (h1 : n ≤ 9223372036854775807) :
    Calls Tryd.prog 15 #[.int .i64 n, .int .i64 1] w fun e w' => e = .returned (.int .i64 (mixN n)) ∧ ∃ m, w' = w.drewN m := by
  have hb := mixN_bd n
  have hn : ∀ s : Int, 0 ≤ s → s < 18446744073709551616 → wrap64 (s / 2) = s / 2 := fun s h1 h2 => by unfold wrap64; omega
  go_enter Tryd.func15, Tryd.ntmps15
  go_wp2_with (go_at_call 36; refine (next_ref _ _).mono ?_; rintro e w1 ⟨rfl, m1, rfl⟩)
  all_goals go_ret
  all_goals refine ⟨ret_int ?_, _, rfl⟩
  unfold mixN
  have h := mixed_bdI (bits .xor .u64 (IntKind.u64.wrap n) 11400714819323198485)
  generalize mixed (bits .xor .u64 (IntKind.u64.wrap n) 11400714819323198485) = y at *
  exact hn y h.1 h.2
theorem ops_any (w : World) :
    Calls Tryd.prog 14 #[] w fun e w' => e = .returned (.slice (some ⟨w.heap.size, 0, none⟩) 50 50) ∧ w' = w.alloc (Obj.cells (opsL.map (Value.int .i64)).toArray 3) := by
  go_enter Tryd.func14, Tryd.ntmps14
  go_wp2
  go_ret
  exact ⟨rfl, rfl⟩
end Go.Proofs.YtfnfbdjbdbifaaaDoor

namespace Go.Proofs.YtfnfbdjbdbifaaaDoor
set_option linter.unusedVariables false
set_option linter.unusedSimpArgs false
open Go.ChangeShapes Go.WideShapes Go.ChangeAt Go.RowKit Go.Proofs.YtfnfbdjbdbifaaaDoor.Num Go.Proofs.YtfnfbdjbdbifaaaDoor.Isa Go.Proofs.YtfnfbdjbdbifaaaDoor.Mem
theorem results_oneI {fn : Func} {p : Tmp} {ty : TypeId} (h : fn.results = #[.cell p ty]) (tmps : Array Value) (P : Program) (w : World) :
    (results fn tmps).run P w = ((asAddr (tmps.getD p undef)).run P w).andThen fun a w₁ => (loadVar ty a).run P w₁ := by
  simp only [results, h]
  simp [Sem.run_bind, Result.andThen]
/-- The cells of an instruction in a block. -/
structure InB (w : World) (b : Nat) (o a x c m : Int) : Prop where
  c0 : w.cell? ⟨b, 0, none⟩ = some (.int .i64 o)
  c1 : w.cell? ⟨b, 1, none⟩ = some (.int .i64 a)
  c2 : w.cell? ⟨b, 2, none⟩ = some (.int .i64 x)
  c3 : w.cell? ⟨b, 3, none⟩ = some (.int .i64 c)
  c4 : w.cell? ⟨b, 4, none⟩ = some (.int .i32 m)
  z0 : w.frozen? ⟨b, 0, none⟩ = false
  z1 : w.frozen? ⟨b, 1, none⟩ = false
  z2 : w.frozen? ⟨b, 2, none⟩ = false
  z3 : w.frozen? ⟨b, 3, none⟩ = false
  z4 : w.frozen? ⟨b, 4, none⟩ = false
theorem ops_at (j : Nat) (hj : j < 50) : (opsL.map (Value.int .i64)).toArray[j]? = some (.int .i64 (opsL.getD j 0)) := by
  have hlt : j < opsL.length := hj
  rw [List.getElem?_toArray, List.getElem?_map, List.getD_eq_getElem?_getD, List.getElem?_eq_getElem hlt]
  rfl
theorem ops_ex (w : World) :
    Calls Tryd.prog 14 #[] w fun e w' => e = .returned (.slice (some ⟨w.heap.size, 0, none⟩) 50 50) ∧ ∃ C : Array Value, (∀ j : Nat, j < 50 → C[j]? = some (.int .i64 (opsL.getD j 0))) ∧ w' = w.alloc (Obj.cells C 3) :=
  (ops_any w).mono fun _ _ ⟨he, hw⟩ => ⟨he, _, ops_at, hw⟩
theorem op_cls (n : Int) : (1 ≤ mO n ∧ mO n ≤ 13) ∨ (40 ≤ mO n ∧ mO n ≤ 45) ∨ mO n = 48 ∨ mO n = 16 ∨ mO n = 23 ∨ (32 ≤ mO n ∧ mO n ≤ 36) ∨ mO n = 49 ∨ mO n = 24 ∨ (17 ≤ mO n ∧ mO n ≤ 22) ∨ mO n = 58 ∨ mO n = 59 ∨ mO n = 60 ∨ mO n = 61 ∨ (56 ≤ mO n ∧ mO n ≤ 57) ∨ (62 ≤ mO n ∧ mO n ≤ 64) := by
  have h := mO_lay n
  rcases kind (mO n) with k | k | k | k | k | k | k | k | k | k | k <;> obtain ⟨k1, k2, k3, k4, k5⟩ := k <;> omega
set_option maxHeartbeats 4000000 in
theorem inst_any (n : Int) (w : World) (h0 : -9223372036854775808 ≤ n) (h1 : n ≤ 9223372036854775807) :
    Calls Tryd.prog 6 #[.int .i64 n] w fun e w' => e = .returned (.agg #[.int .i64 (mO n), .int .i64 (mA n), .int .i64 (mB n), .int .i64 (mC n), .int .i32 (mM n)]) ∧ Below w.heap.size w w' := by
  have hb := mixN_bd n
  go_enter Tryd.func6, Tryd.ntmps6
  go_wp2_with (first
    | (go_at_call 14; refine (ops_ex _).mono ?_; rintro e w1 ⟨rfl, C, hC, rfl⟩; replace hC := Lib.hid hC)
    | (go_at_call 15; refine (mix_anyI n _ h0 h1).mono ?_; rintro e w2 ⟨rfl, m2, rfl⟩))
  obtain ⟨j, hj⟩ : ∃ j : Nat, mixN n % 50 = (j : Int) := ⟨(mixN n % 50).toNat, by omega⟩
  have hj0 : (j : Int) < 50 := by omega
  have ho : C[j]? = some (.int .i64 (mO n)) := by
    rw [hC.out j (by omega)]; unfold mO; rw [hj]; rfl
  generalize hvv : mixN n = v at *
  replace hvv := Lib.hid hvv
  refine (fun (key : Hid ?T) => ?main) ?kp
  case main =>
    go_region_held3 (fun w' => w'.cell? ⟨w.heap.size + 1, j, none⟩ = some (.int .i64 (mO n))) (go_keep) (first | (go_at_call 16; refine (round_anyI _ _ _ (by decide) (by decide) (by omega) (by omega)).mono ?_; rintro e w3 ⟨rfl, m3, rfl⟩; try simp only [hj]))
    all_goals refine (?_ : ∀ W : World, (InB W (w.heap.size + 1 + 1) (mO n) (v / 256 % 6) (v / 4096 % 6) (v / 65536 % 6) 0 ∧ InB W w.heap.size 0 0 0 0 0 ∧ Below w.heap.size w W) → Exit.then _ _ _ _ W) _ ⟨⟨by simp [go_sem], by simp [go_sem], by simp [go_sem], by simp [go_sem], by simp [go_sem], by simp [go_sem], by simp [go_sem], by simp [go_sem], by simp [go_sem], by simp [go_sem]⟩, ⟨by simp [go_sem], by simp [go_sem], by simp [go_sem], by simp [go_sem], by simp [go_sem], by simp [go_sem], by simp [go_sem], by simp [go_sem], by simp [go_sem], by simp [go_sem]⟩, by repeat' (first | with_reducible exact Below.refl _ _ | with_reducible apply below_drewN | with_reducible apply Below.drew | with_reducible apply Below.setCell | with_reducible apply Below.alloc | (simp; done) | (simp; omega))⟩
    all_goals exact key.out
  case kp =>
    show ∀ W : World, _
    intro W ⟨⟨c0, c1, c2, c3, c4, z0, z1, z2, z3, z4⟩, ⟨r0, r1, r2, r3, r4, y0, y1, y2, y3, y4⟩, bel⟩
    have hcls := op_cls n
    obtain ⟨o, hO⟩ : ∃ o, Hid (mO n = o) := ⟨_, rfl⟩
    rw [hO.out] at c0 hcls
    clear ho hj hj0
    rcases hcls with hc | hc | hc | hc | hc | hc | hc | hc | hc | hc | hc | hc | hc | hc | hc
    · have t1 : o ≤ 13 := by omega
      have t2 : o < 40 := by omega
      have t3 : o ≤ 48 := by omega
      have t4 : o < 32 := by omega
      have t5 : o ≤ 36 := by omega
      have t6 : o < 17 := by omega
      have t7 : o ≤ 22 := by omega
      have u48 : (o == 48) = false := by rw [beq_eq_false_iff_ne]; omega
      have u16 : (o == 16) = false := by rw [beq_eq_false_iff_ne]; omega
      have u23 : (o == 23) = false := by rw [beq_eq_false_iff_ne]; omega
      have u49 : (o == 49) = false := by rw [beq_eq_false_iff_ne]; omega
      have u24 : (o == 24) = false := by rw [beq_eq_false_iff_ne]; omega
      have u58 : (o == 58) = false := by rw [beq_eq_false_iff_ne]; omega
      have u59 : (o == 59) = false := by rw [beq_eq_false_iff_ne]; omega
      have u60 : (o == 60) = false := by rw [beq_eq_false_iff_ne]; omega
      have u61 : (o == 61) = false := by rw [beq_eq_false_iff_ne]; omega
      go_wp2_with (go_at_call 16; refine (round_anyI _ _ _ (by decide) (by decide) (by omega) (by omega)).mono ?_; rintro e w3 ⟨rfl, m3, rfl⟩)
      have hg : gA o (v / 256 % 6) = v / 256 % 6 ∧ gB o (v / 4096 % 6) = v / 4096 % 6 ∧ gC o (v / 65536 % 6) = v / 65536 % 6 ∧ gM o (v / 1048576 % 24) (v / 1099511627776 % 2) = 0 := made_a o v hb.1 (by omega)
      refine bodyPost_ret (v := .agg #[.int .i64 o, .int .i64 (v / 256 % 6), .int .i64 (v / 4096 % 6), .int .i64 (v / 65536 % 6), .int .i32 (0)]) ?_ rfl ⟨ret_made hO.out hvv.out hg.1 hg.2.1 hg.2.2.1 hg.2.2.2, ?_⟩
      · rw [results_oneI rfl]; go_simp
      · repeat' (first | with_reducible exact bel | with_reducible apply below_drewN | with_reducible apply Below.drew | with_reducible apply Below.setCell | (simp; done) | (simp; omega))
    · have t1 : 13 < o := by omega
      have t2 : 40 ≤ o := by omega
      have t3 : o ≤ 48 := by omega
      have t4 : 32 ≤ o := by omega
      have t5 : 36 < o := by omega
      have t6 : 17 ≤ o := by omega
      have t7 : 22 < o := by omega
      have u48 : (o == 48) = false := by rw [beq_eq_false_iff_ne]; omega
      have u16 : (o == 16) = false := by rw [beq_eq_false_iff_ne]; omega
      have u23 : (o == 23) = false := by rw [beq_eq_false_iff_ne]; omega
      have u49 : (o == 49) = false := by rw [beq_eq_false_iff_ne]; omega
      have u24 : (o == 24) = false := by rw [beq_eq_false_iff_ne]; omega
      have u58 : (o == 58) = false := by rw [beq_eq_false_iff_ne]; omega
      have u59 : (o == 59) = false := by rw [beq_eq_false_iff_ne]; omega
      have u60 : (o == 60) = false := by rw [beq_eq_false_iff_ne]; omega
      have u61 : (o == 61) = false := by rw [beq_eq_false_iff_ne]; omega
      go_wp2_with (go_at_call 16; refine (round_anyI _ _ _ (by decide) (by decide) (by omega) (by omega)).mono ?_; rintro e w3 ⟨rfl, m3, rfl⟩)
      have hg : gA o (v / 256 % 6) = v / 256 % 6 ∧ gB o (v / 4096 % 6) = v / 4096 % 6 ∧ gC o (v / 65536 % 6) = 0 ∧ gM o (v / 1048576 % 24) (v / 1099511627776 % 2) = (v / 1048576 % 24) - 12 := made_b o v hb.1 (by omega)
      refine bodyPost_ret (v := .agg #[.int .i64 o, .int .i64 (v / 256 % 6), .int .i64 (v / 4096 % 6), .int .i64 (0), .int .i32 ((v / 1048576 % 24) - 12)]) ?_ rfl ⟨ret_made hO.out hvv.out hg.1 hg.2.1 hg.2.2.1 hg.2.2.2, ?_⟩
      · rw [results_oneI rfl]; go_simp
      · repeat' (first | with_reducible exact bel | with_reducible apply below_drewN | with_reducible apply Below.drew | with_reducible apply Below.setCell | (simp; done) | (simp; omega))
    · obtain rfl : o = 48 := hc
      go_wp2_with (go_at_call 16; refine (round_anyI _ _ _ (by decide) (by decide) (by omega) (by omega)).mono ?_; rintro e w3 ⟨rfl, m3, rfl⟩)
      have hg : gA 48 (v / 256 % 6) = v / 256 % 6 ∧ gB 48 (v / 4096 % 6) = 0 ∧ gC 48 (v / 65536 % 6) = 0 ∧ gM 48 (v / 1048576 % 24) (v / 1099511627776 % 2) = (v / 1048576 % 24) - 12 := made_c v hb.1
      refine bodyPost_ret (v := .agg #[.int .i64 48, .int .i64 (v / 256 % 6), .int .i64 (0), .int .i64 (0), .int .i32 ((v / 1048576 % 24) - 12)]) ?_ rfl ⟨ret_made hO.out hvv.out hg.1 hg.2.1 hg.2.2.1 hg.2.2.2, ?_⟩
      · rw [results_oneI rfl]; go_simp
      · repeat' (first | with_reducible exact bel | with_reducible apply below_drewN | with_reducible apply Below.drew | with_reducible apply Below.setCell | (simp; done) | (simp; omega))
    · obtain rfl : o = 16 := hc
      go_wp2_with (go_at_call 16; refine (round_anyI _ _ _ (by decide) (by decide) (by omega) (by omega)).mono ?_; rintro e w3 ⟨rfl, m3, rfl⟩)
      have hg : gA 16 (v / 256 % 6) = v / 256 % 6 ∧ gB 16 (v / 4096 % 6) = v / 4096 % 6 ∧ gC 16 (v / 65536 % 6) = 0 ∧ gM 16 (v / 1048576 % 24) (v / 1099511627776 % 2) = 8 * (v / 1048576 % 24) - 32 := made_d v hb.1
      refine bodyPost_ret (v := .agg #[.int .i64 16, .int .i64 (v / 256 % 6), .int .i64 (v / 4096 % 6), .int .i64 (0), .int .i32 (8 * (v / 1048576 % 24) - 32)]) ?_ rfl ⟨ret_made hO.out hvv.out hg.1 hg.2.1 hg.2.2.1 hg.2.2.2, ?_⟩
      · rw [results_oneI rfl]; go_simp
      · repeat' (first | with_reducible exact bel | with_reducible apply below_drewN | with_reducible apply Below.drew | with_reducible apply Below.setCell | (simp; done) | (simp; omega))
    · obtain rfl : o = 23 := hc
      go_wp2_with (go_at_call 16; refine (round_anyI _ _ _ (by decide) (by decide) (by omega) (by omega)).mono ?_; rintro e w3 ⟨rfl, m3, rfl⟩)
      have hg : gA 23 (v / 256 % 6) = v / 256 % 6 ∧ gB 23 (v / 4096 % 6) = v / 4096 % 6 ∧ gC 23 (v / 65536 % 6) = 0 ∧ gM 23 (v / 1048576 % 24) (v / 1099511627776 % 2) = 8 * (v / 1048576 % 24) - 32 := made_e v hb.1
      refine bodyPost_ret (v := .agg #[.int .i64 23, .int .i64 (v / 256 % 6), .int .i64 (v / 4096 % 6), .int .i64 (0), .int .i32 (8 * (v / 1048576 % 24) - 32)]) ?_ rfl ⟨ret_made hO.out hvv.out hg.1 hg.2.1 hg.2.2.1 hg.2.2.2, ?_⟩
      · rw [results_oneI rfl]; go_simp
      · repeat' (first | with_reducible exact bel | with_reducible apply below_drewN | with_reducible apply Below.drew | with_reducible apply Below.setCell | (simp; done) | (simp; omega))
    · have t1 : 13 < o := by omega
      have t2 : o < 40 := by omega
      have t3 : o ≤ 48 := by omega
      have t4 : 32 ≤ o := by omega
      have t5 : o ≤ 36 := by omega
      have t6 : 17 ≤ o := by omega
      have t7 : 22 < o := by omega
      have u48 : (o == 48) = false := by rw [beq_eq_false_iff_ne]; omega
      have u16 : (o == 16) = false := by rw [beq_eq_false_iff_ne]; omega
      have u23 : (o == 23) = false := by rw [beq_eq_false_iff_ne]; omega
      have u49 : (o == 49) = false := by rw [beq_eq_false_iff_ne]; omega
      have u24 : (o == 24) = false := by rw [beq_eq_false_iff_ne]; omega
      have u58 : (o == 58) = false := by rw [beq_eq_false_iff_ne]; omega
      have u59 : (o == 59) = false := by rw [beq_eq_false_iff_ne]; omega
      have u60 : (o == 60) = false := by rw [beq_eq_false_iff_ne]; omega
      have u61 : (o == 61) = false := by rw [beq_eq_false_iff_ne]; omega
      go_wp2_with (go_at_call 16; refine (round_anyI _ _ _ (by decide) (by decide) (by omega) (by omega)).mono ?_; rintro e w3 ⟨rfl, m3, rfl⟩)
      have hg : gA o (v / 256 % 6) = v / 256 % 6 ∧ gB o (v / 4096 % 6) = v / 4096 % 6 ∧ gC o (v / 65536 % 6) = 0 ∧ gM o (v / 1048576 % 24) (v / 1099511627776 % 2) = 8 * (v / 1048576 % 24) - 32 := made_f o v hb.1 (by omega)
      refine bodyPost_ret (v := .agg #[.int .i64 o, .int .i64 (v / 256 % 6), .int .i64 (v / 4096 % 6), .int .i64 (0), .int .i32 (8 * (v / 1048576 % 24) - 32)]) ?_ rfl ⟨ret_made hO.out hvv.out hg.1 hg.2.1 hg.2.2.1 hg.2.2.2, ?_⟩
      · rw [results_oneI rfl]; go_simp
      · repeat' (first | with_reducible exact bel | with_reducible apply below_drewN | with_reducible apply Below.drew | with_reducible apply Below.setCell | (simp; done) | (simp; omega))
    · obtain rfl : o = 49 := hc
      go_wp2_with (go_at_call 16; refine (round_anyI _ _ _ (by decide) (by decide) (by omega) (by omega)).mono ?_; rintro e w3 ⟨rfl, m3, rfl⟩)
      have hg : gA 49 (v / 256 % 6) = v / 256 % 6 ∧ gB 49 (v / 4096 % 6) = v / 4096 % 6 ∧ gC 49 (v / 65536 % 6) = 0 ∧ gM 49 (v / 1048576 % 24) (v / 1099511627776 % 2) = 8 * (v / 1048576 % 24) - 32 := made_g v hb.1
      refine bodyPost_ret (v := .agg #[.int .i64 49, .int .i64 (v / 256 % 6), .int .i64 (v / 4096 % 6), .int .i64 (0), .int .i32 (8 * (v / 1048576 % 24) - 32)]) ?_ rfl ⟨ret_made hO.out hvv.out hg.1 hg.2.1 hg.2.2.1 hg.2.2.2, ?_⟩
      · rw [results_oneI rfl]; go_simp
      · repeat' (first | with_reducible exact bel | with_reducible apply below_drewN | with_reducible apply Below.drew | with_reducible apply Below.setCell | (simp; done) | (simp; omega))
    · obtain rfl : o = 24 := hc
      go_wp2_with (go_at_call 16; refine (round_anyI _ _ _ (by decide) (by decide) (by omega) (by omega)).mono ?_; rintro e w3 ⟨rfl, m3, rfl⟩)
      have hg : gA 24 (v / 256 % 6) = v / 256 % 6 ∧ gB 24 (v / 4096 % 6) = 0 ∧ gC 24 (v / 65536 % 6) = 0 ∧ gM 24 (v / 1048576 % 24) (v / 1099511627776 % 2) = wrap32 (wrap64 (v / 1048576 % 24 * bits BinOp.and IntKind.i64 (v / 1099511627776) 1)) := made_h v hb.1 hb.2
      refine bodyPost_ret (v := .agg #[.int .i64 24, .int .i64 (v / 256 % 6), .int .i64 (0), .int .i64 (0), .int .i32 (wrap32 (wrap64 (v / 1048576 % 24 * bits BinOp.and IntKind.i64 (v / 1099511627776) 1)))]) ?_ rfl ⟨ret_made hO.out hvv.out hg.1 hg.2.1 hg.2.2.1 hg.2.2.2, ?_⟩
      · rw [results_oneI rfl]; go_simp
      · repeat' (first | with_reducible exact bel | with_reducible apply below_drewN | with_reducible apply Below.drew | with_reducible apply Below.setCell | (simp; done) | (simp; omega))
    · have t1 : 13 < o := by omega
      have t2 : o < 40 := by omega
      have t3 : o ≤ 48 := by omega
      have t4 : o < 32 := by omega
      have t5 : o ≤ 36 := by omega
      have t6 : 17 ≤ o := by omega
      have t7 : o ≤ 22 := by omega
      have u48 : (o == 48) = false := by rw [beq_eq_false_iff_ne]; omega
      have u16 : (o == 16) = false := by rw [beq_eq_false_iff_ne]; omega
      have u23 : (o == 23) = false := by rw [beq_eq_false_iff_ne]; omega
      have u49 : (o == 49) = false := by rw [beq_eq_false_iff_ne]; omega
      have u24 : (o == 24) = false := by rw [beq_eq_false_iff_ne]; omega
      have u58 : (o == 58) = false := by rw [beq_eq_false_iff_ne]; omega
      have u59 : (o == 59) = false := by rw [beq_eq_false_iff_ne]; omega
      have u60 : (o == 60) = false := by rw [beq_eq_false_iff_ne]; omega
      have u61 : (o == 61) = false := by rw [beq_eq_false_iff_ne]; omega
      go_wp2_with (go_at_call 16; refine (round_anyI _ _ _ (by decide) (by decide) (by omega) (by omega)).mono ?_; rintro e w3 ⟨rfl, m3, rfl⟩)
      have hg : gA o (v / 256 % 6) = v / 256 % 6 ∧ gB o (v / 4096 % 6) = v / 4096 % 6 ∧ gC o (v / 65536 % 6) = 0 ∧ gM o (v / 1048576 % 24) (v / 1099511627776 % 2) = (v / 1048576 % 24) := made_i o v hb.1 (by omega)
      refine bodyPost_ret (v := .agg #[.int .i64 o, .int .i64 (v / 256 % 6), .int .i64 (v / 4096 % 6), .int .i64 (0), .int .i32 ((v / 1048576 % 24))]) ?_ rfl ⟨ret_made hO.out hvv.out hg.1 hg.2.1 hg.2.2.1 hg.2.2.2, ?_⟩
      · rw [results_oneI rfl]; go_simp
      · repeat' (first | with_reducible exact bel | with_reducible apply below_drewN | with_reducible apply Below.drew | with_reducible apply Below.setCell | (simp; done) | (simp; omega))
    · obtain rfl : o = 58 := hc
      go_wp2_with (go_at_call 16; refine (round_anyI _ _ _ (by decide) (by decide) (by omega) (by omega)).mono ?_; rintro e w3 ⟨rfl, m3, rfl⟩)
      have hg : gA 58 (v / 256 % 6) = v / 256 % 6 ∧ gB 58 (v / 4096 % 6) = 0 ∧ gC 58 (v / 65536 % 6) = 0 ∧ gM 58 (v / 1048576 % 24) (v / 1099511627776 % 2) = v / 1048576 % 8 := made_j v hb.1
      refine bodyPost_ret (v := .agg #[.int .i64 58, .int .i64 (v / 256 % 6), .int .i64 (0), .int .i64 (0), .int .i32 (v / 1048576 % 8)]) ?_ rfl ⟨ret_made hO.out hvv.out hg.1 hg.2.1 hg.2.2.1 hg.2.2.2, ?_⟩
      · rw [results_oneI rfl]; go_simp
      · repeat' (first | with_reducible exact bel | with_reducible apply below_drewN | with_reducible apply Below.drew | with_reducible apply Below.setCell | (simp; done) | (simp; omega))
    · obtain rfl : o = 59 := hc
      go_wp2_with (go_at_call 16; refine (round_anyI _ _ _ (by decide) (by decide) (by omega) (by omega)).mono ?_; rintro e w3 ⟨rfl, m3, rfl⟩)
      have hg : gA 59 (v / 256 % 6) = v / 256 % 6 ∧ gB 59 (v / 4096 % 6) = 0 ∧ gC 59 (v / 65536 % 6) = 0 ∧ gM 59 (v / 1048576 % 24) (v / 1099511627776 % 2) = v / 1048576 % 8 := made_k v hb.1
      refine bodyPost_ret (v := .agg #[.int .i64 59, .int .i64 (v / 256 % 6), .int .i64 (0), .int .i64 (0), .int .i32 (v / 1048576 % 8)]) ?_ rfl ⟨ret_made hO.out hvv.out hg.1 hg.2.1 hg.2.2.1 hg.2.2.2, ?_⟩
      · rw [results_oneI rfl]; go_simp
      · repeat' (first | with_reducible exact bel | with_reducible apply below_drewN | with_reducible apply Below.drew | with_reducible apply Below.setCell | (simp; done) | (simp; omega))
    · obtain rfl : o = 60 := hc
      go_wp2_with (go_at_call 16; refine (round_anyI _ _ _ (by decide) (by decide) (by omega) (by omega)).mono ?_; rintro e w3 ⟨rfl, m3, rfl⟩)
      have hg : gA 60 (v / 256 % 6) = v / 256 % 6 ∧ gB 60 (v / 4096 % 6) = 0 ∧ gC 60 (v / 65536 % 6) = 0 ∧ gM 60 (v / 1048576 % 24) (v / 1099511627776 % 2) = v / 1048576 % 12 := made_l v hb.1
      refine bodyPost_ret (v := .agg #[.int .i64 60, .int .i64 (v / 256 % 6), .int .i64 (0), .int .i64 (0), .int .i32 (v / 1048576 % 12)]) ?_ rfl ⟨ret_made hO.out hvv.out hg.1 hg.2.1 hg.2.2.1 hg.2.2.2, ?_⟩
      · rw [results_oneI rfl]; go_simp
      · repeat' (first | with_reducible exact bel | with_reducible apply below_drewN | with_reducible apply Below.drew | with_reducible apply Below.setCell | (simp; done) | (simp; omega))
    · obtain rfl : o = 61 := hc
      go_wp2_with (go_at_call 16; refine (round_anyI _ _ _ (by decide) (by decide) (by omega) (by omega)).mono ?_; rintro e w3 ⟨rfl, m3, rfl⟩)
      have hg : gA 61 (v / 256 % 6) = v / 256 % 6 ∧ gB 61 (v / 4096 % 6) = 0 ∧ gC 61 (v / 65536 % 6) = 0 ∧ gM 61 (v / 1048576 % 24) (v / 1099511627776 % 2) = v / 1048576 % 12 := made_m v hb.1
      refine bodyPost_ret (v := .agg #[.int .i64 61, .int .i64 (v / 256 % 6), .int .i64 (0), .int .i64 (0), .int .i32 (v / 1048576 % 12)]) ?_ rfl ⟨ret_made hO.out hvv.out hg.1 hg.2.1 hg.2.2.1 hg.2.2.2, ?_⟩
      · rw [results_oneI rfl]; go_simp
      · repeat' (first | with_reducible exact bel | with_reducible apply below_drewN | with_reducible apply Below.drew | with_reducible apply Below.setCell | (simp; done) | (simp; omega))
    · have t1 : 13 < o := by omega
      have t2 : 40 ≤ o := by omega
      have t3 : 48 < o := by omega
      have t4 : 32 ≤ o := by omega
      have t5 : 36 < o := by omega
      have t6 : 17 ≤ o := by omega
      have t7 : 22 < o := by omega
      have u48 : (o == 48) = false := by rw [beq_eq_false_iff_ne]; omega
      have u16 : (o == 16) = false := by rw [beq_eq_false_iff_ne]; omega
      have u23 : (o == 23) = false := by rw [beq_eq_false_iff_ne]; omega
      have u49 : (o == 49) = false := by rw [beq_eq_false_iff_ne]; omega
      have u24 : (o == 24) = false := by rw [beq_eq_false_iff_ne]; omega
      have u58 : (o == 58) = false := by rw [beq_eq_false_iff_ne]; omega
      have u59 : (o == 59) = false := by rw [beq_eq_false_iff_ne]; omega
      have u60 : (o == 60) = false := by rw [beq_eq_false_iff_ne]; omega
      have u61 : (o == 61) = false := by rw [beq_eq_false_iff_ne]; omega
      go_wp2_with (go_at_call 16; refine (round_anyI _ _ _ (by decide) (by decide) (by omega) (by omega)).mono ?_; rintro e w3 ⟨rfl, m3, rfl⟩)
      have hg : gA o (v / 256 % 6) = 0 ∧ gB o (v / 4096 % 6) = 0 ∧ gC o (v / 65536 % 6) = 0 ∧ gM o (v / 1048576 % 24) (v / 1099511627776 % 2) = 0 := made_n o v hb.1 (by omega)
      refine bodyPost_ret (v := .agg #[.int .i64 o, .int .i64 (0), .int .i64 (0), .int .i64 (0), .int .i32 (0)]) ?_ rfl ⟨ret_made hO.out hvv.out hg.1 hg.2.1 hg.2.2.1 hg.2.2.2, ?_⟩
      · rw [results_oneI rfl]; go_simp
      · repeat' (first | with_reducible exact bel | with_reducible apply below_drewN | with_reducible apply Below.drew | with_reducible apply Below.setCell | (simp; done) | (simp; omega))
    · have t1 : 13 < o := by omega
      have t2 : 40 ≤ o := by omega
      have t3 : 48 < o := by omega
      have t4 : 32 ≤ o := by omega
      have t5 : 36 < o := by omega
      have t6 : 17 ≤ o := by omega
      have t7 : 22 < o := by omega
      have u48 : (o == 48) = false := by rw [beq_eq_false_iff_ne]; omega
      have u16 : (o == 16) = false := by rw [beq_eq_false_iff_ne]; omega
      have u23 : (o == 23) = false := by rw [beq_eq_false_iff_ne]; omega
      have u49 : (o == 49) = false := by rw [beq_eq_false_iff_ne]; omega
      have u24 : (o == 24) = false := by rw [beq_eq_false_iff_ne]; omega
      have u58 : (o == 58) = false := by rw [beq_eq_false_iff_ne]; omega
      have u59 : (o == 59) = false := by rw [beq_eq_false_iff_ne]; omega
      have u60 : (o == 60) = false := by rw [beq_eq_false_iff_ne]; omega
      have u61 : (o == 61) = false := by rw [beq_eq_false_iff_ne]; omega
      go_wp2_with (go_at_call 16; refine (round_anyI _ _ _ (by decide) (by decide) (by omega) (by omega)).mono ?_; rintro e w3 ⟨rfl, m3, rfl⟩)
      have hg : gA o (v / 256 % 6) = 0 ∧ gB o (v / 4096 % 6) = 0 ∧ gC o (v / 65536 % 6) = 0 ∧ gM o (v / 1048576 % 24) (v / 1099511627776 % 2) = 0 := made_o o v hb.1 (by omega)
      refine bodyPost_ret (v := .agg #[.int .i64 o, .int .i64 (0), .int .i64 (0), .int .i64 (0), .int .i32 (0)]) ?_ rfl ⟨ret_made hO.out hvv.out hg.1 hg.2.1 hg.2.2.1 hg.2.2.2, ?_⟩
      · rw [results_oneI rfl]; go_simp
      · repeat' (first | with_reducible exact bel | with_reducible apply below_drewN | with_reducible apply Below.drew | with_reducible apply Below.setCell | (simp; done) | (simp; omega))
end Go.Proofs.YtfnfbdjbdbifaaaDoor
