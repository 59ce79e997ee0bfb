import Derived.Test.YtkpboooifkhijaaDoorIsaMk
import Derived.Laws.BitsAllLaws
import Derived.Lib.EndianBits
namespace Go.Proofs.YtkpboooifkhijaaDoor.Isa
set_option linter.unusedVariables false
set_option linter.unusedSimpArgs false
open Go Go.RowKit Go.Proofs.YtkpboooifkhijaaDoor.Num
theorem and_bit (n : Int) : bits BinOp.and IntKind.i64 n 1 = n % 2 := by
  have h1 : (BitVec.ofInt 64 1).toNat = 2 ^ 1 - 1 := by decide
  have key : (BitVec.ofInt 64 n &&& BitVec.ofInt 64 1).toNat = (n % ((2 ^ 64 : Nat) : Int)).toNat % 2 ^ 1 := by
    rw [BitVec.toNat_and, BitVec.toNat_ofInt, h1, Nat.and_two_pow_sub_one_eq_mod]
  show IntKind.i64.wrap ((BitVec.ofInt 64 n &&& BitVec.ofInt 64 1).toNat : Nat) = n % 2
  rw [key, IntKind.wrap_i64]
  omega
theorem ret_made {n o v A B C M : Int} (hO : mO n = o) (hv : mixN n = v) (eA : gA o (v / 256 % 6) = A) (eB : gB o (v / 4096 % 6) = B) (eC : gC o (v / 65536 % 6) = C) (eM : gM o (v / 1048576 % 24) (v / 1099511627776 % 2) = M) :
    Ending.returned (.agg #[.int .i64 o, .int .i64 A, .int .i64 B, .int .i64 C, .int .i32 M]) = .returned (.agg #[.int .i64 (mO n), .int .i64 (mA n), .int .i64 (mB n), .int .i64 (mC n), .int .i32 (mM n)]) := by
  unfold mA mB mC mM
  rw [hO, hv, eA, eB, eC, eM]
theorem made_a (o : Int) (v : Int) (h0 : 0 ≤ v) (h : 1 ≤ o ∧ o ≤ 13) : gA o (v / 256 % 6) = v / 256 % 6 ∧ gB o (v / 4096 % 6) = v / 4096 % 6 ∧ gC o (v / 65536 % 6) = v / 65536 % 6 ∧ gM o (v / 1048576 % 24) (v / 1099511627776 % 2) = 0 := by
  have hl : lay (o) = 1 ∧ frm (o) = 2 := by rcases kind o with k | k | k | k | k | k | k | k | k | k | k <;> obtain ⟨k1, k2, k3, k4, k5⟩ := k <;> omega
  have hr : ¬ ((40 ≤ (o : Int) ∧ (o : Int) ≤ 45) ∨ (o : Int) = 48) := by omega
  refine ⟨by simp [gA, hl.1], by simp [gB, hl.1], by simp [gC, hl.1], ?_⟩
  unfold gM; rw [if_pos (by omega)]
theorem made_b (o : Int) (v : Int) (h0 : 0 ≤ v) (h : 40 ≤ o ∧ o ≤ 45) : gA o (v / 256 % 6) = v / 256 % 6 ∧ gB o (v / 4096 % 6) = v / 4096 % 6 ∧ gC o (v / 65536 % 6) = 0 ∧ gM o (v / 1048576 % 24) (v / 1099511627776 % 2) = (v / 1048576 % 24) - 12 := by
  have hl : lay (o) = 2 ∧ frm (o) = 3 := by rcases kind o with k | k | k | k | k | k | k | k | k | k | k <;> obtain ⟨k1, k2, k3, k4, k5⟩ := k <;> omega
  have hr : ((40 ≤ (o : Int) ∧ (o : Int) ≤ 45) ∨ (o : Int) = 48) := by omega
  refine ⟨by simp [gA, hl.1], by simp [gB, hl.1], by simp [gC, hl.1], ?_⟩
  unfold gM; rw [if_neg (by omega), if_pos hr]
theorem made_c (v : Int) (h0 : 0 ≤ v) : gA 48 (v / 256 % 6) = v / 256 % 6 ∧ gB 48 (v / 4096 % 6) = 0 ∧ gC 48 (v / 65536 % 6) = 0 ∧ gM 48 (v / 1048576 % 24) (v / 1099511627776 % 2) = (v / 1048576 % 24) - 12 := by
  have hl : lay (48) = 4 ∧ frm (48) = 7 := by decide +kernel
  have hr : ((40 ≤ (48 : Int) ∧ (48 : Int) ≤ 45) ∨ (48 : Int) = 48) := by omega
  refine ⟨by simp [gA, hl.1], by simp [gB, hl.1], by simp [gC, hl.1], ?_⟩
  unfold gM; rw [if_neg (by omega), if_pos hr]
theorem made_d (v : Int) (h0 : 0 ≤ v) : gA 16 (v / 256 % 6) = v / 256 % 6 ∧ gB 16 (v / 4096 % 6) = v / 4096 % 6 ∧ gC 16 (v / 65536 % 6) = 0 ∧ gM 16 (v / 1048576 % 24) (v / 1099511627776 % 2) = 8 * (v / 1048576 % 24) - 32 := by
  have hl : lay (16) = 2 ∧ frm (16) = 3 := by decide +kernel
  have hr : ¬ ((40 ≤ (16 : Int) ∧ (16 : Int) ≤ 45) ∨ (16 : Int) = 48) := by omega
  refine ⟨by simp [gA, hl.1], by simp [gB, hl.1], by simp [gC, hl.1], ?_⟩
  unfold gM; rw [if_neg (by omega), if_neg hr, if_pos hl.2]
theorem made_e (v : Int) (h0 : 0 ≤ v) : gA 23 (v / 256 % 6) = v / 256 % 6 ∧ gB 23 (v / 4096 % 6) = v / 4096 % 6 ∧ gC 23 (v / 65536 % 6) = 0 ∧ gM 23 (v / 1048576 % 24) (v / 1099511627776 % 2) = 8 * (v / 1048576 % 24) - 32 := by
  have hl : lay (23) = 2 ∧ frm (23) = 3 := by decide +kernel
  have hr : ¬ ((40 ≤ (23 : Int) ∧ (23 : Int) ≤ 45) ∨ (23 : Int) = 48) := by omega
  refine ⟨by simp [gA, hl.1], by simp [gB, hl.1], by simp [gC, hl.1], ?_⟩
  unfold gM; rw [if_neg (by omega), if_neg hr, if_pos hl.2]
theorem made_f (o : Int) (v : Int) (h0 : 0 ≤ v) (h : 32 ≤ o ∧ o ≤ 36) : gA o (v / 256 % 6) = v / 256 % 6 ∧ gB o (v / 4096 % 6) = v / 4096 % 6 ∧ gC o (v / 65536 % 6) = 0 ∧ gM o (v / 1048576 % 24) (v / 1099511627776 % 2) = 8 * (v / 1048576 % 24) - 32 := by
  have hl : lay (o) = 3 ∧ frm (o) = 3 := by rcases kind o with k | k | k | k | k | k | k | k | k | k | k <;> obtain ⟨k1, k2, k3, k4, k5⟩ := k <;> omega
  have hr : ¬ ((40 ≤ (o : Int) ∧ (o : Int) ≤ 45) ∨ (o : Int) = 48) := by omega
  refine ⟨by simp [gA, hl.1], by simp [gB, hl.1], by simp [gC, hl.1], ?_⟩
  unfold gM; rw [if_neg (by omega), if_neg hr, if_pos hl.2]
theorem made_g (v : Int) (h0 : 0 ≤ v) : gA 49 (v / 256 % 6) = v / 256 % 6 ∧ gB 49 (v / 4096 % 6) = v / 4096 % 6 ∧ gC 49 (v / 65536 % 6) = 0 ∧ gM 49 (v / 1048576 % 24) (v / 1099511627776 % 2) = 8 * (v / 1048576 % 24) - 32 := by
  have hl : lay (49) = 2 ∧ frm (49) = 3 := by decide +kernel
  have hr : ¬ ((40 ≤ (49 : Int) ∧ (49 : Int) ≤ 45) ∨ (49 : Int) = 48) := by omega
  refine ⟨by simp [gA, hl.1], by simp [gB, hl.1], by simp [gC, hl.1], ?_⟩
  unfold gM; rw [if_neg (by omega), if_neg hr, if_pos hl.2]
theorem made_h (v : Int) (h0 : 0 ≤ v) (h1 : v ≤ 9223372036854775807) : gA 24 (v / 256 % 6) = v / 256 % 6 ∧ gB 24 (v / 4096 % 6) = 0 ∧ gC 24 (v / 65536 % 6) = 0 ∧ gM 24 (v / 1048576 % 24) (v / 1099511627776 % 2) = wrap32 (wrap64 (v / 1048576 % 24 * bits BinOp.and IntKind.i64 (v / 1099511627776) 1)) := by
  have hl : lay (24) = 4 ∧ frm (24) = 6 := by decide +kernel
  have hr : ¬ ((40 ≤ (24 : Int) ∧ (24 : Int) ≤ 45) ∨ (24 : Int) = 48) := by omega
  refine ⟨by simp [gA, hl.1], by simp [gB, hl.1], by simp [gC, hl.1], ?_⟩
  have e : bits BinOp.and IntKind.i64 (v / 1099511627776) 1 = v / 1099511627776 % 2 := and_bit _
  have e2 : v / 1099511627776 % 2 = 0 ∨ v / 1099511627776 % 2 = 1 := by omega
  rw [e]
  unfold gM
  rw [if_neg (by omega), if_neg hr, if_neg (by omega), if_pos hl.2]
  rcases e2 with e2 | e2 <;> (rw [e2]; unfold wrap32 wrap64; omega)
theorem made_i (o : Int) (v : Int) (h0 : 0 ≤ v) (h : 17 ≤ o ∧ o ≤ 22) : gA o (v / 256 % 6) = v / 256 % 6 ∧ gB o (v / 4096 % 6) = v / 4096 % 6 ∧ gC o (v / 65536 % 6) = 0 ∧ gM o (v / 1048576 % 24) (v / 1099511627776 % 2) = (v / 1048576 % 24) := by
  have hl : lay o = 2 ∧ (frm o = 4 ∨ frm o = 5) := by rcases kind o with k | k | k | k | k | k | k | k | k | k | k <;> obtain ⟨k1, k2, k3, k4, k5⟩ := k <;> omega
  have hr : ¬ ((40 ≤ o ∧ o ≤ 45) ∨ o = 48) := by omega
  refine ⟨by simp [gA, hl.1], by simp [gB, hl.1], by simp [gC, hl.1], ?_⟩
  rcases hl.2 with hf | hf <;> simp [gM, hl.1, hf, hr]
theorem made_j (v : Int) (h0 : 0 ≤ v) : gA 58 (v / 256 % 6) = v / 256 % 6 ∧ gB 58 (v / 4096 % 6) = 0 ∧ gC 58 (v / 65536 % 6) = 0 ∧ gM 58 (v / 1048576 % 24) (v / 1099511627776 % 2) = v / 1048576 % 8 := by
  have hl : lay (58) = 4 ∧ frm (58) = 8 := by decide +kernel
  have hr : ¬ ((40 ≤ (58 : Int) ∧ (58 : Int) ≤ 45) ∨ (58 : Int) = 48) := by omega
  refine ⟨by simp [gA, hl.1], by simp [gB, hl.1], by simp [gC, hl.1], ?_⟩
  simp [gM, hl.1, hl.2]
theorem made_k (v : Int) (h0 : 0 ≤ v) : gA 59 (v / 256 % 6) = v / 256 % 6 ∧ gB 59 (v / 4096 % 6) = 0 ∧ gC 59 (v / 65536 % 6) = 0 ∧ gM 59 (v / 1048576 % 24) (v / 1099511627776 % 2) = v / 1048576 % 8 := by
  have hl : lay (59) = 4 ∧ frm (59) = 8 := by decide +kernel
  have hr : ¬ ((40 ≤ (59 : Int) ∧ (59 : Int) ≤ 45) ∨ (59 : Int) = 48) := by omega
  refine ⟨by simp [gA, hl.1], by simp [gB, hl.1], by simp [gC, hl.1], ?_⟩
  simp [gM, hl.1, hl.2]
theorem made_l (v : Int) (h0 : 0 ≤ v) : gA 60 (v / 256 % 6) = v / 256 % 6 ∧ gB 60 (v / 4096 % 6) = 0 ∧ gC 60 (v / 65536 % 6) = 0 ∧ gM 60 (v / 1048576 % 24) (v / 1099511627776 % 2) = v / 1048576 % 12 := by
  have hl : lay (60) = 4 ∧ frm (60) = 9 := by decide +kernel
  have hr : ¬ ((40 ≤ (60 : Int) ∧ (60 : Int) ≤ 45) ∨ (60 : Int) = 48) := by omega
  refine ⟨by simp [gA, hl.1], by simp [gB, hl.1], by simp [gC, hl.1], ?_⟩
  simp [gM, hl.1, hl.2]
theorem made_m (v : Int) (h0 : 0 ≤ v) : gA 61 (v / 256 % 6) = v / 256 % 6 ∧ gB 61 (v / 4096 % 6) = 0 ∧ gC 61 (v / 65536 % 6) = 0 ∧ gM 61 (v / 1048576 % 24) (v / 1099511627776 % 2) = v / 1048576 % 12 := by
  have hl : lay (61) = 4 ∧ frm (61) = 9 := by decide +kernel
  have hr : ¬ ((40 ≤ (61 : Int) ∧ (61 : Int) ≤ 45) ∨ (61 : Int) = 48) := by omega
  refine ⟨by simp [gA, hl.1], by simp [gB, hl.1], by simp [gC, hl.1], ?_⟩
  simp [gM, hl.1, hl.2]
theorem made_n (o : Int) (v : Int) (h0 : 0 ≤ v) (h : 56 ≤ o ∧ o ≤ 57) : gA o (v / 256 % 6) = 0 ∧ gB o (v / 4096 % 6) = 0 ∧ gC o (v / 65536 % 6) = 0 ∧ gM o (v / 1048576 % 24) (v / 1099511627776 % 2) = 0 := by
  have hl : lay (o) = 5 ∧ frm (o) = 1 := by rcases kind o with k | k | k | k | k | k | k | k | k | k | k <;> obtain ⟨k1, k2, k3, k4, k5⟩ := k <;> omega
  have hr : ¬ ((40 ≤ (o : Int) ∧ (o : Int) ≤ 45) ∨ (o : Int) = 48) := by omega
  refine ⟨by simp [gA, hl.1], by simp [gB, hl.1], by simp [gC, hl.1], ?_⟩
  unfold gM; rw [if_pos (by omega)]
theorem made_o (o : Int) (v : Int) (h0 : 0 ≤ v) (h : 62 ≤ o ∧ o ≤ 64) : gA o (v / 256 % 6) = 0 ∧ gB o (v / 4096 % 6) = 0 ∧ gC o (v / 65536 % 6) = 0 ∧ gM o (v / 1048576 % 24) (v / 1099511627776 % 2) = 0 := by
  have hl : lay (o) = 5 ∧ frm (o) = 1 := by rcases kind o with k | k | k | k | k | k | k | k | k | k | k <;> obtain ⟨k1, k2, k3, k4, k5⟩ := k <;> omega
  have hr : ¬ ((40 ≤ (o : Int) ∧ (o : Int) ≤ 45) ∨ (o : Int) = 48) := by omega
  refine ⟨by simp [gA, hl.1], by simp [gB, hl.1], by simp [gC, hl.1], ?_⟩
  unfold gM; rw [if_pos (by omega)]
end Go.Proofs.YtkpboooifkhijaaDoor.Isa
