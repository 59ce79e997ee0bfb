import Derived.Test.YtfnfbdjbdbifaaaDoorPgNum
namespace Go.Proofs.YtfnfbdjbdbifaaaDoor
set_option linter.unusedVariables false
set_option linter.unusedSimpArgs false
open Go.RowKit Go.Proofs.YtfnfbdjbdbifaaaDoor.Num
/- Plain mathematics of the processor: arithmetic, status bits, the processor as 25 words. -/
/-- The three-register operation that computes the same. -/
def pln (op : Int) : Int := if op = 16 then 1 else if op = 17 then 3 else if op = 18 then 4 else if op = 19 then 5 else if op = 20 then 6 else if op = 21 then 7 else if op = 22 then 8 else if op = 23 then 12 else op
def aluB (op : Int) : Bool := decide ((1 ≤ op ∧ op ≤ 13) ∨ (16 ≤ op ∧ op ≤ 23))
def aluP (p a b : Int) : Int :=
  if p = 1 then (a + b) % 4294967296 else if p = 2 then (a - b) % 4294967296
  else if p = 3 then bits .and .u32 a b else if p = 4 then bits .or .u32 a b else if p = 5 then bits .xor .u32 a b
  else if p = 6 then a * 2 ^ (b % 32).toNat % 4294967296
  else if p = 7 then a / 2 ^ (b % 32).toNat
  else if p = 8 then wrap32 a / 2 ^ (b % 32).toNat % 4294967296
  else if p = 9 then a * b % 4294967296
  else if p = 10 then sq a b else if p = 11 then sr a b
  else if p = 12 then (if wrap32 a < wrap32 b then 1 else 0)
  else if p = 13 then (if a < b then 1 else 0) else 0
def aluV (op a b : Int) : Int := aluP (pln op) a b
theorem low_and (q r f : Nat) (hr : r < 32) (hf : f < 32) : (32 * q + r) &&& f = r &&& f := by
  apply Nat.eq_of_testBit_eq
  intro i
  rw [Nat.testBit_and, Nat.testBit_and, show 32 * q + r = 2 ^ 5 * q + r from rfl, Nat.testBit_two_pow_mul_add q hr i]
  by_cases h : i < 5
  · simp [h]
  · have : f.testBit i = false := Nat.testBit_lt_two_pow (Nat.lt_of_lt_of_le hf (by
      have := Nat.pow_le_pow_right (n := 2) (by decide) (show 5 ≤ i by omega)
      omega))
    simp [this]
theorem low_or (q r f : Nat) (hr : r < 32) (hf : f < 32) : (32 * q + r) ||| f = 32 * q + (r ||| f) := by
  have hrf : r ||| f < 2 ^ 5 := Nat.or_lt_two_pow hr hf
  apply Nat.eq_of_testBit_eq
  intro i
  rw [Nat.testBit_or, show 32 * q + r = 2 ^ 5 * q + r from rfl, show 32 * q + (r ||| f) = 2 ^ 5 * q + (r ||| f) from rfl, Nat.testBit_two_pow_mul_add q hr i, Nat.testBit_two_pow_mul_add q hrf i]
  by_cases h : i < 5
  · simp [h]
  · have : f.testBit i = false := Nat.testBit_lt_two_pow (Nat.lt_of_lt_of_le hf (by
      have := Nat.pow_le_pow_right (n := 2) (by decide) (show 5 ≤ i by omega)
      omega))
    simp [h, this]
theorem low_not (q r f : Nat) (hr : r < 32) (hf : f < 32) (hq : q < 134217728) : (32 * q + r) &&& (4294967295 - f) = 32 * q + (r &&& (31 - f)) := by
  have hrf : r &&& (31 - f) < 2 ^ 5 := Nat.and_lt_two_pow _ (by omega)
  have e : 4294967295 - f = 2 ^ 5 * (2 ^ 27 - 1) + (31 - f) := by omega
  apply Nat.eq_of_testBit_eq
  intro i
  rw [e, Nat.testBit_and, show 32 * q + r = 2 ^ 5 * q + r from rfl, show 32 * q + (r &&& (31 - f)) = 2 ^ 5 * q + (r &&& (31 - f)) from rfl, Nat.testBit_two_pow_mul_add q hr i, Nat.testBit_two_pow_mul_add q hrf i,
    Nat.testBit_two_pow_mul_add _ (show 31 - f < 2 ^ 5 by omega) i]
  by_cases h : i < 5
  · simp [h]
  · simp only [h, if_false, Nat.testBit_two_pow_sub_one]
    by_cases h' : i - 5 < 27
    · simp [h']
    · have : q.testBit (i - 5) = false := Nat.testBit_lt_two_pow (Nat.lt_of_lt_of_le hq (by
        have := Nat.pow_le_pow_right (n := 2) (by decide) (show 27 ≤ i - 5 by omega)
        omega))
      simp [this]
theorem st_split (s : Int) (h0 : 0 ≤ s) (h1 : s ≤ 4294967295) : ∃ q r : Nat, r < 32 ∧ q < 134217728 ∧ s = ((32 * q + r : Nat) : Int) :=
  ⟨(s / 32).toNat, (s % 32).toNat, by omega, by omega, by omega⟩
theorem sl_and (q r f : Nat) (hr : r < 32) (hf : f < 32) (hq : q < 134217728) : bits .and .u32 ((32 * q + r : Nat) : Int) (f : Int) = ((r &&& f : Nat) : Int) := by
  rw [u32_and_nat _ _ (by omega) (by omega), low_and q r f hr hf]
theorem sl_or (q r f : Nat) (hr : r < 32) (hf : f < 32) (hq : q < 134217728) : bits .or .u32 ((32 * q + r : Nat) : Int) (f : Int) = ((32 * q + (r ||| f) : Nat) : Int) := by
  rw [u32_or_nat _ _ (by omega) (by omega), low_or q r f hr hf]
theorem sl_not (q r f : Nat) (hr : r < 32) (hf : f < 32) (hq : q < 134217728) : bits .andNot .u32 ((32 * q + r : Nat) : Int) (f : Int) = ((32 * q + (r &&& (31 - f)) : Nat) : Int) := by
  rw [u32_andNot_nat _ _ (by omega) (by omega), low_not q r f hr hf hq]
/-- A status with one bit copied to another. -/
def cpB (s f t : Int) : Int := if bits .and .u32 s f = 0 then bits .andNot .u32 s t else bits .or .u32 s t
def cpN (r f t : Nat) : Nat := if r &&& f = 0 then r &&& (31 - t) else r ||| t
theorem cpN_lt (r f t : Nat) (hr : r < 32) (ht : t < 32) : cpN r f t < 32 := by
  unfold cpN; split
  · exact Nat.and_lt_two_pow (n := 5) _ (by omega)
  · exact Nat.or_lt_two_pow (n := 5) hr ht
theorem cpB_low (q r f t : Nat) (hr : r < 32) (hf : f < 32) (ht : t < 32) (hq : q < 134217728) : cpB ((32 * q + r : Nat) : Int) (f : Int) (t : Int) = ((32 * q + cpN r f t : Nat) : Int) := by
  unfold cpB cpN
  rw [sl_and q r f hr hf hq, sl_or q r t hr ht hq, sl_not q r t hr ht hq]
  by_cases h : r &&& f = 0
  · rw [if_pos (by omega), if_pos h]
  · rw [if_neg (by omega), if_neg h]
theorem cpB_bd (s f t : Int) (h0 : 0 ≤ s) (h1 : s ≤ 4294967295) (f0 : 0 ≤ f) (f1 : f < 32) (t0 : 0 ≤ t) (t1 : t < 32) : 0 ≤ cpB s f t ∧ cpB s f t ≤ 4294967295 := by
  obtain ⟨q, r, hr, hq, rfl⟩ := st_split s h0 h1
  obtain ⟨F, rfl⟩ : ∃ F : Nat, f = F := ⟨f.toNat, by omega⟩
  obtain ⟨T, rfl⟩ : ∃ T : Nat, t = T := ⟨t.toNat, by omega⟩
  rw [cpB_low q r F T hr (by omega) (by omega) hq]
  have := cpN_lt r F T hr (by omega)
  omega
/-- The status behind a trap, and behind the return from it, in its low five bits. -/
def trT (r : Nat) : Nat := 1 + (r / 4 % 2) * 4 + (r % 2) * 8 + (r / 2 % 2) * 16
def rtT (r : Nat) : Nat := (r / 8 % 2) + (r / 16 % 2) * 2 + (r / 4 % 2) * 4 + (r / 8 % 2) * 8 + (r / 16 % 2) * 16
def trS (s : Int) : Int := s / 32 * 32 + (trT (s % 32).toNat : Nat)
def rtS (s : Int) : Int := s / 32 * 32 + (rtT (s % 32).toNat : Nat)
theorem trS_low (q r : Nat) (hr : r < 32) : trS ((32 * q + r : Nat) : Int) = ((32 * q + trT r : Nat) : Int) := by
  unfold trS
  rw [show (((32 * q + r : Nat) : Int) % 32).toNat = r by omega]
  omega
theorem rtS_low (q r : Nat) (hr : r < 32) : rtS ((32 * q + r : Nat) : Int) = ((32 * q + rtT r : Nat) : Int) := by
  unfold rtS
  rw [show (((32 * q + r : Nat) : Int) % 32).toNat = r by omega]
  omega
theorem trT_lt : ∀ r : Nat, trT r < 32 := fun r => by unfold trT; omega
theorem rtT_lt : ∀ r : Nat, rtT r < 32 := fun r => by unfold rtT; omega
theorem trS_bd (s : Int) (h0 : 0 ≤ s) (h1 : s ≤ 4294967295) : 0 ≤ trS s ∧ trS s ≤ 4294967295 := by
  obtain ⟨q, r, hr, hq, rfl⟩ := st_split s h0 h1
  rw [trS_low q r hr]
  have := trT_lt r
  omega
theorem rtS_bd (s : Int) (h0 : 0 ≤ s) (h1 : s ≤ 4294967295) : 0 ≤ rtS s ∧ rtS s ≤ 4294967295 := by
  obtain ⟨q, r, hr, hq, rfl⟩ := st_split s h0 h1
  rw [rtS_low q r hr]
  have := rtT_lt r
  omega
theorem tr_fin : ∀ r : Fin 32, (cpN (cpN r.1 1 8) 2 16 ||| 1) &&& 29 = trT r.1 := by decide +kernel
theorem rt_fin : ∀ r : Fin 32, cpN (cpN r.1 8 1) 16 2 = rtT r.1 := by decide +kernel
theorem or_lt32 (r f : Nat) (hr : r < 32) (hf : f < 32) : r ||| f < 32 := Nat.or_lt_two_pow (n := 5) hr hf
theorem and_lt32 (r f : Nat) (hf : f < 32) : r &&& f < 32 := Nat.and_lt_two_pow (n := 5) _ hf
theorem tr_is (s : Int) (h0 : 0 ≤ s) (h1 : s ≤ 4294967295) : bits .andNot .u32 (bits .or .u32 (cpB (cpB s 1 8) 2 16) 1) 2 = trS s := by
  obtain ⟨q, r, hr, hq, rfl⟩ := st_split s h0 h1
  have c1 := cpB_low q r 1 8 hr (by omega) (by omega) hq
  have l1 := cpN_lt r 1 8 hr (by omega)
  have c2 := cpB_low q (cpN r 1 8) 2 16 l1 (by omega) (by omega) hq
  have l2 := cpN_lt (cpN r 1 8) 2 16 l1 (by omega)
  have c3 := sl_or q (cpN (cpN r 1 8) 2 16) 1 l2 (by omega) hq
  have c4 := sl_not q (cpN (cpN r 1 8) 2 16 ||| 1) 2 (or_lt32 _ _ l2 (by omega)) (by omega) hq
  rw [trS_low q r hr, ← tr_fin ⟨r, hr⟩]
  refine Eq.trans ?_ c4
  refine congrArg (fun z => bits .andNot .u32 z 2) ?_
  refine Eq.trans ?_ c3
  refine congrArg (fun z => bits .or .u32 z 1) ?_
  refine Eq.trans ?_ c2
  exact congrArg (fun z => cpB z 2 16) c1
theorem rt_is (s : Int) (h0 : 0 ≤ s) (h1 : s ≤ 4294967295) : cpB (cpB s 8 1) 16 2 = rtS s := by
  obtain ⟨q, r, hr, hq, rfl⟩ := st_split s h0 h1
  have c1 := cpB_low q r 8 1 hr (by omega) (by omega) hq
  have l1 := cpN_lt r 8 1 hr (by omega)
  have c2 := cpB_low q (cpN r 8 1) 16 2 l1 (by omega) (by omega) hq
  rw [rtS_low q r hr, ← rt_fin ⟨r, hr⟩]
  refine Eq.trans ?_ c2
  exact congrArg (fun z => cpB z 16 2) c1
/-- What the reference computes: bits cleared, then set by flags. -/
theorem trf_fin : ∀ r : Fin 32, (((r.1 &&& 7) ||| (if r.1 &&& 1 = 0 then 0 else 8)) ||| (if r.1 &&& 2 = 0 then 0 else 16)) &&& 29 ||| 1 = trT r.1 := by decide +kernel
theorem rtf_fin : ∀ r : Fin 32, (((r.1 &&& 28) ||| (if r.1 &&& 8 = 0 then 0 else 1)) ||| (if r.1 &&& 16 = 0 then 0 else 2)) = rtT r.1 := by decide +kernel
theorem trf_is (s x y : Int) (h0 : 0 ≤ s) (h1 : s ≤ 4294967295) (hx : x = if bits .and .u32 s 1 = 0 then 0 else 8) (hy : y = if bits .and .u32 s 2 = 0 then 0 else 16) :
    bits .or .u32 (bits .andNot .u32 (bits .or .u32 (bits .or .u32 (bits .andNot .u32 s 24) x) y) 2) 1 = trS s := by
  obtain ⟨q, r, hr, hq, rfl⟩ := st_split s h0 h1
  have a1 : bits .and .u32 ((32 * q + r : Nat) : Int) 1 = ((r &&& 1 : Nat) : Int) := sl_and q r 1 hr (by omega) hq
  have a2 : bits .and .u32 ((32 * q + r : Nat) : Int) 2 = ((r &&& 2 : Nat) : Int) := sl_and q r 2 hr (by omega) hq
  obtain ⟨X, hX, hX8⟩ : ∃ X : Nat, x = (X : Int) ∧ X = if r &&& 1 = 0 then 0 else 8 := by
    refine ⟨_, ?_, rfl⟩
    rw [hx]
    by_cases h : r &&& 1 = 0
    · rw [if_pos h, if_pos (a1.trans (by rw [h]; rfl))]; rfl
    · rw [if_neg h, if_neg (fun hh => h (by have := a1.symm.trans hh; omega))]; rfl
  obtain ⟨Y, hY, hY8⟩ : ∃ Y : Nat, y = (Y : Int) ∧ Y = if r &&& 2 = 0 then 0 else 16 := by
    refine ⟨_, ?_, rfl⟩
    rw [hy]
    by_cases h : r &&& 2 = 0
    · rw [if_pos h, if_pos (a2.trans (by rw [h]; rfl))]; rfl
    · rw [if_neg h, if_neg (fun hh => h (by have := a2.symm.trans hh; omega))]; rfl
  have hXl : X < 32 := by rw [hX8]; split <;> omega
  have hYl : Y < 32 := by rw [hY8]; split <;> omega
  subst hX hY
  have c1 := sl_not q r 24 hr (by omega) hq
  have l1 := and_lt32 r (31 - 24) (by omega)
  have c2 := sl_or q (r &&& (31 - 24)) X l1 hXl hq
  have l2 := or_lt32 _ _ l1 hXl
  have c3 := sl_or q ((r &&& (31 - 24)) ||| X) Y l2 hYl hq
  have l3 := or_lt32 _ _ l2 hYl
  have c4 := sl_not q (((r &&& (31 - 24)) ||| X) ||| Y) 2 l3 (by omega) hq
  have l4 := and_lt32 (((r &&& (31 - 24)) ||| X) ||| Y) (31 - 2) (by omega)
  have c5 := sl_or q ((((r &&& (31 - 24)) ||| X) ||| Y) &&& (31 - 2)) 1 l4 (by omega) hq
  rw [trS_low q r hr, ← trf_fin ⟨r, hr⟩]
  simp only [← hX8, ← hY8]
  refine Eq.trans ?_ c5
  refine congrArg (fun z => bits .or .u32 z 1) ?_
  refine Eq.trans ?_ c4
  refine congrArg (fun z => bits .andNot .u32 z 2) ?_
  refine Eq.trans ?_ c3
  refine congrArg (fun z => bits .or .u32 z (Y : Int)) ?_
  refine Eq.trans ?_ c2
  exact congrArg (fun z => bits .or .u32 z (X : Int)) c1
theorem rtf_is (s x y : Int) (h0 : 0 ≤ s) (h1 : s ≤ 4294967295) (hx : x = if bits .and .u32 s 8 = 0 then 0 else 1) (hy : y = if bits .and .u32 s 16 = 0 then 0 else 2) :
    bits .or .u32 (bits .or .u32 (bits .andNot .u32 s 3) x) y = rtS s := by
  obtain ⟨q, r, hr, hq, rfl⟩ := st_split s h0 h1
  have a1 : bits .and .u32 ((32 * q + r : Nat) : Int) 8 = ((r &&& 8 : Nat) : Int) := sl_and q r 8 hr (by omega) hq
  have a2 : bits .and .u32 ((32 * q + r : Nat) : Int) 16 = ((r &&& 16 : Nat) : Int) := sl_and q r 16 hr (by omega) hq
  obtain ⟨X, hX, hX8⟩ : ∃ X : Nat, x = (X : Int) ∧ X = if r &&& 8 = 0 then 0 else 1 := by
    refine ⟨_, ?_, rfl⟩
    rw [hx]
    by_cases h : r &&& 8 = 0
    · rw [if_pos h, if_pos (a1.trans (by rw [h]; rfl))]; rfl
    · rw [if_neg h, if_neg (fun hh => h (by have := a1.symm.trans hh; omega))]; rfl
  obtain ⟨Y, hY, hY8⟩ : ∃ Y : Nat, y = (Y : Int) ∧ Y = if r &&& 16 = 0 then 0 else 2 := by
    refine ⟨_, ?_, rfl⟩
    rw [hy]
    by_cases h : r &&& 16 = 0
    · rw [if_pos h, if_pos (a2.trans (by rw [h]; rfl))]; rfl
    · rw [if_neg h, if_neg (fun hh => h (by have := a2.symm.trans hh; omega))]; rfl
  have hXl : X < 32 := by rw [hX8]; split <;> omega
  have hYl : Y < 32 := by rw [hY8]; split <;> omega
  subst hX hY
  have c1 := sl_not q r 3 hr (by omega) hq
  have l1 := and_lt32 r (31 - 3) (by omega)
  have c2 := sl_or q (r &&& (31 - 3)) X l1 hXl hq
  have l2 := or_lt32 _ _ l1 hXl
  have c3 := sl_or q ((r &&& (31 - 3)) ||| X) Y l2 hYl hq
  rw [rtS_low q r hr, ← rtf_fin ⟨r, hr⟩]
  simp only [← hX8, ← hY8]
  refine Eq.trans ?_ c3
  refine congrArg (fun z => bits .or .u32 z (Y : Int)) ?_
  refine Eq.trans ?_ c2
  exact congrArg (fun z => bits .or .u32 z (X : Int)) c1
/-- The processor's 25 words: the registers, Pc (16), the control registers (17 to 24). -/
def C25 (L : List Int) : Prop := L.length = 25 ∧ U32 L
def cpuV (L : List Int) : Value := .agg #[.int .u32 (wd L 0), .int .u32 (wd L 1), .int .u32 (wd L 2), .int .u32 (wd L 3), .int .u32 (wd L 4), .int .u32 (wd L 5), .int .u32 (wd L 6), .int .u32 (wd L 7), .int .u32 (wd L 8), .int .u32 (wd L 9), .int .u32 (wd L 10), .int .u32 (wd L 11), .int .u32 (wd L 12), .int .u32 (wd L 13), .int .u32 (wd L 14), .int .u32 (wd L 15), .int .u32 (wd L 16), .int .u32 (wd L 17), .int .u32 (wd L 18), .int .u32 (wd L 19), .int .u32 (wd L 20), .int .u32 (wd L 21), .int .u32 (wd L 22), .int .u32 (wd L 23), .int .u32 (wd L 24)]
def trapL (L : List Int) (cause bad : Int) : List Int := ((((L.set 19 (wd L 16)).set 20 (cause % 4294967296)).set 21 bad).set 17 (trS (wd L 17))).set 16 (wd L 18)
def retL (L : List Int) : List Int := (L.set 17 (rtS (wd L 17))).set 16 (wd L 19)
def wrK (csr v : Int) : Int := if csr = 0 ∨ csr = 7 then v % 32 else if csr = 6 then v % 256 else if csr = 1 ∨ csr = 2 then v / 4 * 4 else v
def wrL (L : List Int) (csr v : Int) : List Int := if 0 ≤ csr ∧ csr < 8 then L.set (17 + csr.toNat) (wrK csr v) else L
def setL (L : List Int) (r v : Int) : List Int := if r = 0 then L else L.set r.toNat v
def advL (L : List Int) : List Int := L.set 16 ((wd L 16 + 4) % 4294967296)
def resetL (pc : Int) : List Int := [0, 0, 0, 0, 0, 0, 0, 0, 0, 0, 0, 0, 0, 0, 0, 0, pc, 1, 0, 0, 0, 0, 0, 0, 0]
theorem C25.set {L : List Int} (h : C25 L) (i : Nat) {v : Int} (h0 : 0 ≤ v) (h1 : v ≤ 4294967295) : C25 (L.set i v) := ⟨by rw [List.length_set]; exact h.1, h.2.set i h0 h1⟩
theorem C25.bd {L : List Int} (h : C25 L) (i : Nat) : 0 ≤ wd L i ∧ wd L i ≤ 4294967295 := wd_bd h.2 i
theorem wdset {L : List Int} (h : C25 L) {i : Nat} (hi : i < 25) (v : Int) (j : Nat) : wd (L.set i v) j = if i = j then v else wd L j := wd_set L i j v (by rw [h.1]; exact hi)
theorem C25.trap {L : List Int} (h : C25 L) (c : Int) {b : Int} (b0 : 0 ≤ b) (b1 : b ≤ 4294967295) : C25 (trapL L c b) := by
  have s := h.bd 17
  have t := trS_bd _ s.1 s.2
  exact ((((h.set 19 (h.bd 16).1 (h.bd 16).2).set 20 (by omega) (by omega)).set 21 b0 b1).set 17 t.1 t.2).set 16 (h.bd 18).1 (h.bd 18).2
theorem C25.ret {L : List Int} (h : C25 L) : C25 (retL L) := by
  have s := h.bd 17
  have t := rtS_bd _ s.1 s.2
  exact (h.set 17 t.1 t.2).set 16 (h.bd 19).1 (h.bd 19).2
theorem wrK_bd (csr v : Int) (h0 : 0 ≤ v) (h1 : v ≤ 4294967295) : 0 ≤ wrK csr v ∧ wrK csr v ≤ 4294967295 := by
  unfold wrK; split
  · omega
  · split
    · omega
    · split <;> omega
theorem C25.wr {L : List Int} (h : C25 L) (csr : Int) {v : Int} (h0 : 0 ≤ v) (h1 : v ≤ 4294967295) : C25 (wrL L csr v) := by
  unfold wrL; split
  · exact h.set _ (wrK_bd csr v h0 h1).1 (wrK_bd csr v h0 h1).2
  · exact h
theorem C25.setL {L : List Int} (h : C25 L) (r : Int) {v : Int} (h0 : 0 ≤ v) (h1 : v ≤ 4294967295) : C25 (setL L r v) := by
  unfold Go.Proofs.YtfnfbdjbdbifaaaDoor.setL; split
  · exact h
  · exact h.set _ h0 h1
theorem C25.adv {L : List Int} (h : C25 L) : C25 (advL L) := h.set 16 (by omega) (by omega)
theorem C25.reset {pc : Int} (h0 : 0 ≤ pc) (h1 : pc ≤ 4294967295) : C25 (resetL pc) := ⟨rfl, fun x hx => by
  unfold resetL at hx; simp at hx; omega⟩
theorem and_big (x : Int) (h0 : 0 ≤ x) (h1 : x ≤ 4294967295) : bits .and .u32 x 4294967292 = x / 4 * 4 := by
  obtain ⟨X, rfl⟩ : ∃ X : Nat, x = X := ⟨x.toNat, by omega⟩
  have h := u32_and_nat X 4294967292 (by omega) (by omega)
  refine h.trans ?_
  have e : X &&& 4294967292 = 2 ^ 2 * (X / 2 ^ 2) := by
    apply Nat.eq_of_testBit_eq
    intro i
    rw [Nat.testBit_and, show (4294967292 : Nat) = 2 ^ 2 * (2 ^ 30 - 1) from rfl, Nat.testBit_two_pow_mul, Nat.testBit_two_pow_mul, Nat.testBit_two_pow_sub_one, Nat.testBit_div_two_pow]
    by_cases h2 : 2 ≤ i
    · have e3 : i - 2 + 2 = i := by omega
      simp only [h2, decide_true, Bool.true_and, e3]
      by_cases h' : i - 2 < 30
      · simp [h']
      · have : X.testBit i = false := Nat.testBit_lt_two_pow (Nat.lt_of_lt_of_le (show X < 2 ^ 32 by omega) (Nat.pow_le_pow_right (by decide) (by omega)))
        simp [this]
    · simp [h2]
  rw [e]; omega
theorem and_all (x : Int) (h0 : 0 ≤ x) (h1 : x ≤ 4294967295) : bits .and .u32 x 4294967295 = x := by
  obtain ⟨X, rfl⟩ : ∃ X : Nat, x = X := ⟨x.toNat, by omega⟩
  have h := u32_and_nat X 4294967295 (by omega) (by omega)
  rw [show (4294967295 : Nat) = 2 ^ 32 - 1 from rfl, Nat.and_two_pow_sub_one_eq_mod] at h
  exact h.trans (by omega)
theorem andn_3 (x : Int) (h0 : 0 ≤ x) (h1 : x ≤ 4294967295) : bits .andNot .u32 x 3 = x / 4 * 4 := by
  rw [← and_big x h0 h1]
  obtain ⟨X, rfl⟩ : ∃ X : Nat, x = X := ⟨x.toNat, by omega⟩
  exact (u32_andNot_nat X 3 (by omega) (by omega)).trans (u32_and_nat X 4294967292 (by omega) (by omega)).symm
theorem xor_sign (x : Int) (h0 : 0 ≤ x) (h1 : x ≤ 4294967295) : bits .xor .u32 x 2147483648 = (x + 2147483648) % 4294967296 := by
  obtain ⟨X, rfl⟩ : ∃ X : Nat, x = X := ⟨x.toNat, by omega⟩
  have h := u32_xor_nat X 2147483648 (by omega) (by omega)
  refine h.trans ?_
  have e : X ^^^ 2147483648 = (X + 2147483648) % 4294967296 := by
    have hl : X % 2147483648 < 2 ^ 31 := by omega
    have e1 : X = 2 ^ 31 * (X / 2147483648) + X % 2147483648 := by omega
    have e2 : (X + 2147483648) % 4294967296 = 2 ^ 31 * (1 - X / 2147483648) + X % 2147483648 := by omega
    have e3 : (2147483648 : Nat) = 2 ^ 31 * 1 + 0 := rfl
    rw [e2]
    apply Nat.eq_of_testBit_eq
    intro i
    rw [Nat.testBit_xor, Nat.testBit_two_pow_mul_add _ hl]
    conv => lhs; rw [e1, Nat.testBit_two_pow_mul_add _ hl]
    rw [e3, Nat.testBit_two_pow_mul_add _ (show 0 < 2 ^ 31 by omega)]
    by_cases hi : i < 31
    · simp [hi]
    · simp only [hi, if_false]
      have hq : X / 2147483648 = 0 ∨ X / 2147483648 = 1 := by omega
      rcases hq with hq | hq <;> rw [hq] <;> simp
  rw [e]; omega
theorem sltb (a b : Int) (a0 : 0 ≤ a) (a1 : a ≤ 4294967295) (b0 : 0 ≤ b) (b1 : b ≤ 4294967295) : ((a + 2147483648) % 4294967296 < (b + 2147483648) % 4294967296) ↔ wrap32 a < wrap32 b := by
  unfold wrap32; omega
end Go.Proofs.YtfnfbdjbdbifaaaDoor
