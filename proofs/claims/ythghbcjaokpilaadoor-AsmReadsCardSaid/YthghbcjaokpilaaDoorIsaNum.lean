import Derived.Test.YthghbcjaokpilaaDoorNum
import Derived.Lib.ItoaNum
import Derived.Lib.ItoaLen
namespace Go.Proofs.YthghbcjaokpilaaDoor.Isa
set_option linter.unusedVariables false
open Go.Proofs.YthghbcjaokpilaaDoor.Num
/-- How an operation's instructions are laid out: 0 no operation, 1 three registers, 2 A, B, Imm, 3 A, Imm(B), 4 A, Imm, 5 bare. -/
def lay (op : Int) : Int :=
  if 1 ≤ op ∧ op ≤ 13 then 1
  else if (16 ≤ op ∧ op ≤ 23) ∨ (40 ≤ op ∧ op ≤ 45) ∨ op = 49 then 2
  else if 32 ≤ op ∧ op ≤ 36 then 3
  else if op = 24 ∨ op = 48 ∨ (58 ≤ op ∧ op ≤ 61) then 4
  else if op = 56 ∨ op = 57 ∨ (62 ≤ op ∧ op ≤ 64) then 5 else 0
/-- The form of an operation by its immediate. -/
def frm (op : Int) : Int :=
  if 1 ≤ op ∧ op ≤ 13 then 2
  else if op = 16 ∨ op = 23 ∨ (32 ≤ op ∧ op ≤ 36) ∨ (40 ≤ op ∧ op ≤ 45) ∨ op = 49 then 3
  else if 17 ≤ op ∧ op ≤ 19 then 4
  else if 20 ≤ op ∧ op ≤ 22 then 5
  else if op = 24 then 6
  else if op = 48 then 7
  else if op = 58 ∨ op = 59 then 8
  else if op = 60 ∨ op = 61 then 9
  else if op = 56 ∨ op = 57 ∨ (62 ≤ op ∧ op ≤ 64) then 1 else 0
/-- The least immediate of a form. -/
def flo (f : Int) : Int := if f = 3 ∨ f = 7 then -32768 else 0
/-- The greatest immediate of a form. -/
def fhi (f : Int) : Int := if f = 3 ∨ f = 7 then 32767 else if f = 4 ∨ f = 6 then 65535 else if f = 5 then 31 else if f = 8 then 7 else if f = 9 then 11 else 0
def lo (op : Int) : Int := flo (frm op)
def hi (op : Int) : Int := fhi (frm op)
/-- What an operation's number tells of it, in three parts. -/
def KindA (op : Int) : Prop :=
  (lay op = 0 ∧ frm op = 0 ∧ lo op = 0 ∧ hi op = 0 ∧ ¬ (1 ≤ op ∧ op ≤ 13) ∧ ¬ (16 ≤ op ∧ op ≤ 24) ∧ ¬ (32 ≤ op ∧ op ≤ 36) ∧ ¬ (40 ≤ op ∧ op ≤ 45) ∧ ¬ (48 ≤ op ∧ op ≤ 49) ∧ ¬ (56 ≤ op ∧ op ≤ 64)) ∨
  (lay op = 1 ∧ frm op = 2 ∧ lo op = 0 ∧ hi op = 0 ∧ 1 ≤ op ∧ op ≤ 13) ∨
  (lay op = 2 ∧ frm op = 3 ∧ lo op = -32768 ∧ hi op = 32767 ∧ (op = 16 ∨ op = 23 ∨ (40 ≤ op ∧ op ≤ 45) ∨ op = 49)) ∨
  (lay op = 2 ∧ frm op = 4 ∧ lo op = 0 ∧ hi op = 65535 ∧ 17 ≤ op ∧ op ≤ 19)
def KindB (op : Int) : Prop :=
  (lay op = 2 ∧ frm op = 5 ∧ lo op = 0 ∧ hi op = 31 ∧ 20 ≤ op ∧ op ≤ 22) ∨
  (lay op = 4 ∧ frm op = 6 ∧ lo op = 0 ∧ hi op = 65535 ∧ op = 24) ∨
  (lay op = 3 ∧ frm op = 3 ∧ lo op = -32768 ∧ hi op = 32767 ∧ 32 ≤ op ∧ op ≤ 36) ∨
  (lay op = 4 ∧ frm op = 7 ∧ lo op = -32768 ∧ hi op = 32767 ∧ op = 48)
def KindC (op : Int) : Prop :=
  (lay op = 4 ∧ frm op = 8 ∧ lo op = 0 ∧ hi op = 7 ∧ (op = 58 ∨ op = 59)) ∨
  (lay op = 4 ∧ frm op = 9 ∧ lo op = 0 ∧ hi op = 11 ∧ (op = 60 ∨ op = 61)) ∨
  (lay op = 5 ∧ frm op = 1 ∧ lo op = 0 ∧ hi op = 0 ∧ (op = 56 ∨ op = 57 ∨ (62 ≤ op ∧ op ≤ 64)))
/-- What an operation's number tells of it. -/
def Kind (op : Int) : Prop :=
  (lay op = 0 ∧ frm op = 0 ∧ lo op = 0 ∧ hi op = 0 ∧ ¬ (1 ≤ op ∧ op ≤ 13) ∧ ¬ (16 ≤ op ∧ op ≤ 24) ∧ ¬ (32 ≤ op ∧ op ≤ 36) ∧ ¬ (40 ≤ op ∧ op ≤ 45) ∧ ¬ (48 ≤ op ∧ op ≤ 49) ∧ ¬ (56 ≤ op ∧ op ≤ 64)) ∨
  (lay op = 1 ∧ frm op = 2 ∧ lo op = 0 ∧ hi op = 0 ∧ 1 ≤ op ∧ op ≤ 13) ∨
  (lay op = 2 ∧ frm op = 3 ∧ lo op = -32768 ∧ hi op = 32767 ∧ (op = 16 ∨ op = 23 ∨ (40 ≤ op ∧ op ≤ 45) ∨ op = 49)) ∨
  (lay op = 2 ∧ frm op = 4 ∧ lo op = 0 ∧ hi op = 65535 ∧ 17 ≤ op ∧ op ≤ 19) ∨
  (lay op = 2 ∧ frm op = 5 ∧ lo op = 0 ∧ hi op = 31 ∧ 20 ≤ op ∧ op ≤ 22) ∨
  (lay op = 4 ∧ frm op = 6 ∧ lo op = 0 ∧ hi op = 65535 ∧ op = 24) ∨
  (lay op = 3 ∧ frm op = 3 ∧ lo op = -32768 ∧ hi op = 32767 ∧ 32 ≤ op ∧ op ≤ 36) ∨
  (lay op = 4 ∧ frm op = 7 ∧ lo op = -32768 ∧ hi op = 32767 ∧ op = 48) ∨
  (lay op = 4 ∧ frm op = 8 ∧ lo op = 0 ∧ hi op = 7 ∧ (op = 58 ∨ op = 59)) ∨
  (lay op = 4 ∧ frm op = 9 ∧ lo op = 0 ∧ hi op = 11 ∧ (op = 60 ∨ op = 61)) ∨
  (lay op = 5 ∧ frm op = 1 ∧ lo op = 0 ∧ hi op = 0 ∧ (op = 56 ∨ op = 57 ∨ (62 ≤ op ∧ op ≤ 64)))
instance (op : Int) : Decidable (KindA op) := by unfold KindA; infer_instance
instance (op : Int) : Decidable (KindB op) := by unfold KindB; infer_instance
instance (op : Int) : Decidable (KindC op) := by unfold KindC; infer_instance
theorem kind_fin : ∀ k : Fin 65, KindA (k.val : Int) ∨ KindB (k.val : Int) ∨ KindC (k.val : Int) := by decide +kernel
theorem kind_of {op : Int} (h : KindA op ∨ KindB op ∨ KindC op) : Kind op := by
  simpa only [KindA, KindB, KindC, Kind, or_assoc] using h
theorem kind (op : Int) : Kind op := by
  by_cases h : 0 ≤ op ∧ op ≤ 64
  · obtain ⟨k, rfl⟩ : ∃ k : Nat, op = k := ⟨op.toNat, by omega⟩
    exact kind_of (kind_fin ⟨k, by omega⟩)
  · have e1 : lay op = 0 := by
      unfold lay
      rw [if_neg (by omega), if_neg (by omega), if_neg (by omega), if_neg (by omega), if_neg (by omega)]
    have e2 : frm op = 0 := by
      unfold frm
      rw [if_neg (by omega), if_neg (by omega), if_neg (by omega), if_neg (by omega), if_neg (by omega), if_neg (by omega), if_neg (by omega), if_neg (by omega), if_neg (by omega)]
    exact Or.inl ⟨e1, e2, by simp [lo, flo, e2], by simp [hi, fhi, e2], by omega, by omega, by omega, by omega, by omega, by omega⟩
/-- A valid instruction. -/
def Ok (op a b c m : Int) : Prop :=
  lay op ≠ 0 ∧ 0 ≤ a ∧ a ≤ 15 ∧ 0 ≤ b ∧ b ≤ 15 ∧ 0 ≤ c ∧ c ≤ 15 ∧ lo op ≤ m ∧ m ≤ hi op ∧ (lay op = 1 ∨ c = 0) ∧ (lay op = 5 → a = 0) ∧ (lay op = 1 ∨ lay op = 2 ∨ lay op = 3 ∨ b = 0)
instance (op a b c m : Int) : Decidable (Ok op a b c m) := by unfold Ok; infer_instance
/-- The instruction word. -/
def word (op a b c m : Int) : Int := op * 16777216 + a * 1048576 + b * 65536 + (m % 65536 + c)
def dOp (w : Int) : Int := w / 16777216
def dA (w : Int) : Int := w / 1048576 % 16
def dB (w : Int) : Int := w / 65536 % 16
def dL (w : Int) : Int := w % 65536
def dC (w : Int) : Int := if lay (dOp w) = 1 then dL w else 0
def dM (w : Int) : Int := if lay (dOp w) = 1 then 0 else if lo (dOp w) < 0 ∧ 32768 ≤ dL w then dL w - 65536 else dL w
def dOk (w : Int) : Prop := Ok (dOp w) (dA w) (dB w) (dC w) (dM w)
instance (w : Int) : Decidable (dOk w) := by unfold dOk; infer_instance
def zOp (w : Int) : Int := if dOk w then dOp w else 0
def zA (w : Int) : Int := if dOk w then dA w else 0
def zB (w : Int) : Int := if dOk w then dB w else 0
def zC (w : Int) : Int := if dOk w then dC w else 0
def zM (w : Int) : Int := if dOk w then dM w else 0
def eW (op a b c m : Int) : Int := if Ok op a b c m then word op a b c m else 0
def eE (op a b c m : Int) : Int := if Ok op a b c m then 0 else 200
theorem ok_bound {op a b c m : Int} (h : Ok op a b c m) : 1 ≤ op ∧ op ≤ 64 ∧ -32768 ≤ m ∧ m ≤ 65535 ∧ (c = 0 ∨ m = 0) := by
  obtain ⟨h0, h1, h2, h3, h4, h5, h6, h7, h8, h9, h10, h11⟩ := h
  rcases kind op with k | k | k | k | k | k | k | k | k | k | k <;> obtain ⟨k1, k2, k3, k4, k5⟩ := k <;> omega
theorem word_range {op a b c m : Int} (h : Ok op a b c m) : 0 ≤ word op a b c m ∧ word op a b c m ≤ 4294967295 := by
  have hb := ok_bound h
  obtain ⟨h0, h1, h2, h3, h4, h5, h6, h7, h8, h9, h10, h11⟩ := h
  unfold word; omega
theorem dec_word {op a b c m : Int} (h : Ok op a b c m) : dOp (word op a b c m) = op ∧ dA (word op a b c m) = a ∧ dB (word op a b c m) = b ∧ dC (word op a b c m) = c ∧ dM (word op a b c m) = m := by
  have hb := ok_bound h
  have h' := h
  obtain ⟨h0, h1, h2, h3, h4, h5, h6, h7, h8, h9, h10, h11⟩ := h
  have e1 : dOp (word op a b c m) = op := by unfold dOp word; omega
  have e2 : dA (word op a b c m) = a := by unfold dA word; omega
  have e3 : dB (word op a b c m) = b := by unfold dB word; omega
  have e4 : dL (word op a b c m) = m % 65536 + c := by unfold dL word; omega
  refine ⟨e1, e2, e3, ?_, ?_⟩
  · unfold dC; rw [e1, e4]
    rcases kind op with k | k | k | k | k | k | k | k | k | k | k <;> obtain ⟨k1, k2, k3, k4, k5⟩ := k <;> split <;> omega
  · unfold dM; rw [e1, e4]
    rcases kind op with k | k | k | k | k | k | k | k | k | k | k <;> obtain ⟨k1, k2, k3, k4, k5⟩ := k <;> split <;> (try split) <;> omega
theorem ok_dec {op a b c m : Int} (h : Ok op a b c m) : dOk (word op a b c m) := by
  obtain ⟨e1, e2, e3, e4, e5⟩ := dec_word h
  unfold dOk; rw [e1, e2, e3, e4, e5]; exact h
theorem word_dec {w : Int} (h : dOk w) (h0 : 0 ≤ w) (h1 : w ≤ 4294967295) : word (dOp w) (dA w) (dB w) (dC w) (dM w) = w := by
  unfold dOk at h
  have hb := ok_bound h
  obtain ⟨k0, k1, k2, k3, k4, k5, k6, k7, k8, k9, k10, k11⟩ := h
  have hm : dM w % 65536 + dC w = w % 65536 := by
    unfold dM dC dL
    split
    · omega
    · split <;> omega
  unfold word
  rw [hm]
  unfold dOp dA dB
  have : (w / 1048576) % 16 * 1048576 + (w / 65536) % 16 * 65536 + w % 65536 = w % 16777216 := by omega
  omega
theorem kind_lay (op : Int) : lay op = 0 ∨ lay op = 1 ∨ lay op = 2 ∨ lay op = 3 ∨ lay op = 4 ∨ lay op = 5 := by
  rcases kind op with k | k | k | k | k | k | k | k | k | k | k <;> obtain ⟨k1, k2, k3, k4, k5⟩ := k <;> omega
end Go.Proofs.YthghbcjaokpilaaDoor.Isa
