import Derived.Test.YtfnfbdjbdbifaaaDoorCpAlg
import Derived.Test.YtfnfbdjbdbifaaaDoorPgFn2
import Derived.Test.YtfnfbdjbdbifaaaDoorIsaNum
namespace Go.Proofs.YtfnfbdjbdbifaaaDoor
set_option linter.unusedVariables false
set_option linter.unusedSimpArgs false
open Go.RowKit Go.Proofs.YtfnfbdjbdbifaaaDoor.Num Go.Proofs.YtfnfbdjbdbifaaaDoor.Isa
/- What the processor does, as plain mathematics. L: the processor's words; l: the memory's, n of them. -/
def kerB (L : List Int) : Bool := decide (wd L 17 % 2 = 1)
def pgB (L : List Int) : Bool := decide (wd L 17 % 2 = 0 ∧ wd L 17 / 4 % 2 = 1)
/-- An access: its cause, its address, the memory afterwards. -/
def rsC (n : Nat) (l L : List Int) (va size a : Int) : Int :=
  if (a = 1 ∨ a = 2 ∨ a = 3) ∧ (size = 1 ∨ size = 4) then
    (if va % size = 0 then (if pgB L = true then wkC n l (wd L 23) va a else if okB n va size = true then 0 else cauN a) else 3) else 5
def rsA (n : Nat) (l L : List Int) (va size a : Int) : Int := if rsC n l L va size a = 0 then (if pgB L = true then wkA n l (wd L 23) va a else va) else 0
def rsL (n : Nat) (l L : List Int) (va size a : Int) : List Int := if rsC n l L va size a = 0 ∧ pgB L = true then tcL n l (wkE n l (wd L 23) va a) a else l
/-- The fetch: its cause, the memory afterwards, the word. -/
def ftC (n : Nat) (l L : List Int) : Int := rsC n l L (wd L 16) 4 1
def ftL (n : Nat) (l L : List Int) : List Int := rsL n l L (wd L 16) 4 1
def ftW (n : Nat) (l L : List Int) : Int := if ftC n l L = 0 then wd (ftL n l L) (rsA n l L (wd L 16) 4 1 / 4).toNat else 0
/-- Whether a branch is taken. -/
def tkn (op a b : Int) : Bool :=
  if op = 40 then decide (a = b) else if op = 41 then decide (a ≠ b) else if op = 42 then decide (wrap32 a < wrap32 b)
  else if op = 43 then decide (wrap32 b ≤ wrap32 a) else if op = 44 then decide (a < b) else decide (b ≤ a)
/-- The processor after an instruction that does not access the memory. -/
def stepL (L : List Int) (op a b c m : Int) : List Int :=
  if op = 24 then setL (advL L) a (m * 65536 % 4294967296)
  else if 40 ≤ op ∧ op ≤ 45 then (if tkn op (wd L a.toNat) (wd L b.toNat) = true then L.set 16 ((wd L 16 + 4 * m) % 4294967296) else advL L)
  else if op = 48 then (setL (advL L) a ((wd L 16 + 4) % 4294967296)).set 16 ((wd L 16 + 4 * m) % 4294967296)
  else if op = 49 then (setL (advL L) a ((wd L 16 + 4) % 4294967296)).set 16 ((wd L b.toNat + m) % 4294967296)
  else if op = 56 then trapL L 7 0
  else if op = 57 then retL L
  else if op = 58 then setL (advL L) a (wd L (17 + m.toNat))
  else if op = 59 then wrL (advL L) m (wd L a.toNat)
  else if aluB op = true then setL (advL L) a (aluV op (wd L b.toNat) (if op ≤ 13 then wd L c.toNat else m % 4294967296))
  else advL L
/-- The address and the size of a load or a store. -/
def opVa (L : List Int) (b m : Int) : Int := (wd L b.toNat + m) % 4294967296
def opSz (op : Int) : Int := if op = 32 ∨ op = 35 then 4 else 1
def ldE (op v : Int) : Int := if op = 33 then sext v 8 else v
/-- A load, a store: the processor and the memory afterwards. -/
def ldX (n : Nat) (l L : List Int) (op a b m : Int) : List Int :=
  if rsC n l L (opVa L b m) (opSz op) 2 = 0 then setL (advL L) a (ldE op (ldV (rsL n l L (opVa L b m) (opSz op) 2) (rsA n l L (opVa L b m) (opSz op) 2) (opSz op)))
  else trapL L (rsC n l L (opVa L b m) (opSz op) 2) (opVa L b m)
def ldM (n : Nat) (l L : List Int) (op b m : Int) : List Int := rsL n l L (opVa L b m) (opSz op) 2
def stX (n : Nat) (l L : List Int) (op b m : Int) : List Int :=
  if rsC n l L (opVa L b m) (opSz op) 3 = 0 then advL L else trapL L (rsC n l L (opVa L b m) (opSz op) 3) (opVa L b m)
def stM (n : Nat) (l L : List Int) (op a b m : Int) : List Int :=
  if rsC n l L (opVa L b m) (opSz op) 3 = 0 then stV (rsL n l L (opVa L b m) (opSz op) 3) (rsA n l L (opVa L b m) (opSz op) 3) (opSz op) (wd L a.toNat)
  else rsL n l L (opVa L b m) (opSz op) 3
/-- The effect. -/
def efV (K P R V : Int) : Value := .agg #[.int .i64 K, .int .i64 P, .int .i64 R, .int .u32 V]
def efK (op : Int) : Int := if op = 60 then 1 else if op = 61 then 2 else if op = 62 then 3 else if op = 63 then 5 else if op = 64 then 4 else 0
def efP (op m : Int) : Int := if op = 60 ∨ op = 61 then m else 0
def efR (op a : Int) : Int := if op = 60 then a else 0
def efU (L : List Int) (op a : Int) : Int := if op = 61 then wd L a.toNat else 0
def prvB (op : Int) : Bool := decide (57 ≤ op ∧ op ≤ 64)
/-- One instruction: the ways it goes. -/
def exB (n : Nat) (l L : List Int) : Bool := decide (ftC n l L = 0 ∧ dOk (ftW n l L) ∧ (prvB (dOp (ftW n l L)) = true → kerB L = true))
def exL (n : Nat) (l L : List Int) : List Int :=
  if ¬ ftC n l L = 0 then trapL L (ftC n l L) (wd L 16)
  else if ¬ dOk (ftW n l L) then trapL L 1 (ftW n l L)
  else if prvB (dOp (ftW n l L)) = true ∧ kerB L = false then trapL L 2 (ftW n l L)
  else if 32 ≤ dOp (ftW n l L) ∧ dOp (ftW n l L) ≤ 34 then ldX n (ftL n l L) L (dOp (ftW n l L)) (dA (ftW n l L)) (dB (ftW n l L)) (dM (ftW n l L))
  else if 35 ≤ dOp (ftW n l L) ∧ dOp (ftW n l L) ≤ 36 then stX n (ftL n l L) L (dOp (ftW n l L)) (dB (ftW n l L)) (dM (ftW n l L))
  else stepL L (dOp (ftW n l L)) (dA (ftW n l L)) (dB (ftW n l L)) (dC (ftW n l L)) (dM (ftW n l L))
def exM (n : Nat) (l L : List Int) : List Int :=
  if exB n l L = true then
    (if 32 ≤ dOp (ftW n l L) ∧ dOp (ftW n l L) ≤ 34 then ldM n (ftL n l L) L (dOp (ftW n l L)) (dB (ftW n l L)) (dM (ftW n l L))
    else if 35 ≤ dOp (ftW n l L) ∧ dOp (ftW n l L) ≤ 36 then stM n (ftL n l L) L (dOp (ftW n l L)) (dA (ftW n l L)) (dB (ftW n l L)) (dM (ftW n l L))
    else ftL n l L)
  else ftL n l L
def exE (n : Nat) (l L : List Int) : Value :=
  if exB n l L = true then efV (efK (dOp (ftW n l L))) (efP (dOp (ftW n l L)) (dM (ftW n l L))) (efR (dOp (ftW n l L)) (dA (ftW n l L))) (efU L (dOp (ftW n l L)) (dA (ftW n l L)))
  else efV 0 0 0 0
theorem rsC_zero {n : Nat} {l L : List Int} {va size a : Int} (h : rsC n l L va size a = 0) : (a = 1 ∨ a = 2 ∨ a = 3) ∧ (size = 1 ∨ size = 4) ∧ va % size = 0 ∧ (pgB L = true → wkB n l (wd L 23) va a = true) ∧ (pgB L = false → okB n va size = true) := by
  unfold rsC at h
  split at h
  · rename_i h1
    split at h
    · rename_i h2
      refine ⟨h1.1, h1.2, h2, fun hp => ?_, fun hp => ?_⟩
      · rw [if_pos hp] at h
        unfold wkC at h
        by_cases hw : wkB n l (wd L 23) va a = true
        · exact hw
        · rw [if_neg hw] at h; unfold cauN at h; split at h
          · omega
          · split at h <;> omega
      · rw [hp] at h
        by_cases hw : okB n va size = true
        · exact hw
        · rw [if_neg (by decide), if_neg hw] at h; unfold cauN at h; split at h
          · omega
          · split at h <;> omega
    · omega
  · omega
/-- The address of a possible access lies within the memory. -/
theorem rsA_ok {n : Nat} {l L : List Int} {va size a : Int} (v0 : 0 ≤ va) (h : rsC n l L va size a = 0) : okB n (rsA n l L va size a) size = true ∧ 0 ≤ rsA n l L va size a ∧ rsA n l L va size a ≤ 4294967295 ∨ (pgB L = false ∧ rsA n l L va size a = va ∧ okB n va size = true) := by
  obtain ⟨h1, h2, h3, h4, h5⟩ := rsC_zero h
  unfold rsA
  rw [if_pos h]
  cases hp : pgB L with
  | false => right; rw [if_neg (by decide)]; exact ⟨rfl, rfl, h5 hp⟩
  | true =>
    left
    rw [if_pos rfl]
    have hw := h4 hp
    unfold wkA
    rw [if_pos hw]
    have hq := of_decide_eq_true hw
    obtain ⟨g1, g2, g3, g4, g5⟩ := hq
    have hpn := pagesN_le n
    have hf : 0 ≤ frW (pteW l (wd L 23) va) := by unfold frW; omega
    generalize frW (pteW l (wd L 23) va) = f at *
    refine ⟨?_, by omega, by omega⟩
    unfold okB
    refine decide_eq_true ⟨h2, ?_, by omega, by omega⟩
    rcases h2 with rfl | rfl <;> omega
theorem rsL_len (n : Nat) (l L : List Int) (va size a : Int) : (rsL n l L va size a).length = l.length := by
  unfold rsL; split
  · exact tcL_len _ _ _ _
  · rfl
theorem rsC_bd (n : Nat) (l L : List Int) (va size a : Int) : 0 ≤ rsC n l L va size a ∧ rsC n l L va size a ≤ 6 := by
  have hc : 0 ≤ cauN a ∧ cauN a ≤ 6 := by unfold cauN; split; omega; split <;> omega
  unfold rsC wkC
  repeat' split
  all_goals omega
end Go.Proofs.YtfnfbdjbdbifaaaDoor
