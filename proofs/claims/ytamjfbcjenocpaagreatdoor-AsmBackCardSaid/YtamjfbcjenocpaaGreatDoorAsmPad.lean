import Derived.Test.YtamjfbcjenocpaaGreatDoorAsmGd
namespace Go.Proofs.YtamjfbcjenocpaaGreatDoor
set_option linter.unusedVariables false
set_option linter.unusedSimpArgs false
open Go.ChangeShapes Go.WideShapes Go.ChangeAt Go.RowKit Go.Proofs.YtamjfbcjenocpaaGreatDoor.Num Go.Proofs.YtamjfbcjenocpaaGreatDoor.Isa Go.Proofs.YtamjfbcjenocpaaGreatDoor.Mem Go.Proofs.YtamjfbcjenocpaaGreatDoor.Asm
def padW (m x : Nat) : Bs := List.replicate (m - (hexG x).length) 48 ++ hexG x
theorem pad_one {x : Nat} (h : x < 16) : padW 1 x = [hexC x] := by
  unfold padW; rw [hexG_small h]; rfl
theorem pad_snoc (m x : Nat) (hm : 1 ≤ m) : padW (m + 1) x = padW m (x / 16) ++ [hexC (x % 16)] := by
  unfold padW
  by_cases h : x < 16
  · have e0 : x / 16 = 0 := by omega
    have e1 : x % 16 = x := by omega
    have e2 : hexG 0 = [48] := by rw [hexG_small (by decide)]; decide
    rw [hexG_small h, e0, e1, e2]
    have e3 : List.replicate (m - 1) (48 : UInt8) ++ [48] = List.replicate m 48 := by
      rw [← List.replicate_succ']; congr 1; omega
    simp only [List.length_cons, List.length_nil]
    rw [show m + 1 - (0 + 1) = m by omega, show m - (0 + 1) = m - 1 by omega, e3]
  · rw [hexG_big h, List.length_append, List.length_singleton]
    rw [show m + 1 - ((hexG (x / 16)).length + 1) = m - (hexG (x / 16)).length by omega]
    simp
/-- The eight digits, the greatest first. -/
def hexR (x : Nat) : Bs := [hexC (x / 268435456 % 16), hexC (x / 16777216 % 16), hexC (x / 1048576 % 16), hexC (x / 65536 % 16), hexC (x / 4096 % 16), hexC (x / 256 % 16), hexC (x / 16 % 16), hexC (x % 16)]
theorem pad_all (x : Nat) (h : x < 4294967296) : hexPad x = hexR x := by
  have e : hexPad x = padW 8 x := rfl
  rw [e, pad_snoc 7 _ (by decide), pad_snoc 6 _ (by decide), pad_snoc 5 _ (by decide), pad_snoc 4 _ (by decide), pad_snoc 3 _ (by decide), pad_snoc 2 _ (by decide), pad_snoc 1 _ (by decide), pad_one (by omega)]
  simp only [Nat.div_div_eq_div_mul, List.append_assoc, List.cons_append, List.nil_append]
  unfold hexR
  congr 2
  omega
theorem hexR_at (x j : Nat) (hj : j < 8) : (hexR x).take (j + 1) = (hexR x).take j ++ [hexC (x / 16 ^ (7 - j) % 16)] := by
  match j, hj with
  | 0, _ => rfl
  | 1, _ => rfl
  | 2, _ => rfl
  | 3, _ => rfl
  | 4, _ => rfl
  | 5, _ => rfl
  | 6, _ => simp [hexR]
  | 7, _ => simp [hexR]
end Go.Proofs.YtamjfbcjenocpaaGreatDoor
