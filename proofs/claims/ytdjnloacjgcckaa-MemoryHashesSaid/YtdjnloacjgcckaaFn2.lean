import Derived.Test.YtdjnloacjgcckaaFn
import Derived.Lib.Hide
import Derived.Test.YtdjnloacjgcckaaNum2
namespace Go.Proofs.Ytdjnloacjgcckaa
set_option linter.unusedVariables false
open Go.ChangeShapes Go.WideShapes Go.ChangeAt Go.RowKit Go.Proofs.Ytdjnloacjgcckaa.Num
theorem next_ref0 (s : Int) (w : World) :
    Calls Try.prog 52 #[.int .u64 s] w fun e w' => e = .returned (.tuple #[.int .u64 (mixed s), .int .u64 (seedStep s)]) ∧ w = w' := by
  go_enter Try.func52, Try.ntmps52
  go_wp2
  go_ret2
  exact ⟨ret_int2 rfl rfl, rfl⟩
theorem next_ref (s : Int) (w : World) :
    Calls Try.prog 52 #[.int .u64 s] w fun e w' => e = .returned (.tuple #[.int .u64 (mixed s), .int .u64 (seedStep s)]) ∧ ∃ m, w' = w.drewN m :=
  (next_ref0 s w).mono fun _ _ ⟨h, hw⟩ => ⟨h, 0, hw.symm⟩
theorem hash_any (h : Int) (s : ByteArray) (w : World) (hs : s.size ≤ maxLen) :
    Calls Try.prog 49 #[.int .u64 h, .string s] w fun e w' => e = .returned (.int .u64 (hash h s.data.toList)) ∧ ∃ m, w' = w.drewN m := by
  unfold maxLen at hs
  go_enter Try.func49, Try.ntmps49
  go_wp2
  go_loop [0, 8] (fun x i => ∃ k : Nat, k ≤ s.size ∧ i = .int .i64 k ∧ x = .int .u64 (hash h (s.data.toList.take k))) (fun _ i => s.size - (intOf i).toNat)
  case atStart => exact ⟨0, Nat.zero_le _, rfl, rfl⟩
  case round =>
    obtain ⟨k, hk, rfl, rfl⟩ := hrel
    by_cases hlt : k < s.size
    · have HS : Hid (hash h (s.data.toList.take (k + 1)) = hash1 (hash h (s.data.toList.take k)) (s[k].toNat : Int)) := by rw [take_snoc s k hlt]; exact hash_snoc _ _ _
      go_wp2
      go_round
      case rel => exact ⟨k + 1, by omega, by go_num, by rw [HS.out]; rfl⟩
      case measure => simp [intOf]; omega
    · go_wp2
      go_ret
      exact ⟨ret_int (by rw [List.take_of_length_le (by simp; omega)]), 0, rfl⟩
theorem hash_ref (h : Int) (s : ByteArray) (w : World) (hs : s.size ≤ maxLen) :
    Calls Try.prog 50 #[.int .u64 h, .string s] w fun e w' => e = .returned (.int .u64 (hash h s.data.toList)) ∧ ∃ m, w' = w.drewN m := by
  unfold maxLen at hs
  go_enter Try.func50, Try.ntmps50
  go_wp2
  go_loop [0, 5] (fun x i => ∃ k : Nat, k ≤ s.size ∧ i = .int .i64 k ∧ x = .int .u64 (hash h (s.data.toList.take k))) (fun _ i => s.size - (intOf i).toNat)
  case atStart => exact ⟨0, Nat.zero_le _, rfl, rfl⟩
  case round =>
    obtain ⟨k, hk, rfl, rfl⟩ := hrel
    by_cases hlt : k < s.size
    · have HS : Hid (hash h (s.data.toList.take (k + 1)) = hash1 (hash h (s.data.toList.take k)) (s[k].toNat : Int)) := by rw [take_snoc s k hlt]; exact hash_snoc _ _ _
      go_wp2
      go_round
      case rel => exact ⟨k + 1, by omega, by go_num, by rw [HS.out]; rfl⟩
      case measure => simp [intOf]; omega
    · go_wp2
      go_ret
      exact ⟨ret_int (by rw [List.take_of_length_le (by simp; omega)]), 0, rfl⟩
def retDec : Option (Nat × Nat) → Ending
  | none => .returned (.tuple #[.int .u64 0, .int .i64 0, .bool false])
  | some (v, n) => .returned (.tuple #[.int .u64 v, .int .i64 n, .bool true])
theorem retDec_none {o : Option (Nat × Nat)} (h : o = none) : .returned (.tuple #[.int .u64 0, .int .i64 0, .bool false]) = retDec o := by rw [h]; rfl
theorem retDec_some {o : Option (Nat × Nat)} {v n : Nat} {a b : Int} (h : o = some (v, n)) (ha : a = v) (hb : b = n) : .returned (.tuple #[.int .u64 a, .int .i64 b, .bool true]) = retDec o := by rw [h, ha, hb]; rfl
end Go.Proofs.Ytdjnloacjgcckaa
