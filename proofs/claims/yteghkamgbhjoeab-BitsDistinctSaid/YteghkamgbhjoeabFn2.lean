import Derived.Test.YteghkamgbhjoeabFn
import Derived.Lib.Hide
import Derived.Test.YteghkamgbhjoeabNum2
namespace Go.Proofs.Yteghkamgbhjoeab
set_option linter.unusedVariables false
open Go.ChangeShapes Go.WideShapes Go.ChangeAt Go.RowKit Go.Proofs.Yteghkamgbhjoeab.Num
theorem next_any0 (s : Int) (w : World) :
    Calls Try.prog 16 #[.int .u64 s] w fun e w' => e = .returned (.tuple #[.int .u64 (mixed s), .int .u64 (seedStep s)]) ∧ w = w' := by
  go_enter Try.func16, Try.ntmps16
  go_wp2
  go_ret2
  exact ⟨ret_int2 rfl rfl, rfl⟩
theorem next_ref0 (s : Int) (w : World) :
    Calls Try.prog 17 #[.int .u64 s] w fun e w' => e = .returned (.tuple #[.int .u64 (mixed s), .int .u64 (seedStep s)]) ∧ w = w' := by
  go_enter Try.func17, Try.ntmps17
  go_wp2
  go_ret2
  exact ⟨ret_int2 rfl rfl, rfl⟩
theorem next_any (s : Int) (w : World) :
    Calls Try.prog 16 #[.int .u64 s] w fun e w' => e = .returned (.tuple #[.int .u64 (mixed s), .int .u64 (seedStep s)]) ∧ ∃ m, w' = w.drewN m :=
  (next_any0 s w).mono fun _ _ ⟨h, hw⟩ => ⟨h, 0, hw.symm⟩
theorem next_ref (s : Int) (w : World) :
    Calls Try.prog 17 #[.int .u64 s] w fun e w' => e = .returned (.tuple #[.int .u64 (mixed s), .int .u64 (seedStep s)]) ∧ ∃ m, w' = w.drewN m :=
  (next_ref0 s w).mono fun _ _ ⟨h, hw⟩ => ⟨h, 0, hw.symm⟩
theorem ends_any (b k : Nat) (w : World) (hb : b ≤ 255) (hk : k < 10) :
    Calls Try.prog 18 #[.int .u8 b, .int .i64 k] w fun e w' => e = .returned (.bool (endsB b k)) ∧ ∃ m, w' = w.drewN m := by
  go_enter Try.func18, Try.ntmps18
  go_wp2
  all_goals go_ret
  all_goals refine ⟨ret_bool ?_, 0, rfl⟩
  all_goals (rw [Bool.eq_iff_iff]; simp_all [endsB]; try omega)
theorem hash_any (h : Int) (s : ByteArray) (w : World) (hs : s.size ≤ maxLen) :
    Calls Try.prog 13 #[.int .u64 h, .string s] w fun e w' => e = .returned (.int .u64 (hash h s.data.toList)) ∧ ∃ m, w' = w.drewN m := by
  unfold maxLen at hs
  go_enter Try.func13, Try.ntmps13
  go_wp2
  go_loop [0, 8] (fun x i => ∃ k : Nat, k ≤ s.size ∧ i = .int .i64 k ∧ x = .int .u64 (hash h (s.data.toList.take k))) (fun _ i => s.size - (intOf i).toNat)
  case atStart => exact ⟨0, Nat.zero_le _, rfl, rfl⟩
  case round =>
    obtain ⟨k, hk, rfl, rfl⟩ := hrel
    by_cases hlt : k < s.size
    · have HS : Hid (hash h (s.data.toList.take (k + 1)) = hash1 (hash h (s.data.toList.take k)) (s[k].toNat : Int)) := by rw [take_snoc s k hlt]; exact hash_snoc _ _ _
      go_wp2
      go_round
      case rel => exact ⟨k + 1, by omega, by go_num, by rw [HS.out]; rfl⟩
      case measure => simp [intOf]; omega
    · go_wp2
      go_ret
      exact ⟨ret_int (by rw [List.take_of_length_le (by simp; omega)]), 0, rfl⟩
theorem hash_ref (h : Int) (s : ByteArray) (w : World) (hs : s.size ≤ maxLen) :
    Calls Try.prog 14 #[.int .u64 h, .string s] w fun e w' => e = .returned (.int .u64 (hash h s.data.toList)) ∧ ∃ m, w' = w.drewN m := by
  unfold maxLen at hs
  go_enter Try.func14, Try.ntmps14
  go_wp2
  go_loop [0, 5] (fun x i => ∃ k : Nat, k ≤ s.size ∧ i = .int .i64 k ∧ x = .int .u64 (hash h (s.data.toList.take k))) (fun _ i => s.size - (intOf i).toNat)
  case atStart => exact ⟨0, Nat.zero_le _, rfl, rfl⟩
  case round =>
    obtain ⟨k, hk, rfl, rfl⟩ := hrel
    by_cases hlt : k < s.size
    · have HS : Hid (hash h (s.data.toList.take (k + 1)) = hash1 (hash h (s.data.toList.take k)) (s[k].toNat : Int)) := by rw [take_snoc s k hlt]; exact hash_snoc _ _ _
      go_wp2
      go_round
      case rel => exact ⟨k + 1, by omega, by go_num, by rw [HS.out]; rfl⟩
      case measure => simp [intOf]; omega
    · go_wp2
      go_ret
      exact ⟨ret_int (by rw [List.take_of_length_le (by simp; omega)]), 0, rfl⟩
def retDec : Option (Nat × Nat) → Ending
  | none => .returned (.tuple #[.int .u64 0, .int .i64 0, .bool false])
  | some (v, n) => .returned (.tuple #[.int .u64 v, .int .i64 n, .bool true])
theorem retDec_none {o : Option (Nat × Nat)} (h : o = none) : .returned (.tuple #[.int .u64 0, .int .i64 0, .bool false]) = retDec o := by rw [h]; rfl
theorem retDec_some {o : Option (Nat × Nat)} {v n : Nat} {a b : Int} (h : o = some (v, n)) (ha : a = v) (hb : b = n) : .returned (.tuple #[.int .u64 a, .int .i64 b, .bool true]) = retDec o := by rw [h, ha, hb]; rfl
set_option maxRecDepth 100000 in
theorem uvarint_any (s : ByteArray) (w : World) (hs : s.size ≤ maxLen) :
    Calls Try.prog 8 #[.string s] w fun e w' => e = retDec (dec s.data.toList 0) ∧ ∃ m, w' = w.drewN m := by
  unfold maxLen at hs
  go_enter Try.func8, Try.ntmps8
  go_wp2
  all_goals
    go_loop [5, 11] (fun x i => ∃ k : Nat, k ≤ s.size ∧ k ≤ 10 ∧ i = .int .i64 k ∧ ∃ X : Nat, x = .int .u64 X ∧ Hid (X < 128 ^ k) ∧ Hid (Inv s k X)) (fun _ i => 10 - (intOf i).toNat)
    case atStart => exact ⟨0, Nat.zero_le _, Nat.zero_le _, rfl, 0, rfl, Lib.hid (by decide), Lib.hid (Inv.start _)⟩
    case round =>
      obtain ⟨k, hk, hk', rfl, X, rfl, hX, hr⟩ := hrel
      by_cases hlt : k < s.size
      · by_cases hlt' : k < 10
        · by_cases hE : endsB s[k].toNat k = true
          · go_wp2_with (go_at_call 18; refine (ends_any _ _ _ (u8_le _) hlt').mono ?_; rintro e w' ⟨rfl, m1, rfl⟩)
            · go_ret3
              exact ⟨retDec_some (hr.out.ends hlt' hlt ‹_› hE) (or_step X _ k (u8_256 _) (by omega) hX.out) rfl, _, rfl⟩
            · go_round
              case rel => exact ⟨k + 1, by omega, by omega, by go_num, _, by rw [or_step X _ k (u8_256 _) (by omega) hX.out], Lib.hid (inv_lt _ _ _ hX.out), Lib.hid (hr.out.more hlt' hlt ‹_›)⟩
              case measure => simp [intOf]; omega
          · have hE' : endsB s[k].toNat k = false := by simpa using hE
            go_wp2_with (go_at_call 18; refine (ends_any _ _ _ (u8_le _) hlt').mono ?_; rintro e w' ⟨rfl, m1, rfl⟩)
            · go_ret3
              exact ⟨retDec_none (hr.out.bad hlt' hlt ‹_› hE'), _, rfl⟩
            · go_round
              case rel => exact ⟨k + 1, by omega, by omega, by go_num, _, by rw [or_step X _ k (u8_256 _) (by omega) hX.out], Lib.hid (inv_lt _ _ _ hX.out), Lib.hid (hr.out.more hlt' hlt ‹_›)⟩
              case measure => simp [intOf]; omega
        · go_wp2
          all_goals first | (exfalso; omega) | skip
          all_goals
            go_ret3
            exact ⟨retDec_none (hr.out.out (Or.inl (by omega))), 0, rfl⟩
      · go_wp2
        all_goals first | (exfalso; omega) | skip
        all_goals
          go_ret3
          exact ⟨retDec_none (hr.out.out (Or.inr (by omega))), 0, rfl⟩
end Go.Proofs.Yteghkamgbhjoeab
