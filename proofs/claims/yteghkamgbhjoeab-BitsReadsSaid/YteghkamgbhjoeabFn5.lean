import Derived.Test.YteghkamgbhjoeabFn4
import Derived.Test.YteghkamgbhjoeabNum4
namespace Go.Proofs.Yteghkamgbhjoeab
set_option linter.unusedVariables false
open Go.ChangeShapes Go.WideShapes Go.ChangeAt Go.RowKit Go.Proofs.Yteghkamgbhjoeab.Num Go.Proofs.Yteghkamgbhjoeab.Mem
set_option maxRecDepth 100000 in
theorem uvarint_ref (s : ByteArray) (w : World) (hs : s.size ≤ maxLen) :
    Calls Try.prog 9 #[.string s] w fun e w' => e = retDec (dec s.data.toList 0) ∧ ∃ m, w' = w.drewN m := by
  unfold maxLen at hs
  go_enter Try.func9, Try.ntmps9
  go_wp2
  go_loop [5, 6] (fun x i => ∃ k : Nat, k ≤ s.size ∧ k ≤ 10 ∧ i = .int .i64 k ∧ ∃ X : Nat, x = .int .u64 X ∧ Hid (X < 128 ^ k) ∧ Hid (Inv s k X)) (fun _ i => 10 - (intOf i).toNat)
  case atStart => exact ⟨0, Nat.zero_le _, Nat.zero_le _, rfl, 0, rfl, Lib.hid (by decide), Lib.hid (Inv.start _)⟩
  case round =>
    obtain ⟨k, hk, hk', rfl, X, rfl, hX, hr⟩ := hrel
    by_cases hlt : k < s.size
    · by_cases hlt' : k < 10
      · go_wp2
        · go_ret3
          exact ⟨retDec_none (hr.out.bad9 (by omega) hlt (u64b_gt1 ‹_›)), 0, rfl⟩
        · go_ret3
          exact ⟨retDec_none (hr.out.bad hlt' hlt (u64b_lt ‹_›) (endsB_no (Or.inl ⟨by omega, u64b_zero ‹_›⟩))), 0, rfl⟩
        · go_ret3
          exact ⟨retDec_some (hr.out.ends hlt' hlt (u64b_lt ‹_›) (endsB_mk (fun _ => u64b_pos ‹_›) (Or.inr (u64b_le1 ‹_›)))) (or_step_ref9 X k _ (by omega) hX.out) (by show (10 : Int) = ((k + 1 : Nat) : Int); omega), 0, rfl⟩
        · go_ret3
          exact ⟨retDec_none (hr.out.bad hlt' hlt (u64b_lt ‹_›) (endsB_no (Or.inl ⟨by omega, u64b_zero ‹_›⟩))), 0, rfl⟩
        · go_ret3
          exact ⟨retDec_some (hr.out.ends hlt' hlt (u64b_lt ‹_›) (endsB_mk (fun _ => u64b_pos ‹_›) (Or.inl (by omega)))) (or_step_ref X k _ (by omega) hX.out) rfl, 0, rfl⟩
        · go_ret3
          exact ⟨retDec_some (hr.out.ends hlt' hlt (u64b_lt ‹_›) (endsB_mk (fun h => by omega) (Or.inl (by omega)))) (or_step_ref X k _ (by omega) hX.out) rfl, 0, rfl⟩
        · go_round
          case rel => exact ⟨k + 1, by omega, by omega, by go_num, _, by rw [or_step_ref X k _ (by omega) hX.out], Lib.hid (inv_lt _ _ _ hX.out), Lib.hid (hr.out.more hlt' hlt (u64b_ge ‹_›))⟩
          case measure => simp [intOf]; omega
      · go_wp2
        all_goals first | (exfalso; omega) | skip
        all_goals
          go_ret3
          exact ⟨retDec_none (hr.out.out (Or.inl (by omega))), 0, rfl⟩
    · go_wp2
      all_goals first | (exfalso; omega) | skip
      all_goals
        go_ret3
        exact ⟨retDec_none (hr.out.out (Or.inr (by omega))), 0, rfl⟩
end Go.Proofs.Yteghkamgbhjoeab
