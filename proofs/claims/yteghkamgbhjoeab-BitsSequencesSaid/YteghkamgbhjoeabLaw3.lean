import Derived.Test.YteghkamgbhjoeabFn5
import Derived.Test.YteghkamgbhjoeabLaw1
import Derived.Lib.QuietBelow
import Derived.BigQuiet
namespace Go.Proofs.Yteghkamgbhjoeab
set_option linter.unusedVariables false
open Go.ChangeShapes Go.WideShapes Go.ChangeAt Go.RowKit Go.Proofs.Yteghkamgbhjoeab.Num Go.Proofs.Yteghkamgbhjoeab.Mem
theorem uv_some {s : ByteArray} {v n : Nat} (w : World) (hs : s.size ≤ maxLen) (h : Hid (dec s.data.toList 0 = some (v, n))) :
    Calls Try.prog 8 #[.string s] w fun e w' => e = .returned (.tuple #[.int .u64 v, .int .i64 n, .bool true]) ∧ ∃ m, w' = w.drewN m :=
  (uvarint_any s w hs).mono fun _ _ ⟨he, hw⟩ => ⟨by rw [he, h.out]; rfl, hw⟩
theorem uvr_some {s : ByteArray} {v n : Nat} (w : World) (hs : s.size ≤ maxLen) (h : Hid (dec s.data.toList 0 = some (v, n))) :
    Calls Try.prog 9 #[.string s] w fun e w' => e = .returned (.tuple #[.int .u64 v, .int .i64 n, .bool true]) ∧ ∃ m, w' = w.drewN m :=
  (uvarint_ref s w hs).mono fun _ _ ⟨he, hw⟩ => ⟨by rw [he, h.out]; rfl, hw⟩
theorem uv_none {s : ByteArray} (w : World) (hs : s.size ≤ maxLen) (h : Hid (dec s.data.toList 0 = none)) :
    Calls Try.prog 8 #[.string s] w fun e w' => e = .returned (.tuple #[.int .u64 0, .int .i64 0, .bool false]) ∧ ∃ m, w' = w.drewN m :=
  (uvarint_any s w hs).mono fun _ _ ⟨he, hw⟩ => ⟨by rw [he, h.out]; rfl, hw⟩
theorem uvr_none {s : ByteArray} (w : World) (hs : s.size ≤ maxLen) (h : Hid (dec s.data.toList 0 = none)) :
    Calls Try.prog 9 #[.string s] w fun e w' => e = .returned (.tuple #[.int .u64 0, .int .i64 0, .bool false]) ∧ ∃ m, w' = w.drewN m :=
  (uvarint_ref s w hs).mono fun _ _ ⟨he, hw⟩ => ⟨by rw [he, h.out]; rfl, hw⟩
theorem awake_below (w : World) : Calls Try.prog 7 #[] w fun e w' => e = .returned (.bool true) ∧ Below w.heap.size w w' :=
  (awake_any w).mono fun _ _ ⟨he, _, hw⟩ => ⟨he, by rw [hw]; exact drewN_below _ _⟩
set_option maxRecDepth 100000 in
theorem reads_walk (s : ByteArray) (hs : s.size ≤ maxLen) (w : World) :
    Calls Try.prog 3 #[.string s] w fun e w' => e = .returned (.bool true) ∧ Below w.heap.size w w' := by
  have hs0 := hs
  unfold maxLen at hs
  by_cases c : s.size ≤ 100
  · cases hd : dec s.data.toList 0 with
    | none =>
      have hD := Lib.hid hd
      clear hd
      go_enter Try.func3, Try.ntmps3
      go_wp2_with (first
        | (go_at_call 8; refine (uv_none _ hs0 hD).mono ?_; rintro e w' ⟨rfl, m1, rfl⟩)
        | (go_at_call 9; refine (uvr_none _ hs0 hD).mono ?_; rintro e w' ⟨rfl, m2, rfl⟩))
      all_goals first | (exfalso; omega) | skip
      refine wp_region_quiet_below (by kernel_rfl) (by kernel_rfl) ?_
      repeat (go_big_quiet_step ((go_at_call 7; exact Calls.regrown_of (awake_below _))))
      refine wpQuiet_nil ?_
      rintro W1 ⟨p, rfl⟩
      go_wp2
      go_ret
      exact ⟨rfl, below_step (drewN_below _ _) (below_regrown _ _ _)⟩
    | some p => 
      obtain ⟨v, n⟩ := p
      obtain ⟨h1, h2, h3, h4⟩ := dec_is hd
      have hD := Lib.hid hd
      clear hd
      have hv : Hid (v < 18446744073709551616) := h4
      have hE : s.extract 0 n = encS v := ByteArray.ext (Array.toList_inj.1 (by rw [encS_list, h3]; simp [ByteArray.data_extract]))
      clear h3 h4
      have h2 : n ≤ s.size := by simpa using h2
      go_enter Try.func3, Try.ntmps3
      go_wp2_with (first
        | (go_at_call 8; refine (uv_some _ hs0 hD).mono ?_; rintro e w' ⟨rfl, m1, rfl⟩)
        | (go_at_call 9; refine (uvr_some _ hs0 hD).mono ?_; rintro e w' ⟨rfl, m2, rfl⟩))
      all_goals first | (exfalso; omega) | skip
      refine wp_region_quiet_below (by kernel_rfl) (by kernel_rfl) ?_
      repeat (go_big_quiet_step (first | (go_at_call 7; exact Calls.regrown_of (awake_below _)) | (go_at_call 10; exact Calls.regrown_of (put_any v _ hv))))
      refine wpQuiet_nil ?_
      rintro W1 ⟨p, rfl⟩
      go_wp2
      go_ret
      exact ⟨rfl, below_step (drewN_below _ _) (below_regrown _ _ _)⟩
  · go_enter Try.func3, Try.ntmps3
    go_wp2_with (go_at_call 7; refine (awake_any _).mono ?_; rintro e w' ⟨rfl, n7, rfl⟩)
    all_goals first | (exfalso; omega) | skip
    all_goals go_ret
    all_goals exact ⟨rfl, drewN_below _ _⟩
end Go.Proofs.Yteghkamgbhjoeab
