import Derived.Test.YteghkamgbhjoeaaFn2
namespace Go.Proofs.Yteghkamgbhjoeaa
set_option linter.unusedVariables false
open Go.ChangeShapes Go.WideShapes Go.ChangeAt Go.RowKit Go.Proofs.Yteghkamgbhjoeaa.Num
theorem drewN_below (w : World) (n : Nat) : Below w.heap.size w (w.drewN n) := ⟨rfl, rfl, rfl, Nat.le_refl _, fun _ _ => rfl⟩
theorem wf_u32 {a : Int} (h : (Lit.int .u32 a).wf = true) : 0 ≤ a ∧ a ≤ 4294967295 := by simpa [Lit.wf, IntKind.min, IntKind.max, IntKind.bits, IntKind.signed] using h
theorem wf_u64 {a : Int} (h : (Lit.int .u64 a).wf = true) : 0 ≤ a ∧ a ≤ 18446744073709551615 := by simpa [Lit.wf, IntKind.min, IntKind.max, IntKind.bits, IntKind.signed] using h
theorem wf_i64 {a : Int} (h : (Lit.int .i64 a).wf = true) : -9223372036854775808 ≤ a ∧ a ≤ 9223372036854775807 := by simpa [Lit.wf, IntKind.min, IntKind.max, IntKind.bits, IntKind.signed] using h
theorem uv_awake (w : World) : Calls Try.prog 23 #[.string { data := #[172, 2] }] w fun e w' => e = .returned (.tuple #[.int .u64 300, .int .i64 2, .bool true]) ∧ ∃ m, w' = w.drewN m :=
  (uvarint_any { data := #[172, 2] } w (by decide)).mono fun _ _ ⟨he, hw⟩ => ⟨by rw [he]; rfl, hw⟩
theorem sext_awake (w : World) : Calls Try.prog 9 #[.int .u32 128, .int .i64 8] w fun e w' => e = .returned (.int .u32 4294967168) ∧ ∃ m, w' = w.drewN m :=
  (sext_any 128 8 w (by decide) (by decide)).mono fun _ _ ⟨he, hw⟩ => ⟨by rw [he]; exact ret_int (by decide +kernel), hw⟩
theorem div_awake (w : World) : Calls Try.prog 16 #[.int .u32 4294967289, .int .u32 2] w fun e w' => e = .returned (.tuple #[.int .u32 4294967293, .int .u32 4294967295]) ∧ ∃ m, w' = w.drewN m :=
  (div_any _ _ w (by decide) (by decide) (by decide) (by decide)).mono fun _ _ ⟨he, hw⟩ => ⟨by rw [he]; exact ret_int2 (by decide +kernel) (by decide +kernel), hw⟩
theorem awake_any  (w : World)  :
    Calls Try.prog 15 #[] w fun e w' => e = .returned (.bool true) ∧ ∃ n, w' = w.drewN n := by
  go_enter Try.func15, Try.ntmps15
  go_wp2_with (first
    | (go_at_call 16; refine (div_awake _).mono ?_; rintro e w' ⟨rfl, n1, rfl⟩)
    | (go_at_call 23; refine (uv_awake _).mono ?_; rintro e w' ⟨rfl, n2, rfl⟩)
    | (go_at_call 20; refine (next_any _ _).mono ?_; rintro e w' ⟨rfl, n3, rfl⟩)
    | (go_at_call 21; refine (next_ref _ _).mono ?_; rintro e w' ⟨rfl, n4, rfl⟩)
    | (go_at_call 9; refine (sext_awake _).mono ?_; rintro e w' ⟨rfl, n5, rfl⟩))
  go_ret
  exact ⟨rfl, _, rfl⟩
theorem fields_walk (a0 : Int) (a1 : Int) (a2 : Int) (a3 : Int) (w0 : (Lit.int .u32 a0).wf = true) (w1 : (Lit.int .u32 a1).wf = true) (w2 : (Lit.int .i64 a2).wf = true) (w3 : (Lit.int .i64 a3).wf = true) (w : World) :
    Calls Try.prog 3 #[.int .u32 a0, .int .u32 a1, .int .i64 a2, .int .i64 a3] w fun e w' => e = .returned (.bool true) ∧ Below w.heap.size w w' := by
  have b0 : 0 ≤ a0 ∧ a0 ≤ 4294967295 := wf_u32 w0
  have b1 : 0 ≤ a1 ∧ a1 ≤ 4294967295 := wf_u32 w1
  go_enter Try.func3, Try.ntmps3
  go_wp2_with (first
    | (go_at_call 9; refine (sext_any _ _ _ (by omega) (by omega)).mono ?_; rintro e w' ⟨rfl, n1, rfl⟩)
    | (go_at_call 10; refine (sext_ref _ _ _ (by omega) (by omega)).mono ?_; rintro e w' ⟨rfl, n2, rfl⟩)
    | (go_at_call 11; refine (field_any _ _ _ _ (by omega) (by omega)).mono ?_; rintro e w' ⟨rfl, n3, rfl⟩)
    | (go_at_call 12; refine (field_ref _ _ _ _ (by omega) (by omega)).mono ?_; rintro e w' ⟨rfl, n4, rfl⟩)
    | (go_at_call 13; refine (set_any _ _ _ _ _).mono ?_; rintro e w' ⟨rfl, n5, rfl⟩)
    | (go_at_call 14; refine (set_ref _ _ _ _ _).mono ?_; rintro e w' ⟨rfl, n6, rfl⟩)
    | (go_at_call 15; refine (awake_any _).mono ?_; rintro e w' ⟨rfl, n7, rfl⟩))
  go_ret
  exact ⟨rfl, drewN_below _ _⟩
theorem parts_walk (a0 : Int) (a1 : Int) (a2 : Int) (a3 : Int) (w0 : (Lit.int .u32 a0).wf = true) (w1 : (Lit.int .u32 a1).wf = true) (w2 : (Lit.int .i64 a2).wf = true) (w3 : (Lit.int .i64 a3).wf = true) (w : World) :
    Calls Try.prog 4 #[.int .u32 a0, .int .u32 a1, .int .i64 a2, .int .i64 a3] w fun e w' => e = .returned (.bool true) ∧ Below w.heap.size w w' := by
  have b0 : 0 ≤ a0 ∧ a0 ≤ 4294967295 := wf_u32 w0
  have b1 : 0 ≤ a1 ∧ a1 ≤ 4294967295 := wf_u32 w1
  have b3 := wf_i64 w3
  by_cases h : 0 ≤ a2 ∧ a2 ≤ 31 ∧ 1 ≤ a3 ∧ a3 ≤ 32 - a2
  · obtain ⟨h1, h2, h3, h4⟩ := h
    have c1 := set_bd a0 a2 a3 a1 b0.1 b0.2 h1 h2 h3 h4 b1.1 b1.2
    have e1 : fieldR (setR a0 a2 a3 a1) a2 a3 = fieldR a1 0 a3 := by
      rw [setR_yes h1 h2 h3, fieldR_yes h1 h2 h3, fieldR_yes (by omega) (by omega) h3]
      exact get_set a0 a2 a3 a1 b0.1 b0.2 h1 h2 h3 h4 b1.1 b1.2
    have e2 : setR a0 a2 a3 (fieldR a0 a2 a3) = a0 := by
      rw [setR_yes h1 h2 h3, fieldR_yes h1 h2 h3]
      exact set_get a0 a2 a3 b0.1 b0.2 h1 h2 h3 h4
    have e3 : setR (setR a0 a2 a3 a1) a2 a3 (fieldR a0 a2 a3) = a0 := by
      rw [setR_yes h1 h2 h3, setR_yes h1 h2 h3, fieldR_yes h1 h2 h3]
      exact set_set a0 a2 a3 a1 b0.1 b0.2 h1 h2 h3 h4 b1.1 b1.2
    have c2 : 0 ≤ setR a0 a2 a3 a1 ∧ setR a0 a2 a3 a1 ≤ 4294967295 := by rw [setR_yes h1 h2 h3]; exact c1
    go_enter Try.func4, Try.ntmps4
    go_wp2_with (first
      | (go_at_call 11; refine (field_any _ _ _ _ (by omega) (by omega)).mono ?_; rintro e w' ⟨rfl, n3, rfl⟩)
      | (go_at_call 13; refine (set_any _ _ _ _ _).mono ?_; rintro e w' ⟨rfl, n5, rfl⟩)
      | (go_at_call 15; refine (awake_any _).mono ?_; rintro e w' ⟨rfl, n7, rfl⟩))
    all_goals first | (exfalso; omega) | skip
    go_ret
    exact ⟨rfl, drewN_below _ _⟩
  · go_enter Try.func4, Try.ntmps4
    go_wp2_with (go_at_call 15; refine (awake_any _).mono ?_; rintro e w' ⟨rfl, n7, rfl⟩)
    all_goals first | (exfalso; omega) | skip
    all_goals go_ret
    all_goals exact ⟨rfl, drewN_below _ _⟩
theorem divides_walk (a0 : Int) (a1 : Int) (w0 : (Lit.int .u32 a0).wf = true) (w1 : (Lit.int .u32 a1).wf = true) (w : World) :
    Calls Try.prog 5 #[.int .u32 a0, .int .u32 a1] w fun e w' => e = .returned (.bool true) ∧ Below w.heap.size w w' := by
  have b0 : 0 ≤ a0 ∧ a0 ≤ 4294967295 := wf_u32 w0
  have b1 : 0 ≤ a1 ∧ a1 ≤ 4294967295 := wf_u32 w1
  by_cases h : a1 = 0
  · subst h
    have e1 : sq a0 0 = 4294967295 := rfl
    have e2 : sr a0 0 = a0 := rfl
    go_enter Try.func5, Try.ntmps5
    go_wp2_with (first
      | (go_at_call 16; refine (div_any _ _ _ (by omega) (by omega) (by omega) (by omega)).mono ?_; rintro e w' ⟨rfl, n3, rfl⟩)
      | (go_at_call 17; refine (div_ref _ _ _ (by omega) (by omega) (by omega) (by omega)).mono ?_; rintro e w' ⟨rfl, n5, rfl⟩)
      | (go_at_call 15; refine (awake_any _).mono ?_; rintro e w' ⟨rfl, n7, rfl⟩))
    go_ret
    exact ⟨rfl, drewN_below _ _⟩
  · have h1 : (a1 == 0) = false := by simpa using h
    have e0 := div_back a0 a1 b0.1 b0.2 h b1.1 b1.2
    have e1 : (sq a0 a1 * a1 + sr a0 a1) % 4294967296 = a0 := by omega
    obtain ⟨s1, s2, s3, s4⟩ := sr_small a0 a1 h b1.1 b1.2
    have s5 := sr_sign a0 a1 b0.1 b0.2 h b1.1 b1.2
    have c1 := wrap32_bd (sr a0 a1)
    have c2 := wrap32_bd a1
    go_enter Try.func5, Try.ntmps5
    go_wp2_with (first
      | (go_at_call 16; refine (div_any _ _ _ (by omega) (by omega) (by omega) (by omega)).mono ?_; rintro e w' ⟨rfl, n3, rfl⟩)
      | (go_at_call 17; refine (div_ref _ _ _ (by omega) (by omega) (by omega) (by omega)).mono ?_; rintro e w' ⟨rfl, n5, rfl⟩)
      | (go_at_call 15; refine (awake_any _).mono ?_; rintro e w' ⟨rfl, n7, rfl⟩))
    all_goals go_ret
    all_goals exact ⟨rfl, drewN_below _ _⟩
theorem hashes_walk (h : Int) (a b : ByteArray) (ha : a.size ≤ maxLen) (hb : b.size ≤ maxLen) (w : World) :
    Calls Try.prog 6 #[.int .u64 h, .string a, .string b] w fun e w' => e = .returned (.bool true) ∧ Below w.heap.size w w' := by
  unfold maxLen at ha hb
  by_cases c : a.size ≤ 2000 ∧ b.size ≤ 2000
  · obtain ⟨c1, c2⟩ := c
    have e1 : hash (hash h a.data.toList) b.data.toList = hash h (a ++ b).data.toList := by rw [hash_append]; simp
    have hab : (a ++ b).size ≤ maxLen := by unfold maxLen; simp; omega
    have hab2 : (a ++ b).data.toList = a.data.toList ++ b.data.toList := by simp
    go_enter Try.func6, Try.ntmps6
    go_wp2_with (first
      | (go_at_call 18; refine (hash_any _ _ _ (by first | assumption | (unfold maxLen; omega) | decide)).mono ?_; rintro e w' ⟨rfl, n3, rfl⟩)
      | (go_at_call 19; refine (hash_ref _ _ _ (by first | assumption | (unfold maxLen; omega))).mono ?_; rintro e w' ⟨rfl, n5, rfl⟩)
      | (go_at_call 15; refine (awake_any _).mono ?_; rintro e w' ⟨rfl, n7, rfl⟩))
    all_goals go_ret
    all_goals exact ⟨rfl, drewN_below _ _⟩
  · go_enter Try.func6, Try.ntmps6
    go_wp2_with (go_at_call 15; refine (awake_any _).mono ?_; rintro e w' ⟨rfl, n7, rfl⟩)
    all_goals first | (exfalso; omega) | skip
    all_goals go_ret
    all_goals exact ⟨rfl, drewN_below _ _⟩
theorem random_walk (s n : Int) (w0 : (Lit.int .u64 s).wf = true) (w1 : (Lit.int .i64 n).wf = true) (w : World) :
    Calls Try.prog 7 #[.int .u64 s, .int .i64 n] w fun e w' => e = .returned (.bool true) ∧ Below w.heap.size w w' := by
  have b0 := Lib.hid (wf_u64 w0)
  by_cases c : 0 ≤ n ∧ n ≤ 200
  · obtain ⟨c1, c2⟩ := c
    go_enter Try.func7, Try.ntmps7
    go_wp2
    all_goals first | (exfalso; omega) | skip
    go_loop [5, 6, 7] (fun x y i => ∃ k : Nat, k ≤ n ∧ i = .int .i64 k ∧ x = .int .u64 (seedAt s k) ∧ y = .int .u64 (seedAt s k)) (fun _ _ i => (n - intOf i).toNat)
    case atStart => exact ⟨0, by omega, rfl, by rw [seedAt_zero b0.out.1 b0.out.2], by rw [seedAt_zero b0.out.1 b0.out.2]⟩
    case round =>
      obtain ⟨k, hk, rfl, rfl, rfl⟩ := hrel
      by_cases hlt : (k : Int) < n
      · go_wp2_with (first
          | (go_at_call 20; refine (next_any0 _ _).mono ?_; rintro e w' ⟨rfl, rfl⟩)
          | (go_at_call 21; refine (next_ref0 _ _).mono ?_; rintro e w' ⟨rfl, rfl⟩))
        go_round
        case rel => exact ⟨k + 1, by omega, by go_num, by rw [seedAt_succ], by rw [seedAt_succ]⟩
        case measure => simp [intOf]; omega
      · have e := seedAt_end s n k (by omega)
        go_wp2_with (go_at_call 15; refine (awake_any _).mono ?_; rintro e w' ⟨rfl, n7, rfl⟩)
        go_ret
        exact ⟨rfl, drewN_below _ _⟩
  · go_enter Try.func7, Try.ntmps7
    go_wp2_with (go_at_call 15; refine (awake_any _).mono ?_; rintro e w' ⟨rfl, n7, rfl⟩)
    all_goals first | (exfalso; omega) | skip
    all_goals go_ret
    all_goals exact ⟨rfl, drewN_below _ _⟩
end Go.Proofs.Yteghkamgbhjoeaa
