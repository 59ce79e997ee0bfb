import Derived.Test.YteghkamgbhjoeabFn2
namespace Go.Proofs.Yteghkamgbhjoeab
set_option linter.unusedVariables false
open Go.ChangeShapes Go.WideShapes Go.ChangeAt Go.RowKit Go.Proofs.Yteghkamgbhjoeab.Num
theorem drewN_below (w : World) (n : Nat) : Below w.heap.size w (w.drewN n) := ⟨rfl, rfl, rfl, Nat.le_refl _, fun _ _ => rfl⟩
theorem wf_u32 {a : Int} (h : (Lit.int .u32 a).wf = true) : 0 ≤ a ∧ a ≤ 4294967295 := by simpa [Lit.wf, IntKind.min, IntKind.max, IntKind.bits, IntKind.signed] using h
theorem wf_u64 {a : Int} (h : (Lit.int .u64 a).wf = true) : 0 ≤ a ∧ a ≤ 18446744073709551615 := by simpa [Lit.wf, IntKind.min, IntKind.max, IntKind.bits, IntKind.signed] using h
theorem wf_i64 {a : Int} (h : (Lit.int .i64 a).wf = true) : -9223372036854775808 ≤ a ∧ a ≤ 9223372036854775807 := by simpa [Lit.wf, IntKind.min, IntKind.max, IntKind.bits, IntKind.signed] using h
theorem uv_awake (w : World) : Calls Try.prog 8 #[.string { data := #[172, 2] }] w fun e w' => e = .returned (.tuple #[.int .u64 300, .int .i64 2, .bool true]) ∧ ∃ m, w' = w.drewN m :=
  (uvarint_any { data := #[172, 2] } w (by decide)).mono fun _ _ ⟨he, hw⟩ => ⟨by rw [he]; rfl, hw⟩
theorem sext_awake (w : World) : Calls Try.prog 11 #[.int .u32 128, .int .i64 8] w fun e w' => e = .returned (.int .u32 4294967168) ∧ ∃ m, w' = w.drewN m :=
  (sext_any 128 8 w (by decide) (by decide)).mono fun _ _ ⟨he, hw⟩ => ⟨by rw [he]; exact ret_int (by decide +kernel), hw⟩
theorem div_awake (w : World) : Calls Try.prog 15 #[.int .u32 4294967289, .int .u32 2] w fun e w' => e = .returned (.tuple #[.int .u32 4294967293, .int .u32 4294967295]) ∧ ∃ m, w' = w.drewN m :=
  (div_any _ _ w (by decide) (by decide) (by decide) (by decide)).mono fun _ _ ⟨he, hw⟩ => ⟨by rw [he]; exact ret_int2 (by decide +kernel) (by decide +kernel), hw⟩
theorem awake_any  (w : World)  :
    Calls Try.prog 7 #[] w fun e w' => e = .returned (.bool true) ∧ ∃ n, w' = w.drewN n := by
  go_enter Try.func7, Try.ntmps7
  go_wp2_with (first
    | (go_at_call 15; refine (div_awake _).mono ?_; rintro e w' ⟨rfl, n1, rfl⟩)
    | (go_at_call 8; refine (uv_awake _).mono ?_; rintro e w' ⟨rfl, n2, rfl⟩)
    | (go_at_call 16; refine (next_any _ _).mono ?_; rintro e w' ⟨rfl, n3, rfl⟩)
    | (go_at_call 17; refine (next_ref _ _).mono ?_; rintro e w' ⟨rfl, n4, rfl⟩)
    | (go_at_call 11; refine (sext_awake _).mono ?_; rintro e w' ⟨rfl, n5, rfl⟩))
  go_ret
  exact ⟨rfl, _, rfl⟩
end Go.Proofs.Yteghkamgbhjoeab
