import Derived.Test.YteghkamgbhjoeaaFn4
import Derived.Test.YteghkamgbhjoeaaNum4
import Derived.Test.YteghkamgbhjoeaaLaw1
namespace Go.Proofs.Yteghkamgbhjoeaa
set_option linter.unusedVariables false
open Go.ChangeShapes Go.WideShapes Go.ChangeAt Go.RowKit Go.Proofs.Yteghkamgbhjoeaa.Num Go.Proofs.Yteghkamgbhjoeaa.Mem
theorem uv_back (x : Nat) (s : ByteArray) (w : World) (hx : Hid (x < 18446744073709551616)) (hs : s.size ≤ 100) :
    Calls Try.prog 23 #[.string (encS x ++ s)] w fun e w' => e = .returned (.tuple #[.int .u64 x, .int .i64 (encS x).size, .bool true]) ∧ ∃ m, w' = w.drewN m := by
  have h1 := encS_le x
  refine (uvarint_any _ w (by unfold maxLen; rw [ByteArray.size_append]; omega)).mono fun e w' ⟨he, hw⟩ => ⟨?_, hw⟩
  have h2 : (encS x ++ s).data.toList = enc x ++ s.data.toList := by rw [ByteArray.data_append, Array.toList_append, encS_list]
  rw [he, h2, dec_enc x _ hx.out, encS_size]; rfl
set_option maxRecDepth 100000 in
theorem varints_walk (x : Int) (s : ByteArray) (w0 : (Lit.int .u64 x).wf = true) (hs : s.size ≤ maxLen) (w : World) :
    Calls Try.prog 8 #[.int .u64 x, .string s] w fun e w' => e = .returned (.bool true) ∧ Below w.heap.size w w' := by
  unfold maxLen at hs
  have b0 := wf_u64 w0
  obtain ⟨n, rfl⟩ : ∃ n : Nat, x = n := ⟨x.toNat, by omega⟩
  have hx : Hid (n < 18446744073709551616) := by show _ < _; omega
  clear b0 w0
  have hl := encS_le n
  by_cases c : s.size ≤ 100
  · go_enter Try.func8, Try.ntmps8
    go_wp2_with (first
      | (go_at_call 22; refine (put_any n _ hx).mono ?_; rintro e w' ⟨rfl, hb1⟩)
      | (go_at_call 24; refine (put_ref n _ hx).mono ?_; rintro e w' ⟨rfl, hb2⟩)
      | (go_at_call 23; refine (uv_back n s _ hx (by omega)).mono ?_; rintro e w' ⟨rfl, m1, rfl⟩)
      | (go_at_call 15; refine (awake_any _).mono ?_; rintro e w' ⟨rfl, n7, rfl⟩))
    all_goals first | (exfalso; omega) | skip
    go_ret
    exact ⟨rfl, below_drewN (below_step (below_drewN hb1 _) hb2) _⟩
  · go_enter Try.func8, Try.ntmps8
    go_wp2_with (go_at_call 15; refine (awake_any _).mono ?_; rintro e w' ⟨rfl, n7, rfl⟩)
    all_goals first | (exfalso; omega) | skip
    all_goals go_ret
    all_goals exact ⟨rfl, drewN_below _ _⟩
end Go.Proofs.Yteghkamgbhjoeaa
