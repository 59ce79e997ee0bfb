import Derived.Test.YthghbcjaokpilaaDoorProg
import Derived.WalkKit
import Derived.ProofKit
import Derived.OpenShut
import Derived.Handy
import Derived.Deep.QuietTactic
import Derived.BigQuiet
import Derived.Test.YthghbcjaokpilaaDoorNum
namespace Go.Proofs.YthghbcjaokpilaaDoor
set_option linter.unusedVariables false
open Go.ChangeShapes Go.WideShapes Go.ChangeAt Go.RowKit Go.Proofs.YthghbcjaokpilaaDoor.Num
theorem ret_int {k : IntKind} {a b : Int} (h : a = b) : Ending.returned (.int k a) = .returned (.int k b) := by rw [h]
theorem ret_bool {a b : Bool} (h : a = b) : Ending.returned (.bool a) = .returned (.bool b) := by rw [h]
theorem ret_int2 {k l : IntKind} {a b c d : Int} (h : a = c) (h' : b = d) : Ending.returned (.tuple #[.int k a, .int l b]) = .returned (.tuple #[.int k c, .int l d]) := by rw [h, h']
theorem quiet_add {P : Program} {f : FuncId} {args : Array Value} {w : World} {a n : Nat} {v : Value}
    (h : Calls P f args (w.drewN (a + n)) fun e w' => e = .returned v ∧ ∃ m, w' = (w.drewN (a + n)).drewN m) :
    Calls P f args (w.drewN (a + n)) fun e w'' => e = .returned v ∧ ∃ m, w'' = w.drewN (a + m) :=
  h.mono fun _ _ ⟨he, m, hm⟩ => ⟨he, n + m, by rw [hm, World.drewN_drewN, Nat.add_assoc]⟩
theorem quiet_on {P : Program} {f : FuncId} {args : Array Value} {w : World} {n : Nat} {v : Value}
    (h : Calls P f args (w.drewN n) fun e w' => e = .returned v ∧ ∃ m, w' = (w.drewN n).drewN m) :
    Calls P f args (w.drewN n) fun e w'' => e = .returned v ∧ ∃ m, w'' = w.drewN m :=
  h.mono fun _ _ ⟨he, m, hm⟩ => ⟨he, n + m, by rw [hm, World.drewN_drewN]⟩

theorem mask_any (n : Int) (w : World) (hn : 1 ≤ n) :
    Calls Tryd.prog 58 #[.int .i64 n] w fun e w' => e = .returned (.int .u32 (mask n)) ∧ ∃ m, w' = w.drewN m := by
  go_enter Tryd.func58, Tryd.ntmps58
  go_wp2
  all_goals go_ret
  all_goals refine ⟨ret_int ?_, 0, rfl⟩
  · exact (mask_hi n ‹_›).symm
  · exact (mask_lo n hn ‹_›).symm

theorem has_any (low n : Int) (w : World) :
    Calls Tryd.prog 57 #[.int .i64 low, .int .i64 n] w fun e w' => e = .returned (.bool (has low n)) ∧ ∃ m, w' = w.drewN m := by
  go_enter Tryd.func57, Tryd.ntmps57
  go_wp2
  all_goals go_ret
  all_goals refine ⟨ret_bool ?_, 0, rfl⟩
  all_goals simp [has]
  all_goals omega

theorem field_any (x low n : Int) (w : World) (h0 : 0 ≤ x) (h1 : x ≤ 4294967295) :
    Calls Tryd.prog 46 #[.int .u32 x, .int .i64 low, .int .i64 n] w fun e w' => e = .returned (.int .u32 (fieldR x low n)) ∧ ∃ m, w' = w.drewN m := by
  by_cases h : has low n = true
  · have hl : 0 ≤ low := by simp [has] at h; omega
    have hl' : low < 32 := by simp [has] at h; omega
    have hn : 1 ≤ n := by simp [has] at h; omega
    go_enter Tryd.func46, Tryd.ntmps46
    go_wp2_with (go_at_call 57; refine (has_any low n _).mono ?_; rintro e w' ⟨rfl, n1, rfl⟩)
    go_quiet ((go_at_call 58; exact quiet_add (mask_any _ _ hn)))
    go_wp2
    go_ret
    exact ⟨ret_int (by unfold fieldR field; rw [if_pos h]), _, World.drewN_drewN _ _ _⟩
  · have h' : has low n = false := by simpa using h
    go_enter Tryd.func46, Tryd.ntmps46
    go_wp2_with (go_at_call 57; refine (has_any low n _).mono ?_; rintro e w' ⟨rfl, n1, rfl⟩)
    go_ret
    exact ⟨ret_int (by unfold fieldR; rw [if_neg h]), _, rfl⟩
theorem set_any (x low n v : Int) (w : World) :
    Calls Tryd.prog 70 #[.int .u32 x, .int .i64 low, .int .i64 n, .int .u32 v] w fun e w' => e = .returned (.int .u32 (setR x low n v)) ∧ ∃ m, w' = w.drewN m := by
  by_cases h : has low n = true
  · have hl : 0 ≤ low := by simp [has] at h; omega
    have hl' : low < 32 := by simp [has] at h; omega
    have hn : 1 ≤ n := by simp [has] at h; omega
    go_enter Tryd.func70, Tryd.ntmps70
    go_wp2_with (first | (go_at_call 57; refine (has_any low n _).mono ?_; rintro e w' ⟨rfl, n1, rfl⟩) | (go_at_call 58; refine (mask_any _ _ hn).mono ?_; rintro e w' ⟨rfl, n2, rfl⟩))
    go_ret
    exact ⟨ret_int (by unfold setR setField; rw [if_pos h]), _, rfl⟩
  · have h' : has low n = false := by simpa using h
    go_enter Tryd.func70, Tryd.ntmps70
    go_wp2_with (go_at_call 57; refine (has_any low n _).mono ?_; rintro e w' ⟨rfl, n1, rfl⟩)
    go_ret
    exact ⟨ret_int (by unfold setR; rw [if_neg h]), _, rfl⟩
end Go.Proofs.YthghbcjaokpilaaDoor
