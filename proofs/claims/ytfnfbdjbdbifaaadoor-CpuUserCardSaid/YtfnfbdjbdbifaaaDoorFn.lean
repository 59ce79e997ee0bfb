import Derived.Test.YtfnfbdjbdbifaaaDoorProg
import Derived.WalkKit
import Derived.ProofKit
import Derived.OpenShut
import Derived.Handy
import Derived.Deep.QuietTactic
import Derived.BigQuiet
import Derived.Test.YtfnfbdjbdbifaaaDoorNum
namespace Go.Proofs.YtfnfbdjbdbifaaaDoor
set_option linter.unusedVariables false
open Go.ChangeShapes Go.WideShapes Go.ChangeAt Go.RowKit Go.Proofs.YtfnfbdjbdbifaaaDoor.Num
theorem ret_int {k : IntKind} {a b : Int} (h : a = b) : Ending.returned (.int k a) = .returned (.int k b) := by rw [h]
theorem ret_bool {a b : Bool} (h : a = b) : Ending.returned (.bool a) = .returned (.bool b) := by rw [h]
theorem ret_int2 {k l : IntKind} {a b c d : Int} (h : a = c) (h' : b = d) : Ending.returned (.tuple #[.int k a, .int l b]) = .returned (.tuple #[.int k c, .int l d]) := by rw [h, h']
theorem quiet_add {P : Program} {f : FuncId} {args : Array Value} {w : World} {a n : Nat} {v : Value}
    (h : Calls P f args (w.drewN (a + n)) fun e w' => e = .returned v ∧ ∃ m, w' = (w.drewN (a + n)).drewN m) :
    Calls P f args (w.drewN (a + n)) fun e w'' => e = .returned v ∧ ∃ m, w'' = w.drewN (a + m) :=
  h.mono fun _ _ ⟨he, m, hm⟩ => ⟨he, n + m, by rw [hm, World.drewN_drewN, Nat.add_assoc]⟩
theorem quiet_on {P : Program} {f : FuncId} {args : Array Value} {w : World} {n : Nat} {v : Value}
    (h : Calls P f args (w.drewN n) fun e w' => e = .returned v ∧ ∃ m, w' = (w.drewN n).drewN m) :
    Calls P f args (w.drewN n) fun e w'' => e = .returned v ∧ ∃ m, w'' = w.drewN m :=
  h.mono fun _ _ ⟨he, m, hm⟩ => ⟨he, n + m, by rw [hm, World.drewN_drewN]⟩

theorem sext_any (x n : Int) (w : World) (h0 : 0 ≤ x) (h1 : x ≤ 4294967295) :
    Calls Tryd.prog 45 #[.int .u32 x, .int .i64 n] w fun e w' => e = .returned (.int .u32 (sext x n)) ∧ ∃ m, w' = w.drewN m := by
  go_enter Tryd.func45, Tryd.ntmps45
  go_wp2
  all_goals go_ret
  all_goals refine ⟨ret_int ?_, 0, rfl⟩
  · unfold sext; rw [if_pos ‹_›]
  · unfold sext; rw [if_neg (by omega), if_pos ‹_›]
  · unfold sext; rw [if_neg (by omega), if_neg (by omega)]
theorem sext_ref (x n : Int) (w : World) (h0 : 0 ≤ x) (h1 : x ≤ 4294967295) :
    Calls Tryd.prog 88 #[.int .u32 x, .int .i64 n] w fun e w' => e = .returned (.int .u32 (sext x n)) ∧ ∃ m, w' = w.drewN m := by
  go_enter Tryd.func88, Tryd.ntmps88
  go_wp2
  all_goals go_ret
  all_goals refine ⟨ret_int ?_, 0, rfl⟩
  · unfold sext; rw [if_pos ‹_›]
  · unfold sext; rw [if_neg (by omega), if_pos ‹_›]
  · have hn : 1 ≤ n := by assumption
    have hn' : n < 32 := by assumption
    have e := and_low x n.toNat h0 h1 (by omega)
    have b1 : 0 ≤ x % 2 ^ n.toNat := Int.emod_nonneg _ (by have := pow_bd n.toNat (by omega); omega)
    have b2 : x % 2 ^ n.toNat < 2 ^ n.toNat := Int.emod_lt_of_pos _ (by have := pow_bd n.toNat (by omega); omega)
    have t : (bits BinOp.and IntKind.u32 x ((2 ^ n.toNat - 1) % 4294967296) / 2 ^ (n.toNat - 1) == 1) = true := by assumption
    rw [e] at t
    rw [sext_lo x n h0 h1 hn hn', if_pos (by simpa using t), ← or_high _ _ b1 b2 (by omega), ← e]
  · have hn : 1 ≤ n := by assumption
    have hn' : n < 32 := by assumption
    have e := and_low x n.toNat h0 h1 (by omega)
    have t : (bits BinOp.and IntKind.u32 x ((2 ^ n.toNat - 1) % 4294967296) / 2 ^ (n.toNat - 1) == 1) = false := by assumption
    rw [e] at t
    rw [sext_lo x n h0 h1 hn hn', if_neg (by simpa using t), ← e]

theorem mask_any (n : Int) (w : World) (hn : 1 ≤ n) :
    Calls Tryd.prog 72 #[.int .i64 n] w fun e w' => e = .returned (.int .u32 (mask n)) ∧ ∃ m, w' = w.drewN m := by
  go_enter Tryd.func72, Tryd.ntmps72
  go_wp2
  all_goals go_ret
  all_goals refine ⟨ret_int ?_, 0, rfl⟩
  · exact (mask_hi n ‹_›).symm
  · exact (mask_lo n hn ‹_›).symm

theorem has_any (low n : Int) (w : World) :
    Calls Tryd.prog 71 #[.int .i64 low, .int .i64 n] w fun e w' => e = .returned (.bool (has low n)) ∧ ∃ m, w' = w.drewN m := by
  go_enter Tryd.func71, Tryd.ntmps71
  go_wp2
  all_goals go_ret
  all_goals refine ⟨ret_bool ?_, 0, rfl⟩
  all_goals simp [has]
  all_goals omega

theorem field_any (x low n : Int) (w : World) (h0 : 0 ≤ x) (h1 : x ≤ 4294967295) :
    Calls Tryd.prog 40 #[.int .u32 x, .int .i64 low, .int .i64 n] w fun e w' => e = .returned (.int .u32 (fieldR x low n)) ∧ ∃ m, w' = w.drewN m := by
  by_cases h : has low n = true
  · have hl : 0 ≤ low := by simp [has] at h; omega
    have hl' : low < 32 := by simp [has] at h; omega
    have hn : 1 ≤ n := by simp [has] at h; omega
    go_enter Tryd.func40, Tryd.ntmps40
    go_wp2_with (go_at_call 71; refine (has_any low n _).mono ?_; rintro e w' ⟨rfl, n1, rfl⟩)
    go_quiet ((go_at_call 72; exact quiet_add (mask_any _ _ hn)))
    go_wp2
    go_ret
    exact ⟨ret_int (by unfold fieldR field; rw [if_pos h]), _, World.drewN_drewN _ _ _⟩
  · have h' : has low n = false := by simpa using h
    go_enter Tryd.func40, Tryd.ntmps40
    go_wp2_with (go_at_call 71; refine (has_any low n _).mono ?_; rintro e w' ⟨rfl, n1, rfl⟩)
    go_ret
    exact ⟨ret_int (by unfold fieldR; rw [if_neg h]), _, rfl⟩
theorem set_any (x low n v : Int) (w : World) :
    Calls Tryd.prog 76 #[.int .u32 x, .int .i64 low, .int .i64 n, .int .u32 v] w fun e w' => e = .returned (.int .u32 (setR x low n v)) ∧ ∃ m, w' = w.drewN m := by
  by_cases h : has low n = true
  · have hl : 0 ≤ low := by simp [has] at h; omega
    have hl' : low < 32 := by simp [has] at h; omega
    have hn : 1 ≤ n := by simp [has] at h; omega
    go_enter Tryd.func76, Tryd.ntmps76
    go_wp2_with (first | (go_at_call 71; refine (has_any low n _).mono ?_; rintro e w' ⟨rfl, n1, rfl⟩) | (go_at_call 72; refine (mask_any _ _ hn).mono ?_; rintro e w' ⟨rfl, n2, rfl⟩))
    go_ret
    exact ⟨ret_int (by unfold setR setField; rw [if_pos h]), _, rfl⟩
  · have h' : has low n = false := by simpa using h
    go_enter Tryd.func76, Tryd.ntmps76
    go_wp2_with (go_at_call 71; refine (has_any low n _).mono ?_; rintro e w' ⟨rfl, n1, rfl⟩)
    go_ret
    exact ⟨ret_int (by unfold setR; rw [if_neg h]), _, rfl⟩
theorem div_any (a b : Int) (w : World) (ha : 0 ≤ a) (ha' : a ≤ 4294967295) (hb : 0 ≤ b) (hb' : b ≤ 4294967295) :
    Calls Tryd.prog 63 #[.int .u32 a, .int .u32 b] w fun e w' => e = .returned (.tuple #[.int .u32 (sq a b), .int .u32 (sr a b)]) ∧ ∃ m, w' = w.drewN m := by
  by_cases h : b = 0
  · go_enter Tryd.func63, Tryd.ntmps63
    go_wp2
    go_ret2
    exact ⟨ret_int2 (by unfold sq; rw [if_pos h]) (by unfold sr; rw [if_pos h]), 0, rfl⟩
  · have h1 : (b == 0) = false := by simpa using h
    have h3 : ¬ (wrap32 b = 0) := by simp [wrap32]; omega
    go_enter Tryd.func63, Tryd.ntmps63
    go_wp2
    go_quiet (fail)
    go_wp2
    go_ret2
    exact ⟨ret_int2 (by unfold sq; rw [if_neg h]; first | rfl | exact wrap32_mod _ | exact (wrap32_mod _).trans (wrap32_mod _)) (by unfold sr; rw [if_neg h]), _, rfl⟩
theorem div_ref (a b : Int) (w : World) (ha : 0 ≤ a) (ha' : a ≤ 4294967295) (hb : 0 ≤ b) (hb' : b ≤ 4294967295) :
    Calls Tryd.prog 90 #[.int .u32 a, .int .u32 b] w fun e w' => e = .returned (.tuple #[.int .u32 (sq a b), .int .u32 (sr a b)]) ∧ ∃ m, w' = w.drewN m := by
  by_cases h : b = 0
  · go_enter Tryd.func90, Tryd.ntmps90
    go_wp2
    go_ret2
    exact ⟨ret_int2 (by unfold sq; rw [if_pos h]) (by unfold sr; rw [if_pos h]), 0, rfl⟩
  · have h1 : (b == 0) = false := by simpa using h
    have h3 : ¬ (wrap32 b = 0) := by simp [wrap32]; omega
    have ea : wrap64 (wrap32 a) = wrap32 a := by unfold wrap64 wrap32; omega
    have eb : wrap64 (wrap32 b) = wrap32 b := by unfold wrap64 wrap32; omega
    go_enter Tryd.func90, Tryd.ntmps90
    go_wp2
    go_quiet (fail)
    go_wp2
    go_ret2
    exact ⟨ret_int2 (by unfold sq; rw [if_neg h]; first | rfl | exact i64_mod _ | exact wrap64_mod _) (by unfold sr; rw [if_neg h]), _, rfl⟩
end Go.Proofs.YtfnfbdjbdbifaaaDoor
