import Derived.Test.YthghbcjaokpilaaDoorIsaFn
import Derived.Test.YthghbcjaokpilaaDoorIsaNum2
import Derived.Test.YthghbcjaokpilaaDoorLaw1
import Derived.Test.YthghbcjaokpilaaDoorMem
namespace Go.Proofs.YthghbcjaokpilaaDoor
set_option linter.unusedVariables false
set_option linter.unusedSimpArgs false
open Go.ChangeShapes Go.WideShapes Go.ChangeAt Go.RowKit Go.Proofs.YthghbcjaokpilaaDoor.Num Go.Proofs.YthghbcjaokpilaaDoor.Isa Go.Proofs.YthghbcjaokpilaaDoor.Mem
theorem valid_any (op a b c m : Int) (w : World) (hm : -2147483648 ≤ m) (hm' : m ≤ 2147483647) :
    Calls Tryd.prog 68 #[.agg #[.int .i64 op, .int .i64 a, .int .i64 b, .int .i64 c, .int .i32 m]] w fun e w' => e = .returned (.bool (decide (Ok op a b c m))) ∧ Below w.heap.size w w' := by
  go_enter Tryd.func68, Tryd.ntmps68
  go_wp2_with (first
    | (go_at_call 80; refine (imm_any _ _).mono ?_; rintro e w' ⟨rfl, m1, rfl⟩)
    | (go_at_call 69; refine (layout_any _ _).mono ?_; rintro e w' ⟨rfl, m2, rfl⟩)
    | (go_at_call 81; refine (reg_any _ _).mono ?_; rintro e w' ⟨rfl, m3, rfl⟩))
  all_goals go_ret
  all_goals refine ⟨ret_iff ?_, by repeat (first | exact Below.refl _ _ | refine below_drewN ?_ _ | refine Below.drew ?_ | refine Below.alloc ?_ (Nat.le_refl _) _)⟩
  all_goals rw [ok_iff]
  all_goals have hk := kind_lay op
  all_goals try simp only [beq_iff_eq, beq_eq_false_iff_ne, bne_iff_ne, ne_eq, decide_eq_true_eq, decide_eq_false_iff_not, Bool.and_eq_true, Bool.or_eq_true, Bool.not_eq_true', Bool.and_eq_false_imp, Bool.false_eq_true, true_iff, iff_true, false_iff, iff_false, Bool.not_eq_false', bne_eq_false_iff_eq, Bool.not_eq_true, Bool.not_not] at *
  all_goals omega
set_option maxHeartbeats 2000000 in
theorem valid_ref (op a b c m : Int) (w : World) (hm : -2147483648 ≤ m) (hm' : m ≤ 2147483647) :
    Calls Tryd.prog 25 #[.agg #[.int .i64 op, .int .i64 a, .int .i64 b, .int .i64 c, .int .i32 m]] w fun e w' => e = .returned (.bool (decide (Ok op a b c m))) ∧ Below w.heap.size w w' := by
  go_enter Tryd.func25, Tryd.ntmps25
  go_wp2_with (first
    | (go_at_call 26; refine (form_ref _ _).mono ?_; rintro e w' ⟨rfl, m1, rfl⟩)
    | (go_at_call 27; refine (bounds_ref _ _).mono ?_; rintro e w' ⟨rfl, m2, rfl⟩)
    | (go_at_call 37; refine (reg_ref _ _).mono ?_; rintro e w' ⟨rfl, m3, rfl⟩))
  all_goals go_ret
  all_goals refine ⟨ret_iff ?_, by repeat (first | exact Below.refl _ _ | refine below_drewN ?_ _ | refine Below.drew ?_ | refine Below.alloc ?_ (Nat.le_refl _) _)⟩
  all_goals rw [ok_iff]
  all_goals have hl : lo op = flo (frm op) := rfl
  all_goals have hh : hi op = fhi (frm op) := rfl
  all_goals have hv : flo 1 = 0 ∧ flo 2 = 0 ∧ fhi 1 = 0 ∧ fhi 2 = 0 := by decide
  all_goals try simp only [beq_iff_eq, beq_eq_false_iff_ne, bne_iff_ne, ne_eq, decide_eq_true_eq, decide_eq_false_iff_not, Bool.and_eq_true, Bool.or_eq_true, Bool.not_eq_true', Bool.and_eq_false_imp, Bool.false_eq_true, true_iff, iff_true, false_iff, iff_false, Bool.not_eq_false', bne_eq_false_iff_eq, Bool.not_eq_true, Bool.not_not] at *
  all_goals (rcases kind op with k | k | k | k | k | k | k | k | k | k | k <;> obtain ⟨k1, k2, k3, k4, k5⟩ := k <;> omega)
/-- The cells of a boxed instruction. -/
theorem box_cells {w w' : World} {T : TypeId} {v0 v1 v2 v3 v4 : Value} (hb : Below (w.alloc (Obj.cells #[v0, v1, v2, v3, v4] T)).heap.size (w.alloc (Obj.cells #[v0, v1, v2, v3, v4] T)) w') :
    w'.cell? ⟨w.heap.size, 0, none⟩ = some v0 ∧ w'.cell? ⟨w.heap.size, 1, none⟩ = some v1 ∧ w'.cell? ⟨w.heap.size, 2, none⟩ = some v2 ∧ w'.cell? ⟨w.heap.size, 3, none⟩ = some v3 ∧ w'.cell? ⟨w.heap.size, 4, none⟩ = some v4 := by
  have hs : w.heap.size < (w.alloc (Obj.cells #[v0, v1, v2, v3, v4] T)).heap.size := by simp
  refine ⟨?_, ?_, ?_, ?_, ?_⟩ <;> (rw [hb.cell hs]; simp)
theorem ret_two {k l : IntKind} {a b c d : Int} (h : a = c) (h' : b = d) : Ending.returned (.tuple #[.int k a, .int l b]) = .returned (.tuple #[.int k c, .int l d]) := by rw [h, h']
theorem ret_ibI {k : IntKind} {a c : Int} {b d : Bool} (h : a = c) (h' : b = d) : Ending.returned (.tuple #[.int k a, .bool b]) = .returned (.tuple #[.int k c, .bool d]) := by rw [h, h']
theorem box_below {w w' : World} {o : Obj} (hb : Below (w.alloc o).heap.size (w.alloc o) w') : Below w.heap.size w w' :=
  ((Below.refl _ w).alloc (Nat.le_refl _) o).trans (hb.mono (by simp))
theorem encode_any (op a b c m : Int) (w : World) (hm : -2147483648 ≤ m) (hm' : m ≤ 2147483647) :
    Calls Tryd.prog 59 #[.agg #[.int .i64 op, .int .i64 a, .int .i64 b, .int .i64 c, .int .i32 m]] w fun e w' => e = .returned (.tuple #[.int .u32 (eW op a b c m), .int .i64 (eE op a b c m)]) ∧ Below w.heap.size w w' := by
  go_enter Tryd.func59, Tryd.ntmps59
  go_wp2_with (first
    | (go_at_call 68; refine (valid_any _ _ _ _ _ _ hm hm').mono ?_; rintro e w' ⟨rfl, hb1⟩; obtain ⟨c0, c1, c2, c3, c4⟩ := box_cells hb1)
    | (go_at_call 69; refine (layout_any _ _).mono ?_; rintro e w' ⟨rfl, m2, rfl⟩)
    | (go_at_call 70; refine (set_any _ _ _ _ _).mono ?_; rintro e w' ⟨rfl, m3, rfl⟩))
  all_goals go_ret2
  · have h : ¬ Ok op a b c m := by simpa using ‹(!decide (Ok op a b c m)) = true›
    exact ⟨ret_two (by unfold eW; rw [if_neg h]) (by unfold eE; rw [if_neg h]), box_below hb1⟩
  · have h : Ok op a b c m := by simpa using ‹(!decide (Ok op a b c m)) = false›
    have hl : lay op = 1 := by simpa using ‹(lay op == 1) = true›
    exact ⟨ret_two (by unfold eW; rw [if_pos h]; exact set_word h _ (by rw [if_pos hl])) (by unfold eE; rw [if_pos h]), by repeat (first | exact Below.refl _ _ | refine below_drewN ?_ _ | refine Below.drew ?_ | exact box_below (by assumption) | refine Below.alloc ?_ (Nat.le_refl _) _)⟩
  · have h : Ok op a b c m := by simpa using ‹(!decide (Ok op a b c m)) = false›
    have hl : ¬ lay op = 1 := by simpa using ‹(lay op == 1) = false›
    exact ⟨ret_two (by unfold eW; rw [if_pos h]; exact set_word h _ (by rw [if_neg hl])) (by unfold eE; rw [if_pos h]), by repeat (first | exact Below.refl _ _ | refine below_drewN ?_ _ | refine Below.drew ?_ | exact box_below (by assumption) | refine Below.alloc ?_ (Nat.le_refl _) _)⟩
theorem encode_ref (op a b c m : Int) (w : World) (hm : -2147483648 ≤ m) (hm' : m ≤ 2147483647) :
    Calls Tryd.prog 19 #[.agg #[.int .i64 op, .int .i64 a, .int .i64 b, .int .i64 c, .int .i32 m]] w fun e w' => e = .returned (.tuple #[.int .u32 (eW op a b c m), .bool (decide (Ok op a b c m))]) ∧ Below w.heap.size w w' := by
  go_enter Tryd.func19, Tryd.ntmps19
  go_wp2_with (go_at_call 25; refine (valid_ref _ _ _ _ _ _ hm hm').mono ?_; rintro e w' ⟨rfl, hb1⟩; obtain ⟨c0, c1, c2, c3, c4⟩ := box_cells hb1)
  all_goals go_ret2
  · have h : ¬ Ok op a b c m := by simpa using ‹(!decide (Ok op a b c m)) = true›
    exact ⟨ret_ibI (by unfold eW; rw [if_neg h]) (by simpa using h), box_below hb1⟩
  · have h : Ok op a b c m := by simpa using ‹(!decide (Ok op a b c m)) = false›
    exact ⟨ret_ibI (by unfold eW; rw [if_pos h]; exact or_word h) (by simpa using h), box_below hb1⟩
end Go.Proofs.YthghbcjaokpilaaDoor
