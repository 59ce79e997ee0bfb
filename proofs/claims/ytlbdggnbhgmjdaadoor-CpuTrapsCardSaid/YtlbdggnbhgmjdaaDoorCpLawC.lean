import Derived.Test.YtlbdggnbhgmjdaaDoorCpAwk
import Derived.Test.YtlbdggnbhgmjdaaDoorCpFn3
import Derived.Test.YtlbdggnbhgmjdaaDoorPmRow
namespace Go.Proofs.YtlbdggnbhgmjdaaDoor
set_option linter.unusedVariables false
set_option linter.unusedSimpArgs false
set_option maxRecDepth 20000
open Go.ChangeShapes Go.WideShapes Go.ChangeAt Go.RowKit Go.Proofs.YtlbdggnbhgmjdaaDoor.Num Go.Proofs.YtlbdggnbhgmjdaaDoor.Mem Go.Proofs.YtlbdggnbhgmjdaaDoor.Isa
set_option maxHeartbeats 1000000 in
theorem computes_walk (a0 : Int) (a1 : Bool) (a2 a3 a4 : Int) (w : World) (h0 : -9223372036854775808 ≤ a0) (h0' : a0 ≤ 9223372036854775807) (h2 : 0 ≤ a2) (h2' : a2 ≤ 4294967295) (h3 : 0 ≤ a3) (h3' : a3 ≤ 4294967295) (h4 : 0 ≤ a4) (h4' : a4 ≤ 4294967295) :
    Calls Tryd.prog 3 #[.int .i64 a0, .bool a1, .int .u32 a2, .int .u32 a3, .int .u32 a4] w fun e w' => e = .returned (.bool true) ∧ Below w.heap.size w w' := by
  have HR := Lib.hid (fun W => round_any a0 30 W (by omega) (by omega) h0 h0')
  have HA := Lib.hid (fun x W => alu_any x a2 a3 W h2 h2' h3 h3')
  have HB := Lib.hid (fun x W => alu_ref x a2 a3 W h2 h2' h3 h3')
  unfold AluPost at HA HB
  have HC := Lib.hid (fun W => reset_any a4 W)
  have HD := Lib.hid (fun W => reset_ref a4 W)
  have hL : (resetL a4).length = 25 := rfl
  have HW := Lib.hid (fun W => awake6 W)
  generalize resetL a4 = L at *
  have EG := fun x y w => eqg_cpu L x y w
  have EB := fun w => eqb_cpu hL w
  generalize a0 % 30 = x0 at *
  cases a1
  all_goals
    go_enter Tryd.func3, Tryd.ntmps3
    go_wp2_with (first
      | (go_at_call 13; refine (HR.out _).mono ?_; rintro e w1 ⟨rfl, rfl⟩)
      | (go_at_call 14; refine (HA.out _ _).mono ?_; rintro e w2 ⟨rfl, m2, rfl⟩)
      | (go_at_call 15; refine (HB.out _ _).mono ?_; rintro e w3 ⟨rfl, m3, rfl⟩)
      | (go_at_call 16; refine (HC.out _).mono ?_; rintro e w4 ⟨rfl, hb4⟩)
      | (go_at_call 17; refine (HD.out _).mono ?_; rintro e w5 ⟨rfl, hb5⟩)
      | (go_at_call 18; refine (HW.out _).mono ?_; rintro e w6 ⟨rfl, hb6⟩))
  all_goals
    go_ret
    exact ⟨rfl, below_step (below_step (below_step (below_drewN (Below.refl _ _) _) hb4) hb5) hb6⟩
theorem computes_row (a0 : Int) (a1 : Bool) (a2 a3 a4 : Int) (w : World) (w0 : (Lit.int .i64 a0).wf = true) (w2 : (Lit.int .u32 a2).wf = true) (w3 : (Lit.int .u32 a3).wf = true) (w4 : (Lit.int .u32 a4).wf = true) :
    Calls Tryd.prog 3 #[.int .i64 a0, .bool a1, .int .u32 a2, .int .u32 a3, .int .u32 a4] w fun e w' => e = .returned (.bool true) ∧ Below w.heap.size w w' :=
  computes_walk a0 a1 a2 a3 a4 w (wf_i64 w0).1 (wf_i64 w0).2 (wf_u32 w2).1 (wf_u32 w2).2 (wf_u32 w3).1 (wf_u32 w3).2 (wf_u32 w4).1 (wf_u32 w4).2
theorem f_any (op a b : Int) (w : World) (h2 : 0 ≤ a) (h2' : a ≤ 4294967295) (h3 : 0 ≤ b) (h3' : b ≤ 4294967295) :
    Calls Tryd.prog 32 #[.int .i64 op, .int .u32 a, .int .u32 b] w fun e w' => e = .returned (.int .u32 (aluV op a b)) ∧ ∃ m, w' = w.drewN m := by
  have HA := Lib.hid (fun W => alu_any op a b W h2 h2' h3 h3')
  unfold AluPost at HA
  go_enter Tryd.func32, Tryd.ntmps32
  go_wp2_with (go_at_call 14; refine (HA.out _).mono ?_; rintro e w2 ⟨rfl, m2, rfl⟩)
  go_ret
  exact ⟨rfl, m2, rfl⟩
end Go.Proofs.YtlbdggnbhgmjdaaDoor
