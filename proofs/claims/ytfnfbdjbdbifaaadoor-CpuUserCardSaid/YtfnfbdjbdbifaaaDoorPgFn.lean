import Derived.Test.YtfnfbdjbdbifaaaDoorPgNum
namespace Go.Proofs.YtfnfbdjbdbifaaaDoor
set_option linter.unusedVariables false
set_option linter.unusedSimpArgs false
open Go.ChangeShapes Go.WideShapes Go.ChangeAt Go.RowKit Go.Proofs.YtfnfbdjbdbifaaaDoor.Num Go.Proofs.YtfnfbdjbdbifaaaDoor.Mem
theorem ret_iib {a b a' b' : Int} {c : Bool} (h : a = a') (h' : b = b') : Ending.returned (.tuple #[.int .u32 a, .int .i64 b, .bool c]) = .returned (.tuple #[.int .u32 a', .int .i64 b', .bool c]) := by rw [h, h']
theorem demands_yes (a d c : Int) (w : World) (h : Needs a d c) :
    Calls Tryd.prog 95 #[.int .i64 a] w fun e w' => e = .returned (.tuple #[.int .u32 d, .int .i64 c, .bool true]) ∧ w' = w := by
  rcases h with ⟨rfl, rfl, rfl⟩ | ⟨rfl, rfl, rfl⟩ | ⟨rfl, rfl, rfl⟩
  all_goals
    go_enter Tryd.func95, Tryd.ntmps95
    go_wp2
    refine bodyPost_ret (v := .tuple #[.int .u32 _, .int .i64 _, .bool true]) (by simp [results, Tryd.results95, go_sem] <;> (first | rfl | exact ⟨rfl, rfl⟩)) rfl ⟨rfl, rfl⟩
theorem demands_no (a : Int) (w : World) (h : ¬ (a = 1 ∨ a = 2 ∨ a = 3)) :
    Calls Tryd.prog 95 #[.int .i64 a] w fun e w' => e = .returned (.tuple #[.int .u32 0, .int .i64 5, .bool false]) ∧ w' = w := by
  have h1 : (a == 1) = false := by simp; omega
  have h2 : (a == 2) = false := by simp; omega
  have h3 : (a == 3) = false := by simp; omega
  clear h
  go_enter Tryd.func95, Tryd.ntmps95
  go_wp2
  exact bodyPost_ret (v := .tuple #[.int .u32 0, .int .i64 5, .bool false]) (by simp [results, Tryd.results95, go_sem]) rfl ⟨rfl, rfl⟩
theorem frame_any (A : Option Addr) (n c : Nat) (f : Int) (w : World) (hn : n ≤ 1000000) (h0 : 0 ≤ f) (h1 : f ≤ 4294967295) :
    Calls Tryd.prog 96 #[.slice A n c, .int .u32 f] w fun e w' => e = .returned (.bool (decide (f < pagesN n))) ∧ ∃ m, w' = w.drewN m := by
  have hp := pagesN_le n
  go_enter Tryd.func96, Tryd.ntmps96
  go_wp2_with (go_at_call 93; refine (pages_any _ _ _ _ (by omega)).mono ?_; rintro e w1 ⟨rfl, m1, rfl⟩)
  go_ret
  exact ⟨ret_bool (by first | rfl | (congr 1; done) | (simp; done)), m1, rfl⟩
theorem place_pg (r p : Int) (w : World) (h0 : 0 ≤ r) (h1 : r ≤ 31) (p0 : 0 ≤ p) (p1 : p ≤ 31) :
    Calls Tryd.prog 97 #[.int .u32 r, .int .u32 p] w fun e w' => e = .returned (.int .u32 (r * 128 + p * 4)) ∧ w' = w := by
  go_enter Tryd.func97, Tryd.ntmps97
  go_wp2
  go_ret
  exact ⟨ret_int (by omega), rfl⟩
theorem frameOf_any (x : Int) (w : World) (h0 : 0 ≤ x) (h1 : x ≤ 4294967295) :
    Calls Tryd.prog 98 #[.int .u32 x] w fun e w' => e = .returned (.int .u32 (frW x)) ∧ ∃ m, w' = w.drewN m := by
  have HF := Lib.hid (field_fr x h0 h1)
  go_enter Tryd.func98, Tryd.ntmps98
  go_wp2_with (go_at_call 40; refine (field_any _ _ _ _ (by omega) (by omega)).mono ?_; rintro e w1 ⟨rfl, m1, rfl⟩)
  go_ret
  exact ⟨ret_int HF.out, m1, rfl⟩
theorem cause_any (a : Int) (w : World) :
    Calls Tryd.prog 80 #[.int .i64 a] w fun e w' => e = .returned (.int .i64 (cauN a)) ∧ w' = w := by
  go_enter Tryd.func80, Tryd.ntmps80
  go_wp2
  all_goals go_ret
  all_goals exact ⟨ret_int (by unfold cauN; simp_all), rfl⟩
theorem known_any (a : Int) (w : World) :
    Calls Tryd.prog 77 #[.int .i64 a] w fun e w' => e = .returned (.bool (decide (a = 1 ∨ a = 2 ∨ a = 3))) ∧ w' = w := by
  go_enter Tryd.func77, Tryd.ntmps77
  go_wp2
  all_goals go_ret
  all_goals exact ⟨ret_bool (by rw [Bool.eq_iff_iff]; simp; omega), rfl⟩
theorem results_one {fn : Func} {p : Tmp} {ty : TypeId} (h : fn.results = #[.cell p ty]) (tmps : Array Value) (P : Program) (w : World) :
    (results fn tmps).run P w = ((asAddr (tmps.getD p undef)).run P w).andThen fun a w₁ => (loadVar ty a).run P w₁ := by
  simp only [results, h]
  simp [Sem.run_bind, Result.andThen]
/-- A translation. -/
def trV (A E C : Int) : Value := .agg #[.int .u32 A, .int .u32 E, .int .i64 C]
theorem wk_false {n : Nat} {l : List Int} {root va a c : Int} (h : wkB n l root va a = false) (hc : c = cauN a) : Ending.returned (.agg #[.int .u32 0, .int .u32 0, .int .i64 c]) = .returned (trV (wkA n l root va a) (wkE n l root va a) (wkC n l root va a)) := by
  simp [trV, wkA, wkE, wkC, h, hc]
theorem wk_true {n : Nat} {l : List Int} {root va a x y : Int} (h : wkB n l root va a = true) (hx : x = frW (pteW l root va) * 128 + va % 128) (hy : y = root * 128 + va / 128 * 4) : Ending.returned (.agg #[.int .u32 x, .int .u32 y, .int .i64 0]) = .returned (trV (wkA n l root va a) (wkE n l root va a) (wkC n l root va a)) := by
  simp [trV, wkA, wkE, wkC, h, hx, hy]
set_option maxHeartbeats 1000000 in
theorem walk_unk (A : Option Addr) (n c : Nat) (l : List Int) (root va a : Int) (w : World) (h : ¬ (a = 1 ∨ a = 2 ∨ a = 3)) (v0 : 0 ≤ va) (v1 : va ≤ 4294967295) :
    Calls Tryd.prog 91 #[.slice A n c, .int .u32 root, .int .u32 va, .int .i64 a] w fun e w' => e = .returned (trV (wkA n l root va a) (wkE n l root va a) (wkC n l root va a)) ∧ Below w.heap.size w w' := by
  have HD := Lib.hid (fun W => demands_no a W h)
  have HW := Lib.hid (wkB_false_a (n := n) (l := l) (root := root) (va := va) h)
  have HC : Hid (5 = cauN a) := by show _ = _; unfold cauN; simp_all
  clear h
  go_enter Tryd.func91, Tryd.ntmps91
  go_wp2_with (go_at_call 95; refine (HD.out _).mono ?_; rintro e w1 ⟨rfl, rfl⟩)
  refine bodyPost_ret (v := .agg #[.int .u32 0, .int .u32 0, .int .i64 5]) ?_ rfl ⟨wk_false HW.out HC.out, ?_⟩
  · rw [results_one rfl]; go_simp
  · repeat' (first | with_reducible exact Below.refl _ _ | with_reducible apply below_drewN | with_reducible apply Below.drew | with_reducible apply Below.setCell | with_reducible apply Below.alloc | (simp; done) | (simp; omega))
end Go.Proofs.YtfnfbdjbdbifaaaDoor
