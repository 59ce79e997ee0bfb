import Derived.Test.YtindjmlceeglfaaFn
import Derived.Test.YtindjmlceeglfaaMem
import Derived.Below
import Derived.IntWalk
import Derived.Lib.Hide
import Derived.Laws.ResultCell
namespace Go.Proofs.Ytindjmlceeglfaa
set_option linter.unusedVariables false
set_option linter.unusedSimpArgs false
open Go.ChangeShapes Go.WideShapes Go.ChangeAt Go.RowKit Go.Proofs.Ytindjmlceeglfaa.Num Go.Proofs.Ytindjmlceeglfaa.Mem
/-- A timer's value. -/
def tmV (a : Bool) (d : Int) (f : Bool) : Value := .agg #[.bool a, .int .u32 d, .bool f]
/-- Whether a timer of a machine may be in this state. -/
def tmM (a : Bool) (d : Int) (f : Bool) : Bool := if a then !f && (d != 0) else f || (d == 0)
theorem dvC {a b : World} {p : Addr} {v : Value} (h : a.cell? p = some v) (hb : Below a.heap.size a b) (hp : p.block < a.heap.size) : b.cell? p = some v := by rw [hb.cell hp]; exact h
theorem dvF {a b : World} {p : Addr} (h : a.frozen? p = false) (hb : Below a.heap.size a b) (hp : p.block < a.heap.size) : b.frozen? p = false := by rw [hb.frozen hp]; exact h
theorem stillD {w w' : World} {p : Addr} {v : Value} (h : w.cell? p = some v) (hb : Below w.heap.size w w') : w'.cell? p = some v := (hb.cell (World.block_lt_of_cell? w _ h)).trans h
theorem ret_tm {a b f g : Bool} {d e : Int} (h1 : a = b) (h2 : d = e) (h3 : f = g) : Ending.returned (.agg #[.bool a, .int .u32 d, .bool f]) = .returned (tmV b e g) := by rw [h1, h2, h3]; rfl
theorem ret_tmb {a b c f g h : Bool} {d e : Int} (h1 : a = b) (h2 : d = e) (h3 : f = g) (h4 : c = h) : Ending.returned (.tuple #[.agg #[.bool a, .int .u32 d, .bool f], .bool c]) = .returned (.tuple #[tmV b e g, .bool h]) := by rw [h1, h2, h3, h4]; rfl
theorem results_oneT {fn : Func} {p : Tmp} {ty : TypeId} (h : fn.results = #[.cell p ty]) (tmps : Array Value) (P : Program) (w : World) :
    (results fn tmps).run P w = ((asAddr (tmps.getD p undef)).run P w).andThen fun a w₁ => (loadVar ty a).run P w₁ := by
  simp only [results, h]
  simp [Sem.run_bind, Result.andThen]
theorem arm_any (a : Bool) (d : Int) (f : Bool) (n : Int) (w : World) :
    Calls Try.prog 8 #[tmV a d f, .int .u32 n] w fun e w' => e = .returned (tmV (decide (n ≠ 0)) n false) ∧ Below w.heap.size w w' := by
  unfold tmV
  by_cases hn : n = 0
  · subst hn
    go_enter Try.func8, Try.ntmps8
    go_wp2
    all_goals first | (exfalso; omega) | skip
    refine bodyPost_ret (v := .agg #[.bool false, .int .u32 0, .bool false]) (by rw [results_oneT rfl]; go_simp) rfl ⟨ret_tm (by simp) rfl rfl, by (repeat' (first | with_reducible exact Below.refl _ _ | with_reducible assumption | with_reducible apply below_drewN | with_reducible apply Below.drew | with_reducible apply Below.setCell | with_reducible apply Below.alloc | (simp; done) | omega | (simp; omega)))⟩
  · have hn' : (n != 0) = true := by simpa using hn
    go_enter Try.func8, Try.ntmps8
    go_wp2
    all_goals first | (exfalso; omega) | skip
    refine bodyPost_ret (v := .agg #[.bool true, .int .u32 n, .bool false]) (by rw [results_oneT rfl]; go_simp) rfl ⟨ret_tm (by simpa using hn) rfl rfl, by (repeat' (first | with_reducible exact Below.refl _ _ | with_reducible assumption | with_reducible apply below_drewN | with_reducible apply Below.drew | with_reducible apply Below.setCell | with_reducible apply Below.alloc | (simp; done) | omega | (simp; omega)))⟩
theorem arm_ref (n : Int) (w : World) :
    Calls Try.prog 9 #[.int .u32 n] w fun e w' => e = .returned (tmV (decide (n ≠ 0)) n false) ∧ Below w.heap.size w w' := by
  unfold tmV
  by_cases hn : n = 0
  · subst hn
    go_enter Try.func9, Try.ntmps9
    go_wp2
    all_goals first | (exfalso; omega) | skip
    refine bodyPost_ret (v := .agg #[.bool false, .int .u32 0, .bool false]) (by rw [results_oneT rfl]; go_simp) rfl ⟨ret_tm (by simp) rfl rfl, by (repeat' (first | with_reducible exact Below.refl _ _ | with_reducible assumption | with_reducible apply below_drewN | with_reducible apply Below.drew | with_reducible apply Below.setCell | with_reducible apply Below.alloc | (simp; done) | omega | (simp; omega)))⟩
  · have hn' : (n != 0) = true := by simpa using hn
    go_enter Try.func9, Try.ntmps9
    go_wp2
    all_goals first | (exfalso; omega) | skip
    refine bodyPost_ret (v := .agg #[.bool true, .int .u32 n, .bool false]) (by rw [results_oneT rfl]; go_simp) rfl ⟨ret_tm (by simpa using hn) rfl rfl, by (repeat' (first | with_reducible exact Below.refl _ _ | with_reducible assumption | with_reducible apply below_drewN | with_reducible apply Below.drew | with_reducible apply Below.setCell | with_reducible apply Below.alloc | (simp; done) | omega | (simp; omega)))⟩
theorem fire_any (a : Bool) (d : Int) (f : Bool) (w : World) :
    Calls Try.prog 6 #[tmV a d f] w fun e w' => e = .returned (.tuple #[tmV false d (a || f), .bool a]) ∧ Below w.heap.size w w' := by
  unfold tmV
  cases a
  · go_enter Try.func6, Try.ntmps6
    go_wp2
    refine bodyPost_ret (v := .tuple #[.agg #[.bool false, .int .u32 d, .bool f], .bool false]) (by rw [results_cell_tmp rfl]; go_simp) rfl ⟨ret_tmb rfl rfl rfl rfl, by (repeat' (first | with_reducible exact Below.refl _ _ | with_reducible assumption | with_reducible apply below_drewN | with_reducible apply Below.drew | with_reducible apply Below.setCell | with_reducible apply Below.alloc | (simp; done) | omega | (simp; omega)))⟩
  · go_enter Try.func6, Try.ntmps6
    go_wp2
    refine bodyPost_ret (v := .tuple #[.agg #[.bool false, .int .u32 d, .bool true], .bool true]) (by rw [results_cell_tmp rfl]; go_simp) rfl ⟨ret_tmb rfl rfl rfl rfl, by (repeat' (first | with_reducible exact Below.refl _ _ | with_reducible assumption | with_reducible apply below_drewN | with_reducible apply Below.drew | with_reducible apply Below.setCell | with_reducible apply Below.alloc | (simp; done) | omega | (simp; omega)))⟩
theorem fire_ref (a : Bool) (d : Int) (f : Bool) (w : World) :
    Calls Try.prog 7 #[tmV a d f] w fun e w' => e = .returned (.tuple #[tmV false d (a || f), .bool a]) ∧ Below w.heap.size w w' := by
  unfold tmV
  cases a
  · go_enter Try.func7, Try.ntmps7
    go_wp2
    refine bodyPost_ret (v := .tuple #[.agg #[.bool false, .int .u32 d, .bool f], .bool false]) (by rw [results_cell_tmp rfl]; go_simp) rfl ⟨ret_tmb rfl rfl rfl rfl, by (repeat' (first | with_reducible exact Below.refl _ _ | with_reducible assumption | with_reducible apply below_drewN | with_reducible apply Below.drew | with_reducible apply Below.setCell | with_reducible apply Below.alloc | (simp; done) | omega | (simp; omega)))⟩
  · go_enter Try.func7, Try.ntmps7
    go_wp2
    refine bodyPost_ret (v := .tuple #[.agg #[.bool false, .int .u32 d, .bool true], .bool true]) (by rw [results_cell_tmp rfl]; go_simp) rfl ⟨ret_tmb rfl rfl rfl rfl, by (repeat' (first | with_reducible exact Below.refl _ _ | with_reducible assumption | with_reducible apply below_drewN | with_reducible apply Below.drew | with_reducible apply Below.setCell | with_reducible apply Below.alloc | (simp; done) | omega | (simp; omega)))⟩
theorem due_any (a : Bool) (d : Int) (f : Bool) (n : Int) (w : World) :
    Calls Try.prog 10 #[tmV a d f, .int .u32 n] w fun e w' => e = .returned (.bool (a && decide (d ≤ n))) ∧ Below w.heap.size w w' := by
  unfold tmV
  cases a
  all_goals
    go_enter Try.func10, Try.ntmps10
    go_wp2
    all_goals first | (exfalso; omega) | skip
    go_ret
    exact ⟨ret_bool (by simp), by (repeat' (first | with_reducible exact Below.refl _ _ | with_reducible assumption | with_reducible apply below_drewN | with_reducible apply Below.drew | with_reducible apply Below.setCell | with_reducible apply Below.alloc | (simp; done) | omega | (simp; omega)))⟩
theorem due_ref (a : Bool) (d : Int) (f : Bool) (n : Int) (w : World) :
    Calls Try.prog 11 #[tmV a d f, .int .u32 n] w fun e w' => e = .returned (.bool (a && decide (d ≤ n))) ∧ Below w.heap.size w w' := by
  unfold tmV
  cases a
  all_goals
    go_enter Try.func11, Try.ntmps11
    go_wp2
    all_goals first | (exfalso; omega) | skip
    go_ret
    exact ⟨ret_bool (by simp), by (repeat' (first | with_reducible exact Below.refl _ _ | with_reducible assumption | with_reducible apply below_drewN | with_reducible apply Below.drew | with_reducible apply Below.setCell | with_reducible apply Below.alloc | (simp; done) | omega | (simp; omega)))⟩
theorem tin_any (a : Bool) (d : Int) (f : Bool) (w : World) :
    Calls Try.prog 12 #[tmV a d f] w fun e w' => e = .returned (.int .u32 (if f then 1 else 0)) ∧ Below w.heap.size w w' := by
  unfold tmV
  cases f
  all_goals
    go_enter Try.func12, Try.ntmps12
    go_wp2
    all_goals first | (exfalso; omega) | skip
    go_ret
    exact ⟨rfl, by (repeat' (first | with_reducible exact Below.refl _ _ | with_reducible assumption | with_reducible apply below_drewN | with_reducible apply Below.drew | with_reducible apply Below.setCell | with_reducible apply Below.alloc | (simp; done) | omega | (simp; omega)))⟩
theorem tin_ref (a : Bool) (d : Int) (f : Bool) (w : World) :
    Calls Try.prog 13 #[tmV a d f] w fun e w' => e = .returned (.int .u32 (if f then 1 else 0)) ∧ Below w.heap.size w w' := by
  unfold tmV
  cases f
  all_goals
    go_enter Try.func13, Try.ntmps13
    go_wp2
    all_goals first | (exfalso; omega) | skip
    go_ret
    exact ⟨rfl, by (repeat' (first | with_reducible exact Below.refl _ _ | with_reducible assumption | with_reducible apply below_drewN | with_reducible apply Below.drew | with_reducible apply Below.setCell | with_reducible apply Below.alloc | (simp; done) | omega | (simp; omega)))⟩
theorem tpend_any (a : Bool) (d : Int) (f : Bool) (w : World) :
    Calls Try.prog 14 #[tmV a d f] w fun e w' => e = .returned (.bool f) ∧ Below w.heap.size w w' := by
  unfold tmV
  cases f
  all_goals
    go_enter Try.func14, Try.ntmps14
    go_wp2
    all_goals first | (exfalso; omega) | skip
    go_ret
    exact ⟨rfl, by (repeat' (first | with_reducible exact Below.refl _ _ | with_reducible assumption | with_reducible apply below_drewN | with_reducible apply Below.drew | with_reducible apply Below.setCell | with_reducible apply Below.alloc | (simp; done) | omega | (simp; omega)))⟩
theorem tpend_ref (a : Bool) (d : Int) (f : Bool) (w : World) :
    Calls Try.prog 15 #[tmV a d f] w fun e w' => e = .returned (.bool f) ∧ Below w.heap.size w w' := by
  unfold tmV
  cases f
  all_goals
    go_enter Try.func15, Try.ntmps15
    go_wp2
    all_goals first | (exfalso; omega) | skip
    go_ret
    exact ⟨rfl, by (repeat' (first | with_reducible exact Below.refl _ _ | with_reducible assumption | with_reducible apply below_drewN | with_reducible apply Below.drew | with_reducible apply Below.setCell | with_reducible apply Below.alloc | (simp; done) | omega | (simp; omega)))⟩
theorem tmay_any (a : Bool) (d : Int) (f : Bool) (w : World) :
    Calls Try.prog 16 #[tmV a d f] w fun e w' => e = .returned (.bool (tmM a d f)) ∧ Below w.heap.size w w' := by
  unfold tmV
  cases a <;> cases f
  all_goals
    go_enter Try.func16, Try.ntmps16
    go_wp2
    all_goals first | (exfalso; omega) | skip
    go_ret
    exact ⟨ret_bool (by simp [tmM]), by (repeat' (first | with_reducible exact Below.refl _ _ | with_reducible assumption | with_reducible apply below_drewN | with_reducible apply Below.drew | with_reducible apply Below.setCell | with_reducible apply Below.alloc | (simp; done) | omega | (simp; omega)))⟩
theorem tmay_ref (a : Bool) (d : Int) (f : Bool) (w : World) :
    Calls Try.prog 17 #[tmV a d f] w fun e w' => e = .returned (.bool (tmM a d f)) ∧ Below w.heap.size w w' := by
  unfold tmV
  cases a <;> cases f
  all_goals
    go_enter Try.func17, Try.ntmps17
    go_wp2
    all_goals first | (exfalso; omega) | skip
    go_ret
    exact ⟨ret_bool (by simp [tmM]), by (repeat' (first | with_reducible exact Below.refl _ _ | with_reducible assumption | with_reducible apply below_drewN | with_reducible apply Below.drew | with_reducible apply Below.setCell | with_reducible apply Below.alloc | (simp; done) | omega | (simp; omega)))⟩
end Go.Proofs.Ytindjmlceeglfaa
