import Derived.Test.YtegaookkfjgepaaDoorProg
import Derived.Lib.SmallJoins
import Derived.OpenShut
import Derived.ProofKit
namespace Go.Proofs.YtegaookkfjgepaaDoor
set_option linter.unusedVariables false
set_option linter.unusedSimpArgs false
open Go.ChangeShapes Go.WideShapes Go.ChangeAt Go.RowKit Go.Joins
theorem array5 {α : Type} {cs : Array α} (h : cs.size = 5) : ∃ c0 c1 c2 c3 c4, cs = #[c0, c1, c2, c3, c4] := by
  obtain ⟨l⟩ := cs
  match l, h with
  | [c0, c1, c2, c3, c4], _ => exact ⟨c0, c1, c2, c3, c4, rfl⟩
theorem cellsInst : Tryd.prog.cellsOf 23 = 5 := by kernel_rfl
theorem cellsI64 : Tryd.prog.cellsOf 3 = 1 := by kernel_rfl
theorem cellsI32 : Tryd.prog.cellsOf 21 = 1 := by kernel_rfl
set_option maxRecDepth 100000 in
/-- An instruction by value, opened. -/
theorem open_inst {H : Type} {enc : TypeId × Value → H} {w : World} {base b0 : Nat} {r : Reach} {spare : Nat → Bool} {held : Bool} {v : Value} {d : DataW H} {p : List MemPlace}
    (hv : Value.okWide Tryd.prog w r b0 23 v) (h : DataW.Trod enc Tryd.prog w base spare held 23 v d p) :
    ∃ a b c e m : Int, v = .agg #[.int .i64 a, .int .i64 b, .int .i64 c, .int .i64 e, .int .i32 m] ∧ d = .agg [.lit (.int .i64 a), .lit (.int .i64 b), .lit (.int .i64 c), .lit (.int .i64 e), .lit (.int .i32 m)] ∧ p = [] ∧
      (Lit.int .i64 a).wf = true ∧ (Lit.int .i64 b).wf = true ∧ (Lit.int .i64 c).wf = true ∧ (Lit.int .i64 e).wf = true ∧ (Lit.int .i32 m).wf = true := by
  obtain ⟨cs, rfl, hsz⟩ := okWide_struct Tryd.underlying23 hv
  have hsz5 : cs.size = 5 := by rw [hsz]; exact cellsInst
  obtain ⟨c0, c1, c2, c3, c4, rfl⟩ := array5 hsz5
  obtain ⟨fuel, hf⟩ := h
  obtain ⟨xs, n, _, hx, hl, hlen, hf⟩ := DataW.trod_struct Tryd.underlying23 hf
  match xs, hlen with
  | [y0, y1, y2, y3, y4], _ =>
    have h0 := hf 0 _ rfl
    have h1 := hf 1 _ rfl
    have h2 := hf 2 _ rfl
    have h3 := hf 3 _ rfl
    have h4 := hf 4 _ rfl
    simp only [Value.cells, cellsI64, cellsI32] at h0 h1 h2 h3 h4
    obtain ⟨a, e0, f0, wa⟩ := DataW.trod_int Tryd.underlying3 h0
    obtain ⟨b, e1, f1, wb⟩ := DataW.trod_int Tryd.underlying3 h1
    obtain ⟨c, e2, f2, wc⟩ := DataW.trod_int Tryd.underlying3 h2
    obtain ⟨e, e3, f3, we⟩ := DataW.trod_int Tryd.underlying3 h3
    obtain ⟨m, e4, f4, wm⟩ := DataW.trod_int Tryd.underlying21 h4
    simp [cellsI64, cellsI32] at e0 e1 e2 e3 e4
    subst e0 e1 e2 e3 e4
    have f0' : y0 = (.lit (.int .i64 a), []) := by simpa using f0
    have f1' : y1 = (.lit (.int .i64 b), []) := by simpa using f1
    have f2' : y2 = (.lit (.int .i64 c), []) := by simpa using f2
    have f3' : y3 = (.lit (.int .i64 e), []) := by simpa using f3
    have f4' : y4 = (.lit (.int .i32 m), []) := by simpa using f4
    subst f0' f1' f2' f3' f4'
    simp at hx
    exact ⟨a, b, c, e, m, rfl, hx.1, hx.2, wa, wb, wc, we, wm⟩
set_option maxRecDepth 100000 in
/-- An instruction by value, shut. -/
theorem shut_inst {H : Type} {enc : TypeId × Value → H} {w : World} {base : Nat} {spare : Nat → Bool} {held : Bool} {a b c e m : Int}
    (wa : (Lit.int .i64 a).wf = true) (wb : (Lit.int .i64 b).wf = true) (wc : (Lit.int .i64 c).wf = true) (we : (Lit.int .i64 e).wf = true) (wm : (Lit.int .i32 m).wf = true) :
    DataW.Trod enc Tryd.prog w base spare held 23 (.agg #[.int .i64 a, .int .i64 b, .int .i64 c, .int .i64 e, .int .i32 m]) (.agg [.lit (.int .i64 a), .lit (.int .i64 b), .lit (.int .i64 c), .lit (.int .i64 e), .lit (.int .i32 m)]) [] := by
  have ti : ∀ x : Int, (Lit.int .i64 x).wf = true → DataW.trod enc Tryd.prog w base spare held 1 3 [.int .i64 x] = some (.lit (.int .i64 x), []) := fun x hx => by
    simp [DataW.trod, Tryd.underlying3, hx]
  have tm : DataW.trod enc Tryd.prog w base spare held 1 21 [.int .i32 m] = some (.lit (.int .i32 m), []) := by
    simp [DataW.trod, Tryd.underlying21, wm]
  have := trod_struct_mk (enc := enc) (w := w) (base := base) (spare := spare) (held := held) (n := 1) (cs := [.int .i64 a, .int .i64 b, .int .i64 c, .int .i64 e, .int .i32 m]) (xs := [(.lit (.int .i64 a), []), (.lit (.int .i64 b), []), (.lit (.int .i64 c), []), (.lit (.int .i64 e), []), (.lit (.int .i32 m), [])]) Tryd.underlying23 (by simp [cellsInst])
    (by simp [cellsI64, cellsI32, ti a wa, ti b wb, ti c wc, ti e we, tm])
  exact ⟨_, by simpa [Value.cells] using this⟩
end Go.Proofs.YtegaookkfjgepaaDoor
