import Derived.Test.YtegaookkfjgepaaDoorIsaFn10
namespace Go.Proofs.YtegaookkfjgepaaDoor
set_option linter.unusedVariables false
set_option linter.unusedSimpArgs false
open Go.ChangeShapes Go.WideShapes Go.ChangeAt Go.RowKit Go.Proofs.YtegaookkfjgepaaDoor.Num Go.Proofs.YtegaookkfjgepaaDoor.Isa Go.Proofs.YtegaookkfjgepaaDoor.Mem
theorem enc_back {op a b c m : Int} (h : Ok op a b c m) : eW op a b c m = word op a b c m ∧ eE op a b c m = 0 ∧ decide (dOk (word op a b c m)) = true ∧ zOp (word op a b c m) = op ∧ zA (word op a b c m) = a ∧ zB (word op a b c m) = b ∧ zC (word op a b c m) = c ∧ zM (word op a b c m) = m := by
  obtain ⟨e1, e2, e3, e4, e5⟩ := dec_word h
  have hd := ok_dec h
  refine ⟨by unfold eW; rw [if_pos h], by unfold eE; rw [if_pos h], by simpa using hd, ?_, ?_, ?_, ?_, ?_⟩
  · unfold zOp; rw [if_pos hd, e1]
  · unfold zA; rw [if_pos hd, e2]
  · unfold zB; rw [if_pos hd, e3]
  · unfold zC; rw [if_pos hd, e4]
  · unfold zM; rw [if_pos hd, e5]
theorem alloc_lt' {w w' : World} {o : Obj} (hb : Below (w.alloc o).heap.size (w.alloc o) w') : w.heap.size < w'.heap.size := by
  have := hb.size
  simp at this
  omega
theorem box_frozen {w w' : World} {T : TypeId} {v0 v1 v2 v3 v4 : Value} (hb : Below (w.alloc (Obj.cells #[v0, v1, v2, v3, v4] T)).heap.size (w.alloc (Obj.cells #[v0, v1, v2, v3, v4] T)) w') (k : Nat) : w'.frozen? ⟨w.heap.size, k, none⟩ = false := by
  have hs : w.heap.size < (w.alloc (Obj.cells #[v0, v1, v2, v3, v4] T)).heap.size := by simp
  rw [hb.frozen hs]; simp [go_sem]
theorem set5 {w w0 w' : World} {b : Nat} {v0 v1 v2 v3 v4 u0 u1 u2 u3 u4 : Value} (k0 : w0.cell? ⟨b, 0, none⟩ = some u0) (k1 : w0.cell? ⟨b, 1, none⟩ = some u1) (k2 : w0.cell? ⟨b, 2, none⟩ = some u2) (k3 : w0.cell? ⟨b, 3, none⟩ = some u3) (k4 : w0.cell? ⟨b, 4, none⟩ = some u4)
    (h0 : Below w.heap.size w w0) (hwb : w.heap.size ≤ b) (hb : Below (((((w0.setCell ⟨b, 0, none⟩ v0).setCell ⟨b, 1, none⟩ v1).setCell ⟨b, 2, none⟩ v2).setCell ⟨b, 3, none⟩ v3).setCell ⟨b, 4, none⟩ v4).heap.size (((((w0.setCell ⟨b, 0, none⟩ v0).setCell ⟨b, 1, none⟩ v1).setCell ⟨b, 2, none⟩ v2).setCell ⟨b, 3, none⟩ v3).setCell ⟨b, 4, none⟩ v4) w') :
    w'.cell? ⟨b, 0, none⟩ = some v0 ∧ w'.cell? ⟨b, 1, none⟩ = some v1 ∧ w'.cell? ⟨b, 2, none⟩ = some v2 ∧ w'.cell? ⟨b, 3, none⟩ = some v3 ∧ w'.cell? ⟨b, 4, none⟩ = some v4 ∧ Below w.heap.size w w' := by
  have hs : (((((w0.setCell ⟨b, 0, none⟩ v0).setCell ⟨b, 1, none⟩ v1).setCell ⟨b, 2, none⟩ v2).setCell ⟨b, 3, none⟩ v3).setCell ⟨b, 4, none⟩ v4).heap.size = w0.heap.size := by simp
  refine ⟨still (by simp [go_sem, k0]) hb, still (by simp [go_sem, k1]) hb, still (by simp [go_sem, k2]) hb, still (by simp [go_sem, k3]) hb, still (by simp [go_sem, k4]) hb, ?_⟩
  refine Below.trans ?_ (hb.mono (by rw [hs]; exact h0.size))
  repeat' (first | with_reducible exact h0 | with_reducible apply Below.setCell | exact hwb)
/-- The made instruction, whatever it is. -/
theorem inst_ex (n : Int) (h0 : -9223372036854775808 ≤ n) (h1 : n ≤ 9223372036854775807) : ∃ o a b c m : Int, Ok o a b c m ∧ c ≤ 5 ∧
    ∀ w : World, Calls Tryd.prog 11 #[.int .i64 n] w fun e w' => e = .returned (.agg #[.int .i64 o, .int .i64 a, .int .i64 b, .int .i64 c, .int .i32 m]) ∧ Below w.heap.size w w' :=
  ⟨mO n, mA n, mB n, mC n, mM n, made_ok n, mC_le n, fun w => inst_any n w h0 h1⟩
theorem enc_not {op a b c m : Int} (h : ¬ Ok op a b c m) : eW op a b c m = 0 ∧ eE op a b c m = 200 := by
  refine ⟨by unfold eW; rw [if_neg h], by unfold eE; rw [if_neg h]⟩
end Go.Proofs.YtegaookkfjgepaaDoor
