import Derived.Test.YtcalfkhdjhbmgaaDoorIsaFn10
namespace Go.Proofs.YtcalfkhdjhbmgaaDoor
set_option linter.unusedVariables false
set_option linter.unusedSimpArgs false
open Go.ChangeShapes Go.WideShapes Go.ChangeAt Go.RowKit Go.Proofs.YtcalfkhdjhbmgaaDoor.Num Go.Proofs.YtcalfkhdjhbmgaaDoor.Isa Go.Proofs.YtcalfkhdjhbmgaaDoor.Mem
theorem enc_back {op a b c m : Int} (h : Ok op a b c m) : eW op a b c m = word op a b c m ∧ eE op a b c m = 0 ∧ decide (dOk (word op a b c m)) = true ∧ zOp (word op a b c m) = op ∧ zA (word op a b c m) = a ∧ zB (word op a b c m) = b ∧ zC (word op a b c m) = c ∧ zM (word op a b c m) = m := by
  obtain ⟨e1, e2, e3, e4, e5⟩ := dec_word h
  have hd := ok_dec h
  refine ⟨by unfold eW; rw [if_pos h], by unfold eE; rw [if_pos h], by simpa using hd, ?_, ?_, ?_, ?_, ?_⟩
  · unfold zOp; rw [if_pos hd, e1]
  · unfold zA; rw [if_pos hd, e2]
  · unfold zB; rw [if_pos hd, e3]
  · unfold zC; rw [if_pos hd, e4]
  · unfold zM; rw [if_pos hd, e5]
theorem alloc_lt' {w w' : World} {o : Obj} (hb : Below (w.alloc o).heap.size (w.alloc o) w') : w.heap.size < w'.heap.size := by
  have := hb.size
  simp at this
  omega
theorem box_frozen {w w' : World} {T : TypeId} {v0 v1 v2 v3 v4 : Value} (hb : Below (w.alloc (Obj.cells #[v0, v1, v2, v3, v4] T)).heap.size (w.alloc (Obj.cells #[v0, v1, v2, v3, v4] T)) w') (k : Nat) : w'.frozen? ⟨w.heap.size, k, none⟩ = false := by
  have hs : w.heap.size < (w.alloc (Obj.cells #[v0, v1, v2, v3, v4] T)).heap.size := by simp
  rw [hb.frozen hs]; simp [go_sem]
theorem set5 {w w0 w' : World} {b : Nat} {v0 v1 v2 v3 v4 u0 u1 u2 u3 u4 : Value} (k0 : w0.cell? ⟨b, 0, none⟩ = some u0) (k1 : w0.cell? ⟨b, 1, none⟩ = some u1) (k2 : w0.cell? ⟨b, 2, none⟩ = some u2) (k3 : w0.cell? ⟨b, 3, none⟩ = some u3) (k4 : w0.cell? ⟨b, 4, none⟩ = some u4)
    (h0 : Below w.heap.size w w0) (hwb : w.heap.size ≤ b) (hb : Below (((((w0.setCell ⟨b, 0, none⟩ v0).setCell ⟨b, 1, none⟩ v1).setCell ⟨b, 2, none⟩ v2).setCell ⟨b, 3, none⟩ v3).setCell ⟨b, 4, none⟩ v4).heap.size (((((w0.setCell ⟨b, 0, none⟩ v0).setCell ⟨b, 1, none⟩ v1).setCell ⟨b, 2, none⟩ v2).setCell ⟨b, 3, none⟩ v3).setCell ⟨b, 4, none⟩ v4) w') :
    w'.cell? ⟨b, 0, none⟩ = some v0 ∧ w'.cell? ⟨b, 1, none⟩ = some v1 ∧ w'.cell? ⟨b, 2, none⟩ = some v2 ∧ w'.cell? ⟨b, 3, none⟩ = some v3 ∧ w'.cell? ⟨b, 4, none⟩ = some v4 ∧ Below w.heap.size w w' := by
  have hs : (((((w0.setCell ⟨b, 0, none⟩ v0).setCell ⟨b, 1, none⟩ v1).setCell ⟨b, 2, none⟩ v2).setCell ⟨b, 3, none⟩ v3).setCell ⟨b, 4, none⟩ v4).heap.size = w0.heap.size := by simp
  refine ⟨still (by simp [go_sem, k0]) hb, still (by simp [go_sem, k1]) hb, still (by simp [go_sem, k2]) hb, still (by simp [go_sem, k3]) hb, still (by simp [go_sem, k4]) hb, ?_⟩
  refine Below.trans ?_ (hb.mono (by rw [hs]; exact h0.size))
  repeat' (first | with_reducible exact h0 | with_reducible apply Below.setCell | exact hwb)
/-- The made instruction, whatever it is. -/
theorem inst_ex (n : Int) (h0 : -9223372036854775808 ≤ n) (h1 : n ≤ 9223372036854775807) : ∃ o a b c m : Int, Ok o a b c m ∧ c ≤ 5 ∧
    ∀ w : World, Calls Tryd.prog 10 #[.int .i64 n] w fun e w' => e = .returned (.agg #[.int .i64 o, .int .i64 a, .int .i64 b, .int .i64 c, .int .i32 m]) ∧ Below w.heap.size w w' :=
  ⟨mO n, mA n, mB n, mC n, mM n, made_ok n, mC_le n, fun w => inst_any n w h0 h1⟩
theorem enc_not {op a b c m : Int} (h : ¬ Ok op a b c m) : eW op a b c m = 0 ∧ eE op a b c m = 200 := by
  refine ⟨by unfold eW; rw [if_neg h], by unfold eE; rw [if_neg h]⟩
set_option maxHeartbeats 2000000 in
theorem encodes_plain (op a b c m n : Int) (w0 : -2147483648 ≤ m ∧ m ≤ 2147483647) (w : World) (hT : Tabs w) :
    Calls Tryd.prog 3 #[.agg #[.int .i64 op, .int .i64 a, .int .i64 b, .int .i64 c, .int .i32 m], .int .i64 n, .bool false] w fun e w' => e = .returned (.bool true) ∧ Below w.heap.size w w' := by
  by_cases hk : Ok op a b c m
  · have hd : decide (Ok op a b c m) = true := by simpa using hk
    obtain ⟨q1, q2, q3, q4, q5, q6, q7, q8⟩ := enc_back hk
    have hwr := word_range hk
    clear hk
    go_enter Tryd.func3, Tryd.ntmps3
    go_wp2_with (first
      | (go_at_call 11; refine (encode_any _ _ _ _ _ _ w0.1 w0.2).mono ?_; rintro e w1 ⟨rfl, hb1⟩; obtain ⟨c0, c1, c2, c3, c4⟩ := box_cells hb1; have b1 := box_below hb1)
      | (go_at_call 12; refine (encode_ref _ _ _ _ _ _ w0.1 w0.2).mono ?_; rintro e w2 ⟨rfl, hb2⟩; have d0 := still c0 hb2; have d1 := still c1 hb2; have d2 := still c2 hb2; have d3 := still c3 hb2; have d4 := still c4 hb2; have b2 := below_step b1 hb2)
      | (go_at_call 13; refine (valid_any _ _ _ _ _ _ w0.1 w0.2).mono ?_; rintro e w3 ⟨rfl, hb3⟩; have e0 := still d0 hb3; have e1 := still d1 hb3; have e2 := still d2 hb3; have e3 := still d3 hb3; have e4 := still d4 hb3; have b3 := below_step b2 hb3)
      | (go_at_call 15; refine (decode_any _ _ hwr.1 hwr.2).mono ?_; rintro e w4 ⟨rfl, hb4⟩; have f0 := still e0 hb4; have f1 := still e1 hb4; have f2 := still e2 hb4; have f3 := still e3 hb4; have f4 := still e4 hb4; have hlt : w.heap.size < w4.heap.size := block_lt_of_cell f0; have b4 := below_step b3 hb4)
      | (go_at_call 14; refine (awake_any _ (by first | exact hT.on b4 | exact hT.on (b4.alloc b4.size _))).mono ?_; rintro e w6 ⟨rfl, hb6⟩))
    go_ret
    exact ⟨rfl, below_step (b4.alloc b4.size _) hb6⟩
  · have hd : decide (Ok op a b c m) = false := by simpa using hk
    obtain ⟨q1, q2⟩ := enc_not hk
    clear hk
    go_enter Tryd.func3, Tryd.ntmps3
    go_wp2_with (first
      | (go_at_call 11; refine (encode_any _ _ _ _ _ _ w0.1 w0.2).mono ?_; rintro e w1 ⟨rfl, hb1⟩; obtain ⟨c0, c1, c2, c3, c4⟩ := box_cells hb1; have b1 := box_below hb1)
      | (go_at_call 12; refine (encode_ref _ _ _ _ _ _ w0.1 w0.2).mono ?_; rintro e w2 ⟨rfl, hb2⟩; have d0 := still c0 hb2; have d1 := still c1 hb2; have d2 := still c2 hb2; have d3 := still c3 hb2; have d4 := still c4 hb2; have b2 := below_step b1 hb2)
      | (go_at_call 13; refine (valid_any _ _ _ _ _ _ w0.1 w0.2).mono ?_; rintro e w3 ⟨rfl, hb3⟩; have b3 := below_step b2 hb3)
      | (go_at_call 14; refine (awake_any _ (hT.on b3)).mono ?_; rintro e w6 ⟨rfl, hb6⟩))
    go_ret
    exact ⟨rfl, below_step b3 hb6⟩
set_option maxHeartbeats 2000000 in
theorem encodes_made (op a b c m n : Int) (w1 : (Lit.int .i64 n).wf = true) (w : World) (hT : Tabs w) :
    Calls Tryd.prog 3 #[.agg #[.int .i64 op, .int .i64 a, .int .i64 b, .int .i64 c, .int .i32 m], .int .i64 n, .bool true] w fun e w' => e = .returned (.bool true) ∧ Below w.heap.size w w' := by
  have hn := wf_i64 w1
  obtain ⟨O, A, B, C, M, hk, _, hinst⟩ := inst_ex n hn.1 hn.2
  have hb := ok_bound hk
  have w0 : -2147483648 ≤ M ∧ M ≤ 2147483647 := by omega
  have hd : decide (Ok (O) (A) (B) (C) (M)) = true := by simpa using hk
  obtain ⟨q1, q2, q3, q4, q5, q6, q7, q8⟩ := enc_back hk
  have hwr := word_range hk
  clear hk hb
  go_enter Tryd.func3, Tryd.ntmps3
  go_wp2_with (first
    | (go_at_call 10; refine (hinst _).mono ?_; rintro e w0x ⟨rfl, hb0⟩; have hlt0 := alloc_lt' hb0; have b0 := box_below hb0; obtain ⟨k0, k1, k2, k3, k4⟩ := box_cells hb0; have z0 := box_frozen hb0 0; have z1 := box_frozen hb0 1; have z2 := box_frozen hb0 2; have z3 := box_frozen hb0 3; have z4 := box_frozen hb0 4)
    | (go_at_call 11; refine (encode_any _ _ _ _ _ _ w0.1 w0.2).mono ?_; rintro e w1 ⟨rfl, hb1⟩; obtain ⟨c0, c1, c2, c3, c4, b1⟩ := set5 k0 k1 k2 k3 k4 b0 (Nat.le_refl _) hb1; clear k0 k1 k2 k3 k4 z0 z1 z2 z3 z4)
    | (go_at_call 12; refine (encode_ref _ _ _ _ _ _ w0.1 w0.2).mono ?_; rintro e w2 ⟨rfl, hb2⟩; have d0 := still c0 hb2; have d1 := still c1 hb2; have d2 := still c2 hb2; have d3 := still c3 hb2; have d4 := still c4 hb2; have b2 := below_step b1 hb2)
    | (go_at_call 13; refine (valid_any _ _ _ _ _ _ w0.1 w0.2).mono ?_; rintro e w3 ⟨rfl, hb3⟩; have e0 := still d0 hb3; have e1 := still d1 hb3; have e2 := still d2 hb3; have e3 := still d3 hb3; have e4 := still d4 hb3; have b3 := below_step b2 hb3)
    | (go_at_call 15; refine (decode_any _ _ hwr.1 hwr.2).mono ?_; rintro e w4 ⟨rfl, hb4⟩; have f0 := still e0 hb4; have f1 := still e1 hb4; have f2 := still e2 hb4; have f3 := still e3 hb4; have f4 := still e4 hb4; have hlt : w.heap.size < w4.heap.size := block_lt_of_cell f0; have b4 := below_step b3 hb4)
    | (go_at_call 14; refine (awake_any _ (hT.on (b4.alloc b4.size _))).mono ?_; rintro e w6 ⟨rfl, hb6⟩))
  go_ret
  exact ⟨rfl, below_step (b4.alloc b4.size _) hb6⟩
theorem encodes_walk (op a b c m n : Int) (made : Bool) (w0 : (Lit.int .i32 m).wf = true) (w1 : (Lit.int .i64 n).wf = true) (w : World) (hT : Tabs w) :
    Calls Tryd.prog 3 #[.agg #[.int .i64 op, .int .i64 a, .int .i64 b, .int .i64 c, .int .i32 m], .int .i64 n, .bool made] w fun e w' => e = .returned (.bool true) ∧ Below w.heap.size w w' := by
  cases made
  · exact encodes_plain op a b c m n (by simpa [Lit.wf, IntKind.min, IntKind.max, IntKind.bits, IntKind.signed] using w0) w hT
  · exact encodes_made op a b c m n w1 w hT
end Go.Proofs.YtcalfkhdjhbmgaaDoor
