import Derived.Test.YtamjfbcjenocpaaGreatDoorIsaFn6
namespace Go.Proofs.YtamjfbcjenocpaaGreatDoor
set_option linter.unusedVariables false
set_option linter.unusedSimpArgs false
open Go.Lib Go.ChangeShapes Go.WideShapes Go.ChangeAt Go.RowKit Go.Proofs.YtamjfbcjenocpaaGreatDoor.Num Go.Proofs.YtamjfbcjenocpaaGreatDoor.Isa Go.Proofs.YtamjfbcjenocpaaGreatDoor.Mem
set_option maxHeartbeats 4000000 in
theorem formatr_1 (k : Nat) (a b c m : Int) (w : World) (hk : Ok k a b c m) (hl : lay k = 1) :
    Calls Tryz.prog 20 #[.agg #[.int .i64 k, .int .i64 a, .int .i64 b, .int .i64 c, .int .i32 m]] w fun e w' => e = .returned (.string (fmtS k a b c m)) ∧ Below w.heap.size w w' := by
  have hb := ok_bound hk
  have hf : fmtS k a b c m = mnS k ++ { data := #[32] } ++ regS a ++ { data := #[44, 32] } ++ regS b ++ { data := #[44, 32] } ++ regS c := by
    unfold fmtS; rw [if_neg (by simpa using hk)]; simp [hl]
  rw [hf]
  clear hf
  have hd : decide (Ok k a b c m) = true := by simpa using hk
  obtain ⟨h0, h1, h2, h3, h4, h5, h6, h7, h8, h9, h10, h11⟩ := hk
  have sa := regS_size a h1 h2
  have sb := regS_size b h3 h4
  have sc := regS_size c h5 h6
  have sm := itoaS_size m (by omega) (by omega)
  have sn := mnS_size k
  have hm : -2147483648 ≤ m := by omega
  have hm' : m ≤ 2147483647 := by omega
  have q : frm k = 2 := by rcases kind k with k | k | k | k | k | k | k | k | k | k | k <;> obtain ⟨k1, k2, k3, k4, k5⟩ := k <;> omega
  clear h7 h8 h9 h10 h11
  go_enter Tryz.func20, Tryz.ntmps20
  go_wp2_with (first
    | (go_at_call 21; refine (valid_ref _ _ _ _ _ _ hm hm').mono ?_; rintro e w' ⟨rfl, hb1⟩; obtain ⟨c0, c1, c2, c3, c4⟩ := box_cells hb1)
    | (go_at_call 37; refine (mnemonic_ref k _).mono ?_; rintro e w2 ⟨rfl, hb2⟩; have d0 := still c0 hb2; have d1 := still c1 hb2; have d2 := still c2 hb2; have d3 := still c3 hb2; have d4 := still c4 hb2)
    | (go_at_call 38; refine (decimal_ref m _ (by omega) (by omega)).mono ?_; rintro e w3 ⟨rfl, hb3⟩; have e0 := still d0 hb3; have e1 := still d1 hb3; have e2 := still d2 hb3; have e3 := still d3 hb3; have e4 := still d4 hb3)
    | (go_at_call 36; refine (form_ref _ _).mono ?_; rintro e w' ⟨rfl, m2, rfl⟩))
  all_goals first | (exfalso; omega) | skip
  all_goals have hW : Below w.heap.size w (w3.drewN m2) := below_drewN (below_step (below_step (box_below hb1) hb2) hb3) m2
  all_goals have c1' : ∀ d os, (Go.Sort.grow (redrawn (w3.drewN m2) d) os).cell? ⟨w.heap.size, 1, none⟩ = some (.int .i64 a) := fun d os => cell_regrown (w := w3.drewN m2) (by simpa using e1) d os
  all_goals have c2' : ∀ d os, (Go.Sort.grow (redrawn (w3.drewN m2) d) os).cell? ⟨w.heap.size, 2, none⟩ = some (.int .i64 b) := fun d os => cell_regrown (w := w3.drewN m2) (by simpa using e2) d os
  all_goals have c3' : ∀ d os, (Go.Sort.grow (redrawn (w3.drewN m2) d) os).cell? ⟨w.heap.size, 3, none⟩ = some (.int .i64 c) := fun d os => cell_regrown (w := w3.drewN m2) (by simpa using e3) d os
  all_goals clear hb1 hb2 hb3 c0 c1 c2 c3 c4 d0 d1 d2 d3 d4 e0 e1 e2 e3 e4
  all_goals generalize w3.drewN m2 = W at *
  all_goals
    refine wp_region_quiet_below (by kernel_rfl) (by kernel_rfl) ?_
    repeat (go_big_quiet_step ((go_at_call 39; exact Calls.regrown_of (reg_rref _ _ (by assumption) (by assumption)))))
    refine wpQuiet_nil ?_
    rintro W1 ⟨p, rfl⟩
    go_wp2
    go_ret
    exact ⟨rfl, below_step hW (below_regrown _ _ _)⟩
set_option maxHeartbeats 4000000 in
theorem formatr_2 (k : Nat) (a b c m : Int) (w : World) (hk : Ok k a b c m) (hl : lay k = 2) :
    Calls Tryz.prog 20 #[.agg #[.int .i64 k, .int .i64 a, .int .i64 b, .int .i64 c, .int .i32 m]] w fun e w' => e = .returned (.string (fmtS k a b c m)) ∧ Below w.heap.size w w' := by
  have hb := ok_bound hk
  have hf : fmtS k a b c m = mnS k ++ { data := #[32] } ++ regS a ++ { data := #[44, 32] } ++ regS b ++ { data := #[44, 32] } ++ itoaS m := by
    unfold fmtS; rw [if_neg (by simpa using hk)]; simp [hl]
  rw [hf]
  clear hf
  have hd : decide (Ok k a b c m) = true := by simpa using hk
  obtain ⟨h0, h1, h2, h3, h4, h5, h6, h7, h8, h9, h10, h11⟩ := hk
  have sa := regS_size a h1 h2
  have sb := regS_size b h3 h4
  have sc := regS_size c h5 h6
  have sm := itoaS_size m (by omega) (by omega)
  have sn := mnS_size k
  have hm : -2147483648 ≤ m := by omega
  have hm' : m ≤ 2147483647 := by omega
  have p1 : ¬ frm k = 1 := by rcases kind k with k | k | k | k | k | k | k | k | k | k | k <;> obtain ⟨k1, k2, k3, k4, k5⟩ := k <;> omega
  have p2 : ¬ frm k = 2 := by rcases kind k with k | k | k | k | k | k | k | k | k | k | k <;> obtain ⟨k1, k2, k3, k4, k5⟩ := k <;> omega
  have q1 : (frm k == 1) = false := by simpa using p1
  have q2 : (frm k == 2) = false := by simpa using p2
  have q3 : ¬ (32 ≤ (k : Int) ∧ (k : Int) ≤ 36) := by rcases kind k with k | k | k | k | k | k | k | k | k | k | k <;> obtain ⟨k1, k2, k3, k4, k5⟩ := k <;> omega
  have q6 : frm k < 6 := by rcases kind k with k | k | k | k | k | k | k | k | k | k | k <;> obtain ⟨k1, k2, k3, k4, k5⟩ := k <;> omega
  clear p1 p2
  clear h7 h8 h9 h10 h11
  go_enter Tryz.func20, Tryz.ntmps20
  go_wp2_with (first
    | (go_at_call 21; refine (valid_ref _ _ _ _ _ _ hm hm').mono ?_; rintro e w' ⟨rfl, hb1⟩; obtain ⟨c0, c1, c2, c3, c4⟩ := box_cells hb1)
    | (go_at_call 37; refine (mnemonic_ref k _).mono ?_; rintro e w2 ⟨rfl, hb2⟩; have d0 := still c0 hb2; have d1 := still c1 hb2; have d2 := still c2 hb2; have d3 := still c3 hb2; have d4 := still c4 hb2)
    | (go_at_call 38; refine (decimal_ref m _ (by omega) (by omega)).mono ?_; rintro e w3 ⟨rfl, hb3⟩; have e0 := still d0 hb3; have e1 := still d1 hb3; have e2 := still d2 hb3; have e3 := still d3 hb3; have e4 := still d4 hb3)
    | (go_at_call 36; refine (form_ref _ _).mono ?_; rintro e w' ⟨rfl, m2, rfl⟩))
  all_goals first | (exfalso; omega) | skip
  all_goals have hW : Below w.heap.size w (w3.drewN m2) := below_drewN (below_step (below_step (box_below hb1) hb2) hb3) m2
  all_goals have c1' : ∀ d os, (Go.Sort.grow (redrawn (w3.drewN m2) d) os).cell? ⟨w.heap.size, 1, none⟩ = some (.int .i64 a) := fun d os => cell_regrown (w := w3.drewN m2) (by simpa using e1) d os
  all_goals have c2' : ∀ d os, (Go.Sort.grow (redrawn (w3.drewN m2) d) os).cell? ⟨w.heap.size, 2, none⟩ = some (.int .i64 b) := fun d os => cell_regrown (w := w3.drewN m2) (by simpa using e2) d os
  all_goals have c3' : ∀ d os, (Go.Sort.grow (redrawn (w3.drewN m2) d) os).cell? ⟨w.heap.size, 3, none⟩ = some (.int .i64 c) := fun d os => cell_regrown (w := w3.drewN m2) (by simpa using e3) d os
  all_goals clear hb1 hb2 hb3 c0 c1 c2 c3 c4 d0 d1 d2 d3 d4 e0 e1 e2 e3 e4
  all_goals generalize w3.drewN m2 = W at *
  all_goals
    refine wp_region_quiet_below (by kernel_rfl) (by kernel_rfl) ?_
    repeat (go_big_quiet_step ((go_at_call 39; exact Calls.regrown_of (reg_rref _ _ (by assumption) (by assumption)))))
    refine wpQuiet_nil ?_
    rintro W1 ⟨p, rfl⟩
    go_wp2
    go_ret
    exact ⟨rfl, below_step hW (below_regrown _ _ _)⟩
set_option maxHeartbeats 4000000 in
theorem formatr_3 (k : Nat) (a b c m : Int) (w : World) (hk : Ok k a b c m) (hl : lay k = 3) :
    Calls Tryz.prog 20 #[.agg #[.int .i64 k, .int .i64 a, .int .i64 b, .int .i64 c, .int .i32 m]] w fun e w' => e = .returned (.string (fmtS k a b c m)) ∧ Below w.heap.size w w' := by
  have hb := ok_bound hk
  have hf : fmtS k a b c m = mnS k ++ { data := #[32] } ++ regS a ++ { data := #[44, 32] } ++ itoaS m ++ { data := #[40] } ++ regS b ++ { data := #[41] } := by
    unfold fmtS; rw [if_neg (by simpa using hk)]; simp [hl]
  rw [hf]
  clear hf
  have hd : decide (Ok k a b c m) = true := by simpa using hk
  obtain ⟨h0, h1, h2, h3, h4, h5, h6, h7, h8, h9, h10, h11⟩ := hk
  have sa := regS_size a h1 h2
  have sb := regS_size b h3 h4
  have sc := regS_size c h5 h6
  have sm := itoaS_size m (by omega) (by omega)
  have sn := mnS_size k
  have hm : -2147483648 ≤ m := by omega
  have hm' : m ≤ 2147483647 := by omega
  have q : frm k = 3 ∧ 32 ≤ (k : Int) ∧ (k : Int) ≤ 36 := by rcases kind k with k | k | k | k | k | k | k | k | k | k | k <;> obtain ⟨k1, k2, k3, k4, k5⟩ := k <;> omega
  obtain ⟨q1, q2, q3⟩ := q
  clear h7 h8 h9 h10 h11
  go_enter Tryz.func20, Tryz.ntmps20
  go_wp2_with (first
    | (go_at_call 21; refine (valid_ref _ _ _ _ _ _ hm hm').mono ?_; rintro e w' ⟨rfl, hb1⟩; obtain ⟨c0, c1, c2, c3, c4⟩ := box_cells hb1)
    | (go_at_call 37; refine (mnemonic_ref k _).mono ?_; rintro e w2 ⟨rfl, hb2⟩; have d0 := still c0 hb2; have d1 := still c1 hb2; have d2 := still c2 hb2; have d3 := still c3 hb2; have d4 := still c4 hb2)
    | (go_at_call 38; refine (decimal_ref m _ (by omega) (by omega)).mono ?_; rintro e w3 ⟨rfl, hb3⟩; have e0 := still d0 hb3; have e1 := still d1 hb3; have e2 := still d2 hb3; have e3 := still d3 hb3; have e4 := still d4 hb3)
    | (go_at_call 36; refine (form_ref _ _).mono ?_; rintro e w' ⟨rfl, m2, rfl⟩))
  all_goals first | (exfalso; omega) | skip
  all_goals have hW : Below w.heap.size w (w3.drewN m2) := below_drewN (below_step (below_step (box_below hb1) hb2) hb3) m2
  all_goals have c1' : ∀ d os, (Go.Sort.grow (redrawn (w3.drewN m2) d) os).cell? ⟨w.heap.size, 1, none⟩ = some (.int .i64 a) := fun d os => cell_regrown (w := w3.drewN m2) (by simpa using e1) d os
  all_goals have c2' : ∀ d os, (Go.Sort.grow (redrawn (w3.drewN m2) d) os).cell? ⟨w.heap.size, 2, none⟩ = some (.int .i64 b) := fun d os => cell_regrown (w := w3.drewN m2) (by simpa using e2) d os
  all_goals have c3' : ∀ d os, (Go.Sort.grow (redrawn (w3.drewN m2) d) os).cell? ⟨w.heap.size, 3, none⟩ = some (.int .i64 c) := fun d os => cell_regrown (w := w3.drewN m2) (by simpa using e3) d os
  all_goals clear hb1 hb2 hb3 c0 c1 c2 c3 c4 d0 d1 d2 d3 d4 e0 e1 e2 e3 e4
  all_goals generalize w3.drewN m2 = W at *
  all_goals
    refine wp_region_quiet_below (by kernel_rfl) (by kernel_rfl) ?_
    repeat (go_big_quiet_step ((go_at_call 39; exact Calls.regrown_of (reg_rref _ _ (by assumption) (by assumption)))))
    refine wpQuiet_nil ?_
    rintro W1 ⟨p, rfl⟩
    go_wp2
    go_ret
    exact ⟨rfl, below_step hW (below_regrown _ _ _)⟩
set_option maxHeartbeats 4000000 in
theorem formatr_4 (k : Nat) (a b c m : Int) (w : World) (hk : Ok k a b c m) (hl : lay k = 4) :
    Calls Tryz.prog 20 #[.agg #[.int .i64 k, .int .i64 a, .int .i64 b, .int .i64 c, .int .i32 m]] w fun e w' => e = .returned (.string (fmtS k a b c m)) ∧ Below w.heap.size w w' := by
  have hb := ok_bound hk
  have hf : fmtS k a b c m = mnS k ++ { data := #[32] } ++ regS a ++ { data := #[44, 32] } ++ itoaS m := by
    unfold fmtS; rw [if_neg (by simpa using hk)]; simp [hl]
  rw [hf]
  clear hf
  have hd : decide (Ok k a b c m) = true := by simpa using hk
  obtain ⟨h0, h1, h2, h3, h4, h5, h6, h7, h8, h9, h10, h11⟩ := hk
  have sa := regS_size a h1 h2
  have sb := regS_size b h3 h4
  have sc := regS_size c h5 h6
  have sm := itoaS_size m (by omega) (by omega)
  have sn := mnS_size k
  have hm : -2147483648 ≤ m := by omega
  have hm' : m ≤ 2147483647 := by omega
  have p1 : ¬ frm k = 1 := by rcases kind k with k | k | k | k | k | k | k | k | k | k | k <;> obtain ⟨k1, k2, k3, k4, k5⟩ := k <;> omega
  have p2 : ¬ frm k = 2 := by rcases kind k with k | k | k | k | k | k | k | k | k | k | k <;> obtain ⟨k1, k2, k3, k4, k5⟩ := k <;> omega
  have q1 : (frm k == 1) = false := by simpa using p1
  have q2 : (frm k == 2) = false := by simpa using p2
  have q3 : ¬ (32 ≤ (k : Int) ∧ (k : Int) ≤ 36) := by rcases kind k with k | k | k | k | k | k | k | k | k | k | k <;> obtain ⟨k1, k2, k3, k4, k5⟩ := k <;> omega
  have q6 : 6 ≤ frm k := by rcases kind k with k | k | k | k | k | k | k | k | k | k | k <;> obtain ⟨k1, k2, k3, k4, k5⟩ := k <;> omega
  clear p1 p2
  clear h7 h8 h9 h10 h11
  go_enter Tryz.func20, Tryz.ntmps20
  go_wp2_with (first
    | (go_at_call 21; refine (valid_ref _ _ _ _ _ _ hm hm').mono ?_; rintro e w' ⟨rfl, hb1⟩; obtain ⟨c0, c1, c2, c3, c4⟩ := box_cells hb1)
    | (go_at_call 37; refine (mnemonic_ref k _).mono ?_; rintro e w2 ⟨rfl, hb2⟩; have d0 := still c0 hb2; have d1 := still c1 hb2; have d2 := still c2 hb2; have d3 := still c3 hb2; have d4 := still c4 hb2)
    | (go_at_call 38; refine (decimal_ref m _ (by omega) (by omega)).mono ?_; rintro e w3 ⟨rfl, hb3⟩; have e0 := still d0 hb3; have e1 := still d1 hb3; have e2 := still d2 hb3; have e3 := still d3 hb3; have e4 := still d4 hb3)
    | (go_at_call 36; refine (form_ref _ _).mono ?_; rintro e w' ⟨rfl, m2, rfl⟩)
    | (go_at_call 39; refine (reg_rref _ _ (by assumption) (by assumption)).mono ?_; rintro e w4 ⟨rfl, hb4⟩))
  all_goals first | (exfalso; omega) | skip
  all_goals go_ret
  all_goals exact ⟨rfl, below_step (below_drewN (below_step (below_step (box_below hb1) hb2) hb3) m2) hb4⟩
set_option maxHeartbeats 4000000 in
theorem formatr_5 (k : Nat) (a b c m : Int) (w : World) (hk : Ok k a b c m) (hl : lay k = 5) :
    Calls Tryz.prog 20 #[.agg #[.int .i64 k, .int .i64 a, .int .i64 b, .int .i64 c, .int .i32 m]] w fun e w' => e = .returned (.string (fmtS k a b c m)) ∧ Below w.heap.size w w' := by
  have hb := ok_bound hk
  have hf : fmtS k a b c m = mnS k := by
    unfold fmtS; rw [if_neg (by simpa using hk)]; simp [hl]
  rw [hf]
  clear hf
  have hd : decide (Ok k a b c m) = true := by simpa using hk
  obtain ⟨h0, h1, h2, h3, h4, h5, h6, h7, h8, h9, h10, h11⟩ := hk
  have sa := regS_size a h1 h2
  have sb := regS_size b h3 h4
  have sc := regS_size c h5 h6
  have sm := itoaS_size m (by omega) (by omega)
  have sn := mnS_size k
  have hm : -2147483648 ≤ m := by omega
  have hm' : m ≤ 2147483647 := by omega
  have q : frm k = 1 := by rcases kind k with k | k | k | k | k | k | k | k | k | k | k <;> obtain ⟨k1, k2, k3, k4, k5⟩ := k <;> omega
  clear h7 h8 h9 h10 h11
  go_enter Tryz.func20, Tryz.ntmps20
  go_wp2_with (first
    | (go_at_call 21; refine (valid_ref _ _ _ _ _ _ hm hm').mono ?_; rintro e w' ⟨rfl, hb1⟩; obtain ⟨c0, c1, c2, c3, c4⟩ := box_cells hb1)
    | (go_at_call 37; refine (mnemonic_ref k _).mono ?_; rintro e w2 ⟨rfl, hb2⟩; have d0 := still c0 hb2; have d1 := still c1 hb2; have d2 := still c2 hb2; have d3 := still c3 hb2; have d4 := still c4 hb2)
    | (go_at_call 38; refine (decimal_ref m _ (by omega) (by omega)).mono ?_; rintro e w3 ⟨rfl, hb3⟩; have e0 := still d0 hb3; have e1 := still d1 hb3; have e2 := still d2 hb3; have e3 := still d3 hb3; have e4 := still d4 hb3)
    | (go_at_call 36; refine (form_ref _ _).mono ?_; rintro e w' ⟨rfl, m2, rfl⟩))
  all_goals first | (exfalso; omega) | skip
  all_goals go_ret
  all_goals exact ⟨rfl, below_drewN (below_step (below_step (box_below hb1) hb2) hb3) m2⟩
theorem format_ref (op a b c m : Int) (w : World) (hm : -2147483648 ≤ m) (hm' : m ≤ 2147483647) :
    Calls Tryz.prog 20 #[.agg #[.int .i64 op, .int .i64 a, .int .i64 b, .int .i64 c, .int .i32 m]] w fun e w' => e = .returned (.string (fmtS op a b c m)) ∧ Below w.heap.size w w' := by
  by_cases hk : Ok op a b c m
  · have hb := ok_bound hk
    obtain ⟨k, rfl⟩ : ∃ k : Nat, op = k := ⟨op.toNat, by omega⟩
    rcases kind_lay k with h | h | h | h | h | h
    · exact absurd h hk.1
    · exact formatr_1 k a b c m w hk h
    · exact formatr_2 k a b c m w hk h
    · exact formatr_3 k a b c m w hk h
    · exact formatr_4 k a b c m w hk h
    · exact formatr_5 k a b c m w hk h
  · have hd : decide (Ok op a b c m) = false := by simpa using hk
    have hf : fmtS op a b c m = { data := #[] } := by unfold fmtS; rw [if_pos hk]
    rw [hf]
    clear hf
    go_enter Tryz.func20, Tryz.ntmps20
    go_wp2_with (go_at_call 21; refine (valid_ref _ _ _ _ _ _ hm hm').mono ?_; rintro e w' ⟨rfl, hb1⟩)
    go_ret
    exact ⟨rfl, box_below hb1⟩
end Go.Proofs.YtamjfbcjenocpaaGreatDoor
