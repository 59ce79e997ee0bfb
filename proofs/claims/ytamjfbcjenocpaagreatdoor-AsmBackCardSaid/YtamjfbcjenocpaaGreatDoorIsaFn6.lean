import Derived.Test.YtamjfbcjenocpaaGreatDoorIsaFn5
namespace Go.Proofs.YtamjfbcjenocpaaGreatDoor
set_option linter.unusedVariables false
set_option linter.unusedSimpArgs false
open Go.Lib Go.ChangeShapes Go.WideShapes Go.ChangeAt Go.RowKit Go.Proofs.YtamjfbcjenocpaaGreatDoor.Num Go.Proofs.YtamjfbcjenocpaaGreatDoor.Isa Go.Proofs.YtamjfbcjenocpaaGreatDoor.Mem
/-- An instruction as a text. -/
def fmtS (op a b c m : Int) : ByteArray :=
  if ¬ Ok op a b c m then { data := #[] }
  else if lay op = 1 then mnS op.toNat ++ { data := #[32] } ++ regS a ++ { data := #[44, 32] } ++ regS b ++ { data := #[44, 32] } ++ regS c
  else if lay op = 2 then mnS op.toNat ++ { data := #[32] } ++ regS a ++ { data := #[44, 32] } ++ regS b ++ { data := #[44, 32] } ++ itoaS m
  else if lay op = 3 then mnS op.toNat ++ { data := #[32] } ++ regS a ++ { data := #[44, 32] } ++ itoaS m ++ { data := #[40] } ++ regS b ++ { data := #[41] }
  else if lay op = 4 then mnS op.toNat ++ { data := #[32] } ++ regS a ++ { data := #[44, 32] } ++ itoaS m
  else mnS op.toNat
theorem ret_str {a b : ByteArray} (h : a = b) : Ending.returned (.string a) = .returned (.string b) := by rw [h]
set_option maxHeartbeats 2000000 in
theorem format_1 (k : Nat) (a b c m : Int) (w : World) (hT : Tabs w) (hk : Ok k a b c m) (hl : lay k = 1) :
    Calls Tryz.prog 14 #[.agg #[.int .i64 k, .int .i64 a, .int .i64 b, .int .i64 c, .int .i32 m]] w fun e w' => e = .returned (.string (fmtS k a b c m)) ∧ Below w.heap.size w w' := by
  have hb := ok_bound hk
  have hf : fmtS k a b c m = mnS k ++ { data := #[32] } ++ regS a ++ { data := #[44, 32] } ++ regS b ++ { data := #[44, 32] } ++ regS c := by
    unfold fmtS; rw [if_neg (by simpa using hk)]; simp [hl]
  rw [hf]
  clear hf
  have hd : decide (Ok k a b c m) = true := by simpa using hk
  obtain ⟨h0, h1, h2, h3, h4, h5, h6, h7, h8, h9, h10, h11⟩ := hk
  have sa := regS_size a h1 h2
  have sb := regS_size b h3 h4
  have sc := regS_size c h5 h6
  have sm := itoaS_size m (by omega) (by omega)
  have sn := mnS_size k
  have hm : -2147483648 ≤ m := by omega
  have hm' : m ≤ 2147483647 := by omega
  have hk64 : (k : Int) < 65 := by omega
  clear h7 h8 h9 h10 h11
  go_enter Tryz.func14, Tryz.ntmps14
  go_wp2_with (first
    | (go_at_call 28; refine (valid_any _ _ _ _ _ _ hm hm').mono ?_; rintro e w' ⟨rfl, hb1⟩; obtain ⟨c0, c1, c2, c3, c4⟩ := box_cells hb1; have cn := (hT.on (box_below hb1)).name k (by omega))
    | (go_at_call 26; refine (layout_any _ _).mono ?_; rintro e w' ⟨rfl, m2, rfl⟩))
  have hW : Below w.heap.size w (w'.drewN m2) := below_drewN (box_below hb1) m2
  have hTW := hT.on hW
  have c1' : ∀ d os, (Go.Sort.grow (redrawn (w'.drewN m2) d) os).cell? ⟨w.heap.size, 1, none⟩ = some (.int .i64 a) := fun d os => cell_regrown (w := w'.drewN m2) (by simpa using c1) d os
  have c2' : ∀ d os, (Go.Sort.grow (redrawn (w'.drewN m2) d) os).cell? ⟨w.heap.size, 2, none⟩ = some (.int .i64 b) := fun d os => cell_regrown (w := w'.drewN m2) (by simpa using c2) d os
  have c3' : ∀ d os, (Go.Sort.grow (redrawn (w'.drewN m2) d) os).cell? ⟨w.heap.size, 3, none⟩ = some (.int .i64 c) := fun d os => cell_regrown (w := w'.drewN m2) (by simpa using c3) d os
  have c4' : ∀ d os, (Go.Sort.grow (redrawn (w'.drewN m2) d) os).cell? ⟨w.heap.size, 4, none⟩ = some (.int .i32 m) := fun d os => cell_regrown (w := w'.drewN m2) (by simpa using c4) d os
  clear hb1 c0 c1 c2 c3 c4 cn
  generalize w'.drewN m2 = W at *
  refine wp_region_quiet_below (by kernel_rfl) (by kernel_rfl) ?_
  repeat (go_big_quiet_step (first
    | (go_at_call 30; exact Calls.regrown_of (reg_isa _ _ (hTW.on (below_regrown _ _ _)) (by assumption) (by assumption)))
    | (go_at_call 31; exact Calls.regrown_of (number_isa _ _ (hTW.on (below_regrown _ _ _)) hm hm'))))
  refine wpQuiet_nil ?_
  rintro W1 ⟨p, rfl⟩
  go_wp2
  go_ret
  exact ⟨rfl, below_step hW (below_regrown _ _ _)⟩
set_option maxHeartbeats 2000000 in
theorem format_2 (k : Nat) (a b c m : Int) (w : World) (hT : Tabs w) (hk : Ok k a b c m) (hl : lay k = 2) :
    Calls Tryz.prog 14 #[.agg #[.int .i64 k, .int .i64 a, .int .i64 b, .int .i64 c, .int .i32 m]] w fun e w' => e = .returned (.string (fmtS k a b c m)) ∧ Below w.heap.size w w' := by
  have hb := ok_bound hk
  have hf : fmtS k a b c m = mnS k ++ { data := #[32] } ++ regS a ++ { data := #[44, 32] } ++ regS b ++ { data := #[44, 32] } ++ itoaS m := by
    unfold fmtS; rw [if_neg (by simpa using hk)]; simp [hl]
  rw [hf]
  clear hf
  have hd : decide (Ok k a b c m) = true := by simpa using hk
  obtain ⟨h0, h1, h2, h3, h4, h5, h6, h7, h8, h9, h10, h11⟩ := hk
  have sa := regS_size a h1 h2
  have sb := regS_size b h3 h4
  have sc := regS_size c h5 h6
  have sm := itoaS_size m (by omega) (by omega)
  have sn := mnS_size k
  have hm : -2147483648 ≤ m := by omega
  have hm' : m ≤ 2147483647 := by omega
  have hk64 : (k : Int) < 65 := by omega
  clear h7 h8 h9 h10 h11
  go_enter Tryz.func14, Tryz.ntmps14
  go_wp2_with (first
    | (go_at_call 28; refine (valid_any _ _ _ _ _ _ hm hm').mono ?_; rintro e w' ⟨rfl, hb1⟩; obtain ⟨c0, c1, c2, c3, c4⟩ := box_cells hb1; have cn := (hT.on (box_below hb1)).name k (by omega))
    | (go_at_call 26; refine (layout_any _ _).mono ?_; rintro e w' ⟨rfl, m2, rfl⟩))
  have hW : Below w.heap.size w (w'.drewN m2) := below_drewN (box_below hb1) m2
  have hTW := hT.on hW
  have c1' : ∀ d os, (Go.Sort.grow (redrawn (w'.drewN m2) d) os).cell? ⟨w.heap.size, 1, none⟩ = some (.int .i64 a) := fun d os => cell_regrown (w := w'.drewN m2) (by simpa using c1) d os
  have c2' : ∀ d os, (Go.Sort.grow (redrawn (w'.drewN m2) d) os).cell? ⟨w.heap.size, 2, none⟩ = some (.int .i64 b) := fun d os => cell_regrown (w := w'.drewN m2) (by simpa using c2) d os
  have c3' : ∀ d os, (Go.Sort.grow (redrawn (w'.drewN m2) d) os).cell? ⟨w.heap.size, 3, none⟩ = some (.int .i64 c) := fun d os => cell_regrown (w := w'.drewN m2) (by simpa using c3) d os
  have c4' : ∀ d os, (Go.Sort.grow (redrawn (w'.drewN m2) d) os).cell? ⟨w.heap.size, 4, none⟩ = some (.int .i32 m) := fun d os => cell_regrown (w := w'.drewN m2) (by simpa using c4) d os
  clear hb1 c0 c1 c2 c3 c4 cn
  generalize w'.drewN m2 = W at *
  refine wp_region_quiet_below (by kernel_rfl) (by kernel_rfl) ?_
  repeat (go_big_quiet_step (first
    | (go_at_call 30; exact Calls.regrown_of (reg_isa _ _ (hTW.on (below_regrown _ _ _)) (by assumption) (by assumption)))
    | (go_at_call 31; exact Calls.regrown_of (number_isa _ _ (hTW.on (below_regrown _ _ _)) hm hm'))))
  refine wpQuiet_nil ?_
  rintro W1 ⟨p, rfl⟩
  go_wp2
  go_ret
  exact ⟨rfl, below_step hW (below_regrown _ _ _)⟩
set_option maxHeartbeats 2000000 in
theorem format_3 (k : Nat) (a b c m : Int) (w : World) (hT : Tabs w) (hk : Ok k a b c m) (hl : lay k = 3) :
    Calls Tryz.prog 14 #[.agg #[.int .i64 k, .int .i64 a, .int .i64 b, .int .i64 c, .int .i32 m]] w fun e w' => e = .returned (.string (fmtS k a b c m)) ∧ Below w.heap.size w w' := by
  have hb := ok_bound hk
  have hf : fmtS k a b c m = mnS k ++ { data := #[32] } ++ regS a ++ { data := #[44, 32] } ++ itoaS m ++ { data := #[40] } ++ regS b ++ { data := #[41] } := by
    unfold fmtS; rw [if_neg (by simpa using hk)]; simp [hl]
  rw [hf]
  clear hf
  have hd : decide (Ok k a b c m) = true := by simpa using hk
  obtain ⟨h0, h1, h2, h3, h4, h5, h6, h7, h8, h9, h10, h11⟩ := hk
  have sa := regS_size a h1 h2
  have sb := regS_size b h3 h4
  have sc := regS_size c h5 h6
  have sm := itoaS_size m (by omega) (by omega)
  have sn := mnS_size k
  have hm : -2147483648 ≤ m := by omega
  have hm' : m ≤ 2147483647 := by omega
  have hk64 : (k : Int) < 65 := by omega
  clear h7 h8 h9 h10 h11
  go_enter Tryz.func14, Tryz.ntmps14
  go_wp2_with (first
    | (go_at_call 28; refine (valid_any _ _ _ _ _ _ hm hm').mono ?_; rintro e w' ⟨rfl, hb1⟩; obtain ⟨c0, c1, c2, c3, c4⟩ := box_cells hb1; have cn := (hT.on (box_below hb1)).name k (by omega))
    | (go_at_call 26; refine (layout_any _ _).mono ?_; rintro e w' ⟨rfl, m2, rfl⟩))
  have hW : Below w.heap.size w (w'.drewN m2) := below_drewN (box_below hb1) m2
  have hTW := hT.on hW
  have c1' : ∀ d os, (Go.Sort.grow (redrawn (w'.drewN m2) d) os).cell? ⟨w.heap.size, 1, none⟩ = some (.int .i64 a) := fun d os => cell_regrown (w := w'.drewN m2) (by simpa using c1) d os
  have c2' : ∀ d os, (Go.Sort.grow (redrawn (w'.drewN m2) d) os).cell? ⟨w.heap.size, 2, none⟩ = some (.int .i64 b) := fun d os => cell_regrown (w := w'.drewN m2) (by simpa using c2) d os
  have c3' : ∀ d os, (Go.Sort.grow (redrawn (w'.drewN m2) d) os).cell? ⟨w.heap.size, 3, none⟩ = some (.int .i64 c) := fun d os => cell_regrown (w := w'.drewN m2) (by simpa using c3) d os
  have c4' : ∀ d os, (Go.Sort.grow (redrawn (w'.drewN m2) d) os).cell? ⟨w.heap.size, 4, none⟩ = some (.int .i32 m) := fun d os => cell_regrown (w := w'.drewN m2) (by simpa using c4) d os
  clear hb1 c0 c1 c2 c3 c4 cn
  generalize w'.drewN m2 = W at *
  refine wp_region_quiet_below (by kernel_rfl) (by kernel_rfl) ?_
  repeat (go_big_quiet_step (first
    | (go_at_call 30; exact Calls.regrown_of (reg_isa _ _ (hTW.on (below_regrown _ _ _)) (by assumption) (by assumption)))
    | (go_at_call 31; exact Calls.regrown_of (number_isa _ _ (hTW.on (below_regrown _ _ _)) hm hm'))))
  refine wpQuiet_nil ?_
  rintro W1 ⟨p, rfl⟩
  go_wp2
  go_ret
  exact ⟨rfl, below_step hW (below_regrown _ _ _)⟩
set_option maxHeartbeats 2000000 in
theorem format_4 (k : Nat) (a b c m : Int) (w : World) (hT : Tabs w) (hk : Ok k a b c m) (hl : lay k = 4) :
    Calls Tryz.prog 14 #[.agg #[.int .i64 k, .int .i64 a, .int .i64 b, .int .i64 c, .int .i32 m]] w fun e w' => e = .returned (.string (fmtS k a b c m)) ∧ Below w.heap.size w w' := by
  have hb := ok_bound hk
  have hf : fmtS k a b c m = mnS k ++ { data := #[32] } ++ regS a ++ { data := #[44, 32] } ++ itoaS m := by
    unfold fmtS; rw [if_neg (by simpa using hk)]; simp [hl]
  rw [hf]
  clear hf
  have hd : decide (Ok k a b c m) = true := by simpa using hk
  obtain ⟨h0, h1, h2, h3, h4, h5, h6, h7, h8, h9, h10, h11⟩ := hk
  have sa := regS_size a h1 h2
  have sb := regS_size b h3 h4
  have sc := regS_size c h5 h6
  have sm := itoaS_size m (by omega) (by omega)
  have sn := mnS_size k
  have hm : -2147483648 ≤ m := by omega
  have hm' : m ≤ 2147483647 := by omega
  have hk64 : (k : Int) < 65 := by omega
  clear h7 h8 h9 h10 h11
  go_enter Tryz.func14, Tryz.ntmps14
  go_wp2_with (first
    | (go_at_call 28; refine (valid_any _ _ _ _ _ _ hm hm').mono ?_; rintro e w' ⟨rfl, hb1⟩; obtain ⟨c0, c1, c2, c3, c4⟩ := box_cells hb1; have cn := (hT.on (box_below hb1)).name k (by omega))
    | (go_at_call 26; refine (layout_any _ _).mono ?_; rintro e w' ⟨rfl, m2, rfl⟩))
  have hW : Below w.heap.size w (w'.drewN m2) := below_drewN (box_below hb1) m2
  have hTW := hT.on hW
  have c1' : ∀ d os, (Go.Sort.grow (redrawn (w'.drewN m2) d) os).cell? ⟨w.heap.size, 1, none⟩ = some (.int .i64 a) := fun d os => cell_regrown (w := w'.drewN m2) (by simpa using c1) d os
  have c2' : ∀ d os, (Go.Sort.grow (redrawn (w'.drewN m2) d) os).cell? ⟨w.heap.size, 2, none⟩ = some (.int .i64 b) := fun d os => cell_regrown (w := w'.drewN m2) (by simpa using c2) d os
  have c3' : ∀ d os, (Go.Sort.grow (redrawn (w'.drewN m2) d) os).cell? ⟨w.heap.size, 3, none⟩ = some (.int .i64 c) := fun d os => cell_regrown (w := w'.drewN m2) (by simpa using c3) d os
  have c4' : ∀ d os, (Go.Sort.grow (redrawn (w'.drewN m2) d) os).cell? ⟨w.heap.size, 4, none⟩ = some (.int .i32 m) := fun d os => cell_regrown (w := w'.drewN m2) (by simpa using c4) d os
  clear hb1 c0 c1 c2 c3 c4 cn
  generalize w'.drewN m2 = W at *
  refine wp_region_quiet_below (by kernel_rfl) (by kernel_rfl) ?_
  repeat (go_big_quiet_step (first
    | (go_at_call 30; exact Calls.regrown_of (reg_isa _ _ (hTW.on (below_regrown _ _ _)) (by assumption) (by assumption)))
    | (go_at_call 31; exact Calls.regrown_of (number_isa _ _ (hTW.on (below_regrown _ _ _)) hm hm'))))
  refine wpQuiet_nil ?_
  rintro W1 ⟨p, rfl⟩
  go_wp2
  go_ret
  exact ⟨rfl, below_step hW (below_regrown _ _ _)⟩
set_option maxHeartbeats 2000000 in
theorem format_5 (k : Nat) (a b c m : Int) (w : World) (hT : Tabs w) (hk : Ok k a b c m) (hl : lay k = 5) :
    Calls Tryz.prog 14 #[.agg #[.int .i64 k, .int .i64 a, .int .i64 b, .int .i64 c, .int .i32 m]] w fun e w' => e = .returned (.string (fmtS k a b c m)) ∧ Below w.heap.size w w' := by
  have hb := ok_bound hk
  have hf : fmtS k a b c m = mnS k := by
    unfold fmtS; rw [if_neg (by simpa using hk)]; simp [hl]
  rw [hf]
  clear hf
  have hd : decide (Ok k a b c m) = true := by simpa using hk
  obtain ⟨h0, h1, h2, h3, h4, h5, h6, h7, h8, h9, h10, h11⟩ := hk
  have sa := regS_size a h1 h2
  have sb := regS_size b h3 h4
  have sc := regS_size c h5 h6
  have sm := itoaS_size m (by omega) (by omega)
  have sn := mnS_size k
  have hm : -2147483648 ≤ m := by omega
  have hm' : m ≤ 2147483647 := by omega
  have hk64 : (k : Int) < 65 := by omega
  clear h7 h8 h9 h10 h11
  go_enter Tryz.func14, Tryz.ntmps14
  go_wp2_with (first
    | (go_at_call 28; refine (valid_any _ _ _ _ _ _ hm hm').mono ?_; rintro e w' ⟨rfl, hb1⟩; obtain ⟨c0, c1, c2, c3, c4⟩ := box_cells hb1; have cn := (hT.on (box_below hb1)).name k (by omega))
    | (go_at_call 26; refine (layout_any _ _).mono ?_; rintro e w' ⟨rfl, m2, rfl⟩))
  go_ret
  exact ⟨rfl, below_drewN (box_below hb1) m2⟩
theorem format_any (op a b c m : Int) (w : World) (hT : Tabs w) (hm : -2147483648 ≤ m) (hm' : m ≤ 2147483647) :
    Calls Tryz.prog 14 #[.agg #[.int .i64 op, .int .i64 a, .int .i64 b, .int .i64 c, .int .i32 m]] w fun e w' => e = .returned (.string (fmtS op a b c m)) ∧ Below w.heap.size w w' := by
  by_cases hk : Ok op a b c m
  · have hb := ok_bound hk
    obtain ⟨k, rfl⟩ : ∃ k : Nat, op = k := ⟨op.toNat, by omega⟩
    rcases kind_lay k with h | h | h | h | h | h
    · exact absurd h hk.1
    · exact format_1 k a b c m w hT hk h
    · exact format_2 k a b c m w hT hk h
    · exact format_3 k a b c m w hT hk h
    · exact format_4 k a b c m w hT hk h
    · exact format_5 k a b c m w hT hk h
  · have hd : decide (Ok op a b c m) = false := by simpa using hk
    have hf : fmtS op a b c m = { data := #[] } := by unfold fmtS; rw [if_pos hk]
    rw [hf]
    clear hf
    go_enter Tryz.func14, Tryz.ntmps14
    go_wp2_with (go_at_call 28; refine (valid_any _ _ _ _ _ _ hm hm').mono ?_; rintro e w' ⟨rfl, hb1⟩)
    go_ret
    exact ⟨rfl, box_below hb1⟩
end Go.Proofs.YtamjfbcjenocpaaGreatDoor
