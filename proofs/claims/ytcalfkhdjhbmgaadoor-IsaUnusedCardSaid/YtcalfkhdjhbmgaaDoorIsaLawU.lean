import Derived.Test.YtcalfkhdjhbmgaaDoorIsaLawE
namespace Go.Proofs.YtcalfkhdjhbmgaaDoor
set_option linter.unusedVariables false
set_option linter.unusedSimpArgs false
open Go.ChangeShapes Go.WideShapes Go.ChangeAt Go.RowKit Go.Proofs.YtcalfkhdjhbmgaaDoor.Num Go.Proofs.YtcalfkhdjhbmgaaDoor.Isa Go.Proofs.YtcalfkhdjhbmgaaDoor.Mem
theorem or_nat (a y : Int) (h0 : 0 ≤ a) (h1 : a ≤ 4294967295) (h2 : 0 ≤ y) (h3 : y ≤ 4294967295) :
    0 ≤ bits .or .u32 a y ∧ bits .or .u32 a y ≤ 4294967295 ∧ bits .or .u32 a y = ((a.toNat ||| y.toNat : Nat) : Int) := by
  obtain ⟨x, rfl⟩ : ∃ x : Nat, a = x := ⟨a.toNat, by omega⟩
  obtain ⟨z, rfl⟩ : ∃ z : Nat, y = z := ⟨y.toNat, by omega⟩
  rw [u32_or_nat _ _ (by omega) (by omega)]
  have hlt := Nat.or_lt_two_pow (x := x) (y := z) (n := 32) (by omega) (by omega)
  exact ⟨by omega, by omega, by simp⟩
theorem or_reg {o a b c m : Int} (hk : Ok o a b c m) (hl : lay o = 1) (y : Int) (hy : 16 ≤ y) (hy' : y ≤ 240) :
    ¬ dOk (bits .or .u32 (word o a b c m) y) ∧ 0 ≤ bits .or .u32 (word o a b c m) y ∧ bits .or .u32 (word o a b c m) y ≤ 4294967295 := by
  have hw := word_range hk
  obtain ⟨e1, _⟩ := dec_word hk
  obtain ⟨h1, h2, h3⟩ := or_nat (word o a b c m) y hw.1 hw.2 (by omega) (by omega)
  refine ⟨fun hd => ?_, h1, h2⟩
  generalize word o a b c m = W at *
  generalize bits .or .u32 W y = X at *
  have q1 : (W.toNat ||| y.toNat) / 2 ^ 24 = W.toNat / 2 ^ 24 := by
    rw [← Nat.shiftRight_eq_div_pow, Nat.shiftRight_or_distrib, Nat.shiftRight_eq_div_pow, Nat.shiftRight_eq_div_pow, show y.toNat / 2 ^ 24 = 0 by omega, Nat.or_zero]
  have q2 : (W.toNat ||| y.toNat) % 2 ^ 16 = W.toNat % 2 ^ 16 ||| y.toNat % 2 ^ 16 := Nat.or_mod_two_pow
  have q3 : y.toNat % 2 ^ 16 ≤ W.toNat % 2 ^ 16 ||| y.toNat % 2 ^ 16 := Nat.right_le_or
  have q4 : y.toNat % 2 ^ 16 = y.toNat := Nat.mod_eq_of_lt (by omega)
  have hop : dOp X = o := by rw [← e1]; unfold dOp; omega
  have hL : 16 ≤ dL X := by unfold dL; omega
  have hC : dC X = dL X := by unfold dC; rw [hop, if_pos hl]
  have := hd.2.2.2.2.2.2.1
  omega
theorem or_zero_field {o a b c m : Int} (hk : Ok o a b c m) (hl : lay o = 4 ∨ lay o = 5) (c' : Int) (hc : 1 ≤ c') (hc' : c' ≤ 15) :
    ¬ dOk (bits .or .u32 (word o a b c m) (c' * 65536)) ∧ 0 ≤ bits .or .u32 (word o a b c m) (c' * 65536) ∧ bits .or .u32 (word o a b c m) (c' * 65536) ≤ 4294967295 := by
  have hw := word_range hk
  obtain ⟨e1, _⟩ := dec_word hk
  obtain ⟨h1, h2, h3⟩ := or_nat (word o a b c m) (c' * 65536) hw.1 hw.2 (by omega) (by omega)
  refine ⟨fun hd => ?_, h1, h2⟩
  generalize word o a b c m = W at *
  generalize bits .or .u32 W (c' * 65536) = X at *
  obtain ⟨y, hy⟩ : ∃ y : Nat, (c' * 65536).toNat = y := ⟨_, rfl⟩
  rw [hy] at h3
  have q1 : (W.toNat ||| y) / 2 ^ 24 = W.toNat / 2 ^ 24 := by
    rw [← Nat.shiftRight_eq_div_pow, Nat.shiftRight_or_distrib, Nat.shiftRight_eq_div_pow, Nat.shiftRight_eq_div_pow, show y / 2 ^ 24 = 0 by omega, Nat.or_zero]
  have q2 : (W.toNat ||| y) / 2 ^ 16 = W.toNat / 2 ^ 16 ||| y / 2 ^ 16 := by
    rw [← Nat.shiftRight_eq_div_pow, Nat.shiftRight_or_distrib, Nat.shiftRight_eq_div_pow, Nat.shiftRight_eq_div_pow]
  have q3 : (W.toNat / 2 ^ 16 ||| y / 2 ^ 16) % 2 ^ 4 = W.toNat / 2 ^ 16 % 2 ^ 4 ||| y / 2 ^ 16 % 2 ^ 4 := Nat.or_mod_two_pow
  have q4 : y / 2 ^ 16 % 2 ^ 4 ≤ W.toNat / 2 ^ 16 % 2 ^ 4 ||| y / 2 ^ 16 % 2 ^ 4 := Nat.right_le_or
  have hop : dOp X = o := by rw [← e1]; unfold dOp; omega
  have hB : 1 ≤ dB X := by unfold dB; omega
  have := hd.2.2.2.2.2.2.2.2.2.2.2
  rw [hop] at this
  omega
theorem not_ok_imm {o a b c m y : Int} (hl : lay o = 1) (hy : 1 ≤ y) : ¬ Ok o a b c y := by
  intro h
  have := h.2.2.2.2.2.2.2.2.1
  rcases kind o with k | k | k | k | k | k | k | k | k | k | k <;> obtain ⟨k1, k2, k3, k4, k5⟩ := k <;> omega
theorem not_ok_c {o a b m y : Int} (hl : ¬ lay o = 1) (hy : 1 ≤ y) : ¬ Ok o a b y m := by
  intro h
  have := h.2.2.2.2.2.2.2.2.2.1
  omega
theorem lay_range (o : Int) : (lay o = 1 ↔ 1 ≤ o ∧ o ≤ 13) ∧ (lay o ≠ 0 → (o = 24 ∨ o = 48 ∨ 56 ≤ o) → lay o = 4 ∨ lay o = 5) := by
  rcases kind o with k | k | k | k | k | k | k | k | k | k | k <;> obtain ⟨k1, k2, k3, k4, k5⟩ := k <;> omega
theorem set1 {w w2 w' : World} {b k m3 : Nat} {v : Value} (h : Below w.heap.size w w2) (hwb : w.heap.size ≤ b) (hb : Below ((w2.drewN m3).setCell ⟨b, k, none⟩ v).heap.size ((w2.drewN m3).setCell ⟨b, k, none⟩ v) w') : Below w.heap.size w w' := by
  refine Below.trans ((below_drewN h m3).setCell hwb v) (hb.mono ?_)
  have hs : ((w2.drewN m3).setCell ⟨b, k, none⟩ v).heap.size = w2.heap.size := by simp
  rw [hs]; exact h.size
set_option maxHeartbeats 2000000 in
theorem unused_walk (n c : Int) (w0 : (Lit.int .i64 n).wf = true) (w1 : (Lit.int .i64 c).wf = true) (w : World) (hT : Tabs w) :
    Calls Tryd.prog 8 #[.int .i64 n, .int .i64 c] w fun e w' => e = .returned (.bool true) ∧ Below w.heap.size w w' := by
  have hn := wf_i64 w0
  have hc := wf_i64 w1
  obtain ⟨O, A, B, C, M, hk, _, hinst⟩ := inst_ex n hn.1 hn.2
  have hb := ok_bound hk
  have hM : -2147483648 ≤ M ∧ M ≤ 2147483647 := by omega
  obtain ⟨q1, q2, _⟩ := enc_back hk
  have hwr := word_range hk
  obtain ⟨r, hr⟩ : ∃ r : Nat, c % 15 = (r : Int) := ⟨(c % 15).toNat, by omega⟩
  have hr0 : (r : Int) < 15 := by omega
  obtain ⟨hl1, hl2⟩ := lay_range O
  by_cases hl : lay O = 1
  · obtain ⟨g1, g2⟩ := hl1.1 hl
    have hf := or_reg hk hl ((1 + (r : Int)) * 16) (by omega) (by omega)
    have hv : decide (Ok O A B C (1 + (r : Int))) = false := by rw [decide_eq_false_iff_not]; exact not_ok_imm (m := M) hl (by omega)
    have hf0 : decide (dOk (bits .or .u32 (word O A B C M) ((1 + (r : Int)) * 16))) = false := by rw [decide_eq_false_iff_not]; exact hf.1
    replace hf := hf.2
    clear hk hb hl1 hl2 hl
    go_enter Tryd.func8, Tryd.ntmps8
    go_wp2_with (first
      | (go_at_call 10; refine (hinst _).mono ?_; rintro e w1 ⟨rfl, hb1⟩; have b1 := hb1)
      | (go_at_call 11; refine (encode_any _ _ _ _ _ _ hM.1 hM.2).mono ?_; rintro e w2 ⟨rfl, hb2⟩; obtain ⟨c0, c1, c2, c3, c4⟩ := box_cells hb2; have z0 := box_frozen hb2 0; have z1 := box_frozen hb2 1; have z2 := box_frozen hb2 2; have z3 := box_frozen hb2 3; have z4 := box_frozen hb2 4; have b2 := below_step b1 (box_below hb2))
      | (go_at_call 24; refine (round_any _ _ _ (by decide) (by decide) hc.1 hc.2).mono ?_; rintro e w3 ⟨rfl, m3, rfl⟩; try simp only [hr])
      | (go_at_call 15; refine (decode_any _ _ hf.1 hf.2).mono ?_; rintro e w4 ⟨rfl, hb4⟩; have b4 := set1 b2 hb1.size hb4; have d0 := still (p := ⟨w1.heap.size, 0, none⟩) (v := .int .i64 O) (by simp [go_sem, c0]) hb4; have d1 := still (p := ⟨w1.heap.size, 1, none⟩) (v := .int .i64 A) (by simp [go_sem, c1]) hb4; have d2 := still (p := ⟨w1.heap.size, 2, none⟩) (v := .int .i64 B) (by simp [go_sem, c2]) hb4; have d3 := still (p := ⟨w1.heap.size, 3, none⟩) (v := .int .i64 C) (by simp [go_sem, c3]) hb4; have d4 := still (p := ⟨w1.heap.size, 4, none⟩) (v := .int .i32 (1 + (r : Int))) (by simp [go_sem, c4]) hb4; have hlt : w1.heap.size < w4.heap.size := block_lt_of_cell d0)
      | (go_at_call 13; refine (valid_any _ _ _ _ _ _ (by omega) (by omega)).mono ?_; rintro e w5 ⟨rfl, hb5⟩; have b5 := below_step (b4.alloc b4.size _) hb5)
      | (go_at_call 14; refine (awake_any _ (hT.on b5)).mono ?_; rintro e w6 ⟨rfl, hb6⟩))
    all_goals first | (exfalso; omega) | skip
    all_goals go_ret
    all_goals exact ⟨rfl, below_step b5 hb6⟩
  · have hv : decide (Ok O A B (1 + (r : Int)) M) = false := by rw [decide_eq_false_iff_not]; exact not_ok_c hl (by omega)
    have hno : ¬ (1 ≤ O ∧ O ≤ 13) := fun h => hl (hl1.2 h)
    have hf : (O = 24 ∨ O = 48 ∨ 56 ≤ O) → decide (dOk (bits .or .u32 (word O A B C M) ((1 + (r : Int)) * 65536))) = false ∧ 0 ≤ bits .or .u32 (word O A B C M) ((1 + (r : Int)) * 65536) ∧ bits .or .u32 (word O A B C M) ((1 + (r : Int)) * 65536) ≤ 4294967295 := fun h => by
      have := or_zero_field hk (hl2 hk.1 h) (1 + (r : Int)) (by omega) (by omega)
      exact ⟨by rw [decide_eq_false_iff_not]; exact this.1, this.2⟩
    clear hk hl1 hl2 hl
    by_cases h3 : O = 24 ∨ O = 48 ∨ 56 ≤ O
    · obtain ⟨hf0, hf1, hf2⟩ := hf h3
      clear hf
      have hcs : O = 24 ∨ O = 48 ∨ ((O == 24) = false ∧ (O == 48) = false ∧ 56 ≤ O) := by
        rw [beq_eq_false_iff_ne, beq_eq_false_iff_ne]; omega
      clear h3 hno
      rcases hcs with h3 | h3 | ⟨u1, u2, h3⟩
      · subst h3
        go_enter Tryd.func8, Tryd.ntmps8
        go_wp2_with (first
          | (go_at_call 10; refine (hinst _).mono ?_; rintro e w1 ⟨rfl, hb1⟩; have b1 := hb1)
          | (go_at_call 11; refine (encode_any _ _ _ _ _ _ hM.1 hM.2).mono ?_; rintro e w2 ⟨rfl, hb2⟩; obtain ⟨c0, c1, c2, c3, c4⟩ := box_cells hb2; have z0 := box_frozen hb2 0; have z1 := box_frozen hb2 1; have z2 := box_frozen hb2 2; have z3 := box_frozen hb2 3; have z4 := box_frozen hb2 4; have b2 := below_step b1 (box_below hb2))
          | (go_at_call 24; refine (round_any _ _ _ (by decide) (by decide) hc.1 hc.2).mono ?_; rintro e w3 ⟨rfl, m3, rfl⟩; try simp only [hr])
          | (go_at_call 13; refine (valid_any _ _ _ _ _ _ (by omega) (by omega)).mono ?_; rintro e w4 ⟨rfl, hb4⟩; have b4 := set1 b2 hb1.size hb4; have d0 := still (p := ⟨w1.heap.size, 0, none⟩) (v := .int .i64 24) (by simp [go_sem, c0]) hb4; have d1 := still (p := ⟨w1.heap.size, 1, none⟩) (v := .int .i64 A) (by simp [go_sem, c1]) hb4; have d2 := still (p := ⟨w1.heap.size, 2, none⟩) (v := .int .i64 B) (by simp [go_sem, c2]) hb4; have d3 := still (p := ⟨w1.heap.size, 3, none⟩) (v := .int .i64 (1 + (r : Int))) (by simp [go_sem, c3]) hb4; have d4 := still (p := ⟨w1.heap.size, 4, none⟩) (v := .int .i32 M) (by simp [go_sem, c4]) hb4; have hlt : w1.heap.size < w4.heap.size := block_lt_of_cell d0)
          | (go_at_call 15; refine (decode_any _ _ hf1 hf2).mono ?_; rintro e w5 ⟨rfl, hb5⟩; have b5 := below_step b4 hb5)
          | (go_at_call 14; refine (awake_any _ (by first | exact hT.on (b5.alloc b5.size _) | exact hT.on b4)).mono ?_; rintro e w6 ⟨rfl, hb6⟩))
        all_goals first | (exfalso; omega) | skip
        all_goals go_ret
        all_goals exact ⟨rfl, by first | exact below_step (b5.alloc b5.size _) hb6 | exact below_step b4 hb6⟩
      · subst h3
        go_enter Tryd.func8, Tryd.ntmps8
        go_wp2_with (first
          | (go_at_call 10; refine (hinst _).mono ?_; rintro e w1 ⟨rfl, hb1⟩; have b1 := hb1)
          | (go_at_call 11; refine (encode_any _ _ _ _ _ _ hM.1 hM.2).mono ?_; rintro e w2 ⟨rfl, hb2⟩; obtain ⟨c0, c1, c2, c3, c4⟩ := box_cells hb2; have z0 := box_frozen hb2 0; have z1 := box_frozen hb2 1; have z2 := box_frozen hb2 2; have z3 := box_frozen hb2 3; have z4 := box_frozen hb2 4; have b2 := below_step b1 (box_below hb2))
          | (go_at_call 24; refine (round_any _ _ _ (by decide) (by decide) hc.1 hc.2).mono ?_; rintro e w3 ⟨rfl, m3, rfl⟩; try simp only [hr])
          | (go_at_call 13; refine (valid_any _ _ _ _ _ _ (by omega) (by omega)).mono ?_; rintro e w4 ⟨rfl, hb4⟩; have b4 := set1 b2 hb1.size hb4; have d0 := still (p := ⟨w1.heap.size, 0, none⟩) (v := .int .i64 48) (by simp [go_sem, c0]) hb4; have d1 := still (p := ⟨w1.heap.size, 1, none⟩) (v := .int .i64 A) (by simp [go_sem, c1]) hb4; have d2 := still (p := ⟨w1.heap.size, 2, none⟩) (v := .int .i64 B) (by simp [go_sem, c2]) hb4; have d3 := still (p := ⟨w1.heap.size, 3, none⟩) (v := .int .i64 (1 + (r : Int))) (by simp [go_sem, c3]) hb4; have d4 := still (p := ⟨w1.heap.size, 4, none⟩) (v := .int .i32 M) (by simp [go_sem, c4]) hb4; have hlt : w1.heap.size < w4.heap.size := block_lt_of_cell d0)
          | (go_at_call 15; refine (decode_any _ _ hf1 hf2).mono ?_; rintro e w5 ⟨rfl, hb5⟩; have b5 := below_step b4 hb5)
          | (go_at_call 14; refine (awake_any _ (by first | exact hT.on (b5.alloc b5.size _) | exact hT.on b4)).mono ?_; rintro e w6 ⟨rfl, hb6⟩))
        all_goals first | (exfalso; omega) | skip
        all_goals go_ret
        all_goals exact ⟨rfl, by first | exact below_step (b5.alloc b5.size _) hb6 | exact below_step b4 hb6⟩
      · have hno : 13 < O := by omega
        go_enter Tryd.func8, Tryd.ntmps8
        go_wp2_with (first
          | (go_at_call 10; refine (hinst _).mono ?_; rintro e w1 ⟨rfl, hb1⟩; have b1 := hb1)
          | (go_at_call 11; refine (encode_any _ _ _ _ _ _ hM.1 hM.2).mono ?_; rintro e w2 ⟨rfl, hb2⟩; obtain ⟨c0, c1, c2, c3, c4⟩ := box_cells hb2; have z0 := box_frozen hb2 0; have z1 := box_frozen hb2 1; have z2 := box_frozen hb2 2; have z3 := box_frozen hb2 3; have z4 := box_frozen hb2 4; have b2 := below_step b1 (box_below hb2))
          | (go_at_call 24; refine (round_any _ _ _ (by decide) (by decide) hc.1 hc.2).mono ?_; rintro e w3 ⟨rfl, m3, rfl⟩; try simp only [hr])
          | (go_at_call 13; refine (valid_any _ _ _ _ _ _ (by omega) (by omega)).mono ?_; rintro e w4 ⟨rfl, hb4⟩; have b4 := set1 b2 hb1.size hb4; have d0 := still (p := ⟨w1.heap.size, 0, none⟩) (v := .int .i64 O) (by simp [go_sem, c0]) hb4; have d1 := still (p := ⟨w1.heap.size, 1, none⟩) (v := .int .i64 A) (by simp [go_sem, c1]) hb4; have d2 := still (p := ⟨w1.heap.size, 2, none⟩) (v := .int .i64 B) (by simp [go_sem, c2]) hb4; have d3 := still (p := ⟨w1.heap.size, 3, none⟩) (v := .int .i64 (1 + (r : Int))) (by simp [go_sem, c3]) hb4; have d4 := still (p := ⟨w1.heap.size, 4, none⟩) (v := .int .i32 M) (by simp [go_sem, c4]) hb4; have hlt : w1.heap.size < w4.heap.size := block_lt_of_cell d0)
          | (go_at_call 15; refine (decode_any _ _ hf1 hf2).mono ?_; rintro e w5 ⟨rfl, hb5⟩; have b5 := below_step b4 hb5)
          | (go_at_call 14; refine (awake_any _ (by first | exact hT.on (b5.alloc b5.size _) | exact hT.on b4)).mono ?_; rintro e w6 ⟨rfl, hb6⟩))
        all_goals first | (exfalso; omega) | skip
        all_goals go_ret
        all_goals exact ⟨rfl, by first | exact below_step (b5.alloc b5.size _) hb6 | exact below_step b4 hb6⟩
    · clear hf
      have u1 : (O == 24) = false := by rw [beq_eq_false_iff_ne]; omega
      have u2 : (O == 48) = false := by rw [beq_eq_false_iff_ne]; omega
      have u3 : O < 56 := by omega
      go_enter Tryd.func8, Tryd.ntmps8
      go_wp2_with (first
        | (go_at_call 10; refine (hinst _).mono ?_; rintro e w1 ⟨rfl, hb1⟩; have b1 := hb1)
        | (go_at_call 11; refine (encode_any _ _ _ _ _ _ hM.1 hM.2).mono ?_; rintro e w2 ⟨rfl, hb2⟩; obtain ⟨c0, c1, c2, c3, c4⟩ := box_cells hb2; have z0 := box_frozen hb2 0; have z1 := box_frozen hb2 1; have z2 := box_frozen hb2 2; have z3 := box_frozen hb2 3; have z4 := box_frozen hb2 4; have b2 := below_step b1 (box_below hb2))
        | (go_at_call 24; refine (round_any _ _ _ (by decide) (by decide) hc.1 hc.2).mono ?_; rintro e w3 ⟨rfl, m3, rfl⟩; try simp only [hr])
        | (go_at_call 13; refine (valid_any _ _ _ _ _ _ (by omega) (by omega)).mono ?_; rintro e w4 ⟨rfl, hb4⟩; have b4 := set1 b2 hb1.size hb4; have d0 := still (p := ⟨w1.heap.size, 0, none⟩) (v := .int .i64 O) (by simp [go_sem, c0]) hb4; have d1 := still (p := ⟨w1.heap.size, 1, none⟩) (v := .int .i64 A) (by simp [go_sem, c1]) hb4; have d2 := still (p := ⟨w1.heap.size, 2, none⟩) (v := .int .i64 B) (by simp [go_sem, c2]) hb4; have d3 := still (p := ⟨w1.heap.size, 3, none⟩) (v := .int .i64 (1 + (r : Int))) (by simp [go_sem, c3]) hb4; have d4 := still (p := ⟨w1.heap.size, 4, none⟩) (v := .int .i32 M) (by simp [go_sem, c4]) hb4; have hlt : w1.heap.size < w4.heap.size := block_lt_of_cell d0)
        | (go_at_call 15; exfalso; omega)
        | (go_at_call 14; refine (awake_any _ (hT.on b4)).mono ?_; rintro e w6 ⟨rfl, hb6⟩))
      all_goals first | (exfalso; omega) | skip
      all_goals go_ret
      all_goals exact ⟨rfl, below_step b4 hb6⟩
end Go.Proofs.YtcalfkhdjhbmgaaDoor
