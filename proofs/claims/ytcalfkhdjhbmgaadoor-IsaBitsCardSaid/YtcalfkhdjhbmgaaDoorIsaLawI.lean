import Derived.Test.YtcalfkhdjhbmgaaDoorIsaLawE
namespace Go.Proofs.YtcalfkhdjhbmgaaDoor
set_option linter.unusedVariables false
set_option linter.unusedSimpArgs false
open Go.ChangeShapes Go.WideShapes Go.ChangeAt Go.RowKit Go.Proofs.YtcalfkhdjhbmgaaDoor.Num Go.Proofs.YtcalfkhdjhbmgaaDoor.Isa Go.Proofs.YtcalfkhdjhbmgaaDoor.Mem
theorem xor_ne (a b : Int) (h0 : 0 ≤ a) (h1 : a ≤ 4294967295) (h2 : 1 ≤ b) (h3 : b ≤ 4294967295) : bits .xor .u32 a b ≠ a ∧ 0 ≤ bits .xor .u32 a b ∧ bits .xor .u32 a b ≤ 4294967295 := by
  obtain ⟨x, rfl⟩ : ∃ x : Nat, a = x := ⟨a.toNat, by omega⟩
  obtain ⟨y, rfl⟩ : ∃ y : Nat, b = y := ⟨b.toNat, by omega⟩
  rw [u32_xor_nat _ _ (by omega) (by omega)]
  have hlt := Nat.xor_lt_two_pow (x := x) (y := y) (n := 32) (by omega) (by omega)
  refine ⟨fun h => ?_, by omega, by omega⟩
  have h' : x ^^^ y = x := by exact_mod_cast h
  have : y = 0 := by
    have e : x ^^^ (x ^^^ y) = x ^^^ x := by rw [h']
    rw [← Nat.xor_assoc, Nat.xor_self, Nat.zero_xor] at e
    exact e
  omega
/-- Another word is no encoding of the instruction. -/
theorem other_word {o a b c m X : Int} (hk : Ok o a b c m) (hd : dOk X) (h0 : 0 ≤ X) (h1 : X ≤ 4294967295) (hne : X ≠ word o a b c m) : ¬ (zOp X = o ∧ zA X = a ∧ zB X = b ∧ zC X = c ∧ zM X = m) := by
  rintro ⟨e1, e2, e3, e4, e5⟩
  obtain ⟨f1, f2, f3, f4, f5⟩ : zOp X = dOp X ∧ zA X = dA X ∧ zB X = dB X ∧ zC X = dC X ∧ zM X = dM X := by simp [zOp, zA, zB, zC, zM, hd]
  apply hne
  rw [← word_dec hd h0 h1, ← f1, ← f2, ← f3, ← f4, ← f5, e1, e2, e3, e4, e5]
set_option maxHeartbeats 2000000 in
theorem bits_walk (n bit : Int) (w0 : (Lit.int .i64 n).wf = true) (w1 : (Lit.int .i64 bit).wf = true) (w : World) (hT : Tabs w) :
    Calls Tryd.prog 7 #[.int .i64 n, .int .i64 bit] w fun e w' => e = .returned (.bool true) ∧ Below w.heap.size w w' := by
  have hn := wf_i64 w0
  have hbt := wf_i64 w1
  obtain ⟨O, A, B, C, M, hk, _, hinst⟩ := inst_ex n hn.1 hn.2
  have hb := ok_bound hk
  have hM : -2147483648 ≤ M ∧ M ≤ 2147483647 := by omega
  obtain ⟨q1, q2, _⟩ := enc_back hk
  have hwr := word_range hk
  obtain ⟨r, hr⟩ : ∃ r : Nat, bit % 32 = (r : Int) := ⟨(bit % 32).toNat, by omega⟩
  have hr0 : (r : Int) < 32 := by omega
  have hp := pow_bd r (by omega)
  have hx := xor_ne (word O A B C M) (2 ^ r % 4294967296) hwr.1 hwr.2 (by omega) (by omega)
  obtain ⟨X, hX⟩ : ∃ X, Hid (bits .xor .u32 (word O A B C M) (2 ^ r % 4294967296) = X) := ⟨_, rfl⟩
  rw [hX.out] at hx
  have hXb := hx.2
  by_cases hd : dOk X
  · have hd1 : decide (dOk X) = true := by simpa using hd
    have hne := other_word hk hd hXb.1 hXb.2 hx.1
    clear hk hx hp hd
    go_enter Tryd.func7, Tryd.ntmps7
    go_wp2_with (first
      | (go_at_call 10; refine (hinst _).mono ?_; rintro e w1 ⟨rfl, hb1⟩; have b1 := hb1)
      | (go_at_call 11; refine (encode_any _ _ _ _ _ _ hM.1 hM.2).mono ?_; rintro e w2 ⟨rfl, hb2⟩; obtain ⟨c0, c1, c2, c3, c4⟩ := box_cells hb2; have b2 := below_step b1 (box_below hb2))
      | (go_at_call 24; refine (round_any _ _ _ (by decide) (by decide) hbt.1 hbt.2).mono ?_; rintro e w3 ⟨rfl, m3, rfl⟩; try simp only [hr])
      | (go_at_call 15; rw [hX.out]; refine (decode_any _ _ hXb.1 hXb.2).mono ?_; rintro e w4 ⟨rfl, hb4⟩; have b4 := below_step (below_drewN b2 m3) hb4; have d0 := still (w := w2.drewN m3) (by simpa using c0) hb4; have d1 := still (w := w2.drewN m3) (by simpa using c1) hb4; have d2 := still (w := w2.drewN m3) (by simpa using c2) hb4; have d3 := still (w := w2.drewN m3) (by simpa using c3) hb4; have d4 := still (w := w2.drewN m3) (by simpa using c4) hb4; have hlt := block_lt_of_cell d0)
      | (go_at_call 14; refine (awake_any _ (hT.on (b4.alloc b4.size _))).mono ?_; rintro e w6 ⟨rfl, hb6⟩))
    all_goals first | (exfalso; exact hne ⟨by assumption, by assumption, by assumption, by assumption, by assumption⟩) | (go_ret; exact ⟨rfl, below_step (b4.alloc b4.size _) hb6⟩)
  · have hd1 : decide (dOk X) = false := by simpa using hd
    clear hk hx hp hd
    go_enter Tryd.func7, Tryd.ntmps7
    go_wp2_with (first
      | (go_at_call 10; refine (hinst _).mono ?_; rintro e w1 ⟨rfl, hb1⟩; have b1 := hb1)
      | (go_at_call 11; refine (encode_any _ _ _ _ _ _ hM.1 hM.2).mono ?_; rintro e w2 ⟨rfl, hb2⟩; obtain ⟨c0, c1, c2, c3, c4⟩ := box_cells hb2; have b2 := below_step b1 (box_below hb2))
      | (go_at_call 24; refine (round_any _ _ _ (by decide) (by decide) hbt.1 hbt.2).mono ?_; rintro e w3 ⟨rfl, m3, rfl⟩; try simp only [hr])
      | (go_at_call 15; rw [hX.out]; refine (decode_any _ _ hXb.1 hXb.2).mono ?_; rintro e w4 ⟨rfl, hb4⟩; have b4 := below_step (below_drewN b2 m3) hb4; have d0 := still (w := w2.drewN m3) (by simpa using c0) hb4; have d1 := still (w := w2.drewN m3) (by simpa using c1) hb4; have d2 := still (w := w2.drewN m3) (by simpa using c2) hb4; have d3 := still (w := w2.drewN m3) (by simpa using c3) hb4; have d4 := still (w := w2.drewN m3) (by simpa using c4) hb4; have hlt := block_lt_of_cell d0)
      | (go_at_call 14; refine (awake_any _ (hT.on (b4.alloc b4.size _))).mono ?_; rintro e w6 ⟨rfl, hb6⟩))
    go_ret
    exact ⟨rfl, below_step (b4.alloc b4.size _) hb6⟩
end Go.Proofs.YtcalfkhdjhbmgaaDoor
