import Derived.Test.YtcalfkhdjhbmgaaDoorIsaFn8
import Derived.Test.YtcalfkhdjhbmgaaDoorIsaFn10
namespace Go.Proofs.YtcalfkhdjhbmgaaDoor
set_option linter.unusedVariables false
set_option linter.unusedSimpArgs false
open Go.ChangeShapes Go.WideShapes Go.ChangeAt Go.RowKit Go.Proofs.YtcalfkhdjhbmgaaDoor.Num Go.Proofs.YtcalfkhdjhbmgaaDoor.Isa Go.Proofs.YtcalfkhdjhbmgaaDoor.Mem
theorem z_some {x : Int} (h : dOk x) : zOp x = dOp x ∧ zA x = dA x ∧ zB x = dB x ∧ zC x = dC x ∧ zM x = dM x := by simp [zOp, zA, zB, zC, zM, h]
theorem zM_bd (x : Int) : -2147483648 ≤ zM x ∧ zM x ≤ 2147483647 := by
  by_cases h : dOk x
  · rw [(z_some h).2.2.2.2]
    have := ok_bound h
    omega
  · simp [zM, h]
theorem back_enc {x : Int} (h : dOk x) (h0 : 0 ≤ x) (h1 : x ≤ 4294967295) : eW (zOp x) (zA x) (zB x) (zC x) (zM x) = x ∧ eE (zOp x) (zA x) (zB x) (zC x) (zM x) = 0 := by
  obtain ⟨e1, e2, e3, e4, e5⟩ := z_some h
  rw [e1, e2, e3, e4, e5]
  unfold eW eE
  have h' : Ok (dOp x) (dA x) (dB x) (dC x) (dM x) := h
  rw [if_pos h', if_pos h']
  exact ⟨word_dec h h0 h1, rfl⟩
theorem eW_bd (op a b c m : Int) : 0 ≤ eW op a b c m ∧ eW op a b c m ≤ 4294967295 := by
  unfold eW; split
  · exact word_range ‹_›
  · decide
theorem alloc_lt {w w' : World} {o : Obj} (hb : Below (w.alloc o).heap.size (w.alloc o) w') : w.heap.size < w'.heap.size := by
  have := hb.size
  simp at this
  omega
set_option maxHeartbeats 2000000 in
theorem decodes_walk (x n : Int) (made : Bool) (w0 : (Lit.int .u32 x).wf = true) (w1 : (Lit.int .i64 n).wf = true) (w : World) (hT : Tabs w) :
    Calls Tryd.prog 4 #[.int .u32 x, .int .i64 n, .bool made] w fun e w' => e = .returned (.bool true) ∧ Below w.heap.size w w' := by
  have hn := wf_i64 w1
  have hx := wf_u32 w0
  have hmade := ok_bound (made_ok n)
  cases made
  · by_cases hd : dOk x
    · have hd1 : decide (dOk x) = true := by simpa using hd
      obtain ⟨q1, q2⟩ := back_enc hd hx.1 hx.2
      have hz := zM_bd x
      clear hd
      go_enter Tryd.func4, Tryd.ntmps4
      go_wp2_with (first
        | (go_at_call 15; refine (decode_any _ _ hx.1 hx.2).mono ?_; rintro e w3 ⟨rfl, hb3⟩; have b3 := hb3)
        | (go_at_call 16; refine (decode_ref _ _ hx.1 hx.2).mono ?_; rintro e w4 ⟨rfl, hb4⟩; have b4 := below_step b3 (box_below hb4); obtain ⟨c0, c1, c2, c3, c4⟩ := box_cells hb4; have hlt := alloc_lt hb4)
        | (go_at_call 11; refine (encode_any _ _ _ _ _ _ hz.1 hz.2).mono ?_; rintro e w5 ⟨rfl, hb5⟩; have b5 := below_step b4 (box_below hb5))
        | (go_at_call 14; refine (awake_any _ (hT.on b5)).mono ?_; rintro e w6 ⟨rfl, hb6⟩))
      go_ret
      exact ⟨rfl, below_step b5 hb6⟩
    · have hd1 : decide (dOk x) = false := by simpa using hd
      clear hd
      go_enter Tryd.func4, Tryd.ntmps4
      go_wp2_with (first
        | (go_at_call 15; refine (decode_any _ _ hx.1 hx.2).mono ?_; rintro e w3 ⟨rfl, hb3⟩; have b3 := hb3)
        | (go_at_call 16; refine (decode_ref _ _ hx.1 hx.2).mono ?_; rintro e w4 ⟨rfl, hb4⟩; have b4 := below_step b3 (box_below hb4); obtain ⟨c0, c1, c2, c3, c4⟩ := box_cells hb4; have hlt := alloc_lt hb4)
        | (go_at_call 14; refine (awake_any _ (hT.on (b4.alloc b4.size _))).mono ?_; rintro e w6 ⟨rfl, hb6⟩))
      go_ret
      exact ⟨rfl, below_step (b4.alloc b4.size _) hb6⟩
  · clear hx
    obtain ⟨X, hX⟩ : ∃ X, Hid (eW (mO n) (mA n) (mB n) (mC n) (mM n) = X) := ⟨_, rfl⟩
    have hx : 0 ≤ X ∧ X ≤ 4294967295 := by rw [← hX.out]; exact eW_bd _ _ _ _ _
    by_cases hd : dOk X
    · have hd1 : decide (dOk X) = true := by simpa using hd
      obtain ⟨q1, q2⟩ := back_enc hd hx.1 hx.2
      have hz := zM_bd X
      clear hd
      go_enter Tryd.func4, Tryd.ntmps4
      go_wp2_with (first
        | (go_at_call 10; refine (inst_any n _ hn.1 hn.2).mono ?_; rintro e w1 ⟨rfl, hb1⟩)
        | (go_at_call 12; refine (encode_ref _ _ _ _ _ _ (by omega) (by omega)).mono ?_; rintro e w2 ⟨rfl, hb2⟩; rw [hX.out]; have b2 := below_step hb1 hb2)
        | (go_at_call 15; refine (decode_any _ _ hx.1 hx.2).mono ?_; rintro e w3 ⟨rfl, hb3⟩; have b3 := below_step b2 hb3)
        | (go_at_call 16; refine (decode_ref _ _ hx.1 hx.2).mono ?_; rintro e w4 ⟨rfl, hb4⟩; have b4 := below_step b3 (box_below hb4); obtain ⟨c0, c1, c2, c3, c4⟩ := box_cells hb4; have hlt := alloc_lt hb4)
        | (go_at_call 11; refine (encode_any _ _ _ _ _ _ hz.1 hz.2).mono ?_; rintro e w5 ⟨rfl, hb5⟩; have b5 := below_step b4 (box_below hb5))
        | (go_at_call 14; refine (awake_any _ (hT.on b5)).mono ?_; rintro e w6 ⟨rfl, hb6⟩))
      go_ret
      exact ⟨rfl, below_step b5 hb6⟩
    · have hd1 : decide (dOk X) = false := by simpa using hd
      clear hd
      go_enter Tryd.func4, Tryd.ntmps4
      go_wp2_with (first
        | (go_at_call 10; refine (inst_any n _ hn.1 hn.2).mono ?_; rintro e w1 ⟨rfl, hb1⟩)
        | (go_at_call 12; refine (encode_ref _ _ _ _ _ _ (by omega) (by omega)).mono ?_; rintro e w2 ⟨rfl, hb2⟩; rw [hX.out]; have b2 := below_step hb1 hb2)
        | (go_at_call 15; refine (decode_any _ _ hx.1 hx.2).mono ?_; rintro e w3 ⟨rfl, hb3⟩; have b3 := below_step b2 hb3)
        | (go_at_call 16; refine (decode_ref _ _ hx.1 hx.2).mono ?_; rintro e w4 ⟨rfl, hb4⟩; have b4 := below_step b3 (box_below hb4); obtain ⟨c0, c1, c2, c3, c4⟩ := box_cells hb4; have hlt := alloc_lt hb4)
        | (go_at_call 14; refine (awake_any _ (hT.on (b4.alloc b4.size _))).mono ?_; rintro e w6 ⟨rfl, hb6⟩))
      go_ret
      exact ⟨rfl, below_step (b4.alloc b4.size _) hb6⟩
end Go.Proofs.YtcalfkhdjhbmgaaDoor
