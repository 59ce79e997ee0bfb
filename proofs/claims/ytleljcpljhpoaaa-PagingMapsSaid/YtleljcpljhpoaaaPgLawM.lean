import Derived.Test.YtleljcpljhpoaaaPgLs2
namespace Go.Proofs.Ytleljcpljhpoaaa
set_option linter.unusedVariables false
set_option linter.unusedSimpArgs false
open Go.ChangeShapes Go.WideShapes Go.ChangeAt Go.RowKit Go.Proofs.Ytleljcpljhpoaaa.Num Go.Proofs.Ytleljcpljhpoaaa.Mem
theorem lsL_len (n : Nat) (l : List Int) (root : Int) : (lsL n l root).length ≤ 32 := by
  unfold lsL
  split
  · exact lsK_len _ _ _
  · simp
set_option maxRecDepth 100000 in
set_option maxHeartbeats 4000000 in
theorem maps_walk (A B : Option Addr) (n c k d : Nat) (raw small : Bool) (z : Nat → Int) (p root page frame flags : Int) (w : World) (hm : n ≤ 200 → ∃ l, Mem w A n c l) (hz : Ints w B k z) (p0 : -9223372036854775808 ≤ p) (p1 : p ≤ 9223372036854775807)
    (r0 : 0 ≤ root) (r1 : root ≤ 4294967295) (g0 : 0 ≤ page) (g1 : page ≤ 4294967295) (f0 : 0 ≤ frame) (f1 : frame ≤ 4294967295) (x0 : 0 ≤ flags) (x1 : flags ≤ 4294967295) :
    Calls Try.prog 4 #[.slice A n c, .bool raw, .slice B k d, .int .i64 p, .int .u32 root, .int .u32 page, .int .u32 frame, .int .u32 flags, .bool small] w fun e w' => e = .returned (.bool true) ∧ Below w.heap.size w w' := by
  have HS := Lib.hid (shaped5_any A B n c k d raw z p w hm hz p0 p1)
  have HA := Lib.hid awake_any
  clear hm hz
  obtain ⟨R, G, F, X, hR, hG, hF, hX, R0, R1, G0, G1, F0, F1, X0, X1⟩ : ∃ R G F X : Int, (if small = true then root % 9 else root) = R ∧ (if small = true then page % 34 else page) = G ∧ (if small = true then frame % 9 else frame) = F ∧ (if small = true then flags % 34 else flags) = X ∧ 0 ≤ R ∧ R ≤ 4294967295 ∧ 0 ≤ G ∧ G ≤ 4294967295 ∧ 0 ≤ F ∧ F ≤ 4294967295 ∧ 0 ≤ X ∧ X ≤ 4294967295 := ⟨_, _, _, _, rfl, rfl, rfl, rfl, by split <;> omega, by split <;> omega, by split <;> omega, by split <;> omega, by split <;> omega, by split <;> omega, by split <;> omega, by split <;> omega⟩
  cases small
  all_goals
    simp only [Bool.false_eq_true, if_false, if_true] at hR hG hF hX
    go_enter Try.func4, Try.ntmps4
    go_wp2_with (go_at_call 10; refine (HS.out).mono ?_; rintro e w1 ⟨⟨A1, n1, c1, l1, rfl, hn1, hm1⟩, hb1⟩)
    (try rw [hR]); (try rw [hG]); (try rw [hF]); (try rw [hX])
    clear hR hG hF hX
    have HM1 := Lib.hid (map_any A1 n1 c1 l1 R G F X w1 hm1 R0 R1 G0 G1 F0 F1 X0 X1)
    have HM2 := Lib.hid (fun W (hM : Mem W A1 n1 c1 l1) => map_ref A1 n1 c1 l1 R G F X W hM R0 G0 F0 X0)
    have HL1 := Lib.hid (fun W (hM : Mem W A1 n1 c1 l1) => list_any A1 n1 c1 l1 R W hM R0 R1)
    have HL2 := Lib.hid (fun W (hM : Mem W A1 n1 c1 l1) => list_ref A1 n1 c1 l1 R W hM R0)
    have HL3 := Lib.hid (fun A c W (hM : Mem W A n1 c (mpL n1 l1 R G F X)) => list_any A n1 c (mpL n1 l1 R G F X) R W hM R0 R1)
    have HL4 := Lib.hid (fun A c W (hM : Mem W A n1 c (mpL n1 l1 R G F X)) => list_ref A n1 c (mpL n1 l1 R G F X) R W hM R0)
    have hl1 := lsL_len n1 l1 R
    have hl2 := lsL_len n1 (mpL n1 l1 R G F X) R
    generalize lsL n1 l1 R = s1 at *
    generalize lsL n1 (mpL n1 l1 R G F X) R = s2 at *
    generalize mpL n1 l1 R G F X = l2 at *
    generalize mpB n1 R G F X = bv at *
    have HM := Lib.hid hm1
    clear hm1
    go_wp2_with (first
      | (go_at_call 18; refine (HM1.out).mono ?_; rintro e w3 ⟨⟨A3, c3, rfl, hm3⟩, hb3⟩; have bb := hb3)
      | (go_at_call 19; refine (HM2.out _ (HM.out.on bb)).mono ?_; rintro e w4 ⟨⟨A4, c4, rfl, hm4⟩, hb4⟩; replace bb := below_step bb hb4; replace hm3 := hm3.on hb4)
      | (go_at_call 14; refine (same_refl _ _ _ _ _ _ _ hm3 hm4).mono ?_; rintro e w5 ⟨rfl, m5, rfl⟩; replace bb := below_drewN bb m5; replace hm3 := hm3.drewN m5; replace hm4 := hm4.drewN m5)
      | (go_at_call 21; first
        | ((with_reducible refine (HL1.out _ (HM.out.on bb)).mono ?_); rintro e w6 ⟨⟨v6, rfl, ho6⟩, hb6⟩; replace bb := below_step bb hb6; replace hm3 := hm3.on hb6; replace hm4 := hm4.on hb6)
        | ((with_reducible refine (HL3.out _ _ _ hm3).mono ?_); rintro e w7 ⟨⟨v7, rfl, ho7⟩, hb7⟩; replace bb := below_step bb hb7; replace hm4 := hm4.on hb7))
      | (go_at_call 22; first
        | ((with_reducible refine (HL2.out _ (HM.out.on bb)).mono ?_); rintro e w8 ⟨⟨v8, rfl, ho8⟩, hb8⟩; replace bb := below_step bb hb8; replace hm3 := hm3.on hb8; replace hm4 := hm4.on hb8; replace ho6 := own_below ho6 hb8)
        | ((with_reducible refine (HL4.out _ _ _ hm4).mono ?_); rintro e w9 ⟨⟨v9, rfl, ho9⟩, hb9⟩; replace bb := below_step bb hb9; replace ho7 := own_below ho7 hb9))
      | (go_at_call 20; first
        | ((with_reducible refine (samem_refl _ _ _ _ _ _ ho6 ho8 hl1).mono ?_); rintro e wa ⟨rfl, ma, rfl⟩; replace bb := below_drewN bb ma; replace hm3 := hm3.drewN ma; replace hm4 := hm4.drewN ma)
        | ((with_reducible refine (samem_refl _ _ _ _ _ _ ho7 ho9 hl2).mono ?_); rintro e wb ⟨rfl, mb, rfl⟩; replace bb := below_drewN bb mb))
      | (go_at_call 17; refine (HA.out _).mono ?_; rintro e w11 ⟨rfl, hb11⟩; replace bb := below_step bb hb11))
    go_ret
    exact ⟨rfl, below_step hb1 bb⟩
theorem maps_row (a0 : Option Addr) (len0 cap0 : Nat) (z0 : List Int) (a1 : Bool) (a2 : Option Addr) (len2 cap2 : Nat) (z2 : List Int) (a3 a4 a5 a6 a7 : Int) (a8 : Bool) (w : World) (w0 : IsRow .u32 w a0 len0 cap0 z0) (w2 : IsRow .i64 w a2 len2 cap2 z2)
    (w3 : (Lit.int .i64 a3).wf = true) (w4 : (Lit.int .u32 a4).wf = true) (w5 : (Lit.int .u32 a5).wf = true) (w6 : (Lit.int .u32 a6).wf = true) (w7 : (Lit.int .u32 a7).wf = true) :
    Calls Try.prog 4 #[.slice a0 len0 cap0, .bool a1, .slice a2 len2 cap2, .int .i64 a3, .int .u32 a4, .int .u32 a5, .int .u32 a6, .int .u32 a7, .bool a8] w fun e w' => e = .returned (.bool true) ∧ Below w.heap.size w w' :=
  maps_walk a0 a2 len0 cap0 len2 cap2 a1 a8 _ a3 a4 a5 a6 a7 w (row_mem w0) (row_ints w2) (wf_i64 w3).1 (wf_i64 w3).2 (wf_u32 w4).1 (wf_u32 w4).2 (wf_u32 w5).1 (wf_u32 w5).2 (wf_u32 w6).1 (wf_u32 w6).2 (wf_u32 w7).1 (wf_u32 w7).2
end Go.Proofs.Ytleljcpljhpoaaa
