import Derived.Test.YtackgjmmeojpiaaBlLaw
namespace Go.Proofs.Ytackgjmmeojpiaa
set_option linter.unusedVariables false
set_option linter.unusedSimpArgs false
set_option maxRecDepth 20000
open Go.ChangeShapes Go.WideShapes Go.ChangeAt Go.RowKit Go.Proofs.Ytackgjmmeojpiaa.Num Go.Proofs.Ytackgjmmeojpiaa.Mem
set_option maxRecDepth 100000 in
theorem words11 (x p : Int) (r : Nat) (w : World) (x0 : -9223372036854775808 ≤ x) (x1 : x ≤ 9223372036854775807) (p0 : -9223372036854775808 ≤ p) (p1 : p ≤ 9223372036854775807) (hr : p % 8 = (r : Int)) :
    Calls Try.prog 6 #[.int .i64 x, .int .i64 p] w (WordsPost r w) := by
  have hr5 : r ≤ 7 := by omega
  have HR := Lib.hid (fun W => round_any p 8 W (by omega) (by omega) (by omega) (by omega))
  rw [hr] at HR
  have HN := Lib.hid (fun W => new_made r W (by omega))
  have HMX := Lib.hid (fun (j : Nat) W (hj : j ≤ 1000) => mix_any x ((j : Nat) : Int) W x0 x1 (by omega) (by omega))
  clear hr
  go_enter Try.func6, Try.ntmps6
  go_wp2_with (first | (go_at_call 7; refine (HR.out _).mono ?_; rintro e w1 ⟨rfl, rfl⟩) | (go_at_call 23; refine (HN.out _).mono ?_; rintro e w1 ⟨⟨l1, c1, rfl, hc1, hl1, hu1, ho1⟩, hb1⟩))
  obtain ⟨N, HNN⟩ : ∃ N, Hid (N = 32 * (1 + r)) := ⟨_, rfl⟩
  rw [← HNN.out] at hc1 hl1 ⊢
  have hN : N ≤ 256 := by rw [HNN.out]; omega
  have HU := Lib.hid hu1
  have HO := Lib.hid ho1
  have HB := Lib.hid hb1
  clear hu1 ho1 hb1
  go_loopw [6] (fun i wr => ∃ (j : Nat) (l : List Int), j ≤ N ∧ i = .int .i64 j ∧ Hid (l.length = N) ∧ U32 l ∧ Own wr w.heap.size l ∧ Below w.heap.size w wr) (fun i _ => N - (intOf i).toNat)
  case atStart => exact ⟨0, l1, by omega, rfl, hl1, HU.out, HO.out, HB.out⟩
  case round =>
    obtain ⟨j, l, hjk, rfl, hl, hu, ho, hb⟩ := hrel
    by_cases hlt : j < N
    · have HM := Lib.hid (fun W => HMX.out j W (by omega))
      have hy := mixK_bd x ((j : Nat) : Int)
      generalize mixK x ((j : Nat) : Int) = y at hy HM
      have hcell := ho.cell (i := j) (by rw [hl.out]; omega)
      have hfree := ho.free j
      have HO2 := Lib.hid ho
      have HU2 := Lib.hid hu
      have HB2 := Lib.hid hb
      clear ho hu hb
      go_wp2_with (go_at_call 24; (with_reducible refine (HM.out _).mono ?_); rintro e w1 ⟨rfl, rfl⟩)
      go_roundw
      case rel => exact ⟨j + 1, l.set j _, by omega, by go_num, (by rw [List.length_set]; exact hl.out : (l.set j _).length = N), HU2.out.set j (Int.emod_nonneg _ (by omega)) (by omega), HO2.out.set (by rw [hl.out]; exact hlt) _, (HB2.out.setCell (Nat.le_refl _) _)⟩
      case measure => simp [intOf]; omega
    · have HO2 := Lib.hid ho
      have HU2 := Lib.hid hu
      have HB2 := Lib.hid hb
      clear ho hu hb
      go_wp2
      go_ret
      exact words_end HNN.out hl.out HO2.out HU2.out HB2.out hc1 (Nat.le_refl _)
set_option maxHeartbeats 4000000 in
theorem tells_walk (T : Int) (g v : Nat) (x pg p : Int) (w : World) (hg : g < 4294967296) (T0 : 0 ≤ T) (T1 : T ≤ 4294967295) (x0 : -9223372036854775808 ≤ x) (x1 : x ≤ 9223372036854775807) (p0 : -9223372036854775808 ≤ pg) (p1 : pg ≤ 9223372036854775807) (hv4 : v ≤ 4294967295) :
    Calls Try.prog 3 #[blV T g, .int .i64 x, .int .i64 pg, .int .i64 p, .int .u32 (v : Int), .bool false] w fun e w' => e = .returned (.bool true) ∧ Below w.heap.size w w' := by
  obtain ⟨r, hr⟩ : ∃ r : Nat, pg % 8 = r := ⟨(pg % 8).toNat, by omega⟩
  have HWD := Lib.hid (fun W => words11 x pg r W x0 x1 p0 p1 hr)
  unfold WordsPost at HWD
  unfold blV
  go_enter Try.func3, Try.ntmps3
  go_upto_region 4 with (first
    | go_skip
    | (go_at_call 6; (with_reducible refine (HWD.out _).mono ?_); rintro e w1 ⟨⟨q, cw, l0, rfl, hq, hcw, hl0, hu0, ho0⟩, hb1⟩; have X0 : Hid (InB w1 w.heap.size T g) := Lib.hid (InB.on ⟨by simp [go_sem], by simp [go_sem], fun i => by simp [go_sem]⟩ hb1); have B0 : Hid (Below w.heap.size w w1) := Lib.hid (Below.trans (by (repeat' (first | with_reducible exact Below.refl _ _ | with_reducible assumption | with_reducible apply below_drewN | with_reducible apply Below.drew | with_reducible apply Below.setCell | with_reducible apply Below.alloc | (simp; done) | omega | (simp; omega)))) (hb1.mono (by simp <;> omega))); have M0 := Lib.hid (ho0.mem hl0 hcw (by omega) hu0); clear hb1 ho0 hu0))
  generalize 32 * (1 + r) = n at *
  obtain ⟨b, HE⟩ : ∃ b, Hid (w.heap.size = b) := ⟨_, rfl⟩
  rw [HE.out] at X0 B0 ⊢
  obtain ⟨c0, c1, cz⟩ := X0.out
  have HW1 := Lib.hid awake11
  have HO := Lib.hid (fun W (hM : Mem W (some ⟨q, 0, none⟩) n cw l0) => bout_any T g v p (some ⟨q, 0, none⟩) n cw l0 W hM hg hv4)
  have HR := Lib.hid (fun W (hM : Mem W (some ⟨q, 0, none⟩) n cw l0) => bref_any T g v p (some ⟨q, 0, none⟩) n cw l0 W hM hg hv4)
  unfold BOut at HO HR
  obtain ⟨G, hG⟩ : ∃ G, outG n g p v = G := ⟨_, rfl⟩
  rw [hG] at HO HR
  have HI1 := Lib.hid (fun W => bin_any T g p W hg)
  have HI2 := Lib.hid (fun W => bin_ref T g p W hg)
  have HC1 := Lib.hid (fun W => bcount_any T g W hg)
  have HC2 := Lib.hid (fun W => given_ref T g W hg)
  have HP1 := Lib.hid (fun W => bpend_any T g W hg)
  have HP2 := Lib.hid (fun W => bpend_ref T g W hg T0 T1)
  have HM1 := Lib.hid (fun W => bmay_any T g pg W hg)
  have HM2 := Lib.hid (fun W => bmay_ref T g pg W hg)
  generalize inB T g p = inV at HI1 HI2
  generalize mayB g pg = mayV at HM1 HM2
  generalize ((cnt g 32 : Int) != T) = penV at HP1 HP2
  generalize cnt g 32 = cV at HC1 HC2
  unfold blV at HO HR HI1 HI2 HC1 HC2 HP1 HP2 HM1 HM2
  clear hG
  go_wp2_with (first
    | go_skip
    | (go_at_call 8; (with_reducible refine (HO.out _ (M0.out)).mono ?_); rintro e w2 ⟨⟨A2, c2, l2, rfl, hm2, -, hF2, hG2⟩, hb2⟩; have i2 := X0.out.on hb2; have b2 := below_stepI B0.out hb2 (Nat.le_of_eq HE.out.symm); have B2 := Lib.hid b2; have I2 := Lib.hid i2; have M2 := Lib.hid hm2; have F2 := Lib.hid hF2; have G2 := Lib.hid hG2; have N2 := Lib.hid (M0.out.on hb2); obtain ⟨c0, c1, cz⟩ := i2; have l2' := I2.out.lt; clear hb2 hm2 hF2 hG2 b2)
    | (go_at_call 9; (with_reducible refine (HR.out _ (N2.out.on (by (repeat' (first | with_reducible exact Below.refl _ _ | with_reducible assumption | with_reducible apply below_drewN | with_reducible apply Below.drew | with_reducible apply Below.setCell | with_reducible apply Below.alloc | (simp; done) | omega | (simp; omega)))))).mono ?_); rintro e w3 ⟨⟨A3, c3, l3, rfl, hm3, -, hF3, hG3⟩, hb3⟩; have I3 := Lib.hid ((I2.out.alloc (.cells #[.int .u32 T, .int .u32 (G : Int)] 24)).on hb3); have J3 := Lib.hid ((InB.new w2 T G 24).on hb3); have M3 := Lib.hid ((M2.out.on ((Below.refl _ _).alloc (Nat.le_refl _) (.cells #[.int .u32 T, .int .u32 (G : Int)] 24))).on hb3); have K3 := Lib.hid hm3; have B3 := Lib.hid (below_stepI B2.out (below_stepI ((Below.refl _ _).alloc (Nat.le_refl _) (.cells #[.int .u32 T, .int .u32 (G : Int)] 24)) hb3 (by simp)) (Nat.le_of_eq HE.out.symm)); have F3 := Lib.hid hF3; have G3 := Lib.hid hG3; clear hb3 hm3 hF3 hG3))
  have hll : l2 = l3 := by
    by_cases hC : outC n g p v
    · exact (F2.out hC).same (F3.out hC)
    · rw [G2.out hC, G3.out hC]
  subst hll
  obtain ⟨W, HW⟩ : ∃ W, Hid (w3.alloc (.cells #[.int .u32 T, .int .u32 (G : Int)] 24) = W) := ⟨_, rfl⟩
  have X4 : InB W b T g := by rw [← HW.out]; exact I3.out.alloc _
  have Y4 : InB W w2.heap.size T G := by rw [← HW.out]; exact J3.out.alloc _
  have Z4 : InB W w3.heap.size T G := by rw [← HW.out]; exact InB.new _ _ _ _
  have P4 : Mem W A2 n c2 l2 := by rw [← HW.out]; exact M3.out.on ((Below.refl _ _).alloc (Nat.le_refl _) _)
  have Q4 : Mem W A3 n c3 l2 := by rw [← HW.out]; exact K3.out.on ((Below.refl _ _).alloc (Nat.le_refl _) _)
  have B4 : Hid (Below b w W) := by rw [← HW.out]; exact Lib.hid (below_stepI B3.out ((Below.refl _ _).alloc (Nat.le_refl _) _) (Nat.le_of_eq HE.out.symm))
  rw [HW.out]
  clear c0 c1 cz I2 M2 N2 F2 G2 I3 J3 M3 K3 F3 G3 B2 B3 HW l2'
  generalize w2.heap.size = b2 at *
  generalize w3.heap.size = b3 at *
  obtain ⟨x0, x1, xz⟩ := X4
  obtain ⟨y0, y1, yz⟩ := Y4
  obtain ⟨z0, z1, zz⟩ := Z4
  have HS := Lib.hid (fun W' (hM : Below W.heap.size W W') => (same_any A2 A3 n n c2 c3 l2 l2 W' (P4.on hM) (Q4.on hM)).mono (R' := fun e w' => e = .returned (.bool true) ∧ Below W'.heap.size W' w') fun _ _ ⟨h, m, h'⟩ => ⟨by rw [h, decide_eq_true rfl], by rw [h']; exact below_drewN (Below.refl _ _) m⟩)
  have bb : Below W.heap.size W W.drew := (Below.refl _ _).drew
  clear xz yz zz P4 Q4
  go_region_held3 (fun w' => w'.cell? ⟨b, 0, none⟩ = some (.int .u32 T) ∧ w'.cell? ⟨b, 1, none⟩ = some (.int .u32 (g : Int)) ∧ w'.cell? ⟨b2, 0, none⟩ = some (.int .u32 T) ∧ w'.cell? ⟨b2, 1, none⟩ = some (.int .u32 (G : Int)) ∧ w'.cell? ⟨b3, 0, none⟩ = some (.int .u32 T) ∧ w'.cell? ⟨b3, 1, none⟩ = some (.int .u32 (G : Int))) (first | with_reducible exact ⟨stillI x0 bb, stillI x1 bb, stillI y0 bb, stillI y1 bb, stillI z0 bb, stillI z1 bb⟩ | go_keep) (first
    | (go_at_call 10; refine (HS.out _ bb).mono ?_; rintro e w4 ⟨rfl, hb4⟩; replace bb := below_stepI bb hb4 (Nat.le_refl _))
    | (go_at_call 11; refine (HI1.out _).mono ?_; rintro e w4 ⟨rfl, hb4⟩; replace bb := below_stepI bb hb4 (Nat.le_refl _))
    | (go_at_call 12; refine (HI2.out _).mono ?_; rintro e w4 ⟨rfl, hb4⟩; replace bb := below_stepI bb hb4 (Nat.le_refl _))
    | (go_at_call 13; refine (HC1.out _).mono ?_; rintro e w4 ⟨rfl, hb4⟩; replace bb := below_stepI bb hb4 (Nat.le_refl _))
    | (go_at_call 14; refine (HC2.out _).mono ?_; rintro e w4 ⟨rfl, hb4⟩; replace bb := below_stepI bb hb4 (Nat.le_refl _))
    | (go_at_call 15; refine (HP1.out _).mono ?_; rintro e w4 ⟨rfl, hb4⟩; replace bb := below_stepI bb hb4 (Nat.le_refl _))
    | (go_at_call 16; refine (HP2.out _).mono ?_; rintro e w4 ⟨rfl, hb4⟩; replace bb := below_stepI bb hb4 (Nat.le_refl _))
    | (go_at_call 17; refine (HM1.out _).mono ?_; rintro e w4 ⟨rfl, hb4⟩; replace bb := below_stepI bb hb4 (Nat.le_refl _))
    | (go_at_call 18; refine (HM2.out _).mono ?_; rintro e w4 ⟨rfl, hb4⟩; replace bb := below_stepI bb hb4 (Nat.le_refl _))
    | (go_at_call 19; refine (HW1.out _).mono ?_; rintro e w4 ⟨rfl, hb4⟩; replace bb := below_stepI bb hb4 (Nat.le_refl _)))
  go_wp2
  go_ret
  exact ⟨rfl, by rw [HE.out]; exact below_stepI B4.out bb (Nat.le_of_eq HE.out.symm)⟩
theorem and_w255 (g : Nat) (hg : g < 4294967296) : bits .and .u32 (g : Int) 255 = ((g % 256 : Nat) : Int) := and_b255 g hg
set_option maxHeartbeats 4000000 in
theorem tells_small (T : Int) (g0 v0 : Nat) (x pg p0' : Int) (w : World) (hg0 : g0 < 4294967296) (T0 : 0 ≤ T) (T1 : T ≤ 4294967295) (x0 : -9223372036854775808 ≤ x) (x1 : x ≤ 9223372036854775807) (p0 : -9223372036854775808 ≤ pg) (p1 : pg ≤ 9223372036854775807) (q0 : -9223372036854775808 ≤ p0') (q1 : p0' ≤ 9223372036854775807) (hv0 : v0 ≤ 4294967295) :
    Calls Try.prog 3 #[blV T g0, .int .i64 x, .int .i64 pg, .int .i64 p0', .int .u32 (v0 : Int), .bool true] w fun e w' => e = .returned (.bool true) ∧ Below w.heap.size w w' := by
  obtain ⟨r, hr⟩ : ∃ r : Nat, pg % 8 = r := ⟨(pg % 8).toNat, by omega⟩
  have HWD := Lib.hid (fun W => words11 x pg r W x0 x1 p0 p1 hr)
  unfold WordsPost at HWD
  obtain ⟨v, hv⟩ : ∃ v : Nat, (v0 : Int) % 34 = (v : Int) := ⟨v0 % 34, by omega⟩
  have hv4 : v ≤ 4294967295 := by omega
  obtain ⟨m, hm⟩ : ∃ m : Nat, p0' % 4 = (m : Int) := ⟨(p0' % 4).toNat, by omega⟩
  have hm3 : m ≤ 3 := by omega
  have HRD := Lib.hid (fun W => (round_any p0' 4 W (by omega) (by omega) q0 q1).mono (R' := fun e w' => e = .returned (.int .i64 (m : Int)) ∧ w' = W) fun _ _ ⟨h, h'⟩ => ⟨by rw [h, hm], h'.symm⟩)
  have hand := and_w255 g0 hg0
  obtain ⟨g, hgg⟩ : ∃ g, g0 % 256 = g := ⟨_, rfl⟩
  rw [hgg] at hand
  have hg : g < 4294967296 := by omega
  have v00 : (0 : Int) ≤ v0 := by omega
  have hv' : (v0 : Int).tmod 34 = (v : Int) := by rw [Int.tmod_eq_emod_of_nonneg v00]; exact hv
  have hw9 : IntKind.i64.wrap (9 + (m : Int)) = 9 + (m : Int) := IntWalk.i64_in _ (by omega)
  clear hgg hm hv
  unfold blV
  go_enter Try.func3, Try.ntmps3
  go_upto_region 3 with (first
    | go_skip
    | (go_at_call 6; (with_reducible refine (HWD.out _).mono ?_); rintro e w1 ⟨⟨q, cw, l0, rfl, hq, hcw, hl0, hu0, ho0⟩, hb1⟩; have X0 : Hid (InB w1 w.heap.size T g0) := Lib.hid (InB.on ⟨by simp [go_sem], by simp [go_sem], fun i => by simp [go_sem]⟩ hb1); have B0 : Hid (Below w.heap.size w w1) := Lib.hid (Below.trans (by (repeat' (first | with_reducible exact Below.refl _ _ | with_reducible assumption | with_reducible apply below_drewN | with_reducible apply Below.drew | with_reducible apply Below.setCell | with_reducible apply Below.alloc | (simp; done) | omega | (simp; omega)))) (hb1.mono (by simp <;> omega))); have H0 := Lib.hid ho0; have U0 := Lib.hid hu0; clear hb1 ho0 hu0))
  have lq := H0.out.lt
  have hqb : ¬ w.heap.size = q := by simp at hq; omega
  obtain ⟨b, HE⟩ : ∃ b, Hid (w.heap.size = b) := ⟨_, rfl⟩
  rw [HE.out] at X0 B0 hqb ⊢
  obtain ⟨c0, c1, cz⟩ := X0.out
  refine wp_region_still_tail 11 (by kernel_rfl) (by kernel_rfl) ?_
  simp only [List.take_succ_cons, List.take_zero, List.drop_succ_cons, List.drop_zero]
  repeat (refine wpStill_step (fun K hK => ?_); go_simp; first | (with_reducible refine hK _ ?_) | (with_reducible refine ⟨_, HRD.out _, hK _ ?_⟩); clear hK K)
  refine wpStill_nil ?_
  go_upto_region 4 with (fail)
  obtain ⟨w5, HW5⟩ : ∃ W, Hid ((w1.setCell ⟨b, 1, none⟩ (.int .u32 (g : Int))).drew = W) := ⟨_, rfl⟩
  have X5 : Hid (InB w5 b T g) := by rw [← HW5.out]; exact Lib.hid ⟨by simp [go_sem, c0], by simp [go_sem, c1], fun i => by simp [go_sem, cz]⟩
  have B5 : Hid (Below b w w5) := by rw [← HW5.out]; exact Lib.hid ((B0.out.setCell (Nat.le_refl _) _).drew)
  have M5 : Hid (Mem w5 (some ⟨q, 0, none⟩) (32 * (1 + r)) cw l0) := by
    rw [← HW5.out]
    exact Lib.hid (((H0.out.far (b := b) 1 (.int .u32 (g : Int)) hqb).on ((Below.refl _ _).drew)).mem hl0 hcw (by omega) U0.out)
  rw [HW5.out]
  clear HW5 X0 B0 c0 c1 cz H0 U0 hand HRD hv' hw9
  have X0 := X5
  have B0 := B5
  have M0 := M5
  clear X5 B5 M5
  obtain ⟨c0, c1, cz⟩ := X0.out
  generalize 9 + (m : Int) = p at *
  generalize 32 * (1 + r) = n at *
  have HW1 := Lib.hid awake11
  have HO := Lib.hid (fun W (hM : Mem W (some ⟨q, 0, none⟩) n cw l0) => bout_any T g v p (some ⟨q, 0, none⟩) n cw l0 W hM hg hv4)
  have HR := Lib.hid (fun W (hM : Mem W (some ⟨q, 0, none⟩) n cw l0) => bref_any T g v p (some ⟨q, 0, none⟩) n cw l0 W hM hg hv4)
  unfold BOut at HO HR
  obtain ⟨G, hG⟩ : ∃ G, outG n g p v = G := ⟨_, rfl⟩
  rw [hG] at HO HR
  have HI1 := Lib.hid (fun W => bin_any T g p W hg)
  have HI2 := Lib.hid (fun W => bin_ref T g p W hg)
  have HC1 := Lib.hid (fun W => bcount_any T g W hg)
  have HC2 := Lib.hid (fun W => given_ref T g W hg)
  have HP1 := Lib.hid (fun W => bpend_any T g W hg)
  have HP2 := Lib.hid (fun W => bpend_ref T g W hg T0 T1)
  have HM1 := Lib.hid (fun W => bmay_any T g pg W hg)
  have HM2 := Lib.hid (fun W => bmay_ref T g pg W hg)
  generalize inB T g p = inV at HI1 HI2
  generalize mayB g pg = mayV at HM1 HM2
  generalize ((cnt g 32 : Int) != T) = penV at HP1 HP2
  generalize cnt g 32 = cV at HC1 HC2
  unfold blV at HO HR HI1 HI2 HC1 HC2 HP1 HP2 HM1 HM2
  clear hG
  go_wp2_with (first
    | go_skip
    | (go_at_call 8; (with_reducible refine (HO.out _ (M0.out)).mono ?_); rintro e w2 ⟨⟨A2, c2, l2, rfl, hm2, -, hF2, hG2⟩, hb2⟩; have i2 := X0.out.on hb2; have b2 := below_stepI B0.out hb2 (Nat.le_of_eq HE.out.symm); have B2 := Lib.hid b2; have I2 := Lib.hid i2; have M2 := Lib.hid hm2; have F2 := Lib.hid hF2; have G2 := Lib.hid hG2; have N2 := Lib.hid (M0.out.on hb2); obtain ⟨c0, c1, cz⟩ := i2; have l2' := I2.out.lt; clear hb2 hm2 hF2 hG2 b2)
    | (go_at_call 9; (with_reducible refine (HR.out _ (N2.out.on (by (repeat' (first | with_reducible exact Below.refl _ _ | with_reducible assumption | with_reducible apply below_drewN | with_reducible apply Below.drew | with_reducible apply Below.setCell | with_reducible apply Below.alloc | (simp; done) | omega | (simp; omega)))))).mono ?_); rintro e w3 ⟨⟨A3, c3, l3, rfl, hm3, -, hF3, hG3⟩, hb3⟩; have I3 := Lib.hid ((I2.out.alloc (.cells #[.int .u32 T, .int .u32 (G : Int)] 24)).on hb3); have J3 := Lib.hid ((InB.new w2 T G 24).on hb3); have M3 := Lib.hid ((M2.out.on ((Below.refl _ _).alloc (Nat.le_refl _) (.cells #[.int .u32 T, .int .u32 (G : Int)] 24))).on hb3); have K3 := Lib.hid hm3; have B3 := Lib.hid (below_stepI B2.out (below_stepI ((Below.refl _ _).alloc (Nat.le_refl _) (.cells #[.int .u32 T, .int .u32 (G : Int)] 24)) hb3 (by simp)) (Nat.le_of_eq HE.out.symm)); have F3 := Lib.hid hF3; have G3 := Lib.hid hG3; clear hb3 hm3 hF3 hG3))
  have hll : l2 = l3 := by
    by_cases hC : outC n g p v
    · exact (F2.out hC).same (F3.out hC)
    · rw [G2.out hC, G3.out hC]
  subst hll
  obtain ⟨W, HW⟩ : ∃ W, Hid (w3.alloc (.cells #[.int .u32 T, .int .u32 (G : Int)] 24) = W) := ⟨_, rfl⟩
  have X4 : InB W b T g := by rw [← HW.out]; exact I3.out.alloc _
  have Y4 : InB W w2.heap.size T G := by rw [← HW.out]; exact J3.out.alloc _
  have Z4 : InB W w3.heap.size T G := by rw [← HW.out]; exact InB.new _ _ _ _
  have P4 : Mem W A2 n c2 l2 := by rw [← HW.out]; exact M3.out.on ((Below.refl _ _).alloc (Nat.le_refl _) _)
  have Q4 : Mem W A3 n c3 l2 := by rw [← HW.out]; exact K3.out.on ((Below.refl _ _).alloc (Nat.le_refl _) _)
  have B4 : Hid (Below b w W) := by rw [← HW.out]; exact Lib.hid (below_stepI B3.out ((Below.refl _ _).alloc (Nat.le_refl _) _) (Nat.le_of_eq HE.out.symm))
  rw [HW.out]
  clear c0 c1 cz I2 M2 N2 F2 G2 I3 J3 M3 K3 F3 G3 B2 B3 HW l2'
  generalize w2.heap.size = b2 at *
  generalize w3.heap.size = b3 at *
  obtain ⟨x0, x1, xz⟩ := X4
  obtain ⟨y0, y1, yz⟩ := Y4
  obtain ⟨z0, z1, zz⟩ := Z4
  have HS := Lib.hid (fun W' (hM : Below W.heap.size W W') => (same_any A2 A3 n n c2 c3 l2 l2 W' (P4.on hM) (Q4.on hM)).mono (R' := fun e w' => e = .returned (.bool true) ∧ Below W'.heap.size W' w') fun _ _ ⟨h, m, h'⟩ => ⟨by rw [h, decide_eq_true rfl], by rw [h']; exact below_drewN (Below.refl _ _) m⟩)
  have bb : Below W.heap.size W W.drew := (Below.refl _ _).drew
  clear xz yz zz P4 Q4
  go_region_held3 (fun w' => w'.cell? ⟨b, 0, none⟩ = some (.int .u32 T) ∧ w'.cell? ⟨b, 1, none⟩ = some (.int .u32 (g : Int)) ∧ w'.cell? ⟨b2, 0, none⟩ = some (.int .u32 T) ∧ w'.cell? ⟨b2, 1, none⟩ = some (.int .u32 (G : Int)) ∧ w'.cell? ⟨b3, 0, none⟩ = some (.int .u32 T) ∧ w'.cell? ⟨b3, 1, none⟩ = some (.int .u32 (G : Int))) (first | with_reducible exact ⟨stillI x0 bb, stillI x1 bb, stillI y0 bb, stillI y1 bb, stillI z0 bb, stillI z1 bb⟩ | go_keep) (first
    | (go_at_call 10; refine (HS.out _ bb).mono ?_; rintro e w4 ⟨rfl, hb4⟩; replace bb := below_stepI bb hb4 (Nat.le_refl _))
    | (go_at_call 11; refine (HI1.out _).mono ?_; rintro e w4 ⟨rfl, hb4⟩; replace bb := below_stepI bb hb4 (Nat.le_refl _))
    | (go_at_call 12; refine (HI2.out _).mono ?_; rintro e w4 ⟨rfl, hb4⟩; replace bb := below_stepI bb hb4 (Nat.le_refl _))
    | (go_at_call 13; refine (HC1.out _).mono ?_; rintro e w4 ⟨rfl, hb4⟩; replace bb := below_stepI bb hb4 (Nat.le_refl _))
    | (go_at_call 14; refine (HC2.out _).mono ?_; rintro e w4 ⟨rfl, hb4⟩; replace bb := below_stepI bb hb4 (Nat.le_refl _))
    | (go_at_call 15; refine (HP1.out _).mono ?_; rintro e w4 ⟨rfl, hb4⟩; replace bb := below_stepI bb hb4 (Nat.le_refl _))
    | (go_at_call 16; refine (HP2.out _).mono ?_; rintro e w4 ⟨rfl, hb4⟩; replace bb := below_stepI bb hb4 (Nat.le_refl _))
    | (go_at_call 17; refine (HM1.out _).mono ?_; rintro e w4 ⟨rfl, hb4⟩; replace bb := below_stepI bb hb4 (Nat.le_refl _))
    | (go_at_call 18; refine (HM2.out _).mono ?_; rintro e w4 ⟨rfl, hb4⟩; replace bb := below_stepI bb hb4 (Nat.le_refl _))
    | (go_at_call 19; refine (HW1.out _).mono ?_; rintro e w4 ⟨rfl, hb4⟩; replace bb := below_stepI bb hb4 (Nat.le_refl _)))
  go_wp2
  go_ret
  exact ⟨rfl, by rw [HE.out]; exact below_stepI B4.out bb (Nat.le_of_eq HE.out.symm)⟩
end Go.Proofs.Ytackgjmmeojpiaa
