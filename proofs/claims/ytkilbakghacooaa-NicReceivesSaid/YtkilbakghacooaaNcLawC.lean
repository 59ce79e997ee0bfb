import Derived.Test.YtkilbakghacooaaNcAwk
namespace Go.Proofs.Ytkilbakghacooaa
set_option linter.unusedVariables false
set_option linter.unusedSimpArgs false
set_option maxRecDepth 20000
open Go.ChangeShapes Go.WideShapes Go.ChangeAt Go.RowKit Go.Proofs.Ytkilbakghacooaa.Num Go.Proofs.Ytkilbakghacooaa.Mem
set_option maxHeartbeats 4000000 in
theorem nrec_short (F L : Int) (P : Bool) (B : Int) (R : Bool) (G : Int) (raw : Bool) (x y : Int) (D : ByteArray) (w : World) (F0 : 0 ≤ F) (F1 : F ≤ 4294967295) (L0 : 0 ≤ L) (L1 : L ≤ 4294967295) (b0 : 0 ≤ B) (b1 : B ≤ 4294967295) (g0 : 0 ≤ G) (g1 : G ≤ 4294967295) (x0 : -9223372036854775808 ≤ x) (x1 : x ≤ 9223372036854775807) (y0 : -9223372036854775808 ≤ y) (y1 : y ≤ 9223372036854775807) (hs : D.size ≤ 300) :
    Calls Try.prog 4 #[ncV F L P B R G, .bool raw, .int .i64 x, .int .i64 y, .string D, .bool false] w fun e w' => e = .returned (.bool true) ∧ Below w.heap.size w w' := by
  have HS := Lib.hid (fun W => shapedN_any F L P B R G raw x W x0 x1 F0 F1 L0 L1 b0 b1 g0 g1)
  obtain ⟨r, hr⟩ : ∃ r : Nat, y % 6 = r := ⟨(y % 6).toNat, by omega⟩
  have hr5 : r ≤ 5 := by omega
  obtain ⟨N, HN⟩ : ∃ N, Hid (N = 32 * (1 + r)) := ⟨_, rfl⟩
  have HWD := Lib.hid (fun W => words_any x y r W x0 x1 y0 y1 hr)
  unfold WordsPost at HWD
  rw [← HN.out] at HWD
  have HAW := Lib.hid awake10
  have ds : decide (300 < (D.size : Int)) = false := by simp; omega
  have ds' : (D.size : Int) ≤ 300 := by omega
  unfold ShnPost ncV at HS
  unfold ncV
  clear F0 F1 L0 L1 b0 b1 g0 g1 x0 x1 y0 y1 hr
  go_enter Try.func4, Try.ntmps4
  go_wp2_with (first
    | go_skip
    | (go_at_call 8; (with_reducible refine (HS.out _).mono ?_); rintro e w1 ⟨⟨F1, L1, P1, B1, R1, G1, rfl, f10, f11, l10, l11, b10, b11, g10, g11⟩, hb1⟩; have X1 : InN w1 w.heap.size F L P B R G := InN.on ⟨by simp [go_sem], by simp [go_sem], by simp [go_sem], by simp [go_sem], by simp [go_sem], by simp [go_sem], fun i => by simp [go_sem]⟩ hb1; have b1 : Below w.heap.size w w1 := Below.trans (by (repeat' (first | with_reducible exact Below.refl _ _ | with_reducible assumption | with_reducible apply below_drewN | with_reducible apply Below.drew | with_reducible apply Below.setCell | with_reducible apply Below.alloc | (simp; done) | omega | (simp; omega)))) (hb1.mono (by first | omega | (simp <;> omega))); clear hb1; have l1 := X1.lt; obtain ⟨a0, a1, a2, a3, a4, a5, az⟩ := X1; have z0 := az 0; have z1 := az 1; have z2 := az 2; have z3 := az 3; have z4 := az 4; have z5 := az 5)
    | (go_at_call 9; (with_reducible refine (HWD.out _).mono ?_); rintro e w2 ⟨⟨g, c, l, rfl, hg, hc, hl, hu, hown⟩, hb2⟩; have X2 : InN w2 w.heap.size F1 L1 P1 B1 R1 G1 := InN.on ⟨by simp [go_sem, a0, a1, a2, a3, a4, a5, az], by simp [go_sem, a0, a1, a2, a3, a4, a5, az], by simp [go_sem, a0, a1, a2, a3, a4, a5, az], by simp [go_sem, a0, a1, a2, a3, a4, a5, az], by simp [go_sem, a0, a1, a2, a3, a4, a5, az], by simp [go_sem, a0, a1, a2, a3, a4, a5, az], fun i => by simp [go_sem, a0, a1, a2, a3, a4, a5, az]⟩ hb2; have b2 : Below w.heap.size w w2 := Below.trans (by (repeat' (first | with_reducible exact Below.refl _ _ | with_reducible assumption | with_reducible apply below_drewN | with_reducible apply Below.drew | with_reducible apply Below.setCell | with_reducible apply Below.alloc | (simp; done) | omega | (simp; omega)))) (hb2.mono (by first | omega | (simp <;> omega))); clear hb2 b1 az a0 a1 a2 a3 a4 a5 z0 z1 z2 z3 z4 z5; have HM2 := Lib.hid (hown.mem hl hc (by have := HN.out; omega) hu); have HOW2 := Lib.hid hown; have l2 := X2.lt; have h2 := b2.size; have X2' := X2; obtain ⟨a0, a1, a2, a3, a4, a5, az⟩ := X2'; obtain ⟨F2, L2, P2, B2, R2, G2, ok, rd, ff, HOB, _, _, _, _, _⟩ := rec_both N l F1 L1 P1 B1 R1 G1 D (by have := HN.out; omega) b10 b11 g10 g11 (by omega); unfold RecB RecPost ncV at HOB; have HO1 := Lib.hid HOB.1; have HR1 := Lib.hid HOB.2; clear HOB hl hc hu hown hg)
    | (go_at_call 19; (with_reducible refine (HO1.out _ _ _ (HM2.out.on (by (repeat' (first | with_reducible exact Below.refl _ _ | with_reducible assumption | with_reducible apply below_drewN | with_reducible apply Below.drew | with_reducible apply Below.setCell | with_reducible apply Below.alloc | (simp; done) | omega | (simp; omega)))))).mono ?_); rintro e w4 ⟨⟨A4, c4, l4, rfl, hm4, _, hf4, hg4⟩, hb4⟩; have X4 : InN w4 w.heap.size F1 L1 P1 B1 R1 G1 := InN.on ⟨by simp [go_sem, a0, a1, a2, a3, a4, a5, az], by simp [go_sem, a0, a1, a2, a3, a4, a5, az], by simp [go_sem, a0, a1, a2, a3, a4, a5, az], by simp [go_sem, a0, a1, a2, a3, a4, a5, az], by simp [go_sem, a0, a1, a2, a3, a4, a5, az], by simp [go_sem, a0, a1, a2, a3, a4, a5, az], fun i => by simp [go_sem, a0, a1, a2, a3, a4, a5, az]⟩ hb4; have HM4 := Lib.hid hm4; have HF4 := Lib.hid hf4; have HG4 := Lib.hid hg4; have HMB := Lib.hid ((HM2.out.on (show Below _ _ _ from by (repeat' (first | with_reducible exact Below.refl _ _ | with_reducible assumption | with_reducible apply below_drewN | with_reducible apply Below.drew | with_reducible apply Below.setCell | with_reducible apply Below.alloc | (simp; done) | omega | (simp; omega))))).on hb4); have b4 : Below w.heap.size w w4 := Below.trans (by (repeat' (first | with_reducible exact Below.refl _ _ | with_reducible assumption | with_reducible apply below_drewN | with_reducible apply Below.drew | with_reducible apply Below.setCell | with_reducible apply Below.alloc | (simp; done) | omega | (simp; omega)))) (hb4.mono (by first | omega | (simp <;> omega))); have h4 := b4.size; clear hb4 hm4 hf4 hg4; have l4' := X4.lt; have n4 : ¬ w4.heap.size = w.heap.size := (by omega); have n4' : ¬ w.heap.size = w4.heap.size := (by omega); obtain ⟨p0, p1, p2, p3, p4, p5, pz⟩ := X4.alloc (.cells #[.int .u32 F2, .int .u32 L2, .bool P2, .int .u32 B2, .bool R2, .int .u32 G2] 24); have Y4 := X4; obtain ⟨q0, q1, q2, q3, q4, q5, qz⟩ := Y4)
    | (go_at_call 20; (with_reducible refine (HR1.out _ _ _ (HMB.out.on (by (repeat' (first | with_reducible exact Below.refl _ _ | with_reducible assumption | with_reducible apply below_drewN | with_reducible apply Below.drew | with_reducible apply Below.setCell | with_reducible apply Below.alloc | (simp; done) | omega | (simp; omega)))))).mono ?_); rintro e w5 ⟨⟨A5, c5, l5, rfl, hm5, _, hf5, hg5⟩, hb5⟩; have el : l4 = l5 := (by rcases Classical.em rd with h | h; exact Filled.same (HF4.out h) (hf5 h); rw [HG4.out h, hg5 h]); have HM5 := Lib.hid hm5; have HM45 := Lib.hid ((HM4.out.on ((Below.refl _ _).alloc (Nat.le_refl _) (.cells #[.int .u32 F2, .int .u32 L2, .bool P2, .int .u32 B2, .bool R2, .int .u32 G2] 24))).on hb5); have X5 := (X4.alloc (.cells #[.int .u32 F2, .int .u32 L2, .bool P2, .int .u32 B2, .bool R2, .int .u32 G2] 24)).on hb5; have XX5 : InN w5 w4.heap.size F2 L2 P2 B2 R2 G2 := (InN.new _ _ _ _ _ _ _ _).on hb5; have b5 : Below w.heap.size w w5 := below_stepI (b4.alloc h4 (.cells #[.int .u32 F2, .int .u32 L2, .bool P2, .int .u32 B2, .bool R2, .int .u32 G2] 24)) hb5 (Nat.le_refl _); have h5 := b5.size; clear hb5 hm5 hf5 hg5; refine Hid.out ?_))
  refine Lib.hid ?_
  repeat' (first | (with_reducible refine then_normal ?_) | (with_reducible refine wp_exit ?_) | (with_reducible refine wp_ret ?_) | (with_reducible refine then_exit ?_) | (with_reducible refine blk_hit ?_) | (with_reducible refine blk_pass (by decide) ?_) | (with_reducible refine then_ret ?_) | (with_reducible refine blk_ret ?_) | (with_reducible refine blk_normal ?_) | go_values | go_skip | go_guarded | go_step | go_upon | (simp only [Int.not_lt, Int.not_le] at *; go_simp) | (go_values <;> (try go_simp)) | (go_ite <;> go_prune <;> (try go_simp)))
  subst el
  obtain ⟨W, hW⟩ : ∃ W, w5.alloc (.cells #[.int .u32 F2, .int .u32 L2, .bool P2, .int .u32 B2, .bool R2, .int .u32 G2] 24) = W := ⟨_, rfl⟩
  have Z0 : InN W w.heap.size F1 L1 P1 B1 R1 G1 := by rw [← hW]; exact X5.alloc _
  have Z1 : InN W w4.heap.size F2 L2 P2 B2 R2 G2 := by rw [← hW]; exact XX5.alloc _
  have Z2 : InN W w5.heap.size F2 L2 P2 B2 R2 G2 := by rw [← hW]; exact InN.new _ _ _ _ _ _ _ _
  have HQ1 := Lib.hid (show Mem W A4 N c4 l4 by rw [← hW]; exact HM45.out.on ((Below.refl _ _).alloc (Nat.le_refl _) _))
  have HQ2 := Lib.hid (show Mem W A5 N c5 l4 by rw [← hW]; exact HM5.out.on ((Below.refl _ _).alloc (Nat.le_refl _) _))
  have HBW : Hid (Below w.heap.size w W) := by rw [← hW]; exact Lib.hid (b5.alloc h5 _)
  have HP1 := Lib.hid (fun W => ncPend_any F1 L1 P1 B1 R1 G1 W)
  have HP2 := Lib.hid (fun W => ncPend_ref F1 L1 P1 B1 R1 G1 W)
  have HY1 := Lib.hid (fun W => ncMay_any F1 L1 P1 B1 R1 G1 y W b10 b11 g10 g11)
  have HY2 := Lib.hid (fun W => ncMay_ref F1 L1 P1 B1 R1 G1 y b10 b11 g10 W)
  unfold ncV at HP1 HP2 HY1 HY2
  rw [hW]
  clear hW HM45 HM5 HM4 HF4 HG4 HMB HM2 HOW2 X5 XX5 X4 b4 b5 b2 HO1 HR1 HS HWD
  clear a0 a1 a2 a3 a4 a5 az p0 p1 p2 p3 p4 p5 pz q0 q1 q2 q3 q4 q5 qz
  generalize ncMay P1 B1 R1 G1 y = my at *
  generalize w4.heap.size = g1 at *
  generalize w5.heap.size = g2 at *
  obtain ⟨g0, hg0⟩ : ∃ g, w.heap.size = g := ⟨_, rfl⟩
  rw [hg0] at Z0
  try rw [hg0]
  have bb : Below W.heap.size W W.drew := (Below.refl _ _).drew
  go_region_held3 (fun w' => w'.cell? ⟨g0, 0, none⟩ = some (.int .u32 F1) ∧ w'.cell? ⟨g0, 1, none⟩ = some (.int .u32 L1) ∧ w'.cell? ⟨g0, 2, none⟩ = some (.bool P1) ∧ w'.cell? ⟨g0, 3, none⟩ = some (.int .u32 B1) ∧ w'.cell? ⟨g0, 4, none⟩ = some (.bool R1) ∧ w'.cell? ⟨g0, 5, none⟩ = some (.int .u32 G1) ∧ w'.cell? ⟨g1, 0, none⟩ = some (.int .u32 F2) ∧ w'.cell? ⟨g1, 1, none⟩ = some (.int .u32 L2) ∧ w'.cell? ⟨g1, 2, none⟩ = some (.bool P2) ∧ w'.cell? ⟨g1, 3, none⟩ = some (.int .u32 B2) ∧ w'.cell? ⟨g1, 4, none⟩ = some (.bool R2) ∧ w'.cell? ⟨g1, 5, none⟩ = some (.int .u32 G2) ∧ w'.cell? ⟨g2, 0, none⟩ = some (.int .u32 F2) ∧ w'.cell? ⟨g2, 1, none⟩ = some (.int .u32 L2) ∧ w'.cell? ⟨g2, 2, none⟩ = some (.bool P2) ∧ w'.cell? ⟨g2, 3, none⟩ = some (.int .u32 B2) ∧ w'.cell? ⟨g2, 4, none⟩ = some (.bool R2) ∧ w'.cell? ⟨g2, 5, none⟩ = some (.int .u32 G2)) (first | exact ⟨stillI Z0.c0 bb, stillI Z0.c1 bb, stillI Z0.c2 bb, stillI Z0.c3 bb, stillI Z0.c4 bb, stillI Z0.c5 bb, stillI Z1.c0 bb, stillI Z1.c1 bb, stillI Z1.c2 bb, stillI Z1.c3 bb, stillI Z1.c4 bb, stillI Z1.c5 bb, stillI Z2.c0 bb, stillI Z2.c1 bb, stillI Z2.c2 bb, stillI Z2.c3 bb, stillI Z2.c4 bb, stillI Z2.c5 bb⟩ | go_keep) (first
    | (go_at_call 21; refine (same_refl A4 A5 N c4 c5 l4 _ (HQ1.out.on bb) (HQ2.out.on bb)).mono ?_; rintro e wx ⟨rfl, mx, rfl⟩; replace bb : Below W.heap.size W (W.drewN (1 + mx)) := below_drewN (Below.refl _ _) _)
    | (go_at_call 22; refine (HP1.out _).mono ?_; rintro e wx ⟨rfl, hbx⟩; replace bb := below_stepI bb hbx (Nat.le_refl _))
    | (go_at_call 23; refine (HP2.out _).mono ?_; rintro e wx ⟨rfl, hbx⟩; replace bb := below_stepI bb hbx (Nat.le_refl _))
    | (go_at_call 24; refine (HY1.out _).mono ?_; rintro e wx ⟨rfl, hbx⟩; replace bb := below_stepI bb hbx (Nat.le_refl _))
    | (go_at_call 25; refine (HY2.out _).mono ?_; rintro e wx ⟨rfl, hbx⟩; replace bb := below_stepI bb hbx (Nat.le_refl _))
    | (go_at_call 16; refine (HAW.out _).mono ?_; rintro e wx ⟨rfl, hbx⟩; replace bb := below_stepI bb hbx (Nat.le_refl _)))
  go_wp2
  go_ret
  exact ⟨rfl, below_stepI HBW.out bb (Nat.le_refl _)⟩
set_option maxHeartbeats 4000000 in
theorem nrec_long (F L : Int) (P : Bool) (B : Int) (R : Bool) (G : Int) (raw : Bool) (x y : Int) (D : ByteArray) (w : World) (F0 : 0 ≤ F) (F1 : F ≤ 4294967295) (L0 : 0 ≤ L) (L1 : L ≤ 4294967295) (b0 : 0 ≤ B) (b1 : B ≤ 4294967295) (g0 : 0 ≤ G) (g1 : G ≤ 4294967295) (x0 : -9223372036854775808 ≤ x) (x1 : x ≤ 9223372036854775807) (y0 : -9223372036854775808 ≤ y) (y1 : y ≤ 9223372036854775807) (hs : ¬ D.size ≤ 300) :
    Calls Try.prog 4 #[ncV F L P B R G, .bool raw, .int .i64 x, .int .i64 y, .string D, .bool false] w fun e w' => e = .returned (.bool true) ∧ Below w.heap.size w w' := by
  have HS := Lib.hid (fun W => shapedN_any F L P B R G raw x W x0 x1 F0 F1 L0 L1 b0 b1 g0 g1)
  obtain ⟨r, hr⟩ : ∃ r : Nat, y % 6 = r := ⟨(y % 6).toNat, by omega⟩
  have hr5 : r ≤ 5 := by omega
  obtain ⟨N, HN⟩ : ∃ N, Hid (N = 32 * (1 + r)) := ⟨_, rfl⟩
  have HWD := Lib.hid (fun W => words_any x y r W x0 x1 y0 y1 hr)
  unfold WordsPost at HWD
  rw [← HN.out] at HWD
  have HAW := Lib.hid awake10
  have ds : decide (300 < (D.size : Int)) = true := by simp; omega
  have ds' : ¬ (D.size : Int) ≤ 300 := by omega
  unfold ShnPost ncV at HS
  unfold ncV
  clear F0 F1 L0 L1 b0 b1 g0 g1 x0 x1 y0 y1 hr
  go_enter Try.func4, Try.ntmps4
  go_wp2_with (first
    | go_skip
    | (go_at_call 8; (with_reducible refine (HS.out _).mono ?_); rintro e w1 ⟨⟨F1, L1, P1, B1, R1, G1, rfl, f10, f11, l10, l11, b10, b11, g10, g11⟩, hb1⟩; have X1 : InN w1 w.heap.size F L P B R G := InN.on ⟨by simp [go_sem], by simp [go_sem], by simp [go_sem], by simp [go_sem], by simp [go_sem], by simp [go_sem], fun i => by simp [go_sem]⟩ hb1; have b1 : Below w.heap.size w w1 := Below.trans (by (repeat' (first | with_reducible exact Below.refl _ _ | with_reducible assumption | with_reducible apply below_drewN | with_reducible apply Below.drew | with_reducible apply Below.setCell | with_reducible apply Below.alloc | (simp; done) | omega | (simp; omega)))) (hb1.mono (by first | omega | (simp <;> omega))); clear hb1; have l1 := X1.lt; obtain ⟨a0, a1, a2, a3, a4, a5, az⟩ := X1; have z0 := az 0; have z1 := az 1; have z2 := az 2; have z3 := az 3; have z4 := az 4; have z5 := az 5)
    | (go_at_call 9; (with_reducible refine (HWD.out _).mono ?_); rintro e w2 ⟨⟨g, c, l, rfl, hg, hc, hl, hu, hown⟩, hb2⟩; have X2 : InN w2 w.heap.size F1 L1 P1 B1 R1 G1 := InN.on ⟨by simp [go_sem, a0, a1, a2, a3, a4, a5, az], by simp [go_sem, a0, a1, a2, a3, a4, a5, az], by simp [go_sem, a0, a1, a2, a3, a4, a5, az], by simp [go_sem, a0, a1, a2, a3, a4, a5, az], by simp [go_sem, a0, a1, a2, a3, a4, a5, az], by simp [go_sem, a0, a1, a2, a3, a4, a5, az], fun i => by simp [go_sem, a0, a1, a2, a3, a4, a5, az]⟩ hb2; have b2 : Below w.heap.size w w2 := Below.trans (by (repeat' (first | with_reducible exact Below.refl _ _ | with_reducible assumption | with_reducible apply below_drewN | with_reducible apply Below.drew | with_reducible apply Below.setCell | with_reducible apply Below.alloc | (simp; done) | omega | (simp; omega)))) (hb2.mono (by first | omega | (simp <;> omega))); clear hb2 b1 az a0 a1 a2 a3 a4 a5 z0 z1 z2 z3 z4 z5; have HM2 := Lib.hid (hown.mem hl hc (by have := HN.out; omega) hu); have HOW2 := Lib.hid hown; have l2 := X2.lt; have h2 := b2.size; have X2' := X2; obtain ⟨a0, a1, a2, a3, a4, a5, az⟩ := X2'; skip)
    | (go_at_call 16; (with_reducible refine (HAW.out _).mono ?_); rintro e w9 ⟨rfl, hb9⟩; have b9 : Below w.heap.size w w9 := Below.trans (by (repeat' (first | with_reducible exact Below.refl _ _ | with_reducible assumption | with_reducible apply below_drewN | with_reducible apply Below.drew | with_reducible apply Below.setCell | with_reducible apply Below.alloc | (simp; done) | omega | (simp; omega)))) (hb9.mono (by first | omega | (simp <;> omega)))))
  go_ret
  exact ⟨rfl, b9⟩
set_option maxHeartbeats 4000000 in
theorem nrec_made (F L : Int) (P : Bool) (B : Int) (R : Bool) (G : Int) (raw : Bool) (x y : Int) (D : ByteArray) (w : World) (F0 : 0 ≤ F) (F1 : F ≤ 4294967295) (L0 : 0 ≤ L) (L1 : L ≤ 4294967295) (b0 : 0 ≤ B) (b1 : B ≤ 4294967295) (g0 : 0 ≤ G) (g1 : G ≤ 4294967295) (x0 : -9223372036854775808 ≤ x) (x1 : x ≤ 9223372036854775807) (y0 : -9223372036854775808 ≤ y) (y1 : y ≤ 9223372036854775807) :
    Calls Try.prog 4 #[ncV F L P B R G, .bool raw, .int .i64 x, .int .i64 y, .string D, .bool true] w fun e w' => e = .returned (.bool true) ∧ Below w.heap.size w w' := by
  have HS := Lib.hid (fun W => shapedN_any F L P B R G raw x W x0 x1 F0 F1 L0 L1 b0 b1 g0 g1)
  obtain ⟨r, hr⟩ : ∃ r : Nat, y % 6 = r := ⟨(y % 6).toNat, by omega⟩
  have hr5 : r ≤ 5 := by omega
  obtain ⟨N, HN⟩ : ∃ N, Hid (N = 32 * (1 + r)) := ⟨_, rfl⟩
  have HWD := Lib.hid (fun W => words_any x y r W x0 x1 y0 y1 hr)
  unfold WordsPost at HWD
  rw [← HN.out] at HWD
  have HAW := Lib.hid awake10
  have HMX := Lib.hid (fun W => mix_any x 13 W x0 x1 (by omega) (by omega))
  have hv := mixK_bd x 13
  generalize mixK x 13 = v at hv HMX
  obtain ⟨q, hq⟩ : ∃ q : Nat, v % 140 = q := ⟨(v % 140).toNat, by omega⟩
  have q1 : q ≤ 139 := by omega
  have HRD := Lib.hid (fun W => round_any v 140 W (by omega) (by omega) (by omega) (by omega))
  rw [hq] at HRD
  clear hq
  have HDT := Lib.hid (fun W => dat_any x q W x0 x1 (by omega))
  have hdt := datS_size x q
  generalize datS x q = DT at *
  have ds : decide (300 < (DT.size : Int)) = false := by simp; omega
  have ds' : (DT.size : Int) ≤ 300 := by omega
  unfold ShnPost ncV at HS
  unfold ncV
  clear F0 F1 L0 L1 b0 b1 g0 g1 x0 x1 y0 y1 hr
  go_enter Try.func4, Try.ntmps4
  go_wp2_with (first
    | go_skip
    | (go_at_call 8; (with_reducible refine (HS.out _).mono ?_); rintro e w1 ⟨⟨F1, L1, P1, B1, R1, G1, rfl, f10, f11, l10, l11, b10, b11, g10, g11⟩, hb1⟩; have X1 : InN w1 w.heap.size F L P B R G := InN.on ⟨by simp [go_sem], by simp [go_sem], by simp [go_sem], by simp [go_sem], by simp [go_sem], by simp [go_sem], fun i => by simp [go_sem]⟩ hb1; have b1 : Below w.heap.size w w1 := Below.trans (by (repeat' (first | with_reducible exact Below.refl _ _ | with_reducible assumption | with_reducible apply below_drewN | with_reducible apply Below.drew | with_reducible apply Below.setCell | with_reducible apply Below.alloc | (simp; done) | omega | (simp; omega)))) (hb1.mono (by first | omega | (simp <;> omega))); clear hb1; have l1 := X1.lt; obtain ⟨a0, a1, a2, a3, a4, a5, az⟩ := X1; have z0 := az 0; have z1 := az 1; have z2 := az 2; have z3 := az 3; have z4 := az 4; have z5 := az 5)
    | (go_at_call 9; (with_reducible refine (HWD.out _).mono ?_); rintro e w2 ⟨⟨g, c, l, rfl, hg, hc, hl, hu, hown⟩, hb2⟩; have X2 : InN w2 w.heap.size F1 L1 P1 B1 R1 G1 := InN.on ⟨by simp [go_sem, a0, a1, a2, a3, a4, a5, az], by simp [go_sem, a0, a1, a2, a3, a4, a5, az], by simp [go_sem, a0, a1, a2, a3, a4, a5, az], by simp [go_sem, a0, a1, a2, a3, a4, a5, az], by simp [go_sem, a0, a1, a2, a3, a4, a5, az], by simp [go_sem, a0, a1, a2, a3, a4, a5, az], fun i => by simp [go_sem, a0, a1, a2, a3, a4, a5, az]⟩ hb2; have b2 : Below w.heap.size w w2 := Below.trans (by (repeat' (first | with_reducible exact Below.refl _ _ | with_reducible assumption | with_reducible apply below_drewN | with_reducible apply Below.drew | with_reducible apply Below.setCell | with_reducible apply Below.alloc | (simp; done) | omega | (simp; omega)))) (hb2.mono (by first | omega | (simp <;> omega))); clear hb2 b1 az a0 a1 a2 a3 a4 a5 z0 z1 z2 z3 z4 z5; have HM2 := Lib.hid (hown.mem hl hc (by have := HN.out; omega) hu); have HOW2 := Lib.hid hown; have l2 := X2.lt; have h2 := b2.size; have X2' := X2; obtain ⟨a0, a1, a2, a3, a4, a5, az⟩ := X2'; obtain ⟨F2, L2, P2, B2, R2, G2, ok, rd, ff, HOB, _, _, _, _, _⟩ := rec_both N l F1 L1 P1 B1 R1 G1 DT (by have := HN.out; omega) b10 b11 g10 g11 (by omega); unfold RecB RecPost ncV at HOB; have HO1 := Lib.hid HOB.1; have HR1 := Lib.hid HOB.2; clear HOB hl hc hu hown hg)
    | (go_at_call 18; (with_reducible refine (HMX.out _).mono ?_); rintro e wm ⟨rfl, rfl⟩)
    | (go_at_call 10; (with_reducible refine (HRD.out _).mono ?_); rintro e wr ⟨rfl, rfl⟩)
    | (go_at_call 17; (with_reducible refine (HDT.out _).mono ?_); rintro e w2d ⟨rfl, hb2d⟩; have X3 : InN w2d w.heap.size F1 L1 P1 B1 R1 G1 := X2.on hb2d; have HM3 := Lib.hid (HM2.out.on hb2d); have b3 : Below w.heap.size w w2d := below_stepI b2 hb2d (Nat.le_refl _); clear hb2d; have h3 := b3.size; have l3 := X3.lt; clear a0 a1 a2 a3 a4 a5 az; have X3' := X3; obtain ⟨a0, a1, a2, a3, a4, a5, az⟩ := X3')
    | (go_at_call 19; (with_reducible refine (HO1.out _ _ _ (HM3.out.on (by (repeat' (first | with_reducible exact Below.refl _ _ | with_reducible assumption | with_reducible apply below_drewN | with_reducible apply Below.drew | with_reducible apply Below.setCell | with_reducible apply Below.alloc | (simp; done) | omega | (simp; omega)))))).mono ?_); rintro e w4 ⟨⟨A4, c4, l4, rfl, hm4, _, hf4, hg4⟩, hb4⟩; have X4 : InN w4 w.heap.size F1 L1 P1 B1 R1 G1 := InN.on ⟨by simp [go_sem, a0, a1, a2, a3, a4, a5, az], by simp [go_sem, a0, a1, a2, a3, a4, a5, az], by simp [go_sem, a0, a1, a2, a3, a4, a5, az], by simp [go_sem, a0, a1, a2, a3, a4, a5, az], by simp [go_sem, a0, a1, a2, a3, a4, a5, az], by simp [go_sem, a0, a1, a2, a3, a4, a5, az], fun i => by simp [go_sem, a0, a1, a2, a3, a4, a5, az]⟩ hb4; have HM4 := Lib.hid hm4; have HF4 := Lib.hid hf4; have HG4 := Lib.hid hg4; have HMB := Lib.hid ((HM3.out.on (show Below _ _ _ from by (repeat' (first | with_reducible exact Below.refl _ _ | with_reducible assumption | with_reducible apply below_drewN | with_reducible apply Below.drew | with_reducible apply Below.setCell | with_reducible apply Below.alloc | (simp; done) | omega | (simp; omega))))).on hb4); have b4 : Below w.heap.size w w4 := Below.trans (by (repeat' (first | with_reducible exact Below.refl _ _ | with_reducible assumption | with_reducible apply below_drewN | with_reducible apply Below.drew | with_reducible apply Below.setCell | with_reducible apply Below.alloc | (simp; done) | omega | (simp; omega)))) (hb4.mono (by first | omega | (simp <;> omega))); have h4 := b4.size; clear hb4 hm4 hf4 hg4; have l4' := X4.lt; have n4 : ¬ w4.heap.size = w.heap.size := (by omega); have n4' : ¬ w.heap.size = w4.heap.size := (by omega); obtain ⟨p0, p1, p2, p3, p4, p5, pz⟩ := X4.alloc (.cells #[.int .u32 F2, .int .u32 L2, .bool P2, .int .u32 B2, .bool R2, .int .u32 G2] 24); have Y4 := X4; obtain ⟨q0, q1, q2, q3, q4, q5, qz⟩ := Y4)
    | (go_at_call 20; (with_reducible refine (HR1.out _ _ _ (HMB.out.on (by (repeat' (first | with_reducible exact Below.refl _ _ | with_reducible assumption | with_reducible apply below_drewN | with_reducible apply Below.drew | with_reducible apply Below.setCell | with_reducible apply Below.alloc | (simp; done) | omega | (simp; omega)))))).mono ?_); rintro e w5 ⟨⟨A5, c5, l5, rfl, hm5, _, hf5, hg5⟩, hb5⟩; have el : l4 = l5 := (by rcases Classical.em rd with h | h; exact Filled.same (HF4.out h) (hf5 h); rw [HG4.out h, hg5 h]); have HM5 := Lib.hid hm5; have HM45 := Lib.hid ((HM4.out.on ((Below.refl _ _).alloc (Nat.le_refl _) (.cells #[.int .u32 F2, .int .u32 L2, .bool P2, .int .u32 B2, .bool R2, .int .u32 G2] 24))).on hb5); have X5 := (X4.alloc (.cells #[.int .u32 F2, .int .u32 L2, .bool P2, .int .u32 B2, .bool R2, .int .u32 G2] 24)).on hb5; have XX5 : InN w5 w4.heap.size F2 L2 P2 B2 R2 G2 := (InN.new _ _ _ _ _ _ _ _).on hb5; have b5 : Below w.heap.size w w5 := below_stepI (b4.alloc h4 (.cells #[.int .u32 F2, .int .u32 L2, .bool P2, .int .u32 B2, .bool R2, .int .u32 G2] 24)) hb5 (Nat.le_refl _); have h5 := b5.size; clear hb5 hm5 hf5 hg5; refine Hid.out ?_))
  refine Lib.hid ?_
  repeat' (first | (with_reducible refine then_normal ?_) | (with_reducible refine wp_exit ?_) | (with_reducible refine wp_ret ?_) | (with_reducible refine then_exit ?_) | (with_reducible refine blk_hit ?_) | (with_reducible refine blk_pass (by decide) ?_) | (with_reducible refine then_ret ?_) | (with_reducible refine blk_ret ?_) | (with_reducible refine blk_normal ?_) | go_values | go_skip | go_guarded | go_step | go_upon | (simp only [Int.not_lt, Int.not_le] at *; go_simp) | (go_values <;> (try go_simp)) | (go_ite <;> go_prune <;> (try go_simp)))
  subst el
  obtain ⟨W, hW⟩ : ∃ W, w5.alloc (.cells #[.int .u32 F2, .int .u32 L2, .bool P2, .int .u32 B2, .bool R2, .int .u32 G2] 24) = W := ⟨_, rfl⟩
  have Z0 : InN W w.heap.size F1 L1 P1 B1 R1 G1 := by rw [← hW]; exact X5.alloc _
  have Z1 : InN W w4.heap.size F2 L2 P2 B2 R2 G2 := by rw [← hW]; exact XX5.alloc _
  have Z2 : InN W w5.heap.size F2 L2 P2 B2 R2 G2 := by rw [← hW]; exact InN.new _ _ _ _ _ _ _ _
  have HQ1 := Lib.hid (show Mem W A4 N c4 l4 by rw [← hW]; exact HM45.out.on ((Below.refl _ _).alloc (Nat.le_refl _) _))
  have HQ2 := Lib.hid (show Mem W A5 N c5 l4 by rw [← hW]; exact HM5.out.on ((Below.refl _ _).alloc (Nat.le_refl _) _))
  have HBW : Hid (Below w.heap.size w W) := by rw [← hW]; exact Lib.hid (b5.alloc h5 _)
  have HP1 := Lib.hid (fun W => ncPend_any F1 L1 P1 B1 R1 G1 W)
  have HP2 := Lib.hid (fun W => ncPend_ref F1 L1 P1 B1 R1 G1 W)
  have HY1 := Lib.hid (fun W => ncMay_any F1 L1 P1 B1 R1 G1 y W b10 b11 g10 g11)
  have HY2 := Lib.hid (fun W => ncMay_ref F1 L1 P1 B1 R1 G1 y b10 b11 g10 W)
  unfold ncV at HP1 HP2 HY1 HY2
  rw [hW]
  clear hW HM45 HM5 HM4 HF4 HG4 HMB HM3 HOW2 X5 XX5 X4 b4 b5 b2 HO1 HR1 HS HWD
  clear a0 a1 a2 a3 a4 a5 az p0 p1 p2 p3 p4 p5 pz q0 q1 q2 q3 q4 q5 qz
  generalize ncMay P1 B1 R1 G1 y = my at *
  generalize w4.heap.size = g1 at *
  generalize w5.heap.size = g2 at *
  obtain ⟨g0, hg0⟩ : ∃ g, w.heap.size = g := ⟨_, rfl⟩
  rw [hg0] at Z0
  try rw [hg0]
  have bb : Below W.heap.size W W.drew := (Below.refl _ _).drew
  go_region_held3 (fun w' => w'.cell? ⟨g0, 0, none⟩ = some (.int .u32 F1) ∧ w'.cell? ⟨g0, 1, none⟩ = some (.int .u32 L1) ∧ w'.cell? ⟨g0, 2, none⟩ = some (.bool P1) ∧ w'.cell? ⟨g0, 3, none⟩ = some (.int .u32 B1) ∧ w'.cell? ⟨g0, 4, none⟩ = some (.bool R1) ∧ w'.cell? ⟨g0, 5, none⟩ = some (.int .u32 G1) ∧ w'.cell? ⟨g1, 0, none⟩ = some (.int .u32 F2) ∧ w'.cell? ⟨g1, 1, none⟩ = some (.int .u32 L2) ∧ w'.cell? ⟨g1, 2, none⟩ = some (.bool P2) ∧ w'.cell? ⟨g1, 3, none⟩ = some (.int .u32 B2) ∧ w'.cell? ⟨g1, 4, none⟩ = some (.bool R2) ∧ w'.cell? ⟨g1, 5, none⟩ = some (.int .u32 G2) ∧ w'.cell? ⟨g2, 0, none⟩ = some (.int .u32 F2) ∧ w'.cell? ⟨g2, 1, none⟩ = some (.int .u32 L2) ∧ w'.cell? ⟨g2, 2, none⟩ = some (.bool P2) ∧ w'.cell? ⟨g2, 3, none⟩ = some (.int .u32 B2) ∧ w'.cell? ⟨g2, 4, none⟩ = some (.bool R2) ∧ w'.cell? ⟨g2, 5, none⟩ = some (.int .u32 G2)) (first | exact ⟨stillI Z0.c0 bb, stillI Z0.c1 bb, stillI Z0.c2 bb, stillI Z0.c3 bb, stillI Z0.c4 bb, stillI Z0.c5 bb, stillI Z1.c0 bb, stillI Z1.c1 bb, stillI Z1.c2 bb, stillI Z1.c3 bb, stillI Z1.c4 bb, stillI Z1.c5 bb, stillI Z2.c0 bb, stillI Z2.c1 bb, stillI Z2.c2 bb, stillI Z2.c3 bb, stillI Z2.c4 bb, stillI Z2.c5 bb⟩ | go_keep) (first
    | (go_at_call 21; refine (same_refl A4 A5 N c4 c5 l4 _ (HQ1.out.on bb) (HQ2.out.on bb)).mono ?_; rintro e wx ⟨rfl, mx, rfl⟩; replace bb : Below W.heap.size W (W.drewN (1 + mx)) := below_drewN (Below.refl _ _) _)
    | (go_at_call 22; refine (HP1.out _).mono ?_; rintro e wx ⟨rfl, hbx⟩; replace bb := below_stepI bb hbx (Nat.le_refl _))
    | (go_at_call 23; refine (HP2.out _).mono ?_; rintro e wx ⟨rfl, hbx⟩; replace bb := below_stepI bb hbx (Nat.le_refl _))
    | (go_at_call 24; refine (HY1.out _).mono ?_; rintro e wx ⟨rfl, hbx⟩; replace bb := below_stepI bb hbx (Nat.le_refl _))
    | (go_at_call 25; refine (HY2.out _).mono ?_; rintro e wx ⟨rfl, hbx⟩; replace bb := below_stepI bb hbx (Nat.le_refl _))
    | (go_at_call 16; refine (HAW.out _).mono ?_; rintro e wx ⟨rfl, hbx⟩; replace bb := below_stepI bb hbx (Nat.le_refl _)))
  go_wp2
  go_ret
  exact ⟨rfl, below_stepI HBW.out bb (Nat.le_refl _)⟩
end Go.Proofs.Ytkilbakghacooaa
