import Derived.Test.YtkilbakghacooaaNcAwk
namespace Go.Proofs.Ytkilbakghacooaa
set_option linter.unusedVariables false
set_option linter.unusedSimpArgs false
set_option maxRecDepth 20000
open Go.ChangeShapes Go.WideShapes Go.ChangeAt Go.RowKit Go.Proofs.Ytkilbakghacooaa.Num Go.Proofs.Ytkilbakghacooaa.Mem
set_option maxHeartbeats 4000000 in
theorem nports_false (F L : Int) (P : Bool) (B : Int) (R : Bool) (G : Int) (raw : Bool) (x y p v at' : Int) (w : World) (F0 : 0 ≤ F) (F1 : F ≤ 4294967295) (L0 : 0 ≤ L) (L1 : L ≤ 4294967295) (b0 : 0 ≤ B) (b1 : B ≤ 4294967295) (g0 : 0 ≤ G) (g1 : G ≤ 4294967295) (x0 : -9223372036854775808 ≤ x) (x1 : x ≤ 9223372036854775807) (y0 : -9223372036854775808 ≤ y) (y1 : y ≤ 9223372036854775807) (p0 : -9223372036854775808 ≤ p) (p1 : p ≤ 9223372036854775807) (v0 : 0 ≤ v) (v1 : v ≤ 4294967295) :
    Calls Try.prog 3 #[ncV F L P B R G, .bool raw, .int .i64 x, .int .i64 y, .int .i64 p, .int .u32 v, .bool false, .int .u64 at'] w fun e w' => e = .returned (.bool true) ∧ Below w.heap.size w w' := by
  have HS := Lib.hid (fun W => shapedN_any F L P B R G raw x W x0 x1 F0 F1 L0 L1 b0 b1 g0 g1)
  obtain ⟨r, hr⟩ : ∃ r : Nat, y % 6 = r := ⟨(y % 6).toNat, by omega⟩
  have hr5 : r ≤ 5 := by omega
  obtain ⟨N, HN⟩ : ∃ N, Hid (N = 32 * (1 + r)) := ⟨_, rfl⟩
  have HWD := Lib.hid (fun W => words_any x y r W x0 x1 y0 y1 hr)
  unfold WordsPost at HWD
  rw [← HN.out] at HWD
  have HAW := Lib.hid awake10
  unfold ShnPost ncV at HS
  unfold ncV
  clear F0 F1 L0 L1 b0 b1 g0 g1 x0 x1 y0 y1 p0 p1 hr
  go_enter Try.func3, Try.ntmps3
  go_wp2_with (first
    | go_skip
    | (go_at_call 8; (with_reducible refine (HS.out _).mono ?_); rintro e w1 ⟨⟨F1, L1, P1, B1, R1, G1, rfl, f10, f11, l10, l11, b10, b11, g10, g11⟩, hb1⟩; have X1 : InN w1 w.heap.size F L P B R G := InN.on ⟨by simp [go_sem], by simp [go_sem], by simp [go_sem], by simp [go_sem], by simp [go_sem], by simp [go_sem], fun i => by simp [go_sem]⟩ hb1; have b1 : Below w.heap.size w w1 := Below.trans (by (repeat' (first | with_reducible exact Below.refl _ _ | with_reducible assumption | with_reducible apply below_drewN | with_reducible apply Below.drew | with_reducible apply Below.setCell | with_reducible apply Below.alloc | (simp; done) | omega | (simp; omega)))) (hb1.mono (by first | omega | (simp <;> omega))); clear hb1; have l1 := X1.lt; obtain ⟨a0, a1, a2, a3, a4, a5, az⟩ := X1; have z0 := az 0; have z1 := az 1; have z2 := az 2; have z3 := az 3; have z4 := az 4; have z5 := az 5)
    | (go_at_call 9; (with_reducible refine (HWD.out _).mono ?_); rintro e w2 ⟨⟨g, c, l, rfl, hg, hc, hl, hu, hown⟩, hb2⟩; have X2 : InN w2 w.heap.size F1 L1 P1 B1 R1 G1 := InN.on ⟨by simp [go_sem, a0, a1, a2, a3, a4, a5, az], by simp [go_sem, a0, a1, a2, a3, a4, a5, az], by simp [go_sem, a0, a1, a2, a3, a4, a5, az], by simp [go_sem, a0, a1, a2, a3, a4, a5, az], by simp [go_sem, a0, a1, a2, a3, a4, a5, az], by simp [go_sem, a0, a1, a2, a3, a4, a5, az], fun i => by simp [go_sem, a0, a1, a2, a3, a4, a5, az]⟩ hb2; have b2 : Below w.heap.size w w2 := Below.trans (by (repeat' (first | with_reducible exact Below.refl _ _ | with_reducible assumption | with_reducible apply below_drewN | with_reducible apply Below.drew | with_reducible apply Below.setCell | with_reducible apply Below.alloc | (simp; done) | omega | (simp; omega)))) (hb2.mono (by first | omega | (simp <;> omega))); clear hb2 b1 az a0 a1 a2 a3 a4 a5 z0 z1 z2 z3 z4 z5; have HM2 := Lib.hid (hown.mem hl hc (by have := HN.out; omega) hu); have HOW2 := Lib.hid hown; have l2 := X2.lt; have h2 := b2.size; have X2' := X2; obtain ⟨a0, a1, a2, a3, a4, a5, az⟩ := X2'; obtain ⟨F2, L2, P2, B2, R2, G2, o, HOB, _, _, _, _, _⟩ := nut_both N l F1 L1 P1 B1 R1 G1 p v at' f10 f11 l10 l11 b10 b11 g10 g11; unfold NutB NutPost ncV at HOB; have HO1 := Lib.hid HOB.1; have HO2 := Lib.hid HOB.2; clear HOB hl hc hu hown hg)
    | (go_at_call 11; (with_reducible refine (HO1.out _ _ _ (HM2.out.on (by (repeat' (first | with_reducible exact Below.refl _ _ | with_reducible assumption | with_reducible apply below_drewN | with_reducible apply Below.drew | with_reducible apply Below.setCell | with_reducible apply Below.alloc | (simp; done) | omega | (simp; omega)))))).mono ?_); rintro e w3 ⟨⟨sl3, rfl, ho3⟩, hb3⟩; have X3 := X2.on hb3; have HO3 := Lib.hid ho3; have b3 : Below w.heap.size w w3 := below_stepI b2 hb3 (Nat.le_refl _); have hm3 := HM2.out.on hb3; have HM3 := Lib.hid (hm3.on ((Below.refl _ _).alloc (Nat.le_refl _) (.cells #[.int .u32 F2, .int .u32 L2, .bool P2, .int .u32 B2, .bool R2, .int .u32 G2] 24))); have h3 := b3.size; clear ho3 hb3 hm3; have l3 := X3.lt; have n3 : ¬ w3.heap.size = w.heap.size := (by omega); have n3' : ¬ w.heap.size = w3.heap.size := (by omega); obtain ⟨p0, p1, p2, p3, p4, p5, pz⟩ := X3.alloc (.cells #[.int .u32 F2, .int .u32 L2, .bool P2, .int .u32 B2, .bool R2, .int .u32 G2] 24); have Y3 := X3; obtain ⟨q0, q1, q2, q3, q4, q5, qz⟩ := Y3)
    | (go_at_call 12; (with_reducible refine (HO2.out _ _ _ HM3.out).mono ?_); rintro e w4 ⟨⟨sl4, rfl, ho4⟩, hb4⟩; have X4 := (X3.alloc (.cells #[.int .u32 F2, .int .u32 L2, .bool P2, .int .u32 B2, .bool R2, .int .u32 G2] 24)).on hb4; have XX4 : InN w4 w3.heap.size F2 L2 P2 B2 R2 G2 := (InN.new _ _ _ _ _ _ _ _).on hb4; have HO4 := Lib.hid ho4; have HOO3 := Lib.hid ((HO3.out.on ((Below.refl _ _).alloc (Nat.le_refl _) (.cells #[.int .u32 F2, .int .u32 L2, .bool P2, .int .u32 B2, .bool R2, .int .u32 G2] 24))).on hb4); have b4 : Below w.heap.size w w4 := below_stepI (b3.alloc h3 (.cells #[.int .u32 F2, .int .u32 L2, .bool P2, .int .u32 B2, .bool R2, .int .u32 G2] 24)) hb4 (Nat.le_refl _); have h4 := b4.size; clear ho4 hb4; refine Hid.out ?_))
  refine Lib.hid ?_
  repeat' (first | (with_reducible refine then_normal ?_) | (with_reducible refine wp_exit ?_) | (with_reducible refine wp_ret ?_) | (with_reducible refine then_exit ?_) | (with_reducible refine blk_hit ?_) | (with_reducible refine blk_pass (by decide) ?_) | (with_reducible refine then_ret ?_) | (with_reducible refine blk_ret ?_) | (with_reducible refine blk_normal ?_) | go_values | go_skip | go_guarded | go_step | go_upon | (simp only [Int.not_lt, Int.not_le] at *; go_simp) | (go_values <;> (try go_simp)) | (go_ite <;> go_prune <;> (try go_simp)))
  obtain ⟨W, hW⟩ : ∃ W, w4.alloc (.cells #[.int .u32 F2, .int .u32 L2, .bool P2, .int .u32 B2, .bool R2, .int .u32 G2] 24) = W := ⟨_, rfl⟩
  have Z0 : InN W w.heap.size F1 L1 P1 B1 R1 G1 := by rw [← hW]; exact X4.alloc _
  have Z1 : InN W w3.heap.size F2 L2 P2 B2 R2 G2 := by rw [← hW]; exact XX4.alloc _
  have Z2 : InN W w4.heap.size F2 L2 P2 B2 R2 G2 := by rw [← hW]; exact InN.new _ _ _ _ _ _ _ _
  have HQ1 := Lib.hid (show Outs _ W sl3 o by rw [← hW]; exact HOO3.out.on ((Below.refl _ _).alloc (Nat.le_refl _) _))
  have HQ2 := Lib.hid (show Outs _ W sl4 o by rw [← hW]; exact HO4.out.on ((Below.refl _ _).alloc (Nat.le_refl _) _))
  have HBW : Hid (Below w.heap.size w W) := by rw [← hW]; exact Lib.hid (b4.alloc h4 _)
  have HI1 := Lib.hid (fun W => ncIn_any F1 L1 P1 B1 R1 G1 p W)
  have HI2 := Lib.hid (fun W => ncIn_ref F1 L1 P1 B1 R1 G1 p W)
  unfold ncV at HI1 HI2
  rw [hW]
  clear hW HOO3 HO3 HO4 X4 XX4 X3 X2 HM2 HOW2 HM3 b2 b3 b4 HO1 HO2 HS HWD
  clear a0 a1 a2 a3 a4 a5 az p0 p1 p2 p3 p4 p5 pz q0 q1 q2 q3 q4 q5 qz
  generalize ncIn F1 P1 R1 G1 p = ri at *
  generalize w3.heap.size = g1 at *
  generalize w4.heap.size = g2 at *
  obtain ⟨g0, hg0⟩ : ∃ g, w.heap.size = g := ⟨_, rfl⟩
  rw [hg0] at Z0
  try rw [hg0]
  have bb : Below W.heap.size W W.drew := (Below.refl _ _).drew
  go_region_held3 (fun w' => w'.cell? ⟨g0, 0, none⟩ = some (.int .u32 F1) ∧ w'.cell? ⟨g0, 1, none⟩ = some (.int .u32 L1) ∧ w'.cell? ⟨g0, 2, none⟩ = some (.bool P1) ∧ w'.cell? ⟨g0, 3, none⟩ = some (.int .u32 B1) ∧ w'.cell? ⟨g0, 4, none⟩ = some (.bool R1) ∧ w'.cell? ⟨g0, 5, none⟩ = some (.int .u32 G1) ∧ w'.cell? ⟨g1, 0, none⟩ = some (.int .u32 F2) ∧ w'.cell? ⟨g1, 1, none⟩ = some (.int .u32 L2) ∧ w'.cell? ⟨g1, 2, none⟩ = some (.bool P2) ∧ w'.cell? ⟨g1, 3, none⟩ = some (.int .u32 B2) ∧ w'.cell? ⟨g1, 4, none⟩ = some (.bool R2) ∧ w'.cell? ⟨g1, 5, none⟩ = some (.int .u32 G2) ∧ w'.cell? ⟨g2, 0, none⟩ = some (.int .u32 F2) ∧ w'.cell? ⟨g2, 1, none⟩ = some (.int .u32 L2) ∧ w'.cell? ⟨g2, 2, none⟩ = some (.bool P2) ∧ w'.cell? ⟨g2, 3, none⟩ = some (.int .u32 B2) ∧ w'.cell? ⟨g2, 4, none⟩ = some (.bool R2) ∧ w'.cell? ⟨g2, 5, none⟩ = some (.int .u32 G2)) (first | exact ⟨stillI Z0.c0 bb, stillI Z0.c1 bb, stillI Z0.c2 bb, stillI Z0.c3 bb, stillI Z0.c4 bb, stillI Z0.c5 bb, stillI Z1.c0 bb, stillI Z1.c1 bb, stillI Z1.c2 bb, stillI Z1.c3 bb, stillI Z1.c4 bb, stillI Z1.c5 bb, stillI Z2.c0 bb, stillI Z2.c1 bb, stillI Z2.c2 bb, stillI Z2.c3 bb, stillI Z2.c4 bb, stillI Z2.c5 bb⟩ | go_keep) (first
    | (go_at_call 13; refine (HI1.out _).mono ?_; rintro e wx ⟨rfl, hbx⟩; replace bb := below_stepI bb hbx (Nat.le_refl _))
    | (go_at_call 14; refine (HI2.out _).mono ?_; rintro e wx ⟨rfl, hbx⟩; replace bb := below_stepI bb hbx (Nat.le_refl _))
    | (go_at_call 15; refine (sameOut_any sl3 sl4 o _ _ _ (HQ1.out.on bb) (HQ2.out.on bb)).mono ?_; rintro e wx ⟨rfl, mx, rfl⟩; replace bb := below_drewN bb mx)
    | (go_at_call 16; refine (HAW.out _).mono ?_; rintro e wx ⟨rfl, hbx⟩; replace bb := below_stepI bb hbx (Nat.le_refl _)))
  go_wp2
  go_ret
  exact ⟨rfl, below_stepI HBW.out bb (Nat.le_refl _)⟩
set_option maxHeartbeats 4000000 in
theorem nports_true (F L : Int) (P : Bool) (B : Int) (R : Bool) (G : Int) (raw : Bool) (x y p v at' : Int) (w : World) (F0 : 0 ≤ F) (F1 : F ≤ 4294967295) (L0 : 0 ≤ L) (L1 : L ≤ 4294967295) (b0 : 0 ≤ B) (b1 : B ≤ 4294967295) (g0 : 0 ≤ G) (g1 : G ≤ 4294967295) (x0 : -9223372036854775808 ≤ x) (x1 : x ≤ 9223372036854775807) (y0 : -9223372036854775808 ≤ y) (y1 : y ≤ 9223372036854775807) (p0 : -9223372036854775808 ≤ p) (p1 : p ≤ 9223372036854775807) (v0 : 0 ≤ v) (v1 : v ≤ 4294967295) :
    Calls Try.prog 3 #[ncV F L P B R G, .bool raw, .int .i64 x, .int .i64 y, .int .i64 p, .int .u32 v, .bool true, .int .u64 at'] w fun e w' => e = .returned (.bool true) ∧ Below w.heap.size w w' := by
  have HS := Lib.hid (fun W => shapedN_any F L P B R G raw x W x0 x1 F0 F1 L0 L1 b0 b1 g0 g1)
  obtain ⟨r, hr⟩ : ∃ r : Nat, y % 6 = r := ⟨(y % 6).toNat, by omega⟩
  have hr5 : r ≤ 5 := by omega
  obtain ⟨N, HN⟩ : ∃ N, Hid (N = 32 * (1 + r)) := ⟨_, rfl⟩
  have HWD := Lib.hid (fun W => words_any x y r W x0 x1 y0 y1 hr)
  unfold WordsPost at HWD
  rw [← HN.out] at HWD
  have HAW := Lib.hid awake10
  have HR := Lib.hid (fun W => round_any p 5 W (by omega) (by omega) p0 p1)
  obtain ⟨q, hq⟩ : ∃ q, p % 5 = q := ⟨_, rfl⟩
  have q0 : 0 ≤ q := by omega
  have q1 : q ≤ 4 := by omega
  rw [hq] at HR
  clear hq
  unfold ShnPost ncV at HS
  unfold ncV
  clear F0 F1 L0 L1 b0 b1 g0 g1 x0 x1 y0 y1 p0 p1 hr
  go_enter Try.func3, Try.ntmps3
  go_wp2_with (first
    | go_skip
    | (go_at_call 10; (with_reducible refine (HR.out _).mono ?_); rintro e wr ⟨rfl, rfl⟩)
    | (go_at_call 8; (with_reducible refine (HS.out _).mono ?_); rintro e w1 ⟨⟨F1, L1, P1, B1, R1, G1, rfl, f10, f11, l10, l11, b10, b11, g10, g11⟩, hb1⟩; have X1 : InN w1 w.heap.size F L P B R G := InN.on ⟨by simp [go_sem], by simp [go_sem], by simp [go_sem], by simp [go_sem], by simp [go_sem], by simp [go_sem], fun i => by simp [go_sem]⟩ hb1; have b1 : Below w.heap.size w w1 := Below.trans (by (repeat' (first | with_reducible exact Below.refl _ _ | with_reducible assumption | with_reducible apply below_drewN | with_reducible apply Below.drew | with_reducible apply Below.setCell | with_reducible apply Below.alloc | (simp; done) | omega | (simp; omega)))) (hb1.mono (by first | omega | (simp <;> omega))); clear hb1; have l1 := X1.lt; obtain ⟨a0, a1, a2, a3, a4, a5, az⟩ := X1; have z0 := az 0; have z1 := az 1; have z2 := az 2; have z3 := az 3; have z4 := az 4; have z5 := az 5)
    | (go_at_call 9; (with_reducible refine (HWD.out _).mono ?_); rintro e w2 ⟨⟨g, c, l, rfl, hg, hc, hl, hu, hown⟩, hb2⟩; have X2 : InN w2 w.heap.size F1 L1 P1 B1 R1 G1 := InN.on ⟨by simp [go_sem, a0, a1, a2, a3, a4, a5, az], by simp [go_sem, a0, a1, a2, a3, a4, a5, az], by simp [go_sem, a0, a1, a2, a3, a4, a5, az], by simp [go_sem, a0, a1, a2, a3, a4, a5, az], by simp [go_sem, a0, a1, a2, a3, a4, a5, az], by simp [go_sem, a0, a1, a2, a3, a4, a5, az], fun i => by simp [go_sem, a0, a1, a2, a3, a4, a5, az]⟩ hb2; have b2 : Below w.heap.size w w2 := Below.trans (by (repeat' (first | with_reducible exact Below.refl _ _ | with_reducible assumption | with_reducible apply below_drewN | with_reducible apply Below.drew | with_reducible apply Below.setCell | with_reducible apply Below.alloc | (simp; done) | omega | (simp; omega)))) (hb2.mono (by first | omega | (simp <;> omega))); clear hb2 b1 az a0 a1 a2 a3 a4 a5 z0 z1 z2 z3 z4 z5; have HM2 := Lib.hid (hown.mem hl hc (by have := HN.out; omega) hu); have HOW2 := Lib.hid hown; have l2 := X2.lt; have h2 := b2.size; have X2' := X2; obtain ⟨a0, a1, a2, a3, a4, a5, az⟩ := X2'; obtain ⟨F2, L2, P2, B2, R2, G2, o, HOB, _, _, _, _, _⟩ := nut_both N l F1 L1 P1 B1 R1 G1 (6 + q) (v % 5) at' f10 f11 l10 l11 b10 b11 g10 g11; unfold NutB NutPost ncV at HOB; have HO1 := Lib.hid HOB.1; have HO2 := Lib.hid HOB.2; clear HOB hl hc hu hown hg)
    | (go_at_call 11; (with_reducible refine (HO1.out _ _ _ (HM2.out.on (by (repeat' (first | with_reducible exact Below.refl _ _ | with_reducible assumption | with_reducible apply below_drewN | with_reducible apply Below.drew | with_reducible apply Below.setCell | with_reducible apply Below.alloc | (simp; done) | omega | (simp; omega)))))).mono ?_); rintro e w3 ⟨⟨sl3, rfl, ho3⟩, hb3⟩; have X3 := X2.on hb3; have HO3 := Lib.hid ho3; have b3 : Below w.heap.size w w3 := below_stepI b2 hb3 (Nat.le_refl _); have hm3 := HM2.out.on hb3; have HM3 := Lib.hid (hm3.on ((Below.refl _ _).alloc (Nat.le_refl _) (.cells #[.int .u32 F2, .int .u32 L2, .bool P2, .int .u32 B2, .bool R2, .int .u32 G2] 24))); have h3 := b3.size; clear ho3 hb3 hm3; have l3 := X3.lt; have n3 : ¬ w3.heap.size = w.heap.size := (by omega); have n3' : ¬ w.heap.size = w3.heap.size := (by omega); obtain ⟨p0, p1, p2, p3, p4, p5, pz⟩ := X3.alloc (.cells #[.int .u32 F2, .int .u32 L2, .bool P2, .int .u32 B2, .bool R2, .int .u32 G2] 24); have Y3 := X3; obtain ⟨q0, q1, q2, q3, q4, q5, qz⟩ := Y3)
    | (go_at_call 12; (with_reducible refine (HO2.out _ _ _ HM3.out).mono ?_); rintro e w4 ⟨⟨sl4, rfl, ho4⟩, hb4⟩; have X4 := (X3.alloc (.cells #[.int .u32 F2, .int .u32 L2, .bool P2, .int .u32 B2, .bool R2, .int .u32 G2] 24)).on hb4; have XX4 : InN w4 w3.heap.size F2 L2 P2 B2 R2 G2 := (InN.new _ _ _ _ _ _ _ _).on hb4; have HO4 := Lib.hid ho4; have HOO3 := Lib.hid ((HO3.out.on ((Below.refl _ _).alloc (Nat.le_refl _) (.cells #[.int .u32 F2, .int .u32 L2, .bool P2, .int .u32 B2, .bool R2, .int .u32 G2] 24))).on hb4); have b4 : Below w.heap.size w w4 := below_stepI (b3.alloc h3 (.cells #[.int .u32 F2, .int .u32 L2, .bool P2, .int .u32 B2, .bool R2, .int .u32 G2] 24)) hb4 (Nat.le_refl _); have h4 := b4.size; clear ho4 hb4; refine Hid.out ?_))
  refine Lib.hid ?_
  repeat' (first | (with_reducible refine then_normal ?_) | (with_reducible refine wp_exit ?_) | (with_reducible refine wp_ret ?_) | (with_reducible refine then_exit ?_) | (with_reducible refine blk_hit ?_) | (with_reducible refine blk_pass (by decide) ?_) | (with_reducible refine then_ret ?_) | (with_reducible refine blk_ret ?_) | (with_reducible refine blk_normal ?_) | go_values | go_skip | go_guarded | go_step | go_upon | (simp only [Int.not_lt, Int.not_le] at *; go_simp) | (go_values <;> (try go_simp)) | (go_ite <;> go_prune <;> (try go_simp)))
  obtain ⟨W, hW⟩ : ∃ W, w4.alloc (.cells #[.int .u32 F2, .int .u32 L2, .bool P2, .int .u32 B2, .bool R2, .int .u32 G2] 24) = W := ⟨_, rfl⟩
  have Z0 : InN W w.heap.size F1 L1 P1 B1 R1 G1 := by rw [← hW]; exact X4.alloc _
  have Z1 : InN W w3.heap.size F2 L2 P2 B2 R2 G2 := by rw [← hW]; exact XX4.alloc _
  have Z2 : InN W w4.heap.size F2 L2 P2 B2 R2 G2 := by rw [← hW]; exact InN.new _ _ _ _ _ _ _ _
  have HQ1 := Lib.hid (show Outs _ W sl3 o by rw [← hW]; exact HOO3.out.on ((Below.refl _ _).alloc (Nat.le_refl _) _))
  have HQ2 := Lib.hid (show Outs _ W sl4 o by rw [← hW]; exact HO4.out.on ((Below.refl _ _).alloc (Nat.le_refl _) _))
  have HBW : Hid (Below w.heap.size w W) := by rw [← hW]; exact Lib.hid (b4.alloc h4 _)
  have HI1 := Lib.hid (fun W => ncIn_any F1 L1 P1 B1 R1 G1 (6 + q) W)
  have HI2 := Lib.hid (fun W => ncIn_ref F1 L1 P1 B1 R1 G1 (6 + q) W)
  unfold ncV at HI1 HI2
  rw [hW]
  clear hW HOO3 HO3 HO4 X4 XX4 X3 X2 HM2 HOW2 HM3 b2 b3 b4 HO1 HO2 HS HWD
  clear a0 a1 a2 a3 a4 a5 az p0 p1 p2 p3 p4 p5 pz q0 q1 q2 q3 q4 q5 qz
  generalize ncIn F1 P1 R1 G1 (6 + q) = ri at *
  generalize w3.heap.size = g1 at *
  generalize w4.heap.size = g2 at *
  obtain ⟨g0, hg0⟩ : ∃ g, w.heap.size = g := ⟨_, rfl⟩
  rw [hg0] at Z0
  try rw [hg0]
  have bb : Below W.heap.size W W.drew := (Below.refl _ _).drew
  go_region_held3 (fun w' => w'.cell? ⟨g0, 0, none⟩ = some (.int .u32 F1) ∧ w'.cell? ⟨g0, 1, none⟩ = some (.int .u32 L1) ∧ w'.cell? ⟨g0, 2, none⟩ = some (.bool P1) ∧ w'.cell? ⟨g0, 3, none⟩ = some (.int .u32 B1) ∧ w'.cell? ⟨g0, 4, none⟩ = some (.bool R1) ∧ w'.cell? ⟨g0, 5, none⟩ = some (.int .u32 G1) ∧ w'.cell? ⟨g1, 0, none⟩ = some (.int .u32 F2) ∧ w'.cell? ⟨g1, 1, none⟩ = some (.int .u32 L2) ∧ w'.cell? ⟨g1, 2, none⟩ = some (.bool P2) ∧ w'.cell? ⟨g1, 3, none⟩ = some (.int .u32 B2) ∧ w'.cell? ⟨g1, 4, none⟩ = some (.bool R2) ∧ w'.cell? ⟨g1, 5, none⟩ = some (.int .u32 G2) ∧ w'.cell? ⟨g2, 0, none⟩ = some (.int .u32 F2) ∧ w'.cell? ⟨g2, 1, none⟩ = some (.int .u32 L2) ∧ w'.cell? ⟨g2, 2, none⟩ = some (.bool P2) ∧ w'.cell? ⟨g2, 3, none⟩ = some (.int .u32 B2) ∧ w'.cell? ⟨g2, 4, none⟩ = some (.bool R2) ∧ w'.cell? ⟨g2, 5, none⟩ = some (.int .u32 G2)) (first | exact ⟨stillI Z0.c0 bb, stillI Z0.c1 bb, stillI Z0.c2 bb, stillI Z0.c3 bb, stillI Z0.c4 bb, stillI Z0.c5 bb, stillI Z1.c0 bb, stillI Z1.c1 bb, stillI Z1.c2 bb, stillI Z1.c3 bb, stillI Z1.c4 bb, stillI Z1.c5 bb, stillI Z2.c0 bb, stillI Z2.c1 bb, stillI Z2.c2 bb, stillI Z2.c3 bb, stillI Z2.c4 bb, stillI Z2.c5 bb⟩ | go_keep) (first
    | (go_at_call 13; refine (HI1.out _).mono ?_; rintro e wx ⟨rfl, hbx⟩; replace bb := below_stepI bb hbx (Nat.le_refl _))
    | (go_at_call 14; refine (HI2.out _).mono ?_; rintro e wx ⟨rfl, hbx⟩; replace bb := below_stepI bb hbx (Nat.le_refl _))
    | (go_at_call 15; refine (sameOut_any sl3 sl4 o _ _ _ (HQ1.out.on bb) (HQ2.out.on bb)).mono ?_; rintro e wx ⟨rfl, mx, rfl⟩; replace bb := below_drewN bb mx)
    | (go_at_call 16; refine (HAW.out _).mono ?_; rintro e wx ⟨rfl, hbx⟩; replace bb := below_stepI bb hbx (Nat.le_refl _)))
  go_wp2
  go_ret
  exact ⟨rfl, below_stepI HBW.out bb (Nat.le_refl _)⟩
end Go.Proofs.Ytkilbakghacooaa
