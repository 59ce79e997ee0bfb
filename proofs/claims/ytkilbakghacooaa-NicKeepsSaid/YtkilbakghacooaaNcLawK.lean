import Derived.Test.YtkilbakghacooaaNcSix
namespace Go.Proofs.Ytkilbakghacooaa
set_option linter.unusedVariables false
set_option linter.unusedSimpArgs false
set_option maxRecDepth 20000
open Go.ChangeShapes Go.WideShapes Go.ChangeAt Go.RowKit Go.Proofs.Ytkilbakghacooaa.Num Go.Proofs.Ytkilbakghacooaa.Mem
set_option maxHeartbeats 4000000 in
theorem nkeeps_walk (F L : Int) (P : Bool) (B : Int) (R : Bool) (G : Int) (raw : Bool) (x y p v : Int) (w : World) (F0 : 0 ≤ F) (F1 : F ≤ 4294967295) (L0 : 0 ≤ L) (L1 : L ≤ 4294967295) (b0 : 0 ≤ B) (b1 : B ≤ 4294967295) (g0 : 0 ≤ G) (g1 : G ≤ 4294967295) (x0 : -9223372036854775808 ≤ x) (x1 : x ≤ 9223372036854775807) (y0 : -9223372036854775808 ≤ y) (y1 : y ≤ 9223372036854775807) (p0 : -9223372036854775808 ≤ p) (p1 : p ≤ 9223372036854775807) (v0 : 0 ≤ v) (v1 : v ≤ 4294967295) :
    Calls Try.prog 5 #[ncV F L P B R G, .bool raw, .int .i64 x, .int .i64 y, .int .i64 p, .int .u32 v] w fun e w' => e = .returned (.bool true) ∧ Below w.heap.size w w' := by
  have HS := Lib.hid (fun W => shapedN_any F L P B R G raw x W x0 x1 F0 F1 L0 L1 b0 b1 g0 g1)
  obtain ⟨r, hr⟩ : ∃ r : Nat, y % 6 = r := ⟨(y % 6).toNat, by omega⟩
  have hr5 : r ≤ 5 := by omega
  obtain ⟨N, HN⟩ : ∃ N, Hid (N = 32 * (1 + r)) := ⟨_, rfl⟩
  have HWD := Lib.hid (fun W => words_any x y r W x0 x1 y0 y1 hr)
  unfold WordsPost at HWD
  rw [← HN.out] at HWD
  have HAW := Lib.hid awake10
  have HR := Lib.hid (fun W => round_any p 3 W (by omega) (by omega) p0 p1)
  obtain ⟨q, hq⟩ : ∃ q, p % 3 = q := ⟨_, rfl⟩
  have q0 : 0 ≤ q := by omega
  have q1 : q ≤ 2 := by omega
  rw [hq] at HR
  clear hq
  have HRD := Lib.hid (fun W => round_any x 128 W (by omega) (by omega) x0 x1)
  obtain ⟨j, hj⟩ : ∃ j, x % 128 = j := ⟨_, rfl⟩
  have j0 : 0 ≤ j := by omega
  have j1 : j ≤ 127 := by omega
  rw [hj] at HRD
  obtain ⟨k, hk⟩ : ∃ k : Nat, IntKind.i64.wrap (1 + j) = (k : Int) := ⟨(1 + j).toNat, by rw [IntKind.wrap_i64]; omega⟩
  have hk2 : k ≤ 128 := by rw [IntKind.wrap_i64] at hk; omega
  have HDT := Lib.hid (fun W => dat_any x k W x0 x1 (by omega))
  have hdt := datS_size x k
  rw [← hk] at HDT
  clear hj hk
  generalize datS x k = DT at *
  unfold ShnPost ncV at HS
  unfold ncV
  clear F0 F1 L0 L1 b0 b1 g0 g1 x0 x1 y0 y1 p0 p1 hr
  go_enter Try.func5, Try.ntmps5
  go_wp2_with (first
    | go_skip
    | (go_at_call 8; (with_reducible refine (HS.out _).mono ?_); rintro e w1 ⟨⟨F1, L1, P1, B1, R1, G1, rfl, f10, f11, l10, l11, b10, b11, g10, g11⟩, hb1⟩; have X1 : InN w1 w.heap.size F L P B R G := InN.on ⟨by simp [go_sem], by simp [go_sem], by simp [go_sem], by simp [go_sem], by simp [go_sem], by simp [go_sem], fun i => by simp [go_sem]⟩ hb1; have b1 : Below w.heap.size w w1 := Below.trans (by (repeat' (first | with_reducible exact Below.refl _ _ | with_reducible assumption | with_reducible apply below_drewN | with_reducible apply Below.drew | with_reducible apply Below.setCell | with_reducible apply Below.alloc | (simp; done) | omega | (simp; omega)))) (hb1.mono (by first | omega | (simp <;> omega))); clear hb1; have l1 := X1.lt; obtain ⟨a0, a1, a2, a3, a4, a5, az⟩ := X1; have z0 := az 0; have z1 := az 1; have z2 := az 2; have z3 := az 3; have z4 := az 4; have z5 := az 5)
    | (go_at_call 9; (with_reducible refine (HWD.out _).mono ?_); rintro e w2 ⟨⟨g, c, l, rfl, hg, hc, hl, hu, hown⟩, hb2⟩; have X2 : InN w2 w.heap.size F1 L1 P1 B1 R1 G1 := InN.on ⟨by simp [go_sem, a0, a1, a2, a3, a4, a5, az], by simp [go_sem, a0, a1, a2, a3, a4, a5, az], by simp [go_sem, a0, a1, a2, a3, a4, a5, az], by simp [go_sem, a0, a1, a2, a3, a4, a5, az], by simp [go_sem, a0, a1, a2, a3, a4, a5, az], by simp [go_sem, a0, a1, a2, a3, a4, a5, az], fun i => by simp [go_sem, a0, a1, a2, a3, a4, a5, az]⟩ hb2; have b2 : Below w.heap.size w w2 := Below.trans (by (repeat' (first | with_reducible exact Below.refl _ _ | with_reducible assumption | with_reducible apply below_drewN | with_reducible apply Below.drew | with_reducible apply Below.setCell | with_reducible apply Below.alloc | (simp; done) | omega | (simp; omega)))) (hb2.mono (by first | omega | (simp <;> omega))); clear hb2 b1 az a0 a1 a2 a3 a4 a5 z0 z1 z2 z3 z4 z5; have HM2 := Lib.hid (hown.mem hl hc (by have := HN.out; omega) hu); have HOW2 := Lib.hid hown; have l2 := X2.lt; have h2 := b2.size; have X2' := X2; obtain ⟨a0, a1, a2, a3, a4, a5, az⟩ := X2'; have HLW := Lib.hid hl; have HCW := Lib.hid hc; have HUW := Lib.hid hu; obtain ⟨F2, L2, P2, B2, R2, G2, o, HOB, u20, u21, u22, u23, hmx⟩ := nut_both N l F1 L1 P1 B1 R1 G1 (IntKind.i64.wrap (7 + q)) (v.tmod 4) 0 f10 f11 l10 l11 b10 b11 g10 g11; obtain ⟨F3, L3, P3, B3, R3, G3, ok, rd, ff, HCB, u30, u31, u32, u33, hmy⟩ := rec_both N l F1 L1 P1 B1 R1 G1 DT (by have := HN.out; omega) b10 b11 g10 g11 (by omega); unfold NutB NutPost ncV at HOB; unfold RecB RecPost ncV at HCB; have HO1 := Lib.hid HOB.1; have HC1 := Lib.hid HCB.1; have HMX := Lib.hid hmx; have HMY := Lib.hid hmy; clear HOB HCB hmx hmy hl hc hu hown hg; refine Hid.out ?_))
  refine Lib.hid ?_
  have hN6 : N ≤ 192 := by have := HN.out; omega
  have HPG := Lib.hid (fun W => pages_ref (some ⟨g, 0, none⟩) N c W (by omega))
  have HMD := Lib.hid (fun W => ncMay_any F1 L1 P1 B1 R1 G1 (pagesN N) W b10 b11 g10 g11)
  have HXM := Lib.hid (fun W => ncMay_any F2 L2 P2 B2 R2 G2 (pagesN N) W u20 u21 u22 u23)
  have HYM := Lib.hid (fun W => ncMay_any F3 L3 P3 B3 R3 G3 (pagesN N) W u30 u31 u32 u33)
  unfold ncV at HMD HXM HYM
  have hpn := pagesN_le N
  generalize pagesN N = Q at *
  cases hM : ncMay P1 B1 R1 G1 Q with
  | false =>
    rw [hM] at HMD
    clear hM HMX HMY
    go_wp2_with (first
      | go_skip
      | (go_at_call 26; (with_reducible refine (HPG.out _).mono ?_); rintro e w3 ⟨rfl, m3, rfl⟩)
      | (go_at_call 24; (with_reducible refine (HMD.out _).mono ?_); rintro e w4 ⟨rfl, hb4⟩; have b4 := below_stepI (below_drewN b2 m3) hb4 (Nat.le_refl _))
      | (go_at_call 16; (with_reducible refine (HAW.out _).mono ?_); rintro e w9 ⟨rfl, hb9⟩; have b9 := below_stepI b4 hb9 (Nat.le_refl _)))
    go_ret
    exact ⟨rfl, b9⟩
  | true =>
    rw [hM] at HMD
    rw [HMX.out hM] at HXM
    rw [HMY.out hM] at HYM
    clear hM HMX HMY
    go_wp2_with (first
      | go_skip
      | (go_at_call 26; (with_reducible refine (HPG.out _).mono ?_); rintro e w3 ⟨rfl, m3, rfl⟩)
      | (go_at_call 24; (with_reducible refine (HMD.out _).mono ?_); rintro e w4 ⟨rfl, hb4⟩; have b4 := below_stepI (below_drewN b2 m3) hb4 (Nat.le_refl _); have X4 := (X2.drewN m3).on hb4; have HO4 := Lib.hid ((HOW2.out.drewN m3).on hb4); clear hb4; have h4 := b4.size; have X4' := X4; obtain ⟨q0, q1, q2, q3, q4, q5, qz⟩ := X4'))
    have lx4 := X4.lt
    have n4 : ¬ w4.heap.size = w.heap.size := by omega
    have bb : Below w4.heap.size w4 w4.drew := (Below.refl _ _).drew
    go_region_held3 (fun w' => w'.cell? ⟨w.heap.size, 0, none⟩ = some (.int .u32 F1) ∧ w'.cell? ⟨w.heap.size, 1, none⟩ = some (.int .u32 L1) ∧ w'.cell? ⟨w.heap.size, 2, none⟩ = some (.bool P1) ∧ w'.cell? ⟨w.heap.size, 3, none⟩ = some (.int .u32 B1) ∧ w'.cell? ⟨w.heap.size, 4, none⟩ = some (.bool R1) ∧ w'.cell? ⟨w.heap.size, 5, none⟩ = some (.int .u32 G1)) (first | with_reducible exact ⟨stillI X4.c0 bb, stillI X4.c1 bb, stillI X4.c2 bb, stillI X4.c3 bb, stillI X4.c4 bb, stillI X4.c5 bb⟩ | with_reducible exact ⟨Lib.cell?_alloc_some _ (stillI X4.c0 bb), Lib.cell?_alloc_some _ (stillI X4.c1 bb), Lib.cell?_alloc_some _ (stillI X4.c2 bb), Lib.cell?_alloc_some _ (stillI X4.c3 bb), Lib.cell?_alloc_some _ (stillI X4.c4 bb), Lib.cell?_alloc_some _ (stillI X4.c5 bb)⟩ | with_reducible exact ⟨Lib.cell?_alloc_some _ X4.c0, Lib.cell?_alloc_some _ X4.c1, Lib.cell?_alloc_some _ X4.c2, Lib.cell?_alloc_some _ X4.c3, Lib.cell?_alloc_some _ X4.c4, Lib.cell?_alloc_some _ X4.c5⟩ | with_reducible exact ⟨(far6 _ n4 _ _ _ _ _ _ 0).trans (stillI X4.c0 bb), (far6 _ n4 _ _ _ _ _ _ 1).trans (stillI X4.c1 bb), (far6 _ n4 _ _ _ _ _ _ 2).trans (stillI X4.c2 bb), (far6 _ n4 _ _ _ _ _ _ 3).trans (stillI X4.c3 bb), (far6 _ n4 _ _ _ _ _ _ 4).trans (stillI X4.c4 bb), (far6 _ n4 _ _ _ _ _ _ 5).trans (stillI X4.c5 bb)⟩ | go_keep) (first
      | (go_at_call 10; (with_reducible refine (HR.out _).mono ?_); rintro e wr ⟨rfl, rfl⟩)
      | (go_at_call 11; (with_reducible refine (HO1.out _ _ _ (Own.mem (HO4.out.on bb) HLW.out HCW.out (by omega) HUW.out)).mono ?_); rintro e w5 ⟨⟨sl5, rfl, _⟩, hb5⟩; replace bb := below_stepI bb hb5 (Nat.le_refl _))
      | (go_at_call 11; (with_reducible refine (HO1.out _ _ _ (Own.mem (HO4.out.on (((Below.refl w4.heap.size w4).alloc (Nat.le_refl _) (.cells #[.int .u32 0, .int .u32 0, .bool false, .int .u32 0, .bool false, .int .u32 0] 24)).drew)) HLW.out HCW.out (by omega) HUW.out)).mono ?_); rintro e w5 ⟨⟨sl5, rfl, _⟩, hb5⟩; replace bb := below_stepI (((Below.refl w4.heap.size w4).alloc (Nat.le_refl _) (.cells #[.int .u32 0, .int .u32 0, .bool false, .int .u32 0, .bool false, .int .u32 0] 24)).drew) hb5 (Nat.le_refl _); have X5 : InN w5 w.heap.size F1 L1 P1 B1 R1 G1 := X4.on bb; have Y5 : InN w5 w4.heap.size 0 0 false 0 false 0 := ((InN.new _ _ _ _ _ _ _ _).drew).on hb5; have l5 := Y5.lt; have Y5' := Y5; obtain ⟨y0, y1, y2, y3, y4, y5, yz⟩ := Y5'; have z0 := yz 0; have z1 := yz 1; have z2 := yz 2; have z3 := yz 3; have z4 := yz 4; have z5 := yz 5; obtain ⟨jj0, jj1, j2, j3, j4, j5, jz⟩ := X5))
    all_goals first
      | (obtain ⟨W6, hW⟩ : ∃ W, w5.alloc (.cells #[.int .u32 F2, .int .u32 L2, .bool P2, .int .u32 B2, .bool R2, .int .u32 G2] 24) = W := ⟨_, rfl⟩
         obtain ⟨g6, hg6⟩ : ∃ g, w5.heap.size = g := ⟨_, rfl⟩
         rw [hW, hg6]
         have hw5 : w4.heap.size ≤ w5.heap.size := bb.size
         have X6 : InN W6 w.heap.size F1 L1 P1 B1 R1 G1 := by rw [← hW]; exact (X4.on bb).alloc _
         have Y6 : InN W6 g6 F2 L2 P2 B2 R2 G2 := by rw [← hW, ← hg6]; exact InN.new _ _ _ _ _ _ _ _
         have O6 : Own W6 g l := by rw [← hW]; exact (HO4.out.on bb).on ((Below.refl _ _).alloc (Nat.le_refl _) _)
         have b6 : Below w.heap.size w W6 := by rw [← hW]; exact (below_stepI b4 bb (Nat.le_refl _)).alloc (by omega) _
         have n6 : ¬ g6 = w.heap.size := by omega
         clear hW hg6)
      | (obtain ⟨W6, hW⟩ : ∃ W, ((((((w5.setCell ⟨w4.heap.size, 0, none⟩ (.int .u32 F2)).setCell ⟨w4.heap.size, 1, none⟩ (.int .u32 L2)).setCell ⟨w4.heap.size, 2, none⟩ (.bool P2)).setCell ⟨w4.heap.size, 3, none⟩ (.int .u32 B2)).setCell ⟨w4.heap.size, 4, none⟩ (.bool R2)).setCell ⟨w4.heap.size, 5, none⟩ (.int .u32 G2)) = W := ⟨_, rfl⟩
         obtain ⟨g6, hg6⟩ : ∃ g, w4.heap.size = g := ⟨_, rfl⟩
         rw [hW]
         have X6 : InN W6 w.heap.size F1 L1 P1 B1 R1 G1 := by rw [← hW]; exact (X4.on bb).far6 n4 _ _ _ _ _ _
         have Y6 : InN W6 g6 F2 L2 P2 B2 R2 G2 := by rw [← hW, ← hg6]; exact Y5.st6 _ _ _ _ _ _
         have hgl := HO4.out.lt
         have O6 : Own W6 g l := by rw [← hW]; exact (HO4.out.on bb).far6 (by omega) _ _ _ _ _ _
         have b6 : Below w.heap.size w W6 := by rw [← hW]; exact below_st6 (below_stepI b4 bb (Nat.le_refl _)) (by omega) _ _ _ _ _ _
         have n6 : ¬ g6 = w.heap.size := by omega
         rw [hg6]
         clear hW hg6)
    all_goals
      have lx6 := X6.lt
      have ly6 := Y6.lt
      have lo6 := O6.lt
      have hgl := HO4.out.lt
      have h6 := b6.size
      have m6 : ¬ W6.heap.size = w.heap.size := by omega
      have HO6 := Lib.hid O6
      clear O6
      go_wp2_with (first | go_skip | fail)
      replace bb : Below W6.heap.size W6 W6.drew := (Below.refl _ _).drew
      go_region_held3 (fun w' => w'.cell? ⟨w.heap.size, 0, none⟩ = some (.int .u32 F1) ∧ w'.cell? ⟨w.heap.size, 1, none⟩ = some (.int .u32 L1) ∧ w'.cell? ⟨w.heap.size, 2, none⟩ = some (.bool P1) ∧ w'.cell? ⟨w.heap.size, 3, none⟩ = some (.int .u32 B1) ∧ w'.cell? ⟨w.heap.size, 4, none⟩ = some (.bool R1) ∧ w'.cell? ⟨w.heap.size, 5, none⟩ = some (.int .u32 G1)) (first | with_reducible exact ⟨stillI X6.c0 bb, stillI X6.c1 bb, stillI X6.c2 bb, stillI X6.c3 bb, stillI X6.c4 bb, stillI X6.c5 bb⟩ | with_reducible exact ⟨Lib.cell?_alloc_some _ (stillI X6.c0 bb), Lib.cell?_alloc_some _ (stillI X6.c1 bb), Lib.cell?_alloc_some _ (stillI X6.c2 bb), Lib.cell?_alloc_some _ (stillI X6.c3 bb), Lib.cell?_alloc_some _ (stillI X6.c4 bb), Lib.cell?_alloc_some _ (stillI X6.c5 bb)⟩ | with_reducible exact ⟨Lib.cell?_alloc_some _ X6.c0, Lib.cell?_alloc_some _ X6.c1, Lib.cell?_alloc_some _ X6.c2, Lib.cell?_alloc_some _ X6.c3, Lib.cell?_alloc_some _ X6.c4, Lib.cell?_alloc_some _ X6.c5⟩ | with_reducible exact ⟨(far6 _ m6 _ _ _ _ _ _ 0).trans (stillI X6.c0 bb), (far6 _ m6 _ _ _ _ _ _ 1).trans (stillI X6.c1 bb), (far6 _ m6 _ _ _ _ _ _ 2).trans (stillI X6.c2 bb), (far6 _ m6 _ _ _ _ _ _ 3).trans (stillI X6.c3 bb), (far6 _ m6 _ _ _ _ _ _ 4).trans (stillI X6.c4 bb), (far6 _ m6 _ _ _ _ _ _ 5).trans (stillI X6.c5 bb)⟩ | with_reducible exact ⟨(far6 _ n7 _ _ _ _ _ _ 0).trans (stillI X6.c0 bb), (far6 _ n7 _ _ _ _ _ _ 1).trans (stillI X6.c1 bb), (far6 _ n7 _ _ _ _ _ _ 2).trans (stillI X6.c2 bb), (far6 _ n7 _ _ _ _ _ _ 3).trans (stillI X6.c3 bb), (far6 _ n7 _ _ _ _ _ _ 4).trans (stillI X6.c4 bb), (far6 _ n7 _ _ _ _ _ _ 5).trans (stillI X6.c5 bb)⟩ | with_reducible exact ⟨((X6.alloc _).drew).c0, ((X6.alloc _).drew).c1, ((X6.alloc _).drew).c2, ((X6.alloc _).drew).c3, ((X6.alloc _).drew).c4, ((X6.alloc _).drew).c5⟩ | go_keep) (first
        | (go_at_call 10; (with_reducible refine (HRD.out _).mono ?_); rintro e wr ⟨rfl, rfl⟩)
        | (go_at_call 17; (with_reducible refine (HDT.out W6.drew).mono ?_); rintro e w7 ⟨rfl, hb7⟩; replace bb : Below W6.heap.size W6 w7 := below_stepI (Below.refl _ _).drew hb7 (Nat.le_refl _); have q7 := bb.size; have n7 : ¬ w7.heap.size = w.heap.size := (by omega); clear hb7)
        | (go_at_call 17; (with_reducible refine (HDT.out (W6.alloc (.cells #[.int .u32 0, .int .u32 0, .bool false, .int .u32 0, .bool false, .int .u32 0] 24)).drew).mono ?_); rintro e w7 ⟨rfl, hb7⟩; replace bb : Below W6.heap.size W6 w7 := below_stepI (((Below.refl _ _).alloc (Nat.le_refl _) (.cells #[.int .u32 0, .int .u32 0, .bool false, .int .u32 0, .bool false, .int .u32 0] 24)).drew) hb7 (Nat.le_refl _); have Y7 : InN w7 W6.heap.size 0 0 false 0 false 0 := ((InN.new _ _ _ _ _ _ _ _).drew).on hb7; clear hb7)
        | (go_at_call 19; have Y7' := Y7; (with_reducible refine (HC1.out _ _ w7 (Own.mem (HO6.out.on bb) HLW.out HCW.out (by omega) HUW.out)).mono ?_); rintro e w8 ⟨⟨A8, c8, l8, rfl, _, _, _, _⟩, hb8⟩; replace bb : Below W6.heap.size W6 w8 := below_stepI bb hb8 (Nat.le_refl _); have Y8 : InN w8 W6.heap.size 0 0 false 0 false 0 := Y7.on hb8; clear hb8; have l8' := Y8.lt; have Y8' := Y8; obtain ⟨y0, y1, y2, y3, y4, y5, yz⟩ := Y8'; have z0 := yz 0; have z1 := yz 1; have z2 := yz 2; have z3 := yz 3; have z4 := yz 4; have z5 := yz 5)
        | (go_at_call 19; (with_reducible refine (HC1.out _ _ w7 (Own.mem (HO6.out.on bb) HLW.out HCW.out (by omega) HUW.out)).mono ?_); rintro e w8 ⟨⟨A8, c8, l8, rfl, _, _, _, _⟩, hb8⟩; replace bb : Below W6.heap.size W6 w8 := below_stepI bb hb8 (Nat.le_refl _); clear hb8)
        | (go_at_call 19; (with_reducible refine (HC1.out _ _ (w7.alloc (.cells #[.int .u32 0, .int .u32 0, .bool false, .int .u32 0, .bool false, .int .u32 0] 24)) (Own.mem ((HO6.out.on bb).on ((Below.refl _ _).alloc (Nat.le_refl _) _)) HLW.out HCW.out (by omega) HUW.out)).mono ?_); rintro e w8 ⟨⟨A8, c8, l8, rfl, _, _, _, _⟩, hb8⟩; have Y8 : InN w8 w7.heap.size 0 0 false 0 false 0 := (InN.new _ _ _ _ _ _ _ _).on hb8; replace bb : Below W6.heap.size W6 w8 := below_stepI (bb.alloc q7 (.cells #[.int .u32 0, .int .u32 0, .bool false, .int .u32 0, .bool false, .int .u32 0] 24)) hb8 (Nat.le_refl _); clear hb8; have l8' := Y8.lt; have Y8' := Y8; obtain ⟨y0, y1, y2, y3, y4, y5, yz⟩ := Y8'; have z0 := yz 0; have z1 := yz 1; have z2 := yz 2; have z3 := yz 3; have z4 := yz 4; have z5 := yz 5))
    all_goals first
      | (obtain ⟨W9, hW⟩ : ∃ W, w8.alloc (.cells #[.int .u32 F3, .int .u32 L3, .bool P3, .int .u32 B3, .bool R3, .int .u32 G3] 24) = W := ⟨_, rfl⟩
         obtain ⟨g9, hg9⟩ : ∃ g, w8.heap.size = g := ⟨_, rfl⟩
         rw [hW, hg9]
         have q9 := bb.size
         have Y69 : InN W9 g6 F2 L2 P2 B2 R2 G2 := by rw [← hW]; exact (Y6.on bb).alloc _
         have Y9 : InN W9 g9 F3 L3 P3 B3 R3 G3 := by rw [← hW, ← hg9]; exact InN.new _ _ _ _ _ _ _ _
         have b9 : Below w.heap.size w W9 := by rw [← hW]; exact (below_stepI b6 bb (Nat.le_refl _)).alloc (by omega) _
         clear hW hg9)
      | (obtain ⟨W9, hW⟩ : ∃ W, ((((((w8.setCell ⟨w7.heap.size, 0, none⟩ (.int .u32 F3)).setCell ⟨w7.heap.size, 1, none⟩ (.int .u32 L3)).setCell ⟨w7.heap.size, 2, none⟩ (.bool P3)).setCell ⟨w7.heap.size, 3, none⟩ (.int .u32 B3)).setCell ⟨w7.heap.size, 4, none⟩ (.bool R3)).setCell ⟨w7.heap.size, 5, none⟩ (.int .u32 G3)) = W := ⟨_, rfl⟩
         obtain ⟨g9, hg9⟩ : ∃ g, w7.heap.size = g := ⟨_, rfl⟩
         rw [hW]
         have q9 := bb.size
         have Y69 : InN W9 g6 F2 L2 P2 B2 R2 G2 := by rw [← hW]; exact (Y6.on bb).far6 (by omega) _ _ _ _ _ _
         have Y9 : InN W9 g9 F3 L3 P3 B3 R3 G3 := by rw [← hW, ← hg9]; exact Y8.st6 _ _ _ _ _ _
         have b9 : Below w.heap.size w W9 := by rw [← hW]; exact below_st6 (below_stepI b6 bb (Nat.le_refl _)) (by omega) _ _ _ _ _ _
         rw [hg9]
         clear hW hg9)
      | (obtain ⟨W9, hW⟩ : ∃ W, ((((((w8.setCell ⟨W6.heap.size, 0, none⟩ (.int .u32 F3)).setCell ⟨W6.heap.size, 1, none⟩ (.int .u32 L3)).setCell ⟨W6.heap.size, 2, none⟩ (.bool P3)).setCell ⟨W6.heap.size, 3, none⟩ (.int .u32 B3)).setCell ⟨W6.heap.size, 4, none⟩ (.bool R3)).setCell ⟨W6.heap.size, 5, none⟩ (.int .u32 G3)) = W := ⟨_, rfl⟩
         obtain ⟨g9, hg9⟩ : ∃ g, W6.heap.size = g := ⟨_, rfl⟩
         rw [hW]
         have q9 := bb.size
         have Y69 : InN W9 g6 F2 L2 P2 B2 R2 G2 := by rw [← hW]; exact (Y6.on bb).far6 (by omega) _ _ _ _ _ _
         have Y9 : InN W9 g9 F3 L3 P3 B3 R3 G3 := by rw [← hW, ← hg9]; exact Y8.st6 _ _ _ _ _ _
         have b9 : Below w.heap.size w W9 := by rw [← hW]; exact below_st6 (below_stepI b6 bb (Nat.le_refl _)) (by omega) _ _ _ _ _ _
         rw [hg9]
         clear hW hg9)
    all_goals
      have Y69' := Y69
      have Y9' := Y9
      obtain ⟨a0, a1, a2, a3, a4, a5, az⟩ := Y69'
      obtain ⟨c0, c1, c2, c3, c4, c5, cz⟩ := Y9'
      go_wp2_with (first
        | go_skip
        | (go_at_call 24; (with_reducible refine (HXM.out _).mono ?_); rintro e w10 ⟨rfl, hb10⟩; have Y10 := Y9.on hb10; have b10 := below_stepI b9 hb10 (Nat.le_refl _); clear hb10; obtain ⟨s0, s1, s2, s3, s4, s5, sz⟩ := Y10)
        | (go_at_call 24; (with_reducible refine (HYM.out _).mono ?_); rintro e w11 ⟨rfl, hb11⟩; have b11 := below_stepI b10 hb11 (Nat.le_refl _); clear hb11)
        | (go_at_call 16; (with_reducible refine (HAW.out _).mono ?_); rintro e w12 ⟨rfl, hb12⟩; have b12 := below_stepI b11 hb12 (Nat.le_refl _)))
      go_ret
      exact ⟨rfl, b12⟩
end Go.Proofs.Ytkilbakghacooaa
