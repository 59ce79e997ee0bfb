import Derived.Test.YtbaepeccgjoiaaaDkAwk
import Derived.Lib.QuietBelow
import Derived.Deep.RegionHeld3
namespace Go.Proofs.Ytbaepeccgjoiaaa
set_option linter.unusedVariables false
set_option linter.unusedSimpArgs false
set_option maxRecDepth 20000
open Go.ChangeShapes Go.WideShapes Go.ChangeAt Go.RowKit Go.Proofs.Ytbaepeccgjoiaaa.Num Go.Proofs.Ytbaepeccgjoiaaa.Mem
theorem far8 (w : World) {b g : Nat} (h : ¬ b = g) (v0 v1 v2 v3 v4 v5 v6 v7 : Value) (i : Nat) : ((((((((w.setCell ⟨b, 0, none⟩ v0).setCell ⟨b, 1, none⟩ v1).setCell ⟨b, 2, none⟩ v2).setCell ⟨b, 3, none⟩ v3).setCell ⟨b, 4, none⟩ v4).setCell ⟨b, 5, none⟩ v5).setCell ⟨b, 6, none⟩ v6).setCell ⟨b, 7, none⟩ v7).cell? ⟨g, i, none⟩ = w.cell? ⟨g, i, none⟩ := by
  iterate 8 rw [World.cell?_setCell_far _ _ _ _ (by exact h)]
theorem frozen8 (w : World) (b : Nat) (v0 v1 v2 v3 v4 v5 v6 v7 : Value) (p : Addr) : ((((((((w.setCell ⟨b, 0, none⟩ v0).setCell ⟨b, 1, none⟩ v1).setCell ⟨b, 2, none⟩ v2).setCell ⟨b, 3, none⟩ v3).setCell ⟨b, 4, none⟩ v4).setCell ⟨b, 5, none⟩ v5).setCell ⟨b, 6, none⟩ v6).setCell ⟨b, 7, none⟩ v7).frozen? p = w.frozen? p := by
  iterate 8 rw [World.frozen?_setCell]
theorem InD.far8 {w : World} {b : Nat} {B K F S C OB OF : Int} {D : ByteArray} (h : InD w b B K F S C OB OF D) {g : Nat} (hg : ¬ g = b) (v0 v1 v2 v3 v4 v5 v6 v7 : Value) : InD ((((((((w.setCell ⟨g, 0, none⟩ v0).setCell ⟨g, 1, none⟩ v1).setCell ⟨g, 2, none⟩ v2).setCell ⟨g, 3, none⟩ v3).setCell ⟨g, 4, none⟩ v4).setCell ⟨g, 5, none⟩ v5).setCell ⟨g, 6, none⟩ v6).setCell ⟨g, 7, none⟩ v7) b B K F S C OB OF D :=
  ⟨(Go.Proofs.Ytbaepeccgjoiaaa.far8 _ hg _ _ _ _ _ _ _ _ 0).trans h.c0, (Go.Proofs.Ytbaepeccgjoiaaa.far8 _ hg _ _ _ _ _ _ _ _ 1).trans h.c1, (Go.Proofs.Ytbaepeccgjoiaaa.far8 _ hg _ _ _ _ _ _ _ _ 2).trans h.c2, (Go.Proofs.Ytbaepeccgjoiaaa.far8 _ hg _ _ _ _ _ _ _ _ 3).trans h.c3, (Go.Proofs.Ytbaepeccgjoiaaa.far8 _ hg _ _ _ _ _ _ _ _ 4).trans h.c4, (Go.Proofs.Ytbaepeccgjoiaaa.far8 _ hg _ _ _ _ _ _ _ _ 5).trans h.c5, (Go.Proofs.Ytbaepeccgjoiaaa.far8 _ hg _ _ _ _ _ _ _ _ 6).trans h.c6, (Go.Proofs.Ytbaepeccgjoiaaa.far8 _ hg _ _ _ _ _ _ _ _ 7).trans h.c7, fun i => (frozen8 ..).trans (h.z i)⟩
theorem InD.st8 {w : World} {b : Nat} {B K F S C OB OF : Int} {D : ByteArray} (h : InD w b B K F S C OB OF D) (B' K' F' S' C' OB' OF' : Int) (D' : ByteArray) : InD ((((((((w.setCell ⟨b, 0, none⟩ (.int .u32 B')).setCell ⟨b, 1, none⟩ (.int .u32 K')).setCell ⟨b, 2, none⟩ (.int .u32 F')).setCell ⟨b, 3, none⟩ (.int .i64 S')).setCell ⟨b, 4, none⟩ (.int .i64 C')).setCell ⟨b, 5, none⟩ (.int .u32 OB')).setCell ⟨b, 6, none⟩ (.int .u32 OF')).setCell ⟨b, 7, none⟩ (.string D')) b B' K' F' S' C' OB' OF' D' := by
  obtain ⟨c0, c1, c2, c3, c4, c5, c6, c7, z⟩ := h
  exact ⟨by simp [go_sem, c0, c1, c2, c3, c4, c5, c6, c7], by simp [go_sem, c0, c1, c2, c3, c4, c5, c6, c7], by simp [go_sem, c0, c1, c2, c3, c4, c5, c6, c7], by simp [go_sem, c0, c1, c2, c3, c4, c5, c6, c7], by simp [go_sem, c0, c1, c2, c3, c4, c5, c6, c7], by simp [go_sem, c0, c1, c2, c3, c4, c5, c6, c7], by simp [go_sem, c0, c1, c2, c3, c4, c5, c6, c7], by simp [go_sem, c0, c1, c2, c3, c4, c5, c6, c7], fun i => (frozen8 ..).trans (z i)⟩
theorem Own.far8 {w : World} {g : Nat} {l : List Int} (h : Own w g l) {b : Nat} (hb : ¬ b = g) (v0 v1 v2 v3 v4 v5 v6 v7 : Value) : Own ((((((((w.setCell ⟨b, 0, none⟩ v0).setCell ⟨b, 1, none⟩ v1).setCell ⟨b, 2, none⟩ v2).setCell ⟨b, 3, none⟩ v3).setCell ⟨b, 4, none⟩ v4).setCell ⟨b, 5, none⟩ v5).setCell ⟨b, 6, none⟩ v6).setCell ⟨b, 7, none⟩ v7) g l :=
  (((((((h.far 0 v0 hb).far 1 v1 hb).far 2 v2 hb).far 3 v3 hb).far 4 v4 hb).far 5 v5 hb).far 6 v6 hb).far 7 v7 hb
theorem below_st8 {n : Nat} {a w : World} (h : Below n a w) {b : Nat} (hb : n ≤ b) (v0 v1 v2 v3 v4 v5 v6 v7 : Value) : Below n a ((((((((w.setCell ⟨b, 0, none⟩ v0).setCell ⟨b, 1, none⟩ v1).setCell ⟨b, 2, none⟩ v2).setCell ⟨b, 3, none⟩ v3).setCell ⟨b, 4, none⟩ v4).setCell ⟨b, 5, none⟩ v5).setCell ⟨b, 6, none⟩ v6).setCell ⟨b, 7, none⟩ v7) :=
  (((((((h.setCell (p := ⟨b, 0, none⟩) hb v0).setCell (p := ⟨b, 1, none⟩) hb v1).setCell (p := ⟨b, 2, none⟩) hb v2).setCell (p := ⟨b, 3, none⟩) hb v3).setCell (p := ⟨b, 4, none⟩) hb v4).setCell (p := ⟨b, 5, none⟩) hb v5).setCell (p := ⟨b, 6, none⟩) hb v6).setCell (p := ⟨b, 7, none⟩) hb v7
set_option maxHeartbeats 4000000 in
theorem keeps_walk (B K F S C OB OF : Int) (D : ByteArray) (raw : Bool) (x y p v : Int) (w : World) (F0 : 0 ≤ F) (F1 : F ≤ 4294967295) (o0 : 0 ≤ OF) (o1 : OF ≤ 4294967295) (x0 : -9223372036854775808 ≤ x) (x1 : x ≤ 9223372036854775807) (y0 : -9223372036854775808 ≤ y) (y1 : y ≤ 9223372036854775807) (p0 : -9223372036854775808 ≤ p) (p1 : p ≤ 9223372036854775807) (v0 : 0 ≤ v) (v1 : v ≤ 4294967295) :
    Calls Try.prog 5 #[dkV B K F S C OB OF D, .bool raw, .int .i64 x, .int .i64 y, .int .i64 p, .int .u32 v] w fun e w' => e = .returned (.bool true) ∧ Below w.heap.size w w' := by
  have HS := Lib.hid (fun W => shapedD_any B K F S C OB OF D raw x W x0 x1 F0 F1 o0 o1)
  obtain ⟨r, hr⟩ : ∃ r : Nat, y % 6 = r := ⟨(y % 6).toNat, by omega⟩
  have hr5 : r ≤ 5 := by omega
  obtain ⟨N, HN⟩ : ∃ N, Hid (N = 32 * (1 + r)) := ⟨_, rfl⟩
  have HWD := Lib.hid (fun W => words_any x y r W x0 x1 y0 y1 hr)
  unfold WordsPost at HWD
  rw [← HN.out] at HWD
  have HAW := Lib.hid awake9
  have HR := Lib.hid (fun W => round_any p 5 W (by omega) (by omega) p0 p1)
  obtain ⟨q, hq⟩ : ∃ q, p % 5 = q := ⟨_, rfl⟩
  have q0 : 0 ≤ q := by omega
  have q1 : q ≤ 4 := by omega
  rw [hq] at HR
  clear hq
  obtain ⟨k1, n1, d1, nb, nb1, hs1, HE⟩ := event_ex x x0 x1
  have HEV := Lib.hid HE
  unfold evV at HEV
  clear HE
  unfold ShPost dkV at HS
  unfold dkV
  clear F0 F1 o0 o1 x0 x1 y0 y1 p0 p1 hr
  go_enter Try.func5, Try.ntmps5
  go_wp2_with (first
    | go_skip
    | (go_at_call 7; (with_reducible refine (HS.out _).mono ?_); rintro e w1 ⟨⟨B1, K1, F1, S1, C1, U1, V1, D1, rfl, f10, f11, v10, v11⟩, hb1⟩; have X1 : InD w1 w.heap.size B K F S C OB OF D := InD.on ⟨by simp [go_sem], by simp [go_sem], by simp [go_sem], by simp [go_sem], by simp [go_sem], by simp [go_sem], by simp [go_sem], by simp [go_sem], fun i => by simp [go_sem]⟩ hb1; have b1 : Below w.heap.size w w1 := Below.trans (by (repeat' (first | with_reducible exact Below.refl _ _ | with_reducible assumption | with_reducible apply below_drewN | with_reducible apply Below.drew | with_reducible apply Below.setCell | with_reducible apply Below.alloc | (simp; done) | omega | (simp; omega)))) (hb1.mono (by first | omega | (simp <;> omega))); clear hb1; have l1 := X1.lt; obtain ⟨a0, a1, a2, a3, a4, a5, a6, a7, az⟩ := X1; have z0 := az 0; have z1 := az 1; have z2 := az 2; have z3 := az 3; have z4 := az 4; have z5 := az 5; have z6 := az 6; have z7 := az 7)
    | (go_at_call 8; (with_reducible refine (HWD.out _).mono ?_); rintro e w2 ⟨⟨g, c, l, rfl, hg, hc, hl, hu, hown⟩, hb2⟩; have X2 : InD w2 w.heap.size B1 K1 F1 S1 C1 U1 V1 D1 := InD.on ⟨by simp [go_sem, a0, a1, a2, a3, a4, a5, a6, a7, az], by simp [go_sem, a0, a1, a2, a3, a4, a5, a6, a7, az], by simp [go_sem, a0, a1, a2, a3, a4, a5, a6, a7, az], by simp [go_sem, a0, a1, a2, a3, a4, a5, a6, a7, az], by simp [go_sem, a0, a1, a2, a3, a4, a5, a6, a7, az], by simp [go_sem, a0, a1, a2, a3, a4, a5, a6, a7, az], by simp [go_sem, a0, a1, a2, a3, a4, a5, a6, a7, az], by simp [go_sem, a0, a1, a2, a3, a4, a5, a6, a7, az], fun i => by simp [go_sem, a0, a1, a2, a3, a4, a5, a6, a7, az]⟩ hb2; have b2 : Below w.heap.size w w2 := Below.trans (by (repeat' (first | with_reducible exact Below.refl _ _ | with_reducible assumption | with_reducible apply below_drewN | with_reducible apply Below.drew | with_reducible apply Below.setCell | with_reducible apply Below.alloc | (simp; done) | omega | (simp; omega)))) (hb2.mono (by first | omega | (simp <;> omega))); clear hb2 b1 az a0 a1 a2 a3 a4 a5 a6 a7 z0 z1 z2 z3 z4 z5 z6 z7; have HM2 := Lib.hid (hown.mem hl hc (by have := HN.out; omega) hu); have l2 := X2.lt; have h2 := b2.size; have X2' := X2; obtain ⟨a0, a1, a2, a3, a4, a5, a6, a7, az⟩ := X2'; have HOW := Lib.hid hown; have HLW := Lib.hid hl; have HCW := Lib.hid hc; have HUW := Lib.hid hu; obtain ⟨K2, F2, S2, C2, U2, V2, D2, o, HOB, u20, u21, hmx⟩ := out_both N l B1 K1 F1 S1 C1 U1 V1 D1 (IntKind.i64.wrap (3 + q)) (v.tmod 9) 0 hl f10 f11 v10 v11; obtain ⟨S3, C3, U3, V3, D3, ok, rd, ss, ff, HCB, u30, u31, hmy⟩ := comp_both N l B1 K1 F1 S1 C1 U1 V1 D1 k1 n1 d1 (by have := HN.out; omega) (by have := HN.out; omega) v10 v11 nb (by omega); unfold OutB OutPost dkV at HOB; unfold CmpB CmpPost dkV evV at HCB; have HO1 := Lib.hid HOB.1; have HC1 := Lib.hid HCB.1; have HMX := Lib.hid hmx; have HMY := Lib.hid hmy; clear HOB HCB hmx hmy hl hc hu hown hg; refine Hid.out ?_))
  refine Lib.hid ?_
  have hN6 : N ≤ 192 := by have := HN.out; omega
  have HPG := Lib.hid (fun W => pages_ref (some ⟨g, 0, none⟩) N c W (by omega))
  have HMD := Lib.hid (fun W => dkMay_any B1 K1 F1 S1 C1 U1 V1 D1 (pagesN N) W v10 v11)
  have HXM := Lib.hid (fun W => dkMay_any B1 K2 F2 S2 C2 U2 V2 D2 (pagesN N) W u20 u21)
  have HYM := Lib.hid (fun W => dkMay_any B1 K1 F1 S3 C3 U3 V3 D3 (pagesN N) W u30 u31)
  unfold dkV at HMD HXM HYM
  have hpn := pagesN_le N
  generalize pagesN N = P at *
  cases hM : dkMay B1 S1 C1 U1 V1 D1 P with
  | false =>
    rw [hM] at HMD
    clear hM HMX HMY
    go_wp2_with (first
      | go_skip
      | (go_at_call 26; (with_reducible refine (HPG.out _).mono ?_); rintro e w3 ⟨rfl, m3, rfl⟩)
      | (go_at_call 24; (with_reducible refine (HMD.out _).mono ?_); rintro e w4 ⟨rfl, hb4⟩; have b4 := below_stepI (below_drewN b2 m3) hb4 (Nat.le_refl _))
      | (go_at_call 17; (with_reducible refine (HAW.out _).mono ?_); rintro e w9 ⟨rfl, hb9⟩; have b9 := below_stepI b4 hb9 (Nat.le_refl _)))
    go_ret
    exact ⟨rfl, b9⟩
  | true =>
    rw [hM] at HMD
    rw [HMX.out hM] at HXM
    rw [HMY.out hM] at HYM
    clear hM HMX HMY
    go_wp2_with (first
      | go_skip
      | (go_at_call 26; (with_reducible refine (HPG.out _).mono ?_); rintro e w3 ⟨rfl, m3, rfl⟩)
      | (go_at_call 24; (with_reducible refine (HMD.out _).mono ?_); rintro e w4 ⟨rfl, hb4⟩; have b4 := below_stepI (below_drewN b2 m3) hb4 (Nat.le_refl _); have X4 := (X2.drewN m3).on hb4; have HO4 := Lib.hid ((HOW.out.drewN m3).on hb4); clear hb4; have h4 := b4.size; have X4' := X4; obtain ⟨q0, q1, q2, q3, q4, q5, q6, q7, qz⟩ := X4'))
    have lx4 := X4.lt
    have n4 : ¬ w4.heap.size = w.heap.size := by omega
    have bb : Below w4.heap.size w4 w4.drew := (Below.refl _ _).drew
    go_region_held3 (fun w' => w'.cell? ⟨w.heap.size, 0, none⟩ = some (.int .u32 B1) ∧ w'.cell? ⟨w.heap.size, 1, none⟩ = some (.int .u32 K1) ∧ w'.cell? ⟨w.heap.size, 2, none⟩ = some (.int .u32 F1) ∧ w'.cell? ⟨w.heap.size, 3, none⟩ = some (.int .i64 S1) ∧ w'.cell? ⟨w.heap.size, 4, none⟩ = some (.int .i64 C1) ∧ w'.cell? ⟨w.heap.size, 5, none⟩ = some (.int .u32 U1) ∧ w'.cell? ⟨w.heap.size, 6, none⟩ = some (.int .u32 V1) ∧ w'.cell? ⟨w.heap.size, 7, none⟩ = some (.string D1)) (first | with_reducible exact ⟨stillI X4.c0 bb, stillI X4.c1 bb, stillI X4.c2 bb, stillI X4.c3 bb, stillI X4.c4 bb, stillI X4.c5 bb, stillI X4.c6 bb, stillI X4.c7 bb⟩ | with_reducible exact ⟨Lib.cell?_alloc_some _ (stillI X4.c0 bb), Lib.cell?_alloc_some _ (stillI X4.c1 bb), Lib.cell?_alloc_some _ (stillI X4.c2 bb), Lib.cell?_alloc_some _ (stillI X4.c3 bb), Lib.cell?_alloc_some _ (stillI X4.c4 bb), Lib.cell?_alloc_some _ (stillI X4.c5 bb), Lib.cell?_alloc_some _ (stillI X4.c6 bb), Lib.cell?_alloc_some _ (stillI X4.c7 bb)⟩ | with_reducible exact ⟨Lib.cell?_alloc_some _ X4.c0, Lib.cell?_alloc_some _ X4.c1, Lib.cell?_alloc_some _ X4.c2, Lib.cell?_alloc_some _ X4.c3, Lib.cell?_alloc_some _ X4.c4, Lib.cell?_alloc_some _ X4.c5, Lib.cell?_alloc_some _ X4.c6, Lib.cell?_alloc_some _ X4.c7⟩ | with_reducible exact ⟨(far8 _ n4 _ _ _ _ _ _ _ _ 0).trans (stillI X4.c0 bb), (far8 _ n4 _ _ _ _ _ _ _ _ 1).trans (stillI X4.c1 bb), (far8 _ n4 _ _ _ _ _ _ _ _ 2).trans (stillI X4.c2 bb), (far8 _ n4 _ _ _ _ _ _ _ _ 3).trans (stillI X4.c3 bb), (far8 _ n4 _ _ _ _ _ _ _ _ 4).trans (stillI X4.c4 bb), (far8 _ n4 _ _ _ _ _ _ _ _ 5).trans (stillI X4.c5 bb), (far8 _ n4 _ _ _ _ _ _ _ _ 6).trans (stillI X4.c6 bb), (far8 _ n4 _ _ _ _ _ _ _ _ 7).trans (stillI X4.c7 bb)⟩ | go_keep) (first
      | (go_at_call 9; (with_reducible refine (HR.out _).mono ?_); rintro e wr ⟨rfl, rfl⟩)
      | (go_at_call 10; (with_reducible refine (HO1.out _ _ _ (Own.mem (HO4.out.on bb) HLW.out HCW.out (by omega) HUW.out)).mono ?_); rintro e w5 ⟨⟨sl5, rfl, _⟩, hb5⟩; replace bb := below_stepI bb hb5 (Nat.le_refl _))
      | (go_at_call 10; (with_reducible refine (HO1.out _ _ _ (Own.mem (HO4.out.on (((Below.refl w4.heap.size w4).alloc (Nat.le_refl _) (.cells #[.int .u32 0, .int .u32 0, .int .u32 0, .int .i64 0, .int .i64 0, .int .u32 0, .int .u32 0, .string ⟨#[]⟩] 24)).drew)) HLW.out HCW.out (by omega) HUW.out)).mono ?_); rintro e w5 ⟨⟨sl5, rfl, _⟩, hb5⟩; replace bb := below_stepI (((Below.refl w4.heap.size w4).alloc (Nat.le_refl _) (.cells #[.int .u32 0, .int .u32 0, .int .u32 0, .int .i64 0, .int .i64 0, .int .u32 0, .int .u32 0, .string ⟨#[]⟩] 24)).drew) hb5 (Nat.le_refl _); have X5 : InD w5 w.heap.size B1 K1 F1 S1 C1 U1 V1 D1 := X4.on bb; have Y5 : InD w5 w4.heap.size 0 0 0 0 0 0 0 ⟨#[]⟩ := ((InD.new _ _ _ _ _ _ _ _ _ _).drew).on hb5; have l5 := Y5.lt; have Y5' := Y5; obtain ⟨y0, y1, y2, y3, y4, y5, y6, y7, yz⟩ := Y5'; have z0 := yz 0; have z1 := yz 1; have z2 := yz 2; have z3 := yz 3; have z4 := yz 4; have z5 := yz 5; have z6 := yz 6; have z7 := yz 7; obtain ⟨j0, j1, j2, j3, j4, j5, j6, j7, jz⟩ := X5))
    all_goals first
      | (obtain ⟨W6, hW⟩ : ∃ W, w5.alloc (.cells #[.int .u32 B1, .int .u32 K2, .int .u32 F2, .int .i64 S2, .int .i64 C2, .int .u32 U2, .int .u32 V2, .string D2] 24) = W := ⟨_, rfl⟩
         obtain ⟨g6, hg6⟩ : ∃ g, w5.heap.size = g := ⟨_, rfl⟩
         rw [hW, hg6]
         have hw5 : w4.heap.size ≤ w5.heap.size := bb.size
         have X6 : InD W6 w.heap.size B1 K1 F1 S1 C1 U1 V1 D1 := by rw [← hW]; exact (X4.on bb).alloc _
         have Y6 : InD W6 g6 B1 K2 F2 S2 C2 U2 V2 D2 := by rw [← hW, ← hg6]; exact InD.new _ _ _ _ _ _ _ _ _ _
         have O6 : Own W6 g l := by rw [← hW]; exact (HO4.out.on bb).on ((Below.refl _ _).alloc (Nat.le_refl _) _)
         have b6 : Below w.heap.size w W6 := by rw [← hW]; exact (below_stepI b4 bb (Nat.le_refl _)).alloc (by omega) _
         have n6 : ¬ g6 = w.heap.size := by omega
         clear hW hg6)
      | (obtain ⟨W6, hW⟩ : ∃ W, ((((((((w5.setCell ⟨w4.heap.size, 0, none⟩ (.int .u32 B1)).setCell ⟨w4.heap.size, 1, none⟩ (.int .u32 K2)).setCell ⟨w4.heap.size, 2, none⟩ (.int .u32 F2)).setCell ⟨w4.heap.size, 3, none⟩ (.int .i64 S2)).setCell ⟨w4.heap.size, 4, none⟩ (.int .i64 C2)).setCell ⟨w4.heap.size, 5, none⟩ (.int .u32 U2)).setCell ⟨w4.heap.size, 6, none⟩ (.int .u32 V2)).setCell ⟨w4.heap.size, 7, none⟩ (.string D2)) = W := ⟨_, rfl⟩
         obtain ⟨g6, hg6⟩ : ∃ g, w4.heap.size = g := ⟨_, rfl⟩
         rw [hW]
         have X6 : InD W6 w.heap.size B1 K1 F1 S1 C1 U1 V1 D1 := by rw [← hW]; exact (X4.on bb).far8 n4 _ _ _ _ _ _ _ _
         have Y6 : InD W6 g6 B1 K2 F2 S2 C2 U2 V2 D2 := by rw [← hW, ← hg6]; exact Y5.st8 _ _ _ _ _ _ _ _
         have hgl := HO4.out.lt
         have O6 : Own W6 g l := by rw [← hW]; exact (HO4.out.on bb).far8 (by omega) _ _ _ _ _ _ _ _
         have b6 : Below w.heap.size w W6 := by rw [← hW]; exact below_st8 (below_stepI b4 bb (Nat.le_refl _)) (by omega) _ _ _ _ _ _ _ _
         have n6 : ¬ g6 = w.heap.size := by omega
         rw [hg6]
         clear hW hg6)
    all_goals
      have lx6 := X6.lt
      have ly6 := Y6.lt
      have lo6 := O6.lt
      have hgl := HO4.out.lt
      have h6 := b6.size
      have m6 : ¬ W6.heap.size = w.heap.size := by omega
      have HO6 := Lib.hid O6
      clear O6
      go_wp2_with (first | go_skip | fail)
      replace bb : Below W6.heap.size W6 W6.drew := (Below.refl _ _).drew
      go_region_held3 (fun w' => w'.cell? ⟨w.heap.size, 0, none⟩ = some (.int .u32 B1) ∧ w'.cell? ⟨w.heap.size, 1, none⟩ = some (.int .u32 K1) ∧ w'.cell? ⟨w.heap.size, 2, none⟩ = some (.int .u32 F1) ∧ w'.cell? ⟨w.heap.size, 3, none⟩ = some (.int .i64 S1) ∧ w'.cell? ⟨w.heap.size, 4, none⟩ = some (.int .i64 C1) ∧ w'.cell? ⟨w.heap.size, 5, none⟩ = some (.int .u32 U1) ∧ w'.cell? ⟨w.heap.size, 6, none⟩ = some (.int .u32 V1) ∧ w'.cell? ⟨w.heap.size, 7, none⟩ = some (.string D1)) (first | with_reducible exact ⟨stillI X6.c0 bb, stillI X6.c1 bb, stillI X6.c2 bb, stillI X6.c3 bb, stillI X6.c4 bb, stillI X6.c5 bb, stillI X6.c6 bb, stillI X6.c7 bb⟩ | with_reducible exact ⟨Lib.cell?_alloc_some _ (stillI X6.c0 bb), Lib.cell?_alloc_some _ (stillI X6.c1 bb), Lib.cell?_alloc_some _ (stillI X6.c2 bb), Lib.cell?_alloc_some _ (stillI X6.c3 bb), Lib.cell?_alloc_some _ (stillI X6.c4 bb), Lib.cell?_alloc_some _ (stillI X6.c5 bb), Lib.cell?_alloc_some _ (stillI X6.c6 bb), Lib.cell?_alloc_some _ (stillI X6.c7 bb)⟩ | with_reducible exact ⟨Lib.cell?_alloc_some _ X6.c0, Lib.cell?_alloc_some _ X6.c1, Lib.cell?_alloc_some _ X6.c2, Lib.cell?_alloc_some _ X6.c3, Lib.cell?_alloc_some _ X6.c4, Lib.cell?_alloc_some _ X6.c5, Lib.cell?_alloc_some _ X6.c6, Lib.cell?_alloc_some _ X6.c7⟩ | with_reducible exact ⟨(far8 _ m6 _ _ _ _ _ _ _ _ 0).trans (stillI X6.c0 bb), (far8 _ m6 _ _ _ _ _ _ _ _ 1).trans (stillI X6.c1 bb), (far8 _ m6 _ _ _ _ _ _ _ _ 2).trans (stillI X6.c2 bb), (far8 _ m6 _ _ _ _ _ _ _ _ 3).trans (stillI X6.c3 bb), (far8 _ m6 _ _ _ _ _ _ _ _ 4).trans (stillI X6.c4 bb), (far8 _ m6 _ _ _ _ _ _ _ _ 5).trans (stillI X6.c5 bb), (far8 _ m6 _ _ _ _ _ _ _ _ 6).trans (stillI X6.c6 bb), (far8 _ m6 _ _ _ _ _ _ _ _ 7).trans (stillI X6.c7 bb)⟩ | with_reducible exact ⟨(far8 _ n7 _ _ _ _ _ _ _ _ 0).trans (stillI X6.c0 bb), (far8 _ n7 _ _ _ _ _ _ _ _ 1).trans (stillI X6.c1 bb), (far8 _ n7 _ _ _ _ _ _ _ _ 2).trans (stillI X6.c2 bb), (far8 _ n7 _ _ _ _ _ _ _ _ 3).trans (stillI X6.c3 bb), (far8 _ n7 _ _ _ _ _ _ _ _ 4).trans (stillI X6.c4 bb), (far8 _ n7 _ _ _ _ _ _ _ _ 5).trans (stillI X6.c5 bb), (far8 _ n7 _ _ _ _ _ _ _ _ 6).trans (stillI X6.c6 bb), (far8 _ n7 _ _ _ _ _ _ _ _ 7).trans (stillI X6.c7 bb)⟩ | with_reducible exact ⟨((X6.alloc _).drew).c0, ((X6.alloc _).drew).c1, ((X6.alloc _).drew).c2, ((X6.alloc _).drew).c3, ((X6.alloc _).drew).c4, ((X6.alloc _).drew).c5, ((X6.alloc _).drew).c6, ((X6.alloc _).drew).c7⟩ | go_keep) (first
        | (go_at_call 18; (with_reducible refine (HEV.out W6.drew).mono ?_); rintro e w7 ⟨rfl, hb7⟩; replace bb : Below W6.heap.size W6 w7 := below_stepI (Below.refl _ _).drew hb7 (Nat.le_refl _); have q7 := bb.size; have n7 : ¬ w7.heap.size = w.heap.size := (by omega); clear hb7)
        | (go_at_call 18; (with_reducible refine (HEV.out (W6.alloc (.cells #[.int .u32 0, .int .u32 0, .int .u32 0, .int .i64 0, .int .i64 0, .int .u32 0, .int .u32 0, .string ⟨#[]⟩] 24)).drew).mono ?_); rintro e w7 ⟨rfl, hb7⟩; replace bb : Below W6.heap.size W6 w7 := below_stepI (((Below.refl _ _).alloc (Nat.le_refl _) (.cells #[.int .u32 0, .int .u32 0, .int .u32 0, .int .i64 0, .int .i64 0, .int .u32 0, .int .u32 0, .string ⟨#[]⟩] 24)).drew) hb7 (Nat.le_refl _); have Y7 : InD w7 W6.heap.size 0 0 0 0 0 0 0 ⟨#[]⟩ := ((InD.new _ _ _ _ _ _ _ _ _ _).drew).on hb7; clear hb7)
        | (go_at_call 19; have Y7' := Y7; (with_reducible refine (HC1.out _ _ w7 (Own.mem (HO6.out.on bb) HLW.out HCW.out (by omega) HUW.out)).mono ?_); rintro e w8 ⟨⟨A8, c8, l8, rfl, _, _, _, _⟩, hb8⟩; replace bb : Below W6.heap.size W6 w8 := below_stepI bb hb8 (Nat.le_refl _); have Y8 : InD w8 W6.heap.size 0 0 0 0 0 0 0 ⟨#[]⟩ := Y7.on hb8; clear hb8; have l8' := Y8.lt; have Y8' := Y8; obtain ⟨y0, y1, y2, y3, y4, y5, y6, y7, yz⟩ := Y8'; have z0 := yz 0; have z1 := yz 1; have z2 := yz 2; have z3 := yz 3; have z4 := yz 4; have z5 := yz 5; have z6 := yz 6; have z7 := yz 7)
        | (go_at_call 19; (with_reducible refine (HC1.out _ _ w7 (Own.mem (HO6.out.on bb) HLW.out HCW.out (by omega) HUW.out)).mono ?_); rintro e w8 ⟨⟨A8, c8, l8, rfl, _, _, _, _⟩, hb8⟩; replace bb : Below W6.heap.size W6 w8 := below_stepI bb hb8 (Nat.le_refl _); clear hb8)
        | (go_at_call 19; (with_reducible refine (HC1.out _ _ (w7.alloc (.cells #[.int .u32 0, .int .u32 0, .int .u32 0, .int .i64 0, .int .i64 0, .int .u32 0, .int .u32 0, .string ⟨#[]⟩] 24)) (Own.mem ((HO6.out.on bb).on ((Below.refl _ _).alloc (Nat.le_refl _) _)) HLW.out HCW.out (by omega) HUW.out)).mono ?_); rintro e w8 ⟨⟨A8, c8, l8, rfl, _, _, _, _⟩, hb8⟩; have Y8 : InD w8 w7.heap.size 0 0 0 0 0 0 0 ⟨#[]⟩ := (InD.new _ _ _ _ _ _ _ _ _ _).on hb8; replace bb : Below W6.heap.size W6 w8 := below_stepI (bb.alloc q7 (.cells #[.int .u32 0, .int .u32 0, .int .u32 0, .int .i64 0, .int .i64 0, .int .u32 0, .int .u32 0, .string ⟨#[]⟩] 24)) hb8 (Nat.le_refl _); clear hb8; have l8' := Y8.lt; have Y8' := Y8; obtain ⟨y0, y1, y2, y3, y4, y5, y6, y7, yz⟩ := Y8'; have z0 := yz 0; have z1 := yz 1; have z2 := yz 2; have z3 := yz 3; have z4 := yz 4; have z5 := yz 5; have z6 := yz 6; have z7 := yz 7))
    all_goals first
      | (obtain ⟨W9, hW⟩ : ∃ W, w8.alloc (.cells #[.int .u32 B1, .int .u32 K1, .int .u32 F1, .int .i64 S3, .int .i64 C3, .int .u32 U3, .int .u32 V3, .string D3] 24) = W := ⟨_, rfl⟩
         obtain ⟨g9, hg9⟩ : ∃ g, w8.heap.size = g := ⟨_, rfl⟩
         rw [hW, hg9]
         have q9 := bb.size
         have Y69 : InD W9 g6 B1 K2 F2 S2 C2 U2 V2 D2 := by rw [← hW]; exact (Y6.on bb).alloc _
         have Y9 : InD W9 g9 B1 K1 F1 S3 C3 U3 V3 D3 := by rw [← hW, ← hg9]; exact InD.new _ _ _ _ _ _ _ _ _ _
         have b9 : Below w.heap.size w W9 := by rw [← hW]; exact (below_stepI b6 bb (Nat.le_refl _)).alloc (by omega) _
         clear hW hg9)
      | (obtain ⟨W9, hW⟩ : ∃ W, ((((((((w8.setCell ⟨w7.heap.size, 0, none⟩ (.int .u32 B1)).setCell ⟨w7.heap.size, 1, none⟩ (.int .u32 K1)).setCell ⟨w7.heap.size, 2, none⟩ (.int .u32 F1)).setCell ⟨w7.heap.size, 3, none⟩ (.int .i64 S3)).setCell ⟨w7.heap.size, 4, none⟩ (.int .i64 C3)).setCell ⟨w7.heap.size, 5, none⟩ (.int .u32 U3)).setCell ⟨w7.heap.size, 6, none⟩ (.int .u32 V3)).setCell ⟨w7.heap.size, 7, none⟩ (.string D3)) = W := ⟨_, rfl⟩
         obtain ⟨g9, hg9⟩ : ∃ g, w7.heap.size = g := ⟨_, rfl⟩
         rw [hW]
         have q9 := bb.size
         have Y69 : InD W9 g6 B1 K2 F2 S2 C2 U2 V2 D2 := by rw [← hW]; exact (Y6.on bb).far8 (by omega) _ _ _ _ _ _ _ _
         have Y9 : InD W9 g9 B1 K1 F1 S3 C3 U3 V3 D3 := by rw [← hW, ← hg9]; exact Y8.st8 _ _ _ _ _ _ _ _
         have b9 : Below w.heap.size w W9 := by rw [← hW]; exact below_st8 (below_stepI b6 bb (Nat.le_refl _)) (by omega) _ _ _ _ _ _ _ _
         rw [hg9]
         clear hW hg9)
      | (obtain ⟨W9, hW⟩ : ∃ W, ((((((((w8.setCell ⟨W6.heap.size, 0, none⟩ (.int .u32 B1)).setCell ⟨W6.heap.size, 1, none⟩ (.int .u32 K1)).setCell ⟨W6.heap.size, 2, none⟩ (.int .u32 F1)).setCell ⟨W6.heap.size, 3, none⟩ (.int .i64 S3)).setCell ⟨W6.heap.size, 4, none⟩ (.int .i64 C3)).setCell ⟨W6.heap.size, 5, none⟩ (.int .u32 U3)).setCell ⟨W6.heap.size, 6, none⟩ (.int .u32 V3)).setCell ⟨W6.heap.size, 7, none⟩ (.string D3)) = W := ⟨_, rfl⟩
         obtain ⟨g9, hg9⟩ : ∃ g, W6.heap.size = g := ⟨_, rfl⟩
         rw [hW]
         have q9 := bb.size
         have Y69 : InD W9 g6 B1 K2 F2 S2 C2 U2 V2 D2 := by rw [← hW]; exact (Y6.on bb).far8 (by omega) _ _ _ _ _ _ _ _
         have Y9 : InD W9 g9 B1 K1 F1 S3 C3 U3 V3 D3 := by rw [← hW, ← hg9]; exact Y8.st8 _ _ _ _ _ _ _ _
         have b9 : Below w.heap.size w W9 := by rw [← hW]; exact below_st8 (below_stepI b6 bb (Nat.le_refl _)) (by omega) _ _ _ _ _ _ _ _
         rw [hg9]
         clear hW hg9)
    all_goals
      have Y69' := Y69
      have Y9' := Y9
      obtain ⟨a0, a1, a2, a3, a4, a5, a6, a7, az⟩ := Y69'
      obtain ⟨c0, c1, c2, c3, c4, c5, c6, c7, cz⟩ := Y9'
      go_wp2_with (first
        | go_skip
        | (go_at_call 24; (with_reducible refine (HXM.out _).mono ?_); rintro e w10 ⟨rfl, hb10⟩; have Y10 := Y9.on hb10; have b10 := below_stepI b9 hb10 (Nat.le_refl _); clear hb10; obtain ⟨s0, s1, s2, s3, s4, s5, s6, s7, sz⟩ := Y10)
        | (go_at_call 24; (with_reducible refine (HYM.out _).mono ?_); rintro e w11 ⟨rfl, hb11⟩; have b11 := below_stepI b10 hb11 (Nat.le_refl _); clear hb11)
        | (go_at_call 17; (with_reducible refine (HAW.out _).mono ?_); rintro e w12 ⟨rfl, hb12⟩; have b12 := below_stepI b11 hb12 (Nat.le_refl _)))
      go_ret
      exact ⟨rfl, b12⟩
end Go.Proofs.Ytbaepeccgjoiaaa
