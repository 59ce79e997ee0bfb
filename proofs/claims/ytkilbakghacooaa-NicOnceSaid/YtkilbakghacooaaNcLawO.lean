import Derived.Test.YtkilbakghacooaaNcSix
import Derived.Test.YtkilbakghacooaaPmRow
namespace Go.Proofs.Ytkilbakghacooaa
set_option linter.unusedVariables false
set_option linter.unusedSimpArgs false
set_option maxRecDepth 20000
open Go.ChangeShapes Go.WideShapes Go.ChangeAt Go.RowKit Go.Proofs.Ytkilbakghacooaa.Num Go.Proofs.Ytkilbakghacooaa.Mem
theorem bit_any (b : Bool) (w : World) : Calls Try.prog 27 #[.bool b] w fun e w' => e = .returned (.int .u32 (if b then 1 else 0)) ∧ ∃ m, w' = w.drewN m := by
  cases b
  all_goals
    go_enter Try.func27, Try.ntmps27
    go_wp2
    all_goals go_ret
    all_goals exact ⟨rfl, 0, rfl⟩
theorem nonce_long (A0 : Option Addr) (k0 d0 : Nat) (y : Int) (w : World) (hk : ¬ k0 ≤ 60) :
    Calls Try.prog 6 #[.slice A0 k0 d0, .int .i64 y] w fun e w' => e = .returned (.bool true) ∧ Below w.heap.size w w' := by
  have HAW := Lib.hid awake10
  have d1 : decide (60 < (k0 : Int)) = true := by simp; omega
  go_enter Try.func6, Try.ntmps6
  go_wp2_with (first
    | go_skip
    | (go_at_call 16; (with_reducible refine (HAW.out _).mono ?_); rintro e w9 ⟨rfl, hb9⟩))
  all_goals first | (exfalso; omega) | skip
  go_ret
  exact ⟨rfl, hb9⟩
set_option maxHeartbeats 8000000 in
theorem nonce_walk (A0 : Option Addr) (k0 d0 : Nat) (z : Nat → Int) (y : Int) (w : World) (hz : Ints w A0 k0 z) (hk : k0 ≤ 60) (y0 : -9223372036854775808 ≤ y) (y1 : y ≤ 9223372036854775807) :
    Calls Try.prog 6 #[.slice A0 k0 d0, .int .i64 y] w fun e w' => e = .returned (.bool true) ∧ Below w.heap.size w w' := by
  obtain ⟨r, hr⟩ : ∃ r : Nat, y % 6 = r := ⟨(y % 6).toNat, by omega⟩
  have hr5 : r ≤ 5 := by omega
  obtain ⟨N, HN⟩ : ∃ N, Hid (N = 32 * (1 + r)) := ⟨_, rfl⟩
  have hN0 : 32 ≤ N := by rw [HN.out]; omega
  have hN1 : N ≤ 192 := by rw [HN.out]; omega
  have hQ : 1 ≤ pagesN N := by rw [HN.out]; unfold pagesN; rw [if_pos ⟨by omega, by omega⟩]; omega
  have HWD := Lib.hid (fun W => words_any y y r W y0 y1 y0 y1 hr)
  unfold WordsPost at HWD
  rw [← HN.out] at HWD
  have HAW := Lib.hid awake10
  have HZ := Lib.hid hz
  have d1 : decide (60 < (k0 : Int)) = false := by simp; omega
  clear y0 y1 hr hz
  go_enter Try.func6, Try.ntmps6
  go_wp2_with (first
    | go_skip
    | (go_at_call 9; (with_reducible refine (HWD.out _).mono ?_); rintro e w1 ⟨⟨g, c, l, rfl, hg, hc, hl, hu, hown⟩, hb1⟩))
  all_goals first | (exfalso; omega) | skip
  obtain ⟨W, hW⟩ : ∃ W, w1.alloc (.cells #[.int .u32 0, .int .u32 0, .bool false, .int .u32 0, .bool false, .int .u32 0] 24) = W := ⟨_, rfl⟩
  obtain ⟨gn, hgn'⟩ : ∃ x, w1.heap.size = x := ⟨_, rfl⟩
  have lg := hown.lt
  have hs1 := hb1.size
  have XW : InN W gn 0 0 false 0 false 0 := by rw [← hW, ← hgn']; exact InN.new _ _ _ _ _ _ _ _
  have OW : Own W g l := by rw [← hW]; exact hown.on ((Below.refl _ _).alloc (Nat.le_refl _) _)
  have bW : Below w.heap.size w W := by rw [← hW]; exact hb1.alloc hs1 _
  have hgn : w.heap.size ≤ gn := by omega
  have ng : ¬ gn = g := by omega
  rw [hW, hgn']
  clear hW hgn' hown hb1 hs1 lg
  go_loopw [5, 7, 8, 9] (fun m po go i wr => ∃ (j : Nat) (P R : Bool) (G : Int) (gm cm : Nat) (lm : List Int), j ≤ k0 ∧ i = .int .i64 j ∧ po = .bool P ∧ go = .bool R ∧ m = .slice (some ⟨gm, 0, none⟩) N cm ∧ ¬ (P = true ∧ R = true) ∧ 0 ≤ G ∧ G ≤ 4294967295 ∧ InN wr gn 0 0 P 0 R G ∧ Own wr gm lm ∧ Hid (lm.length = N) ∧ Hid (U32 lm) ∧ N ≤ cm ∧ ¬ gn = gm ∧ Below w.heap.size w wr) (fun _ _ _ i _ => k0 - (intOf i).toNat)
  case atStart => exact ⟨0, false, false, 0, g, c, l, by omega, rfl, rfl, rfl, rfl, by decide, by omega, by omega, XW, OW, hl, hu, hc, ng, bW⟩
  case round =>
    obtain ⟨j, P, R, G1, gm, cj, lj, hj, rfl, rfl, rfl, rfl, hPR, G0, GX, hX, hO, LJ, UJ, CJ, NG, hb⟩ := hrel
    clear XW OW bW hl hu hc ng
    by_cases hlt : j < k0
    · obtain ⟨zb, zo, rfl, hcw⟩ := HZ.out.1 j hlt
      have hzb : zb < w.heap.size := World.block_lt_of_cell? w _ hcw
      have hc := (hb.cell (p := ⟨zb, zo + j, none⟩) hzb).trans hcw
      obtain ⟨z0', z1'⟩ := HZ.out.2 j hlt
      generalize z j = zj at hc hcw z0' z1'
      have HR3 := Lib.hid (fun W => round_any zj 3 W (by omega) (by omega) z0' z1')
      have HDT := Lib.hid (fun W => show Calls Try.prog 17 #[.int .i64 zj, .int .i64 5] W fun e w' => e = .returned (.string (datS zj 5)) ∧ Below W.heap.size W w' from dat_any zj 5 W z0' z1' (by omega))
      have hdt := datS_size zj 5
      generalize datS zj 5 = DT at *
      have q3 : zj % 3 = 0 ∨ zj % 3 = 1 ∨ zj % 3 = 2 := by omega
      generalize zj % 3 = q at q3 HR3
      clear hcw z0' z1'
      have hX' := hX
      obtain ⟨a0, a1, a2, a3, a4, a5, az⟩ := hX'
      have HM := Lib.hid (hO.mem LJ.out CJ (by omega) UJ.out)
      have HX := Lib.hid hX
      have HO1 := Lib.hid hO
      have HB := Lib.hid hb
      have lX := hX.lt
      clear hX hO hb
      cases P <;> cases R
      · skip
        rcases q3 with rfl | rfl | rfl
        · skip
          have HO := Lib.hid (fun A c W (hm : Mem W A N c lj) => show Calls Try.prog 11 #[ncV 0 0 false 0 false G1, .slice A N c, .int .i64 9, .int .u32 2, .int .u64 0] W (NutPost 0 0 true 0 false G1 none W) from (nut_post N lj 0 0 false 0 false G1 0 (by omega) (by omega) rfl rfl (by omega)).1 A c W hm)
          have HB1 := Lib.hid (fun W => bit_any true W)
          have HB0 := Lib.hid (fun W => bit_any false W)
          simp only [if_true, Bool.false_eq_true, if_false] at HB1 HB0
          unfold NutPost ncV at HO
          go_wp2_with (first
            | go_skip
            | (go_at_call 10; (with_reducible refine (HR3.out _).mono ?_); rintro e wr3 ⟨rfl, rfl⟩)
            | (go_at_call 11; (with_reducible refine (HO.out _ _ _ (HM.out.on (by (repeat' (first | with_reducible exact Below.refl _ _ | with_reducible assumption | with_reducible apply below_drewN | with_reducible apply Below.drew | with_reducible apply Below.setCell | with_reducible apply Below.alloc | (simp; done) | omega | (simp; omega)))))).mono ?_); rintro e w2 ⟨⟨s2, rfl, hs2⟩, hb2⟩; obtain rfl : s2 = .slice none 0 0 := hs2; have X2 := HX.out.on hb2; have O2 := Lib.hid (HO1.out.on hb2); have b2 : Below w.heap.size w w2 := below_stepI HB.out hb2 (Nat.le_refl _); clear hb2; have lx2 := X2.lt; have lo2 := O2.out.lt; have X2' := X2; obtain ⟨c0, c1, c2, c3, c4, c5, cz⟩ := X2'; have z0 := cz 0; have z1 := cz 1; have z2 := cz 2; have z3 := cz 3; have z4 := cz 4; have z5 := cz 5; refine Hid.out ?_))
          refine Lib.hid ?_
          repeat' (first | (with_reducible refine then_normal ?_) | (with_reducible refine wp_exit ?_) | (with_reducible refine wp_ret ?_) | (with_reducible refine then_exit ?_) | (with_reducible refine blk_hit ?_) | (with_reducible refine blk_pass (by decide) ?_) | (with_reducible refine then_ret ?_) | (with_reducible refine blk_ret ?_) | (with_reducible refine blk_normal ?_) | go_values | go_skip | go_guarded | go_step | go_upon | (simp only [Int.not_lt, Int.not_le] at *; go_simp) | (go_values <;> (try go_simp)) | (go_ite <;> go_prune <;> (try go_simp)))
          obtain ⟨W3, hW⟩ : ∃ W, ((((((w2.setCell ⟨gn, 0, none⟩ (.int .u32 0)).setCell ⟨gn, 1, none⟩ (.int .u32 0)).setCell ⟨gn, 2, none⟩ (.bool true)).setCell ⟨gn, 3, none⟩ (.int .u32 0)).setCell ⟨gn, 4, none⟩ (.bool false)).setCell ⟨gn, 5, none⟩ (.int .u32 G1)) = W := ⟨_, rfl⟩
          have X : InN W3 gn 0 0 true 0 false G1 := by rw [← hW]; exact X2.st6 _ _ _ _ _ _
          have O : Hid (Own W3 gm lj) := by show Own _ _ _; rw [← hW]; exact O2.out.far6 (by omega) _ _ _ _ _ _
          have bX : Below w.heap.size w W3 := by rw [← hW]; exact below_st6 b2 hgn _ _ _ _ _ _
          rw [hW]
          clear hW X2 O2 b2 c0 c1 c2 c3 c4 c5 cz z0 z1 z2 z3 z4 z5
          obtain ⟨cm, hcm⟩ : ∃ x, cj = x := ⟨_, rfl⟩
          obtain ⟨lm, hlm⟩ : ∃ x, lj = x := ⟨_, rfl⟩
          have LM : Hid (lm.length = N) := by rw [← hlm]; exact LJ
          have UM : Hid (U32 lm) := by rw [← hlm]; exact UJ
          have CM : N ≤ cm := by rw [← hcm]; exact CJ
          rw [hlm] at O
          rw [hcm]
          have HP := Lib.hid (fun W => ncPend_any 0 0 true 0 false G1 W)
          have HI := Lib.hid (fun W => ncIn_any 0 0 true 0 false G1 9 W)
          rw [show ncIn 0 true false G1 9 = 1 from rfl] at HI
          unfold ncV at HP HI
          have hx := X.lt
          have X' := X
          obtain ⟨a0, a1, a2, a3, a4, a5, az⟩ := X'
          go_wp2_with (first
            | go_skip
            | (go_at_call 22; (with_reducible refine (HP.out _).mono ?_); rintro e wp ⟨rfl, hbp⟩; have Xp := X.on hbp; have Op := Lib.hid (O.out.on hbp); have bp := below_stepI bX hbp (Nat.le_refl _); clear hbp; have Xp' := Xp; obtain ⟨p0, p1, p2, p3, p4, p5, pz⟩ := Xp')
            | (go_at_call 13; (with_reducible refine (HI.out _).mono ?_); rintro e wi ⟨rfl, hbi⟩; have Xi := Xp.on hbi; have Oi := Lib.hid (Op.out.on hbi); have bi := below_stepI bp hbi (Nat.le_refl _); clear hbi)
            | (go_at_call 27; (with_reducible refine (HB1.out _).mono ?_); rintro e wb ⟨rfl, mb, rfl⟩)
            | (go_at_call 27; (with_reducible refine (HB0.out _).mono ?_); rintro e wb ⟨rfl, mb, rfl⟩))
          all_goals first | (exfalso; omega) | skip
          go_roundw
          case rel => exact ⟨j + 1, true, false, G1, gm, cm, lm, by omega, by go_num, rfl, rfl, rfl, (by decide : ¬ (true = true ∧ false = true)), by omega, by omega, by repeat' (first | with_reducible exact Xi | with_reducible exact Xi.drewN _ | with_reducible refine InN.drewN ?_ _ | with_reducible refine InN.drew ?_), by repeat' (first | with_reducible exact Oi.out | with_reducible refine Own.drewN ?_ _ | (with_reducible refine Own.on ?_ ((Below.refl _ _).drew))), LM, UM, CM, NG, by (repeat' (first | with_reducible exact Below.refl _ _ | with_reducible assumption | with_reducible apply below_drewN | with_reducible apply Below.drew | with_reducible apply Below.setCell | with_reducible apply Below.alloc | (simp; done) | omega | (simp; omega)))⟩
          case measure => simp [intOf]; omega
        · skip
          have HC1 := Lib.hid (fun A c W (hm : Mem W A N c lj) => show Calls Try.prog 19 #[ncV 0 0 false 0 false G1, .slice A N c, .string DT] W (RecPost N lj 0 0 false 0 false G1 false False DT 0 W) from (recB_no N lj 0 0 false 0 false G1 DT 0 (by omega) (by omega) (by omega) (by omega) (fun h => by simp at h)).1 A c W hm)
          have HB1 := Lib.hid (fun W => bit_any false W)
          have HB0 := Lib.hid (fun W => bit_any false W)
          simp only [if_true, Bool.false_eq_true, if_false] at HB1 HB0
          unfold RecPost ncV at HC1
          go_wp2_with (first
            | go_skip
            | (go_at_call 10; (with_reducible refine (HR3.out _).mono ?_); rintro e wr3 ⟨rfl, rfl⟩))
          obtain ⟨W6, hW6⟩ : ∃ W, wr.drew = W := ⟨_, rfl⟩
          have X6 : InN wr gn 0 0 false 0 false G1 := HX.out
          have O6 := HO1
          have lx6 := X6.lt
          have lo6 := O6.out.lt
          have hcz := hc
          have m6 : ¬ wr.heap.size = gn := by omega
          have mz : ¬ wr.heap.size = zb := by have := World.block_lt_of_cell? wr _ hcz; omega
          clear hW6
          have bb : Below wr.heap.size wr wr.drew := (Below.refl _ _).drew
          go_region_held3 (fun w' => w'.cell? ⟨gn, 0, none⟩ = some (.int .u32 0) ∧ w'.cell? ⟨gn, 1, none⟩ = some (.int .u32 0) ∧ w'.cell? ⟨gn, 2, none⟩ = some (.bool false) ∧ w'.cell? ⟨gn, 3, none⟩ = some (.int .u32 0) ∧ w'.cell? ⟨gn, 4, none⟩ = some (.bool false) ∧ w'.cell? ⟨gn, 5, none⟩ = some (.int .u32 G1) ∧ w'.cell? ⟨zb, zo + j, none⟩ = some (.int .i64 zj)) (first | with_reducible exact ⟨stillI X6.c0 bb, stillI X6.c1 bb, stillI X6.c2 bb, stillI X6.c3 bb, stillI X6.c4 bb, stillI X6.c5 bb, stillI hcz bb⟩ | with_reducible exact ⟨Lib.cell?_alloc_some _ (stillI X6.c0 bb), Lib.cell?_alloc_some _ (stillI X6.c1 bb), Lib.cell?_alloc_some _ (stillI X6.c2 bb), Lib.cell?_alloc_some _ (stillI X6.c3 bb), Lib.cell?_alloc_some _ (stillI X6.c4 bb), Lib.cell?_alloc_some _ (stillI X6.c5 bb), Lib.cell?_alloc_some _ (stillI hcz bb)⟩ | with_reducible exact ⟨Lib.cell?_alloc_some _ X6.c0, Lib.cell?_alloc_some _ X6.c1, Lib.cell?_alloc_some _ X6.c2, Lib.cell?_alloc_some _ X6.c3, Lib.cell?_alloc_some _ X6.c4, Lib.cell?_alloc_some _ X6.c5, Lib.cell?_alloc_some _ hcz⟩ | with_reducible exact ⟨(far6 _ m6 _ _ _ _ _ _ 0).trans (stillI X6.c0 bb), (far6 _ m6 _ _ _ _ _ _ 1).trans (stillI X6.c1 bb), (far6 _ m6 _ _ _ _ _ _ 2).trans (stillI X6.c2 bb), (far6 _ m6 _ _ _ _ _ _ 3).trans (stillI X6.c3 bb), (far6 _ m6 _ _ _ _ _ _ 4).trans (stillI X6.c4 bb), (far6 _ m6 _ _ _ _ _ _ 5).trans (stillI X6.c5 bb), (far6 _ mz _ _ _ _ _ _ (zo + j)).trans (stillI hcz bb)⟩ | with_reducible exact ⟨(far6 _ n7 _ _ _ _ _ _ 0).trans (stillI X6.c0 bb), (far6 _ n7 _ _ _ _ _ _ 1).trans (stillI X6.c1 bb), (far6 _ n7 _ _ _ _ _ _ 2).trans (stillI X6.c2 bb), (far6 _ n7 _ _ _ _ _ _ 3).trans (stillI X6.c3 bb), (far6 _ n7 _ _ _ _ _ _ 4).trans (stillI X6.c4 bb), (far6 _ n7 _ _ _ _ _ _ 5).trans (stillI X6.c5 bb), (far6 _ nz _ _ _ _ _ _ (zo + j)).trans (stillI hcz bb)⟩ | with_reducible exact ⟨((X6.alloc _).drew).c0, ((X6.alloc _).drew).c1, ((X6.alloc _).drew).c2, ((X6.alloc _).drew).c3, ((X6.alloc _).drew).c4, ((X6.alloc _).drew).c5, stillI (Lib.cell?_alloc_some _ hcz) ((Below.refl _ _).drew)⟩ | go_keep) (first
            | (go_at_call 17; (with_reducible refine (HDT.out wr.drew).mono ?_); rintro e w7 ⟨rfl, hb7⟩; replace bb : Below wr.heap.size wr w7 := below_stepI (Below.refl _ _).drew hb7 (Nat.le_refl _); have q7 := bb.size; have n7 : ¬ w7.heap.size = gn := (by omega); have nz : ¬ w7.heap.size = zb := (by have := World.block_lt_of_cell? wr _ hcz; omega); clear hb7)
            | (go_at_call 17; (with_reducible refine (HDT.out (wr.alloc (.cells #[.int .u32 0, .int .u32 0, .bool false, .int .u32 0, .bool false, .int .u32 0] 24)).drew).mono ?_); rintro e w7 ⟨rfl, hb7⟩; replace bb : Below wr.heap.size wr w7 := below_stepI (((Below.refl _ _).alloc (Nat.le_refl _) (.cells #[.int .u32 0, .int .u32 0, .bool false, .int .u32 0, .bool false, .int .u32 0] 24)).drew) hb7 (Nat.le_refl _); have Y7 : InN w7 wr.heap.size 0 0 false 0 false 0 := ((InN.new _ _ _ _ _ _ _ _).drew).on hb7; clear hb7)
            | (go_at_call 19; have Y7' := Y7; (with_reducible refine (HC1.out _ _ w7 (Own.mem (O6.out.on bb) LJ.out CJ (by omega) UJ.out)).mono ?_); rintro e w8 ⟨⟨A8, c8, l8, rfl, hm8, ho8, _, _⟩, hb8⟩; obtain ⟨g8, rfl, hg8, hO8⟩ := ho8 (by omega); have L8 := Lib.hid hm8.1; have U8 := Lib.hid hm8.2.2.2.1; have C8 := hm8.2.1; have q8 := hb8.size; have HO8 := Lib.hid hO8; have lo8 := hO8.lt; clear hm8 ho8 hO8; replace bb : Below wr.heap.size wr w8 := below_stepI bb hb8 (Nat.le_refl _); have Y8 : InN w8 wr.heap.size 0 0 false 0 false 0 := Y7.on hb8; have ly7 := Y7.lt; clear hb8; have l8' := Y8.lt; have Y8' := Y8; obtain ⟨y0, y1, y2, y3, y4, y5, yz⟩ := Y8'; have z0 := yz 0; have z1 := yz 1; have z2 := yz 2; have z3 := yz 3; have z4 := yz 4; have z5 := yz 5)
            | (go_at_call 19; (with_reducible refine (HC1.out _ _ w7 (Own.mem (O6.out.on bb) LJ.out CJ (by omega) UJ.out)).mono ?_); rintro e w8 ⟨⟨A8, c8, l8, rfl, hm8, ho8, _, _⟩, hb8⟩; obtain ⟨g8, rfl, hg8, hO8⟩ := ho8 (by omega); have L8 := Lib.hid hm8.1; have U8 := Lib.hid hm8.2.2.2.1; have C8 := hm8.2.1; have q8 := hb8.size; have HO8 := Lib.hid hO8; have lo8 := hO8.lt; clear hm8 ho8 hO8; replace bb : Below wr.heap.size wr w8 := below_stepI bb hb8 (Nat.le_refl _); clear hb8)
            | (go_at_call 19; (with_reducible refine (HC1.out _ _ (w7.alloc (.cells #[.int .u32 0, .int .u32 0, .bool false, .int .u32 0, .bool false, .int .u32 0] 24)) (Own.mem ((O6.out.on bb).on ((Below.refl _ _).alloc (Nat.le_refl _) _)) LJ.out CJ (by omega) UJ.out)).mono ?_); rintro e w8 ⟨⟨A8, c8, l8, rfl, hm8, ho8, _, _⟩, hb8⟩; obtain ⟨g8, rfl, hg8, hO8⟩ := ho8 (by omega); have L8 := Lib.hid hm8.1; have U8 := Lib.hid hm8.2.2.2.1; have C8 := hm8.2.1; have q8 := hb8.size; have HO8 := Lib.hid hO8; have lo8 := hO8.lt; clear hm8 ho8 hO8; have Y8 : InN w8 w7.heap.size 0 0 false 0 false 0 := (InN.new _ _ _ _ _ _ _ _).on hb8; have hg8' : w7.heap.size < g8 := Nat.lt_of_lt_of_le (by simp) hg8; replace bb : Below wr.heap.size wr w8 := below_stepI (bb.alloc q7 (.cells #[.int .u32 0, .int .u32 0, .bool false, .int .u32 0, .bool false, .int .u32 0] 24)) hb8 (Nat.le_refl _); clear hb8; have l8' := Y8.lt; have Y8' := Y8; obtain ⟨y0, y1, y2, y3, y4, y5, yz⟩ := Y8'; have z0 := yz 0; have z1 := yz 1; have z2 := yz 2; have z3 := yz 3; have z4 := yz 4; have z5 := yz 5))
          all_goals first
            | (obtain ⟨W9, hW⟩ : ∃ W, w8.alloc (.cells #[.int .u32 0, .int .u32 0, .bool false, .int .u32 0, .bool false, .int .u32 G1] 24) = W := ⟨_, rfl⟩
               obtain ⟨g9, hg9⟩ : ∃ g, w8.heap.size = g := ⟨_, rfl⟩
               rw [hW, hg9]
               have q9 := bb.size
               have X9 : InN W9 gn 0 0 false 0 false G1 := by rw [← hW]; exact (X6.on bb).alloc _
               have Y9 : InN W9 g9 0 0 false 0 false G1 := by rw [← hW, ← hg9]; exact InN.new _ _ _ _ _ _ _ _
               have O9 : Hid (Own W9 g8 l8) := by show Own _ _ _; rw [← hW]; exact HO8.out.on ((Below.refl _ _).alloc (Nat.le_refl _) _)
               have b9 : Below w.heap.size w W9 := by rw [← hW]; exact (below_stepI HB.out bb (Nat.le_refl _)).alloc (by omega) _
               have gg : gn < g8 := Nat.lt_of_lt_of_le (by first | omega | (simp <;> omega)) hg8
               clear hW hg9)
            | (obtain ⟨W9, hW⟩ : ∃ W, ((((((w8.setCell ⟨w7.heap.size, 0, none⟩ (.int .u32 0)).setCell ⟨w7.heap.size, 1, none⟩ (.int .u32 0)).setCell ⟨w7.heap.size, 2, none⟩ (.bool false)).setCell ⟨w7.heap.size, 3, none⟩ (.int .u32 0)).setCell ⟨w7.heap.size, 4, none⟩ (.bool false)).setCell ⟨w7.heap.size, 5, none⟩ (.int .u32 G1)) = W := ⟨_, rfl⟩
               obtain ⟨g9, hg9⟩ : ∃ g, w7.heap.size = g := ⟨_, rfl⟩
               rw [hW]
               have q9 := bb.size
               have X9 : InN W9 gn 0 0 false 0 false G1 := by rw [← hW]; exact (X6.on bb).far6 (by omega) _ _ _ _ _ _
               have Y9 : InN W9 g9 0 0 false 0 false G1 := by rw [← hW, ← hg9]; exact Y8.st6 _ _ _ _ _ _
               have O9 : Hid (Own W9 g8 l8) := by show Own _ _ _; rw [← hW]; exact HO8.out.far6 (by omega) _ _ _ _ _ _
               have b9 : Below w.heap.size w W9 := by rw [← hW]; exact below_st6 (below_stepI HB.out bb (Nat.le_refl _)) (by omega) _ _ _ _ _ _
               have gg : gn < g8 := by omega
               rw [hg9]
               clear hW hg9)
            | (obtain ⟨W9, hW⟩ : ∃ W, ((((((w8.setCell ⟨wr.heap.size, 0, none⟩ (.int .u32 0)).setCell ⟨wr.heap.size, 1, none⟩ (.int .u32 0)).setCell ⟨wr.heap.size, 2, none⟩ (.bool false)).setCell ⟨wr.heap.size, 3, none⟩ (.int .u32 0)).setCell ⟨wr.heap.size, 4, none⟩ (.bool false)).setCell ⟨wr.heap.size, 5, none⟩ (.int .u32 G1)) = W := ⟨_, rfl⟩
               obtain ⟨g9, hg9⟩ : ∃ g, wr.heap.size = g := ⟨_, rfl⟩
               rw [hW]
               have q9 := bb.size
               have X9 : InN W9 gn 0 0 false 0 false G1 := by rw [← hW]; exact (X6.on bb).far6 (by omega) _ _ _ _ _ _
               have Y9 : InN W9 g9 0 0 false 0 false G1 := by rw [← hW, ← hg9]; exact Y8.st6 _ _ _ _ _ _
               have O9 : Hid (Own W9 g8 l8) := by show Own _ _ _; rw [← hW]; exact HO8.out.far6 (by omega) _ _ _ _ _ _
               have b9 : Below w.heap.size w W9 := by rw [← hW]; exact below_st6 (below_stepI HB.out bb (Nat.le_refl _)) (by omega) _ _ _ _ _ _
               have gg : gn < g8 := by omega
               rw [hg9]
               clear hW hg9)
          all_goals
            have lx9 := X9.lt
            have ly9 := Y9.lt
            have lo9 := O9.out.lt
            have X9' := X9
            have Y9' := Y9
            obtain ⟨c0, c1, c2, c3, c4, c5, cz⟩ := X9'
            obtain ⟨d0, d1, d2, d3, d4, d5, dz⟩ := Y9'
            have z0 := cz 0; have z1 := cz 1; have z2 := cz 2; have z3 := cz 3; have z4 := cz 4; have z5 := cz 5
            refine Lib.hid ?_
            repeat' (first | (with_reducible refine then_normal ?_) | (with_reducible refine wp_exit ?_) | (with_reducible refine wp_ret ?_) | (with_reducible refine then_exit ?_) | (with_reducible refine blk_hit ?_) | (with_reducible refine blk_pass (by decide) ?_) | (with_reducible refine then_ret ?_) | (with_reducible refine blk_ret ?_) | (with_reducible refine blk_normal ?_) | go_values | go_skip | go_guarded | go_step | go_upon | (simp only [Int.not_lt, Int.not_le] at *; go_simp) | (go_values <;> (try go_simp)) | (go_ite <;> go_prune <;> (try go_simp)))
            obtain ⟨W3, hW⟩ : ∃ W, ((((((W9.setCell ⟨gn, 0, none⟩ (.int .u32 0)).setCell ⟨gn, 1, none⟩ (.int .u32 0)).setCell ⟨gn, 2, none⟩ (.bool false)).setCell ⟨gn, 3, none⟩ (.int .u32 0)).setCell ⟨gn, 4, none⟩ (.bool false)).setCell ⟨gn, 5, none⟩ (.int .u32 G1)) = W := ⟨_, rfl⟩
            have X : InN W3 gn 0 0 false 0 false G1 := by rw [← hW]; exact X9.st6 _ _ _ _ _ _
            have O : Hid (Own W3 g8 l8) := by show Own _ _ _; rw [← hW]; exact O9.out.far6 (by omega) _ _ _ _ _ _
            have bX : Below w.heap.size w W3 := by rw [← hW]; exact below_st6 b9 hgn _ _ _ _ _ _
            rw [hW]
            clear hW X9 Y9 O9 b9 c0 c1 c2 c3 c4 c5 cz d0 d1 d2 d3 d4 d5 dz z0 z1 z2 z3 z4 z5
            have LM := L8
            have UM := U8
            have CM := C8
            have NG8 : ¬ gn = g8 := by omega
            have HP := Lib.hid (fun W => ncPend_any 0 0 false 0 false G1 W)
            have HI := Lib.hid (fun W => ncIn_any 0 0 false 0 false G1 9 W)
            rw [show ncIn 0 false false G1 9 = 0 from rfl] at HI
            unfold ncV at HP HI
            have hx := X.lt
            have X' := X
            obtain ⟨a0, a1, a2, a3, a4, a5, az⟩ := X'
            go_wp2_with (first
              | go_skip
              | (go_at_call 22; (with_reducible refine (HP.out _).mono ?_); rintro e wp ⟨rfl, hbp⟩; have Xp := X.on hbp; have Op := Lib.hid (O.out.on hbp); have bp := below_stepI bX hbp (Nat.le_refl _); clear hbp; have Xp' := Xp; obtain ⟨p0, p1, p2, p3, p4, p5, pz⟩ := Xp')
              | (go_at_call 13; (with_reducible refine (HI.out _).mono ?_); rintro e wi ⟨rfl, hbi⟩; have Xi := Xp.on hbi; have Oi := Lib.hid (Op.out.on hbi); have bi := below_stepI bp hbi (Nat.le_refl _); clear hbi)
              | (go_at_call 27; (with_reducible refine (HB1.out _).mono ?_); rintro e wb ⟨rfl, mb, rfl⟩)
              | (go_at_call 27; (with_reducible refine (HB0.out _).mono ?_); rintro e wb ⟨rfl, mb, rfl⟩))
            all_goals first | (exfalso; omega) | skip
            go_roundw
            case rel => exact ⟨j + 1, false, false, G1, g8, c8, l8, by omega, by go_num, rfl, rfl, rfl, (by decide : ¬ (false = true ∧ false = true)), by omega, by omega, by repeat' (first | with_reducible exact Xi | with_reducible exact Xi.drewN _ | with_reducible refine InN.drewN ?_ _ | with_reducible refine InN.drew ?_), by repeat' (first | with_reducible exact Oi.out | with_reducible refine Own.drewN ?_ _ | (with_reducible refine Own.on ?_ ((Below.refl _ _).drew))), LM, UM, CM, NG8, by (repeat' (first | with_reducible exact Below.refl _ _ | with_reducible assumption | with_reducible apply below_drewN | with_reducible apply Below.drew | with_reducible apply Below.setCell | with_reducible apply Below.alloc | (simp; done) | omega | (simp; omega)))⟩
            case measure => simp [intOf]; omega
        · skip
          have HO := Lib.hid (fun A c W (hm : Mem W A N c lj) => show Calls Try.prog 11 #[ncV 0 0 false 0 false G1, .slice A N c, .int .i64 9, .int .u32 0, .int .u64 0] W (NutPost 0 0 false 0 false 0 none W) from (nut_ack N lj 0 0 false 0 false G1 0).1 A c W hm)
          have HB1 := Lib.hid (fun W => bit_any false W)
          have HB0 := Lib.hid (fun W => bit_any false W)
          simp only [if_true, Bool.false_eq_true, if_false] at HB1 HB0
          unfold NutPost ncV at HO
          go_wp2_with (first
            | go_skip
            | (go_at_call 10; (with_reducible refine (HR3.out _).mono ?_); rintro e wr3 ⟨rfl, rfl⟩)
            | (go_at_call 11; (with_reducible refine (HO.out _ _ _ (HM.out.on (by (repeat' (first | with_reducible exact Below.refl _ _ | with_reducible assumption | with_reducible apply below_drewN | with_reducible apply Below.drew | with_reducible apply Below.setCell | with_reducible apply Below.alloc | (simp; done) | omega | (simp; omega)))))).mono ?_); rintro e w2 ⟨⟨s2, rfl, hs2⟩, hb2⟩; obtain rfl : s2 = .slice none 0 0 := hs2; have X2 := HX.out.on hb2; have O2 := Lib.hid (HO1.out.on hb2); have b2 : Below w.heap.size w w2 := below_stepI HB.out hb2 (Nat.le_refl _); clear hb2; have lx2 := X2.lt; have lo2 := O2.out.lt; have X2' := X2; obtain ⟨c0, c1, c2, c3, c4, c5, cz⟩ := X2'; have z0 := cz 0; have z1 := cz 1; have z2 := cz 2; have z3 := cz 3; have z4 := cz 4; have z5 := cz 5; refine Hid.out ?_))
          refine Lib.hid ?_
          repeat' (first | (with_reducible refine then_normal ?_) | (with_reducible refine wp_exit ?_) | (with_reducible refine wp_ret ?_) | (with_reducible refine then_exit ?_) | (with_reducible refine blk_hit ?_) | (with_reducible refine blk_pass (by decide) ?_) | (with_reducible refine then_ret ?_) | (with_reducible refine blk_ret ?_) | (with_reducible refine blk_normal ?_) | go_values | go_skip | go_guarded | go_step | go_upon | (simp only [Int.not_lt, Int.not_le] at *; go_simp) | (go_values <;> (try go_simp)) | (go_ite <;> go_prune <;> (try go_simp)))
          obtain ⟨W3, hW⟩ : ∃ W, ((((((w2.setCell ⟨gn, 0, none⟩ (.int .u32 0)).setCell ⟨gn, 1, none⟩ (.int .u32 0)).setCell ⟨gn, 2, none⟩ (.bool false)).setCell ⟨gn, 3, none⟩ (.int .u32 0)).setCell ⟨gn, 4, none⟩ (.bool false)).setCell ⟨gn, 5, none⟩ (.int .u32 0)) = W := ⟨_, rfl⟩
          have X : InN W3 gn 0 0 false 0 false 0 := by rw [← hW]; exact X2.st6 _ _ _ _ _ _
          have O : Hid (Own W3 gm lj) := by show Own _ _ _; rw [← hW]; exact O2.out.far6 (by omega) _ _ _ _ _ _
          have bX : Below w.heap.size w W3 := by rw [← hW]; exact below_st6 b2 hgn _ _ _ _ _ _
          rw [hW]
          clear hW X2 O2 b2 c0 c1 c2 c3 c4 c5 cz z0 z1 z2 z3 z4 z5
          obtain ⟨cm, hcm⟩ : ∃ x, cj = x := ⟨_, rfl⟩
          obtain ⟨lm, hlm⟩ : ∃ x, lj = x := ⟨_, rfl⟩
          have LM : Hid (lm.length = N) := by rw [← hlm]; exact LJ
          have UM : Hid (U32 lm) := by rw [← hlm]; exact UJ
          have CM : N ≤ cm := by rw [← hcm]; exact CJ
          rw [hlm] at O
          rw [hcm]
          have HP := Lib.hid (fun W => ncPend_any 0 0 false 0 false 0 W)
          have HI := Lib.hid (fun W => ncIn_any 0 0 false 0 false 0 9 W)
          rw [show ncIn 0 false false 0 9 = 0 from rfl] at HI
          unfold ncV at HP HI
          have hx := X.lt
          have X' := X
          obtain ⟨a0, a1, a2, a3, a4, a5, az⟩ := X'
          go_wp2_with (first
            | go_skip
            | (go_at_call 22; (with_reducible refine (HP.out _).mono ?_); rintro e wp ⟨rfl, hbp⟩; have Xp := X.on hbp; have Op := Lib.hid (O.out.on hbp); have bp := below_stepI bX hbp (Nat.le_refl _); clear hbp; have Xp' := Xp; obtain ⟨p0, p1, p2, p3, p4, p5, pz⟩ := Xp')
            | (go_at_call 13; (with_reducible refine (HI.out _).mono ?_); rintro e wi ⟨rfl, hbi⟩; have Xi := Xp.on hbi; have Oi := Lib.hid (Op.out.on hbi); have bi := below_stepI bp hbi (Nat.le_refl _); clear hbi)
            | (go_at_call 27; (with_reducible refine (HB1.out _).mono ?_); rintro e wb ⟨rfl, mb, rfl⟩)
            | (go_at_call 27; (with_reducible refine (HB0.out _).mono ?_); rintro e wb ⟨rfl, mb, rfl⟩))
          all_goals first | (exfalso; omega) | skip
          go_roundw
          case rel => exact ⟨j + 1, false, false, 0, gm, cm, lm, by omega, by go_num, rfl, rfl, rfl, (by decide : ¬ (false = true ∧ false = true)), by omega, by omega, by repeat' (first | with_reducible exact Xi | with_reducible exact Xi.drewN _ | with_reducible refine InN.drewN ?_ _ | with_reducible refine InN.drew ?_), by repeat' (first | with_reducible exact Oi.out | with_reducible refine Own.drewN ?_ _ | (with_reducible refine Own.on ?_ ((Below.refl _ _).drew))), LM, UM, CM, NG, by (repeat' (first | with_reducible exact Below.refl _ _ | with_reducible assumption | with_reducible apply below_drewN | with_reducible apply Below.drew | with_reducible apply Below.setCell | with_reducible apply Below.alloc | (simp; done) | omega | (simp; omega)))⟩
          case measure => simp [intOf]; omega
      · skip
        rcases q3 with rfl | rfl | rfl
        · skip
          have HO := Lib.hid (fun A c W (hm : Mem W A N c lj) => show Calls Try.prog 11 #[ncV 0 0 false 0 true G1, .slice A N c, .int .i64 9, .int .u32 2, .int .u64 0] W (NutPost 0 0 false 0 true G1 none W) from (nut_nopost N lj 0 0 false 0 true G1 0 (by omega) (by omega) (fun h => by simp at h)).1 A c W hm)
          have HB1 := Lib.hid (fun W => bit_any false W)
          have HB0 := Lib.hid (fun W => bit_any true W)
          simp only [if_true, Bool.false_eq_true, if_false] at HB1 HB0
          unfold NutPost ncV at HO
          go_wp2_with (first
            | go_skip
            | (go_at_call 10; (with_reducible refine (HR3.out _).mono ?_); rintro e wr3 ⟨rfl, rfl⟩)
            | (go_at_call 11; (with_reducible refine (HO.out _ _ _ (HM.out.on (by (repeat' (first | with_reducible exact Below.refl _ _ | with_reducible assumption | with_reducible apply below_drewN | with_reducible apply Below.drew | with_reducible apply Below.setCell | with_reducible apply Below.alloc | (simp; done) | omega | (simp; omega)))))).mono ?_); rintro e w2 ⟨⟨s2, rfl, hs2⟩, hb2⟩; obtain rfl : s2 = .slice none 0 0 := hs2; have X2 := HX.out.on hb2; have O2 := Lib.hid (HO1.out.on hb2); have b2 : Below w.heap.size w w2 := below_stepI HB.out hb2 (Nat.le_refl _); clear hb2; have lx2 := X2.lt; have lo2 := O2.out.lt; have X2' := X2; obtain ⟨c0, c1, c2, c3, c4, c5, cz⟩ := X2'; have z0 := cz 0; have z1 := cz 1; have z2 := cz 2; have z3 := cz 3; have z4 := cz 4; have z5 := cz 5; refine Hid.out ?_))
          refine Lib.hid ?_
          repeat' (first | (with_reducible refine then_normal ?_) | (with_reducible refine wp_exit ?_) | (with_reducible refine wp_ret ?_) | (with_reducible refine then_exit ?_) | (with_reducible refine blk_hit ?_) | (with_reducible refine blk_pass (by decide) ?_) | (with_reducible refine then_ret ?_) | (with_reducible refine blk_ret ?_) | (with_reducible refine blk_normal ?_) | go_values | go_skip | go_guarded | go_step | go_upon | (simp only [Int.not_lt, Int.not_le] at *; go_simp) | (go_values <;> (try go_simp)) | (go_ite <;> go_prune <;> (try go_simp)))
          obtain ⟨W3, hW⟩ : ∃ W, ((((((w2.setCell ⟨gn, 0, none⟩ (.int .u32 0)).setCell ⟨gn, 1, none⟩ (.int .u32 0)).setCell ⟨gn, 2, none⟩ (.bool false)).setCell ⟨gn, 3, none⟩ (.int .u32 0)).setCell ⟨gn, 4, none⟩ (.bool true)).setCell ⟨gn, 5, none⟩ (.int .u32 G1)) = W := ⟨_, rfl⟩
          have X : InN W3 gn 0 0 false 0 true G1 := by rw [← hW]; exact X2.st6 _ _ _ _ _ _
          have O : Hid (Own W3 gm lj) := by show Own _ _ _; rw [← hW]; exact O2.out.far6 (by omega) _ _ _ _ _ _
          have bX : Below w.heap.size w W3 := by rw [← hW]; exact below_st6 b2 hgn _ _ _ _ _ _
          rw [hW]
          clear hW X2 O2 b2 c0 c1 c2 c3 c4 c5 cz z0 z1 z2 z3 z4 z5
          obtain ⟨cm, hcm⟩ : ∃ x, cj = x := ⟨_, rfl⟩
          obtain ⟨lm, hlm⟩ : ∃ x, lj = x := ⟨_, rfl⟩
          have LM : Hid (lm.length = N) := by rw [← hlm]; exact LJ
          have UM : Hid (U32 lm) := by rw [← hlm]; exact UJ
          have CM : N ≤ cm := by rw [← hcm]; exact CJ
          rw [hlm] at O
          rw [hcm]
          have HP := Lib.hid (fun W => ncPend_any 0 0 false 0 true G1 W)
          have HI := Lib.hid (fun W => ncIn_any 0 0 false 0 true G1 9 W)
          rw [show ncIn 0 false true G1 9 = 2 from rfl] at HI
          unfold ncV at HP HI
          have hx := X.lt
          have X' := X
          obtain ⟨a0, a1, a2, a3, a4, a5, az⟩ := X'
          go_wp2_with (first
            | go_skip
            | (go_at_call 22; (with_reducible refine (HP.out _).mono ?_); rintro e wp ⟨rfl, hbp⟩; have Xp := X.on hbp; have Op := Lib.hid (O.out.on hbp); have bp := below_stepI bX hbp (Nat.le_refl _); clear hbp; have Xp' := Xp; obtain ⟨p0, p1, p2, p3, p4, p5, pz⟩ := Xp')
            | (go_at_call 13; (with_reducible refine (HI.out _).mono ?_); rintro e wi ⟨rfl, hbi⟩; have Xi := Xp.on hbi; have Oi := Lib.hid (Op.out.on hbi); have bi := below_stepI bp hbi (Nat.le_refl _); clear hbi)
            | (go_at_call 27; (with_reducible refine (HB1.out _).mono ?_); rintro e wb ⟨rfl, mb, rfl⟩)
            | (go_at_call 27; (with_reducible refine (HB0.out _).mono ?_); rintro e wb ⟨rfl, mb, rfl⟩))
          all_goals first | (exfalso; omega) | skip
          go_roundw
          case rel => exact ⟨j + 1, false, true, G1, gm, cm, lm, by omega, by go_num, rfl, rfl, rfl, (by decide : ¬ (false = true ∧ true = true)), by omega, by omega, by repeat' (first | with_reducible exact Xi | with_reducible exact Xi.drewN _ | with_reducible refine InN.drewN ?_ _ | with_reducible refine InN.drew ?_), by repeat' (first | with_reducible exact Oi.out | with_reducible refine Own.drewN ?_ _ | (with_reducible refine Own.on ?_ ((Below.refl _ _).drew))), LM, UM, CM, NG, by (repeat' (first | with_reducible exact Below.refl _ _ | with_reducible assumption | with_reducible apply below_drewN | with_reducible apply Below.drew | with_reducible apply Below.setCell | with_reducible apply Below.alloc | (simp; done) | omega | (simp; omega)))⟩
          case measure => simp [intOf]; omega
        · skip
          have HC1 := Lib.hid (fun A c W (hm : Mem W A N c lj) => show Calls Try.prog 19 #[ncV 0 0 false 0 true G1, .slice A N c, .string DT] W (RecPost N lj 0 0 false 0 true G1 false False DT 0 W) from (recB_no N lj 0 0 false 0 true G1 DT 0 (by omega) (by omega) (by omega) (by omega) (fun h => by simp at h)).1 A c W hm)
          have HB1 := Lib.hid (fun W => bit_any false W)
          have HB0 := Lib.hid (fun W => bit_any true W)
          simp only [if_true, Bool.false_eq_true, if_false] at HB1 HB0
          unfold RecPost ncV at HC1
          go_wp2_with (first
            | go_skip
            | (go_at_call 10; (with_reducible refine (HR3.out _).mono ?_); rintro e wr3 ⟨rfl, rfl⟩))
          obtain ⟨W6, hW6⟩ : ∃ W, wr.drew = W := ⟨_, rfl⟩
          have X6 : InN wr gn 0 0 false 0 true G1 := HX.out
          have O6 := HO1
          have lx6 := X6.lt
          have lo6 := O6.out.lt
          have hcz := hc
          have m6 : ¬ wr.heap.size = gn := by omega
          have mz : ¬ wr.heap.size = zb := by have := World.block_lt_of_cell? wr _ hcz; omega
          clear hW6
          have bb : Below wr.heap.size wr wr.drew := (Below.refl _ _).drew
          go_region_held3 (fun w' => w'.cell? ⟨gn, 0, none⟩ = some (.int .u32 0) ∧ w'.cell? ⟨gn, 1, none⟩ = some (.int .u32 0) ∧ w'.cell? ⟨gn, 2, none⟩ = some (.bool false) ∧ w'.cell? ⟨gn, 3, none⟩ = some (.int .u32 0) ∧ w'.cell? ⟨gn, 4, none⟩ = some (.bool true) ∧ w'.cell? ⟨gn, 5, none⟩ = some (.int .u32 G1) ∧ w'.cell? ⟨zb, zo + j, none⟩ = some (.int .i64 zj)) (first | with_reducible exact ⟨stillI X6.c0 bb, stillI X6.c1 bb, stillI X6.c2 bb, stillI X6.c3 bb, stillI X6.c4 bb, stillI X6.c5 bb, stillI hcz bb⟩ | with_reducible exact ⟨Lib.cell?_alloc_some _ (stillI X6.c0 bb), Lib.cell?_alloc_some _ (stillI X6.c1 bb), Lib.cell?_alloc_some _ (stillI X6.c2 bb), Lib.cell?_alloc_some _ (stillI X6.c3 bb), Lib.cell?_alloc_some _ (stillI X6.c4 bb), Lib.cell?_alloc_some _ (stillI X6.c5 bb), Lib.cell?_alloc_some _ (stillI hcz bb)⟩ | with_reducible exact ⟨Lib.cell?_alloc_some _ X6.c0, Lib.cell?_alloc_some _ X6.c1, Lib.cell?_alloc_some _ X6.c2, Lib.cell?_alloc_some _ X6.c3, Lib.cell?_alloc_some _ X6.c4, Lib.cell?_alloc_some _ X6.c5, Lib.cell?_alloc_some _ hcz⟩ | with_reducible exact ⟨(far6 _ m6 _ _ _ _ _ _ 0).trans (stillI X6.c0 bb), (far6 _ m6 _ _ _ _ _ _ 1).trans (stillI X6.c1 bb), (far6 _ m6 _ _ _ _ _ _ 2).trans (stillI X6.c2 bb), (far6 _ m6 _ _ _ _ _ _ 3).trans (stillI X6.c3 bb), (far6 _ m6 _ _ _ _ _ _ 4).trans (stillI X6.c4 bb), (far6 _ m6 _ _ _ _ _ _ 5).trans (stillI X6.c5 bb), (far6 _ mz _ _ _ _ _ _ (zo + j)).trans (stillI hcz bb)⟩ | with_reducible exact ⟨(far6 _ n7 _ _ _ _ _ _ 0).trans (stillI X6.c0 bb), (far6 _ n7 _ _ _ _ _ _ 1).trans (stillI X6.c1 bb), (far6 _ n7 _ _ _ _ _ _ 2).trans (stillI X6.c2 bb), (far6 _ n7 _ _ _ _ _ _ 3).trans (stillI X6.c3 bb), (far6 _ n7 _ _ _ _ _ _ 4).trans (stillI X6.c4 bb), (far6 _ n7 _ _ _ _ _ _ 5).trans (stillI X6.c5 bb), (far6 _ nz _ _ _ _ _ _ (zo + j)).trans (stillI hcz bb)⟩ | with_reducible exact ⟨((X6.alloc _).drew).c0, ((X6.alloc _).drew).c1, ((X6.alloc _).drew).c2, ((X6.alloc _).drew).c3, ((X6.alloc _).drew).c4, ((X6.alloc _).drew).c5, stillI (Lib.cell?_alloc_some _ hcz) ((Below.refl _ _).drew)⟩ | go_keep) (first
            | (go_at_call 17; (with_reducible refine (HDT.out wr.drew).mono ?_); rintro e w7 ⟨rfl, hb7⟩; replace bb : Below wr.heap.size wr w7 := below_stepI (Below.refl _ _).drew hb7 (Nat.le_refl _); have q7 := bb.size; have n7 : ¬ w7.heap.size = gn := (by omega); have nz : ¬ w7.heap.size = zb := (by have := World.block_lt_of_cell? wr _ hcz; omega); clear hb7)
            | (go_at_call 17; (with_reducible refine (HDT.out (wr.alloc (.cells #[.int .u32 0, .int .u32 0, .bool false, .int .u32 0, .bool false, .int .u32 0] 24)).drew).mono ?_); rintro e w7 ⟨rfl, hb7⟩; replace bb : Below wr.heap.size wr w7 := below_stepI (((Below.refl _ _).alloc (Nat.le_refl _) (.cells #[.int .u32 0, .int .u32 0, .bool false, .int .u32 0, .bool false, .int .u32 0] 24)).drew) hb7 (Nat.le_refl _); have Y7 : InN w7 wr.heap.size 0 0 false 0 false 0 := ((InN.new _ _ _ _ _ _ _ _).drew).on hb7; clear hb7)
            | (go_at_call 19; have Y7' := Y7; (with_reducible refine (HC1.out _ _ w7 (Own.mem (O6.out.on bb) LJ.out CJ (by omega) UJ.out)).mono ?_); rintro e w8 ⟨⟨A8, c8, l8, rfl, hm8, ho8, _, _⟩, hb8⟩; obtain ⟨g8, rfl, hg8, hO8⟩ := ho8 (by omega); have L8 := Lib.hid hm8.1; have U8 := Lib.hid hm8.2.2.2.1; have C8 := hm8.2.1; have q8 := hb8.size; have HO8 := Lib.hid hO8; have lo8 := hO8.lt; clear hm8 ho8 hO8; replace bb : Below wr.heap.size wr w8 := below_stepI bb hb8 (Nat.le_refl _); have Y8 : InN w8 wr.heap.size 0 0 false 0 false 0 := Y7.on hb8; have ly7 := Y7.lt; clear hb8; have l8' := Y8.lt; have Y8' := Y8; obtain ⟨y0, y1, y2, y3, y4, y5, yz⟩ := Y8'; have z0 := yz 0; have z1 := yz 1; have z2 := yz 2; have z3 := yz 3; have z4 := yz 4; have z5 := yz 5)
            | (go_at_call 19; (with_reducible refine (HC1.out _ _ w7 (Own.mem (O6.out.on bb) LJ.out CJ (by omega) UJ.out)).mono ?_); rintro e w8 ⟨⟨A8, c8, l8, rfl, hm8, ho8, _, _⟩, hb8⟩; obtain ⟨g8, rfl, hg8, hO8⟩ := ho8 (by omega); have L8 := Lib.hid hm8.1; have U8 := Lib.hid hm8.2.2.2.1; have C8 := hm8.2.1; have q8 := hb8.size; have HO8 := Lib.hid hO8; have lo8 := hO8.lt; clear hm8 ho8 hO8; replace bb : Below wr.heap.size wr w8 := below_stepI bb hb8 (Nat.le_refl _); clear hb8)
            | (go_at_call 19; (with_reducible refine (HC1.out _ _ (w7.alloc (.cells #[.int .u32 0, .int .u32 0, .bool false, .int .u32 0, .bool false, .int .u32 0] 24)) (Own.mem ((O6.out.on bb).on ((Below.refl _ _).alloc (Nat.le_refl _) _)) LJ.out CJ (by omega) UJ.out)).mono ?_); rintro e w8 ⟨⟨A8, c8, l8, rfl, hm8, ho8, _, _⟩, hb8⟩; obtain ⟨g8, rfl, hg8, hO8⟩ := ho8 (by omega); have L8 := Lib.hid hm8.1; have U8 := Lib.hid hm8.2.2.2.1; have C8 := hm8.2.1; have q8 := hb8.size; have HO8 := Lib.hid hO8; have lo8 := hO8.lt; clear hm8 ho8 hO8; have Y8 : InN w8 w7.heap.size 0 0 false 0 false 0 := (InN.new _ _ _ _ _ _ _ _).on hb8; have hg8' : w7.heap.size < g8 := Nat.lt_of_lt_of_le (by simp) hg8; replace bb : Below wr.heap.size wr w8 := below_stepI (bb.alloc q7 (.cells #[.int .u32 0, .int .u32 0, .bool false, .int .u32 0, .bool false, .int .u32 0] 24)) hb8 (Nat.le_refl _); clear hb8; have l8' := Y8.lt; have Y8' := Y8; obtain ⟨y0, y1, y2, y3, y4, y5, yz⟩ := Y8'; have z0 := yz 0; have z1 := yz 1; have z2 := yz 2; have z3 := yz 3; have z4 := yz 4; have z5 := yz 5))
          all_goals first
            | (obtain ⟨W9, hW⟩ : ∃ W, w8.alloc (.cells #[.int .u32 0, .int .u32 0, .bool false, .int .u32 0, .bool true, .int .u32 G1] 24) = W := ⟨_, rfl⟩
               obtain ⟨g9, hg9⟩ : ∃ g, w8.heap.size = g := ⟨_, rfl⟩
               rw [hW, hg9]
               have q9 := bb.size
               have X9 : InN W9 gn 0 0 false 0 true G1 := by rw [← hW]; exact (X6.on bb).alloc _
               have Y9 : InN W9 g9 0 0 false 0 true G1 := by rw [← hW, ← hg9]; exact InN.new _ _ _ _ _ _ _ _
               have O9 : Hid (Own W9 g8 l8) := by show Own _ _ _; rw [← hW]; exact HO8.out.on ((Below.refl _ _).alloc (Nat.le_refl _) _)
               have b9 : Below w.heap.size w W9 := by rw [← hW]; exact (below_stepI HB.out bb (Nat.le_refl _)).alloc (by omega) _
               have gg : gn < g8 := Nat.lt_of_lt_of_le (by first | omega | (simp <;> omega)) hg8
               clear hW hg9)
            | (obtain ⟨W9, hW⟩ : ∃ W, ((((((w8.setCell ⟨w7.heap.size, 0, none⟩ (.int .u32 0)).setCell ⟨w7.heap.size, 1, none⟩ (.int .u32 0)).setCell ⟨w7.heap.size, 2, none⟩ (.bool false)).setCell ⟨w7.heap.size, 3, none⟩ (.int .u32 0)).setCell ⟨w7.heap.size, 4, none⟩ (.bool true)).setCell ⟨w7.heap.size, 5, none⟩ (.int .u32 G1)) = W := ⟨_, rfl⟩
               obtain ⟨g9, hg9⟩ : ∃ g, w7.heap.size = g := ⟨_, rfl⟩
               rw [hW]
               have q9 := bb.size
               have X9 : InN W9 gn 0 0 false 0 true G1 := by rw [← hW]; exact (X6.on bb).far6 (by omega) _ _ _ _ _ _
               have Y9 : InN W9 g9 0 0 false 0 true G1 := by rw [← hW, ← hg9]; exact Y8.st6 _ _ _ _ _ _
               have O9 : Hid (Own W9 g8 l8) := by show Own _ _ _; rw [← hW]; exact HO8.out.far6 (by omega) _ _ _ _ _ _
               have b9 : Below w.heap.size w W9 := by rw [← hW]; exact below_st6 (below_stepI HB.out bb (Nat.le_refl _)) (by omega) _ _ _ _ _ _
               have gg : gn < g8 := by omega
               rw [hg9]
               clear hW hg9)
            | (obtain ⟨W9, hW⟩ : ∃ W, ((((((w8.setCell ⟨wr.heap.size, 0, none⟩ (.int .u32 0)).setCell ⟨wr.heap.size, 1, none⟩ (.int .u32 0)).setCell ⟨wr.heap.size, 2, none⟩ (.bool false)).setCell ⟨wr.heap.size, 3, none⟩ (.int .u32 0)).setCell ⟨wr.heap.size, 4, none⟩ (.bool true)).setCell ⟨wr.heap.size, 5, none⟩ (.int .u32 G1)) = W := ⟨_, rfl⟩
               obtain ⟨g9, hg9⟩ : ∃ g, wr.heap.size = g := ⟨_, rfl⟩
               rw [hW]
               have q9 := bb.size
               have X9 : InN W9 gn 0 0 false 0 true G1 := by rw [← hW]; exact (X6.on bb).far6 (by omega) _ _ _ _ _ _
               have Y9 : InN W9 g9 0 0 false 0 true G1 := by rw [← hW, ← hg9]; exact Y8.st6 _ _ _ _ _ _
               have O9 : Hid (Own W9 g8 l8) := by show Own _ _ _; rw [← hW]; exact HO8.out.far6 (by omega) _ _ _ _ _ _
               have b9 : Below w.heap.size w W9 := by rw [← hW]; exact below_st6 (below_stepI HB.out bb (Nat.le_refl _)) (by omega) _ _ _ _ _ _
               have gg : gn < g8 := by omega
               rw [hg9]
               clear hW hg9)
          all_goals
            have lx9 := X9.lt
            have ly9 := Y9.lt
            have lo9 := O9.out.lt
            have X9' := X9
            have Y9' := Y9
            obtain ⟨c0, c1, c2, c3, c4, c5, cz⟩ := X9'
            obtain ⟨d0, d1, d2, d3, d4, d5, dz⟩ := Y9'
            have z0 := cz 0; have z1 := cz 1; have z2 := cz 2; have z3 := cz 3; have z4 := cz 4; have z5 := cz 5
            refine Lib.hid ?_
            repeat' (first | (with_reducible refine then_normal ?_) | (with_reducible refine wp_exit ?_) | (with_reducible refine wp_ret ?_) | (with_reducible refine then_exit ?_) | (with_reducible refine blk_hit ?_) | (with_reducible refine blk_pass (by decide) ?_) | (with_reducible refine then_ret ?_) | (with_reducible refine blk_ret ?_) | (with_reducible refine blk_normal ?_) | go_values | go_skip | go_guarded | go_step | go_upon | (simp only [Int.not_lt, Int.not_le] at *; go_simp) | (go_values <;> (try go_simp)) | (go_ite <;> go_prune <;> (try go_simp)))
            obtain ⟨W3, hW⟩ : ∃ W, ((((((W9.setCell ⟨gn, 0, none⟩ (.int .u32 0)).setCell ⟨gn, 1, none⟩ (.int .u32 0)).setCell ⟨gn, 2, none⟩ (.bool false)).setCell ⟨gn, 3, none⟩ (.int .u32 0)).setCell ⟨gn, 4, none⟩ (.bool true)).setCell ⟨gn, 5, none⟩ (.int .u32 G1)) = W := ⟨_, rfl⟩
            have X : InN W3 gn 0 0 false 0 true G1 := by rw [← hW]; exact X9.st6 _ _ _ _ _ _
            have O : Hid (Own W3 g8 l8) := by show Own _ _ _; rw [← hW]; exact O9.out.far6 (by omega) _ _ _ _ _ _
            have bX : Below w.heap.size w W3 := by rw [← hW]; exact below_st6 b9 hgn _ _ _ _ _ _
            rw [hW]
            clear hW X9 Y9 O9 b9 c0 c1 c2 c3 c4 c5 cz d0 d1 d2 d3 d4 d5 dz z0 z1 z2 z3 z4 z5
            have LM := L8
            have UM := U8
            have CM := C8
            have NG8 : ¬ gn = g8 := by omega
            have HP := Lib.hid (fun W => ncPend_any 0 0 false 0 true G1 W)
            have HI := Lib.hid (fun W => ncIn_any 0 0 false 0 true G1 9 W)
            rw [show ncIn 0 false true G1 9 = 2 from rfl] at HI
            unfold ncV at HP HI
            have hx := X.lt
            have X' := X
            obtain ⟨a0, a1, a2, a3, a4, a5, az⟩ := X'
            go_wp2_with (first
              | go_skip
              | (go_at_call 22; (with_reducible refine (HP.out _).mono ?_); rintro e wp ⟨rfl, hbp⟩; have Xp := X.on hbp; have Op := Lib.hid (O.out.on hbp); have bp := below_stepI bX hbp (Nat.le_refl _); clear hbp; have Xp' := Xp; obtain ⟨p0, p1, p2, p3, p4, p5, pz⟩ := Xp')
              | (go_at_call 13; (with_reducible refine (HI.out _).mono ?_); rintro e wi ⟨rfl, hbi⟩; have Xi := Xp.on hbi; have Oi := Lib.hid (Op.out.on hbi); have bi := below_stepI bp hbi (Nat.le_refl _); clear hbi)
              | (go_at_call 27; (with_reducible refine (HB1.out _).mono ?_); rintro e wb ⟨rfl, mb, rfl⟩)
              | (go_at_call 27; (with_reducible refine (HB0.out _).mono ?_); rintro e wb ⟨rfl, mb, rfl⟩))
            all_goals first | (exfalso; omega) | skip
            go_roundw
            case rel => exact ⟨j + 1, false, true, G1, g8, c8, l8, by omega, by go_num, rfl, rfl, rfl, (by decide : ¬ (false = true ∧ true = true)), by omega, by omega, by repeat' (first | with_reducible exact Xi | with_reducible exact Xi.drewN _ | with_reducible refine InN.drewN ?_ _ | with_reducible refine InN.drew ?_), by repeat' (first | with_reducible exact Oi.out | with_reducible refine Own.drewN ?_ _ | (with_reducible refine Own.on ?_ ((Below.refl _ _).drew))), LM, UM, CM, NG8, by (repeat' (first | with_reducible exact Below.refl _ _ | with_reducible assumption | with_reducible apply below_drewN | with_reducible apply Below.drew | with_reducible apply Below.setCell | with_reducible apply Below.alloc | (simp; done) | omega | (simp; omega)))⟩
            case measure => simp [intOf]; omega
        · skip
          have HO := Lib.hid (fun A c W (hm : Mem W A N c lj) => show Calls Try.prog 11 #[ncV 0 0 false 0 true G1, .slice A N c, .int .i64 9, .int .u32 0, .int .u64 0] W (NutPost 0 0 false 0 false 0 none W) from (nut_ack N lj 0 0 false 0 true G1 0).1 A c W hm)
          have HB1 := Lib.hid (fun W => bit_any false W)
          have HB0 := Lib.hid (fun W => bit_any false W)
          simp only [if_true, Bool.false_eq_true, if_false] at HB1 HB0
          unfold NutPost ncV at HO
          go_wp2_with (first
            | go_skip
            | (go_at_call 10; (with_reducible refine (HR3.out _).mono ?_); rintro e wr3 ⟨rfl, rfl⟩)
            | (go_at_call 11; (with_reducible refine (HO.out _ _ _ (HM.out.on (by (repeat' (first | with_reducible exact Below.refl _ _ | with_reducible assumption | with_reducible apply below_drewN | with_reducible apply Below.drew | with_reducible apply Below.setCell | with_reducible apply Below.alloc | (simp; done) | omega | (simp; omega)))))).mono ?_); rintro e w2 ⟨⟨s2, rfl, hs2⟩, hb2⟩; obtain rfl : s2 = .slice none 0 0 := hs2; have X2 := HX.out.on hb2; have O2 := Lib.hid (HO1.out.on hb2); have b2 : Below w.heap.size w w2 := below_stepI HB.out hb2 (Nat.le_refl _); clear hb2; have lx2 := X2.lt; have lo2 := O2.out.lt; have X2' := X2; obtain ⟨c0, c1, c2, c3, c4, c5, cz⟩ := X2'; have z0 := cz 0; have z1 := cz 1; have z2 := cz 2; have z3 := cz 3; have z4 := cz 4; have z5 := cz 5; refine Hid.out ?_))
          refine Lib.hid ?_
          repeat' (first | (with_reducible refine then_normal ?_) | (with_reducible refine wp_exit ?_) | (with_reducible refine wp_ret ?_) | (with_reducible refine then_exit ?_) | (with_reducible refine blk_hit ?_) | (with_reducible refine blk_pass (by decide) ?_) | (with_reducible refine then_ret ?_) | (with_reducible refine blk_ret ?_) | (with_reducible refine blk_normal ?_) | go_values | go_skip | go_guarded | go_step | go_upon | (simp only [Int.not_lt, Int.not_le] at *; go_simp) | (go_values <;> (try go_simp)) | (go_ite <;> go_prune <;> (try go_simp)))
          obtain ⟨W3, hW⟩ : ∃ W, ((((((w2.setCell ⟨gn, 0, none⟩ (.int .u32 0)).setCell ⟨gn, 1, none⟩ (.int .u32 0)).setCell ⟨gn, 2, none⟩ (.bool false)).setCell ⟨gn, 3, none⟩ (.int .u32 0)).setCell ⟨gn, 4, none⟩ (.bool false)).setCell ⟨gn, 5, none⟩ (.int .u32 0)) = W := ⟨_, rfl⟩
          have X : InN W3 gn 0 0 false 0 false 0 := by rw [← hW]; exact X2.st6 _ _ _ _ _ _
          have O : Hid (Own W3 gm lj) := by show Own _ _ _; rw [← hW]; exact O2.out.far6 (by omega) _ _ _ _ _ _
          have bX : Below w.heap.size w W3 := by rw [← hW]; exact below_st6 b2 hgn _ _ _ _ _ _
          rw [hW]
          clear hW X2 O2 b2 c0 c1 c2 c3 c4 c5 cz z0 z1 z2 z3 z4 z5
          obtain ⟨cm, hcm⟩ : ∃ x, cj = x := ⟨_, rfl⟩
          obtain ⟨lm, hlm⟩ : ∃ x, lj = x := ⟨_, rfl⟩
          have LM : Hid (lm.length = N) := by rw [← hlm]; exact LJ
          have UM : Hid (U32 lm) := by rw [← hlm]; exact UJ
          have CM : N ≤ cm := by rw [← hcm]; exact CJ
          rw [hlm] at O
          rw [hcm]
          have HP := Lib.hid (fun W => ncPend_any 0 0 false 0 false 0 W)
          have HI := Lib.hid (fun W => ncIn_any 0 0 false 0 false 0 9 W)
          rw [show ncIn 0 false false 0 9 = 0 from rfl] at HI
          unfold ncV at HP HI
          have hx := X.lt
          have X' := X
          obtain ⟨a0, a1, a2, a3, a4, a5, az⟩ := X'
          go_wp2_with (first
            | go_skip
            | (go_at_call 22; (with_reducible refine (HP.out _).mono ?_); rintro e wp ⟨rfl, hbp⟩; have Xp := X.on hbp; have Op := Lib.hid (O.out.on hbp); have bp := below_stepI bX hbp (Nat.le_refl _); clear hbp; have Xp' := Xp; obtain ⟨p0, p1, p2, p3, p4, p5, pz⟩ := Xp')
            | (go_at_call 13; (with_reducible refine (HI.out _).mono ?_); rintro e wi ⟨rfl, hbi⟩; have Xi := Xp.on hbi; have Oi := Lib.hid (Op.out.on hbi); have bi := below_stepI bp hbi (Nat.le_refl _); clear hbi)
            | (go_at_call 27; (with_reducible refine (HB1.out _).mono ?_); rintro e wb ⟨rfl, mb, rfl⟩)
            | (go_at_call 27; (with_reducible refine (HB0.out _).mono ?_); rintro e wb ⟨rfl, mb, rfl⟩))
          all_goals first | (exfalso; omega) | skip
          go_roundw
          case rel => exact ⟨j + 1, false, false, 0, gm, cm, lm, by omega, by go_num, rfl, rfl, rfl, (by decide : ¬ (false = true ∧ false = true)), by omega, by omega, by repeat' (first | with_reducible exact Xi | with_reducible exact Xi.drewN _ | with_reducible refine InN.drewN ?_ _ | with_reducible refine InN.drew ?_), by repeat' (first | with_reducible exact Oi.out | with_reducible refine Own.drewN ?_ _ | (with_reducible refine Own.on ?_ ((Below.refl _ _).drew))), LM, UM, CM, NG, by (repeat' (first | with_reducible exact Below.refl _ _ | with_reducible assumption | with_reducible apply below_drewN | with_reducible apply Below.drew | with_reducible apply Below.setCell | with_reducible apply Below.alloc | (simp; done) | omega | (simp; omega)))⟩
          case measure => simp [intOf]; omega
      · skip
        rcases q3 with rfl | rfl | rfl
        · skip
          have HO := Lib.hid (fun A c W (hm : Mem W A N c lj) => show Calls Try.prog 11 #[ncV 0 0 true 0 false G1, .slice A N c, .int .i64 9, .int .u32 2, .int .u64 0] W (NutPost 0 0 true 0 false G1 none W) from (nut_nopost N lj 0 0 true 0 false G1 0 (by omega) (by omega) (fun h => by simp at h)).1 A c W hm)
          have HB1 := Lib.hid (fun W => bit_any true W)
          have HB0 := Lib.hid (fun W => bit_any false W)
          simp only [if_true, Bool.false_eq_true, if_false] at HB1 HB0
          unfold NutPost ncV at HO
          go_wp2_with (first
            | go_skip
            | (go_at_call 10; (with_reducible refine (HR3.out _).mono ?_); rintro e wr3 ⟨rfl, rfl⟩)
            | (go_at_call 11; (with_reducible refine (HO.out _ _ _ (HM.out.on (by (repeat' (first | with_reducible exact Below.refl _ _ | with_reducible assumption | with_reducible apply below_drewN | with_reducible apply Below.drew | with_reducible apply Below.setCell | with_reducible apply Below.alloc | (simp; done) | omega | (simp; omega)))))).mono ?_); rintro e w2 ⟨⟨s2, rfl, hs2⟩, hb2⟩; obtain rfl : s2 = .slice none 0 0 := hs2; have X2 := HX.out.on hb2; have O2 := Lib.hid (HO1.out.on hb2); have b2 : Below w.heap.size w w2 := below_stepI HB.out hb2 (Nat.le_refl _); clear hb2; have lx2 := X2.lt; have lo2 := O2.out.lt; have X2' := X2; obtain ⟨c0, c1, c2, c3, c4, c5, cz⟩ := X2'; have z0 := cz 0; have z1 := cz 1; have z2 := cz 2; have z3 := cz 3; have z4 := cz 4; have z5 := cz 5; refine Hid.out ?_))
          refine Lib.hid ?_
          repeat' (first | (with_reducible refine then_normal ?_) | (with_reducible refine wp_exit ?_) | (with_reducible refine wp_ret ?_) | (with_reducible refine then_exit ?_) | (with_reducible refine blk_hit ?_) | (with_reducible refine blk_pass (by decide) ?_) | (with_reducible refine then_ret ?_) | (with_reducible refine blk_ret ?_) | (with_reducible refine blk_normal ?_) | go_values | go_skip | go_guarded | go_step | go_upon | (simp only [Int.not_lt, Int.not_le] at *; go_simp) | (go_values <;> (try go_simp)) | (go_ite <;> go_prune <;> (try go_simp)))
          obtain ⟨W3, hW⟩ : ∃ W, ((((((w2.setCell ⟨gn, 0, none⟩ (.int .u32 0)).setCell ⟨gn, 1, none⟩ (.int .u32 0)).setCell ⟨gn, 2, none⟩ (.bool true)).setCell ⟨gn, 3, none⟩ (.int .u32 0)).setCell ⟨gn, 4, none⟩ (.bool false)).setCell ⟨gn, 5, none⟩ (.int .u32 G1)) = W := ⟨_, rfl⟩
          have X : InN W3 gn 0 0 true 0 false G1 := by rw [← hW]; exact X2.st6 _ _ _ _ _ _
          have O : Hid (Own W3 gm lj) := by show Own _ _ _; rw [← hW]; exact O2.out.far6 (by omega) _ _ _ _ _ _
          have bX : Below w.heap.size w W3 := by rw [← hW]; exact below_st6 b2 hgn _ _ _ _ _ _
          rw [hW]
          clear hW X2 O2 b2 c0 c1 c2 c3 c4 c5 cz z0 z1 z2 z3 z4 z5
          obtain ⟨cm, hcm⟩ : ∃ x, cj = x := ⟨_, rfl⟩
          obtain ⟨lm, hlm⟩ : ∃ x, lj = x := ⟨_, rfl⟩
          have LM : Hid (lm.length = N) := by rw [← hlm]; exact LJ
          have UM : Hid (U32 lm) := by rw [← hlm]; exact UJ
          have CM : N ≤ cm := by rw [← hcm]; exact CJ
          rw [hlm] at O
          rw [hcm]
          have HP := Lib.hid (fun W => ncPend_any 0 0 true 0 false G1 W)
          have HI := Lib.hid (fun W => ncIn_any 0 0 true 0 false G1 9 W)
          rw [show ncIn 0 true false G1 9 = 1 from rfl] at HI
          unfold ncV at HP HI
          have hx := X.lt
          have X' := X
          obtain ⟨a0, a1, a2, a3, a4, a5, az⟩ := X'
          go_wp2_with (first
            | go_skip
            | (go_at_call 22; (with_reducible refine (HP.out _).mono ?_); rintro e wp ⟨rfl, hbp⟩; have Xp := X.on hbp; have Op := Lib.hid (O.out.on hbp); have bp := below_stepI bX hbp (Nat.le_refl _); clear hbp; have Xp' := Xp; obtain ⟨p0, p1, p2, p3, p4, p5, pz⟩ := Xp')
            | (go_at_call 13; (with_reducible refine (HI.out _).mono ?_); rintro e wi ⟨rfl, hbi⟩; have Xi := Xp.on hbi; have Oi := Lib.hid (Op.out.on hbi); have bi := below_stepI bp hbi (Nat.le_refl _); clear hbi)
            | (go_at_call 27; (with_reducible refine (HB1.out _).mono ?_); rintro e wb ⟨rfl, mb, rfl⟩)
            | (go_at_call 27; (with_reducible refine (HB0.out _).mono ?_); rintro e wb ⟨rfl, mb, rfl⟩))
          all_goals first | (exfalso; omega) | skip
          go_roundw
          case rel => exact ⟨j + 1, true, false, G1, gm, cm, lm, by omega, by go_num, rfl, rfl, rfl, (by decide : ¬ (true = true ∧ false = true)), by omega, by omega, by repeat' (first | with_reducible exact Xi | with_reducible exact Xi.drewN _ | with_reducible refine InN.drewN ?_ _ | with_reducible refine InN.drew ?_), by repeat' (first | with_reducible exact Oi.out | with_reducible refine Own.drewN ?_ _ | (with_reducible refine Own.on ?_ ((Below.refl _ _).drew))), LM, UM, CM, NG, by (repeat' (first | with_reducible exact Below.refl _ _ | with_reducible assumption | with_reducible apply below_drewN | with_reducible apply Below.drew | with_reducible apply Below.setCell | with_reducible apply Below.alloc | (simp; done) | omega | (simp; omega)))⟩
          case measure => simp [intOf]; omega
        · skip
          have HC1 := Lib.hid (fun A c W (hm : Mem W A N c lj) => show Calls Try.prog 19 #[ncV 0 0 true 0 false G1, .slice A N c, .string DT] W (RecPost N lj 0 0 false 0 true 5 true True DT 0 W) from by have h := (recB_yes N lj 0 0 0 false G1 DT (by omega) (by omega) (by omega)).1 A c W hm; rw [hdt] at h; exact h)
          have HB1 := Lib.hid (fun W => bit_any false W)
          have HB0 := Lib.hid (fun W => bit_any true W)
          simp only [if_true, Bool.false_eq_true, if_false] at HB1 HB0
          unfold RecPost ncV at HC1
          go_wp2_with (first
            | go_skip
            | (go_at_call 10; (with_reducible refine (HR3.out _).mono ?_); rintro e wr3 ⟨rfl, rfl⟩))
          obtain ⟨W6, hW6⟩ : ∃ W, wr.drew = W := ⟨_, rfl⟩
          have X6 : InN wr gn 0 0 true 0 false G1 := HX.out
          have O6 := HO1
          have lx6 := X6.lt
          have lo6 := O6.out.lt
          have hcz := hc
          have m6 : ¬ wr.heap.size = gn := by omega
          have mz : ¬ wr.heap.size = zb := by have := World.block_lt_of_cell? wr _ hcz; omega
          clear hW6
          have bb : Below wr.heap.size wr wr.drew := (Below.refl _ _).drew
          go_region_held3 (fun w' => w'.cell? ⟨gn, 0, none⟩ = some (.int .u32 0) ∧ w'.cell? ⟨gn, 1, none⟩ = some (.int .u32 0) ∧ w'.cell? ⟨gn, 2, none⟩ = some (.bool true) ∧ w'.cell? ⟨gn, 3, none⟩ = some (.int .u32 0) ∧ w'.cell? ⟨gn, 4, none⟩ = some (.bool false) ∧ w'.cell? ⟨gn, 5, none⟩ = some (.int .u32 G1) ∧ w'.cell? ⟨zb, zo + j, none⟩ = some (.int .i64 zj)) (first | with_reducible exact ⟨stillI X6.c0 bb, stillI X6.c1 bb, stillI X6.c2 bb, stillI X6.c3 bb, stillI X6.c4 bb, stillI X6.c5 bb, stillI hcz bb⟩ | with_reducible exact ⟨Lib.cell?_alloc_some _ (stillI X6.c0 bb), Lib.cell?_alloc_some _ (stillI X6.c1 bb), Lib.cell?_alloc_some _ (stillI X6.c2 bb), Lib.cell?_alloc_some _ (stillI X6.c3 bb), Lib.cell?_alloc_some _ (stillI X6.c4 bb), Lib.cell?_alloc_some _ (stillI X6.c5 bb), Lib.cell?_alloc_some _ (stillI hcz bb)⟩ | with_reducible exact ⟨Lib.cell?_alloc_some _ X6.c0, Lib.cell?_alloc_some _ X6.c1, Lib.cell?_alloc_some _ X6.c2, Lib.cell?_alloc_some _ X6.c3, Lib.cell?_alloc_some _ X6.c4, Lib.cell?_alloc_some _ X6.c5, Lib.cell?_alloc_some _ hcz⟩ | with_reducible exact ⟨(far6 _ m6 _ _ _ _ _ _ 0).trans (stillI X6.c0 bb), (far6 _ m6 _ _ _ _ _ _ 1).trans (stillI X6.c1 bb), (far6 _ m6 _ _ _ _ _ _ 2).trans (stillI X6.c2 bb), (far6 _ m6 _ _ _ _ _ _ 3).trans (stillI X6.c3 bb), (far6 _ m6 _ _ _ _ _ _ 4).trans (stillI X6.c4 bb), (far6 _ m6 _ _ _ _ _ _ 5).trans (stillI X6.c5 bb), (far6 _ mz _ _ _ _ _ _ (zo + j)).trans (stillI hcz bb)⟩ | with_reducible exact ⟨(far6 _ n7 _ _ _ _ _ _ 0).trans (stillI X6.c0 bb), (far6 _ n7 _ _ _ _ _ _ 1).trans (stillI X6.c1 bb), (far6 _ n7 _ _ _ _ _ _ 2).trans (stillI X6.c2 bb), (far6 _ n7 _ _ _ _ _ _ 3).trans (stillI X6.c3 bb), (far6 _ n7 _ _ _ _ _ _ 4).trans (stillI X6.c4 bb), (far6 _ n7 _ _ _ _ _ _ 5).trans (stillI X6.c5 bb), (far6 _ nz _ _ _ _ _ _ (zo + j)).trans (stillI hcz bb)⟩ | with_reducible exact ⟨((X6.alloc _).drew).c0, ((X6.alloc _).drew).c1, ((X6.alloc _).drew).c2, ((X6.alloc _).drew).c3, ((X6.alloc _).drew).c4, ((X6.alloc _).drew).c5, stillI (Lib.cell?_alloc_some _ hcz) ((Below.refl _ _).drew)⟩ | go_keep) (first
            | (go_at_call 17; (with_reducible refine (HDT.out wr.drew).mono ?_); rintro e w7 ⟨rfl, hb7⟩; replace bb : Below wr.heap.size wr w7 := below_stepI (Below.refl _ _).drew hb7 (Nat.le_refl _); have q7 := bb.size; have n7 : ¬ w7.heap.size = gn := (by omega); have nz : ¬ w7.heap.size = zb := (by have := World.block_lt_of_cell? wr _ hcz; omega); clear hb7)
            | (go_at_call 17; (with_reducible refine (HDT.out (wr.alloc (.cells #[.int .u32 0, .int .u32 0, .bool false, .int .u32 0, .bool false, .int .u32 0] 24)).drew).mono ?_); rintro e w7 ⟨rfl, hb7⟩; replace bb : Below wr.heap.size wr w7 := below_stepI (((Below.refl _ _).alloc (Nat.le_refl _) (.cells #[.int .u32 0, .int .u32 0, .bool false, .int .u32 0, .bool false, .int .u32 0] 24)).drew) hb7 (Nat.le_refl _); have Y7 : InN w7 wr.heap.size 0 0 false 0 false 0 := ((InN.new _ _ _ _ _ _ _ _).drew).on hb7; clear hb7)
            | (go_at_call 19; have Y7' := Y7; (with_reducible refine (HC1.out _ _ w7 (Own.mem (O6.out.on bb) LJ.out CJ (by omega) UJ.out)).mono ?_); rintro e w8 ⟨⟨A8, c8, l8, rfl, hm8, ho8, _, _⟩, hb8⟩; obtain ⟨g8, rfl, hg8, hO8⟩ := ho8 (by omega); have L8 := Lib.hid hm8.1; have U8 := Lib.hid hm8.2.2.2.1; have C8 := hm8.2.1; have q8 := hb8.size; have HO8 := Lib.hid hO8; have lo8 := hO8.lt; clear hm8 ho8 hO8; replace bb : Below wr.heap.size wr w8 := below_stepI bb hb8 (Nat.le_refl _); have Y8 : InN w8 wr.heap.size 0 0 false 0 false 0 := Y7.on hb8; have ly7 := Y7.lt; clear hb8; have l8' := Y8.lt; have Y8' := Y8; obtain ⟨y0, y1, y2, y3, y4, y5, yz⟩ := Y8'; have z0 := yz 0; have z1 := yz 1; have z2 := yz 2; have z3 := yz 3; have z4 := yz 4; have z5 := yz 5)
            | (go_at_call 19; (with_reducible refine (HC1.out _ _ w7 (Own.mem (O6.out.on bb) LJ.out CJ (by omega) UJ.out)).mono ?_); rintro e w8 ⟨⟨A8, c8, l8, rfl, hm8, ho8, _, _⟩, hb8⟩; obtain ⟨g8, rfl, hg8, hO8⟩ := ho8 (by omega); have L8 := Lib.hid hm8.1; have U8 := Lib.hid hm8.2.2.2.1; have C8 := hm8.2.1; have q8 := hb8.size; have HO8 := Lib.hid hO8; have lo8 := hO8.lt; clear hm8 ho8 hO8; replace bb : Below wr.heap.size wr w8 := below_stepI bb hb8 (Nat.le_refl _); clear hb8)
            | (go_at_call 19; (with_reducible refine (HC1.out _ _ (w7.alloc (.cells #[.int .u32 0, .int .u32 0, .bool false, .int .u32 0, .bool false, .int .u32 0] 24)) (Own.mem ((O6.out.on bb).on ((Below.refl _ _).alloc (Nat.le_refl _) _)) LJ.out CJ (by omega) UJ.out)).mono ?_); rintro e w8 ⟨⟨A8, c8, l8, rfl, hm8, ho8, _, _⟩, hb8⟩; obtain ⟨g8, rfl, hg8, hO8⟩ := ho8 (by omega); have L8 := Lib.hid hm8.1; have U8 := Lib.hid hm8.2.2.2.1; have C8 := hm8.2.1; have q8 := hb8.size; have HO8 := Lib.hid hO8; have lo8 := hO8.lt; clear hm8 ho8 hO8; have Y8 : InN w8 w7.heap.size 0 0 false 0 false 0 := (InN.new _ _ _ _ _ _ _ _).on hb8; have hg8' : w7.heap.size < g8 := Nat.lt_of_lt_of_le (by simp) hg8; replace bb : Below wr.heap.size wr w8 := below_stepI (bb.alloc q7 (.cells #[.int .u32 0, .int .u32 0, .bool false, .int .u32 0, .bool false, .int .u32 0] 24)) hb8 (Nat.le_refl _); clear hb8; have l8' := Y8.lt; have Y8' := Y8; obtain ⟨y0, y1, y2, y3, y4, y5, yz⟩ := Y8'; have z0 := yz 0; have z1 := yz 1; have z2 := yz 2; have z3 := yz 3; have z4 := yz 4; have z5 := yz 5))
          all_goals first
            | (obtain ⟨W9, hW⟩ : ∃ W, w8.alloc (.cells #[.int .u32 0, .int .u32 0, .bool false, .int .u32 0, .bool true, .int .u32 5] 24) = W := ⟨_, rfl⟩
               obtain ⟨g9, hg9⟩ : ∃ g, w8.heap.size = g := ⟨_, rfl⟩
               rw [hW, hg9]
               have q9 := bb.size
               have X9 : InN W9 gn 0 0 true 0 false G1 := by rw [← hW]; exact (X6.on bb).alloc _
               have Y9 : InN W9 g9 0 0 false 0 true 5 := by rw [← hW, ← hg9]; exact InN.new _ _ _ _ _ _ _ _
               have O9 : Hid (Own W9 g8 l8) := by show Own _ _ _; rw [← hW]; exact HO8.out.on ((Below.refl _ _).alloc (Nat.le_refl _) _)
               have b9 : Below w.heap.size w W9 := by rw [← hW]; exact (below_stepI HB.out bb (Nat.le_refl _)).alloc (by omega) _
               have gg : gn < g8 := Nat.lt_of_lt_of_le (by first | omega | (simp <;> omega)) hg8
               clear hW hg9)
            | (obtain ⟨W9, hW⟩ : ∃ W, ((((((w8.setCell ⟨w7.heap.size, 0, none⟩ (.int .u32 0)).setCell ⟨w7.heap.size, 1, none⟩ (.int .u32 0)).setCell ⟨w7.heap.size, 2, none⟩ (.bool false)).setCell ⟨w7.heap.size, 3, none⟩ (.int .u32 0)).setCell ⟨w7.heap.size, 4, none⟩ (.bool true)).setCell ⟨w7.heap.size, 5, none⟩ (.int .u32 5)) = W := ⟨_, rfl⟩
               obtain ⟨g9, hg9⟩ : ∃ g, w7.heap.size = g := ⟨_, rfl⟩
               rw [hW]
               have q9 := bb.size
               have X9 : InN W9 gn 0 0 true 0 false G1 := by rw [← hW]; exact (X6.on bb).far6 (by omega) _ _ _ _ _ _
               have Y9 : InN W9 g9 0 0 false 0 true 5 := by rw [← hW, ← hg9]; exact Y8.st6 _ _ _ _ _ _
               have O9 : Hid (Own W9 g8 l8) := by show Own _ _ _; rw [← hW]; exact HO8.out.far6 (by omega) _ _ _ _ _ _
               have b9 : Below w.heap.size w W9 := by rw [← hW]; exact below_st6 (below_stepI HB.out bb (Nat.le_refl _)) (by omega) _ _ _ _ _ _
               have gg : gn < g8 := by omega
               rw [hg9]
               clear hW hg9)
            | (obtain ⟨W9, hW⟩ : ∃ W, ((((((w8.setCell ⟨wr.heap.size, 0, none⟩ (.int .u32 0)).setCell ⟨wr.heap.size, 1, none⟩ (.int .u32 0)).setCell ⟨wr.heap.size, 2, none⟩ (.bool false)).setCell ⟨wr.heap.size, 3, none⟩ (.int .u32 0)).setCell ⟨wr.heap.size, 4, none⟩ (.bool true)).setCell ⟨wr.heap.size, 5, none⟩ (.int .u32 5)) = W := ⟨_, rfl⟩
               obtain ⟨g9, hg9⟩ : ∃ g, wr.heap.size = g := ⟨_, rfl⟩
               rw [hW]
               have q9 := bb.size
               have X9 : InN W9 gn 0 0 true 0 false G1 := by rw [← hW]; exact (X6.on bb).far6 (by omega) _ _ _ _ _ _
               have Y9 : InN W9 g9 0 0 false 0 true 5 := by rw [← hW, ← hg9]; exact Y8.st6 _ _ _ _ _ _
               have O9 : Hid (Own W9 g8 l8) := by show Own _ _ _; rw [← hW]; exact HO8.out.far6 (by omega) _ _ _ _ _ _
               have b9 : Below w.heap.size w W9 := by rw [← hW]; exact below_st6 (below_stepI HB.out bb (Nat.le_refl _)) (by omega) _ _ _ _ _ _
               have gg : gn < g8 := by omega
               rw [hg9]
               clear hW hg9)
          all_goals
            have lx9 := X9.lt
            have ly9 := Y9.lt
            have lo9 := O9.out.lt
            have X9' := X9
            have Y9' := Y9
            obtain ⟨c0, c1, c2, c3, c4, c5, cz⟩ := X9'
            obtain ⟨d0, d1, d2, d3, d4, d5, dz⟩ := Y9'
            have z0 := cz 0; have z1 := cz 1; have z2 := cz 2; have z3 := cz 3; have z4 := cz 4; have z5 := cz 5
            refine Lib.hid ?_
            repeat' (first | (with_reducible refine then_normal ?_) | (with_reducible refine wp_exit ?_) | (with_reducible refine wp_ret ?_) | (with_reducible refine then_exit ?_) | (with_reducible refine blk_hit ?_) | (with_reducible refine blk_pass (by decide) ?_) | (with_reducible refine then_ret ?_) | (with_reducible refine blk_ret ?_) | (with_reducible refine blk_normal ?_) | go_values | go_skip | go_guarded | go_step | go_upon | (simp only [Int.not_lt, Int.not_le] at *; go_simp) | (go_values <;> (try go_simp)) | (go_ite <;> go_prune <;> (try go_simp)))
            obtain ⟨W3, hW⟩ : ∃ W, ((((((W9.setCell ⟨gn, 0, none⟩ (.int .u32 0)).setCell ⟨gn, 1, none⟩ (.int .u32 0)).setCell ⟨gn, 2, none⟩ (.bool false)).setCell ⟨gn, 3, none⟩ (.int .u32 0)).setCell ⟨gn, 4, none⟩ (.bool true)).setCell ⟨gn, 5, none⟩ (.int .u32 5)) = W := ⟨_, rfl⟩
            have X : InN W3 gn 0 0 false 0 true 5 := by rw [← hW]; exact X9.st6 _ _ _ _ _ _
            have O : Hid (Own W3 g8 l8) := by show Own _ _ _; rw [← hW]; exact O9.out.far6 (by omega) _ _ _ _ _ _
            have bX : Below w.heap.size w W3 := by rw [← hW]; exact below_st6 b9 hgn _ _ _ _ _ _
            rw [hW]
            clear hW X9 Y9 O9 b9 c0 c1 c2 c3 c4 c5 cz d0 d1 d2 d3 d4 d5 dz z0 z1 z2 z3 z4 z5
            have LM := L8
            have UM := U8
            have CM := C8
            have NG8 : ¬ gn = g8 := by omega
            have HP := Lib.hid (fun W => ncPend_any 0 0 false 0 true 5 W)
            have HI := Lib.hid (fun W => ncIn_any 0 0 false 0 true 5 9 W)
            rw [show ncIn 0 false true 5 9 = 2 from rfl] at HI
            unfold ncV at HP HI
            have hx := X.lt
            have X' := X
            obtain ⟨a0, a1, a2, a3, a4, a5, az⟩ := X'
            go_wp2_with (first
              | go_skip
              | (go_at_call 22; (with_reducible refine (HP.out _).mono ?_); rintro e wp ⟨rfl, hbp⟩; have Xp := X.on hbp; have Op := Lib.hid (O.out.on hbp); have bp := below_stepI bX hbp (Nat.le_refl _); clear hbp; have Xp' := Xp; obtain ⟨p0, p1, p2, p3, p4, p5, pz⟩ := Xp')
              | (go_at_call 13; (with_reducible refine (HI.out _).mono ?_); rintro e wi ⟨rfl, hbi⟩; have Xi := Xp.on hbi; have Oi := Lib.hid (Op.out.on hbi); have bi := below_stepI bp hbi (Nat.le_refl _); clear hbi)
              | (go_at_call 27; (with_reducible refine (HB1.out _).mono ?_); rintro e wb ⟨rfl, mb, rfl⟩)
              | (go_at_call 27; (with_reducible refine (HB0.out _).mono ?_); rintro e wb ⟨rfl, mb, rfl⟩))
            all_goals first | (exfalso; omega) | skip
            go_roundw
            case rel => exact ⟨j + 1, false, true, 5, g8, c8, l8, by omega, by go_num, rfl, rfl, rfl, (by decide : ¬ (false = true ∧ true = true)), by omega, by omega, by repeat' (first | with_reducible exact Xi | with_reducible exact Xi.drewN _ | with_reducible refine InN.drewN ?_ _ | with_reducible refine InN.drew ?_), by repeat' (first | with_reducible exact Oi.out | with_reducible refine Own.drewN ?_ _ | (with_reducible refine Own.on ?_ ((Below.refl _ _).drew))), LM, UM, CM, NG8, by (repeat' (first | with_reducible exact Below.refl _ _ | with_reducible assumption | with_reducible apply below_drewN | with_reducible apply Below.drew | with_reducible apply Below.setCell | with_reducible apply Below.alloc | (simp; done) | omega | (simp; omega)))⟩
            case measure => simp [intOf]; omega
        · skip
          have HO := Lib.hid (fun A c W (hm : Mem W A N c lj) => show Calls Try.prog 11 #[ncV 0 0 true 0 false G1, .slice A N c, .int .i64 9, .int .u32 0, .int .u64 0] W (NutPost 0 0 true 0 false 0 none W) from (nut_ack N lj 0 0 true 0 false G1 0).1 A c W hm)
          have HB1 := Lib.hid (fun W => bit_any true W)
          have HB0 := Lib.hid (fun W => bit_any false W)
          simp only [if_true, Bool.false_eq_true, if_false] at HB1 HB0
          unfold NutPost ncV at HO
          go_wp2_with (first
            | go_skip
            | (go_at_call 10; (with_reducible refine (HR3.out _).mono ?_); rintro e wr3 ⟨rfl, rfl⟩)
            | (go_at_call 11; (with_reducible refine (HO.out _ _ _ (HM.out.on (by (repeat' (first | with_reducible exact Below.refl _ _ | with_reducible assumption | with_reducible apply below_drewN | with_reducible apply Below.drew | with_reducible apply Below.setCell | with_reducible apply Below.alloc | (simp; done) | omega | (simp; omega)))))).mono ?_); rintro e w2 ⟨⟨s2, rfl, hs2⟩, hb2⟩; obtain rfl : s2 = .slice none 0 0 := hs2; have X2 := HX.out.on hb2; have O2 := Lib.hid (HO1.out.on hb2); have b2 : Below w.heap.size w w2 := below_stepI HB.out hb2 (Nat.le_refl _); clear hb2; have lx2 := X2.lt; have lo2 := O2.out.lt; have X2' := X2; obtain ⟨c0, c1, c2, c3, c4, c5, cz⟩ := X2'; have z0 := cz 0; have z1 := cz 1; have z2 := cz 2; have z3 := cz 3; have z4 := cz 4; have z5 := cz 5; refine Hid.out ?_))
          refine Lib.hid ?_
          repeat' (first | (with_reducible refine then_normal ?_) | (with_reducible refine wp_exit ?_) | (with_reducible refine wp_ret ?_) | (with_reducible refine then_exit ?_) | (with_reducible refine blk_hit ?_) | (with_reducible refine blk_pass (by decide) ?_) | (with_reducible refine then_ret ?_) | (with_reducible refine blk_ret ?_) | (with_reducible refine blk_normal ?_) | go_values | go_skip | go_guarded | go_step | go_upon | (simp only [Int.not_lt, Int.not_le] at *; go_simp) | (go_values <;> (try go_simp)) | (go_ite <;> go_prune <;> (try go_simp)))
          obtain ⟨W3, hW⟩ : ∃ W, ((((((w2.setCell ⟨gn, 0, none⟩ (.int .u32 0)).setCell ⟨gn, 1, none⟩ (.int .u32 0)).setCell ⟨gn, 2, none⟩ (.bool true)).setCell ⟨gn, 3, none⟩ (.int .u32 0)).setCell ⟨gn, 4, none⟩ (.bool false)).setCell ⟨gn, 5, none⟩ (.int .u32 0)) = W := ⟨_, rfl⟩
          have X : InN W3 gn 0 0 true 0 false 0 := by rw [← hW]; exact X2.st6 _ _ _ _ _ _
          have O : Hid (Own W3 gm lj) := by show Own _ _ _; rw [← hW]; exact O2.out.far6 (by omega) _ _ _ _ _ _
          have bX : Below w.heap.size w W3 := by rw [← hW]; exact below_st6 b2 hgn _ _ _ _ _ _
          rw [hW]
          clear hW X2 O2 b2 c0 c1 c2 c3 c4 c5 cz z0 z1 z2 z3 z4 z5
          obtain ⟨cm, hcm⟩ : ∃ x, cj = x := ⟨_, rfl⟩
          obtain ⟨lm, hlm⟩ : ∃ x, lj = x := ⟨_, rfl⟩
          have LM : Hid (lm.length = N) := by rw [← hlm]; exact LJ
          have UM : Hid (U32 lm) := by rw [← hlm]; exact UJ
          have CM : N ≤ cm := by rw [← hcm]; exact CJ
          rw [hlm] at O
          rw [hcm]
          have HP := Lib.hid (fun W => ncPend_any 0 0 true 0 false 0 W)
          have HI := Lib.hid (fun W => ncIn_any 0 0 true 0 false 0 9 W)
          rw [show ncIn 0 true false 0 9 = 1 from rfl] at HI
          unfold ncV at HP HI
          have hx := X.lt
          have X' := X
          obtain ⟨a0, a1, a2, a3, a4, a5, az⟩ := X'
          go_wp2_with (first
            | go_skip
            | (go_at_call 22; (with_reducible refine (HP.out _).mono ?_); rintro e wp ⟨rfl, hbp⟩; have Xp := X.on hbp; have Op := Lib.hid (O.out.on hbp); have bp := below_stepI bX hbp (Nat.le_refl _); clear hbp; have Xp' := Xp; obtain ⟨p0, p1, p2, p3, p4, p5, pz⟩ := Xp')
            | (go_at_call 13; (with_reducible refine (HI.out _).mono ?_); rintro e wi ⟨rfl, hbi⟩; have Xi := Xp.on hbi; have Oi := Lib.hid (Op.out.on hbi); have bi := below_stepI bp hbi (Nat.le_refl _); clear hbi)
            | (go_at_call 27; (with_reducible refine (HB1.out _).mono ?_); rintro e wb ⟨rfl, mb, rfl⟩)
            | (go_at_call 27; (with_reducible refine (HB0.out _).mono ?_); rintro e wb ⟨rfl, mb, rfl⟩))
          all_goals first | (exfalso; omega) | skip
          go_roundw
          case rel => exact ⟨j + 1, true, false, 0, gm, cm, lm, by omega, by go_num, rfl, rfl, rfl, (by decide : ¬ (true = true ∧ false = true)), by omega, by omega, by repeat' (first | with_reducible exact Xi | with_reducible exact Xi.drewN _ | with_reducible refine InN.drewN ?_ _ | with_reducible refine InN.drew ?_), by repeat' (first | with_reducible exact Oi.out | with_reducible refine Own.drewN ?_ _ | (with_reducible refine Own.on ?_ ((Below.refl _ _).drew))), LM, UM, CM, NG, by (repeat' (first | with_reducible exact Below.refl _ _ | with_reducible assumption | with_reducible apply below_drewN | with_reducible apply Below.drew | with_reducible apply Below.setCell | with_reducible apply Below.alloc | (simp; done) | omega | (simp; omega)))⟩
          case measure => simp [intOf]; omega
      · exact absurd ⟨rfl, rfl⟩ hPR
    · obtain rfl : j = k0 := by omega
      go_wp2_with (first
        | go_skip
        | (go_at_call 16; (with_reducible refine (HAW.out _).mono ?_); rintro e w9 ⟨rfl, hb9⟩))
      all_goals first | (exfalso; omega) | skip
      go_ret
      exact ⟨rfl, below_stepI hb hb9 (Nat.le_refl _)⟩
end Go.Proofs.Ytkilbakghacooaa
