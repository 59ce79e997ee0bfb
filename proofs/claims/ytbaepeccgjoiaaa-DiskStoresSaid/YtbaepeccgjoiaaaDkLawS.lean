import Derived.Test.YtbaepeccgjoiaaaDkLawK
namespace Go.Proofs.Ytbaepeccgjoiaaa
set_option linter.unusedVariables false
set_option linter.unusedSimpArgs false
set_option maxRecDepth 20000
open Go.ChangeShapes Go.WideShapes Go.ChangeAt Go.RowKit Go.Proofs.Ytbaepeccgjoiaaa.Num Go.Proofs.Ytbaepeccgjoiaaa.Mem
theorem InO.far8 {w : World} {b : Nat} {k a u : Int} {d : ByteArray} (h : InO w b k a u d) {g : Nat} (hg : ¬ g = b) (v0 v1 v2 v3 v4 v5 v6 v7 : Value) : InO ((((((((w.setCell ⟨g, 0, none⟩ v0).setCell ⟨g, 1, none⟩ v1).setCell ⟨g, 2, none⟩ v2).setCell ⟨g, 3, none⟩ v3).setCell ⟨g, 4, none⟩ v4).setCell ⟨g, 5, none⟩ v5).setCell ⟨g, 6, none⟩ v6).setCell ⟨g, 7, none⟩ v7) b k a u d :=
  ⟨(Go.Proofs.Ytbaepeccgjoiaaa.far8 _ hg _ _ _ _ _ _ _ _ 0).trans h.c0, (Go.Proofs.Ytbaepeccgjoiaaa.far8 _ hg _ _ _ _ _ _ _ _ 1).trans h.c1, (Go.Proofs.Ytbaepeccgjoiaaa.far8 _ hg _ _ _ _ _ _ _ _ 2).trans h.c2, (Go.Proofs.Ytbaepeccgjoiaaa.far8 _ hg _ _ _ _ _ _ _ _ 3).trans h.c3, fun i => (frozen8 ..).trans (h.z i)⟩
theorem comp_write_p (n : Nat) (l : List Int) (K F OB OF : Int) (D : ByteArray) (A : Option Addr) (c : Nat) (w : World) (h0 : 0 < n) (hm : Mem w A n c l) :
    Calls Try.prog 19 #[dkV 4 K F 1 2 OB OF D, .slice A n c, evV 4 1 ⟨#[]⟩] w (CmpPost n l 4 K F 2 0 0 0 ⟨#[]⟩ true False [] 0 w) := by
  have h := cmp_tra 4 K F 2 OB OF D _ _ _ _ A n c l 1 ⟨#[]⟩ w hm h0 (.inr rfl) (fun W' hm' => tra_plain 4 K F 1 2 OB OF D A n c l 4 1 ⟨#[]⟩ W' hm' (by omega))
  exact h
theorem pgS_filled {n f : Nat} {l l' : List Int} {s : ByteArray} (h : Filled s.data.toList f 128 l l') (hl : l.length = n) (hf : f < pagesN n) (hs : s.size = 128) : pgS n l' f = s := by
  have hp := pagesN_le n
  unfold pgS
  rw [if_pos ⟨by omega, by omega⟩]
  show pageS l' f = s
  unfold pageS
  rw [h.page (by simpa using hs) (by omega)]
  unfold S8
  simp
theorem InV.far8 {w : World} {b : Nat} {K N : Int} {D : ByteArray} (h : InV w b K N D) {g : Nat} (hg : ¬ g = b) (v0 v1 v2 v3 v4 v5 v6 v7 : Value) : InV ((((((((w.setCell ⟨g, 0, none⟩ v0).setCell ⟨g, 1, none⟩ v1).setCell ⟨g, 2, none⟩ v2).setCell ⟨g, 3, none⟩ v3).setCell ⟨g, 4, none⟩ v4).setCell ⟨g, 5, none⟩ v5).setCell ⟨g, 6, none⟩ v6).setCell ⟨g, 7, none⟩ v7) b K N D :=
  ⟨(Go.Proofs.Ytbaepeccgjoiaaa.far8 _ hg _ _ _ _ _ _ _ _ 0).trans h.c0, (Go.Proofs.Ytbaepeccgjoiaaa.far8 _ hg _ _ _ _ _ _ _ _ 1).trans h.c1, (Go.Proofs.Ytbaepeccgjoiaaa.far8 _ hg _ _ _ _ _ _ _ _ 2).trans h.c2, fun i => (frozen8 ..).trans (h.z i)⟩
theorem InO.at_ {w : World} {n : Nat} (h : w.heap.size = n) (k a u : Int) (d : ByteArray) (ty : TypeId) : InO (w.alloc (.cells #[.int .i64 k, .int .u64 a, .int .u32 u, .string d] ty)) n k a u d := by
  subst h; exact InO.new _ _ _ _ _ _
theorem InD.far1 {w : World} {b : Nat} {B K F S C OB OF : Int} {D : ByteArray} (h : InD w b B K F S C OB OF D) {g : Nat} (hg : ¬ g = b) (i : Nat) (v : Value) : InD (w.setCell ⟨g, i, none⟩ v) b B K F S C OB OF D :=
  ⟨(World.cell?_setCell_far _ _ _ _ (by exact hg)).trans h.c0, (World.cell?_setCell_far _ _ _ _ (by exact hg)).trans h.c1, (World.cell?_setCell_far _ _ _ _ (by exact hg)).trans h.c2, (World.cell?_setCell_far _ _ _ _ (by exact hg)).trans h.c3, (World.cell?_setCell_far _ _ _ _ (by exact hg)).trans h.c4, (World.cell?_setCell_far _ _ _ _ (by exact hg)).trans h.c5, (World.cell?_setCell_far _ _ _ _ (by exact hg)).trans h.c6, (World.cell?_setCell_far _ _ _ _ (by exact hg)).trans h.c7, fun j => by rw [World.frozen?_setCell]; exact h.z j⟩
theorem InO.far1 {w : World} {b : Nat} {k a u : Int} {d : ByteArray} (h : InO w b k a u d) {g : Nat} (hg : ¬ g = b) (i : Nat) (v : Value) : InO (w.setCell ⟨g, i, none⟩ v) b k a u d :=
  ⟨(World.cell?_setCell_far _ _ _ _ (by exact hg)).trans h.c0, (World.cell?_setCell_far _ _ _ _ (by exact hg)).trans h.c1, (World.cell?_setCell_far _ _ _ _ (by exact hg)).trans h.c2, (World.cell?_setCell_far _ _ _ _ (by exact hg)).trans h.c3, fun j => by rw [World.frozen?_setCell]; exact h.z j⟩
set_option maxHeartbeats 1000000 in
theorem stores_long (x y bk fr : Int) (A0 : Option Addr) (k0 d0 : Nat) (rd : Bool) (w : World) (hk : ¬ k0 ≤ 20) :
    Calls Try.prog 6 #[.int .i64 x, .int .i64 y, .int .u32 bk, .int .u32 fr, .slice A0 k0 d0, .bool rd] w fun e w' => e = .returned (.bool true) ∧ Below w.heap.size w w' := by
  have HAW := Lib.hid awake9
  have dk : decide (20 < (k0 : Int)) = true := by simp; omega
  have dk' : ¬ (k0 : Int) ≤ 20 := by omega
  go_enter Try.func6, Try.ntmps6
  go_wp2_with (first
    | go_skip
    | (go_at_call 17; (with_reducible refine (HAW.out _).mono ?_); rintro e w12 ⟨rfl, hb12⟩))
  all_goals first | (exfalso; omega) | skip
  go_ret
  exact ⟨rfl, hb12⟩
set_option maxHeartbeats 4000000 in
theorem stores_write (x y bk fr : Int) (A0 : Option Addr) (k0 d0 : Nat) (z : Nat → Int) (w : World) (hz : Ints w A0 k0 z) (hk : k0 ≤ 20) (x0 : -9223372036854775808 ≤ x) (x1 : x ≤ 9223372036854775807) (y0 : -9223372036854775808 ≤ y) (y1 : y ≤ 9223372036854775807) (bk0 : 0 ≤ bk) (bk1 : bk ≤ 4294967295) (fr0 : 0 ≤ fr) (fr1 : fr ≤ 4294967295) :
    Calls Try.prog 6 #[.int .i64 x, .int .i64 y, .int .u32 bk, .int .u32 fr, .slice A0 k0 d0, .bool false] w fun e w' => e = .returned (.bool true) ∧ Below w.heap.size w w' := by
  obtain ⟨r, hr⟩ : ∃ r : Nat, y % 6 = r := ⟨(y % 6).toNat, by omega⟩
  have hr5 : r ≤ 5 := by omega
  obtain ⟨N, HN⟩ : ∃ N, Hid (N = 32 * (1 + r)) := ⟨_, rfl⟩
  have hN : N ≤ 192 := by rw [HN.out]; omega
  have hN1 : 1 ≤ N := by rw [HN.out]; omega
  have HWD := Lib.hid (fun W => words_any x y r W x0 x1 y0 y1 hr)
  unfold WordsPost at HWD
  rw [← HN.out] at HWD
  have HPN : Hid (pagesN N = 1 + r) := by
    show _ = _
    unfold pagesN
    rw [HN.out]
    rw [if_pos ⟨by omega, by omega⟩]
    omega
  have HPG := Lib.hid (fun g c W => pages_ref (some ⟨g, 0, none⟩) N c W (by omega))
  rw [HPN.out] at HPG
  obtain ⟨P, hP⟩ : ∃ P : Nat, 1 + r = P := ⟨_, rfl⟩
  have P1 : 1 ≤ P := by omega
  have P6 : P ≤ 6 := by omega
  have P0 : ¬ P = 0 := by omega
  obtain ⟨f, hf⟩ : ∃ f : Nat, fr % (P : Int) = f := ⟨(fr % (P : Int)).toNat, by have := Int.emod_nonneg fr (show (P : Int) ≠ 0 by omega); omega⟩
  have f1 : f < P := by have := Int.emod_lt_of_pos fr (show (0 : Int) < P by omega); omega
  have hft : fr.tmod (P : Int) = f := by rw [Int.tmod_eq_emod_of_nonneg fr0]; exact hf
  rw [hP] at HPG
  have HPN : Hid (pagesN N = P) := by show _ = _; rw [HPN.out, hP]
  obtain ⟨b, hb⟩ : ∃ b : Int, bk % 4 = b := ⟨_, rfl⟩
  have b0 : 0 ≤ b := by omega
  have b3 : b < 4 := by omega
  have HAW := Lib.hid awake9
  have HZ := Lib.hid hz
  have HB1 := Lib.hid (fun A c W => out_block 4 0 0 0 0 0 0 ⟨#[]⟩ A N c 4 b 0 W rfl)
  have HB2 := Lib.hid (fun A c W => out_frame 4 b 0 0 0 0 0 ⟨#[]⟩ A N c 5 f 0 W rfl)
  unfold OutPost dkV at HB1 HB2
  clear hz hP hr
  go_enter Try.func6, Try.ntmps6
  go_wp2_with (first
    | go_skip
    | (go_at_call 8; (with_reducible refine (HWD.out _).mono ?_); rintro e w1 ⟨⟨g, c, l, rfl, hg, hc, hl, hu, hown⟩, hb1⟩; have b1 : Below w.heap.size w w1 := Below.trans (by (repeat' (first | with_reducible exact Below.refl _ _ | with_reducible assumption | with_reducible apply below_drewN | with_reducible apply Below.drew | with_reducible apply Below.setCell | with_reducible apply Below.alloc | (simp; done) | omega | (simp; omega)))) (hb1.mono (by first | omega | (simp <;> omega))); clear hb1; have hg0 : w.heap.size ≤ g := hg; have gl1 := hown.lt; have h1 := b1.size; have HO1 := Lib.hid hown; have HC1 := Lib.hid hc; have HL1 := Lib.hid hl; have HU1 := Lib.hid hu; have HPP := Lib.hid (fun W (hM : Mem W (some ⟨g, 0, none⟩) N c l) => page_ref' (some ⟨g, 0, none⟩) N c f l W hM); have HPZ : Hid ((pgS N l f).size = 128) := pgS_size hl (by omega) (by have := HPN.out; omega); have HIS := Lib.hid (fun A c W (hm : Mem W A N c l) => show Calls Try.prog 10 #[dkV 4 b f 0 0 0 0 ⟨#[]⟩, .slice A N c, .int .i64 6, .int .u32 2, .int .u64 3] W (OutPost 4 b f 1 2 b f (pgS N l f) (some (4, 3, b, pgS N l f)) W) from (out_issued N l 4 b f 0 0 0 ⟨#[]⟩ 2 3 (by omega) (by omega) (by omega) (by have := HPN.out; omega) (.inr rfl)).1 A c W hm); generalize pgS N l f = pd at *; unfold OutPost dkV at HIS; clear hown hc hl hu hg)
    | (go_at_call 26; (with_reducible refine (HPG.out _ _ _).mono ?_); rintro e w1b ⟨rfl, m1, hw1b⟩; have HO1b : Hid (Own w1b g l) := (by rw [hw1b]; exact HO1.out.drewN m1); have b1b : Below w.heap.size w w1b := (by rw [hw1b]; exact below_drewN b1 m1); clear hw1b; have h1b := b1b.size; have gl1b := HO1b.out.lt)
    | (go_at_call 27; (with_reducible refine (HPP.out _ (Own.mem (HO1b.out.on (by (repeat' (first | with_reducible exact Below.refl _ _ | with_reducible assumption | with_reducible apply below_drewN | with_reducible apply Below.drew | with_reducible apply Below.setCell | with_reducible apply Below.alloc | (simp; done) | omega | (simp; omega))))) HL1.out HC1.out (by omega) HU1.out)).mono ?_); rintro e w2 ⟨rfl, hb2⟩; have X2 : InD w2 w1b.heap.size 4 0 0 0 0 0 0 ⟨#[]⟩ := (InD.new _ _ _ _ _ _ _ _ _ _).on hb2; have HO2 := Lib.hid ((HO1b.out.on ((Below.refl _ _).alloc (Nat.le_refl _) (.cells #[.int .u32 4, .int .u32 0, .int .u32 0, .int .i64 0, .int .i64 0, .int .u32 0, .int .u32 0, .string ⟨#[]⟩] 24))).on hb2); have b2 : Below w.heap.size w w2 := Below.trans (by (repeat' (first | with_reducible exact Below.refl _ _ | with_reducible assumption | with_reducible apply below_drewN | with_reducible apply Below.drew | with_reducible apply Below.setCell | with_reducible apply Below.alloc | (simp; done) | omega | (simp; omega)))) (hb2.mono (by first | omega | (simp <;> omega))); clear hb2; have h2 := b2.size; have x2 := X2.lt; have X2' := X2; obtain ⟨a0, a1, a2, a3, a4, a5, a6, a7, az⟩ := X2'; have z0 := az 0; have z1 := az 1; have z2 := az 2; have z3 := az 3; have z4 := az 4; have z5 := az 5; have z6 := az 6; have z7 := az 7; skip)
    | (go_at_call 10; (with_reducible refine (HB1.out _ _ _).mono ?_); rintro e w3 ⟨⟨s3, rfl, hs3⟩, hb3⟩; obtain rfl : s3 = .slice none 0 0 := hs3; have X3 : InD w3 w1b.heap.size 4 0 0 0 0 0 0 ⟨#[]⟩ := X2.on hb3; have HO3 := Lib.hid (HO2.out.on hb3); have b3 := below_stepI b2 hb3 (Nat.le_refl _); clear hb3 z0 z1 z2 z3 z4 z5 z6 z7; have h3 := b3.size; have x3 := X3.lt; have X3' := X3; obtain ⟨d0, d1, d2, d3, d4, d5, d6, d7, dz⟩ := X3'; have z0 := dz 0; have z1 := dz 1; have z2 := dz 2; have z3 := dz 3; have z4 := dz 4; have z5 := dz 5; have z6 := dz 6; have z7 := dz 7; skip)
    | (go_at_call 10; (with_reducible refine (HB2.out _ _ _).mono ?_); rintro e w4 ⟨⟨s4, rfl, hs4⟩, hb4⟩; obtain rfl : s4 = .slice none 0 0 := hs4; have X4 : InD w4 w1b.heap.size 4 b 0 0 0 0 0 ⟨#[]⟩ := (X3.st8 _ _ _ _ _ _ _ _).on hb4; have HO4 := Lib.hid ((HO3.out.far8 (by omega) _ _ _ _ _ _ _ _).on hb4); have b4 : Below w.heap.size w w4 := Below.trans (by (repeat' (first | with_reducible exact Below.refl _ _ | with_reducible assumption | with_reducible apply below_drewN | with_reducible apply Below.drew | with_reducible apply Below.setCell | with_reducible apply Below.alloc | (simp; done) | omega | (simp; omega)))) (hb4.mono (by first | omega | (simp <;> omega))); clear hb4 z0 z1 z2 z3 z4 z5 z6 z7; have h4 := b4.size; have x4 := X4.lt; have X4' := X4; obtain ⟨p0, p1, p2, p3, p4, p5, p6, p7, pz⟩ := X4'; have z0 := pz 0; have z1 := pz 1; have z2 := pz 2; have z3 := pz 3; have z4 := pz 4; have z5 := pz 5; have z6 := pz 6; have z7 := pz 7; skip)
    | (go_at_call 10; (with_reducible refine (HIS.out _ _ _ (Own.mem (by repeat' (first | with_reducible exact HO4.out | (with_reducible refine Own.far ?_ _ _ ?_) | omega)) HL1.out HC1.out (by omega) HU1.out)).mono ?_); rintro e w5 ⟨⟨s5, rfl, hs5⟩, hb5⟩; obtain ⟨g5, hg5, rfl, I5⟩ := hs5; have hg5' : w1b.heap.size < g5 := Nat.lt_of_lt_of_le (by first | omega | (simp <;> omega)) hg5; have X5 : InD w5 w1b.heap.size 4 b f 0 0 0 0 ⟨#[]⟩ := (X4.st8 _ _ _ _ _ _ _ _).on hb5; have HO5 := Lib.hid ((HO4.out.far8 (by omega) _ _ _ _ _ _ _ _).on hb5); have b5 : Below w.heap.size w w5 := Below.trans (by (repeat' (first | with_reducible exact Below.refl _ _ | with_reducible assumption | with_reducible apply below_drewN | with_reducible apply Below.drew | with_reducible apply Below.setCell | with_reducible apply Below.alloc | (simp; done) | omega | (simp; omega)))) (hb5.mono (by first | omega | (simp <;> omega))); clear hb5 z0 z1 z2 z3 z4 z5 z6 z7; have h5 := b5.size; have x5 := X5.lt; have i5 := I5.lt; have X5' := X5; obtain ⟨s0, s1, s2, s3, s4, s5, s6, s7, sz⟩ := X5'; have z0 := sz 0; have z1 := sz 1; have z2 := sz 2; have z3 := sz 3; have z4 := sz 4; have z5 := sz 5; have z6 := sz 6; have z7 := sz 7; refine Hid.out ?_))
  refine Lib.hid ?_
  repeat' (first | (with_reducible refine then_normal ?_) | (with_reducible refine wp_exit ?_) | (with_reducible refine wp_ret ?_) | (with_reducible refine then_exit ?_) | (with_reducible refine blk_hit ?_) | (with_reducible refine blk_pass (by decide) ?_) | (with_reducible refine then_ret ?_) | (with_reducible refine blk_ret ?_) | (with_reducible refine blk_normal ?_) | go_values | go_skip | go_guarded | go_step | go_upon | (simp only [Int.not_lt, Int.not_le] at *; go_simp) | (go_values <;> (try go_simp)) | (go_ite <;> go_prune <;> (try go_simp)))
  obtain ⟨W, hW⟩ : ∃ W, World.alloc ((((((((w5.setCell ⟨w1b.heap.size, 0, none⟩ (.int .u32 4)).setCell ⟨w1b.heap.size, 1, none⟩ (.int .u32 b)).setCell ⟨w1b.heap.size, 2, none⟩ (.int .u32 f)).setCell ⟨w1b.heap.size, 3, none⟩ (.int .i64 1)).setCell ⟨w1b.heap.size, 4, none⟩ (.int .i64 2)).setCell ⟨w1b.heap.size, 5, none⟩ (.int .u32 b)).setCell ⟨w1b.heap.size, 6, none⟩ (.int .u32 f)).setCell ⟨w1b.heap.size, 7, none⟩ (.string pd)) (.cells #[.int .i64 4, .int .u64 3, .int .u32 b, .string pd] 34) = W := ⟨_, rfl⟩
  have XW : InD W w1b.heap.size 4 b f 1 2 b f pd := by rw [← hW]; exact (X5.st8 _ _ _ _ _ _ _ _).alloc _
  have KW : InO W g5 4 3 b pd := by rw [← hW]; exact (I5.far8 (by omega) _ _ _ _ _ _ _ _).alloc _
  have WW : InO W w5.heap.size 4 3 b pd := by rw [← hW]; exact InO.at_ (by simp) _ _ _ _ _
  have OW : Own W g l := by rw [← hW]; exact (HO5.out.far8 (by omega) _ _ _ _ _ _ _ _).on ((Below.refl _ _).alloc (Nat.le_refl _) _)
  have bW : Below w.heap.size w W := by rw [← hW]; exact (below_st8 b5 (by omega) _ _ _ _ _ _ _ _).alloc (by simp <;> omega) _
  rw [hW]
  obtain ⟨gd, hgd⟩ : ∃ gd, w1b.heap.size = gd := ⟨_, rfl⟩
  obtain ⟨gw, hgw⟩ : ∃ gw, w5.heap.size = gw := ⟨_, rfl⟩
  have e1 : g < gd := by omega
  have e2 : gd < g5 := by omega
  have e3 : gd < gw := by omega
  have e4 : w.heap.size ≤ gd := by omega
  rw [hgd] at XW
  rw [hgw] at WW
  (try rw [hgd]); (try rw [hgw])
  clear hW hgd hgw X5 X4 X3 X2 I5 HO5 HO4 HO3 HO2 HO1b HO1 b5 b4 b3 b2 b1b b1 HB1 HB2 HIS HPG HWD
  clear a0 a1 a2 a3 a4 a5 a6 a7 az d0 d1 d2 d3 d4 d5 d6 d7 dz p0 p1 p2 p3 p4 p5 p6 p7 pz s0 s1 s2 s3 s4 s5 s6 s7 sz
  have hgW := OW.lt
  have hKW := KW.lt
  have hWW := WW.lt
  have KW' := KW
  have WW' := WW
  obtain ⟨t0, t1, t2, t3, tz⟩ := KW'
  obtain ⟨u0, u1, u2, u3, uz⟩ := WW'
  go_region
  go_wp2
  have HRQ := Lib.hid (fun K F W => show Calls Try.prog 12 #[dkV 4 K F 1 2 b f pd, .int .u64 3] W fun e w' => e = .returned (.tuple #[.agg #[.int .i64 4, .int .u64 3, .int .u32 b, .string pd], .bool true]) ∧ Below W.heap.size W w' from dkReq_any 4 K F 1 2 b f pd 3 W)
  have HCP := Lib.hid (fun K F l W (hm : Mem W (some ⟨g, 0, none⟩) N c l) => comp_write_p N l K F b f pd (some ⟨g, 0, none⟩) c W (by omega) hm)
  unfold dkV at HRQ
  unfold CmpPost dkV evV at HCP
  go_loopw [20] (fun i wr => ∃ (j : Nat) (K' F' : Int) (lj : List Int), j ≤ k0 ∧ i = .int .i64 j ∧ InD wr gd 4 K' F' 1 2 b f pd ∧ Own wr g lj ∧ Hid (lj.length = N) ∧ Hid (U32 lj) ∧ InO wr gw 4 3 b pd ∧ Below w.heap.size w wr) (fun i _ => k0 - (intOf i).toNat)
  case atStart => exact ⟨0, b, f, l, by omega, rfl, XW.drew, OW.drewN 1, HL1.out, HU1.out, WW.drew, bW.drew⟩
  case round =>
    obtain ⟨j, K1, F1, lj, hj, rfl, hX, hO, hL, hU, hI, hb⟩ := hrel
    clear XW KW WW OW bW t0 t1 t2 t3 tz u0 u1 u2 u3 uz hgW hKW hWW
    have lX := hX.lt
    have lO := hO.lt
    have lI := hI.lt
    by_cases hlt : j < k0
    · obtain ⟨zb, zo, rfl, hcw⟩ := HZ.out.1 j hlt
      have hzb : zb < w.heap.size := World.block_lt_of_cell? w _ hcw
      have hc := (hb.cell (p := ⟨zb, zo + j, none⟩) hzb).trans hcw
      obtain ⟨z0, z1⟩ := HZ.out.2 j hlt
      generalize z j = zj at hc hcw z0 z1
      have i0 : 0 ≤ zj % N := Int.emod_nonneg _ (by omega)
      have i1 : zj % N < N := Int.emod_lt_of_pos _ (by omega)
      obtain ⟨q, hq⟩ : ∃ q : Nat, zj % N = q := ⟨(zj % N).toNat, by omega⟩
      have hqN : q < N := by omega
      have HQ := Lib.hid hq
      clear hq i0 i1
      have hcell := hO.cell (i := q) (by rw [hL.out]; omega)
      have hfree := hO.free q
      have HO := Lib.hid hO
      have HX := Lib.hid hX
      have HI := Lib.hid hI
      have HB := Lib.hid hb
      clear hO hX hI hb
      have HRN := Lib.hid ((round_any zj N wr.drew (by omega) (by omega) z0 z1).mono (R' := fun e w' => e = .returned (.int .i64 (q : Int)) ∧ w' = wr.drew) fun _ _ ⟨h, h'⟩ => ⟨by rw [h, HQ.out], h'.symm⟩)
      have HR3 := Lib.hid (fun W => round_any zj 3 W (by omega) (by omega) z0 z1)
      obtain ⟨q3, hq3⟩ : ∃ q3 : Int, zj % 3 = q3 := ⟨_, rfl⟩
      have q30 : 0 ≤ q3 := by omega
      have q31 : q3 ≤ 2 := by omega
      rw [hq3] at HR3
      clear hq3
      go_wp2_with fail
      refine wp_region_still_tail 15 (by kernel_rfl) (by kernel_rfl) ?_
      simp only [List.take_succ_cons, List.take_zero, List.drop_succ_cons, List.drop_zero]
      repeat (refine wpStill_step (fun K hK => ?_); go_simp; first | (with_reducible refine hK _ ?_) | (with_reducible refine ⟨_, HRN.out, hK _ ?_⟩); clear hK K)
      refine wpStill_nil ?_
      go_wp2
      obtain ⟨W2, hW2⟩ : ∃ W, (wr.setCell ⟨g, q, none⟩ (.int .u32 (bits .and .i64 zj 4294967295 % 4294967296))).drew = W := ⟨_, rfl⟩
      obtain ⟨l2, hl2⟩ : ∃ l2, lj.set q (bits .and .i64 zj 4294967295 % 4294967296) = l2 := ⟨_, rfl⟩
      have X4 : InD W2 gd 4 K1 F1 1 2 b f pd := by rw [← hW2]; exact (HX.out.far1 (by omega) _ _).drew
      have I4 : InO W2 gw 4 3 b pd := by rw [← hW2]; exact (HI.out.far1 (by omega) _ _).drew
      have O4 : Own W2 g l2 := by rw [← hW2, ← hl2]; exact (HO.out.set (by rw [hL.out]; exact hqN) _).drewN 1
      have b4 : Below w.heap.size w W2 := by rw [← hW2]; exact (HB.out.setCell (by show _ ≤ g; omega) _).drew
      have L4 : Hid (l2.length = N) := by show _ = _; rw [← hl2, List.length_set]; exact hL.out
      have U4 : Hid (U32 l2) := by show U32 _; rw [← hl2]; exact hU.out.set q (Int.emod_nonneg _ (by omega)) (by omega)
      have Zc : W2.cell? ⟨zb, zo + j, none⟩ = some (.int .i64 zj) := (b4.cell (p := ⟨zb, zo + j, none⟩) hzb).trans hcw
      rw [hW2]
      clear hW2 hl2 HX HO HI HB hcell hfree hc HQ HRN
      have HO4 := Lib.hid O4
      clear O4
      have lx4 := X4.lt
      have li4 := I4.lt
      have lo4 := HO4.out.lt
      have h4 := b4.size
      have n4 : ¬ W2.heap.size = gd := by omega
      have mz : ¬ W2.heap.size = zb := by omega
      obtain ⟨K2, F2, _, _, hOB⟩ := out_busy N l2 4 K1 F1 2 b f pd (IntKind.i64.wrap (4 + q3)) (IntKind.u32.wrap (bits .and .i64 zj 3)) 4
      unfold OutB OutPost dkV at hOB
      have HBO := Lib.hid hOB.1
      clear hOB
      have bb : Below W2.heap.size W2 W2.drew := (Below.refl _ _).drew
      go_region_held3 (fun w' => w'.cell? ⟨gd, 0, none⟩ = some (.int .u32 4) ∧ w'.cell? ⟨gd, 1, none⟩ = some (.int .u32 K1) ∧ w'.cell? ⟨gd, 2, none⟩ = some (.int .u32 F1) ∧ w'.cell? ⟨gd, 3, none⟩ = some (.int .i64 1) ∧ w'.cell? ⟨gd, 4, none⟩ = some (.int .i64 2) ∧ w'.cell? ⟨gd, 5, none⟩ = some (.int .u32 b) ∧ w'.cell? ⟨gd, 6, none⟩ = some (.int .u32 f) ∧ w'.cell? ⟨gd, 7, none⟩ = some (.string pd) ∧ w'.cell? ⟨zb, zo + j, none⟩ = some (.int .i64 zj)) (first | with_reducible exact ⟨stillI X4.c0 bb, stillI X4.c1 bb, stillI X4.c2 bb, stillI X4.c3 bb, stillI X4.c4 bb, stillI X4.c5 bb, stillI X4.c6 bb, stillI X4.c7 bb, stillI Zc bb⟩ | with_reducible exact ⟨Lib.cell?_alloc_some _ (stillI X4.c0 bb), Lib.cell?_alloc_some _ (stillI X4.c1 bb), Lib.cell?_alloc_some _ (stillI X4.c2 bb), Lib.cell?_alloc_some _ (stillI X4.c3 bb), Lib.cell?_alloc_some _ (stillI X4.c4 bb), Lib.cell?_alloc_some _ (stillI X4.c5 bb), Lib.cell?_alloc_some _ (stillI X4.c6 bb), Lib.cell?_alloc_some _ (stillI X4.c7 bb), Lib.cell?_alloc_some _ (stillI Zc bb)⟩ | with_reducible exact ⟨Lib.cell?_alloc_some _ X4.c0, Lib.cell?_alloc_some _ X4.c1, Lib.cell?_alloc_some _ X4.c2, Lib.cell?_alloc_some _ X4.c3, Lib.cell?_alloc_some _ X4.c4, Lib.cell?_alloc_some _ X4.c5, Lib.cell?_alloc_some _ X4.c6, Lib.cell?_alloc_some _ X4.c7, Lib.cell?_alloc_some _ Zc⟩ | with_reducible exact ⟨(far8 _ n4 _ _ _ _ _ _ _ _ 0).trans (stillI X4.c0 bb), (far8 _ n4 _ _ _ _ _ _ _ _ 1).trans (stillI X4.c1 bb), (far8 _ n4 _ _ _ _ _ _ _ _ 2).trans (stillI X4.c2 bb), (far8 _ n4 _ _ _ _ _ _ _ _ 3).trans (stillI X4.c3 bb), (far8 _ n4 _ _ _ _ _ _ _ _ 4).trans (stillI X4.c4 bb), (far8 _ n4 _ _ _ _ _ _ _ _ 5).trans (stillI X4.c5 bb), (far8 _ n4 _ _ _ _ _ _ _ _ 6).trans (stillI X4.c6 bb), (far8 _ n4 _ _ _ _ _ _ _ _ 7).trans (stillI X4.c7 bb), (far8 _ mz _ _ _ _ _ _ _ _ (zo + j)).trans (stillI Zc bb)⟩ | with_reducible exact ⟨((X4.alloc _).drew).c0, ((X4.alloc _).drew).c1, ((X4.alloc _).drew).c2, ((X4.alloc _).drew).c3, ((X4.alloc _).drew).c4, ((X4.alloc _).drew).c5, ((X4.alloc _).drew).c6, ((X4.alloc _).drew).c7, stillI (Lib.cell?_alloc_some _ Zc) ((Below.refl _ _).drew)⟩ | go_keep) (first
        | (go_at_call 9; (with_reducible refine (HR3.out _).mono ?_); rintro e wx ⟨rfl, rfl⟩)
        | (go_at_call 10; (with_reducible refine (HBO.out _ _ _ (Own.mem (HO4.out.on bb) L4.out HC1.out (by omega) U4.out)).mono ?_); rintro e w5 ⟨⟨sl5, rfl, hs5⟩, hb5⟩; obtain rfl : sl5 = .slice none 0 0 := hs5; replace bb := below_stepI bb hb5 (Nat.le_refl _))
        | (go_at_call 10; (with_reducible refine (HBO.out _ _ _ (Own.mem (HO4.out.on (((Below.refl W2.heap.size W2).alloc (Nat.le_refl _) (.cells #[.int .u32 0, .int .u32 0, .int .u32 0, .int .i64 0, .int .i64 0, .int .u32 0, .int .u32 0, .string ⟨#[]⟩] 24)).drew)) L4.out HC1.out (by omega) U4.out)).mono ?_); rintro e w5 ⟨⟨sl5, rfl, hs5⟩, hb5⟩; obtain rfl : sl5 = .slice none 0 0 := hs5; replace bb := below_stepI (((Below.refl W2.heap.size W2).alloc (Nat.le_refl _) (.cells #[.int .u32 0, .int .u32 0, .int .u32 0, .int .i64 0, .int .i64 0, .int .u32 0, .int .u32 0, .string ⟨#[]⟩] 24)).drew) hb5 (Nat.le_refl _); have Y5 : InD w5 W2.heap.size 0 0 0 0 0 0 0 ⟨#[]⟩ := ((InD.new _ _ _ _ _ _ _ _ _ _).drew).on hb5; have l5 := Y5.lt; have Y5' := Y5; obtain ⟨y0, y1, y2, y3, y4, y5, y6, y7, yz⟩ := Y5'; have z0 := yz 0; have z1 := yz 1; have z2 := yz 2; have z3 := yz 3; have z4 := yz 4; have z5 := yz 5; have z6 := yz 6; have z7 := yz 7; skip))
      all_goals first
        | (obtain ⟨W6, hW⟩ : ∃ W, w5.alloc (.cells #[.int .u32 4, .int .u32 K2, .int .u32 F2, .int .i64 1, .int .i64 2, .int .u32 b, .int .u32 f, .string pd] 24) = W := ⟨_, rfl⟩
           obtain ⟨g6, hg6⟩ : ∃ g, w5.heap.size = g := ⟨_, rfl⟩
           rw [hW, hg6]
           have hw5 : W2.heap.size ≤ w5.heap.size := bb.size
           have X6 : InD W6 gd 4 K1 F1 1 2 b f pd := by rw [← hW]; exact (X4.on bb).alloc _
           have I6 : InO W6 gw 4 3 b pd := by rw [← hW]; exact (I4.on bb).alloc _
           have Y6 : InD W6 g6 4 K2 F2 1 2 b f pd := by rw [← hW, ← hg6]; exact InD.new _ _ _ _ _ _ _ _ _ _
           have O6 : Own W6 g l2 := by rw [← hW]; exact (HO4.out.on bb).on ((Below.refl _ _).alloc (Nat.le_refl _) _)
           have b6 : Below w.heap.size w W6 := by rw [← hW]; exact (below_stepI b4 bb (Nat.le_refl _)).alloc (by omega) _
           have n6 : ¬ gd = g6 := by omega
           clear hW hg6)
        | (obtain ⟨W6, hW⟩ : ∃ W, ((((((((w5.setCell ⟨W2.heap.size, 0, none⟩ (.int .u32 4)).setCell ⟨W2.heap.size, 1, none⟩ (.int .u32 K2)).setCell ⟨W2.heap.size, 2, none⟩ (.int .u32 F2)).setCell ⟨W2.heap.size, 3, none⟩ (.int .i64 1)).setCell ⟨W2.heap.size, 4, none⟩ (.int .i64 2)).setCell ⟨W2.heap.size, 5, none⟩ (.int .u32 b)).setCell ⟨W2.heap.size, 6, none⟩ (.int .u32 f)).setCell ⟨W2.heap.size, 7, none⟩ (.string pd)) = W := ⟨_, rfl⟩
           obtain ⟨g6, hg6⟩ : ∃ g, W2.heap.size = g := ⟨_, rfl⟩
           rw [hW]
           have X6 : InD W6 gd 4 K1 F1 1 2 b f pd := by rw [← hW]; exact (X4.on bb).far8 n4 _ _ _ _ _ _ _ _
           have I6 : InO W6 gw 4 3 b pd := by rw [← hW]; exact (I4.on bb).far8 (by omega) _ _ _ _ _ _ _ _
           have Y6 : InD W6 g6 4 K2 F2 1 2 b f pd := by rw [← hW, ← hg6]; exact Y5.st8 _ _ _ _ _ _ _ _
           have O6 : Own W6 g l2 := by rw [← hW]; exact (HO4.out.on bb).far8 (by omega) _ _ _ _ _ _ _ _
           have b6 : Below w.heap.size w W6 := by rw [← hW]; exact below_st8 (below_stepI b4 bb (Nat.le_refl _)) (by omega) _ _ _ _ _ _ _ _
           have n6 : ¬ gd = g6 := by omega
           rw [hg6]
           clear hW hg6)
      all_goals
        have HX6 := Lib.hid X6
        have HI6 := Lib.hid I6
        have HO6 := Lib.hid O6
        have HB6 := Lib.hid b6
        obtain ⟨r0, r1, r2, r3, r4, r5, r6, r7, xz⟩ := X6
        obtain ⟨c0, c1, c2, c3, c4, c5, c6, c7, cz⟩ := Y6
        have z0 := xz 0; have z1 := xz 1; have z2 := xz 2; have z3 := xz 3; have z4 := xz 4; have z5 := xz 5; have z6 := xz 6; have z7 := xz 7; clear I6 O6 b6
        go_wp2
        go_roundw
        case rel => exact ⟨j + 1, K2, F2, l2, by omega, by go_num, HX6.out.st8 _ _ _ _ _ _ _ _, HO6.out.far8 (by omega) _ _ _ _ _ _ _ _, L4, U4, HI6.out.far8 (by omega) _ _ _ _ _ _ _ _, below_st8 HB6.out (by omega) _ _ _ _ _ _ _ _⟩
        case measure => simp [intOf]; omega
    · obtain rfl : j = k0 := by omega
      have HO := Lib.hid hO
      have HX := Lib.hid hX
      have HI := Lib.hid hI
      have HB := Lib.hid hb
      have hb' := hb.size
      obtain ⟨a0, a1, a2, a3, a4, a5, a6, a7, az⟩ := hX
      obtain ⟨i0, i1, i2, i3, iz⟩ := hI
      clear hO hb
      go_wp2_with (first
        | go_skip
        | (go_at_call 12; (with_reducible refine (HRQ.out _ _ _).mono ?_); rintro e w6 ⟨rfl, hb6⟩; have X6 := HX.out.on hb6; have HO6 := Lib.hid (HO.out.on hb6); have I6 := HI.out.on hb6; have HB6 := Lib.hid (below_stepI HB.out hb6 (Nat.le_refl _)); have q6 := hb6.size; clear hb6; have h6 := HB6.out.size; have o6 := HO6.out.lt; have x6' := X6.lt; have i6 := I6.lt; have n6 : ¬ w6.heap.size = gd := (by omega); have n6' : ¬ gd = w6.heap.size := (by omega); have n7 : ¬ w6.heap.size + 1 = gd := (by omega); have n7' : ¬ gd = w6.heap.size + 1 := (by omega); have n8 : ¬ w6.heap.size = gw := (by omega); have n8' : ¬ gw = w6.heap.size := (by omega); have X6' := X6; have I6' := I6; obtain ⟨c0, c1, c2, c3, c4, c5, c6, c7, cz⟩ := X6'; obtain ⟨j0, j1, j2, j3, jz⟩ := I6'; obtain ⟨d0, d1, d2, d3, d4, d5, d6, d7, dz⟩ := X6.alloc (.cells #[.int .i64 4, .int .u64 3, .int .u32 b, .string pd] 34); obtain ⟨k0', k1', k2', k3', kz'⟩ := I6.alloc (.cells #[.int .i64 4, .int .u64 3, .int .u32 b, .string pd] 34); obtain ⟨m0, m1, m2, m3, m4, m5, m6, m7, mz⟩ := (X6.alloc (.cells #[.int .i64 4, .int .u64 3, .int .u32 b, .string pd] 34)).alloc (.cells #[.int .i64 4, .int .u32 1, .string ⟨#[]⟩] 42))
        | (go_at_call 19; (with_reducible refine (HCP.out _ _ _ _ (Own.mem (HO6.out.on (((Below.refl w6.heap.size w6).alloc (Nat.le_refl _) (.cells #[.int .i64 4, .int .u64 3, .int .u32 b, .string pd] 34)).alloc (by simp) (.cells #[.int .i64 4, .int .u32 1, .string ⟨#[]⟩] 42))) hL.out HC1.out (by omega) hU.out)).mono ?_); rintro e w8 ⟨⟨A8, c8, l8, rfl, hm8, ho8, hf8, hg8⟩, hb8⟩; have X8 : InD w8 gd 4 K1 F1 1 2 b f pd := ((X6.alloc (.cells #[.int .i64 4, .int .u64 3, .int .u32 b, .string pd] 34)).alloc (.cells #[.int .i64 4, .int .u32 1, .string ⟨#[]⟩] 42)).on hb8; have HO8 := Lib.hid ((HO6.out.on (((Below.refl w6.heap.size w6).alloc (Nat.le_refl _) (.cells #[.int .i64 4, .int .u64 3, .int .u32 b, .string pd] 34)).alloc (by simp) (.cells #[.int .i64 4, .int .u32 1, .string ⟨#[]⟩] 42))).on hb8); have HB8 := Lib.hid (Below.trans (below_stepI HB6.out (((Below.refl w6.heap.size w6).alloc (Nat.le_refl _) (.cells #[.int .i64 4, .int .u64 3, .int .u32 b, .string pd] 34)).alloc (by simp) (.cells #[.int .i64 4, .int .u32 1, .string ⟨#[]⟩] 42)) (Nat.le_refl _)) (hb8.mono (by simp; omega))); clear hb8; obtain ⟨g8, rfl, hg8', ho8'⟩ := ho8 (by omega); have HQ8 := Lib.hid ho8'; have g8s : w6.heap.size ≤ g8 := Nat.le_trans (by simp <;> omega) hg8'; have HM8 := Lib.hid hm8; obtain rfl : l8 = lj := hg8 (fun h => h); clear hm8 ho8' hf8 hg8 hg8' ho8; have h8 := HB8.out.size; have x8' := X8.lt; have X8' := X8; obtain ⟨t0, t1, t2, t3, t4, t5, t6, t7, tz⟩ := X8'; have z0 := tz 0; have z1 := tz 1; have z2 := tz 2; have z3 := tz 3; have z4 := tz 4; have z5 := tz 5; have z6 := tz 6; have z7 := tz 7; refine Hid.out ?_))
      refine Lib.hid ?_
      have m81 := Lib.hid HM8.out.1
      have m82 := Lib.hid HM8.out.2.1
      have m84 := Lib.hid HM8.out.2.2.2.1
      have HP8 := Lib.hid (fun W (hM : Mem W (some ⟨g8, 0, none⟩) N c8 l8) => page_ref' (some ⟨g8, 0, none⟩) N c8 f l8 W hM)
      go_wp2_with (first
        | go_skip
        | (go_at_call 27; skip; (with_reducible refine (HP8.out _ (Own.mem (HQ8.out.far8 (by omega) _ _ _ _ _ _ _ _) m81.out m82.out (by omega) m84.out)).mono ?_); rintro e w9 ⟨rfl, hb9⟩; have Y9 : InD w9 gd 4 K1 F1 2 0 0 0 ⟨#[]⟩ := (X8.st8 _ _ _ _ _ _ _ _).on hb9; have O9 := Lib.hid ((HO8.out.far8 (by omega) _ _ _ _ _ _ _ _).on hb9); have Q9 := Lib.hid ((HQ8.out.far8 (by omega) _ _ _ _ _ _ _ _).on hb9); have B9 := Lib.hid (below_stepI (below_st8 HB8.out (by omega) _ _ _ _ _ _ _ _) hb9 (Nat.le_refl _)); clear hb9; have h9 := B9.out.size; obtain ⟨r0, r1, r2, r3, r4, r5, r6, r7, rz⟩ := Y9)
        | (go_at_call 21; (with_reducible refine (same_refl _ _ N c8 c l8 _ (Own.mem Q9.out m81.out m82.out (by omega) m84.out) (Own.mem O9.out m81.out HC1.out (by omega) m84.out)).mono ?_); rintro e w10 ⟨rfl, m10, rfl⟩)
        | (go_at_call 17; (with_reducible refine (HAW.out _).mono ?_); rintro e w12 ⟨rfl, hb12⟩; have b12 := below_stepI (below_drewN B9.out m10) hb12 (Nat.le_refl _)))
      go_ret
      exact ⟨rfl, b12⟩
set_option maxHeartbeats 4000000 in
theorem stores_read (x y bk fr : Int) (A0 : Option Addr) (k0 d0 : Nat) (z : Nat → Int) (w : World) (hz : Ints w A0 k0 z) (hk : k0 ≤ 20) (x0 : -9223372036854775808 ≤ x) (x1 : x ≤ 9223372036854775807) (y0 : -9223372036854775808 ≤ y) (y1 : y ≤ 9223372036854775807) (bk0 : 0 ≤ bk) (bk1 : bk ≤ 4294967295) (fr0 : 0 ≤ fr) (fr1 : fr ≤ 4294967295) :
    Calls Try.prog 6 #[.int .i64 x, .int .i64 y, .int .u32 bk, .int .u32 fr, .slice A0 k0 d0, .bool true] w fun e w' => e = .returned (.bool true) ∧ Below w.heap.size w w' := by
  obtain ⟨r, hr⟩ : ∃ r : Nat, y % 6 = r := ⟨(y % 6).toNat, by omega⟩
  have hr5 : r ≤ 5 := by omega
  obtain ⟨N, HN⟩ : ∃ N, Hid (N = 32 * (1 + r)) := ⟨_, rfl⟩
  have hN : N ≤ 192 := by rw [HN.out]; omega
  have hN1 : 1 ≤ N := by rw [HN.out]; omega
  have HWD := Lib.hid (fun W => words_any x y r W x0 x1 y0 y1 hr)
  unfold WordsPost at HWD
  rw [← HN.out] at HWD
  have HPN : Hid (pagesN N = 1 + r) := by
    show _ = _
    unfold pagesN
    rw [HN.out]
    rw [if_pos ⟨by omega, by omega⟩]
    omega
  have HPG := Lib.hid (fun g c W => pages_ref (some ⟨g, 0, none⟩) N c W (by omega))
  rw [HPN.out] at HPG
  obtain ⟨P, hP⟩ : ∃ P : Nat, 1 + r = P := ⟨_, rfl⟩
  have P1 : 1 ≤ P := by omega
  have P6 : P ≤ 6 := by omega
  have P0 : ¬ P = 0 := by omega
  obtain ⟨f, hf⟩ : ∃ f : Nat, fr % (P : Int) = f := ⟨(fr % (P : Int)).toNat, by have := Int.emod_nonneg fr (show (P : Int) ≠ 0 by omega); omega⟩
  have f1 : f < P := by have := Int.emod_lt_of_pos fr (show (0 : Int) < P by omega); omega
  have hft : fr.tmod (P : Int) = f := by rw [Int.tmod_eq_emod_of_nonneg fr0]; exact hf
  rw [hP] at HPG
  have HPN : Hid (pagesN N = P) := by show _ = _; rw [HPN.out, hP]
  obtain ⟨b, hb⟩ : ∃ b : Int, bk % 4 = b := ⟨_, rfl⟩
  have b0 : 0 ≤ b := by omega
  have b3 : b < 4 := by omega
  have HAW := Lib.hid awake9
  have HDT := Lib.hid (fun W => show Calls Try.prog 28 #[.int .i64 x, .int .i64 128] W fun e w' => e = .returned (.string (datS x 128)) ∧ Below W.heap.size W w' from dat_any x 128 W (by omega) (by omega) (by omega))
  have hdt := datS_size x 128
  generalize datS x 128 = DT at *
  have hdt' : (DT.size : Int) = 128 := by omega
  have HZ := Lib.hid hz
  have HB1 := Lib.hid (fun A c W => out_block 4 0 0 0 0 0 0 ⟨#[]⟩ A N c 4 b 0 W rfl)
  have HB2 := Lib.hid (fun A c W => out_frame 4 b 0 0 0 0 0 ⟨#[]⟩ A N c 5 f 0 W rfl)
  unfold OutPost dkV at HB1 HB2
  clear hz hP hr
  go_enter Try.func6, Try.ntmps6
  go_wp2_with (first
    | go_skip
    | (go_at_call 8; (with_reducible refine (HWD.out _).mono ?_); rintro e w1 ⟨⟨g, c, l, rfl, hg, hc, hl, hu, hown⟩, hb1⟩; have b1 : Below w.heap.size w w1 := Below.trans (by (repeat' (first | with_reducible exact Below.refl _ _ | with_reducible assumption | with_reducible apply below_drewN | with_reducible apply Below.drew | with_reducible apply Below.setCell | with_reducible apply Below.alloc | (simp; done) | omega | (simp; omega)))) (hb1.mono (by first | omega | (simp <;> omega))); clear hb1; have hg0 : w.heap.size ≤ g := hg; have gl1 := hown.lt; have h1 := b1.size; have HO1 := Lib.hid hown; have HC1 := Lib.hid hc; have HL1 := Lib.hid hl; have HU1 := Lib.hid hu; have HPP := Lib.hid (fun W (hM : Mem W (some ⟨g, 0, none⟩) N c l) => page_ref' (some ⟨g, 0, none⟩) N c f l W hM); have HPZ : Hid ((pgS N l f).size = 128) := pgS_size hl (by omega) (by have := HPN.out; omega); have HIS := Lib.hid (fun A c W (hm : Mem W A N c l) => show Calls Try.prog 10 #[dkV 4 b f 0 0 0 0 ⟨#[]⟩, .slice A N c, .int .i64 6, .int .u32 1, .int .u64 3] W (OutPost 4 b f 1 1 b f ⟨#[]⟩ (some (3, 3, b, ⟨#[]⟩)) W) from (out_issued N l 4 b f 0 0 0 ⟨#[]⟩ 1 3 (by omega) (by omega) (by omega) (by have := HPN.out; omega) (.inl rfl)).1 A c W hm); generalize pgS N l f = pd at *; unfold OutPost dkV at HIS; clear hown hc hl hu hg)
    | (go_at_call 26; (with_reducible refine (HPG.out _ _ _).mono ?_); rintro e w1b ⟨rfl, m1, hw1b⟩; have HO1b : Hid (Own w1b g l) := (by rw [hw1b]; exact HO1.out.drewN m1); have b1b : Below w.heap.size w w1b := (by rw [hw1b]; exact below_drewN b1 m1); clear hw1b; have h1b := b1b.size; have gl1b := HO1b.out.lt)
    | (go_at_call 27; (with_reducible refine (HPP.out _ (Own.mem (HO1b.out.on (by (repeat' (first | with_reducible exact Below.refl _ _ | with_reducible assumption | with_reducible apply below_drewN | with_reducible apply Below.drew | with_reducible apply Below.setCell | with_reducible apply Below.alloc | (simp; done) | omega | (simp; omega))))) HL1.out HC1.out (by omega) HU1.out)).mono ?_); rintro e w2 ⟨rfl, hb2⟩; have X2 : InD w2 w1b.heap.size 4 0 0 0 0 0 0 ⟨#[]⟩ := (InD.new _ _ _ _ _ _ _ _ _ _).on hb2; have HO2 := Lib.hid ((HO1b.out.on ((Below.refl _ _).alloc (Nat.le_refl _) (.cells #[.int .u32 4, .int .u32 0, .int .u32 0, .int .i64 0, .int .i64 0, .int .u32 0, .int .u32 0, .string ⟨#[]⟩] 24))).on hb2); have b2 : Below w.heap.size w w2 := Below.trans (by (repeat' (first | with_reducible exact Below.refl _ _ | with_reducible assumption | with_reducible apply below_drewN | with_reducible apply Below.drew | with_reducible apply Below.setCell | with_reducible apply Below.alloc | (simp; done) | omega | (simp; omega)))) (hb2.mono (by first | omega | (simp <;> omega))); clear hb2; have h2 := b2.size; have x2 := X2.lt; have X2' := X2; obtain ⟨a0, a1, a2, a3, a4, a5, a6, a7, az⟩ := X2'; have z0 := az 0; have z1 := az 1; have z2 := az 2; have z3 := az 3; have z4 := az 4; have z5 := az 5; have z6 := az 6; have z7 := az 7; skip)
    | (go_at_call 10; (with_reducible refine (HB1.out _ _ _).mono ?_); rintro e w3 ⟨⟨s3, rfl, hs3⟩, hb3⟩; obtain rfl : s3 = .slice none 0 0 := hs3; have X3 : InD w3 w1b.heap.size 4 0 0 0 0 0 0 ⟨#[]⟩ := X2.on hb3; have HO3 := Lib.hid (HO2.out.on hb3); have b3 := below_stepI b2 hb3 (Nat.le_refl _); clear hb3 z0 z1 z2 z3 z4 z5 z6 z7; have h3 := b3.size; have x3 := X3.lt; have X3' := X3; obtain ⟨d0, d1, d2, d3, d4, d5, d6, d7, dz⟩ := X3'; have z0 := dz 0; have z1 := dz 1; have z2 := dz 2; have z3 := dz 3; have z4 := dz 4; have z5 := dz 5; have z6 := dz 6; have z7 := dz 7; skip)
    | (go_at_call 10; (with_reducible refine (HB2.out _ _ _).mono ?_); rintro e w4 ⟨⟨s4, rfl, hs4⟩, hb4⟩; obtain rfl : s4 = .slice none 0 0 := hs4; have X4 : InD w4 w1b.heap.size 4 b 0 0 0 0 0 ⟨#[]⟩ := (X3.st8 _ _ _ _ _ _ _ _).on hb4; have HO4 := Lib.hid ((HO3.out.far8 (by omega) _ _ _ _ _ _ _ _).on hb4); have b4 : Below w.heap.size w w4 := Below.trans (by (repeat' (first | with_reducible exact Below.refl _ _ | with_reducible assumption | with_reducible apply below_drewN | with_reducible apply Below.drew | with_reducible apply Below.setCell | with_reducible apply Below.alloc | (simp; done) | omega | (simp; omega)))) (hb4.mono (by first | omega | (simp <;> omega))); clear hb4 z0 z1 z2 z3 z4 z5 z6 z7; have h4 := b4.size; have x4 := X4.lt; have X4' := X4; obtain ⟨p0, p1, p2, p3, p4, p5, p6, p7, pz⟩ := X4'; have z0 := pz 0; have z1 := pz 1; have z2 := pz 2; have z3 := pz 3; have z4 := pz 4; have z5 := pz 5; have z6 := pz 6; have z7 := pz 7; skip)
    | (go_at_call 10; (with_reducible refine (HIS.out _ _ _ (Own.mem (by repeat' (first | with_reducible exact HO4.out | (with_reducible refine Own.far ?_ _ _ ?_) | omega)) HL1.out HC1.out (by omega) HU1.out)).mono ?_); rintro e w5 ⟨⟨s5, rfl, hs5⟩, hb5⟩; obtain ⟨g5, hg5, rfl, I5⟩ := hs5; have hg5' : w1b.heap.size < g5 := Nat.lt_of_lt_of_le (by first | omega | (simp <;> omega)) hg5; have X5 : InD w5 w1b.heap.size 4 b f 0 0 0 0 ⟨#[]⟩ := (X4.st8 _ _ _ _ _ _ _ _).on hb5; have HO5 := Lib.hid ((HO4.out.far8 (by omega) _ _ _ _ _ _ _ _).on hb5); have b5 : Below w.heap.size w w5 := Below.trans (by (repeat' (first | with_reducible exact Below.refl _ _ | with_reducible assumption | with_reducible apply below_drewN | with_reducible apply Below.drew | with_reducible apply Below.setCell | with_reducible apply Below.alloc | (simp; done) | omega | (simp; omega)))) (hb5.mono (by first | omega | (simp <;> omega))); clear hb5 z0 z1 z2 z3 z4 z5 z6 z7; have h5 := b5.size; have x5 := X5.lt; have i5 := I5.lt; have X5' := X5; obtain ⟨s0, s1, s2, s3, s4, s5, s6, s7, sz⟩ := X5'; have z0 := sz 0; have z1 := sz 1; have z2 := sz 2; have z3 := sz 3; have z4 := sz 4; have z5 := sz 5; have z6 := sz 6; have z7 := sz 7; refine Hid.out ?_))
  refine Lib.hid ?_
  repeat' (first | (with_reducible refine then_normal ?_) | (with_reducible refine wp_exit ?_) | (with_reducible refine wp_ret ?_) | (with_reducible refine then_exit ?_) | (with_reducible refine blk_hit ?_) | (with_reducible refine blk_pass (by decide) ?_) | (with_reducible refine then_ret ?_) | (with_reducible refine blk_ret ?_) | (with_reducible refine blk_normal ?_) | go_values | go_skip | go_guarded | go_step | go_upon | (simp only [Int.not_lt, Int.not_le] at *; go_simp) | (go_values <;> (try go_simp)) | (go_ite <;> go_prune <;> (try go_simp)))
  obtain ⟨W, hW⟩ : ∃ W, World.alloc ((((((((w5.setCell ⟨w1b.heap.size, 0, none⟩ (.int .u32 4)).setCell ⟨w1b.heap.size, 1, none⟩ (.int .u32 b)).setCell ⟨w1b.heap.size, 2, none⟩ (.int .u32 f)).setCell ⟨w1b.heap.size, 3, none⟩ (.int .i64 1)).setCell ⟨w1b.heap.size, 4, none⟩ (.int .i64 1)).setCell ⟨w1b.heap.size, 5, none⟩ (.int .u32 b)).setCell ⟨w1b.heap.size, 6, none⟩ (.int .u32 f)).setCell ⟨w1b.heap.size, 7, none⟩ (.string ⟨#[]⟩)) (.cells #[.int .i64 3, .int .u64 3, .int .u32 b, .string ⟨#[]⟩] 34) = W := ⟨_, rfl⟩
  have XW : InD W w1b.heap.size 4 b f 1 1 b f ⟨#[]⟩ := by rw [← hW]; exact (X5.st8 _ _ _ _ _ _ _ _).alloc _
  have KW : InO W g5 3 3 b ⟨#[]⟩ := by rw [← hW]; exact (I5.far8 (by omega) _ _ _ _ _ _ _ _).alloc _
  have WW : InO W w5.heap.size 3 3 b ⟨#[]⟩ := by rw [← hW]; exact InO.at_ (by simp) _ _ _ _ _
  have OW : Own W g l := by rw [← hW]; exact (HO5.out.far8 (by omega) _ _ _ _ _ _ _ _).on ((Below.refl _ _).alloc (Nat.le_refl _) _)
  have bW : Below w.heap.size w W := by rw [← hW]; exact (below_st8 b5 (by omega) _ _ _ _ _ _ _ _).alloc (by simp <;> omega) _
  rw [hW]
  obtain ⟨gd, hgd⟩ : ∃ gd, w1b.heap.size = gd := ⟨_, rfl⟩
  obtain ⟨gw, hgw⟩ : ∃ gw, w5.heap.size = gw := ⟨_, rfl⟩
  have e1 : g < gd := by omega
  have e2 : gd < g5 := by omega
  have e3 : gd < gw := by omega
  have e4 : w.heap.size ≤ gd := by omega
  rw [hgd] at XW
  rw [hgw] at WW
  (try rw [hgd]); (try rw [hgw])
  clear hW hgd hgw X5 X4 X3 X2 I5 HO5 HO4 HO3 HO2 HO1b HO1 b5 b4 b3 b2 b1b b1 HB1 HB2 HIS HPG HWD
  clear a0 a1 a2 a3 a4 a5 a6 a7 az d0 d1 d2 d3 d4 d5 d6 d7 dz p0 p1 p2 p3 p4 p5 p6 p7 pz s0 s1 s2 s3 s4 s5 s6 s7 sz
  have hgW := OW.lt
  have hKW := KW.lt
  have hWW := WW.lt
  have KW' := KW
  have WW' := WW
  obtain ⟨t0, t1, t2, t3, tz⟩ := KW'
  obtain ⟨u0, u1, u2, u3, uz⟩ := WW'
  go_region
  go_wp2
  have HRQ := Lib.hid (fun K F W => show Calls Try.prog 12 #[dkV 4 K F 1 1 b f ⟨#[]⟩, .int .u64 3] W fun e w' => e = .returned (.tuple #[.agg #[.int .i64 3, .int .u64 3, .int .u32 b, .string ⟨#[]⟩], .bool true]) ∧ Below W.heap.size W w' from dkReq_any 4 K F 1 1 b f ⟨#[]⟩ 3 W)
  have HCP := Lib.hid (fun K F l W (hm : Mem W (some ⟨g, 0, none⟩) N c l) => (comp_read N l 4 K F b f ⟨#[]⟩ DT (by omega) (by omega) (by omega) (by have := HPN.out; omega) hdt).1 (some ⟨g, 0, none⟩) c W hm)
  unfold dkV at HRQ
  unfold CmpPost dkV evV at HCP
  go_loopw [20] (fun i wr => ∃ (j : Nat) (K' F' : Int) (lj : List Int), j ≤ k0 ∧ i = .int .i64 j ∧ InD wr gd 4 K' F' 1 1 b f ⟨#[]⟩ ∧ Own wr g lj ∧ Hid (lj.length = N) ∧ Hid (U32 lj) ∧ InO wr gw 3 3 b ⟨#[]⟩ ∧ Below w.heap.size w wr) (fun i _ => k0 - (intOf i).toNat)
  case atStart => exact ⟨0, b, f, l, by omega, rfl, XW.drew, OW.drewN 1, HL1.out, HU1.out, WW.drew, bW.drew⟩
  case round =>
    obtain ⟨j, K1, F1, lj, hj, rfl, hX, hO, hL, hU, hI, hb⟩ := hrel
    clear XW KW WW OW bW t0 t1 t2 t3 tz u0 u1 u2 u3 uz hgW hKW hWW
    have lX := hX.lt
    have lO := hO.lt
    have lI := hI.lt
    by_cases hlt : j < k0
    · obtain ⟨zb, zo, rfl, hcw⟩ := HZ.out.1 j hlt
      have hzb : zb < w.heap.size := World.block_lt_of_cell? w _ hcw
      have hc := (hb.cell (p := ⟨zb, zo + j, none⟩) hzb).trans hcw
      obtain ⟨z0, z1⟩ := HZ.out.2 j hlt
      generalize z j = zj at hc hcw z0 z1
      have i0 : 0 ≤ zj % N := Int.emod_nonneg _ (by omega)
      have i1 : zj % N < N := Int.emod_lt_of_pos _ (by omega)
      obtain ⟨q, hq⟩ : ∃ q : Nat, zj % N = q := ⟨(zj % N).toNat, by omega⟩
      have hqN : q < N := by omega
      have HQ := Lib.hid hq
      clear hq i0 i1
      have hcell := hO.cell (i := q) (by rw [hL.out]; omega)
      have hfree := hO.free q
      have HO := Lib.hid hO
      have HX := Lib.hid hX
      have HI := Lib.hid hI
      have HB := Lib.hid hb
      clear hO hX hI hb
      have HRN := Lib.hid ((round_any zj N wr.drew (by omega) (by omega) z0 z1).mono (R' := fun e w' => e = .returned (.int .i64 (q : Int)) ∧ w' = wr.drew) fun _ _ ⟨h, h'⟩ => ⟨by rw [h, HQ.out], h'.symm⟩)
      have HR3 := Lib.hid (fun W => round_any zj 3 W (by omega) (by omega) z0 z1)
      obtain ⟨q3, hq3⟩ : ∃ q3 : Int, zj % 3 = q3 := ⟨_, rfl⟩
      have q30 : 0 ≤ q3 := by omega
      have q31 : q3 ≤ 2 := by omega
      rw [hq3] at HR3
      clear hq3
      go_wp2_with fail
      refine wp_region_still_tail 15 (by kernel_rfl) (by kernel_rfl) ?_
      simp only [List.take_succ_cons, List.take_zero, List.drop_succ_cons, List.drop_zero]
      repeat (refine wpStill_step (fun K hK => ?_); go_simp; first | (with_reducible refine hK _ ?_) | (with_reducible refine ⟨_, HRN.out, hK _ ?_⟩); clear hK K)
      refine wpStill_nil ?_
      go_wp2
      obtain ⟨W2, hW2⟩ : ∃ W, (wr.setCell ⟨g, q, none⟩ (.int .u32 (bits .and .i64 zj 4294967295 % 4294967296))).drew = W := ⟨_, rfl⟩
      obtain ⟨l2, hl2⟩ : ∃ l2, lj.set q (bits .and .i64 zj 4294967295 % 4294967296) = l2 := ⟨_, rfl⟩
      have X4 : InD W2 gd 4 K1 F1 1 1 b f ⟨#[]⟩ := by rw [← hW2]; exact (HX.out.far1 (by omega) _ _).drew
      have I4 : InO W2 gw 3 3 b ⟨#[]⟩ := by rw [← hW2]; exact (HI.out.far1 (by omega) _ _).drew
      have O4 : Own W2 g l2 := by rw [← hW2, ← hl2]; exact (HO.out.set (by rw [hL.out]; exact hqN) _).drewN 1
      have b4 : Below w.heap.size w W2 := by rw [← hW2]; exact (HB.out.setCell (by show _ ≤ g; omega) _).drew
      have L4 : Hid (l2.length = N) := by show _ = _; rw [← hl2, List.length_set]; exact hL.out
      have U4 : Hid (U32 l2) := by show U32 _; rw [← hl2]; exact hU.out.set q (Int.emod_nonneg _ (by omega)) (by omega)
      have Zc : W2.cell? ⟨zb, zo + j, none⟩ = some (.int .i64 zj) := (b4.cell (p := ⟨zb, zo + j, none⟩) hzb).trans hcw
      rw [hW2]
      clear hW2 hl2 HX HO HI HB hcell hfree hc HQ HRN
      have HO4 := Lib.hid O4
      clear O4
      have lx4 := X4.lt
      have li4 := I4.lt
      have lo4 := HO4.out.lt
      have h4 := b4.size
      have n4 : ¬ W2.heap.size = gd := by omega
      have mz : ¬ W2.heap.size = zb := by omega
      obtain ⟨K2, F2, _, _, hOB⟩ := out_busy N l2 4 K1 F1 1 b f ⟨#[]⟩ (IntKind.i64.wrap (4 + q3)) (IntKind.u32.wrap (bits .and .i64 zj 3)) 4
      unfold OutB OutPost dkV at hOB
      have HBO := Lib.hid hOB.1
      clear hOB
      have bb : Below W2.heap.size W2 W2.drew := (Below.refl _ _).drew
      go_region_held3 (fun w' => w'.cell? ⟨gd, 0, none⟩ = some (.int .u32 4) ∧ w'.cell? ⟨gd, 1, none⟩ = some (.int .u32 K1) ∧ w'.cell? ⟨gd, 2, none⟩ = some (.int .u32 F1) ∧ w'.cell? ⟨gd, 3, none⟩ = some (.int .i64 1) ∧ w'.cell? ⟨gd, 4, none⟩ = some (.int .i64 1) ∧ w'.cell? ⟨gd, 5, none⟩ = some (.int .u32 b) ∧ w'.cell? ⟨gd, 6, none⟩ = some (.int .u32 f) ∧ w'.cell? ⟨gd, 7, none⟩ = some (.string ⟨#[]⟩) ∧ w'.cell? ⟨zb, zo + j, none⟩ = some (.int .i64 zj)) (first | with_reducible exact ⟨stillI X4.c0 bb, stillI X4.c1 bb, stillI X4.c2 bb, stillI X4.c3 bb, stillI X4.c4 bb, stillI X4.c5 bb, stillI X4.c6 bb, stillI X4.c7 bb, stillI Zc bb⟩ | with_reducible exact ⟨Lib.cell?_alloc_some _ (stillI X4.c0 bb), Lib.cell?_alloc_some _ (stillI X4.c1 bb), Lib.cell?_alloc_some _ (stillI X4.c2 bb), Lib.cell?_alloc_some _ (stillI X4.c3 bb), Lib.cell?_alloc_some _ (stillI X4.c4 bb), Lib.cell?_alloc_some _ (stillI X4.c5 bb), Lib.cell?_alloc_some _ (stillI X4.c6 bb), Lib.cell?_alloc_some _ (stillI X4.c7 bb), Lib.cell?_alloc_some _ (stillI Zc bb)⟩ | with_reducible exact ⟨Lib.cell?_alloc_some _ X4.c0, Lib.cell?_alloc_some _ X4.c1, Lib.cell?_alloc_some _ X4.c2, Lib.cell?_alloc_some _ X4.c3, Lib.cell?_alloc_some _ X4.c4, Lib.cell?_alloc_some _ X4.c5, Lib.cell?_alloc_some _ X4.c6, Lib.cell?_alloc_some _ X4.c7, Lib.cell?_alloc_some _ Zc⟩ | with_reducible exact ⟨(far8 _ n4 _ _ _ _ _ _ _ _ 0).trans (stillI X4.c0 bb), (far8 _ n4 _ _ _ _ _ _ _ _ 1).trans (stillI X4.c1 bb), (far8 _ n4 _ _ _ _ _ _ _ _ 2).trans (stillI X4.c2 bb), (far8 _ n4 _ _ _ _ _ _ _ _ 3).trans (stillI X4.c3 bb), (far8 _ n4 _ _ _ _ _ _ _ _ 4).trans (stillI X4.c4 bb), (far8 _ n4 _ _ _ _ _ _ _ _ 5).trans (stillI X4.c5 bb), (far8 _ n4 _ _ _ _ _ _ _ _ 6).trans (stillI X4.c6 bb), (far8 _ n4 _ _ _ _ _ _ _ _ 7).trans (stillI X4.c7 bb), (far8 _ mz _ _ _ _ _ _ _ _ (zo + j)).trans (stillI Zc bb)⟩ | with_reducible exact ⟨((X4.alloc _).drew).c0, ((X4.alloc _).drew).c1, ((X4.alloc _).drew).c2, ((X4.alloc _).drew).c3, ((X4.alloc _).drew).c4, ((X4.alloc _).drew).c5, ((X4.alloc _).drew).c6, ((X4.alloc _).drew).c7, stillI (Lib.cell?_alloc_some _ Zc) ((Below.refl _ _).drew)⟩ | go_keep) (first
        | (go_at_call 9; (with_reducible refine (HR3.out _).mono ?_); rintro e wx ⟨rfl, rfl⟩)
        | (go_at_call 10; (with_reducible refine (HBO.out _ _ _ (Own.mem (HO4.out.on bb) L4.out HC1.out (by omega) U4.out)).mono ?_); rintro e w5 ⟨⟨sl5, rfl, hs5⟩, hb5⟩; obtain rfl : sl5 = .slice none 0 0 := hs5; replace bb := below_stepI bb hb5 (Nat.le_refl _))
        | (go_at_call 10; (with_reducible refine (HBO.out _ _ _ (Own.mem (HO4.out.on (((Below.refl W2.heap.size W2).alloc (Nat.le_refl _) (.cells #[.int .u32 0, .int .u32 0, .int .u32 0, .int .i64 0, .int .i64 0, .int .u32 0, .int .u32 0, .string ⟨#[]⟩] 24)).drew)) L4.out HC1.out (by omega) U4.out)).mono ?_); rintro e w5 ⟨⟨sl5, rfl, hs5⟩, hb5⟩; obtain rfl : sl5 = .slice none 0 0 := hs5; replace bb := below_stepI (((Below.refl W2.heap.size W2).alloc (Nat.le_refl _) (.cells #[.int .u32 0, .int .u32 0, .int .u32 0, .int .i64 0, .int .i64 0, .int .u32 0, .int .u32 0, .string ⟨#[]⟩] 24)).drew) hb5 (Nat.le_refl _); have Y5 : InD w5 W2.heap.size 0 0 0 0 0 0 0 ⟨#[]⟩ := ((InD.new _ _ _ _ _ _ _ _ _ _).drew).on hb5; have l5 := Y5.lt; have Y5' := Y5; obtain ⟨y0, y1, y2, y3, y4, y5, y6, y7, yz⟩ := Y5'; have z0 := yz 0; have z1 := yz 1; have z2 := yz 2; have z3 := yz 3; have z4 := yz 4; have z5 := yz 5; have z6 := yz 6; have z7 := yz 7; skip))
      all_goals first
        | (obtain ⟨W6, hW⟩ : ∃ W, w5.alloc (.cells #[.int .u32 4, .int .u32 K2, .int .u32 F2, .int .i64 1, .int .i64 1, .int .u32 b, .int .u32 f, .string ⟨#[]⟩] 24) = W := ⟨_, rfl⟩
           obtain ⟨g6, hg6⟩ : ∃ g, w5.heap.size = g := ⟨_, rfl⟩
           rw [hW, hg6]
           have hw5 : W2.heap.size ≤ w5.heap.size := bb.size
           have X6 : InD W6 gd 4 K1 F1 1 1 b f ⟨#[]⟩ := by rw [← hW]; exact (X4.on bb).alloc _
           have I6 : InO W6 gw 3 3 b ⟨#[]⟩ := by rw [← hW]; exact (I4.on bb).alloc _
           have Y6 : InD W6 g6 4 K2 F2 1 1 b f ⟨#[]⟩ := by rw [← hW, ← hg6]; exact InD.new _ _ _ _ _ _ _ _ _ _
           have O6 : Own W6 g l2 := by rw [← hW]; exact (HO4.out.on bb).on ((Below.refl _ _).alloc (Nat.le_refl _) _)
           have b6 : Below w.heap.size w W6 := by rw [← hW]; exact (below_stepI b4 bb (Nat.le_refl _)).alloc (by omega) _
           have n6 : ¬ gd = g6 := by omega
           clear hW hg6)
        | (obtain ⟨W6, hW⟩ : ∃ W, ((((((((w5.setCell ⟨W2.heap.size, 0, none⟩ (.int .u32 4)).setCell ⟨W2.heap.size, 1, none⟩ (.int .u32 K2)).setCell ⟨W2.heap.size, 2, none⟩ (.int .u32 F2)).setCell ⟨W2.heap.size, 3, none⟩ (.int .i64 1)).setCell ⟨W2.heap.size, 4, none⟩ (.int .i64 1)).setCell ⟨W2.heap.size, 5, none⟩ (.int .u32 b)).setCell ⟨W2.heap.size, 6, none⟩ (.int .u32 f)).setCell ⟨W2.heap.size, 7, none⟩ (.string ⟨#[]⟩)) = W := ⟨_, rfl⟩
           obtain ⟨g6, hg6⟩ : ∃ g, W2.heap.size = g := ⟨_, rfl⟩
           rw [hW]
           have X6 : InD W6 gd 4 K1 F1 1 1 b f ⟨#[]⟩ := by rw [← hW]; exact (X4.on bb).far8 n4 _ _ _ _ _ _ _ _
           have I6 : InO W6 gw 3 3 b ⟨#[]⟩ := by rw [← hW]; exact (I4.on bb).far8 (by omega) _ _ _ _ _ _ _ _
           have Y6 : InD W6 g6 4 K2 F2 1 1 b f ⟨#[]⟩ := by rw [← hW, ← hg6]; exact Y5.st8 _ _ _ _ _ _ _ _
           have O6 : Own W6 g l2 := by rw [← hW]; exact (HO4.out.on bb).far8 (by omega) _ _ _ _ _ _ _ _
           have b6 : Below w.heap.size w W6 := by rw [← hW]; exact below_st8 (below_stepI b4 bb (Nat.le_refl _)) (by omega) _ _ _ _ _ _ _ _
           have n6 : ¬ gd = g6 := by omega
           rw [hg6]
           clear hW hg6)
      all_goals
        have HX6 := Lib.hid X6
        have HI6 := Lib.hid I6
        have HO6 := Lib.hid O6
        have HB6 := Lib.hid b6
        obtain ⟨r0, r1, r2, r3, r4, r5, r6, r7, xz⟩ := X6
        obtain ⟨c0, c1, c2, c3, c4, c5, c6, c7, cz⟩ := Y6
        have z0 := xz 0; have z1 := xz 1; have z2 := xz 2; have z3 := xz 3; have z4 := xz 4; have z5 := xz 5; have z6 := xz 6; have z7 := xz 7; clear I6 O6 b6
        go_wp2
        go_roundw
        case rel => exact ⟨j + 1, K2, F2, l2, by omega, by go_num, HX6.out.st8 _ _ _ _ _ _ _ _, HO6.out.far8 (by omega) _ _ _ _ _ _ _ _, L4, U4, HI6.out.far8 (by omega) _ _ _ _ _ _ _ _, below_st8 HB6.out (by omega) _ _ _ _ _ _ _ _⟩
        case measure => simp [intOf]; omega
    · obtain rfl : j = k0 := by omega
      have HO := Lib.hid hO
      have HX := Lib.hid hX
      have HI := Lib.hid hI
      have HB := Lib.hid hb
      have hb' := hb.size
      obtain ⟨a0, a1, a2, a3, a4, a5, a6, a7, az⟩ := hX
      obtain ⟨i0, i1, i2, i3, iz⟩ := hI
      clear hO hb
      go_wp2_with (first
        | go_skip
        | (go_at_call 12; (with_reducible refine (HRQ.out _ _ _).mono ?_); rintro e w6 ⟨rfl, hb6⟩; have X6 := HX.out.on hb6; have HO6 := Lib.hid (HO.out.on hb6); have I6 := HI.out.on hb6; have HB6 := Lib.hid (below_stepI HB.out hb6 (Nat.le_refl _)); have q6 := hb6.size; clear hb6; have h6 := HB6.out.size; have o6 := HO6.out.lt; have x6' := X6.lt; have i6 := I6.lt; have n6 : ¬ w6.heap.size = gd := (by omega); have n6' : ¬ gd = w6.heap.size := (by omega); have n7 : ¬ w6.heap.size + 1 = gd := (by omega); have n7' : ¬ gd = w6.heap.size + 1 := (by omega); have n8 : ¬ w6.heap.size = gw := (by omega); have n8' : ¬ gw = w6.heap.size := (by omega); have X6' := X6; have I6' := I6; obtain ⟨c0, c1, c2, c3, c4, c5, c6, c7, cz⟩ := X6'; obtain ⟨j0, j1, j2, j3, jz⟩ := I6'; obtain ⟨d0, d1, d2, d3, d4, d5, d6, d7, dz⟩ := X6.alloc (.cells #[.int .i64 3, .int .u64 3, .int .u32 b, .string ⟨#[]⟩] 34); obtain ⟨k0', k1', k2', k3', kz'⟩ := I6.alloc (.cells #[.int .i64 3, .int .u64 3, .int .u32 b, .string ⟨#[]⟩] 34); obtain ⟨m0, m1, m2, m3, m4, m5, m6, m7, mz⟩ := (X6.alloc (.cells #[.int .i64 3, .int .u64 3, .int .u32 b, .string ⟨#[]⟩] 34)).alloc (.cells #[.int .i64 4, .int .u32 1, .string ⟨#[]⟩] 42))
        | (go_at_call 28; (with_reducible refine (HDT.out _).mono ?_); rintro e w7 ⟨rfl, hb7⟩; have X7 := ((X6.alloc (.cells #[.int .i64 3, .int .u64 3, .int .u32 b, .string ⟨#[]⟩] 34)).alloc (.cells #[.int .i64 4, .int .u32 1, .string ⟨#[]⟩] 42)).on hb7; have E7 : InV w7 (w6.heap.size + 1) 4 1 ⟨#[]⟩ := InV.on ⟨by simp [go_sem], by simp [go_sem], by simp [go_sem], fun i => by simp [go_sem]⟩ hb7; have HO7 := Lib.hid ((HO6.out.on (((Below.refl w6.heap.size w6).alloc (Nat.le_refl _) (.cells #[.int .i64 3, .int .u64 3, .int .u32 b, .string ⟨#[]⟩] 34)).alloc (by simp) (.cells #[.int .i64 4, .int .u32 1, .string ⟨#[]⟩] 42))).on hb7); have HB7 := Lib.hid (Below.trans (below_stepI HB6.out (((Below.refl w6.heap.size w6).alloc (Nat.le_refl _) (.cells #[.int .i64 3, .int .u64 3, .int .u32 b, .string ⟨#[]⟩] 34)).alloc (by simp) (.cells #[.int .i64 4, .int .u32 1, .string ⟨#[]⟩] 42)) (Nat.le_refl _)) (hb7.mono (by simp; omega))); clear hb7; have h7 := HB7.out.size; have o7 := HO7.out.lt; have x7' := X7.lt; have E7' := E7; have X7k := X7; obtain ⟨n0, n1, n2, n3, n4, n5, n6, n7, nz⟩ := X7; obtain ⟨e0, e1, e2, ez⟩ := E7'; have ez2 := ez 2)
        | (go_at_call 19; (with_reducible refine (HCP.out _ _ _ _ (Own.mem (HO7.out.far (b := w6.heap.size + 1) 2 _ (by omega)) hL.out HC1.out (by omega) hU.out)).mono ?_); rintro e w8 ⟨⟨A8, c8, l8, rfl, hm8, ho8, hf8, hg8⟩, hb8⟩; have X8 : InD w8 gd 4 K1 F1 1 1 b f ⟨#[]⟩ := (X7k.far1 (g := w6.heap.size + 1) (by omega) 2 _).on hb8; have E8 : InV w8 (w6.heap.size + 1) 4 1 DT := InV.on ⟨by simp [go_sem, e0, e1, e2], by simp [go_sem, e0, e1, e2], by simp [go_sem, e0, e1, e2], fun i => by simp [go_sem, ez]⟩ hb8; have HO8 := Lib.hid ((HO7.out.far (b := w6.heap.size + 1) 2 _ (by omega)).on hb8); have HB8 := Lib.hid (Below.trans (HB7.out.setCell (p := ⟨w6.heap.size + 1, 2, none⟩) (by show _ ≤ w6.heap.size + 1; omega) _) (hb8.mono (by simp; omega))); have q8 := hb8.size; simp only [World.size_setCell] at q8; clear hb8; obtain ⟨g8, rfl, hg8', ho8'⟩ := ho8 (by omega); have HQ8 := Lib.hid ho8'; have g8s : w7.heap.size ≤ g8 := Nat.le_trans (by simp) hg8'; have HM8 := Lib.hid hm8; have HF8 := Lib.hid (hf8 trivial); clear hm8 ho8' hf8 hg8 hg8' ho8; have h8 := HB8.out.size; have x8' := X8.lt; have X8' := X8; obtain ⟨t0, t1, t2, t3, t4, t5, t6, t7, tz⟩ := X8'; have z0 := tz 0; have z1 := tz 1; have z2 := tz 2; have z3 := tz 3; have z4 := tz 4; have z5 := tz 5; have z6 := tz 6; have z7 := tz 7; refine Hid.out ?_))
      refine Lib.hid ?_
      have m81 := Lib.hid HM8.out.1
      have m82 := Lib.hid HM8.out.2.1
      have m84 := Lib.hid HM8.out.2.2.2.1
      have ep : pgS N l8 f = DT := pgS_filled HF8.out hL.out (by have := HPN.out; omega) hdt
      have HP8 := Lib.hid (fun W (hM : Mem W (some ⟨g8, 0, none⟩) N c8 l8) => page_ref' (some ⟨g8, 0, none⟩) N c8 f l8 W hM)
      rw [ep] at HP8
      go_wp2_with (first
        | go_skip
        | (go_at_call 27; skip; (with_reducible refine (HP8.out _ (Own.mem (HQ8.out.far8 (by omega) _ _ _ _ _ _ _ _) m81.out m82.out (by omega) m84.out)).mono ?_); rintro e w9 ⟨rfl, hb9⟩; have Y9 : InD w9 gd 4 K1 F1 2 0 0 0 ⟨#[]⟩ := (X8.st8 _ _ _ _ _ _ _ _).on hb9; have O9 := Lib.hid ((HO8.out.far8 (by omega) _ _ _ _ _ _ _ _).on hb9); have Q9 := Lib.hid ((HQ8.out.far8 (by omega) _ _ _ _ _ _ _ _).on hb9); have B9 := Lib.hid (below_stepI (below_st8 HB8.out (by omega) _ _ _ _ _ _ _ _) hb9 (Nat.le_refl _)); have E9 := (E8.far8 (by omega) _ _ _ _ _ _ _ _).on hb9; obtain ⟨e0, e1, e2, ez⟩ := E9; clear hb9; have h9 := B9.out.size; obtain ⟨r0, r1, r2, r3, r4, r5, r6, r7, rz⟩ := Y9)
        | (go_at_call 21; (with_reducible refine (same_refl _ _ N c8 c l8 _ (Own.mem Q9.out m81.out m82.out (by omega) m84.out) (Own.mem O9.out m81.out HC1.out (by omega) m84.out)).mono ?_); rintro e w10 ⟨rfl, m10, rfl⟩)
        | (go_at_call 17; (with_reducible refine (HAW.out _).mono ?_); rintro e w12 ⟨rfl, hb12⟩; have b12 := below_stepI B9.out hb12 (Nat.le_refl _)))
      go_ret
      exact ⟨rfl, b12⟩
end Go.Proofs.Ytbaepeccgjoiaaa
