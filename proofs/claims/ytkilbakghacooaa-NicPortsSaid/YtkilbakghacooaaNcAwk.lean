import Derived.Test.YtkilbakghacooaaNcSh
namespace Go.Proofs.Ytkilbakghacooaa
set_option linter.unusedVariables false
set_option linter.unusedSimpArgs false
set_option maxRecDepth 20000
open Go.ChangeShapes Go.WideShapes Go.ChangeAt Go.RowKit Go.Proofs.Ytkilbakghacooaa.Num Go.Proofs.Ytkilbakghacooaa.Mem
theorem new_two (w : World) : Calls Try.prog 29 #[.int .i64 2] w fun e w' => (∃ g c, e = .returned (.slice (some ⟨g, 0, none⟩) 64 c) ∧ w.heap.size ≤ g ∧ 64 ≤ c ∧ Own w' g (zs 64)) ∧ Below w.heap.size w w' := by
  refine (new_ref 2 w).mono fun e w' h => ?_
  obtain ⟨⟨A, c, l, he, hl, hm, ho⟩, hb⟩ := h
  obtain rfl : l = zs 64 := hl
  obtain ⟨hA, ho⟩ := ho (by rw [zs_len]; decide)
  rw [zs_len] at he hm
  exact ⟨⟨w.heap.size, c, by rw [he, hA], Nat.le_refl _, hm.2.1, ho⟩, hb⟩
theorem u8_of {x : Int} {i : Nat} (h0 : 0 ≤ x) {c : UInt8} (h : low x i = c) : x / 256 ^ i % 256 = (c.toNat : Int) := by
  rw [← h, low_val x i h0]
theorem abc_word {l : List Int} (h : Filled [97, 98, 99] 1 3 (zs 64) l) : wd l 32 = 6513249 := by
  obtain ⟨h1, h2, h3⟩ := h
  have hw := wd_bd h2 32
  have z : (zs 64).length = 64 := zs_len 64
  have e0 := u8_of hw.1 (show low (wd l 32) 0 = 97 from (h3 128 (by omega)).trans (by rw [if_pos (by omega)]; rfl))
  have e1 := u8_of hw.1 (show low (wd l 32) 1 = 98 from (h3 129 (by omega)).trans (by rw [if_pos (by omega)]; rfl))
  have e2 := u8_of hw.1 (show low (wd l 32) 2 = 99 from (h3 130 (by omega)).trans (by rw [if_pos (by omega)]; rfl))
  have e3 := u8_of hw.1 (show low (wd l 32) 3 = 0 from (h3 131 (by omega)).trans (by rw [if_neg (by omega)]; unfold byteAt; rw [zs_wd]; rfl))
  generalize wd l 32 = x at *
  have t0 : ((97 : UInt8).toNat : Int) = 97 := rfl
  have t1 : ((98 : UInt8).toNat : Int) = 98 := rfl
  have t2 : ((99 : UInt8).toNat : Int) = 99 := rfl
  have t3 : ((0 : UInt8).toNat : Int) = 0 := rfl
  rw [t0] at e0
  rw [t1] at e1
  rw [t2] at e2
  rw [t3] at e3
  have p0 : (256 : Int) ^ 0 = 1 := rfl
  have p1 : (256 : Int) ^ 1 = 256 := rfl
  have p2 : (256 : Int) ^ 2 = 65536 := rfl
  have p3 : (256 : Int) ^ 3 = 16777216 := rfl
  rw [p0] at e0
  rw [p1] at e1
  rw [p2] at e2
  rw [p3] at e3
  omega
set_option maxHeartbeats 2000000 in
theorem awake10 (w : World) :
    Calls Try.prog 16 #[] w fun e w' => e = .returned (.bool true) ∧ Below w.heap.size w w' := by
  have HN := Lib.hid new_two
  have HZ : Hid (∀ g c W, Own W g (zs 64) → 64 ≤ c → Mem W (some ⟨g, 0, none⟩) 64 c (zs 64)) := fun g c W h hc => h.mem (zs_len 64) hc (by omega) (zs_u32 64)
  have hp : pagesN 64 = 2 := rfl
  have HO := Lib.hid (fun A c W (hm : Mem W A 64 c (zs 64)) => (nut_post 64 (zs 64) 1 0 false 0 false 0 0 (by omega) (by omega) rfl rfl (by rw [hp]; decide)).1 A c W hm)
  have HR : Hid (∀ A c W, Mem W A 64 c (zs 64) → Calls Try.prog 19 #[ncV 1 0 true 1 false 0, .slice A 64 c, .string ⟨#[97, 98, 99]⟩] W fun e w' =>
      (∃ g c l', e = .returned (.tuple #[ncV 1 0 false 0 true 3, .slice (some ⟨g, 0, none⟩) 64 c, .bool true]) ∧ W.heap.size ≤ g ∧ Own w' g l' ∧ w'.cell? ⟨g, 32, none⟩ = some (.int .u32 6513249) ∧ 64 ≤ c) ∧ Below W.heap.size W w') := fun A c W hm => by
    refine ((recB_yes 64 (zs 64) 1 0 1 false 0 ⟨#[97, 98, 99]⟩ (by rw [hp]; decide) (by decide) (by decide)).1 A c W hm).mono fun e w' h => ?_
    obtain ⟨⟨A1, c1, l1, he, hm1, ho1, hf1, -⟩, hb⟩ := h
    obtain ⟨g, rfl, hg, ho⟩ := ho1 (by decide)
    have hf := hf1 trivial
    have hc := ho.cell (i := 32) (by rw [hf.1, zs_len]; decide)
    rw [abc_word hf] at hc
    exact ⟨⟨g, c1, l1, he, hg, ho, hc, hm1.2.1⟩, hb⟩
  have HI8 := Lib.hid (fun W => ncIn_any 1 0 false 0 true 3 8 W)
  have HI9 := Lib.hid (fun W => ncIn_any 1 0 false 0 true 3 9 W)
  rw [show ncIn 1 false true 3 8 = 3 from rfl] at HI8
  rw [show ncIn 1 false true 3 9 = 2 from rfl] at HI9
  have HP := Lib.hid (fun W => ncPend_any 1 0 false 0 true 3 W)
  unfold NutPost ncV at HO
  unfold ncV at HR HI8 HI9 HP
  clear hp
  go_enter Try.func16, Try.ntmps16
  go_wp2_with (first
    | go_skip
    | (go_at_call 29; (with_reducible refine (HN.out _).mono ?_); rintro e w1 ⟨⟨g1, c1, rfl, hg1, hc1, ho1⟩, hb1⟩)
    | (go_at_call 11; (with_reducible refine (HO.out _ _ _ (HZ.out _ _ _ ho1 hc1)).mono ?_); rintro e w2 ⟨⟨s2, rfl, hs2⟩, hb2⟩; obtain rfl : s2 = .slice none 0 0 := hs2; have b2 : Below w.heap.size w w2 := below_stepI hb1 hb2 (Nat.le_refl _); clear hb2; have h2 := b2.size))
  go_region_with (first
    | (go_at_call 29; (with_reducible refine (HN.out _).mono ?_); rintro e w3 ⟨⟨g3, c3, rfl, hg3, hc3, ho3⟩, hb3⟩; have X3 : InN w3 w2.heap.size 1 0 true 1 false 0 := InN.on ⟨by simp [go_sem], by simp [go_sem], by simp [go_sem], by simp [go_sem], by simp [go_sem], by simp [go_sem], fun i => by simp [go_sem]⟩ hb3; have b3 : Below w.heap.size w w3 := Below.trans (by (repeat' (first | with_reducible exact Below.refl _ _ | with_reducible assumption | with_reducible apply below_drewN | with_reducible apply Below.drew | with_reducible apply Below.setCell | with_reducible apply Below.alloc | (simp; done) | omega | (simp; omega)))) (hb3.mono (by have := b2.size; simp; omega)); clear hb3; have l3 := X3.lt; obtain ⟨c0, c1, c2, c3, c4, c5, cz⟩ := X3)
    | (go_at_call 19; (with_reducible refine (HR.out _ _ _ (HZ.out _ _ _ ho3 hc3)).mono ?_); rintro e w4 ⟨⟨g4, c4, l4, rfl, hg4, ho4, hm4, hc4⟩, hb4⟩; have X4 : InN w4 w2.heap.size 1 0 true 1 false 0 := InN.on ⟨by simp [go_sem, *], by simp [go_sem, *], by simp [go_sem, *], by simp [go_sem, *], by simp [go_sem, *], by simp [go_sem, *], fun i => by simp [go_sem, *]⟩ hb4; have b4 : Below w.heap.size w w4 := below_stepI b3 hb4 (Nat.le_refl _); clear hb4; have l4' := X4.lt; have k4 := ho4.lt; have n1 : ¬ g4 = w2.heap.size := (by omega); have n2 : ¬ w2.heap.size = g4 := (by omega); obtain ⟨d0, d1, d2, d3, d4, d5, dz⟩ := X4; have z0 := dz 0; have z1 := dz 1; have z2 := dz 2; have z3 := dz 3; have z4 := dz 4; have z5 := dz 5; clear ho4))
  all_goals (repeat' (first | (with_reducible refine then_normal ?_) | (with_reducible refine wp_exit ?_) | (with_reducible refine wp_ret ?_) | (with_reducible refine then_exit ?_) | (with_reducible refine blk_hit ?_) | (with_reducible refine blk_pass (by decide) ?_) | (with_reducible refine then_ret ?_) | (with_reducible refine blk_ret ?_) | (with_reducible refine blk_normal ?_) | go_values | go_skip | go_guarded | go_step | go_upon | (simp only [Int.not_lt, Int.not_le] at *; go_simp) | (go_values <;> (try go_simp)) | (go_ite <;> go_prune <;> (try go_simp))))
  all_goals go_wp2_with (first
    | go_skip
    | (go_at_call 13; (with_reducible refine (HI8.out _).mono ?_); rintro e w5 ⟨rfl, hb5⟩; have X5 : InN w5 w2.heap.size 1 0 false 0 true 3 := InN.on ⟨by simp [go_sem, *], by simp [go_sem, *], by simp [go_sem, *], by simp [go_sem, *], by simp [go_sem, *], by simp [go_sem, *], fun i => by simp [go_sem, *]⟩ hb5; have hm5 : w5.cell? ⟨g4, 32, none⟩ = some (.int .u32 6513249) := stillI (by simp [go_sem, *]) hb5; have b5 : Below w.heap.size w w5 := Below.trans (by (repeat' (first | with_reducible exact Below.refl _ _ | with_reducible assumption | with_reducible apply below_drewN | with_reducible apply Below.drew | with_reducible apply Below.setCell | with_reducible apply Below.alloc | (simp; done) | omega | (simp; omega)))) (hb5.mono (by first | omega | (simp <;> omega))); clear hb5; have l5 := X5.lt; obtain ⟨e0, e1, e2, e3, e4, e5, ez⟩ := X5)
    | (go_at_call 13; (with_reducible refine (HI9.out _).mono ?_); rintro e w6 ⟨rfl, hb6⟩; have X6 : InN w6 w2.heap.size 1 0 false 0 true 3 := InN.on ⟨by simp [go_sem, *], by simp [go_sem, *], by simp [go_sem, *], by simp [go_sem, *], by simp [go_sem, *], by simp [go_sem, *], fun i => by simp [go_sem, *]⟩ hb6; have hm6 : w6.cell? ⟨g4, 32, none⟩ = some (.int .u32 6513249) := stillI (by simp [go_sem, *]) hb6; have b6 : Below w.heap.size w w6 := Below.trans (by (repeat' (first | with_reducible exact Below.refl _ _ | with_reducible assumption | with_reducible apply below_drewN | with_reducible apply Below.drew | with_reducible apply Below.setCell | with_reducible apply Below.alloc | (simp; done) | omega | (simp; omega)))) (hb6.mono (by first | omega | (simp <;> omega))); clear hb6; have l6 := X6.lt; obtain ⟨f0, f1, f2, f3, f4, f5, fz⟩ := X6)
    | (go_at_call 22; (with_reducible refine (HP.out _).mono ?_); rintro e w7 ⟨rfl, hb7⟩; have hm7 : w7.cell? ⟨g4, 32, none⟩ = some (.int .u32 6513249) := stillI (by simp [go_sem, *]) hb7; have b7 : Below w.heap.size w w7 := Below.trans (by (repeat' (first | with_reducible exact Below.refl _ _ | with_reducible assumption | with_reducible apply below_drewN | with_reducible apply Below.drew | with_reducible apply Below.setCell | with_reducible apply Below.alloc | (simp; done) | omega | (simp; omega)))) (hb7.mono (by first | omega | (simp <;> omega))); clear hb7))
  all_goals go_ret
  all_goals exact ⟨rfl, by (repeat' (first | with_reducible exact Below.refl _ _ | with_reducible assumption | with_reducible apply below_drewN | with_reducible apply Below.drew | with_reducible apply Below.setCell | with_reducible apply Below.alloc | (simp; done) | omega | (simp; omega)))⟩
end Go.Proofs.Ytkilbakghacooaa
