import Derived.Test.YtkpboooifkhijaaDoorCpLawT2
namespace Go.Proofs.YtkpboooifkhijaaDoor
set_option linter.unusedVariables false
set_option linter.unusedSimpArgs false
set_option maxRecDepth 20000
open Go.ChangeShapes Go.WideShapes Go.ChangeAt Go.RowKit Go.Proofs.YtkpboooifkhijaaDoor.Num Go.Proofs.YtkpboooifkhijaaDoor.Mem Go.Proofs.YtkpboooifkhijaaDoor.Isa
/- A store, and the load behind it. -/
theorem trf_pure {L : List Int} (hP : Placed L 480) {ad v : Int} (a0 : 0 ≤ ad) (a1 : ad < 384) (v0 : 0 ≤ v) (v1 : v ≤ 4294967295) :
    ∃ N : List Int, (L.set 2 ((ad - 4) % 4294967296)).set 3 v = N ∧ C25 N ∧ wd N 16 = 480 ∧ pgB N = false ∧ wd N 3 = v ∧ opVa N 2 4 = ad ∧
      C25 (advL N) ∧ wd (advL N) 16 = 484 ∧ pgB (advL N) = false ∧ opVa (advL N) 2 4 = ad ∧ ∀ x, 0 ≤ x → x ≤ 4294967295 → (setL (advL (advL N)) 4 x).length = 25 ∧ wd (setL (advL (advL N)) 4 x) 4 = x ∧ wd (setL (advL (advL N)) 4 x) 16 = 488 := by
  have hC1 : C25 (L.set 2 ((ad - 4) % 4294967296)) := hP.1.set 2 (by omega) (by omega)
  have hN : C25 ((L.set 2 ((ad - 4) % 4294967296)).set 3 v) := hC1.set 3 v0 v1
  have e16 : wd ((L.set 2 ((ad - 4) % 4294967296)).set 3 v) 16 = 480 := by rw [wdset hC1 (by omega), if_neg (by omega), wdset hP.1 (by omega), if_neg (by omega)]; exact hP.2.2.1
  have e17 : wd ((L.set 2 ((ad - 4) % 4294967296)).set 3 v) 17 = 1 := by rw [wdset hC1 (by omega), if_neg (by omega), wdset hP.1 (by omega), if_neg (by omega)]; exact hP.2.2.2.1
  have e3 : wd ((L.set 2 ((ad - 4) % 4294967296)).set 3 v) 3 = v := by rw [wdset hC1 (by omega), if_pos rfl]
  have e2 : wd ((L.set 2 ((ad - 4) % 4294967296)).set 3 v) 2 = (ad - 4) % 4294967296 := by rw [wdset hC1 (by omega), if_neg (by omega), wdset hP.1 (by omega), if_pos rfl]
  generalize (L.set 2 ((ad - 4) % 4294967296)).set 3 v = N at *
  have hA := hN.adv
  have f16 : wd (advL N) 16 = 484 := by unfold advL; rw [wdset hN (by omega), if_pos rfl, e16]; rfl
  have f17 : wd (advL N) 17 = 1 := by unfold advL; rw [wdset hN (by omega), if_neg (by omega), e17]
  have f2 : wd (advL N) 2 = (ad - 4) % 4294967296 := by unfold advL; rw [wdset hN (by omega), if_neg (by omega), e2]
  refine ⟨N, rfl, hN, e16, ?_, e3, ?_, hA, f16, ?_, ?_, fun x x0 x1 => ?_⟩
  · unfold pgB; rw [e17]; rfl
  · unfold opVa; rw [show (2 : Int).toNat = 2 from rfl, e2]; omega
  · unfold pgB; rw [f17]; rfl
  · unfold opVa; rw [show (2 : Int).toNat = 2 from rfl, f2]; omega
  · generalize advL N = M at *
    have hM := hA.adv
    have g16 : wd (advL M) 16 = 488 := by unfold advL; rw [wdset hA (by omega), if_pos rfl, f16]; rfl
    unfold setL
    rw [if_neg (by decide), show (4 : Int).toNat = 4 from rfl]
    refine ⟨by rw [List.length_set]; exact hM.1, ?_, ?_⟩
    · rw [wdset hM (by omega), if_pos rfl]
    · rw [wdset hM (by omega), if_neg (by omega), g16]
set_option maxHeartbeats 4000000 in
theorem transfers_core (A : Option Addr) (n c : Nat) (z : Nat → Int) (p v ot ol : Int) (sm : Bool) (w : World) (hn : n ≤ 9223372036854775807) (hz : Ints w A n z) (p0 : 0 ≤ p) (p1 : p ≤ 4294967295) (v0 : 0 ≤ v) (v1 : v ≤ 4294967295)
    (hcase : (sm = false ∧ ot = 35 ∧ ol = 32) ∨ (sm = true ∧ ot = 36 ∧ ol = 33)) :
    Calls Tryd.prog 6 #[.slice A n c, .int .u32 p, .int .u32 v, .bool sm] w fun e w' => e = .returned (.bool true) ∧ Below w.heap.size w w' := by
  obtain ⟨ad, had⟩ : ∃ ad, p % 384 / 4 * 4 = ad := ⟨_, rfl⟩
  have a0 : 0 ≤ ad := by omega
  have a1 : ad < 384 := by omega
  have a4 : ad % 4 = 0 := by omega
  have hok1 : Ok ot 3 2 0 4 := by rcases hcase with ⟨-, rfl, -⟩ | ⟨-, rfl, -⟩ <;> decide
  have hok2 : Ok ol 4 2 0 4 := by rcases hcase with ⟨-, -, rfl⟩ | ⟨-, -, rfl⟩ <;> decide
  obtain ⟨X, X0, X1, Xd, Xo, Xa, Xb, Xc, Xm, hX⟩ := word_facts hok1
  obtain ⟨Y, Y0, Y1, Yd, Yo, Ya, Yb, Yc, Ym, hY⟩ := word_facts hok2
  have HX := Lib.hid hX
  have HY := Lib.hid hY
  have HPL := Lib.hid (fun W (hZ : Ints W A n z) => placed_any A n c z 480 X W hn hZ (by omega) (by omega) X0 X1)
  have HAW := Lib.hid (fun W => awake6 W)
  have HSE := Lib.hid (fun W => sext_ref v 8 W v0 v1)
  have HZ := Lib.hid hz
  have HV : Hid (∀ l : List Int, l.length = 128 → U32 l → ldE ol (ldV (stV l ad (opSz ot) v) ad (opSz ol)) = (if sm = true then sext v 8 else v)) := fun l hl hu => by
    have h := st_ld hl hu a0 a1 a4 v0
    rcases hcase with ⟨rfl, rfl, rfl⟩ | ⟨rfl, rfl, rfl⟩
    · show ldE 32 (ldV (stV l ad 4 v) ad 4) = v
      rw [h.1]; rfl
    · show ldE 33 (ldV (stV l ad 1 v) ad 1) = sext v 8
      rw [h.2]
      exact sext_mod v
  obtain ⟨sz, HSO, HSL, hz1, hz2⟩ : ∃ sz, Hid (opSz ot = sz) ∧ Hid (opSz ol = sz) ∧ ad % sz = 0 ∧ okB 128 ad sz = true := by
    have k4 : okB 128 ad 4 = true := by unfold okB; exact decide_eq_true ⟨.inr rfl, a4, by decide, by omega⟩
    have k1 : okB 128 ad 1 = true := by unfold okB; exact decide_eq_true ⟨.inl rfl, by omega, by decide, by omega⟩
    rcases hcase with ⟨rfl, rfl, rfl⟩ | ⟨rfl, rfl, rfl⟩
    · exact ⟨4, rfl, rfl, a4, k4⟩
    · exact ⟨1, rfl, rfl, by omega, k1⟩
  have HOT : Hid ((35 ≤ ot ∧ ot ≤ 36) ∧ (32 ≤ ol ∧ ol ≤ 34)) := by
    rcases hcase with ⟨rfl, rfl, rfl⟩ | ⟨rfl, rfl, rfl⟩ <;> exact ⟨by decide, by decide⟩
  rw [HSO.out, HSL.out] at HV
  have hz1' := Lib.hid hz1
  have hz2' := Lib.hid hz2
  clear hz1 hz2
  have hsv := sext_bd v 8 v0 v1
  clear hX hY hz hok1 hok2
  obtain ⟨F1, F2, F3, -⟩ := cw_facts
  rcases hcase with ⟨rfl, rfl, rfl⟩ | ⟨rfl, rfl, rfl⟩
  all_goals
    go_enter Tryd.func6, Tryd.ntmps6
    go_wp2_with (first
      | (go_at_call 9; (with_reducible refine (HX.out _).mono ?_); rintro e w2 ⟨rfl, hb2⟩)
      | (go_at_call 9; (with_reducible refine (HY.out _).mono ?_); rintro e w3 ⟨rfl, hb3⟩; have b3 := below_step hb2 hb3; clear hb2 hb3)
      | (go_at_call 11; (with_reducible refine (HPL.out _ (HZ.out.on b3)).mono ?_); rintro e w4 ⟨⟨L, g, c4, l, rfl, hc4, hPl, hl, hu, hwd, ho, hg⟩, hb4⟩; have hL := hPl.1.1; have hgl := ho.lt; have ng : ¬ g = w4.heap.size := (by omega); have ng' : ¬ w4.heap.size = g := (by omega); have hct := ho.cell (i := 121) (by omega); have hft := ho.free 121)
      | (refine wpList_alloc_box rfl rfl ?_; simp only [Act.put, List.setIfInBounds_toArray, List.set_cons_zero, List.set_cons_succ])
      | (refine wpList_store_look rfl _ _ rfl _ rfl rfl (by (first | with_reducible assumption | (simp only [List.length_set]; with_reducible assumption) | exact Z25_len)) (fun ob hob => by (simp [look_alloc, look_setRow, look_drew, look_drewN, look_setCell, Nat.add_assoc] at hob; subst hob; exact ⟨_, rfl, by (first | with_reducible assumption | (simp only [List.length_set]; with_reducible assumption) | exact Z25_len)⟩)) (fun w2 hw2 => ?_); simp [row_alloc_same, row_alloc_old] at hw2; subst hw2; simp only [Act.put, List.setIfInBounds_toArray, List.set_cons_zero, List.set_cons_succ])
      | (refine wpList_load_look rfl _ rfl _ rfl (fun ob hob => ?_); simp [look_alloc, look_setRow, look_drew, look_drewN, look_setCell, Nat.add_assoc, ng, ng'] at hob; subst hob; refine ⟨_, rfl, by (first | with_reducible assumption | (simp only [List.length_set]; with_reducible assumption) | exact Z25_len), ?_⟩; simp only [Act.put, List.setIfInBounds_toArray, List.set_cons_zero, List.set_cons_succ]))
  all_goals
    obtain ⟨N, hNe, hNC, n16, npg, n3, nva, hMC, m16, mpg, mva, hR2⟩ := trf_pure hPl a0 a1 v0 v1
    have hO : Own ((w4.setCell ⟨g, 121, none⟩ (.int .u32 Y)).alloc (.cells (cw ((L.set 2 ((ad - 4) % 4294967296)).set 3 v)).toArray 32)) g (l.set 121 Y) := (ho.set (by omega) Y).on (by (repeat' (first | with_reducible exact Below.refl _ _ | with_reducible assumption | with_reducible apply below_drewN | with_reducible apply Below.drew | with_reducible apply Below.setCell | with_reducible apply Below.alloc | (simp; done) | omega | (simp; omega))))
    have hl2 : (l.set 121 Y).length = 128 := by rw [List.length_set]; exact hl
    have hu2 : U32 (l.set 121 Y) := hu.set 121 Y0 Y1
    have hM5 := hO.mem hl2 hc4 (by omega) hu2
    have hB4 := below_step b3 hb4
    have hB5 : Below w.heap.size w ((w4.setCell ⟨g, 121, none⟩ (.int .u32 Y)).alloc (.cells (cw ((L.set 2 ((ad - 4) % 4294967296)).set 3 v)).toArray 32)) := (hB4.setCell (by have := b3.size; simp; omega) _).alloc (by have := hB4.size; simp; omega) _
    have sC : lk ((w4.setCell ⟨g, 121, none⟩ (.int .u32 Y)).alloc (.cells (cw ((L.set 2 ((ad - 4) % 4294967296)).set 3 v)).toArray 32)) w4.heap.size = some (.cells (cw ((L.set 2 ((ad - 4) % 4294967296)).set 3 v)).toArray 32 (0, 0)) := by rw [look_alloc, if_pos (by simp)]
    have hs5 : w4.heap.size < ((w4.setCell ⟨g, 121, none⟩ (.int .u32 Y)).alloc (.cells (cw ((L.set 2 ((ad - 4) % 4294967296)).set 3 v)).toArray 32)).heap.size := by simp
    rw [hNe] at hM5 hB5 sC hs5 ⊢
    have eX : wd (l.set 121 Y) 120 = X := by rw [wd_set _ _ _ _ (by omega), if_neg (by omega)]; exact hwd
    have eY : wd (l.set 121 Y) 121 = Y := by rw [wd_set _ _ _ _ (by omega), if_pos rfl]
    have hst3 : (stV (l.set 121 Y) ad sz v).length = 128 := by
      show (List.set _ _ _).length = 128
      rw [List.length_set]; exact hl2
    have hst4 : wd (stV (l.set 121 Y) ad sz v) 121 = Y := by
      show wd (List.set _ _ _) 121 = Y
      rw [wd_set _ _ _ _ (by rw [hl2]; omega), if_neg (by omega)]; exact eY
    have HE1 := exec_st_np N (some ⟨g, 0, none⟩) 128 c4 (l.set 121 Y) _ 3 2 0 4 X ad 3 2 _ hNC hM5 npg (by rw [n16]; decide) (by rw [n16]; decide) (by rw [n16]; exact eX) X0 X1 Xd Xo Xa Xb Xc Xm rfl (by omega) rfl (by omega) (by omega) (by omega) HOT.out.1 nva (by rw [HSO.out]; exact hz1'.out) (by rw [HSO.out]; exact hz2'.out)
    rw [HSO.out, n3] at HE1
    have HVV := Lib.hid (HV.out _ hl2 hu2)
    generalize stV (l.set 121 Y) ad sz v = l3 at *
    have HE2 := (fun W S2 c2 (hM : Mem W S2 128 c2 l3) => exec_ld_np (advL N) S2 128 c2 l3 _ 4 2 0 4 Y ad 4 2 W hMC hM mpg (by rw [m16]; decide) (by rw [m16]; decide) (by rw [m16]; exact hst4) Y0 Y1 Yd Yo Ya Yb Yc Ym rfl (by omega) rfl (by omega) (by omega) (by omega) HOT.out.2 mva (by rw [HSL.out]; exact hz1'.out) (by rw [HSL.out]; exact hz2'.out))
    rw [HSL.out, HVV.out] at HE2
    simp only [Bool.false_eq_true, if_false, if_true] at HE2
    first
      | (obtain ⟨R, hRe⟩ : ∃ R, setL (advL (advL N)) 4 (sext v 8) = R := ⟨_, rfl⟩; obtain ⟨hRl, r4, r16⟩ := hR2 (sext v 8) hsv.1 hsv.2; rw [hRe] at HE2 hRl r4 r16; clear hRe)
      | (obtain ⟨R, hRe⟩ : ∃ R, setL (advL (advL N)) 4 v = R := ⟨_, rfl⟩; obtain ⟨hRl, r4, r16⟩ := hR2 v v0 v1; rw [hRe] at HE2 hRl r4 r16; clear hRe)
    have hMl := hMC.1
    have hNl := hNC.1
    have hgC : w.heap.size ≤ w4.heap.size := hB4.size
    unfold efV at HE1 HE2
    have HE2' := Lib.hid HE2
    clear HE2 hR2 HVV hO hNe hst4 eX eY hB4 hM5 hl2 hu2 ho hct hft hPl hl hu hwd hb4 b3
    generalize advL N = M at *
    generalize World.alloc (World.setCell w4 _ _) _ = W5 at *
    generalize w4.heap.size = gC at *
    refine HE1.mono ?_
    rintro e w6 ⟨⟨S6, c6, rfl, hm6, hf6⟩, hb6⟩
    replace sC := look_on sC hb6 hs5
    have hm7 : Mem (w6.setRow gC (cw M).toArray) S6 128 c6 l3 := hm6.fresh hf6 (fun g hg => by show lk _ g = lk _ g; rw [look_setRow, if_neg (by omega)])
    have sC7 := lk_row (M := M) sC
    have bel := below_step hB5 hb6
    clear hb6 hm6 HE1
    go_wp2_with (first
      | (refine wpList_store_look rfl _ _ rfl _ rfl rfl hMl (fun ob hob => by (rw [sC] at hob; subst hob; exact ⟨_, rfl, hNl⟩)) (fun w7 hw7 => ?_); subst hw7; simp only [Act.put, List.setIfInBounds_toArray, List.set_cons_zero, List.set_cons_succ])
      | (refine wpList_load_look rfl _ rfl _ rfl (fun ob hob => ?_); rw [sC7] at hob; subst hob; refine ⟨_, rfl, hMl, ?_⟩; simp only [Act.put, List.setIfInBounds_toArray, List.set_cons_zero, List.set_cons_succ]))
    replace bel := below_setRow bel gC hgC (cw M).toArray
    have hs7 : gC < (w6.setRow gC (cw M).toArray).heap.size := by
      have := sC7
      unfold lk at this
      exact (Array.getElem?_eq_some_iff.1 this).1
    clear sC
    generalize w6.setRow gC (cw M).toArray = W7 at *
    refine (HE2'.out _ _ _ hm7).mono ?_
    rintro e w8 ⟨⟨S8, c8, rfl, hm8, hf8⟩, hb8⟩
    replace sC7 := look_on sC7 hb8 hs7
    replace bel := below_step bel hb8
    have sC9 := lk_row (M := R) sC7
    have d4 : (w8.setRow gC (cw R).toArray).cell? ⟨gC, 4, none⟩ = some (.int .u32 (wd R 4)) := (cell_lk sC9 4).trans (by simpa using cw_at hRl (show 4 < 25 by omega))
    have d16 : (w8.setRow gC (cw R).toArray).cell? ⟨gC, 16, none⟩ = some (.int .u32 (wd R 16)) := (cell_lk sC9 16).trans (by simpa using cw_at hRl (show 16 < 25 by omega))
    rw [r4] at d4
    rw [r16] at d16
    have bel9 := below_setRow bel gC hgC (cw R).toArray
    clear hb8 hm8 hf8 hm7 HE2'
    go_wp2_with (first
      | (refine wpList_store_look rfl _ _ rfl _ rfl rfl hRl (fun ob hob => by (rw [sC7] at hob; subst hob; exact ⟨_, rfl, hMl⟩)) (fun w9 hw9 => ?_); subst hw9; simp only [Act.put, List.setIfInBounds_toArray, List.set_cons_zero, List.set_cons_succ])
      | (go_at_call 18; (with_reducible refine (HSE.out _).mono ?_); rintro e w10 ⟨rfl, m10, rfl⟩)
      | (go_at_call 15; refine (HAW.out _).mono ?_; rintro e w11 ⟨rfl, hb11⟩))
    go_ret
    exact ⟨rfl, below_step (by first | exact bel9 | exact below_drewN bel9 _) hb11⟩
theorem transfers_row (a0 : Option Addr) (len0 cap0 : Nat) (z0 : List Int) (p v : Int) (sm : Bool) (w : World) (w0 : IsRowI w a0 len0 cap0 z0) (w1 : (Lit.int .u32 p).wf = true) (w2 : (Lit.int .u32 v).wf = true) :
    Calls Tryd.prog 6 #[.slice a0 len0 cap0, .int .u32 p, .int .u32 v, .bool sm] w fun e w' => e = .returned (.bool true) ∧ Below w.heap.size w w' := by
  cases sm
  · exact transfers_core a0 len0 cap0 _ p v 35 32 false w (row_intsC w0).2 (row_intsC w0).1 (wf_u32 w1).1 (wf_u32 w1).2 (wf_u32 w2).1 (wf_u32 w2).2 (.inl ⟨rfl, rfl, rfl⟩)
  · exact transfers_core a0 len0 cap0 _ p v 36 33 true w (row_intsC w0).2 (row_intsC w0).1 (wf_u32 w1).1 (wf_u32 w1).2 (wf_u32 w2).1 (wf_u32 w2).2 (.inr ⟨rfl, rfl, rfl⟩)
end Go.Proofs.YtkpboooifkhijaaDoor
