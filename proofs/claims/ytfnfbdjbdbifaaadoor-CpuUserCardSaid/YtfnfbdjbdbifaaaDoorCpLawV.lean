import Derived.Test.YtfnfbdjbdbifaaaDoorCpUsN
import Derived.Test.YtfnfbdjbdbifaaaDoorCpGh
import Derived.Test.YtfnfbdjbdbifaaaDoorCpLawP
import Derived.Deep.RegionHeld3
namespace Go.Proofs.YtfnfbdjbdbifaaaDoor
set_option linter.unusedVariables false
set_option linter.unusedSimpArgs false
set_option maxRecDepth 20000
open Go.ChangeShapes Go.WideShapes Go.ChangeAt Go.RowKit Go.Proofs.YtfnfbdjbdbifaaaDoor.Num Go.Proofs.YtfnfbdjbdbifaaaDoor.Mem Go.Proofs.YtfnfbdjbdbifaaaDoor.Isa
/- An instruction in user mode. -/
theorem few_any (A B : Option Addr) (n m c d : Nat) (w : World) :
    Calls Tryd.prog 12 #[.slice A n c, .slice B m d] w fun e w' => e = .returned (.bool (decide (n ≤ 40 ∧ m ≤ 30))) ∧ w = w' := by
  by_cases h : n ≤ 40
  · have h' : (n : Int) ≤ 40 := by omega
    by_cases h2 : m ≤ 30
    · have h2' : (m : Int) ≤ 30 := by omega
      go_enter Tryd.func12, Tryd.ntmps12
      go_wp2
      all_goals go_ret
      all_goals exact ⟨ret_bool (by simp [h, h2]), rfl⟩
    · have h2' : ¬ (m : Int) ≤ 30 := by omega
      go_enter Tryd.func12, Tryd.ntmps12
      go_wp2
      all_goals go_ret
      all_goals exact ⟨ret_bool (by simp [h, h2]), rfl⟩
  · have h' : ¬ (n : Int) ≤ 40 := by omega
    go_enter Tryd.func12, Tryd.ntmps12
    go_wp2
    all_goals go_ret
    all_goals exact ⟨ret_bool (by simp [h]), rfl⟩
theorem own_setN {w : World} {g k : Nat} {l : List Int} (h : Own w g l) (hne : ¬ g = k) (i : Nat) (v : Value) : Own (w.setCell ⟨k, i, none⟩ v) g l := by
  obtain ⟨cs, h1, h2⟩ := h
  refine ⟨cs, ?_, h2⟩
  show lk _ g = _
  rw [look_setCell, if_neg (by show ¬ k = g; exact fun e => hne e.symm)]
  exact h1
set_option maxHeartbeats 1000000 in
theorem user_walk (A B : Option Addr) (n m c d : Nat) (z : Nat → Int) (k f : Int) (w : World) (hT : TabK w) (hn : n ≤ 9223372036854775807) (hz : Ints w A n z) (k0 : -9223372036854775808 ≤ k) (k1 : k ≤ 9223372036854775807) (f0 : 0 ≤ f) (f1 : f ≤ 4294967295) :
    Calls Tryd.prog 4 #[.slice A n c, .slice B m d, .int .i64 k, .int .u32 f] w fun e w' => e = .returned (.bool true) ∧ Below w.heap.size w w' := by
  have HAW := Lib.hid (fun W => awake6 W)
  have HF := Lib.hid (fun W => few_any A B n m c d W)
  by_cases hfew : n ≤ 40 ∧ m ≤ 30
  · rw [decide_eq_true hfew] at HF
    clear hfew
    obtain ⟨O, I1, I2, I3, I4, hok, hinst⟩ := inst_exC k k0 k1
    have HI := Lib.hid hinst
    clear hinst
    obtain ⟨X, X0, X1, -, -, -, -, -, -, henc⟩ := word_facts hok
    have HEN := Lib.hid henc
    clear henc hok
    have HPL := Lib.hid (fun W (hZ : Ints W A n z) => placed_any A n c z 384 X W hn hZ (by omega) (by omega) X0 X1)
    have HZ := Lib.hid hz
    have HTK := Lib.hid hT
    have HX := Lib.hid (fun L l W c4 g (hL : C25 L) (hM : Mem W (some ⟨g, 0, none⟩) 128 c4 l) (hK : TabK W) => exec_any L (some ⟨g, 0, none⟩) 128 c4 l W hL hM hK)
    clear hz hT
    have hor : bits .or .u32 512 (f % 32) = 512 + f % 32 := pte_or (f % 32) 2 (by omega) (by omega) (by omega) (by omega)
    have hand := and_3 f f0 f1
    obtain ⟨F1, F2, F3, -⟩ := cw_facts
    go_enter Tryd.func4, Tryd.ntmps4
    go_wp2_with (first
      | (go_at_call 12; (with_reducible refine (HF.out _).mono ?_); rintro e w0 ⟨rfl, rfl⟩)
      | (go_at_call 6; (with_reducible refine (HI.out _).mono ?_); rintro e w1 ⟨rfl, hb1⟩)
      | (go_at_call 5; (with_reducible refine (HEN.out _).mono ?_); rintro e w3 ⟨rfl, hb3⟩; have b3 := below_step hb1 hb3; clear hb3 hb1)
      | (go_at_call 7; (with_reducible refine (HPL.out _ (HZ.out.on b3)).mono ?_); rintro e w4 ⟨⟨L, g, c4, l, rfl, hc4, hPl, hl, hu, hwd, ho, hg⟩, hb4⟩; have hL := hPl.1.1)
      | (refine wpList_alloc_box rfl rfl ?_; simp only [Act.put, List.setIfInBounds_toArray, List.set_cons_zero, List.set_cons_succ])
      | (refine wpList_store_look rfl _ _ rfl _ rfl rfl (by (first | with_reducible assumption | (simp only [List.length_set]; with_reducible assumption) | exact Z25_len)) (fun ob hob => by (simp [look_alloc, look_setRow, look_drew, look_drewN, look_setCell, Nat.add_assoc] at hob; subst hob; exact ⟨_, rfl, by (first | with_reducible assumption | (simp only [List.length_set]; with_reducible assumption) | exact Z25_len)⟩)) (fun w2 hw2 => ?_); simp [row_alloc_same, row_alloc_old] at hw2; subst hw2; simp only [Act.put, List.setIfInBounds_toArray, List.set_cons_zero, List.set_cons_succ]))
    have hB4 := below_step b3 hb4
    have hgl := ho.lt
    have hgw : w.heap.size ≤ g := Nat.le_trans b3.size hg
    clear hb4 b3 hwd hg
    generalize hW : World.alloc w4 _ = W5
    have X9 : lk W5 w4.heap.size = some (.cells (cw L).toArray 32 (0, 0)) := by rw [← hW, look_alloc, if_pos rfl]
    have hO5 : Own W5 g l := by rw [← hW]; exact ho.on ((Below.refl _ _).alloc (Nat.le_refl _) _)
    have hB5 : Below w.heap.size w W5 := by rw [← hW]; exact hB4.alloc hB4.size _
    have hs4 : w.heap.size ≤ w4.heap.size := hB4.size
    clear hW ho hB4
    go_loopw [13] (fun i wr => ∃ (j : Nat) (l1 : List Int), j ≤ 32 ∧ i = .int .i64 j ∧ Own wr g l1 ∧ l1.length = 128 ∧ U32 l1 ∧ Hid (∀ x, x < j → wd l1 x = 0) ∧ lk wr w4.heap.size = some (.cells (cw L).toArray 32 (0, 0)) ∧ Below w.heap.size w wr) (fun i _ => 32 - (intOf i).toNat)
    case atStart => exact ⟨0, l, by omega, rfl, hO5, hl, hu, Lib.hid (fun x h => absurd h (Nat.not_lt_zero _)), X9, hB5⟩
    case round =>
      clear X9 hO5 hB5 hl hu
      obtain ⟨j, l1, hj, rfl, ho, hl, hu, hzr, X9, hB⟩ := hrel
      by_cases hlt : j < 32
      · have hj' : (j : Int) < 32 := by omega
        have hc := ho.cell (i := j) (by omega)
        have hf := ho.free j
        have HO := Lib.hid (ho.set (i := j) (by omega) 0)
        have HX9 := Lib.hid (lk_setN (k := j) (v := .int .u32 0) X9 (show ¬ g = w4.heap.size by omega))
        have HBB := Lib.hid (hB.setCell (p := ⟨g, j, none⟩) hgw (.int .u32 0))
        go_wp2
        go_roundw
        case rel => exact ⟨j + 1, l1.set j 0, by omega, by go_num, HO.out, by rw [List.length_set]; exact hl, hu.set j (by omega) (by omega), Lib.hid (fun x hx => by
          rw [wd_set _ _ _ _ (by omega)]
          by_cases hxj : j = x
          · rw [if_pos hxj]
          · rw [if_neg hxj]; exact hzr.out x (by omega)), HX9.out, HBB.out⟩
        case measure => simp [intOf]; omega
      · obtain rfl : j = 32 := by omega
        have hc3 := ho.cell (i := 3) (by omega)
        have hc2 := ho.cell (i := 2) (by omega)
        have hf3 := ho.free 3
        have hf2 := ho.free 2
        have q1 : ¬ g = w4.heap.size := by omega
        have q2 : ¬ w4.heap.size = g := by omega
        have x17 : wr.cell? ⟨w4.heap.size, 17, none⟩ = some (.int .u32 (wd L 17)) := (cell_lk X9 17).trans (by simpa using cw_at hL (show 17 < 25 by omega))
        have x23 : wr.cell? ⟨w4.heap.size, 23, none⟩ = some (.int .u32 (wd L 23)) := (cell_lk X9 23).trans (by simpa using cw_at hL (show 23 < 25 by omega))
        have y17 : wr.frozen? ⟨w4.heap.size, 17, none⟩ = false := frozen_lk X9 17
        have y23 : wr.frozen? ⟨w4.heap.size, 23, none⟩ = false := frozen_lk X9 23
        have U9 := lk_set (lk_set (lk_setN (k := 2) (v := .int .u32 (512 + f % 32)) (lk_setN (k := 3) (v := .int .u32 773) X9 q1) q1) 17 4) 23 0
        have hO6 := Lib.hid (own_setN (own_setN ((ho.set (i := 3) (by omega) 773).set (i := 2) (by rw [List.length_set]; omega) (512 + f % 32)) q1 17 (.int .u32 4)) q1 23 (.int .u32 0))
        have hB6 := Lib.hid ((((hB.setCell (p := ⟨g, 3, none⟩) hgw (.int .u32 773)).setCell (p := ⟨g, 2, none⟩) hgw (.int .u32 (512 + f % 32))).setCell (p := ⟨w4.heap.size, 17, none⟩) hs4 (.int .u32 4)).setCell (p := ⟨w4.heap.size, 23, none⟩) hs4 (.int .u32 0))
        have hC2 : C25 ((L.set 17 4).set 23 0) := (hPl.1.set 17 (by omega) (by omega)).set 23 (by omega) (by omega)
        have hL2 := hC2.1
        go_wp2_with (first
          | (refine wpList_load_look rfl _ rfl _ rfl (fun ob hob => ?_); rw [U9] at hob; subst hob; refine ⟨_, rfl, hL2, ?_⟩; simp only [Act.put, List.setIfInBounds_toArray, List.set_cons_zero, List.set_cons_succ]))
        obtain ⟨l2, hl2⟩ : ∃ l2, (l1.set 3 773).set 2 (512 + f % 32) = l2 := ⟨_, rfl⟩
        obtain ⟨L2, hLL2⟩ : ∃ L2, (L.set 17 4).set 23 0 = L2 := ⟨_, rfl⟩
        have w17 : wd L2 17 = 4 := by rw [← hLL2, wdset (hPl.1.set 17 (by omega) (by omega)) (by omega), if_neg (by omega), wdset hPl.1 (by omega), if_pos rfl]
        have w23 : wd L2 23 = 0 := by rw [← hLL2, wdset (hPl.1.set 17 (by omega) (by omega)) (by omega), if_pos rfl]
        have l2len : l2.length = 128 := by rw [← hl2, List.length_set, List.length_set]; exact hl
        have l2u : U32 l2 := by rw [← hl2]; exact (hu.set 3 (by omega) (by omega)).set 2 (by omega) (by omega)
        have l2at : ∀ x, wd l2 x = if x = 2 then 512 + f % 32 else if x = 3 then 773 else wd l1 x := fun x => by
          rw [← hl2, wd_set _ _ _ _ (by rw [List.length_set]; omega), wd_set _ _ _ _ (by omega)]
          by_cases h2 : x = 2
          · rw [if_pos h2.symm, if_pos h2]
          · rw [if_neg (fun e => h2 e.symm), if_neg h2]
            by_cases h3 : x = 3
            · rw [if_pos h3.symm, if_pos h3]
            · rw [if_neg (fun e => h3 e.symm), if_neg h3]
        have l2T : UsT l2 := fun x h1 h2 h3 => by rw [l2at, if_neg h2, if_neg h3, hzr.out x h1]; rfl
        have hsafe := Lib.hid (user_safe (f := f) l2len l2u (by rw [← hLL2]; exact hC2) w17 w23 l2T (by rw [l2at, if_neg (by omega), if_pos rfl]; rfl) (by rw [l2at, if_pos rfl]; omega) (by rw [l2at, if_pos rfl]; omega))
        rw [hLL2] at hC2 hL2 U9 ⊢
        rw [hl2] at hO6
        clear hc3 hc2 hf3 hf2 x17 x23 y17 y23 ho hzr X9 hB hl hu l2at l2T w17 w23 hLL2 hl2 hPl hL
        generalize World.setCell (World.setCell _ _ _) _ _ = W6 at *
        have hM6 := hO6.out.mem l2len hc4 (by omega) l2u
        refine (HX.out L2 l2 _ c4 g hC2 hM6 (HTK.out.on hB6.out)).mono ?_
        clear HX
        obtain ⟨eK, eP, eR, eV, hE⟩ := exE_is 128 l2 L2
        have hRL := exL_len (n := 128) (l := l2) hL2
        unfold ExPost
        rw [hE]
        unfold efV
        generalize exL 128 l2 L2 = R at *
        generalize exM 128 l2 L2 = l' at *
        clear hE
        rintro e w6 ⟨⟨S5, c5, rfl, hm5, -⟩, hb6⟩
        have hB7 := below_step hB6.out hb6
        replace hM6 := hM6.on hb6
        clear hb6 hB6 hO6 U9
        obtain ⟨b5, o5, rfl, -⟩ := hm5.at_ (k := 0) (by omega)
        go_wp2_with (first
          | (refine wpList_alloc_box rfl rfl ?_; simp only [Act.put, List.setIfInBounds_toArray, List.set_cons_zero, List.set_cons_succ])
          | (refine wpList_store_look rfl _ _ rfl _ rfl rfl hRL (fun ob hob => by (simp [look_alloc, look_setRow, look_drew, look_drewN, look_setCell, Nat.add_assoc] at hob; subst hob; exact ⟨_, rfl, Z25_len⟩)) (fun w4 hw4 => ?_); simp [row_alloc_same, row_alloc_old] at hw4; subst hw4; simp only [Act.put, List.setIfInBounds_toArray, List.set_cons_zero, List.set_cons_succ]))
        generalize hW : World.alloc (World.alloc w6 _) _ = W8
        have hm8 : Mem W8 (some ⟨b5, o5, none⟩) 128 c5 l' := by rw [← hW]; exact hm5.on (((Below.refl _ _).alloc (Nat.le_refl _) _).alloc (by simp) _)
        have hM8 : Mem W8 (some ⟨g, 0, none⟩) 128 c4 l2 := by rw [← hW]; exact hM6.on (((Below.refl _ _).alloc (Nat.le_refl _) _).alloc (by simp) _)
        have hB8 : Below w.heap.size w W8 := by rw [← hW]; exact (hB7.alloc hB7.size _).alloc (by have := hB7.size; simp; omega) _
        clear hW hm5 hM6 hB7
        go_loopw [17] (fun i wr => ∃ (j : Nat), j ≤ 128 ∧ i = .int .i64 j ∧ Mem wr (some ⟨b5, o5, none⟩) 128 c5 l' ∧ Mem wr (some ⟨g, 0, none⟩) 128 c4 l2 ∧ Below w.heap.size w wr) (fun i _ => 128 - (intOf i).toNat)
        case atStart => exact ⟨0, by omega, rfl, hm8, hM8, hB8⟩
        case round =>
          clear hm8 hM8 hB8
          obtain ⟨j, hj, rfl, hm8, hM8, hB8⟩ := hrel
          by_cases hlt : j < 128
          · have hj' : (j : Int) < 128 := by omega
            obtain ⟨b', o', hA', hcx, hx0, hx1⟩ := hm8.at_ (k := j) hlt
            injection hA' with hA'; injection hA' with hA1 hA2
            subst hA1 hA2
            obtain ⟨b', o', hA', hcy, hy0, hy1⟩ := hM8.at_ (k := j) hlt
            injection hA' with hA'; injection hA' with hA1 hA2
            subst hA1 hA2
            have hcy' : wr.cell? ⟨g, j, none⟩ = some (.int .u32 (wd l2 j)) := by simpa using hcy
            have hs := Lib.hid (hsafe.out j)
            have HM1 := Lib.hid hm8
            have HM2 := Lib.hid hM8
            clear hcy hm8 hM8
            generalize wd l' j = vx at *
            generalize wd l2 j = vy at *
            have hxy : vx = vy ∨ (vx != vy) = true := by
              by_cases h : vx = vy
              · exact .inl h
              · exact .inr (by simpa using h)
            have hcase : (decide (64 ≤ (j : Int)) = false ∧ ((j : Int) == 2) = true) ∨ (decide (64 ≤ (j : Int)) = false ∧ ((j : Int) == 2) = false ∧ ((j : Int) == 3) = true) ∨ (decide (64 ≤ (j : Int)) = false ∧ ((j : Int) == 2) = false ∧ ((j : Int) == 3) = false ∧ vx = vy)
                ∨ (decide (64 ≤ (j : Int)) = true ∧ decide ((j : Int) < 96) = true ∧ (f % 4 == 3) = true ∧ ((j : Int) == 2) = false ∧ ((j : Int) == 3) = false) ∨ (decide (64 ≤ (j : Int)) = true ∧ decide ((j : Int) < 96) = true ∧ (f % 4 == 3) = false ∧ ((j : Int) == 2) = false ∧ ((j : Int) == 3) = false ∧ vx = vy) ∨ (decide (64 ≤ (j : Int)) = true ∧ decide ((j : Int) < 96) = false ∧ ((j : Int) == 2) = false ∧ ((j : Int) == 3) = false ∧ vx = vy) := by
              have e2 : ((j : Int) == 2) = decide (j = 2) := by rw [Bool.eq_iff_iff]; simp; omega
              have e3 : ((j : Int) == 3) = decide (j = 3) := by rw [Bool.eq_iff_iff]; simp; omega
              have e4 : (f % 4 == 3) = decide (f % 4 = 3) := by rw [Bool.eq_iff_iff]; simp
              rw [e2, e3, e4]
              simp only [decide_eq_true_eq, decide_eq_false_iff_not]
              by_cases c2 : j = 2
              · exact .inl ⟨by omega, c2⟩
              by_cases c3 : j = 3
              · exact .inr (.inl ⟨by omega, c2, c3⟩)
              by_cases c64 : 64 ≤ j
              · by_cases c96 : j < 96
                · by_cases c4 : f % 4 = 3
                  · exact .inr (.inr (.inr (.inl ⟨by omega, by omega, c4, c2, c3⟩)))
                  · exact .inr (.inr (.inr (.inr (.inl ⟨by omega, by omega, c4, c2, c3, hs.out c2 c3 (fun h => c4 h.2.2)⟩))))
                · exact .inr (.inr (.inr (.inr (.inr ⟨by omega, by omega, c2, c3, hs.out c2 c3 (fun h => c96 h.2.1)⟩))))
              · exact .inr (.inr (.inl ⟨by omega, c2, c3, hs.out c2 c3 (fun h => c64 h.1)⟩))
            clear hs hsafe
            rcases hxy with rfl | hne
            · have hne : (vx != vx) = false := by simp
              rcases hcase with ⟨t1, t2⟩ | ⟨t1, t2, t3⟩ | ⟨t1, t2, t3, -⟩ | ⟨t1, t4, t5, t2, t3⟩ | ⟨t1, t4, t5, t2, t3, -⟩ | ⟨t1, t4, t2, t3, -⟩
              all_goals
                go_wp2_with fail
                go_region
                all_goals go_wp2
                all_goals go_roundw
                all_goals first
                  | exact ⟨j + 1, by omega, by go_num, HM1.out.on ((Below.refl _ _).drew), HM2.out.on ((Below.refl _ _).drew), hB8.drew⟩
                  | (simp [intOf]; omega)
            · rcases hcase with ⟨t1, t2⟩ | ⟨t1, t2, t3⟩ | ⟨t1, t2, t3, e⟩ | ⟨t1, t4, t5, t2, t3⟩ | ⟨t1, t4, t5, t2, t3, e⟩ | ⟨t1, t4, t2, t3, e⟩
              all_goals first | (exfalso; rw [e] at hne; simp at hne; done) | skip
              all_goals
                go_wp2_with fail
                go_region
                all_goals go_wp2
                all_goals go_roundw
                all_goals first
                  | exact ⟨j + 1, by omega, by go_num, HM1.out.on ((Below.refl _ _).drew), HM2.out.on ((Below.refl _ _).drew), hB8.drew⟩
                  | (simp [intOf]; omega)
          · obtain rfl : j = 128 := by omega
            go_wp2_with (go_at_call 11; refine (HAW.out _).mono ?_; rintro e w10 ⟨rfl, hb10⟩)
            all_goals first | (exfalso; omega) | skip
            go_ret
            exact ⟨rfl, below_step hB8 hb10⟩
  · rw [decide_eq_false hfew] at HF
    go_enter Tryd.func4, Tryd.ntmps4
    go_wp2_with (first
      | (go_at_call 12; (with_reducible refine (HF.out _).mono ?_); rintro e w0 ⟨rfl, rfl⟩)
      | (go_at_call 11; refine (HAW.out _).mono ?_; rintro e w10 ⟨rfl, hb10⟩))
    go_ret
    exact ⟨rfl, hb10⟩
theorem user_row (a0 : Option Addr) (len0 cap0 : Nat) (z0 : List Int) (a1 : Option Addr) (len1 cap1 : Nat) (z1 : List Int) (k f : Int) (w : World) (hT : TabK w) (w0 : IsRowI w a0 len0 cap0 z0) (w2 : (Lit.int .i64 k).wf = true) (w3 : (Lit.int .u32 f).wf = true) :
    Calls Tryd.prog 4 #[.slice a0 len0 cap0, .slice a1 len1 cap1, .int .i64 k, .int .u32 f] w fun e w' => e = .returned (.bool true) ∧ Below w.heap.size w w' :=
  user_walk a0 a1 len0 len1 cap0 cap1 _ k f w hT (row_intsC w0).2 (row_intsC w0).1 (wf_i64 w2).1 (wf_i64 w2).2 (wf_u32 w3).1 (wf_u32 w3).2
end Go.Proofs.YtfnfbdjbdbifaaaDoor
