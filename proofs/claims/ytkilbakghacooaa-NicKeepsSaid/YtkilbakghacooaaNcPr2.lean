import Derived.Test.YtkilbakghacooaaNcPrg
namespace Go.Proofs.Ytkilbakghacooaa
set_option linter.unusedVariables false
set_option linter.unusedSimpArgs false
set_option maxRecDepth 20000
open Go.ChangeShapes Go.WideShapes Go.ChangeAt Go.RowKit Go.Proofs.Ytkilbakghacooaa.Num Go.Proofs.Ytkilbakghacooaa.Mem
/-- What sending gives: the outputs. -/
def SndPost (o : Option (Int × Int × Int × ByteArray)) (w : World) (e : Ending) (w' : World) : Prop := (∃ sl, e = .returned sl ∧ Outs w.heap.size w' sl o) ∧ Below w.heap.size w w'
theorem ncSend_any (F L : Int) (P : Bool) (B : Int) (R : Bool) (G : Int) (A : Option Addr) (n c : Nat) (l : List Int) (a : Int) (w : World) (hm : Mem w A n c l) (F0 : 0 ≤ F) (F1 : F ≤ 4294967295) (h1 : 1 ≤ L) (h2 : L ≤ 128) (hF : F < pagesN n) :
    Calls Try.prog 43 #[ncV F L P B R G, .slice A n c, .int .u64 a] w (SndPost (some (2, a, 0, (pgS n l F).extract 0 L.toNat)) w) := by
  unfold ncV SndPost
  have HPP := Lib.hid (fun W (hM : Mem W A n c l) => page_any A n c F l W hM)
  rw [decide_eq_true (⟨F0, hF⟩ : 0 ≤ F ∧ F < pagesN n)] at HPP
  have HL := Lib.hid (fun W => ncLen_any L W)
  rw [decide_eq_true (⟨h1, h2⟩ : 1 ≤ L ∧ L ≤ 128)] at HL
  have hD := pgS_size (F := F) hm.1 F0 hF
  generalize pgS n l F = D at *
  obtain ⟨k, rfl⟩ : ∃ k : Nat, L = k := ⟨L.toNat, by omega⟩
  have hk : k ≤ D.size := by omega
  have hk2 : (k : Int) ≤ D.size := by omega
  have HM := Lib.hid hm
  clear hm
  go_enter Try.func43, Try.ntmps43
  go_wp2_with (first
    | go_skip
    | (go_at_call 34; (with_reducible refine (HPP.out _ (HM.out.on (by (repeat' (first | with_reducible exact Below.refl _ _ | with_reducible assumption | with_reducible apply below_drewN | with_reducible apply Below.drew | with_reducible apply Below.setCell | with_reducible apply Below.alloc | (simp; done) | omega | (simp; omega)))))).mono ?_); rintro e w2 ⟨rfl, hb2⟩; have X2 : InN w2 w.heap.size F k P B R G := InN.on ⟨by simp [go_sem], by simp [go_sem], by simp [go_sem], by simp [go_sem], by simp [go_sem], by simp [go_sem], fun i => by simp [go_sem]⟩ hb2; have b2 : Below w.heap.size w w2 := Below.trans (by (repeat' (first | with_reducible exact Below.refl _ _ | with_reducible assumption | with_reducible apply below_drewN | with_reducible apply Below.drew | with_reducible apply Below.setCell | with_reducible apply Below.alloc | (simp; done) | omega | (simp; omega)))) (hb2.mono (by simp <;> omega)); clear hb2; have l2 := X2.lt; obtain ⟨c0, c1, c2, c3, c4, c5, cz⟩ := X2)
    | (go_at_call 35; (with_reducible refine (HL.out _).mono ?_); rintro e w3 ⟨rfl, m3, rfl⟩))
  go_ret
  have e3 : (w2.drewN m3).heap.size = w2.heap.size := by simp
  refine ⟨⟨.slice (some ⟨w2.heap.size, 0, none⟩) 1 1, rfl, ⟨w2.heap.size, by omega, rfl, by rw [← e3]; exact InO.new _ _ _ _ _ _⟩⟩, by (repeat' (first | with_reducible exact Below.refl _ _ | with_reducible assumption | with_reducible apply below_drewN | with_reducible apply Below.drew | with_reducible apply Below.setCell | with_reducible apply Below.alloc | (simp; done) | omega | (simp; omega)))⟩
theorem ncNoSend_any (F L : Int) (P : Bool) (B : Int) (R : Bool) (G : Int) (A : Option Addr) (n c : Nat) (l : List Int) (a : Int) (w : World) (hm : Mem w A n c l) (F0 : 0 ≤ F) (F1 : F ≤ 4294967295) (L0 : 0 ≤ L) (L1 : L ≤ 4294967295) (ho : ¬ (1 ≤ L ∧ L ≤ 128 ∧ F < pagesN n)) :
    Calls Try.prog 43 #[ncV F L P B R G, .slice A n c, .int .u64 a] w (SndPost none w) := by
  unfold ncV SndPost
  have HPP := Lib.hid (fun W (hM : Mem W A n c l) => page_any A n c F l W hM)
  have HL := Lib.hid (fun W => ncLen_any L W)
  generalize pgS n l F = D at *
  have HM := Lib.hid hm
  clear hm
  by_cases hF : F < pagesN n
  · rw [decide_eq_true (⟨F0, hF⟩ : 0 ≤ F ∧ F < pagesN n)] at HPP
    rw [decide_eq_false (show ¬ (1 ≤ L ∧ L ≤ 128) from fun h => ho ⟨h.1, h.2, hF⟩)] at HL
    clear ho
    go_enter Try.func43, Try.ntmps43
    go_wp2_with (first
      | go_skip
      | (go_at_call 34; (with_reducible refine (HPP.out _ (HM.out.on (by (repeat' (first | with_reducible exact Below.refl _ _ | with_reducible assumption | with_reducible apply below_drewN | with_reducible apply Below.drew | with_reducible apply Below.setCell | with_reducible apply Below.alloc | (simp; done) | omega | (simp; omega)))))).mono ?_); rintro e w2 ⟨rfl, hb2⟩; have X2 : InN w2 w.heap.size F L P B R G := InN.on ⟨by simp [go_sem], by simp [go_sem], by simp [go_sem], by simp [go_sem], by simp [go_sem], by simp [go_sem], fun i => by simp [go_sem]⟩ hb2; have b2 : Below w.heap.size w w2 := Below.trans (by (repeat' (first | with_reducible exact Below.refl _ _ | with_reducible assumption | with_reducible apply below_drewN | with_reducible apply Below.drew | with_reducible apply Below.setCell | with_reducible apply Below.alloc | (simp; done) | omega | (simp; omega)))) (hb2.mono (by simp <;> omega)); clear hb2; have l2 := X2.lt; obtain ⟨c0, c1, c2, c3, c4, c5, cz⟩ := X2)
      | (go_at_call 35; (with_reducible refine (HL.out _).mono ?_); rintro e w3 ⟨rfl, m3, rfl⟩))
    go_ret
    exact ⟨⟨_, rfl, rfl⟩, by (repeat' (first | with_reducible exact Below.refl _ _ | with_reducible assumption | with_reducible apply below_drewN | with_reducible apply Below.drew | with_reducible apply Below.setCell | with_reducible apply Below.alloc | (simp; done) | omega | (simp; omega)))⟩
  · rw [decide_eq_false (show ¬ (0 ≤ F ∧ F < pagesN n) from fun h => hF h.2)] at HPP
    clear ho
    go_enter Try.func43, Try.ntmps43
    go_wp2_with (first
      | go_skip
      | (go_at_call 34; (with_reducible refine (HPP.out _ (HM.out.on (by (repeat' (first | with_reducible exact Below.refl _ _ | with_reducible assumption | with_reducible apply below_drewN | with_reducible apply Below.drew | with_reducible apply Below.setCell | with_reducible apply Below.alloc | (simp; done) | omega | (simp; omega)))))).mono ?_); rintro e w2 ⟨rfl, hb2⟩; have X2 : InN w2 w.heap.size F L P B R G := InN.on ⟨by simp [go_sem], by simp [go_sem], by simp [go_sem], by simp [go_sem], by simp [go_sem], by simp [go_sem], fun i => by simp [go_sem]⟩ hb2; have b2 : Below w.heap.size w w2 := Below.trans (by (repeat' (first | with_reducible exact Below.refl _ _ | with_reducible assumption | with_reducible apply below_drewN | with_reducible apply Below.drew | with_reducible apply Below.setCell | with_reducible apply Below.alloc | (simp; done) | omega | (simp; omega)))) (hb2.mono (by simp <;> omega)); clear hb2; have l2 := X2.lt; obtain ⟨c0, c1, c2, c3, c4, c5, cz⟩ := X2)
      | (go_at_call 35; (with_reducible refine (HL.out _).mono ?_); rintro e w3 ⟨rfl, m3, rfl⟩))
    go_ret
    exact ⟨⟨_, rfl, rfl⟩, by (repeat' (first | with_reducible exact Below.refl _ _ | with_reducible assumption | with_reducible apply below_drewN | with_reducible apply Below.drew | with_reducible apply Below.setCell | with_reducible apply Below.alloc | (simp; done) | omega | (simp; omega)))⟩
/-- What a post gives: the card. -/
def PstPost (F L : Int) (P : Bool) (B : Int) (R : Bool) (G : Int) (w : World) (e : Ending) (w' : World) : Prop := e = .returned (ncV F L P B R G) ∧ Below w.heap.size w w'
theorem ncPost_any (F L : Int) (P : Bool) (B : Int) (R : Bool) (G : Int) (p : Int) (w : World) (F0 : 0 ≤ F) (F1 : F ≤ 4294967295) (hF : F < p) (hP : P = false) (hR : R = false) :
    Calls Try.prog 44 #[ncV F L P B R G, .int .i64 p] w (PstPost F L true F R G w) := by
  subst hP hR
  have HPG := Lib.hid (fun W => ncPage_any F p W F0 F1)
  rw [decide_eq_true hF] at HPG
  unfold PstPost ncV
  go_enter Try.func44, Try.ntmps44
  go_wp2_with (first | go_skip | (go_at_call 51; (with_reducible refine (HPG.out _).mono ?_); rintro e w1 ⟨rfl, m1, rfl⟩))
  all_goals refine bodyPost_ret (v := .agg #[.int .u32 (F), .int .u32 (L), .bool true, .int .u32 (F), .bool false, .int .u32 (G)]) (by rw [results_oneE rfl]; go_simp) rfl ⟨rfl, by (repeat' (first | with_reducible exact Below.refl _ _ | with_reducible assumption | with_reducible apply below_drewN | with_reducible apply Below.drew | with_reducible apply Below.setCell | with_reducible apply Below.alloc | (simp; done) | omega | (simp; omega)))⟩
theorem ncNoPost_any (F L : Int) (P : Bool) (B : Int) (R : Bool) (G : Int) (p : Int) (w : World) (F0 : 0 ≤ F) (F1 : F ≤ 4294967295) (ho : ¬ (F < p ∧ P = false ∧ R = false)) :
    Calls Try.prog 44 #[ncV F L P B R G, .int .i64 p] w (PstPost F L P B R G w) := by
  have HPG := Lib.hid (fun W => ncPage_any F p W F0 F1)
  unfold PstPost ncV
  by_cases hF : F < p
  · rw [decide_eq_true hF] at HPG
    have hc : P = true ∨ P = false ∧ R = true := by cases P <;> cases R <;> simp_all
    clear ho
    rcases hc with rfl | ⟨rfl, rfl⟩
    all_goals
      go_enter Try.func44, Try.ntmps44
      go_wp2_with (first | go_skip | (go_at_call 51; (with_reducible refine (HPG.out _).mono ?_); rintro e w1 ⟨rfl, m1, rfl⟩))
      all_goals first
        | refine bodyPost_ret (v := .agg #[.int .u32 (F), .int .u32 (L), .bool true, .int .u32 (B), .bool R, .int .u32 (G)]) (by rw [results_oneE rfl]; go_simp) rfl ⟨rfl, by (repeat' (first | with_reducible exact Below.refl _ _ | with_reducible assumption | with_reducible apply below_drewN | with_reducible apply Below.drew | with_reducible apply Below.setCell | with_reducible apply Below.alloc | (simp; done) | omega | (simp; omega)))⟩
        | refine bodyPost_ret (v := .agg #[.int .u32 (F), .int .u32 (L), .bool false, .int .u32 (B), .bool true, .int .u32 (G)]) (by rw [results_oneE rfl]; go_simp) rfl ⟨rfl, by (repeat' (first | with_reducible exact Below.refl _ _ | with_reducible assumption | with_reducible apply below_drewN | with_reducible apply Below.drew | with_reducible apply Below.setCell | with_reducible apply Below.alloc | (simp; done) | omega | (simp; omega)))⟩
  · rw [decide_eq_false hF] at HPG
    clear ho
    go_enter Try.func44, Try.ntmps44
    go_wp2_with (first | go_skip | (go_at_call 51; (with_reducible refine (HPG.out _).mono ?_); rintro e w1 ⟨rfl, m1, rfl⟩))
    all_goals refine bodyPost_ret (v := .agg #[.int .u32 (F), .int .u32 (L), .bool P, .int .u32 (B), .bool R, .int .u32 (G)]) (by rw [results_oneE rfl]; go_simp) rfl ⟨rfl, by (repeat' (first | with_reducible exact Below.refl _ _ | with_reducible assumption | with_reducible apply below_drewN | with_reducible apply Below.drew | with_reducible apply Below.setCell | with_reducible apply Below.alloc | (simp; done) | omega | (simp; omega)))⟩
set_option maxHeartbeats 1000000 in
theorem ncCtl_snd (F L : Int) (P : Bool) (B : Int) (R : Bool) (G : Int) (A : Option Addr) (n c : Nat) (l : List Int) (v a : Int) (o : Option (Int × Int × Int × ByteArray)) (w : World) (hm : Mem w A n c l) (hv : v = 1)
    (HI : Hid (∀ W, Mem W A n c l → Calls Try.prog 43 #[ncV F L P B R G, .slice A n c, .int .u64 a] W (SndPost o W))) :
    Calls Try.prog 30 #[ncV F L P B R G, .slice A n c, .int .u32 v, .int .u64 a] w (NutPost F L P B R G o w) := by
  have HM := Lib.hid hm
  clear hm
  unfold SndPost ncV at HI
  unfold ncV
  subst hv
  go_enter Try.func30, Try.ntmps30
  go_wp2_with (first | go_skip | fail)
  go_region_with (first
    | (go_at_call 43; refine (HI.out _ (HM.out.on (by (repeat' (first | with_reducible exact Below.refl _ _ | with_reducible assumption | with_reducible apply below_drewN | with_reducible apply Below.drew | with_reducible apply Below.setCell | with_reducible apply Below.alloc | (simp; done) | omega | (simp; omega)))))).mono ?_; rintro e w1 ⟨⟨sl1, rfl, ho1⟩, hb1⟩; have X : InN w1 w.heap.size F L P B R G := InN.on ⟨by simp [go_sem], by simp [go_sem], by simp [go_sem], by simp [go_sem], by simp [go_sem], by simp [go_sem], fun i => by simp [go_sem]⟩ hb1; have Y : InN w1 (w.heap.size + 1) 0 0 false 0 false 0 := InN.on ⟨by simp [go_sem], by simp [go_sem], by simp [go_sem], by simp [go_sem], by simp [go_sem], by simp [go_sem], fun i => by simp [go_sem]⟩ hb1; have b1 : Below w.heap.size w w1 := Below.trans (by (repeat' (first | with_reducible exact Below.refl _ _ | with_reducible assumption | with_reducible apply below_drewN | with_reducible apply Below.drew | with_reducible apply Below.setCell | with_reducible apply Below.alloc | (simp; done) | omega | (simp; omega)))) (hb1.mono (by simp <;> omega)); have ho2 : Outs (w.heap.size + 2) w1 sl1 o := Outs.mono ho1 (by simp <;> omega); clear hb1 ho1; have l1 := Y.lt; obtain ⟨c0, c1, c2, c3, c4, c5, cz⟩ := X; obtain ⟨y0, y1, y2, y3, y4, y5, yz⟩ := Y; have z0 := yz 0; have z1 := yz 1; have z2 := yz 2; have z3 := yz 3; have z4 := yz 4; have z5 := yz 5))
  all_goals (repeat' (first | (with_reducible refine then_normal ?_) | (with_reducible refine wp_exit ?_) | (with_reducible refine wp_ret ?_) | (with_reducible refine then_exit ?_) | (with_reducible refine blk_hit ?_) | (with_reducible refine blk_pass (by decide) ?_) | (with_reducible refine then_ret ?_) | (with_reducible refine blk_ret ?_) | (with_reducible refine blk_normal ?_) | go_values | go_skip | go_guarded | go_step | go_upon | (simp only [Int.not_lt, Int.not_le] at *; go_simp) | (go_values <;> (try go_simp)) | (go_ite <;> go_prune <;> (try go_simp))))
  all_goals refine bodyPost_ret (v := .tuple #[.agg #[.int .u32 (F), .int .u32 (L), .bool P, .int .u32 (B), .bool R, .int .u32 (G)], sl1]) (by rw [results_cell_tmp rfl]; go_simp) rfl ⟨⟨_, rfl, ?_⟩, by (repeat' (first | with_reducible exact Below.refl _ _ | with_reducible assumption | with_reducible apply below_drewN | with_reducible apply Below.drew | with_reducible apply Below.setCell | with_reducible apply Below.alloc | (simp; done) | omega | (simp; omega)))⟩
  all_goals refine Outs.mono (n1 := w.heap.size + 2) ?_ (by omega)
  repeat' (first | with_reducible exact ho2 | (with_reducible refine Outs.off ?_ _ ?_) | (with_reducible refine Outs.on ?_ ((Below.refl _ _).drew)) | (show w.heap.size + 1 < _; omega) | (show w.heap.size < _; omega))
set_option maxHeartbeats 1000000 in
theorem ncCtl_pst (F L : Int) (P : Bool) (B : Int) (R : Bool) (G : Int) (F' L' : Int) (P' : Bool) (B' : Int) (R' : Bool) (G' : Int) (A : Option Addr) (n c : Nat) (v a : Int) (w : World) (hn : n ≤ 1024) (hv : v = 2)
    (HI : Hid (∀ W, Calls Try.prog 44 #[ncV F L P B R G, .int .i64 (pagesN n)] W (PstPost F' L' P' B' R' G' W))) :
    Calls Try.prog 30 #[ncV F L P B R G, .slice A n c, .int .u32 v, .int .u64 a] w (NutPost F' L' P' B' R' G' none w) := by
  have HPS := Lib.hid (fun W => pages_any A n c W (by omega))
  unfold PstPost ncV at HI
  unfold ncV
  subst hv
  go_enter Try.func30, Try.ntmps30
  go_wp2_with (first | go_skip | fail)
  go_region_with (first
    | (go_at_call 45; refine (HPS.out _).mono ?_; rintro e w0 ⟨rfl, m0, rfl⟩)
    | (go_at_call 44; refine (HI.out _).mono ?_; rintro e w1 ⟨rfl, hb1⟩; have X : InN w1 w.heap.size F L P B R G := InN.on ⟨by simp [go_sem], by simp [go_sem], by simp [go_sem], by simp [go_sem], by simp [go_sem], by simp [go_sem], fun i => by simp [go_sem]⟩ hb1; have Y : InN w1 (w.heap.size + 1) 0 0 false 0 false 0 := InN.on ⟨by simp [go_sem], by simp [go_sem], by simp [go_sem], by simp [go_sem], by simp [go_sem], by simp [go_sem], fun i => by simp [go_sem]⟩ hb1; have b1 : Below w.heap.size w w1 := Below.trans (by (repeat' (first | with_reducible exact Below.refl _ _ | with_reducible assumption | with_reducible apply below_drewN | with_reducible apply Below.drew | with_reducible apply Below.setCell | with_reducible apply Below.alloc | (simp; done) | omega | (simp; omega)))) (hb1.mono (by simp <;> omega)); clear hb1; have l1 := Y.lt; obtain ⟨c0, c1, c2, c3, c4, c5, cz⟩ := X; obtain ⟨y0, y1, y2, y3, y4, y5, yz⟩ := Y; have z0 := yz 0; have z1 := yz 1; have z2 := yz 2; have z3 := yz 3; have z4 := yz 4; have z5 := yz 5))
  all_goals (repeat' (first | (with_reducible refine then_normal ?_) | (with_reducible refine wp_exit ?_) | (with_reducible refine wp_ret ?_) | (with_reducible refine then_exit ?_) | (with_reducible refine blk_hit ?_) | (with_reducible refine blk_pass (by decide) ?_) | (with_reducible refine then_ret ?_) | (with_reducible refine blk_ret ?_) | (with_reducible refine blk_normal ?_) | go_values | go_skip | go_guarded | go_step | go_upon | (simp only [Int.not_lt, Int.not_le] at *; go_simp) | (go_values <;> (try go_simp)) | (go_ite <;> go_prune <;> (try go_simp))))
  all_goals refine bodyPost_ret (v := .tuple #[.agg #[.int .u32 (F'), .int .u32 (L'), .bool P', .int .u32 (B'), .bool R', .int .u32 (G')], .slice none 0 0]) (by rw [results_cell_tmp rfl]; go_simp) rfl ⟨⟨_, rfl, rfl⟩, by (repeat' (first | with_reducible exact Below.refl _ _ | with_reducible assumption | with_reducible apply below_drewN | with_reducible apply Below.drew | with_reducible apply Below.setCell | with_reducible apply Below.alloc | (simp; done) | omega | (simp; omega)))⟩
theorem ncCtl_ack (F L : Int) (P : Bool) (B : Int) (R : Bool) (G : Int) (A : Option Addr) (n c : Nat) (v a : Int) (hv : v = 0) (w : World) :
    Calls Try.prog 30 #[ncV F L P B R G, .slice A n c, .int .u32 v, .int .u64 a] w (NutPost F L P B false 0 none w) := by
  unfold ncV
  subst hv
  go_enter Try.func30, Try.ntmps30
  go_wp2_with (first | go_skip | fail)
  all_goals refine bodyPost_ret (v := .tuple #[.agg #[.int .u32 (F), .int .u32 (L), .bool P, .int .u32 (B), .bool false, .int .u32 (0)], .slice none 0 0]) (by rw [results_cell_tmp rfl]; go_simp) rfl ⟨⟨_, rfl, rfl⟩, by (repeat' (first | with_reducible exact Below.refl _ _ | with_reducible assumption | with_reducible apply below_drewN | with_reducible apply Below.drew | with_reducible apply Below.setCell | with_reducible apply Below.alloc | (simp; done) | omega | (simp; omega)))⟩
theorem ncCtl_x (F L : Int) (P : Bool) (B : Int) (R : Bool) (G : Int) (A : Option Addr) (n c : Nat) (v a : Int) (h0 : ¬ v = 0) (h1 : ¬ v = 1) (h2 : ¬ v = 2) (w : World) :
    Calls Try.prog 30 #[ncV F L P B R G, .slice A n c, .int .u32 v, .int .u64 a] w (NutPost F L P B R G none w) := by
  unfold ncV
  have e0 : (v == 0) = false := by rw [beq_eq_false_iff_ne]; exact h0
  have e1 : (v == 1) = false := by rw [beq_eq_false_iff_ne]; exact h1
  have e2 : (v == 2) = false := by rw [beq_eq_false_iff_ne]; exact h2
  go_enter Try.func30, Try.ntmps30
  go_wp2_with (first | go_skip | fail)
  all_goals refine bodyPost_ret (v := .tuple #[.agg #[.int .u32 (F), .int .u32 (L), .bool P, .int .u32 (B), .bool R, .int .u32 (G)], .slice none 0 0]) (by rw [results_cell_tmp rfl]; go_simp) rfl ⟨⟨_, rfl, rfl⟩, by (repeat' (first | with_reducible exact Below.refl _ _ | with_reducible assumption | with_reducible apply below_drewN | with_reducible apply Below.drew | with_reducible apply Below.setCell | with_reducible apply Below.alloc | (simp; done) | omega | (simp; omega)))⟩
theorem nOut_frame (F L : Int) (P : Bool) (B : Int) (R : Bool) (G : Int) (A : Option Addr) (n c : Nat) (p v a : Int) (hp : p = 7) (w : World) :
    Calls Try.prog 11 #[ncV F L P B R G, .slice A n c, .int .i64 p, .int .u32 v, .int .u64 a] w (NutPost v L P B R G none w) := by
  unfold ncV
  subst hp
  go_enter Try.func11, Try.ntmps11
  go_wp2_with (first | go_skip | fail)
  all_goals refine bodyPost_ret (v := .tuple #[.agg #[.int .u32 (v), .int .u32 (L), .bool P, .int .u32 (B), .bool R, .int .u32 (G)], .slice none 0 0]) (by rw [results_cell_tmp rfl]; go_simp) rfl ⟨⟨_, rfl, rfl⟩, by (repeat' (first | with_reducible exact Below.refl _ _ | with_reducible assumption | with_reducible apply below_drewN | with_reducible apply Below.drew | with_reducible apply Below.setCell | with_reducible apply Below.alloc | (simp; done) | omega | (simp; omega)))⟩
theorem nOut_len (F L : Int) (P : Bool) (B : Int) (R : Bool) (G : Int) (A : Option Addr) (n c : Nat) (p v a : Int) (hp : p = 8) (w : World) :
    Calls Try.prog 11 #[ncV F L P B R G, .slice A n c, .int .i64 p, .int .u32 v, .int .u64 a] w (NutPost F v P B R G none w) := by
  unfold ncV
  subst hp
  go_enter Try.func11, Try.ntmps11
  go_wp2_with (first | go_skip | fail)
  all_goals refine bodyPost_ret (v := .tuple #[.agg #[.int .u32 (F), .int .u32 (v), .bool P, .int .u32 (B), .bool R, .int .u32 (G)], .slice none 0 0]) (by rw [results_cell_tmp rfl]; go_simp) rfl ⟨⟨_, rfl, rfl⟩, by (repeat' (first | with_reducible exact Below.refl _ _ | with_reducible assumption | with_reducible apply below_drewN | with_reducible apply Below.drew | with_reducible apply Below.setCell | with_reducible apply Below.alloc | (simp; done) | omega | (simp; omega)))⟩
theorem nOut_other (F L : Int) (P : Bool) (B : Int) (R : Bool) (G : Int) (A : Option Addr) (n c : Nat) (p v a : Int) (h4 : ¬ p = 7) (h5 : ¬ p = 8) (h6 : ¬ p = 9) (w : World) :
    Calls Try.prog 11 #[ncV F L P B R G, .slice A n c, .int .i64 p, .int .u32 v, .int .u64 a] w (NutPost F L P B R G none w) := by
  unfold ncV
  have e4 : (p == 7) = false := by rw [beq_eq_false_iff_ne]; omega
  have e5 : (p == 8) = false := by rw [beq_eq_false_iff_ne]; omega
  have e6 : (p == 9) = false := by rw [beq_eq_false_iff_ne]; omega
  go_enter Try.func11, Try.ntmps11
  go_wp2_with (first | go_skip | fail)
  all_goals refine bodyPost_ret (v := .tuple #[.agg #[.int .u32 (F), .int .u32 (L), .bool P, .int .u32 (B), .bool R, .int .u32 (G)], .slice none 0 0]) (by rw [results_cell_tmp rfl]; go_simp) rfl ⟨⟨_, rfl, rfl⟩, by (repeat' (first | with_reducible exact Below.refl _ _ | with_reducible assumption | with_reducible apply below_drewN | with_reducible apply Below.drew | with_reducible apply Below.setCell | with_reducible apply Below.alloc | (simp; done) | omega | (simp; omega)))⟩
set_option maxHeartbeats 1000000 in
theorem nOut_ctl (F L : Int) (P : Bool) (B : Int) (R : Bool) (G : Int) (F' L' : Int) (P' : Bool) (B' : Int) (R' : Bool) (G' : Int) (A : Option Addr) (n c : Nat) (l : List Int) (v a : Int) (o : Option (Int × Int × Int × ByteArray)) (w : World) (hm : Mem w A n c l)
    (HI : Hid (∀ W, Mem W A n c l → Calls Try.prog 30 #[ncV F L P B R G, .slice A n c, .int .u32 v, .int .u64 a] W (NutPost F' L' P' B' R' G' o W))) :
    Calls Try.prog 11 #[ncV F L P B R G, .slice A n c, .int .i64 9, .int .u32 v, .int .u64 a] w (NutPost F' L' P' B' R' G' o w) := by
  have HM := Lib.hid hm
  clear hm
  unfold NutPost ncV at HI
  unfold ncV
  go_enter Try.func11, Try.ntmps11
  go_wp2_with (first
    | go_skip
    | (go_at_call 30; refine (HI.out _ (HM.out.on (by (repeat' (first | with_reducible exact Below.refl _ _ | with_reducible assumption | with_reducible apply below_drewN | with_reducible apply Below.drew | with_reducible apply Below.setCell | with_reducible apply Below.alloc | (simp; done) | omega | (simp; omega)))))).mono ?_; rintro e w1 ⟨⟨sl1, rfl, ho1⟩, hb1⟩; have Y : InN w1 (w.heap.size + 1) 0 0 false 0 false 0 := InN.on ⟨by simp [go_sem], by simp [go_sem], by simp [go_sem], by simp [go_sem], by simp [go_sem], by simp [go_sem], fun i => by simp [go_sem]⟩ hb1; have b1 : Below w.heap.size w w1 := Below.trans (by (repeat' (first | with_reducible exact Below.refl _ _ | with_reducible assumption | with_reducible apply below_drewN | with_reducible apply Below.drew | with_reducible apply Below.setCell | with_reducible apply Below.alloc | (simp; done) | omega | (simp; omega)))) (hb1.mono (by simp <;> omega)); have ho2 : Outs (w.heap.size + 2) w1 sl1 o := Outs.mono ho1 (by simp <;> omega); clear hb1 ho1; have l1 := Y.lt; obtain ⟨y0, y1, y2, y3, y4, y5, yz⟩ := Y; have z0 := yz 0; have z1 := yz 1; have z2 := yz 2; have z3 := yz 3; have z4 := yz 4; have z5 := yz 5))
  refine bodyPost_ret (v := .tuple #[.agg #[.int .u32 (F'), .int .u32 (L'), .bool P', .int .u32 (B'), .bool R', .int .u32 (G')], sl1]) (by rw [results_cell_tmp rfl]; go_simp) rfl ⟨⟨_, rfl, ?_⟩, by (repeat' (first | with_reducible exact Below.refl _ _ | with_reducible assumption | with_reducible apply below_drewN | with_reducible apply Below.drew | with_reducible apply Below.setCell | with_reducible apply Below.alloc | (simp; done) | omega | (simp; omega)))⟩
  refine Outs.mono (n1 := w.heap.size + 2) ?_ (by omega)
  repeat' (first | with_reducible exact ho2 | (with_reducible refine Outs.off ?_ _ ?_) | (with_reducible refine Outs.on ?_ ((Below.refl _ _).drew)) | (show w.heap.size + 1 < _; omega) | (show w.heap.size < _; omega))
end Go.Proofs.Ytkilbakghacooaa
