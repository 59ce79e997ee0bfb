import Derived.Test.YtackgjmmeojpiaaBlOut
namespace Go.Proofs.Ytackgjmmeojpiaa
set_option linter.unusedVariables false
set_option linter.unusedSimpArgs false
set_option maxRecDepth 20000
open Go.ChangeShapes Go.WideShapes Go.ChangeAt Go.RowKit Go.Proofs.Ytackgjmmeojpiaa.Num Go.Proofs.Ytackgjmmeojpiaa.Mem
theorem InB.kp {w w' : World} {b q : Nat} {T : Int} {g : Nat} {p : Prop} (h : InB w b T g) (hk : Keep p q w w') (hn : ¬ b = q) : InB w' b T g := by
  have e : lk w' b = lk w b := hk.block b h.lt (fun x => hn x.2)
  exact ⟨by rw [cell_kp e]; exact h.c0, by rw [cell_kp e]; exact h.c1, fun i => by rw [frozen_kp e]; exact h.z i⟩
theorem results_oneB {fn : Func} {p : Tmp} {ty : TypeId} (h : fn.results = #[.cell p ty]) (tmps : Array Value) (P : Program) (w : World) :
    (results fn tmps).run P w = ((asAddr (tmps.getD p undef)).run P w).andThen fun a w₁ => (loadVar ty a).run P w₁ := by
  simp only [results, h]
  simp [Sem.run_bind, Result.andThen]
theorem zs8_join (k : Nat) (hk : k < 32) : join (zs8.data.toList.getD (4 * k) 0) (zs8.data.toList.getD (4 * k + 1) 0) (zs8.data.toList.getD (4 * k + 2) 0) (zs8.data.toList.getD (4 * k + 3) 0) = 0 := by
  have h : ∀ i, zs8.data.toList.getD i 0 = 0 := fun i => by
    rw [zs8_list, List.getD_eq_getElem?_getD, List.getElem?_replicate]
    split <;> rfl
  rw [h, h, h, h]; rfl
def GRef (n : Nat) (l : List Int) (T : Int) (g : Nat) (v q : Nat) (w : World) (e : Ending) (w' : World) : Prop :=
  e = .returned (blV T (giveB g v)) ∧ (∃ l', Own w' q l' ∧ Filled zs8.data.toList v 128 l l') ∧ Keep True q w w'
set_option maxRecDepth 100000 in
set_option maxHeartbeats 1000000 in
theorem gref_yes (T : Int) (g v q n c : Nat) (l : List Int) (w : World) (ho : Own w q l) (hl : l.length = n) (hn : n ≤ 1024) (hu : U32 l) (hg : g < 4294967296) (hv : v < pagesN n) (hb : g.testBit v = false) :
    Calls Try.prog 29 #[blV T g, .slice (some ⟨q, 0, none⟩) n c, .int .i64 10, .int .u32 (v : Int)] w (GRef n l T g v q w) := by
  have hp := pagesN_le n
  have hv32 : v < 32 := by omega
  have HP := Lib.hid (fun W => dkPage_ref (some ⟨q, 0, none⟩) n c (v : Int) W hn (by omega) (by omega))
  rw [decide_eq_true (show (v : Int) < pagesN n by omega)] at HP
  have hbit := bit_of g v hg
  rw [hb] at hbit
  replace hbit : bits .and .u32 ((g : Int) / 2 ^ v) 1 = 0 := hbit
  have hor : bits .or .u32 (g : Int) (bitN v : Int) = (giveB g v : Int) := u32_or_nat _ _ hg (bitN_lt v)
  have hsh := bitN_is v
  rw [show min v 32 = v by omega] at hsh
  unfold GRef
  have HO := Lib.hid ho
  have HL := Lib.hid hl
  have hq := ho.lt
  clear ho hl hb
  generalize giveB g v = G at *
  generalize bitN v = B at *
  unfold blV
  go_enter Try.func29, Try.ntmps29
  go_wp2_with (first | go_skip | (go_at_call 36; (with_reducible refine (HP.out _).mono ?_); rintro e w1 ⟨rfl, m1, rfl⟩))
  have hQ : ¬ w.heap.size = q := by omega
  have hQ1 : ¬ w.heap.size + 1 = q := by omega
  obtain ⟨W, HW⟩ : ∃ W, Hid (((((w.alloc (.cells #[.int .u32 T, .int .u32 (g : Int)] 24)).alloc (.cells #[.int .u32 0, .int .u32 0] 24)).drewN m1).setCell ⟨w.heap.size, 1, none⟩ (.int .u32 (G : Int))) = W) := ⟨_, rfl⟩
  have X : InB W w.heap.size T G := by rw [← HW.out]; exact ⟨by simp [go_sem], by simp [go_sem], fun i => by simp [go_sem]⟩
  have Y : InB W (w.heap.size + 1) 0 0 := by rw [← HW.out]; exact ⟨by simp [go_sem], by simp [go_sem], fun i => by simp [go_sem]⟩
  have BW : Hid (Below w.heap.size w W) := by rw [← HW.out]; exact Lib.hid (by (repeat' (first | with_reducible exact Below.refl _ _ | with_reducible assumption | with_reducible apply below_drewN | with_reducible apply Below.drew | with_reducible apply Below.setCell | with_reducible apply Below.alloc | (simp; done) | omega | (simp; omega))))
  have hO := HO.out.on BW.out
  rw [HW.out]
  obtain ⟨b, HE⟩ : ∃ b, Hid (w.heap.size = b) := ⟨_, rfl⟩
  rw [HE.out] at X Y hQ hQ1 ⊢
  have HX := Lib.hid X
  have HY := Lib.hid Y
  have HO1 := Lib.hid hO
  clear HW X Y hO hor hsh hbit
  go_loopw [9] (fun i wr => ∃ (k : Nat) (l' : List Int), k ≤ 32 ∧ i = .int .i64 k ∧ Hid (Filled zs8.data.toList v (4 * k) l l') ∧ Own wr q l' ∧ Keep True q W wr) (fun i _ => 32 - (intOf i).toNat)
  case atStart => exact ⟨0, l, by omega, rfl, Filled.start _ _ hu, HO1.out, Keep.refl _ _ _⟩
  case round =>
    obtain ⟨k, l', hk, rfl, hF, ho, hb⟩ := hrel
    by_cases hlt : k < 32
    · have hcell := ho.cell (i := 32 * v + k) (by rw [hF.out.1, HL.out]; omega)
      have hfree := ho.free (32 * v + k)
      rw [Nat.mul_comm 32 v] at hcell hfree
      have i0 : v * 32 + k < n := by omega
      have i1 : (v : Int) * 32 + k < n := by omega
      have i2 : 0 ≤ (v : Int) * 32 + k := by omega
      have HO2 := Lib.hid ho
      have HB2 := Lib.hid hb
      clear ho hb
      have hFN := hF.out.four hlt (by rw [HL.out]; omega)
      rw [zs8_join k hlt] at hFN
      have HFN := Lib.hid hFN
      clear hFN
      go_wp2
      go_roundw
      case rel => exact ⟨k + 1, _, by omega, by go_num, HFN, (by have := HO2.out.set (i := 32 * v + k) (by rw [hF.out.1, HL.out]; omega) 0; rw [Nat.mul_comm 32 v] at this ⊢; exact this), HB2.out.setCell trivial _ _⟩
      case measure => simp [intOf]; omega
    · obtain rfl : k = 32 := by omega
      obtain ⟨c0, c1, cz⟩ := HX.out.kp hb hQ
      obtain ⟨d0, d1, dz⟩ := HY.out.kp hb hQ1
      go_wp2
      refine bodyPost_ret (v := .agg #[.int .u32 T, .int .u32 (G : Int)]) (by rw [results_oneB rfl]; go_simp) rfl ⟨rfl, ⟨l', ?_, hF.out⟩, ?_⟩
      · exact (ho.far _ _ hQ1).far _ _ hQ1
      · have K1 := (Keep.of BW.out : Keep True q w W).trans hb
        exact (K1.high _ _ (by rw [HE.out]; omega)).high _ _ (by rw [HE.out]; omega)
theorem gref_nopage (T : Int) (g v n c : Nat) (p : Int) (A : Option Addr) (w : World) (hn : n ≤ 1024) (hg : g < 4294967296) (hv4 : v ≤ 4294967295) (hv : ¬ (v < pagesN n ∧ g.testBit v = false)) :
    Calls Try.prog 29 #[blV T g, .slice A n c, .int .i64 10, .int .u32 (v : Int)] w fun e w' => e = .returned (blV T g) ∧ Below w.heap.size w w' := by
  have hp := pagesN_le n
  have HP := Lib.hid (fun W => dkPage_ref A n c (v : Int) W hn (by omega) (by omega))
  unfold blV
  by_cases h : v < pagesN n
  · have hv32 : v < 32 := by omega
    have hb : g.testBit v = true := by
      cases hb : g.testBit v
      · exact absurd ⟨h, hb⟩ hv
      · rfl
    rw [decide_eq_true (show (v : Int) < pagesN n by omega)] at HP
    have hbit := bit_of g v hg
    rw [hb] at hbit
    replace hbit : bits .and .u32 ((g : Int) / 2 ^ v) 1 = 1 := hbit
    clear hb hv
    go_enter Try.func29, Try.ntmps29
    go_wp2_with (first | go_skip | (go_at_call 36; (with_reducible refine (HP.out _).mono ?_); rintro e w1 ⟨rfl, m1, rfl⟩))
    refine bodyPost_ret (v := .agg #[.int .u32 T, .int .u32 (g : Int)]) (by rw [results_oneB rfl]; go_simp) rfl ⟨rfl, by (repeat' (first | with_reducible exact Below.refl _ _ | with_reducible assumption | with_reducible apply below_drewN | with_reducible apply Below.drew | with_reducible apply Below.setCell | with_reducible apply Below.alloc | (simp; done) | omega | (simp; omega)))⟩
  · rw [decide_eq_false (show ¬ (v : Int) < pagesN n by omega)] at HP
    clear hv
    go_enter Try.func29, Try.ntmps29
    go_wp2_with (first | go_skip | (go_at_call 36; (with_reducible refine (HP.out _).mono ?_); rintro e w1 ⟨rfl, m1, rfl⟩))
    refine bodyPost_ret (v := .agg #[.int .u32 T, .int .u32 (g : Int)]) (by rw [results_oneB rfl]; go_simp) rfl ⟨rfl, by (repeat' (first | with_reducible exact Below.refl _ _ | with_reducible assumption | with_reducible apply below_drewN | with_reducible apply Below.drew | with_reducible apply Below.setCell | with_reducible apply Below.alloc | (simp; done) | omega | (simp; omega)))⟩
theorem gref_take (T : Int) (g v n c : Nat) (A : Option Addr) (w : World) (hg : g < 4294967296) (hv4 : v ≤ 4294967295) :
    Calls Try.prog 29 #[blV T g, .slice A n c, .int .i64 11, .int .u32 (v : Int)] w fun e w' => e = .returned (blV T (takeB g v)) ∧ Below w.heap.size w w' := by
  unfold blV
  by_cases h : v < 32
  · have hnot : bits .andNot .u32 (g : Int) (bitN v : Int) = (takeB g v : Int) := u32_andNot_nat _ _ hg (bitN_lt v)
    have hsh := bitN_is v
    rw [show min v 32 = v by omega] at hsh
    generalize takeB g v = G at *
    generalize bitN v = B at *
    go_enter Try.func29, Try.ntmps29
    go_wp2_with (first | go_skip | fail)
    refine bodyPost_ret (v := .agg #[.int .u32 T, .int .u32 (G : Int)]) (by rw [results_oneB rfl]; go_simp) rfl ⟨rfl, by (repeat' (first | with_reducible exact Below.refl _ _ | with_reducible assumption | with_reducible apply below_drewN | with_reducible apply Below.drew | with_reducible apply Below.setCell | with_reducible apply Below.alloc | (simp; done) | omega | (simp; omega)))⟩
  · rw [takeB_far g v h hg]
    go_enter Try.func29, Try.ntmps29
    go_wp2_with (first | go_skip | fail)
    refine bodyPost_ret (v := .agg #[.int .u32 T, .int .u32 (g : Int)]) (by rw [results_oneB rfl]; go_simp) rfl ⟨rfl, by (repeat' (first | with_reducible exact Below.refl _ _ | with_reducible assumption | with_reducible apply below_drewN | with_reducible apply Below.drew | with_reducible apply Below.setCell | with_reducible apply Below.alloc | (simp; done) | omega | (simp; omega)))⟩
theorem gref_x (T : Int) (g v n c : Nat) (p : Int) (A : Option Addr) (w : World) (h10 : ¬ p = 10) (h11 : ¬ p = 11) :
    Calls Try.prog 29 #[blV T g, .slice A n c, .int .i64 p, .int .u32 (v : Int)] w fun e w' => e = .returned (blV T g) ∧ Below w.heap.size w w' := by
  have e0 : (p == 10) = false := by rw [beq_eq_false_iff_ne]; exact h10
  have e1 : (p == 11) = false := by rw [beq_eq_false_iff_ne]; exact h11
  unfold blV
  go_enter Try.func29, Try.ntmps29
  go_wp2_with (first | go_skip | fail)
  refine bodyPost_ret (v := .agg #[.int .u32 T, .int .u32 (g : Int)]) (by rw [results_oneB rfl]; go_simp) rfl ⟨rfl, by (repeat' (first | with_reducible exact Below.refl _ _ | with_reducible assumption | with_reducible apply below_drewN | with_reducible apply Below.drew | with_reducible apply Below.setCell | with_reducible apply Below.alloc | (simp; done) | omega | (simp; omega)))⟩
theorem bref_yes (T : Int) (g v : Nat) (A : Option Addr) (n c : Nat) (l : List Int) (w : World) (hm : Mem w A n c l) (hg : g < 4294967296) (hv : v < pagesN n) (hb : g.testBit v = false) :
    Calls Try.prog 9 #[blV T g, .slice A n c, .int .i64 10, .int .u32 (v : Int)] w (BOut n l T g 10 v w) := by
  have hn := hm.2.2.1
  have hp := pagesN_le n
  have hn0 : 0 < n := by omega
  have hC : outC n g 10 v := ⟨rfl, hv, hb⟩
  have HOG : outG n g 10 v = giveB g v := by unfold outG; rw [if_pos rfl, if_pos ⟨hv, hb⟩]
  have HCP := Lib.hid (fun W (hM : Mem W A n c l) => copy_any A n c l W hM)
  unfold ClonePost at HCP
  have HG := Lib.hid (fun q c2 W (ho : Own W q l) => gref_yes T g v q n c2 l W ho hm.1 hn hm.2.2.2.1 hg hv hb)
  unfold GRef at HG
  unfold BOut
  rw [HOG]
  have HM := Lib.hid hm
  have HC := Lib.hid hC
  clear hm hC HOG hb
  generalize giveB g v = G at *
  unfold blV at *
  go_enter Try.func9, Try.ntmps9
  go_wp2_with (first
    | go_skip
    | (go_at_call 28; (with_reducible refine (HCP.out _ (HM.out.on (by (repeat' (first | with_reducible exact Below.refl _ _ | with_reducible assumption | with_reducible apply below_drewN | with_reducible apply Below.drew | with_reducible apply Below.setCell | with_reducible apply Below.alloc | (simp; done) | omega | (simp; omega)))))).mono ?_); rintro e w1 ⟨⟨A2, c2, rfl, hm2, ho2⟩, hb2⟩; obtain ⟨q, rfl, hq, hO⟩ := ho2 hn0; have i1 : InB w1 w.heap.size T g := InB.on ⟨by simp [go_sem], by simp [go_sem], fun i => by simp [go_sem]⟩ hb2; have j1 : InB w1 (w.heap.size + 1) 0 0 := InB.on ⟨by simp [go_sem], by simp [go_sem], fun i => by simp [go_sem]⟩ hb2; have b2 : Below w.heap.size w w1 := Below.trans (by (repeat' (first | with_reducible exact Below.refl _ _ | with_reducible assumption | with_reducible apply below_drewN | with_reducible apply Below.drew | with_reducible apply Below.setCell | with_reducible apply Below.alloc | (simp; done) | omega | (simp; omega)))) (hb2.mono (by simp <;> omega)); have M2 := Lib.hid hm2; have O2 := Lib.hid hO; have J1 := Lib.hid j1; have Q2 : w.heap.size + 2 ≤ q := (by simpa using hq); obtain ⟨c0, c1, cz⟩ := i1; clear ho2 hm2 hb2 hO j1 hq)
    | (go_at_call 29; (with_reducible refine (HG.out _ _ _ O2.out).mono ?_); rintro e w3 ⟨rfl, ⟨l3, ho3, hF3⟩, hk3⟩; have j3 := J1.out.kp hk3 (by omega); have O3 := Lib.hid ho3; have F3 := Lib.hid hF3; have K3 := Lib.hid hk3; have lq := ho3.lt; have l1 := j3.lt; obtain ⟨d0, d1, dz⟩ := j3; clear ho3 hF3 hk3))
  have BK := K3.out.below (B := w.heap.size) b2.size (fun _ => by omega)
  have hO := (((O3.out.far (b := w.heap.size + 1) 0 (.int .u32 T) (by omega)).far (b := w.heap.size + 1) 1 (.int .u32 (G : Int)) (by omega)).on ((Below.refl _ _).alloc (Nat.le_refl _) (.cells #[.int .u32 T, .int .u32 (G : Int)] 24)))
  refine bodyPost_ret (v := .tuple #[.agg #[.int .u32 T, .int .u32 (G : Int)], .slice (some ⟨q, 0, none⟩) n c2]) (by rw [results_cell_tmp rfl]; go_simp) rfl ?_
  have b3 : Below w.heap.size w w3 := Below.trans b2 BK
  exact ⟨⟨_, c2, l3, rfl, hO.mem (by rw [F3.out.1]; exact M2.out.1) M2.out.2.1 hn F3.out.2.1, fun _ => ⟨q, rfl, by omega, hO⟩, fun _ => F3.out, fun h => absurd HC.out h⟩, by (repeat' (first | with_reducible exact Below.refl _ _ | with_reducible assumption | with_reducible apply below_drewN | with_reducible apply Below.drew | with_reducible apply Below.setCell | with_reducible apply Below.alloc | (simp; done) | omega | (simp; omega)))⟩
theorem bref_no (T : Int) (g v G : Nat) (p : Int) (A : Option Addr) (n c : Nat) (l : List Int) (w : World) (hm : Mem w A n c l) (hC : ¬ outC n g p v) (HOG : outG n g p v = G)
    (HG : Hid (∀ A c2 W, Calls Try.prog 29 #[blV T g, .slice A n c2, .int .i64 p, .int .u32 (v : Int)] W fun e w' => e = .returned (blV T G) ∧ Below W.heap.size W w')) :
    Calls Try.prog 9 #[blV T g, .slice A n c, .int .i64 p, .int .u32 (v : Int)] w (BOut n l T g p v w) := by
  have hn := hm.2.2.1
  have HCP := Lib.hid (fun W (hM : Mem W A n c l) => copy_any A n c l W hM)
  unfold ClonePost at HCP
  unfold BOut
  rw [HOG]
  have HM := Lib.hid hm
  have HC := Lib.hid hC
  clear hm hC HOG
  unfold blV at *
  go_enter Try.func9, Try.ntmps9
  go_wp2_with (first
    | go_skip
    | (go_at_call 28; (with_reducible refine (HCP.out _ (HM.out.on (by (repeat' (first | with_reducible exact Below.refl _ _ | with_reducible assumption | with_reducible apply below_drewN | with_reducible apply Below.drew | with_reducible apply Below.setCell | with_reducible apply Below.alloc | (simp; done) | omega | (simp; omega)))))).mono ?_); rintro e w1 ⟨⟨A2, c2, rfl, hm2, ho2⟩, hb2⟩; have i1 : InB w1 w.heap.size T g := InB.on ⟨by simp [go_sem], by simp [go_sem], fun i => by simp [go_sem]⟩ hb2; have j1 : InB w1 (w.heap.size + 1) 0 0 := InB.on ⟨by simp [go_sem], by simp [go_sem], fun i => by simp [go_sem]⟩ hb2; have b2 : Below w.heap.size w w1 := Below.trans (by (repeat' (first | with_reducible exact Below.refl _ _ | with_reducible assumption | with_reducible apply below_drewN | with_reducible apply Below.drew | with_reducible apply Below.setCell | with_reducible apply Below.alloc | (simp; done) | omega | (simp; omega)))) (hb2.mono (by simp <;> omega)); have M2 := Lib.hid hm2; have O2 : Hid (0 < n → ∃ g, A2 = some ⟨g, 0, none⟩ ∧ w.heap.size + 2 ≤ g ∧ Own w1 g l) := Lib.hid (fun h => (ho2 h).elim fun q h2 => ⟨q, h2.1, by simpa using h2.2.1, h2.2.2⟩); have J1 := Lib.hid j1; obtain ⟨c0, c1, cz⟩ := i1; clear ho2 hm2 hb2 j1)
    | (go_at_call 29; (with_reducible refine (HG.out _ _ _).mono ?_); rintro e w3 ⟨rfl, hb3⟩; have j3 := J1.out.on hb3; have M3 := Lib.hid (M2.out.on hb3); have O3 : Hid (0 < n → ∃ g, A2 = some ⟨g, 0, none⟩ ∧ w.heap.size + 2 ≤ g ∧ Own w3 g l) := Lib.hid (fun h => (O2.out h).elim fun q h2 => ⟨q, h2.1, h2.2.1, h2.2.2.on hb3⟩); have b3 := below_stepI b2 hb3 (Nat.le_refl _); have l1 := j3.lt; obtain ⟨d0, d1, dz⟩ := j3; clear hb3))
  refine bodyPost_ret (v := .tuple #[.agg #[.int .u32 T, .int .u32 (G : Int)], .slice A2 n c2]) (by rw [results_cell_tmp rfl]; go_simp) rfl ?_
  refine ⟨⟨A2, c2, l, rfl, bfin M3.out O3.out (by omega) HC.out (fun q hq h => ?_)⟩, by (repeat' (first | with_reducible exact Below.refl _ _ | with_reducible assumption | with_reducible apply below_drewN | with_reducible apply Below.drew | with_reducible apply Below.setCell | with_reducible apply Below.alloc | (simp; done) | omega | (simp; omega)))⟩
  exact ((h.far _ _ (by omega)).far _ _ (by omega)).on ((Below.refl _ _).alloc (Nat.le_refl _) _)
theorem bref_any (T : Int) (g v : Nat) (p : Int) (A : Option Addr) (n c : Nat) (l : List Int) (w : World) (hm : Mem w A n c l) (hg : g < 4294967296) (hv4 : v ≤ 4294967295) :
    Calls Try.prog 9 #[blV T g, .slice A n c, .int .i64 p, .int .u32 (v : Int)] w (BOut n l T g p v w) := by
  have hn := hm.2.2.1
  by_cases h10 : p = 10
  · subst h10
    by_cases h : v < pagesN n ∧ g.testBit v = false
    · exact bref_yes T g v A n c l w hm hg h.1 h.2
    · exact bref_no T g v g 10 A n c l w hm (fun hh => h hh.2) (by unfold outG; rw [if_pos rfl, if_neg h]) (Lib.hid fun A2 c2 W => gref_nopage T g v n c2 10 A2 W hn hg hv4 h)
  · by_cases h11 : p = 11
    · subst h11
      exact bref_no T g v (takeB g v) 11 A n c l w hm (fun hh => h10 hh.1) (by unfold outG; rw [if_neg (by omega), if_pos rfl]) (Lib.hid fun A2 c2 W => gref_take T g v n c2 A2 W hg hv4)
    · exact bref_no T g v g p A n c l w hm (fun hh => h10 hh.1) (by unfold outG; rw [if_neg h10, if_neg h11]) (Lib.hid fun A2 c2 W => gref_x T g v n c2 p A2 W h10 h11)
end Go.Proofs.Ytackgjmmeojpiaa
