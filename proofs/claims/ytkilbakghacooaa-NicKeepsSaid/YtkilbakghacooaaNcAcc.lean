import Derived.Test.YtkilbakghacooaaNcPr2
namespace Go.Proofs.Ytkilbakghacooaa
set_option linter.unusedVariables false
set_option linter.unusedSimpArgs false
set_option maxRecDepth 20000
open Go.ChangeShapes Go.WideShapes Go.ChangeAt Go.RowKit Go.Proofs.Ytkilbakghacooaa.Num Go.Proofs.Ytkilbakghacooaa.Mem
theorem InN.kp {p : Prop} {g : Nat} {w w' : World} {b : Nat} {F L : Int} {P : Bool} {B : Int} {R : Bool} {G : Int} (h : InN w b F L P B R G) (hk : Keep p g w w') (hg : ¬ b = g) : InN w' b F L P B R G := by
  have e := hk.block b h.lt (fun x => hg x.2)
  exact ⟨(cell_kp e 0).trans h.c0, (cell_kp e 1).trans h.c1, (cell_kp e 2).trans h.c2, (cell_kp e 3).trans h.c3, (cell_kp e 4).trans h.c4, (cell_kp e 5).trans h.c5, fun i => (frozen_kp e i).trans (h.z i)⟩
theorem acc_no (F L : Int) (P : Bool) (B : Int) (R : Bool) (G : Int) (A : Option Addr) (n c : Nat) (D : ByteArray) (w : World) (hn : n ≤ 1024) (b0 : 0 ≤ B) (b1 : B ≤ 4294967295) (hs : D.size ≤ 1000) (ho : ¬ (P = true ∧ 1 ≤ D.size ∧ D.size ≤ 128 ∧ B < pagesN n)) :
    Calls Try.prog 39 #[ncV F L P B R G, .slice A n c, .string D] w fun e w' => e = .returned (.tuple #[ncV F L P B R G, .bool false]) ∧ Below w.heap.size w w' := by
  have HPG := Lib.hid (fun W => dkPage_ref A n c B W hn b0 b1)
  have HNO := Lib.hid ho
  clear ho
  unfold ncV
  cases P with
  | false =>
    clear HPG HNO
    go_enter Try.func39, Try.ntmps39
    go_wp2_with (first | go_skip | fail)
    refine bodyPost_ret (v := .tuple #[.agg #[.int .u32 (F), .int .u32 (L), .bool false, .int .u32 (B), .bool R, .int .u32 (G)], .bool false]) (by rw [results_cell_tmp rfl]; go_simp) rfl ⟨rfl, by (repeat' (first | with_reducible exact Below.refl _ _ | with_reducible assumption | with_reducible apply below_drewN | with_reducible apply Below.drew | with_reducible apply Below.setCell | with_reducible apply Below.alloc | (simp; done) | omega | (simp; omega)))⟩
  | true =>
    by_cases h1 : 1 ≤ D.size
    · by_cases h2 : D.size ≤ 128
      · have hF : ¬ B < pagesN n := fun h => HNO.out ⟨rfl, h1, h2, h⟩
        rw [decide_eq_false hF] at HPG
        have d1 : decide ((D.size : Int) < 1) = false := by simp; omega
        have d2 : decide (128 < (D.size : Int)) = false := by simp; omega
        clear HNO
        go_enter Try.func39, Try.ntmps39
        go_wp2_with (first | go_skip | (go_at_call 31; (with_reducible refine (HPG.out _).mono ?_); rintro e w1 ⟨rfl, m1, rfl⟩))
        refine bodyPost_ret (v := .tuple #[.agg #[.int .u32 (F), .int .u32 (L), .bool true, .int .u32 (B), .bool R, .int .u32 (G)], .bool false]) (by rw [results_cell_tmp rfl]; go_simp) rfl ⟨rfl, by (repeat' (first | with_reducible exact Below.refl _ _ | with_reducible assumption | with_reducible apply below_drewN | with_reducible apply Below.drew | with_reducible apply Below.setCell | with_reducible apply Below.alloc | (simp; done) | omega | (simp; omega)))⟩
      · have d1 : decide ((D.size : Int) < 1) = false := by simp; omega
        have d2 : decide (128 < (D.size : Int)) = true := by simp; omega
        clear HNO HPG
        go_enter Try.func39, Try.ntmps39
        go_wp2_with (first | go_skip | fail)
        refine bodyPost_ret (v := .tuple #[.agg #[.int .u32 (F), .int .u32 (L), .bool true, .int .u32 (B), .bool R, .int .u32 (G)], .bool false]) (by rw [results_cell_tmp rfl]; go_simp) rfl ⟨rfl, by (repeat' (first | with_reducible exact Below.refl _ _ | with_reducible assumption | with_reducible apply below_drewN | with_reducible apply Below.drew | with_reducible apply Below.setCell | with_reducible apply Below.alloc | (simp; done) | omega | (simp; omega)))⟩
    · have d1 : decide ((D.size : Int) < 1) = true := by simp; omega
      clear HNO HPG
      go_enter Try.func39, Try.ntmps39
      go_wp2_with (first | go_skip | fail)
      refine bodyPost_ret (v := .tuple #[.agg #[.int .u32 (F), .int .u32 (L), .bool true, .int .u32 (B), .bool R, .int .u32 (G)], .bool false]) (by rw [results_cell_tmp rfl]; go_simp) rfl ⟨rfl, by (repeat' (first | with_reducible exact Below.refl _ _ | with_reducible assumption | with_reducible apply below_drewN | with_reducible apply Below.drew | with_reducible apply Below.setCell | with_reducible apply Below.alloc | (simp; done) | omega | (simp; omega)))⟩
set_option maxHeartbeats 2000000 in
theorem acc_yes (F L : Int) (f : Nat) (R : Bool) (G : Int) (g n c : Nat) (l : List Int) (D : ByteArray) (w : World) (ho : Own w g l) (hl : l.length = n) (hn : n ≤ 1024) (hu : U32 l) (hf : f < pagesN n) (s1 : 1 ≤ D.size) (s2 : D.size ≤ 128) :
    Calls Try.prog 39 #[ncV F L true f R G, .slice (some ⟨g, 0, none⟩) n c, .string D] w fun e w' => e = .returned (.tuple #[ncV F L false 0 true D.size, .bool true]) ∧ (∃ l', Own w' g l' ∧ Filled D.data.toList f D.size l l') ∧ Keep (0 < n) g w w' := by
  have hp := pagesN_le n
  have HPG := Lib.hid (fun W => dkPage_ref (some ⟨g, 0, none⟩) n c f W hn (by omega) (by omega))
  rw [decide_eq_true (show (f : Int) < pagesN n by omega)] at HPG
  have f0 : (0 : Int) ≤ f := by omega
  have f1 : (f : Int) ≤ 31 := by omega
  have HFL := Lib.hid (fun W (hW : Own W g l) => fill_up g n c f l D W hW hl hn hu hf s2)
  have hgw : g < w.heap.size := ho.lt
  have HO := Lib.hid ho
  have d1 : decide ((D.size : Int) < 1) = false := by simp; omega
  have d2 : decide (128 < (D.size : Int)) = false := by simp; omega
  have t1 : 1 ≤ (D.size : Int) := by omega
  have t2 : (D.size : Int) ≤ 128 := by omega
  clear ho hl hu hf hp
  unfold ncV
  go_enter Try.func39, Try.ntmps39
  go_wp2_with (first
    | go_skip
    | (go_at_call 31; (with_reducible refine (HPG.out _).mono ?_); rintro e w1 ⟨rfl, m1, rfl⟩)
    | (go_at_call 50; (with_reducible refine (HFL.out _ (HO.out.on (by (repeat' (first | with_reducible exact Below.refl _ _ | with_reducible assumption | with_reducible apply below_drewN | with_reducible apply Below.drew | with_reducible apply Below.setCell | with_reducible apply Below.alloc | (simp; done) | omega | (simp; omega)))))).mono ?_); rintro e w2 ⟨rfl, ⟨l', ho2, hF2⟩, hb2⟩; have X : InN w2 w.heap.size F L true f R G := InN.kp ⟨by simp [go_sem], by simp [go_sem], by simp [go_sem], by simp [go_sem], by simp [go_sem], by simp [go_sem], fun i => by simp [go_sem]⟩ hb2 (by omega); have Y : InN w2 (w.heap.size + 1) 0 0 false 0 false 0 := InN.kp ⟨by simp [go_sem], by simp [go_sem], by simp [go_sem], by simp [go_sem], by simp [go_sem], by simp [go_sem], fun i => by simp [go_sem]⟩ hb2 (by omega); have k2 : Keep (0 < n) g w w2 := Keep.trans (Keep.of (by (repeat' (first | with_reducible exact Below.refl _ _ | with_reducible assumption | with_reducible apply below_drewN | with_reducible apply Below.drew | with_reducible apply Below.setCell | with_reducible apply Below.alloc | (simp; done) | omega | (simp; omega))))) hb2; clear hb2; have l2 := Y.lt; obtain ⟨p0, p1, p2, p3, p4, p5, pz⟩ := X; have q0 := pz 0; have q1 := pz 1; have q2 := pz 2; have q3 := pz 3; have q4 := pz 4; have q5 := pz 5; obtain ⟨y0, y1, y2, y3, y4, y5, yz⟩ := Y; have z0 := yz 0; have z1 := yz 1; have z2 := yz 2; have z3 := yz 3; have z4 := yz 4; have z5 := yz 5; have HO2 := Lib.hid ho2; have HF2 := Lib.hid hF2; have HK2 := Lib.hid k2; clear ho2 hF2 k2; refine Hid.out ?_))
  refine Lib.hid ?_
  (repeat' (first | (with_reducible refine then_normal ?_) | (with_reducible refine wp_exit ?_) | (with_reducible refine wp_ret ?_) | (with_reducible refine then_exit ?_) | (with_reducible refine blk_hit ?_) | (with_reducible refine blk_pass (by decide) ?_) | (with_reducible refine then_ret ?_) | (with_reducible refine blk_ret ?_) | (with_reducible refine blk_normal ?_) | go_values | go_skip | go_guarded | go_step | go_upon | (simp only [Int.not_lt, Int.not_le] at *; go_simp) | (go_values <;> (try go_simp)) | (go_ite <;> go_prune <;> (try go_simp))))
  refine bodyPost_ret (v := .tuple #[.agg #[.int .u32 (F), .int .u32 (L), .bool false, .int .u32 (0), .bool true, .int .u32 ((D.size : Int))], .bool true]) (by rw [results_cell_tmp rfl]; go_simp) rfl ⟨rfl, ⟨l', ?_, HF2.out⟩, ?_⟩
  · repeat' (first | with_reducible exact HO2.out | (with_reducible refine Own.far ?_ _ _ ?_) | omega)
  · repeat' (first | with_reducible exact HK2.out | (with_reducible refine Keep.high ?_ _ _ ?_) | omega)
/-- What receiving gives: the card, a memory, whether the frame was taken. -/
def RecPost (n : Nat) (l : List Int) (F L : Int) (P : Bool) (B : Int) (R : Bool) (G : Int) (ok : Bool) (rd : Prop) (D : ByteArray) (f : Nat) (w : World) (e : Ending) (w' : World) : Prop :=
  (∃ A c l', e = .returned (.tuple #[ncV F L P B R G, .slice A n c, .bool ok]) ∧ Mem w' A n c l' ∧ (0 < n → ∃ g, A = some ⟨g, 0, none⟩ ∧ w.heap.size ≤ g ∧ Own w' g l') ∧ (rd → Filled D.data.toList f D.size l l') ∧ (¬ rd → l' = l)) ∧ Below w.heap.size w w'
set_option maxHeartbeats 2000000 in
theorem recR_no (F L : Int) (P : Bool) (B : Int) (R : Bool) (G : Int) (A : Option Addr) (n c : Nat) (l : List Int) (D : ByteArray) (f : Nat) (w : World) (hm : Mem w A n c l) (h0 : 0 < n) (b0 : 0 ≤ B) (b1 : B ≤ 4294967295) (hs : D.size ≤ 1000) (ho : ¬ (P = true ∧ 1 ≤ D.size ∧ D.size ≤ 128 ∧ B < pagesN n)) :
    Calls Try.prog 20 #[ncV F L P B R G, .slice A n c, .string D] w (RecPost n l F L P B R G false False D f w) := by
  have HFI := Lib.hid (fun A c W => acc_no F L P B R G A n c D W hm.2.2.1 b0 b1 hs ho)
  have hn := hm.2.2.1
  have hL := Lib.hid hm.1
  have HU := Lib.hid hm.2.2.2.1
  have HC := Lib.hid (fun W (hW : Mem W A n c l) => copy_any A n c l W hW)
  have HM := Lib.hid hm
  clear hm ho b0 b1 hs
  unfold ncV at HFI
  unfold RecPost ncV
  go_enter Try.func20, Try.ntmps20
  go_wp2_with (first
    | (go_at_call 38; (with_reducible refine (HC.out _ (HM.out.on (by (repeat' (first | with_reducible exact Below.refl _ _ | with_reducible assumption | with_reducible apply below_drewN | with_reducible apply Below.drew | with_reducible apply Below.setCell | with_reducible apply Below.alloc | (simp; done) | omega | (simp; omega)))))).mono ?_); rintro e w1 ⟨⟨A1, c1, rfl, hm1, ho1⟩, hb1⟩; obtain ⟨g, rfl, hg, ho⟩ := ho1 h0; have X1 : InN w1 w.heap.size F L P B R G := InN.on ⟨by simp [go_sem], by simp [go_sem], by simp [go_sem], by simp [go_sem], by simp [go_sem], by simp [go_sem], fun i => by simp [go_sem]⟩ hb1; have Y1 : InN w1 (w.heap.size + 1) 0 0 false 0 false 0 := InN.on ⟨by simp [go_sem], by simp [go_sem], by simp [go_sem], by simp [go_sem], by simp [go_sem], by simp [go_sem], fun i => by simp [go_sem]⟩ hb1; have b1 : Below w.heap.size w w1 := Below.trans (by (repeat' (first | with_reducible exact Below.refl _ _ | with_reducible assumption | with_reducible apply below_drewN | with_reducible apply Below.drew | with_reducible apply Below.setCell | with_reducible apply Below.alloc | (simp; done) | omega | (simp; omega)))) (hb1.mono (by simp <;> omega)); have hg2 : w.heap.size + 1 < g := Nat.lt_of_lt_of_le (by simp) hg; have gl1 := ho.lt; have HO1 := Lib.hid ho; have HC1 := Lib.hid hm1.2.1; clear hb1 hm1 ho1 ho hg; have l1 := Y1.lt; have Y1' := Lib.hid Y1; obtain ⟨a0, a1, a2, a3, a4, a5, az⟩ := X1; obtain ⟨y0, y1, y2, y3, y4, y5, yz⟩ := Y1)
    | (go_at_call 39; (with_reducible refine (HFI.out _ _ _).mono ?_); rintro e w2 ⟨rfl, hb2⟩; have Y2 : InN w2 (w.heap.size + 1) 0 0 false 0 false 0 := InN.on Y1'.out hb2; have b2 : Below w.heap.size w w2 := Below.trans b1 (hb2.mono (by omega)); have HO2 := Lib.hid (HO1.out.on hb2); clear hb2; have l2 := Y2.lt; obtain ⟨x0, x1, x2, x3, x4, x5, yz⟩ := Y2; have z0 := yz 0; have z1 := yz 1; have z2 := yz 2; have z3 := yz 3; have z4 := yz 4; have z5 := yz 5; have gl2 := HO2.out.lt; refine Hid.out ?_))
  refine Lib.hid ?_
  (repeat' (first | (with_reducible refine then_normal ?_) | (with_reducible refine wp_exit ?_) | (with_reducible refine wp_ret ?_) | (with_reducible refine then_exit ?_) | (with_reducible refine blk_hit ?_) | (with_reducible refine blk_pass (by decide) ?_) | (with_reducible refine then_ret ?_) | (with_reducible refine blk_ret ?_) | (with_reducible refine blk_normal ?_) | go_values | go_skip | go_guarded | go_step | go_upon | (simp only [Int.not_lt, Int.not_le] at *; go_simp) | (go_values <;> (try go_simp)) | (go_ite <;> go_prune <;> (try go_simp))))
  refine bodyPost_ret (v := .tuple #[.agg #[.int .u32 (F), .int .u32 (L), .bool P, .int .u32 (B), .bool R, .int .u32 (G)], .slice (some ⟨g, 0, none⟩) n c1, .bool false]) (by rw [results_cst rfl]; go_simp) rfl ⟨⟨_, c1, l, rfl, Own.mem ?own hL.out HC1.out hn HU.out, fun _ => ⟨g, rfl, by omega, ?own⟩, fun h => h.elim, fun _ => rfl⟩, ?_⟩
  · repeat' (first | with_reducible exact HO2.out | (with_reducible refine Own.far ?_ _ _ ?_) | (with_reducible refine Own.on ?_ (Below.alloc (Below.refl _ _) (Nat.le_refl _) _)) | omega)
  · (repeat' (first | with_reducible exact Below.refl _ _ | with_reducible assumption | with_reducible apply below_drewN | with_reducible apply Below.drew | with_reducible apply Below.setCell | with_reducible apply Below.alloc | (simp; done) | omega | (simp; omega)))
set_option maxHeartbeats 2000000 in
theorem recR_yes (F L : Int) (f : Nat) (R : Bool) (G : Int) (A : Option Addr) (n c : Nat) (l : List Int) (D : ByteArray) (w : World) (hm : Mem w A n c l) (hf : f < pagesN n) (s1 : 1 ≤ D.size) (s2 : D.size ≤ 128) :
    Calls Try.prog 20 #[ncV F L true f R G, .slice A n c, .string D] w (RecPost n l F L false 0 true D.size true True D f w) := by
  have hp := pagesN_le n
  have h0 : 0 < n := by omega
  have HFI := Lib.hid (fun g c W (hW : Own W g l) => acc_yes F L f R G g n c l D W hW hm.1 hm.2.2.1 hm.2.2.2.1 hf s1 s2)
  have hn := hm.2.2.1
  have hL := Lib.hid hm.1
  have HU := Lib.hid hm.2.2.2.1
  have HC := Lib.hid (fun W (hW : Mem W A n c l) => copy_any A n c l W hW)
  have HM := Lib.hid hm
  clear hm hf s1 s2 hp
  unfold ncV at HFI
  unfold RecPost ncV
  go_enter Try.func20, Try.ntmps20
  go_wp2_with (first
    | (go_at_call 38; (with_reducible refine (HC.out _ (HM.out.on (by (repeat' (first | with_reducible exact Below.refl _ _ | with_reducible assumption | with_reducible apply below_drewN | with_reducible apply Below.drew | with_reducible apply Below.setCell | with_reducible apply Below.alloc | (simp; done) | omega | (simp; omega)))))).mono ?_); rintro e w1 ⟨⟨A1, c1, rfl, hm1, ho1⟩, hb1⟩; obtain ⟨g, rfl, hg, ho⟩ := ho1 h0; have X1 : InN w1 w.heap.size F L true f R G := InN.on ⟨by simp [go_sem], by simp [go_sem], by simp [go_sem], by simp [go_sem], by simp [go_sem], by simp [go_sem], fun i => by simp [go_sem]⟩ hb1; have Y1 : InN w1 (w.heap.size + 1) 0 0 false 0 false 0 := InN.on ⟨by simp [go_sem], by simp [go_sem], by simp [go_sem], by simp [go_sem], by simp [go_sem], by simp [go_sem], fun i => by simp [go_sem]⟩ hb1; have b1 : Below w.heap.size w w1 := Below.trans (by (repeat' (first | with_reducible exact Below.refl _ _ | with_reducible assumption | with_reducible apply below_drewN | with_reducible apply Below.drew | with_reducible apply Below.setCell | with_reducible apply Below.alloc | (simp; done) | omega | (simp; omega)))) (hb1.mono (by simp <;> omega)); have hg2 : w.heap.size + 1 < g := Nat.lt_of_lt_of_le (by simp) hg; have gl1 := ho.lt; have HO1 := Lib.hid ho; have HC1 := Lib.hid hm1.2.1; clear hb1 hm1 ho1 ho hg; have l1 := Y1.lt; have Y1' := Lib.hid Y1; obtain ⟨a0, a1, a2, a3, a4, a5, az⟩ := X1; obtain ⟨y0, y1, y2, y3, y4, y5, yz⟩ := Y1)
    | (go_at_call 39; (with_reducible refine (HFI.out _ _ _ (HO1.out.on (by (repeat' (first | with_reducible exact Below.refl _ _ | with_reducible assumption | with_reducible apply below_drewN | with_reducible apply Below.drew | with_reducible apply Below.setCell | with_reducible apply Below.alloc | (simp; done) | omega | (simp; omega)))))).mono ?_); rintro e w2 ⟨rfl, ⟨l', ho2, hF2⟩, hk2⟩; have Y2 : InN w2 (w.heap.size + 1) 0 0 false 0 false 0 := InN.kp Y1'.out hk2 (by omega); have b2 : Below w.heap.size w w2 := Below.trans b1 (hk2.below (by omega) (fun _ => by omega)); have HO2 := Lib.hid ho2; have HF2 := Lib.hid hF2; clear hk2 ho2 hF2; have l2 := Y2.lt; obtain ⟨x0, x1, x2, x3, x4, x5, yz⟩ := Y2; have z0 := yz 0; have z1 := yz 1; have z2 := yz 2; have z3 := yz 3; have z4 := yz 4; have z5 := yz 5; have gl2 := HO2.out.lt; refine Hid.out ?_))
  refine Lib.hid ?_
  (repeat' (first | (with_reducible refine then_normal ?_) | (with_reducible refine wp_exit ?_) | (with_reducible refine wp_ret ?_) | (with_reducible refine then_exit ?_) | (with_reducible refine blk_hit ?_) | (with_reducible refine blk_pass (by decide) ?_) | (with_reducible refine then_ret ?_) | (with_reducible refine blk_ret ?_) | (with_reducible refine blk_normal ?_) | go_values | go_skip | go_guarded | go_step | go_upon | (simp only [Int.not_lt, Int.not_le] at *; go_simp) | (go_values <;> (try go_simp)) | (go_ite <;> go_prune <;> (try go_simp))))
  refine bodyPost_ret (v := .tuple #[.agg #[.int .u32 (F), .int .u32 (L), .bool false, .int .u32 (0), .bool true, .int .u32 ((D.size : Int))], .slice (some ⟨g, 0, none⟩) n c1, .bool true]) (by rw [results_cst rfl]; go_simp) rfl ⟨⟨_, c1, l', rfl, Own.mem ?own (HF2.out.1.trans hL.out) HC1.out hn (HF2.out.2.1), fun _ => ⟨g, rfl, by omega, ?own⟩, fun _ => HF2.out, fun h => absurd trivial h⟩, ?_⟩
  · repeat' (first | with_reducible exact HO2.out | (with_reducible refine Own.far ?_ _ _ ?_) | (with_reducible refine Own.on ?_ (Below.alloc (Below.refl _ _) (Nat.le_refl _) _)) | omega)
  · (repeat' (first | with_reducible exact Below.refl _ _ | with_reducible assumption | with_reducible apply below_drewN | with_reducible apply Below.drew | with_reducible apply Below.setCell | with_reducible apply Below.alloc | (simp; done) | omega | (simp; omega)))
end Go.Proofs.Ytkilbakghacooaa
