import Derived.Test.YtkilbakghacooaaNcAcc
namespace Go.Proofs.Ytkilbakghacooaa
set_option linter.unusedVariables false
set_option linter.unusedSimpArgs false
set_option maxRecDepth 20000
open Go.ChangeShapes Go.WideShapes Go.ChangeAt Go.RowKit Go.Proofs.Ytkilbakghacooaa.Num Go.Proofs.Ytkilbakghacooaa.Mem
set_option maxHeartbeats 2000000 in
theorem recP_no (F L : Int) (P : Bool) (B : Int) (R : Bool) (G : Int) (A : Option Addr) (n c : Nat) (l : List Int) (D : ByteArray) (f : Nat) (w : World) (hm : Mem w A n c l) (h0 : 0 < n) (b0 : 0 ≤ B) (b1 : B ≤ 4294967295) (hs : D.size ≤ 1000) (ho : ¬ (P = true ∧ 1 ≤ D.size ∧ D.size ≤ 128 ∧ B < pagesN n)) :
    Calls Try.prog 19 #[ncV F L P B R G, .slice A n c, .string D] w (RecPost n l F L P B R G false False D f w) := by
  have hn := hm.2.2.1
  have hL := Lib.hid hm.1
  have HU := Lib.hid hm.2.2.2.1
  have HC := Lib.hid (fun W (hW : Mem W A n c l) => clone_any A n c l W hW)
  have HPP := Lib.hid (fun W (hM : Mem W A n c l) => page_any A n c B l W hM)
  have HL := Lib.hid (fun W => ncLen_any D.size W)
  generalize pgS n l B = D2 at *
  have HM := Lib.hid hm
  have HNO := Lib.hid ho
  clear hm ho
  unfold ClonePost at HC
  unfold RecPost ncV
  cases P with
  | false =>
    generalize decide (0 ≤ B ∧ B < (pagesN n : Int)) = fo at HPP
    clear HL HNO
    go_enter Try.func19, Try.ntmps19
    go_wp2_with (first
      | go_skip
      | (go_at_call 34; (with_reducible refine (HPP.out _ (HM.out.on (by (repeat' (first | with_reducible exact Below.refl _ _ | with_reducible assumption | with_reducible apply below_drewN | with_reducible apply Below.drew | with_reducible apply Below.setCell | with_reducible apply Below.alloc | (simp; done) | omega | (simp; omega)))))).mono ?_); rintro e w2 ⟨rfl, hb2⟩; have X2 : InN w2 w.heap.size F L false B R G := InN.on ⟨by simp [go_sem], by simp [go_sem], by simp [go_sem], by simp [go_sem], by simp [go_sem], by simp [go_sem], fun i => by simp [go_sem]⟩ hb2; have Y2 : InN w2 (w.heap.size + 1) 0 0 false 0 false 0 := InN.on ⟨by simp [go_sem], by simp [go_sem], by simp [go_sem], by simp [go_sem], by simp [go_sem], by simp [go_sem], fun i => by simp [go_sem]⟩ hb2; have b2 : Below w.heap.size w w2 := Below.trans (by (repeat' (first | with_reducible exact Below.refl _ _ | with_reducible assumption | with_reducible apply below_drewN | with_reducible apply Below.drew | with_reducible apply Below.setCell | with_reducible apply Below.alloc | (simp; done) | omega | (simp; omega)))) (hb2.mono (by simp <;> omega)); clear hb2; have l2 := Y2.lt; have X2' := Lib.hid X2; have Y2' := Lib.hid Y2; obtain ⟨c0, c1, c2, c3, c4, c5, cz⟩ := X2; obtain ⟨u0, u1, u2, u3, u4, u5, uz⟩ := Y2))
    go_region_with (first
      | (go_at_call 36; (with_reducible refine (HC.out _ (HM.out.on (by (repeat' (first | with_reducible exact Below.refl _ _ | with_reducible assumption | with_reducible apply below_drewN | with_reducible apply Below.drew | with_reducible apply Below.setCell | with_reducible apply Below.alloc | (simp; done) | omega | (simp; omega)))))).mono ?_); rintro e w4 ⟨⟨A1, c1, rfl, hm1, ho1⟩, hb1⟩; obtain ⟨g, rfl, hg, ho⟩ := ho1 h0; have X1 : InN w4 w.heap.size F L false B R G := InN.on (X2'.out.drew) hb1; have Y1 : InN w4 (w.heap.size + 1) 0 0 false 0 false 0 := InN.on (Y2'.out.drew) hb1; have b1 : Below w.heap.size w w4 := Below.trans (by (repeat' (first | with_reducible exact Below.refl _ _ | with_reducible assumption | with_reducible apply below_drewN | with_reducible apply Below.drew | with_reducible apply Below.setCell | with_reducible apply Below.alloc | (simp; done) | omega | (simp; omega)))) (hb1.mono (by simp <;> omega)); have hg2 : w.heap.size + 1 < g := Nat.lt_of_lt_of_le (by simp <;> omega) hg; have gl1 := ho.lt; have HO1 := Lib.hid ho; have HC1 := Lib.hid hm1.2.1; clear hb1 hm1 ho1 ho hg; have l1 := Y1.lt; obtain ⟨a0, a1, a2, a3, a4, a5, az⟩ := X1; obtain ⟨y0, y1, y2, y3, y4, y5, yz⟩ := Y1; have z0 := yz 0; have z1 := yz 1; have z2 := yz 2; have z3 := yz 3; have z4 := yz 4; have z5 := yz 5))
    all_goals (repeat' (first | (with_reducible refine then_normal ?_) | (with_reducible refine wp_exit ?_) | (with_reducible refine wp_ret ?_) | (with_reducible refine then_exit ?_) | (with_reducible refine blk_hit ?_) | (with_reducible refine blk_pass (by decide) ?_) | (with_reducible refine then_ret ?_) | (with_reducible refine blk_ret ?_) | (with_reducible refine blk_normal ?_) | go_values | go_skip | go_guarded | go_step | go_upon | (simp only [Int.not_lt, Int.not_le] at *; go_simp) | (go_values <;> (try go_simp)) | (go_ite <;> go_prune <;> (try go_simp))))
    all_goals refine bodyPost_ret (v := .tuple #[.agg #[.int .u32 (F), .int .u32 (L), .bool false, .int .u32 (B), .bool R, .int .u32 (G)], .slice (some ⟨g, 0, none⟩) n c1, .bool false]) (by rw [results_cst rfl]; go_simp) rfl ⟨⟨_, c1, l, rfl, Own.mem (by repeat' (first | with_reducible exact HO1.out | (with_reducible refine Own.far ?_ _ _ ?_) | (with_reducible refine Own.on ?_ ((Below.refl _ _).drew)) | omega)) hL.out HC1.out hn HU.out, fun _ => ⟨g, rfl, by omega, (by repeat' (first | with_reducible exact HO1.out | (with_reducible refine Own.far ?_ _ _ ?_) | (with_reducible refine Own.on ?_ ((Below.refl _ _).drew)) | omega))⟩, fun h => h.elim, fun _ => rfl⟩, by (repeat' (first | with_reducible exact Below.refl _ _ | with_reducible assumption | with_reducible apply below_drewN | with_reducible apply Below.drew | with_reducible apply Below.setCell | with_reducible apply Below.alloc | (simp; done) | omega | (simp; omega)))⟩
  | true =>
    by_cases h1 : 1 ≤ D.size ∧ D.size ≤ 128
    · rw [decide_eq_true (show 1 ≤ (D.size : Int) ∧ (D.size : Int) ≤ 128 by omega)] at HL
      rw [decide_eq_false (show ¬ (0 ≤ B ∧ B < (pagesN n : Int)) from fun h => HNO.out ⟨rfl, h1.1, h1.2, h.2⟩)] at HPP
      clear HNO
      go_enter Try.func19, Try.ntmps19
      go_wp2_with (first
        | go_skip
        | (go_at_call 34; (with_reducible refine (HPP.out _ (HM.out.on (by (repeat' (first | with_reducible exact Below.refl _ _ | with_reducible assumption | with_reducible apply below_drewN | with_reducible apply Below.drew | with_reducible apply Below.setCell | with_reducible apply Below.alloc | (simp; done) | omega | (simp; omega)))))).mono ?_); rintro e w2 ⟨rfl, hb2⟩; have X2 : InN w2 w.heap.size F L true B R G := InN.on ⟨by simp [go_sem], by simp [go_sem], by simp [go_sem], by simp [go_sem], by simp [go_sem], by simp [go_sem], fun i => by simp [go_sem]⟩ hb2; have Y2 : InN w2 (w.heap.size + 1) 0 0 false 0 false 0 := InN.on ⟨by simp [go_sem], by simp [go_sem], by simp [go_sem], by simp [go_sem], by simp [go_sem], by simp [go_sem], fun i => by simp [go_sem]⟩ hb2; have b2 : Below w.heap.size w w2 := Below.trans (by (repeat' (first | with_reducible exact Below.refl _ _ | with_reducible assumption | with_reducible apply below_drewN | with_reducible apply Below.drew | with_reducible apply Below.setCell | with_reducible apply Below.alloc | (simp; done) | omega | (simp; omega)))) (hb2.mono (by simp <;> omega)); clear hb2; have l2 := Y2.lt; have X2' := Lib.hid X2; have Y2' := Lib.hid Y2; obtain ⟨c0, c1, c2, c3, c4, c5, cz⟩ := X2; obtain ⟨u0, u1, u2, u3, u4, u5, uz⟩ := Y2)
        | (go_at_call 35; (with_reducible refine (HL.out _).mono ?_); rintro e w3 ⟨rfl, m3, rfl⟩))
      go_region_with (first
        | (go_at_call 36; (with_reducible refine (HC.out _ (HM.out.on (by (repeat' (first | with_reducible exact Below.refl _ _ | with_reducible assumption | with_reducible apply below_drewN | with_reducible apply Below.drew | with_reducible apply Below.setCell | with_reducible apply Below.alloc | (simp; done) | omega | (simp; omega)))))).mono ?_); rintro e w4 ⟨⟨A1, c1, rfl, hm1, ho1⟩, hb1⟩; obtain ⟨g, rfl, hg, ho⟩ := ho1 h0; have X1 : InN w4 w.heap.size F L true B R G := InN.on ((X2'.out.drewN _).drew) hb1; have Y1 : InN w4 (w.heap.size + 1) 0 0 false 0 false 0 := InN.on ((Y2'.out.drewN _).drew) hb1; have b1 : Below w.heap.size w w4 := Below.trans (by (repeat' (first | with_reducible exact Below.refl _ _ | with_reducible assumption | with_reducible apply below_drewN | with_reducible apply Below.drew | with_reducible apply Below.setCell | with_reducible apply Below.alloc | (simp; done) | omega | (simp; omega)))) (hb1.mono (by simp <;> omega)); have hg2 : w.heap.size + 1 < g := Nat.lt_of_lt_of_le (by simp <;> omega) hg; have gl1 := ho.lt; have HO1 := Lib.hid ho; have HC1 := Lib.hid hm1.2.1; clear hb1 hm1 ho1 ho hg; have l1 := Y1.lt; obtain ⟨a0, a1, a2, a3, a4, a5, az⟩ := X1; obtain ⟨y0, y1, y2, y3, y4, y5, yz⟩ := Y1; have z0 := yz 0; have z1 := yz 1; have z2 := yz 2; have z3 := yz 3; have z4 := yz 4; have z5 := yz 5))
      all_goals (repeat' (first | (with_reducible refine then_normal ?_) | (with_reducible refine wp_exit ?_) | (with_reducible refine wp_ret ?_) | (with_reducible refine then_exit ?_) | (with_reducible refine blk_hit ?_) | (with_reducible refine blk_pass (by decide) ?_) | (with_reducible refine then_ret ?_) | (with_reducible refine blk_ret ?_) | (with_reducible refine blk_normal ?_) | go_values | go_skip | go_guarded | go_step | go_upon | (simp only [Int.not_lt, Int.not_le] at *; go_simp) | (go_values <;> (try go_simp)) | (go_ite <;> go_prune <;> (try go_simp))))
      all_goals refine bodyPost_ret (v := .tuple #[.agg #[.int .u32 (F), .int .u32 (L), .bool true, .int .u32 (B), .bool R, .int .u32 (G)], .slice (some ⟨g, 0, none⟩) n c1, .bool false]) (by rw [results_cst rfl]; go_simp) rfl ⟨⟨_, c1, l, rfl, Own.mem (by repeat' (first | with_reducible exact HO1.out | (with_reducible refine Own.far ?_ _ _ ?_) | (with_reducible refine Own.on ?_ ((Below.refl _ _).drew)) | omega)) hL.out HC1.out hn HU.out, fun _ => ⟨g, rfl, by omega, (by repeat' (first | with_reducible exact HO1.out | (with_reducible refine Own.far ?_ _ _ ?_) | (with_reducible refine Own.on ?_ ((Below.refl _ _).drew)) | omega))⟩, fun h => h.elim, fun _ => rfl⟩, by (repeat' (first | with_reducible exact Below.refl _ _ | with_reducible assumption | with_reducible apply below_drewN | with_reducible apply Below.drew | with_reducible apply Below.setCell | with_reducible apply Below.alloc | (simp; done) | omega | (simp; omega)))⟩
    · rw [decide_eq_false (show ¬ (1 ≤ (D.size : Int) ∧ (D.size : Int) ≤ 128) by omega)] at HL
      generalize decide (0 ≤ B ∧ B < (pagesN n : Int)) = fo at HPP
      clear HNO
      go_enter Try.func19, Try.ntmps19
      go_wp2_with (first
        | go_skip
        | (go_at_call 34; (with_reducible refine (HPP.out _ (HM.out.on (by (repeat' (first | with_reducible exact Below.refl _ _ | with_reducible assumption | with_reducible apply below_drewN | with_reducible apply Below.drew | with_reducible apply Below.setCell | with_reducible apply Below.alloc | (simp; done) | omega | (simp; omega)))))).mono ?_); rintro e w2 ⟨rfl, hb2⟩; have X2 : InN w2 w.heap.size F L true B R G := InN.on ⟨by simp [go_sem], by simp [go_sem], by simp [go_sem], by simp [go_sem], by simp [go_sem], by simp [go_sem], fun i => by simp [go_sem]⟩ hb2; have Y2 : InN w2 (w.heap.size + 1) 0 0 false 0 false 0 := InN.on ⟨by simp [go_sem], by simp [go_sem], by simp [go_sem], by simp [go_sem], by simp [go_sem], by simp [go_sem], fun i => by simp [go_sem]⟩ hb2; have b2 : Below w.heap.size w w2 := Below.trans (by (repeat' (first | with_reducible exact Below.refl _ _ | with_reducible assumption | with_reducible apply below_drewN | with_reducible apply Below.drew | with_reducible apply Below.setCell | with_reducible apply Below.alloc | (simp; done) | omega | (simp; omega)))) (hb2.mono (by simp <;> omega)); clear hb2; have l2 := Y2.lt; have X2' := Lib.hid X2; have Y2' := Lib.hid Y2; obtain ⟨c0, c1, c2, c3, c4, c5, cz⟩ := X2; obtain ⟨u0, u1, u2, u3, u4, u5, uz⟩ := Y2)
        | (go_at_call 35; (with_reducible refine (HL.out _).mono ?_); rintro e w3 ⟨rfl, m3, rfl⟩))
      go_region_with (first
        | (go_at_call 36; (with_reducible refine (HC.out _ (HM.out.on (by (repeat' (first | with_reducible exact Below.refl _ _ | with_reducible assumption | with_reducible apply below_drewN | with_reducible apply Below.drew | with_reducible apply Below.setCell | with_reducible apply Below.alloc | (simp; done) | omega | (simp; omega)))))).mono ?_); rintro e w4 ⟨⟨A1, c1, rfl, hm1, ho1⟩, hb1⟩; obtain ⟨g, rfl, hg, ho⟩ := ho1 h0; have X1 : InN w4 w.heap.size F L true B R G := InN.on ((X2'.out.drewN _).drew) hb1; have Y1 : InN w4 (w.heap.size + 1) 0 0 false 0 false 0 := InN.on ((Y2'.out.drewN _).drew) hb1; have b1 : Below w.heap.size w w4 := Below.trans (by (repeat' (first | with_reducible exact Below.refl _ _ | with_reducible assumption | with_reducible apply below_drewN | with_reducible apply Below.drew | with_reducible apply Below.setCell | with_reducible apply Below.alloc | (simp; done) | omega | (simp; omega)))) (hb1.mono (by simp <;> omega)); have hg2 : w.heap.size + 1 < g := Nat.lt_of_lt_of_le (by simp <;> omega) hg; have gl1 := ho.lt; have HO1 := Lib.hid ho; have HC1 := Lib.hid hm1.2.1; clear hb1 hm1 ho1 ho hg; have l1 := Y1.lt; obtain ⟨a0, a1, a2, a3, a4, a5, az⟩ := X1; obtain ⟨y0, y1, y2, y3, y4, y5, yz⟩ := Y1; have z0 := yz 0; have z1 := yz 1; have z2 := yz 2; have z3 := yz 3; have z4 := yz 4; have z5 := yz 5))
      all_goals (repeat' (first | (with_reducible refine then_normal ?_) | (with_reducible refine wp_exit ?_) | (with_reducible refine wp_ret ?_) | (with_reducible refine then_exit ?_) | (with_reducible refine blk_hit ?_) | (with_reducible refine blk_pass (by decide) ?_) | (with_reducible refine then_ret ?_) | (with_reducible refine blk_ret ?_) | (with_reducible refine blk_normal ?_) | go_values | go_skip | go_guarded | go_step | go_upon | (simp only [Int.not_lt, Int.not_le] at *; go_simp) | (go_values <;> (try go_simp)) | (go_ite <;> go_prune <;> (try go_simp))))
      all_goals refine bodyPost_ret (v := .tuple #[.agg #[.int .u32 (F), .int .u32 (L), .bool true, .int .u32 (B), .bool R, .int .u32 (G)], .slice (some ⟨g, 0, none⟩) n c1, .bool false]) (by rw [results_cst rfl]; go_simp) rfl ⟨⟨_, c1, l, rfl, Own.mem (by repeat' (first | with_reducible exact HO1.out | (with_reducible refine Own.far ?_ _ _ ?_) | (with_reducible refine Own.on ?_ ((Below.refl _ _).drew)) | omega)) hL.out HC1.out hn HU.out, fun _ => ⟨g, rfl, by omega, (by repeat' (first | with_reducible exact HO1.out | (with_reducible refine Own.far ?_ _ _ ?_) | (with_reducible refine Own.on ?_ ((Below.refl _ _).drew)) | omega))⟩, fun h => h.elim, fun _ => rfl⟩, by (repeat' (first | with_reducible exact Below.refl _ _ | with_reducible assumption | with_reducible apply below_drewN | with_reducible apply Below.drew | with_reducible apply Below.setCell | with_reducible apply Below.alloc | (simp; done) | omega | (simp; omega)))⟩
theorem Filled.unpad {s r : List UInt8} {f k : Nat} {l l' : List Int} (h : Filled (s ++ r) f 128 l l') (hs : s.length = k) (hk : k ≤ 128) (hr : ∀ i, k ≤ i → i < 128 → r.getD (i - k) 0 = byteAt l (128 * f + i)) : Filled s f k l l' := by
  obtain ⟨h1, h2, h3⟩ := h
  refine ⟨h1, h2, fun a ha => ?_⟩
  rw [h3 a ha]
  by_cases c1 : 128 * f ≤ a ∧ a < 128 * f + k
  · rw [if_pos c1, if_pos (by omega)]
    simp only [List.getD_eq_getElem?_getD]
    rw [List.getElem?_append_left (by omega)]
  · rw [if_neg c1]
    by_cases c2 : 128 * f ≤ a ∧ a < 128 * f + 128
    · rw [if_pos c2]
      have e := hr (a - 128 * f) (by omega) (by omega)
      rw [show 128 * f + (a - 128 * f) = a by omega] at e
      rw [← e]
      simp only [List.getD_eq_getElem?_getD]
      rw [List.getElem?_append_right (by omega), hs]
    · rw [if_neg c2]
/-- The page with the frame at its front. -/
theorem pad_page {n f k : Nat} {l : List Int} (hl : l.length = n) (hf : f < pagesN n) {i : Nat} (hk : k ≤ i) (hi : i < 128) : (((pgS n l f).extract k (pgS n l f).size).data.toList).getD (i - k) 0 = byteAt l (128 * f + i) := by
  have hp := pagesN_le n
  have hz := pgS_size (n := n) (l := l) (F := f) hl (by omega) (by omega)
  rw [hz]
  have e : pgS n l f = pageS l f := by
    unfold pgS
    rw [if_pos ⟨by omega, by omega⟩, Int.toNat_natCast]
  rw [e]
  have e2 : ((pageS l f).extract k 128).data.toList = ((bytesL (pageL l f)).drop k).take (128 - k) := by
    rw [ByteArray.data_extract, Array.toList_extract]
    show List.extract (pageS l f).data.toList k 128 = _
    rw [show (pageS l f).data.toList = bytesL (pageL l f) from rfl]
  rw [e2, List.getD_eq_getElem?_getD, List.getElem?_take, if_pos (by omega), List.getElem?_drop, show k + (i - k) = i by omega, bytesL_get _ _ (by rw [pageL_len (by omega)]; omega), page_byte hi]
  rfl
theorem pad_size {D E : ByteArray} (h1 : D.size ≤ 128) (h2 : E.size = 128) : (D ++ E.extract D.size E.size).size = 128 := by
  rw [ByteArray.size_append, ByteArray.size_extract]
  omega
theorem pad_list (D E : ByteArray) : (D ++ E).data.toList = D.data.toList ++ E.data.toList := by
  rw [ByteArray.data_append, Array.toList_append]
theorem wrapS_small {x : Int} (h0 : 0 ≤ x) (h1 : x ≤ 9223372036854775807) : IntKind.i64.wrap x = x := by
  rw [IntKind.wrap_i64]; omega
def SetYes (n : Nat) (l : List Int) (f : Nat) (s : ByteArray) (w : World) (e : Ending) (w' : World) : Prop :=
  (∃ A c l', e = .returned (.tuple #[.slice A n c, .bool true]) ∧ Mem w' A n c l' ∧ (0 < n → ∃ g, A = some ⟨g, 0, none⟩ ∧ w.heap.size ≤ g ∧ Own w' g l') ∧ Filled s.data.toList f 128 l l') ∧ Below w.heap.size w w'
theorem sown_y (A : Option Addr) (n c f : Nat) (l : List Int) (s : ByteArray) (w : World) (hm : Mem w A n c l) (hf : f < pagesN n) (hs : s.size = 128) :
    Calls Try.prog 37 #[.slice A n c, .int .i64 f, .string s] w (SetYes n l f s w) := by
  refine (sown_yes A n c f l s w hm hf hs).mono fun e w' hp => ?_
  obtain ⟨⟨A1, c1, l1, he, h1, h2, h3, -⟩, hb⟩ := hp
  have ht : 0 ≤ (f : Int) ∧ (f : Int) < pagesN n ∧ s.size = 128 := ⟨by omega, by omega, hs⟩
  rw [decide_eq_true ht] at he
  exact ⟨⟨A1, c1, l1, he, h1, h2, by have := h3 ht; rwa [Int.toNat_natCast] at this⟩, hb⟩
set_option maxHeartbeats 2000000 in
theorem recP_yes (F L : Int) (f : Nat) (R : Bool) (G : Int) (A : Option Addr) (n c : Nat) (l : List Int) (D : ByteArray) (w : World) (hm : Mem w A n c l) (hf : f < pagesN n) (s1 : 1 ≤ D.size) (s2 : D.size ≤ 128) :
    Calls Try.prog 19 #[ncV F L true f R G, .slice A n c, .string D] w (RecPost n l F L false 0 true D.size true True D f w) := by
  have hp := pagesN_le n
  have h0 : 0 < n := by omega
  have hn := hm.2.2.1
  have hL := Lib.hid hm.1
  have HU := Lib.hid hm.2.2.2.1
  have HPD := Lib.hid (fun i (hk : D.size ≤ i) (hi : i < 128) => pad_page (n := n) (l := l) hm.1 hf hk hi)
  have hw : IntKind.i64.wrap (f : Int) = f := wrapS_small (by omega) (by omega)
  have HS : Hid (∀ s : ByteArray, s.size = 128 → ∀ W, Mem W A n c l → Calls Try.prog 37 #[.slice A n c, .int .i64 (IntKind.i64.wrap (f : Int)), .string s] W (SetYes n l f s W)) := fun s hs W hW => by
    rw [hw]
    exact sown_y A n c f l s W hW hf hs
  clear hw
  have HPP := Lib.hid (fun W (hM : Mem W A n c l) => page_any A n c f l W hM)
  rw [decide_eq_true (show 0 ≤ (f : Int) ∧ (f : Int) < (pagesN n : Int) by omega)] at HPP
  have HL := Lib.hid (fun W => ncLen_any D.size W)
  rw [decide_eq_true (show 1 ≤ (D.size : Int) ∧ (D.size : Int) ≤ 128 by omega)] at HL
  have hz := pgS_size (n := n) (l := l) (F := f) hm.1 (by omega) (by omega)
  have f0 : (0 : Int) ≤ f := by omega
  have f1 : (f : Int) ≤ 31 := by omega
  have t1 : 1 ≤ (D.size : Int) := by omega
  have t2 : (D.size : Int) ≤ 128 := by omega
  generalize pgS n l f = E at *
  have HPZ := Lib.hid (pad_size s2 hz)
  have t3 : D.size ≤ E.size := by omega
  have t4 : (D.size : Int) ≤ E.size := by omega
  have t5 : ¬ 9223372036854775807 < D.size + (E.size - D.size) := by omega
  have t6 : D.size + (E.size - D.size) ≤ 9223372036854775807 := by omega
  have t7 : ¬ 9223372036854775807 < E.size := by omega
  have HM := Lib.hid hm
  have HK := Lib.hid s2
  clear hm hf hp s1 hz
  unfold SetYes at HS
  unfold RecPost ncV
  go_enter Try.func19, Try.ntmps19
  go_wp2_with (first
    | go_skip
    | (go_at_call 34; (with_reducible refine (HPP.out _ (HM.out.on (by (repeat' (first | with_reducible exact Below.refl _ _ | with_reducible assumption | with_reducible apply below_drewN | with_reducible apply Below.drew | with_reducible apply Below.setCell | with_reducible apply Below.alloc | (simp; done) | omega | (simp; omega)))))).mono ?_); rintro e w2 ⟨rfl, hb2⟩; have X2 : InN w2 w.heap.size F L true f R G := InN.on ⟨by simp [go_sem], by simp [go_sem], by simp [go_sem], by simp [go_sem], by simp [go_sem], by simp [go_sem], fun i => by simp [go_sem]⟩ hb2; have Y2 : InN w2 (w.heap.size + 1) 0 0 false 0 false 0 := InN.on ⟨by simp [go_sem], by simp [go_sem], by simp [go_sem], by simp [go_sem], by simp [go_sem], by simp [go_sem], fun i => by simp [go_sem]⟩ hb2; have b2 : Below w.heap.size w w2 := Below.trans (by (repeat' (first | with_reducible exact Below.refl _ _ | with_reducible assumption | with_reducible apply below_drewN | with_reducible apply Below.drew | with_reducible apply Below.setCell | with_reducible apply Below.alloc | (simp; done) | omega | (simp; omega)))) (hb2.mono (by simp <;> omega)); clear hb2; have l2 := Y2.lt; have X2' := Lib.hid X2; have Y2' := Lib.hid Y2; obtain ⟨c0, c1, c2, c3, c4, c5, cz⟩ := X2; obtain ⟨u0, u1, u2, u3, u4, u5, uz⟩ := Y2)
    | (go_at_call 35; (with_reducible refine (HL.out _).mono ?_); rintro e w3 ⟨rfl, m3, rfl⟩))
  go_region_with (first
    | (go_at_call 37; (with_reducible refine (HS.out _ HPZ.out _ (HM.out.on (by (repeat' (first | with_reducible exact Below.refl _ _ | with_reducible assumption | with_reducible apply below_drewN | with_reducible apply Below.drew | with_reducible apply Below.setCell | with_reducible apply Below.alloc | (simp; done) | omega | (simp; omega)))))).mono ?_); rintro e w4 ⟨⟨A1, c1, l', rfl, hm1, ho1, hF1⟩, hb1⟩; obtain ⟨g, rfl, hg, ho⟩ := ho1 h0; have X1 : InN w4 w.heap.size F L true f R G := InN.on (X2'.out.drewN _) hb1; have Y1 : InN w4 (w.heap.size + 1) 0 0 false 0 false 0 := InN.on (Y2'.out.drewN _) hb1; have b1 : Below w.heap.size w w4 := Below.trans (by (repeat' (first | with_reducible exact Below.refl _ _ | with_reducible assumption | with_reducible apply below_drewN | with_reducible apply Below.drew | with_reducible apply Below.setCell | with_reducible apply Below.alloc | (simp; done) | omega | (simp; omega)))) (hb1.mono (by simp <;> omega)); have hg2 : w.heap.size + 1 < g := Nat.lt_of_lt_of_le (by simp <;> omega) hg; have gl1 := ho.lt; have HO1 := Lib.hid ho; have HC1 := Lib.hid hm1.2.1; have HF1 := Lib.hid hF1; clear hb1 hm1 ho1 ho hg hF1; have l1 := Y1.lt; obtain ⟨a0, a1, a2, a3, a4, a5, az⟩ := X1; have q0 := az 0; have q1 := az 1; have q2 := az 2; have q3 := az 3; have q4 := az 4; have q5 := az 5; obtain ⟨y0, y1, y2, y3, y4, y5, yz⟩ := Y1; have z0 := yz 0; have z1 := yz 1; have z2 := yz 2; have z3 := yz 3; have z4 := yz 4; have z5 := yz 5))
  all_goals (repeat' (first | (with_reducible refine then_normal ?_) | (with_reducible refine wp_exit ?_) | (with_reducible refine wp_ret ?_) | (with_reducible refine then_exit ?_) | (with_reducible refine blk_hit ?_) | (with_reducible refine blk_pass (by decide) ?_) | (with_reducible refine then_ret ?_) | (with_reducible refine blk_ret ?_) | (with_reducible refine blk_normal ?_) | go_values | go_skip | go_guarded | go_step | go_upon | (simp only [Int.not_lt, Int.not_le] at *; go_simp) | (go_values <;> (try go_simp)) | (go_ite <;> go_prune <;> (try go_simp))))
  all_goals refine bodyPost_ret (v := .tuple #[.agg #[.int .u32 (F), .int .u32 (L), .bool false, .int .u32 (0), .bool true, .int .u32 ((D.size : Int))], .slice (some ⟨g, 0, none⟩) n c1, .bool true]) (by rw [results_cst rfl]; go_simp) rfl ⟨⟨_, c1, l', rfl, Own.mem (by repeat' (first | with_reducible exact HO1.out | (with_reducible refine Own.far ?_ _ _ ?_) | (with_reducible refine Own.on ?_ ((Below.refl _ _).drew)) | omega)) (HF1.out.1.trans hL.out) HC1.out hn HF1.out.2.1, fun _ => ⟨g, rfl, by omega, (by repeat' (first | with_reducible exact HO1.out | (with_reducible refine Own.far ?_ _ _ ?_) | (with_reducible refine Own.on ?_ ((Below.refl _ _).drew)) | omega))⟩, fun _ => by have h := HF1.out; rw [pad_list] at h; exact Filled.unpad h rfl HK.out (fun i hk hi => HPD.out i hk hi), fun h => absurd trivial h⟩, by (repeat' (first | with_reducible exact Below.refl _ _ | with_reducible assumption | with_reducible apply below_drewN | with_reducible apply Below.drew | with_reducible apply Below.setCell | with_reducible apply Below.alloc | (simp; done) | omega | (simp; omega)))⟩
end Go.Proofs.Ytkilbakghacooaa
