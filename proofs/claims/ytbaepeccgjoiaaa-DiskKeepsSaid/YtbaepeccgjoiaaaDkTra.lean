import Derived.Test.YtbaepeccgjoiaaaDkCom
import Derived.Test.YtbaepeccgjoiaaaDkSet
namespace Go.Proofs.Ytbaepeccgjoiaaa
set_option linter.unusedVariables false
set_option linter.unusedSimpArgs false
set_option maxRecDepth 20000
open Go.ChangeShapes Go.WideShapes Go.ChangeAt Go.RowKit Go.Proofs.Ytbaepeccgjoiaaa.Num Go.Proofs.Ytbaepeccgjoiaaa.Mem
/-- What a transfer gives: a memory, whether the data fit. -/
def TrPost (n : Nat) (l : List Int) (ok : Bool) (rd : Prop) (s : List UInt8) (f : Nat) (w : World) (e : Ending) (w' : World) : Prop :=
  (∃ A c l', e = .returned (.tuple #[.slice A n c, .bool ok]) ∧ Mem w' A n c l' ∧ (0 < n → ∃ g, A = some ⟨g, 0, none⟩ ∧ w.heap.size ≤ g ∧ Own w' g l') ∧ (rd → Filled s f 128 l l') ∧ (¬ rd → l' = l)) ∧ Below w.heap.size w w'
theorem tra_read (B K F S OB OF : Int) (D : ByteArray) (A : Option Addr) (n c : Nat) (l : List Int) (ek : Int) (ed : ByteArray) (w : World) (hm : Mem w A n c l) (o0 : 0 ≤ OF) (o1 : OF ≤ 4294967295) (hs : ed.size ≤ 1000) :
    Calls Try.prog 34 #[dkV B K F S 1 OB OF D, .slice A n c, evV ek 1 ed] w (TrPost n l (decide (OF < pagesN n ∧ ed.size = 128)) (OF < pagesN n ∧ ed.size = 128) ed.data.toList OF.toNat w) := by
  have HS := Lib.hid (fun W (hW : Mem W A n c l) => sown_page A n c OF l ed W hW hs)
  have HM := Lib.hid hm
  clear hm hs
  unfold dkV evV
  unfold SetOwn at HS
  have HD : Hid (decide (0 ≤ OF ∧ OF < pagesN n ∧ ed.size = 128) = decide (OF < pagesN n ∧ ed.size = 128)) := by
    show _ = _
    rw [Bool.eq_iff_iff, decide_eq_true_iff, decide_eq_true_iff]; omega
  have HP : Hid (OF < pagesN n ∧ ed.size = 128 ↔ 0 ≤ OF ∧ OF < pagesN n ∧ ed.size = 128) := by
    show _ ↔ _
    omega
  rw [HD.out] at HS
  generalize decide (OF < pagesN n ∧ ed.size = 128) = ok at *
  go_enter Try.func34, Try.ntmps34
  go_wp2_with (first
    | go_skip
    | (go_at_call 41; (with_reducible refine (HS.out _ (HM.out.on (by (repeat' (first | with_reducible exact Below.refl _ _ | with_reducible assumption | with_reducible apply below_drewN | with_reducible apply Below.drew | with_reducible apply Below.setCell | with_reducible apply Below.alloc | (simp; done) | omega | (simp; omega)))))).mono ?_); rintro e w1 ⟨⟨A1, c1, l1, rfl, hm1, ho1, hf1, hg1⟩, hb1⟩; have b1 : Below w.heap.size w w1 := Below.trans (by (repeat' (first | with_reducible exact Below.refl _ _ | with_reducible assumption | with_reducible apply below_drewN | with_reducible apply Below.drew | with_reducible apply Below.setCell | with_reducible apply Below.alloc | (simp; done) | omega | (simp; omega)))) (hb1.mono (by simp <;> omega)); have HM1 := Lib.hid hm1; have HO1 : Hid (0 < n → ∃ g, A1 = some ⟨g, 0, none⟩ ∧ w.heap.size ≤ g ∧ Own w1 g l1) := (fun h => ⟨(ho1 h).choose, (ho1 h).choose_spec.1, Nat.le_trans (by simp <;> omega) (ho1 h).choose_spec.2.1, (ho1 h).choose_spec.2.2⟩); clear ho1; have HF1 := Lib.hid hf1; have HG1 := Lib.hid hg1; clear hb1 hm1 hf1 hg1))
  go_ret2
  exact ⟨⟨A1, c1, l1, rfl, HM1.out, HO1.out, fun h => HF1.out (HP.out.1 h), fun h => HG1.out (fun h2 => h (HP.out.2 h2))⟩, b1⟩
theorem tra_plain (B K F S C OB OF : Int) (D : ByteArray) (A : Option Addr) (n c : Nat) (l : List Int) (ek en : Int) (ed : ByteArray) (w : World) (hm : Mem w A n c l) (hr : ¬ (en = 1 ∧ C = 1)) :
    Calls Try.prog 34 #[dkV B K F S C OB OF D, .slice A n c, evV ek en ed] w (TrPost n l (decide (ed.size = 0)) False [] 0 w) := by
  have HC := Lib.hid (fun W (hW : Mem W A n c l) => clone_any A n c l W hW)
  have HM := Lib.hid hm
  have HE := Lib.hid (empty_is ed)
  clear hm
  unfold ClonePost at HC
  unfold dkV evV
  have hc : en = 1 ∧ (C == 1) = false ∨ (en == 1) = false := by
    by_cases h : en = 1
    · exact .inl ⟨h, by rw [beq_eq_false_iff_ne]; exact fun h2 => hr ⟨h, h2⟩⟩
    · exact .inr (by rw [beq_eq_false_iff_ne]; exact h)
  clear hr
  rcases hc with ⟨rfl, eC⟩ | eN
  · go_enter Try.func34, Try.ntmps34
    go_wp2_with (first | go_skip | fail)
    go_region_with (first
      | (go_at_call 33; (with_reducible refine (HC.out _ (HM.out.on (by (repeat' (first | with_reducible exact Below.refl _ _ | with_reducible assumption | with_reducible apply below_drewN | with_reducible apply Below.drew | with_reducible apply Below.setCell | with_reducible apply Below.alloc | (simp; done) | omega | (simp; omega)))))).mono ?_); rintro e w1 ⟨⟨A1, c1, rfl, hm1, ho1⟩, hb1⟩; have V1 : InV w1 (w.heap.size + 1) ek 1 ed := InV.on ⟨by simp [go_sem], by simp [go_sem], by simp [go_sem], fun i => by simp [go_sem]⟩ hb1; have b1 : Below w.heap.size w w1 := Below.trans (by (repeat' (first | with_reducible exact Below.refl _ _ | with_reducible assumption | with_reducible apply below_drewN | with_reducible apply Below.drew | with_reducible apply Below.setCell | with_reducible apply Below.alloc | (simp; done) | omega | (simp; omega)))) (hb1.mono (by simp <;> omega)); have HM1 := Lib.hid hm1; have HO1 : Hid (0 < n → ∃ g, A1 = some ⟨g, 0, none⟩ ∧ w.heap.size ≤ g ∧ Own w1 g l) := (fun h => ⟨(ho1 h).choose, (ho1 h).choose_spec.1, Nat.le_trans (by simp <;> omega) (ho1 h).choose_spec.2.1, (ho1 h).choose_spec.2.2⟩); clear hb1 hm1 ho1; obtain ⟨v0, v1, v2, vz⟩ := V1))
    all_goals go_wp2
    all_goals go_ret2
    all_goals exact ⟨⟨A1, c1, l, by rw [← HE.out]; rfl, HM1.out.on (by (repeat' (first | with_reducible exact Below.refl _ _ | with_reducible assumption | with_reducible apply below_drewN | with_reducible apply Below.drew | with_reducible apply Below.setCell | with_reducible apply Below.alloc | (simp; done) | omega | (simp; omega)))), fun h0 => ⟨(HO1.out h0).choose, (HO1.out h0).choose_spec.1, (HO1.out h0).choose_spec.2.1, Own.on (HO1.out h0).choose_spec.2.2 (by (repeat' (first | with_reducible exact Below.refl _ _ | with_reducible assumption | with_reducible apply below_drewN | with_reducible apply Below.drew | with_reducible apply Below.setCell | with_reducible apply Below.alloc | (simp; done) | omega | (simp; omega))))⟩, fun h => h.elim, fun _ => rfl⟩, by (repeat' (first | with_reducible exact Below.refl _ _ | with_reducible assumption | with_reducible apply below_drewN | with_reducible apply Below.drew | with_reducible apply Below.setCell | with_reducible apply Below.alloc | (simp; done) | omega | (simp; omega)))⟩
  · go_enter Try.func34, Try.ntmps34
    go_wp2_with (first | go_skip | fail)
    go_region_with (first
      | (go_at_call 33; (with_reducible refine (HC.out _ (HM.out.on (by (repeat' (first | with_reducible exact Below.refl _ _ | with_reducible assumption | with_reducible apply below_drewN | with_reducible apply Below.drew | with_reducible apply Below.setCell | with_reducible apply Below.alloc | (simp; done) | omega | (simp; omega)))))).mono ?_); rintro e w1 ⟨⟨A1, c1, rfl, hm1, ho1⟩, hb1⟩; have V1 : InV w1 (w.heap.size + 1) ek en ed := InV.on ⟨by simp [go_sem], by simp [go_sem], by simp [go_sem], fun i => by simp [go_sem]⟩ hb1; have b1 : Below w.heap.size w w1 := Below.trans (by (repeat' (first | with_reducible exact Below.refl _ _ | with_reducible assumption | with_reducible apply below_drewN | with_reducible apply Below.drew | with_reducible apply Below.setCell | with_reducible apply Below.alloc | (simp; done) | omega | (simp; omega)))) (hb1.mono (by simp <;> omega)); have HM1 := Lib.hid hm1; have HO1 : Hid (0 < n → ∃ g, A1 = some ⟨g, 0, none⟩ ∧ w.heap.size ≤ g ∧ Own w1 g l) := (fun h => ⟨(ho1 h).choose, (ho1 h).choose_spec.1, Nat.le_trans (by simp <;> omega) (ho1 h).choose_spec.2.1, (ho1 h).choose_spec.2.2⟩); clear hb1 hm1 ho1; obtain ⟨v0, v1, v2, vz⟩ := V1))
    all_goals go_wp2
    all_goals go_ret2
    all_goals exact ⟨⟨A1, c1, l, by rw [← HE.out]; rfl, HM1.out.on (by (repeat' (first | with_reducible exact Below.refl _ _ | with_reducible assumption | with_reducible apply below_drewN | with_reducible apply Below.drew | with_reducible apply Below.setCell | with_reducible apply Below.alloc | (simp; done) | omega | (simp; omega)))), fun h0 => ⟨(HO1.out h0).choose, (HO1.out h0).choose_spec.1, (HO1.out h0).choose_spec.2.1, Own.on (HO1.out h0).choose_spec.2.2 (by (repeat' (first | with_reducible exact Below.refl _ _ | with_reducible assumption | with_reducible apply below_drewN | with_reducible apply Below.drew | with_reducible apply Below.setCell | with_reducible apply Below.alloc | (simp; done) | omega | (simp; omega))))⟩, fun h => h.elim, fun _ => rfl⟩, by (repeat' (first | with_reducible exact Below.refl _ _ | with_reducible assumption | with_reducible apply below_drewN | with_reducible apply Below.drew | with_reducible apply Below.setCell | with_reducible apply Below.alloc | (simp; done) | omega | (simp; omega)))⟩
end Go.Proofs.Ytbaepeccgjoiaaa
