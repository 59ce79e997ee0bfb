import Derived.Test.YtkilbakghacooaaNcRec
namespace Go.Proofs.Ytkilbakghacooaa
set_option linter.unusedVariables false
set_option linter.unusedSimpArgs false
set_option maxRecDepth 20000
open Go.ChangeShapes Go.WideShapes Go.ChangeAt Go.RowKit Go.Proofs.Ytkilbakghacooaa.Num Go.Proofs.Ytkilbakghacooaa.Mem
/-- Both sides of a port write, with one result. -/
def NutB (n : Nat) (l : List Int) (F L : Int) (P : Bool) (B : Int) (R : Bool) (G : Int) (p v a : Int) (F' L' : Int) (P' : Bool) (B' : Int) (R' : Bool) (G' : Int) (o : Option (Int × Int × Int × ByteArray)) : Prop :=
  (∀ A c W, Mem W A n c l → Calls Try.prog 11 #[ncV F L P B R G, .slice A n c, .int .i64 p, .int .u32 v, .int .u64 a] W (NutPost F' L' P' B' R' G' o W)) ∧
  (∀ A c W, Mem W A n c l → Calls Try.prog 12 #[ncV F L P B R G, .slice A n c, .int .i64 p, .int .u32 v, .int .u64 a] W (NutPost F' L' P' B' R' G' o W))
theorem nut_send (n : Nat) (l : List Int) (F L : Int) (P : Bool) (B : Int) (R : Bool) (G : Int) (a : Int) (F0 : 0 ≤ F) (F1 : F ≤ 4294967295) (h1 : 1 ≤ L) (h2 : L ≤ 128) (hF : F < pagesN n) : NutB n l F L P B R G 9 1 a F L P B R G (some (2, a, 0, (pgS n l F).extract 0 L.toNat)) :=
  ⟨fun A c W hm => nOut_ctl F L P B R G F L P B R G A n c l 1 a _ W hm (fun W' hm' => ncCtl_snd F L P B R G A n c l 1 a _ W' hm' rfl (fun W2 hm2 => ncSend_any F L P B R G A n c l a W2 hm2 F0 F1 h1 h2 hF)), fun A c W hm => ncOut_send F L P B R G A n c l 1 a W hm F0 F1 rfl h1 h2 hF⟩
theorem nut_nosend (n : Nat) (l : List Int) (F L : Int) (P : Bool) (B : Int) (R : Bool) (G : Int) (a : Int) (F0 : 0 ≤ F) (F1 : F ≤ 4294967295) (L0 : 0 ≤ L) (L1 : L ≤ 4294967295) (ho : ¬ (1 ≤ L ∧ L ≤ 128 ∧ F < pagesN n)) : NutB n l F L P B R G 9 1 a F L P B R G none :=
  ⟨fun A c W hm => nOut_ctl F L P B R G F L P B R G A n c l 1 a _ W hm (fun W' hm' => ncCtl_snd F L P B R G A n c l 1 a _ W' hm' rfl (fun W2 hm2 => ncNoSend_any F L P B R G A n c l a W2 hm2 F0 F1 L0 L1 ho)), fun A c W hm => ncOut_nosend F L P B R G A n c 1 a hm.2.2.1 F0 F1 rfl ho W⟩
theorem nut_post (n : Nat) (l : List Int) (F L : Int) (P : Bool) (B : Int) (R : Bool) (G : Int) (a : Int) (F0 : 0 ≤ F) (F1 : F ≤ 4294967295) (hP : P = false) (hR : R = false) (hF : F < pagesN n) : NutB n l F L P B R G 9 2 a F L true F R G none :=
  ⟨fun A c W hm => nOut_ctl F L P B R G F L true F R G A n c l 2 a _ W hm (fun W' hm' => ncCtl_pst F L P B R G F L true F R G A n c 2 a W' hm'.2.2.1 rfl (fun W2 => ncPost_any F L P B R G _ W2 F0 F1 hF hP hR)), fun A c W hm => ncOut_post F L P B R G A n c 2 a hm.2.2.1 F0 F1 rfl hP hR hF W⟩
theorem nut_nopost (n : Nat) (l : List Int) (F L : Int) (P : Bool) (B : Int) (R : Bool) (G : Int) (a : Int) (F0 : 0 ≤ F) (F1 : F ≤ 4294967295) (ho : ¬ (F < pagesN n ∧ P = false ∧ R = false)) : NutB n l F L P B R G 9 2 a F L P B R G none :=
  ⟨fun A c W hm => nOut_ctl F L P B R G F L P B R G A n c l 2 a _ W hm (fun W' hm' => ncCtl_pst F L P B R G F L P B R G A n c 2 a W' hm'.2.2.1 rfl (fun W2 => ncNoPost_any F L P B R G _ W2 F0 F1 ho)), fun A c W hm => ncOut_nopost F L P B R G A n c 2 a hm.2.2.1 F0 F1 rfl ho W⟩
theorem nut_ack (n : Nat) (l : List Int) (F L : Int) (P : Bool) (B : Int) (R : Bool) (G : Int) (a : Int) : NutB n l F L P B R G 9 0 a F L P B false 0 none :=
  ⟨fun A c W hm => nOut_ctl F L P B R G F L P B false 0 A n c l 0 a _ W hm (fun W' hm' => ncCtl_ack F L P B R G A n c 0 a rfl W'), fun A c W hm => ncOut_ack F L P B R G A n c 0 a rfl W⟩
theorem may_iff (P : Bool) (B : Int) (R : Bool) (G p : Int) : ncMay P B R G p = true ↔ (¬ (P = true ∧ R = true) ∧ (P = true → B < p) ∧ (¬ P = true → B = 0) ∧ (R = true → 1 ≤ G ∧ G ≤ 128) ∧ (¬ R = true → G = 0)) := by
  unfold ncMay; rw [decide_eq_true_iff]
/-- Any port write: both sides agree; bounds and validity go on. -/
theorem nut_both (n : Nat) (l : List Int) (F L : Int) (P : Bool) (B : Int) (R : Bool) (G : Int) (p v a : Int) (F0 : 0 ≤ F) (F1 : F ≤ 4294967295) (L0 : 0 ≤ L) (L1 : L ≤ 4294967295) (b0 : 0 ≤ B) (b1 : B ≤ 4294967295) (g0 : 0 ≤ G) (g1 : G ≤ 4294967295) :
    ∃ F' L' P' B' R' G' o, NutB n l F L P B R G p v a F' L' P' B' R' G' o ∧ 0 ≤ B' ∧ B' ≤ 4294967295 ∧ 0 ≤ G' ∧ G' ≤ 4294967295 ∧ (ncMay P B R G (pagesN n) = true → ncMay P' B' R' G' (pagesN n) = true) := by
  by_cases h4 : p = 7
  · exact ⟨v, L, P, B, R, G, none, ⟨fun A c W hm => nOut_frame F L P B R G A n c p v a h4 W, fun A c W hm => ncOut_frame F L P B R G A n c p v a h4 W⟩, b0, b1, g0, g1, id⟩
  by_cases h5 : p = 8
  · exact ⟨F, v, P, B, R, G, none, ⟨fun A c W hm => nOut_len F L P B R G A n c p v a h5 W, fun A c W hm => ncOut_len F L P B R G A n c p v a h5 W⟩, b0, b1, g0, g1, id⟩
  by_cases h6 : p = 9
  · subst h6
    by_cases h0 : v = 0
    · subst h0
      refine ⟨F, L, P, B, false, 0, none, nut_ack n l F L P B R G a, b0, b1, by omega, by omega, ?_⟩
      rw [may_iff, may_iff]
      exact fun h => ⟨fun x => (by cases x.2), h.2.1, h.2.2.1, fun x => (by cases x), fun _ => rfl⟩
    by_cases h1 : v = 1
    · subst h1
      by_cases ho : 1 ≤ L ∧ L ≤ 128 ∧ F < pagesN n
      · exact ⟨F, L, P, B, R, G, _, nut_send n l F L P B R G a F0 F1 ho.1 ho.2.1 ho.2.2, b0, b1, g0, g1, id⟩
      · exact ⟨F, L, P, B, R, G, _, nut_nosend n l F L P B R G a F0 F1 L0 L1 ho, b0, b1, g0, g1, id⟩
    by_cases h2 : v = 2
    · subst h2
      by_cases ho : F < pagesN n ∧ P = false ∧ R = false
      · refine ⟨F, L, true, F, R, G, _, nut_post n l F L P B R G a F0 F1 ho.2.1 ho.2.2 ho.1, F0, F1, g0, g1, ?_⟩
        rw [may_iff, may_iff]
        exact fun h => ⟨fun x => (by rw [ho.2.2] at x; cases x.2), fun _ => ho.1, fun x => (x rfl).elim, h.2.2.2.1, h.2.2.2.2⟩
      · exact ⟨F, L, P, B, R, G, _, nut_nopost n l F L P B R G a F0 F1 ho, b0, b1, g0, g1, id⟩
    · exact ⟨F, L, P, B, R, G, _, ⟨fun A c W hm => nOut_ctl F L P B R G F L P B R G A n c l v a _ W hm (fun W' hm' => ncCtl_x F L P B R G A n c v a h0 h1 h2 W'), fun A c W hm => ncOut_x F L P B R G A n c v a h0 h1 h2 W⟩, b0, b1, g0, g1, id⟩
  · exact ⟨F, L, P, B, R, G, _, ⟨fun A c W hm => nOut_other F L P B R G A n c p v a h4 h5 h6 W, fun A c W hm => ncOut_other F L P B R G A n c p v a h4 h5 h6 W⟩, b0, b1, g0, g1, id⟩
/-- Both sides of a delivery, with one result. -/
def RecB (n : Nat) (l : List Int) (F L : Int) (P : Bool) (B : Int) (R : Bool) (G : Int) (D : ByteArray) (F' L' : Int) (P' : Bool) (B' : Int) (R' : Bool) (G' : Int) (ok : Bool) (rd : Prop) (f : Nat) : Prop :=
  (∀ A c W, Mem W A n c l → Calls Try.prog 19 #[ncV F L P B R G, .slice A n c, .string D] W (RecPost n l F' L' P' B' R' G' ok rd D f W)) ∧
  (∀ A c W, Mem W A n c l → Calls Try.prog 20 #[ncV F L P B R G, .slice A n c, .string D] W (RecPost n l F' L' P' B' R' G' ok rd D f W))
theorem recB_no (n : Nat) (l : List Int) (F L : Int) (P : Bool) (B : Int) (R : Bool) (G : Int) (D : ByteArray) (f : Nat) (h0 : 0 < n) (b0 : 0 ≤ B) (b1 : B ≤ 4294967295) (hs : D.size ≤ 1000) (ho : ¬ (P = true ∧ 1 ≤ D.size ∧ D.size ≤ 128 ∧ B < pagesN n)) : RecB n l F L P B R G D F L P B R G false False f :=
  ⟨fun A c W hm => recP_no F L P B R G A n c l D f W hm h0 b0 b1 hs ho, fun A c W hm => recR_no F L P B R G A n c l D f W hm h0 b0 b1 hs ho⟩
theorem recB_yes (n : Nat) (l : List Int) (F L : Int) (f : Nat) (R : Bool) (G : Int) (D : ByteArray) (hf : f < pagesN n) (s1 : 1 ≤ D.size) (s2 : D.size ≤ 128) : RecB n l F L true f R G D F L false 0 true D.size true True f :=
  ⟨fun A c W hm => recP_yes F L f R G A n c l D W hm hf s1 s2, fun A c W hm => recR_yes F L f R G A n c l D W hm hf s1 s2⟩
theorem rec_both (n : Nat) (l : List Int) (F L : Int) (P : Bool) (B : Int) (R : Bool) (G : Int) (D : ByteArray) (h0 : 0 < n) (b0 : 0 ≤ B) (b1 : B ≤ 4294967295) (g0 : 0 ≤ G) (g1 : G ≤ 4294967295) (hs : D.size ≤ 1000) :
    ∃ F' L' P' B' R' G' ok rd f, RecB n l F L P B R G D F' L' P' B' R' G' ok rd f ∧ 0 ≤ B' ∧ B' ≤ 4294967295 ∧ 0 ≤ G' ∧ G' ≤ 4294967295 ∧ (ncMay P B R G (pagesN n) = true → ncMay P' B' R' G' (pagesN n) = true) := by
  by_cases ho : P = true ∧ 1 ≤ D.size ∧ D.size ≤ 128 ∧ B < pagesN n
  · obtain ⟨rfl, s1, s2, hB⟩ := ho
    obtain ⟨f, rfl⟩ : ∃ f : Nat, B = f := ⟨B.toNat, by omega⟩
    refine ⟨F, L, false, 0, true, D.size, true, True, f, recB_yes n l F L f R G D (by omega) s1 s2, by omega, by omega, by omega, by omega, ?_⟩
    rw [may_iff, may_iff]
    exact fun h => ⟨fun x => (by cases x.1), fun x => (by cases x), fun _ => rfl, fun _ => ⟨by omega, by omega⟩, fun x => (x rfl).elim⟩
  · exact ⟨F, L, P, B, R, G, false, False, 0, recB_no n l F L P B R G D 0 h0 b0 b1 hs ho, b0, b1, g0, g1, id⟩
end Go.Proofs.Ytkilbakghacooaa
