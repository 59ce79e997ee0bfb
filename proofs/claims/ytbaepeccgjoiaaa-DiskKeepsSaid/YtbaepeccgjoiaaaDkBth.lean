import Derived.Test.YtbaepeccgjoiaaaDkCmp
namespace Go.Proofs.Ytbaepeccgjoiaaa
set_option linter.unusedVariables false
set_option linter.unusedSimpArgs false
set_option maxRecDepth 20000
open Go.ChangeShapes Go.WideShapes Go.ChangeAt Go.RowKit Go.Proofs.Ytbaepeccgjoiaaa.Num Go.Proofs.Ytbaepeccgjoiaaa.Mem
theorem CmpPost.iff {n : Nat} {l : List Int} {B K F S C OB OF : Int} {D : ByteArray} {ok : Bool} {rd rd' : Prop} {s : List UInt8} {f : Nat} {w w' : World} {e : Ending} (h : CmpPost n l B K F S C OB OF D ok rd s f w e w') (hr : rd ↔ rd') : CmpPost n l B K F S C OB OF D ok rd' s f w e w' := by
  obtain ⟨⟨A, c, l', h1, h2, h3, h4, h5⟩, hb⟩ := h
  exact ⟨⟨A, c, l', h1, h2, h3, fun h => h4 (hr.2 h), fun h => h5 (fun h2 => h (hr.1 h2))⟩, hb⟩
/-- Both sides of a completion, with one result. -/
def CmpB (n : Nat) (l : List Int) (B K F S C OB OF : Int) (D : ByteArray) (ek en : Int) (ed : ByteArray) (S' C' OB' OF' : Int) (D' : ByteArray) (ok : Bool) (rd : Prop) (s : List UInt8) (f : Nat) : Prop :=
  (∀ A c W, Mem W A n c l → Calls Try.prog 19 #[dkV B K F S C OB OF D, .slice A n c, evV ek en ed] W (CmpPost n l B K F S' C' OB' OF' D' ok rd s f W)) ∧
  (∀ A c W, Mem W A n c l → Calls Try.prog 20 #[dkV B K F S C OB OF D, .slice A n c, evV ek en ed] W (CmpPost n l B K F S' C' OB' OF' D' ok rd s f W))
theorem cmp_no (n : Nat) (l : List Int) (B K F S C OB OF : Int) (D : ByteArray) (ek en : Int) (ed : ByteArray) (s : List UInt8) (f : Nat) (h0 : 0 < n) (hn : n ≤ 1024) (o0 : 0 ≤ OF) (o1 : OF ≤ 4294967295) (n0 : 0 ≤ en) (hno : ¬ dkFits n S C OF ek en ed) :
    ∀ A c W, Mem W A n c l → Calls Try.prog 20 #[dkV B K F S C OB OF D, .slice A n c, evV ek en ed] W (CmpPost n l B K F S C OB OF D false False s f W) :=
  fun A c W hm => compR_plain B K F S C OB OF B K F S C OB OF D D false s f A n c l ek en ed W hm h0 (fun A2 c2 W2 => fin_no B K F S C OB OF D A2 n c2 ek en ed W2 hn o0 o1 n0 hno)
/-- A read that fits. -/
theorem comp_read (n : Nat) (l : List Int) (B K F OB OF : Int) (D : ByteArray) (ed : ByteArray) (h0 : 0 < n) (o0 : 0 ≤ OF) (o1 : OF ≤ 4294967295) (hf : OF < pagesN n) (hs : ed.size = 128) :
    CmpB n l B K F 1 1 OB OF D 4 1 ed 2 0 0 0 ⟨#[]⟩ true True ed.data.toList OF.toNat := by
  refine ⟨fun A c W hm => ?_, fun A c W hm => ?_⟩
  · have h := cmp_tra B K F 1 OB OF D _ _ _ _ A n c l 1 ed W hm h0 (.inr rfl) (fun W' hm' => tra_read B K F 1 OB OF D A n c l 4 ed W' hm' o0 o1 (by omega))
    rw [decide_eq_true (⟨hf, hs⟩ : OF < pagesN n ∧ ed.size = 128)] at h
    exact h.mono fun e w' hp => CmpPost.iff hp ⟨fun _ => trivial, fun _ => ⟨hf, hs⟩⟩
  · obtain ⟨f, rfl⟩ : ∃ f : Nat, OF = f := ⟨OF.toNat, by omega⟩
    exact compR_read B K F OB f D A n c l ed W hm (by omega) hs
theorem comp_both (n : Nat) (l : List Int) (B K F S C OB OF : Int) (D : ByteArray) (ek en : Int) (ed : ByteArray) (h0 : 0 < n) (hn : n ≤ 1024) (o0 : 0 ≤ OF) (o1 : OF ≤ 4294967295) (n0 : 0 ≤ en) (hs : ed.size ≤ 1000) :
    ∃ S' C' OB' OF' D' ok rd s f, CmpB n l B K F S C OB OF D ek en ed S' C' OB' OF' D' ok rd s f ∧ 0 ≤ OF' ∧ OF' ≤ 4294967295 ∧ (dkMay B S C OB OF D (pagesN n) = true → dkMay B S' C' OB' OF' D' (pagesN n) = true) := by
  by_cases hg : S = 1 ∧ ek = 4 ∧ (en = 0 ∨ en = 1)
  case neg =>
    exact ⟨S, C, OB, OF, D, false, False, [], 0, ⟨fun A c W hm => cmp_guard B K F S C OB OF D [] 0 A n c l ek en ed W hm h0 hg, cmp_no n l B K F S C OB OF D ek en ed [] 0 h0 hn o0 o1 n0 (fun h => hg ⟨h.1, h.2.1, h.2.2.1⟩)⟩, o0, o1, id⟩
  obtain ⟨rfl, rfl, hN⟩ := hg
  by_cases hr : en = 1 ∧ C = 1
  · obtain ⟨rfl, rfl⟩ := hr
    by_cases hf : OF < pagesN n ∧ ed.size = 128
    · refine ⟨2, 0, 0, 0, ⟨#[]⟩, true, True, _, _, comp_read n l B K F OB OF D ed h0 o0 o1 hf.1 hf.2, by omega, by omega, ?_⟩
      unfold dkMay
      simp only [decide_eq_true_eq]
      exact fun h => ⟨h.1, by omega, by omega, fun h => absurd h (by decide), fun _ => ⟨trivial, trivial, trivial, rfl⟩⟩
    · refine ⟨1, 1, OB, OF, D, false, False, ed.data.toList, OF.toNat, ⟨fun A c W hm => ?_, cmp_no n l B K F 1 1 OB OF D 4 1 ed _ _ h0 hn o0 o1 n0 (fun h => hf ⟨(h.2.2.2.1 ⟨rfl, rfl⟩).2, (h.2.2.2.1 ⟨rfl, rfl⟩).1⟩)⟩, o0, o1, id⟩
      have h := cmp_tra B K F 1 OB OF D _ _ _ _ A n c l 1 ed W hm h0 (.inr rfl) (fun W' hm' => tra_read B K F 1 OB OF D A n c l 4 ed W' hm' o0 o1 hs)
      rw [decide_eq_false hf] at h
      exact h.mono fun e w' hp => CmpPost.iff hp ⟨fun h => hf h, fun h => h.elim⟩
  · by_cases hz : ed.size = 0
    · refine ⟨if en = 1 then 2 else 3, 0, 0, 0, ⟨#[]⟩, true, False, [], 0, ⟨fun A c W hm => ?_, fun A c W hm => ?_⟩, by omega, by omega, ?_⟩
      · have h := cmp_tra B K F C OB OF D _ _ _ _ A n c l en ed W hm h0 hN (fun W' hm' => tra_plain B K F 1 C OB OF D A n c l 4 en ed W' hm' hr)
        rw [decide_eq_true hz] at h
        exact h
      · exact compR_plain B K F 1 C OB OF B K F _ 0 0 0 D _ true [] 0 A n c l 4 en ed W hm h0 (fun A2 c2 W2 => fin_plain B K F C OB OF D A2 n c2 en ed W2 hN hr hz)
      · unfold dkMay
        simp only [decide_eq_true_eq]
        intro h
        have hb := h.1
        rcases hN with rfl | rfl
        · rw [if_neg (by decide)]
          exact ⟨hb, by omega, by omega, fun h => absurd h (by decide), fun _ => ⟨trivial, trivial, trivial, rfl⟩⟩
        · rw [if_pos rfl]
          exact ⟨hb, by omega, by omega, fun h => absurd h (by decide), fun _ => ⟨trivial, trivial, trivial, rfl⟩⟩
    · refine ⟨1, C, OB, OF, D, false, False, [], 0, ⟨fun A c W hm => ?_, cmp_no n l B K F 1 C OB OF D 4 en ed _ _ h0 hn o0 o1 n0 (fun h => hz (h.2.2.2.2 hr))⟩, o0, o1, id⟩
      have h := cmp_tra B K F C OB OF D _ _ _ _ A n c l en ed W hm h0 hN (fun W' hm' => tra_plain B K F 1 C OB OF D A n c l 4 en ed W' hm' hr)
      rw [decide_eq_false hz] at h
      exact h
end Go.Proofs.Ytbaepeccgjoiaaa
