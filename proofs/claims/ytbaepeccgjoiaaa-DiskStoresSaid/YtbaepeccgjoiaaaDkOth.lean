import Derived.Test.YtbaepeccgjoiaaaDkPr3
namespace Go.Proofs.Ytbaepeccgjoiaaa
set_option linter.unusedVariables false
set_option linter.unusedSimpArgs false
set_option maxRecDepth 20000
open Go.ChangeShapes Go.WideShapes Go.ChangeAt Go.RowKit Go.Proofs.Ytbaepeccgjoiaaa.Num Go.Proofs.Ytbaepeccgjoiaaa.Mem
/-- Both sides of a port write, with one result. -/
def OutB (n : Nat) (l : List Int) (B K F S C OB OF : Int) (D : ByteArray) (p v a : Int) (B' K' F' S' C' OB' OF' : Int) (D' : ByteArray) (o : Option (Int × Int × Int × ByteArray)) : Prop :=
  (∀ A c W, Mem W A n c l → Calls Try.prog 10 #[dkV B K F S C OB OF D, .slice A n c, .int .i64 p, .int .u32 v, .int .u64 a] W (OutPost B' K' F' S' C' OB' OF' D' o W)) ∧
  (∀ A c W, Mem W A n c l → Calls Try.prog 11 #[dkV B K F S C OB OF D, .slice A n c, .int .i64 p, .int .u32 v, .int .u64 a] W (OutPost B' K' F' S' C' OB' OF' D' o W))
theorem pgS_size {n : Nat} {l : List Int} {F : Int} (hl : l.length = n) (h0 : 0 ≤ F) (h1 : F < pagesN n) : (pgS n l F).size = 128 := by
  unfold pgS
  rw [if_pos ⟨h0, h1⟩]
  have hp := pagesN_le n
  exact pageS_size (by omega)
/-- A busy controller keeps its command. -/
theorem out_busy (n : Nat) (l : List Int) (B K F C OB OF : Int) (D : ByteArray) (p v a : Int) : ∃ K' F', (K' = K ∨ K' = v) ∧ (F' = F ∨ F' = v) ∧ OutB n l B K F 1 C OB OF D p v a B K' F' 1 C OB OF D none := by
  by_cases h4 : p = 4
  · exact ⟨v, F, .inr rfl, .inl rfl, fun A c W hm => out_block _ _ _ _ _ _ _ _ A n c p v a W h4, fun A c W hm => dkOut_block _ _ _ _ _ _ _ _ A n c p v a W h4⟩
  by_cases h5 : p = 5
  · exact ⟨K, v, .inl rfl, .inr rfl, fun A c W hm => out_frame _ _ _ _ _ _ _ _ A n c p v a W h5, fun A c W hm => dkOut_frame _ _ _ _ _ _ _ _ A n c p v a W h5⟩
  by_cases h6 : p = 6
  · subst h6
    refine ⟨K, F, .inl rfl, .inl rfl, ?_⟩
    by_cases h0 : v = 0
    · subst h0
      exact ⟨fun A c W hm => out_ctl _ _ _ _ _ _ _ _ _ _ _ _ _ _ _ _ A n c l 0 a _ W hm (fun W' _ => ctl_idle0 _ _ _ _ _ _ _ _ A n c a W' (by omega)), fun A c W hm => dkOut_idle0 _ _ _ _ _ _ _ _ A n c 0 a W rfl (by omega) (by omega)⟩
    by_cases h12 : v = 1 ∨ v = 2
    · exact ⟨fun A c W hm => out_ctl _ _ _ _ _ _ _ _ _ _ _ _ _ _ _ _ A n c l v a _ W hm (fun W' _ => ctl_busy _ _ _ _ _ _ _ _ A n c v a W' h12 (by omega)), fun A c W hm => dkOut_busy _ _ _ _ _ _ _ _ A n c v a W h12 (by omega)⟩
    · exact ⟨fun A c W hm => out_ctl _ _ _ _ _ _ _ _ _ _ _ _ _ _ _ _ A n c l v a _ W hm (fun W' _ => ctl_idleX _ _ _ _ _ _ _ _ A n c v a W' h0 (by omega) (by omega)), fun A c W hm => dkOut_idleX _ _ _ _ _ _ _ _ A n c v a W h0 (by omega) (by omega)⟩
  · exact ⟨K, F, .inl rfl, .inl rfl, fun A c W hm => out_other _ _ _ _ _ _ _ _ A n c p v a W h4 h5 h6, fun A c W hm => dkOut_other _ _ _ _ _ _ _ _ A n c p v a W h4 h5 h6⟩
theorem out_issued (n : Nat) (l : List Int) (B K F C OB OF : Int) (D : ByteArray) (v a : Int) (F0 : 0 ≤ F) (F1 : F ≤ 4294967295) (hK : K < B) (hF : F < pagesN n) (hv : v = 1 ∨ v = 2) :
    OutB n l B K F 0 C OB OF D 6 v a B K F 1 v K F (if v = 2 then pgS n l F else ⟨#[]⟩) (some (if v = 2 then 4 else 3, a, K, if v = 2 then pgS n l F else ⟨#[]⟩)) :=
  ⟨fun A c W hm => out_ctl _ _ _ _ _ _ _ _ _ _ _ _ _ _ _ _ A n c l v a _ W hm (fun W' hm' => ctl_issue _ _ _ _ _ _ _ _ _ _ _ _ _ _ _ A n c l v a _ W' hm' hv (fun W2 hm2 => dkIssue_any _ _ _ _ _ _ _ A n c l v a W2 hm2 hK F0 F1 hF hv)), fun A c W hm => dkOut_issue _ _ _ _ _ _ _ A n c l v a W hm hK F0 F1 hF hv⟩
theorem out_error (n : Nat) (l : List Int) (B K F C OB OF : Int) (D : ByteArray) (v a : Int) (F0 : 0 ≤ F) (F1 : F ≤ 4294967295) (ho : ¬ (K < B ∧ F < pagesN n)) (hv : v = 1 ∨ v = 2) :
    OutB n l B K F 0 C OB OF D 6 v a B K F 3 C OB OF D none :=
  ⟨fun A c W hm => out_ctl _ _ _ _ _ _ _ _ _ _ _ _ _ _ _ _ A n c l v a _ W hm (fun W' hm' => ctl_issue _ _ _ _ _ _ _ _ _ _ _ _ _ _ _ A n c l v a _ W' hm' hv (fun W2 hm2 => dkErr_any _ _ _ _ _ _ _ A n c v a W2 hm2.2.2.1 F0 F1 ho)), fun A c W hm => dkOut_error _ _ _ _ _ _ _ _ A n c v a W hm.2.2.1 F0 F1 hv rfl ho⟩
/-- Any port write: both sides agree; bounds and validity go on. -/
theorem out_both (n : Nat) (l : List Int) (B K F S C OB OF : Int) (D : ByteArray) (p v a : Int) (hl : l.length = n) (F0 : 0 ≤ F) (F1 : F ≤ 4294967295) (o0 : 0 ≤ OF) (o1 : OF ≤ 4294967295) :
    ∃ K' F' S' C' OB' OF' D' o, OutB n l B K F S C OB OF D p v a B K' F' S' C' OB' OF' D' o ∧ 0 ≤ OF' ∧ OF' ≤ 4294967295 ∧ (dkMay B S C OB OF D (pagesN n) = true → dkMay B S' C' OB' OF' D' (pagesN n) = true) := by
  by_cases h4 : p = 4
  · exact ⟨v, F, S, C, OB, OF, D, none, ⟨fun A c W hm => out_block _ _ _ _ _ _ _ _ A n c p v a W h4, fun A c W hm => dkOut_block _ _ _ _ _ _ _ _ A n c p v a W h4⟩, o0, o1, id⟩
  by_cases h5 : p = 5
  · exact ⟨K, v, S, C, OB, OF, D, none, ⟨fun A c W hm => out_frame _ _ _ _ _ _ _ _ A n c p v a W h5, fun A c W hm => dkOut_frame _ _ _ _ _ _ _ _ A n c p v a W h5⟩, o0, o1, id⟩
  by_cases h6 : p = 6
  · subst h6
    by_cases h0 : v = 0
    · subst h0
      by_cases hS : S = 2 ∨ S = 3
      · refine ⟨K, F, 0, C, OB, OF, D, none, ⟨fun A c W hm => out_ctl _ _ _ _ _ _ _ _ _ _ _ _ _ _ _ _ A n c l 0 a _ W hm (fun W' _ => ctl_ack _ _ _ _ _ _ _ _ A n c a W' hS), fun A c W hm => dkOut_ack _ _ _ _ _ _ _ _ A n c 0 a W rfl hS⟩, o0, o1, ?_⟩
        unfold dkMay
        simp only [decide_eq_true_eq]
        omega
      · exact ⟨K, F, S, C, OB, OF, D, none, ⟨fun A c W hm => out_ctl _ _ _ _ _ _ _ _ _ _ _ _ _ _ _ _ A n c l 0 a _ W hm (fun W' _ => ctl_idle0 _ _ _ _ _ _ _ _ A n c a W' hS), fun A c W hm => dkOut_idle0 _ _ _ _ _ _ _ _ A n c 0 a W rfl (by omega) (by omega)⟩, o0, o1, id⟩
    by_cases h12 : v = 1 ∨ v = 2
    · by_cases hS : S = 0
      · subst hS
        by_cases ho : K < B ∧ F < pagesN n
        · refine ⟨K, F, 1, v, K, F, _, _, out_issued n l B K F C OB OF D v a F0 F1 ho.1 ho.2 h12, F0, F1, ?_⟩
          have hs := pgS_size hl F0 ho.2
          unfold dkMay
          simp only [decide_eq_true_eq]
          rcases h12 with rfl | rfl
          · rw [if_neg (by decide)]
            exact fun h => ⟨h.1, by omega, by omega, fun _ => ⟨ho.1, ho.2, .inl ⟨rfl, rfl⟩⟩, fun h => (h trivial).elim⟩
          · rw [if_pos rfl]
            exact fun h => ⟨h.1, by omega, by omega, fun _ => ⟨ho.1, ho.2, .inr ⟨rfl, hs⟩⟩, fun h => (h trivial).elim⟩
        · refine ⟨K, F, 3, C, OB, OF, D, none, out_error n l B K F C OB OF D v a F0 F1 ho h12, o0, o1, ?_⟩
          unfold dkMay
          simp only [decide_eq_true_eq]
          omega
      · exact ⟨K, F, S, C, OB, OF, D, none, ⟨fun A c W hm => out_ctl _ _ _ _ _ _ _ _ _ _ _ _ _ _ _ _ A n c l v a _ W hm (fun W' _ => ctl_busy _ _ _ _ _ _ _ _ A n c v a W' h12 hS), fun A c W hm => dkOut_busy _ _ _ _ _ _ _ _ A n c v a W h12 hS⟩, o0, o1, id⟩
    · exact ⟨K, F, S, C, OB, OF, D, none, ⟨fun A c W hm => out_ctl _ _ _ _ _ _ _ _ _ _ _ _ _ _ _ _ A n c l v a _ W hm (fun W' _ => ctl_idleX _ _ _ _ _ _ _ _ A n c v a W' h0 (by omega) (by omega)), fun A c W hm => dkOut_idleX _ _ _ _ _ _ _ _ A n c v a W h0 (by omega) (by omega)⟩, o0, o1, id⟩
  · exact ⟨K, F, S, C, OB, OF, D, none, ⟨fun A c W hm => out_other _ _ _ _ _ _ _ _ A n c p v a W h4 h5 h6, fun A c W hm => dkOut_other _ _ _ _ _ _ _ _ A n c p v a W h4 h5 h6⟩, o0, o1, id⟩
end Go.Proofs.Ytbaepeccgjoiaaa
