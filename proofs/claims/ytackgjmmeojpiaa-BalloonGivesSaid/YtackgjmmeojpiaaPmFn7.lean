import Derived.Test.YtackgjmmeojpiaaPmFn6
namespace Go.Proofs.Ytackgjmmeojpiaa
set_option linter.unusedVariables false
set_option linter.unusedSimpArgs false
open Go.ChangeShapes Go.WideShapes Go.ChangeAt Go.RowKit Go.Proofs.Ytackgjmmeojpiaa.Num Go.Proofs.Ytackgjmmeojpiaa.Mem
/-- The words of a page. -/
def pageL (l : List Int) (f : Nat) : List Int := (l.drop (32 * f)).take 32
theorem pageL_len {l : List Int} {f : Nat} (h : 32 * f + 32 ≤ l.length) : (pageL l f).length = 32 := by simp [pageL]; omega
theorem pageL_wd {l : List Int} {f i : Nat} (hi : i < 32) : wd (pageL l f) i = wd l (32 * f + i) := by
  unfold pageL wd
  rw [List.getD_eq_getElem?_getD, List.getD_eq_getElem?_getD, List.getElem?_take, if_pos hi, List.getElem?_drop]
theorem Mem.page {w : World} {b off n c f : Nat} {l : List Int} (h : Mem w (some ⟨b, off, none⟩) n c l) (hf : 32 * f + 32 ≤ n) : Mem w (some ⟨b, off + 32 * f, none⟩) 32 (c - 32 * f) (pageL l f) := by
  obtain ⟨hl, hc, hn, hu, hr⟩ := h
  refine ⟨pageL_len (by omega), by omega, by omega, fun x hx => hu x (List.mem_of_mem_drop (List.mem_of_mem_take hx)), fun _ => ⟨b, off + 32 * f, rfl, fun i hi => ?_⟩⟩
  rw [pageL_len (by omega)] at hi
  obtain ⟨b', off', hA, hcc⟩ := hr (by omega)
  injection hA with hA
  injection hA with hA1 hA2
  subst hA1 hA2
  rw [pageL_wd hi, Nat.add_assoc]
  exact hcc _ (by omega)
theorem ret_slice {b o o' n n' c c' : Nat} (h1 : o = o') (h2 : n = n') (h3 : c = c') : Ending.returned (.slice (some ⟨b, o, none⟩) n c) = .returned (.slice (some ⟨b, o', none⟩) n' c') := by rw [h1, h2, h3]
set_option maxRecDepth 100000 in
theorem pageOf_at (b off n c f : Nat) (w : World) (hf : 32 * f + 32 ≤ n) (hc : n ≤ c) (hn : n ≤ 1024) :
    Calls Try.prog 38 #[.slice (some ⟨b, off, none⟩) n c, .int .i64 f] w fun e w' => e = .returned (.slice (some ⟨b, off + 32 * f, none⟩) 32 (c - 32 * f)) ∧ w = w' := by
  have h1 : ¬ c = 32 * f := by omega
  go_enter Try.func38, Try.ntmps38
  go_wp2
  go_ret
  exact ⟨ret_slice (by omega) (by omega) (by omega), rfl⟩
theorem hasPage_any (A : Option Addr) (n c : Nat) (f : Int) (w : World) (hn : n ≤ 1024) :
    Calls Try.prog 37 #[.slice A n c, .int .i64 f] w fun e w' => e = .returned (.bool (decide (0 ≤ f ∧ f < pagesN n))) ∧ ∃ m, w' = w.drewN m := by
  have hp := pagesN_le n
  go_enter Try.func37, Try.ntmps37
  go_wp2_with (go_at_call 46; refine (pages_any _ _ _ _ (by omega)).mono ?_; rintro e w2 ⟨rfl, m2, rfl⟩)
  all_goals go_ret
  all_goals first | refine ⟨ret_bool ?_, m2, rfl⟩ | refine ⟨ret_bool ?_, 0, rfl⟩
  all_goals (rw [Bool.eq_iff_iff]; simp; try omega)
end Go.Proofs.Ytackgjmmeojpiaa
