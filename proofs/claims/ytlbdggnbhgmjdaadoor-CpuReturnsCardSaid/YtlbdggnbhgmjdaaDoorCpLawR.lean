import Derived.Test.YtlbdggnbhgmjdaaDoorCpLawC
import Derived.Test.YtlbdggnbhgmjdaaDoorCpOpen
namespace Go.Proofs.YtlbdggnbhgmjdaaDoor
set_option linter.unusedVariables false
set_option linter.unusedSimpArgs false
set_option maxRecDepth 20000
open Go.ChangeShapes Go.WideShapes Go.ChangeAt Go.RowKit Go.Proofs.YtlbdggnbhgmjdaaDoor.Num Go.Proofs.YtlbdggnbhgmjdaaDoor.Mem Go.Proofs.YtlbdggnbhgmjdaaDoor.Isa
theorem and_7 (x : Int) (h0 : 0 ≤ x) (h1 : x ≤ 4294967295) : bits .and .u32 x 7 = x % 8 := by
  obtain ⟨X, rfl⟩ : ∃ X : Nat, x = X := ⟨x.toNat, by omega⟩
  have h := u32_and_nat X 7 (by omega) (by omega)
  rw [show (7 : Nat) = 2 ^ 3 - 1 from rfl, Nat.and_two_pow_sub_one_eq_mod] at h
  exact h.trans (by omega)
theorem rtr_fin : ∀ r : Fin 32, rtT (trT r.1) % 8 = r.1 % 8 := by decide +kernel
theorem rtr_low (s : Int) (h0 : 0 ≤ s) (h1 : s ≤ 4294967295) : rtS (trS s) % 8 = s % 8 := by
  obtain ⟨q, r, hr, hq, rfl⟩ := st_split s h0 h1
  rw [trS_low q r hr, rtS_low q (trT r) (trT_lt r)]
  have := rtr_fin ⟨r, hr⟩
  simp only at this
  omega
theorem ret_facts {N : List Int} (hN : C25 N) (c b : Int) (b0 : 0 ≤ b) (b1 : b ≤ 4294967295) : wd (retL (trapL N c b)) 16 = wd N 16 ∧ wd (retL (trapL N c b)) 17 % 8 = wd N 17 % 8 ∧ ∀ i, i < 16 → wd (retL (trapL N c b)) i = wd N i := by
  have hs := hN.bd 17
  have hl := hN.1
  have w1 := wd_sets
  unfold retL trapL
  refine ⟨?_, ?_, fun i hi => ?_⟩
  · simp [wd_sets, hl]
  · simp [wd_sets, hl]
    exact rtr_low _ hs.1 hs.2
  · have n16 : ¬ 16 = i := by omega
    have n17 : ¬ 17 = i := by omega
    have n19 : ¬ 19 = i := by omega
    have n20 : ¬ 20 = i := by omega
    have n21 : ¬ 21 = i := by omega
    simp [wd_sets, hl, n16, n17, n19, n20, n21]
theorem eq_lit16 (N : List Int) (w : World) : (Op.equalIn 10000 26 (.agg #[.int .u32 (wd N 0), .int .u32 (wd N 1), .int .u32 (wd N 2), .int .u32 (wd N 3), .int .u32 (wd N 4), .int .u32 (wd N 5), .int .u32 (wd N 6), .int .u32 (wd N 7), .int .u32 (wd N 8), .int .u32 (wd N 9), .int .u32 (wd N 10), .int .u32 (wd N 11), .int .u32 (wd N 12), .int .u32 (wd N 13), .int .u32 (wd N 14), .int .u32 (wd N 15)]) (.agg #[.int .u32 (wd N 0), .int .u32 (wd N 1), .int .u32 (wd N 2), .int .u32 (wd N 3), .int .u32 (wd N 4), .int .u32 (wd N 5), .int .u32 (wd N 6), .int .u32 (wd N 7), .int .u32 (wd N 8), .int .u32 (wd N 9), .int .u32 (wd N 10), .int .u32 (wd N 11), .int .u32 (wd N 12), .int .u32 (wd N 13), .int .u32 (wd N 14), .int .u32 (wd N 15)])).run Tryd.prog w = .ok true w :=
  eq_row w 9998 16 26 _ Tryd.underlying26 (fun i hi => by
    have c : i = 0 ∨ i = 1 ∨ i = 2 ∨ i = 3 ∨ i = 4 ∨ i = 5 ∨ i = 6 ∨ i = 7 ∨ i = 8 ∨ i = 9 ∨ i = 10 ∨ i = 11 ∨ i = 12 ∨ i = 13 ∨ i = 14 ∨ i = 15 := by omega
    rcases c with rfl | rfl | rfl | rfl | rfl | rfl | rfl | rfl | rfl | rfl | rfl | rfl | rfl | rfl | rfl | rfl <;> exact ⟨_, rfl⟩)
set_option maxHeartbeats 2000000 in
theorem returns_walk (M : List Int) (c b : Int) (w : World) (hM : C25 M) (b0 : 0 ≤ b) (b1 : b ≤ 4294967295) :
    Calls Tryd.prog 5 #[cpV M, .int .i64 c, .int .u32 b] w fun e w' => e = .returned (.bool true) ∧ Below w.heap.size w w' := by
  have hC : C25 (M.set 0 0) := hM.set 0 (by omega) (by omega)
  have HW := Lib.hid (fun W => awake6 W)
  have hMl := hM.1
  have h1 := hC.trap c b0 b1
  have H1 := Lib.hid (fun W => trap_any (M.set 0 0) c b W hC)
  have H2 := Lib.hid (fun W => return_any (trapL (M.set 0 0) c b) W h1)
  have HN := Lib.hid hC
  have HF := Lib.hid (ret_facts hC c b b0 b1)
  have hR := h1.ret
  have HRb := Lib.hid (hR.bd 17)
  have hRl := hR.1
  have hTl := h1.1
  clear h1 hR hC hM
  generalize retL (trapL (M.set 0 0) c b) = R at *
  generalize trapL (M.set 0 0) c b = T at *
  obtain ⟨F1, F2, F3, -⟩ := cw_facts
  go_enter Tryd.func5, Tryd.ntmps5
  go_wp2_with (first
    | (refine wpList_box_box rfl _ rfl rfl ?_; simp only [Act.put, List.setIfInBounds_toArray, List.set_cons_zero, List.set_cons_succ])
    | (refine wpList_load_look rfl _ rfl _ rfl (fun ob hob => ?_); simp [look_alloc, look_setRow, look_drew, look_drewN, look_setCell, Nat.add_assoc] at hob; subst hob; refine ⟨_, rfl, by (first | with_reducible assumption | (simp only [List.length_set]; with_reducible assumption) | exact Z25_len), ?_⟩; simp only [Act.put, List.setIfInBounds_toArray, List.set_cons_zero, List.set_cons_succ]))
  have hNl := HN.out.1
  generalize M.set 0 0 = N at *
  clear F3
  refine (H1.out _).mono ?_
  rintro e w1 ⟨rfl, hb1⟩
  have bel : Below w.heap.size w w1 := Below.trans (by (repeat' (first | with_reducible exact Below.refl _ _ | with_reducible assumption | with_reducible apply below_drewN | with_reducible apply Below.drew | with_reducible apply Below.setCell | with_reducible apply Below.alloc | (simp; done) | (simp; omega)))) (hb1.mono (by simp))
  have X3 := look_on (g := w.heap.size) (o := .cells (cw N).toArray 29 (0, 0)) (by simp [look_alloc, look_setRow, look_drew, look_drewN, look_setCell, Nat.add_assoc]) hb1 (by simp)
  have hs1 : w.heap.size < w1.heap.size := Nat.lt_of_lt_of_le (by simp) hb1.size
  clear hb1
  go_wp2_with fail
  refine (H2.out _).mono ?_
  rintro e w2 ⟨rfl, hb2⟩
  replace bel := below_step bel hb2
  replace X3 := look_on X3 hb2 hs1
  replace hs1 := Nat.lt_of_lt_of_le hs1 hb2.size
  clear hb2
  have C3 : ∀ k : Nat, k < 25 → w2.cell? ⟨w.heap.size, k, none⟩ = some (.int .u32 (wd N k)) := fun k hk => (cell_lk X3 k).trans (by simpa using cw_at hNl hk)
  have hR16 := HF.out.1
  have hRX := HF.out.2.2
  have hand : bits .and .u32 (wd R 17) 7 = bits .and .u32 (wd N 17) 7 := by
    rw [and_7 _ HRb.out.1 HRb.out.2, and_7 _ (HN.out.bd 17).1 (HN.out.bd 17).2]; exact HF.out.2.1
  have N0 : ¬ w.heap.size = w2.heap.size := by omega
  have N1 : ¬ w2.heap.size = w.heap.size := by omega
  have EQ := fun w => eq_lit16 N w
  go_wp2_with (first
    | (refine wpList_alloc_box rfl rfl ?_; simp only [Act.put, List.setIfInBounds_toArray, List.set_cons_zero, List.set_cons_succ])
    | (refine wpList_store_look rfl _ _ rfl _ rfl rfl (by (first | with_reducible assumption | (simp only [List.length_set]; with_reducible assumption) | exact Z25_len)) (fun ob hob => by (simp [look_alloc, look_setRow, look_drew, look_drewN, look_setCell, Nat.add_assoc] at hob; subst hob; exact ⟨_, rfl, by (first | with_reducible assumption | (simp only [List.length_set]; with_reducible assumption) | exact Z25_len)⟩)) (fun w2 hw2 => ?_); simp [row_alloc_same, row_alloc_old] at hw2; subst hw2; simp only [Act.put, List.setIfInBounds_toArray, List.set_cons_zero, List.set_cons_succ])
    | (go_at_call 18; refine (HW.out _).mono ?_; rintro e w6 ⟨rfl, hb6⟩))
  go_ret
  exact ⟨rfl, below_step (below_step bel (by (repeat' (first | with_reducible exact Below.refl _ _ | with_reducible assumption | with_reducible apply below_drewN | with_reducible apply Below.drew | with_reducible apply Below.setCell | with_reducible apply Below.alloc | (simp; done) | (simp; omega))))) hb6⟩
theorem returns_row (M : List Int) (c b : Int) (w : World) (hM : C25 M) (w2 : (Lit.int .u32 b).wf = true) :
    Calls Tryd.prog 5 #[cpV M, .int .i64 c, .int .u32 b] w fun e w' => e = .returned (.bool true) ∧ Below w.heap.size w w' :=
  returns_walk M c b w hM (wf_u32 w2).1 (wf_u32 w2).2
end Go.Proofs.YtlbdggnbhgmjdaaDoor
