import Derived.Test.YtfnfbdjbdbifaaaDoorCpFn
namespace Go.Proofs.YtfnfbdjbdbifaaaDoor
set_option linter.unusedVariables false
set_option linter.unusedSimpArgs false
open Go.ChangeShapes Go.WideShapes Go.ChangeAt Go.RowKit Go.Proofs.YtfnfbdjbdbifaaaDoor.Num Go.Proofs.YtfnfbdjbdbifaaaDoor.Mem Go.Proofs.YtfnfbdjbdbifaaaDoor.Isa
set_option maxHeartbeats 2000000 in
theorem write_ref (L : List Int) (csr v : Int) (w : World) (h : C25 L) (h0 : 0 ≤ v) (h1 : v ≤ 4294967295) :
    Calls Tryd.prog 85 #[cpV L, .int .i64 csr, .int .u32 v] w fun e w' => e = .returned (cpV (wrL L csr v)) ∧ Below w.heap.size w w' := by
  have hL := h.1
  have a1 := and_31 v h0 h1
  have a2 := and_ff v h0 h1
  have a3 := andn_3 v h0 h1
  by_cases hk : 0 ≤ csr ∧ csr < 8
  · have HS : ∀ x, x = wrK csr v → Hid (L.set (17 + csr.toNat) x = wrL L csr v) := fun x hx => by show _ = _; unfold wrL; rw [if_pos hk, hx]
    have c : csr = 0 ∨ csr = 1 ∨ csr = 2 ∨ csr = 3 ∨ csr = 4 ∨ csr = 5 ∨ csr = 6 ∨ csr = 7 := by omega
    rcases c with rfl | rfl | rfl | rfl | rfl | rfl | rfl | rfl
    all_goals
      have HT := HS _ rfl
      clear HS hk
      obtain ⟨F1, F2, F3, -⟩ := cw_facts
      go_enter Tryd.func85, Tryd.ntmps85
      go_wp2_with (first
        | (refine wpList_load_look rfl _ rfl _ rfl (fun ob hob => ?_); simp [look_alloc, look_setRow, look_drew, look_drewN, look_setCell, Nat.add_assoc, *] at hob; subst hob; refine ⟨_, rfl, by (first | with_reducible assumption | (simp only [List.length_set]; with_reducible assumption) | exact Z25_len), ?_⟩; simp only [Act.put, List.setIfInBounds_toArray, List.set_cons_zero, List.set_cons_succ])
        | (refine wpList_store_look rfl _ _ rfl _ rfl rfl (by (first | with_reducible assumption | (simp only [List.length_set]; with_reducible assumption) | exact Z25_len)) (fun ob hob => by (simp [look_alloc, look_setRow, look_drew, look_drewN, look_setCell, Nat.add_assoc, *] at hob; subst hob; exact ⟨_, rfl, by (first | with_reducible assumption | (simp only [List.length_set]; with_reducible assumption) | exact Z25_len)⟩)) (fun w2 hw2 => ?_); simp [row_alloc_same, row_alloc_old, *] at hw2; subst hw2; simp only [Act.put, List.setIfInBounds_toArray, List.set_cons_zero, List.set_cons_succ])
        | (refine wpList_alloc_box rfl rfl ?_; simp only [Act.put, List.setIfInBounds_toArray, List.set_cons_zero, List.set_cons_succ])
        | (refine wpList_box_box rfl _ rfl rfl ?_; simp only [Act.put, List.setIfInBounds_toArray, List.set_cons_zero, List.set_cons_succ]))
      refine bodyPost_ret (v := cpV (wrL L _ v)) ?_ rfl ⟨rfl, by (repeat' (first | with_reducible exact Below.refl _ _ | with_reducible assumption | with_reducible apply below_drewN | with_reducible apply Below.drew | with_reducible apply Below.setCell | with_reducible apply Below.alloc | (simp; done) | omega | (simp; omega)))⟩
      rw [← HT.out]
      exact (results_cpu rfl _ _ _ rfl (by (first | with_reducible assumption | (simp only [List.length_set]; with_reducible assumption) | exact Z25_len)) (by simp [look_alloc, look_setRow, look_drew, look_drewN, look_setCell, Nat.add_assoc, *] <;> rfl))
  · have HS := Lib.hid (show L = wrL L csr v by unfold wrL; rw [if_neg hk])
    have n0 : ¬ csr = 0 := by omega
    have n1 : ¬ csr = 1 := by omega
    have n2 : ¬ csr = 2 := by omega
    have n3 : ¬ csr = 3 := by omega
    have n4 : ¬ csr = 4 := by omega
    have n5 : ¬ csr = 5 := by omega
    have n6 : ¬ csr = 6 := by omega
    have n7 : ¬ csr = 7 := by omega
    clear hk
    obtain ⟨F1, F2, F3, -⟩ := cw_facts
    go_enter Tryd.func85, Tryd.ntmps85
    go_wp2_with (first
      | (refine wpList_load_look rfl _ rfl _ rfl (fun ob hob => ?_); simp [look_alloc, look_setRow, look_drew, look_drewN, look_setCell, Nat.add_assoc, *] at hob; subst hob; refine ⟨_, rfl, by (first | with_reducible assumption | (simp only [List.length_set]; with_reducible assumption) | exact Z25_len), ?_⟩; simp only [Act.put, List.setIfInBounds_toArray, List.set_cons_zero, List.set_cons_succ])
      | (refine wpList_store_look rfl _ _ rfl _ rfl rfl (by (first | with_reducible assumption | (simp only [List.length_set]; with_reducible assumption) | exact Z25_len)) (fun ob hob => by (simp [look_alloc, look_setRow, look_drew, look_drewN, look_setCell, Nat.add_assoc, *] at hob; subst hob; exact ⟨_, rfl, by (first | with_reducible assumption | (simp only [List.length_set]; with_reducible assumption) | exact Z25_len)⟩)) (fun w2 hw2 => ?_); simp [row_alloc_same, row_alloc_old, *] at hw2; subst hw2; simp only [Act.put, List.setIfInBounds_toArray, List.set_cons_zero, List.set_cons_succ])
      | (refine wpList_alloc_box rfl rfl ?_; simp only [Act.put, List.setIfInBounds_toArray, List.set_cons_zero, List.set_cons_succ])
      | (refine wpList_box_box rfl _ rfl rfl ?_; simp only [Act.put, List.setIfInBounds_toArray, List.set_cons_zero, List.set_cons_succ]))
    refine bodyPost_ret (v := cpV (wrL L csr v)) ?_ rfl ⟨rfl, by (repeat' (first | with_reducible exact Below.refl _ _ | with_reducible assumption | with_reducible apply below_drewN | with_reducible apply Below.drew | with_reducible apply Below.setCell | with_reducible apply Below.alloc | (simp; done) | omega | (simp; omega)))⟩
    rw [← HS.out]
    exact (results_cpu rfl _ _ _ rfl (by (first | with_reducible assumption | (simp only [List.length_set]; with_reducible assumption) | exact Z25_len)) (by simp [look_alloc, look_setRow, look_drew, look_drewN, look_setCell, Nat.add_assoc, *] <;> rfl))
theorem paged_ref (L : List Int) (w : World) (h : C25 L) :
    Calls Tryd.prog 78 #[cpV L] w fun e w' => e = .returned (.bool (pgB L)) ∧ Below w.heap.size w w' := by
  have hL := h.1
  have hs := h.bd 17
  have ha := and_5 _ hs.1 hs.2
  obtain ⟨F1, F2, F3, -⟩ := cw_facts
  go_enter Tryd.func78, Tryd.ntmps78
  go_wp2_with (first
    | (refine wpList_box_box rfl _ rfl rfl ?_; simp only [Act.put, List.setIfInBounds_toArray, List.set_cons_zero, List.set_cons_succ]))
  all_goals go_ret
  all_goals exact ⟨ret_bool (by unfold pgB; rw [Bool.eq_iff_iff]; simp <;> omega), by (repeat' (first | with_reducible exact Below.refl _ _ | with_reducible assumption | with_reducible apply below_drewN | with_reducible apply Below.drew | with_reducible apply Below.setCell | with_reducible apply Below.alloc | (simp; done) | omega | (simp; omega)))⟩
theorem set_ref (L : List Int) (r : Nat) (v : Int) (w : World) (h : C25 L) (hr : r < 16) :
    Calls Tryd.prog 61 #[cpV L, .int .i64 r, .int .u32 v] w fun e w' => e = .returned (cpV (setL L r v)) ∧ Below w.heap.size w w' := by
  have hL := h.1
  have hr25 : r < 25 := by omega
  have hr2 : (r : Int) < 16 := by omega
  by_cases h0 : r = 0
  · subst h0
    obtain ⟨F1, F2, F3, -⟩ := cw_facts
    go_enter Tryd.func61, Tryd.ntmps61
    go_wp2_with (first
      | (refine wpList_load_look rfl _ rfl _ rfl (fun ob hob => ?_); simp [look_alloc, look_setRow, look_drew, look_drewN, look_setCell, Nat.add_assoc, *] at hob; subst hob; refine ⟨_, rfl, by (first | with_reducible assumption | (simp only [List.length_set]; with_reducible assumption) | exact Z25_len), ?_⟩; simp only [Act.put, List.setIfInBounds_toArray, List.set_cons_zero, List.set_cons_succ])
      | (refine wpList_store_look rfl _ _ rfl _ rfl rfl (by (first | with_reducible assumption | (simp only [List.length_set]; with_reducible assumption) | exact Z25_len)) (fun ob hob => by (simp [look_alloc, look_setRow, look_drew, look_drewN, look_setCell, Nat.add_assoc, *] at hob; subst hob; exact ⟨_, rfl, by (first | with_reducible assumption | (simp only [List.length_set]; with_reducible assumption) | exact Z25_len)⟩)) (fun w2 hw2 => ?_); simp [row_alloc_same, row_alloc_old, *] at hw2; subst hw2; simp only [Act.put, List.setIfInBounds_toArray, List.set_cons_zero, List.set_cons_succ])
      | (refine wpList_alloc_box rfl rfl ?_; simp only [Act.put, List.setIfInBounds_toArray, List.set_cons_zero, List.set_cons_succ])
      | (refine wpList_box_box rfl _ rfl rfl ?_; simp only [Act.put, List.setIfInBounds_toArray, List.set_cons_zero, List.set_cons_succ]))
    refine bodyPost_ret (v := cpV L) ?_ rfl ⟨rfl, by (repeat' (first | with_reducible exact Below.refl _ _ | with_reducible assumption | with_reducible apply below_drewN | with_reducible apply Below.drew | with_reducible apply Below.setCell | with_reducible apply Below.alloc | (simp; done) | omega | (simp; omega)))⟩
    exact (results_cpu rfl _ _ _ rfl (by (first | with_reducible assumption | (simp only [List.length_set]; with_reducible assumption) | exact Z25_len)) (by simp [look_alloc, look_setRow, look_drew, look_drewN, look_setCell, Nat.add_assoc, *] <;> rfl))
  · have HS := Lib.hid (show L.set r v = setL L r v by unfold setL; rw [if_neg (by omega)]; rfl)
    have hr0 : (0 : Int) < r := by omega
    obtain ⟨F1, F2, F3, -⟩ := cw_facts
    go_enter Tryd.func61, Tryd.ntmps61
    go_wp2_with (first
      | (refine wpList_load_look rfl _ rfl _ rfl (fun ob hob => ?_); simp [look_alloc, look_setRow, look_drew, look_drewN, look_setCell, Nat.add_assoc, *] at hob; subst hob; refine ⟨_, rfl, by (first | with_reducible assumption | (simp only [List.length_set]; with_reducible assumption) | exact Z25_len), ?_⟩; simp only [Act.put, List.setIfInBounds_toArray, List.set_cons_zero, List.set_cons_succ])
      | (refine wpList_store_look rfl _ _ rfl _ rfl rfl (by (first | with_reducible assumption | (simp only [List.length_set]; with_reducible assumption) | exact Z25_len)) (fun ob hob => by (simp [look_alloc, look_setRow, look_drew, look_drewN, look_setCell, Nat.add_assoc, *] at hob; subst hob; exact ⟨_, rfl, by (first | with_reducible assumption | (simp only [List.length_set]; with_reducible assumption) | exact Z25_len)⟩)) (fun w2 hw2 => ?_); simp [row_alloc_same, row_alloc_old, *] at hw2; subst hw2; simp only [Act.put, List.setIfInBounds_toArray, List.set_cons_zero, List.set_cons_succ])
      | (refine wpList_alloc_box rfl rfl ?_; simp only [Act.put, List.setIfInBounds_toArray, List.set_cons_zero, List.set_cons_succ])
      | (refine wpList_box_box rfl _ rfl rfl ?_; simp only [Act.put, List.setIfInBounds_toArray, List.set_cons_zero, List.set_cons_succ]))
    refine bodyPost_ret (v := cpV (setL L r v)) ?_ rfl ⟨rfl, by (repeat' (first | with_reducible exact Below.refl _ _ | with_reducible assumption | with_reducible apply below_drewN | with_reducible apply Below.drew | with_reducible apply Below.setCell | with_reducible apply Below.alloc | (simp; done) | omega | (simp; omega)))⟩
    rw [← HS.out]
    exact (results_cpu rfl _ _ _ rfl (by (first | with_reducible assumption | (simp only [List.length_set]; with_reducible assumption) | exact Z25_len)) (by simp [look_alloc, look_setRow, look_drew, look_drewN, look_setCell, Nat.add_assoc, *] <;> rfl))
theorem taken_ref (op a b : Int) (w : World) (ho : 40 ≤ op ∧ op ≤ 45) :
    Calls Tryd.prog 86 #[.int .i64 op, .int .u32 a, .int .u32 b] w fun e w' => e = .returned (.bool (tkn op a b)) ∧ w' = w := by
  have c : op = 40 ∨ op = 41 ∨ op = 42 ∨ op = 43 ∨ op = 44 ∨ op = 45 := by omega
  clear ho
  rcases c with rfl | rfl | rfl | rfl | rfl | rfl
  all_goals
    go_enter Tryd.func86, Tryd.ntmps86
    go_wp2
    go_ret
    exact ⟨ret_bool (by unfold tkn; rw [Bool.eq_iff_iff]; simp [bne, wrap32]), rfl⟩
theorem branches_any (op a b : Int) (w : World) (ho : 40 ≤ op ∧ op ≤ 45) :
    Calls Tryd.prog 49 #[.int .i64 op, .int .u32 a, .int .u32 b] w fun e w' => e = .returned (.bool (tkn op a b)) ∧ w' = w := by
  have c : op = 40 ∨ op = 41 ∨ op = 42 ∨ op = 43 ∨ op = 44 ∨ op = 45 := by omega
  clear ho
  rcases c with rfl | rfl | rfl | rfl | rfl | rfl
  all_goals
    go_enter Tryd.func49, Tryd.ntmps49
    go_wp2
    go_ret
    exact ⟨ret_bool (by unfold tkn; rw [Bool.eq_iff_iff]; simp [bne, wrap32]), rfl⟩
end Go.Proofs.YtfnfbdjbdbifaaaDoor
