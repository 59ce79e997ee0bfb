import Derived.Test.YtfnfbdjbdbifaaaDoorCpFn
namespace Go.Proofs.YtfnfbdjbdbifaaaDoor
set_option linter.unusedVariables false
set_option linter.unusedSimpArgs false
set_option maxRecDepth 20000
open Go.ChangeShapes Go.WideShapes Go.ChangeAt Go.RowKit Go.Proofs.YtfnfbdjbdbifaaaDoor.Num Go.Proofs.YtfnfbdjbdbifaaaDoor.Mem Go.Proofs.YtfnfbdjbdbifaaaDoor.Isa
/-- The bits that each control register keeps. -/
def kb : List Int := [31, 4294967292, 4294967292, 4294967295, 4294967295, 4294967295, 255, 31]
/-- The table as the start laid it. -/
def TabK (w : World) : Prop := ∀ k : Nat, k < 8 → w.cell? ⟨0, k, none⟩ = some (.int .u32 (wd kb k))
theorem TabK.on {w w' : World} (h : TabK w) (hb : Below w.heap.size w w') : TabK w' := fun k hk => cell_on (h k hk) hb
theorem TabK.lt {w : World} (h : TabK w) : 0 < w.heap.size := block_lt_of_cell (h 0 (by omega))
theorem kb_is (k : Nat) (hk : k < 8) (v : Int) (h0 : 0 ≤ v) (h1 : v ≤ 4294967295) : bits .and .u32 v (wd kb k) = wrK k v := by
  have c : k = 0 ∨ k = 1 ∨ k = 2 ∨ k = 3 ∨ k = 4 ∨ k = 5 ∨ k = 6 ∨ k = 7 := by omega
  rcases c with rfl | rfl | rfl | rfl | rfl | rfl | rfl | rfl
  · exact and_31 v h0 h1
  · exact and_big v h0 h1
  · exact and_big v h0 h1
  · exact and_all v h0 h1
  · exact and_all v h0 h1
  · exact and_all v h0 h1
  · exact and_ff v h0 h1
  · exact and_31 v h0 h1
theorem write_any (L : List Int) (csr v : Int) (w : World) (h : C25 L) (hT : TabK w) (h0 : 0 ≤ v) (h1 : v ≤ 4294967295) :
    Calls Tryd.prog 51 #[cpV L, .int .i64 csr, .int .u32 v] w fun e w' => e = .returned (cpV (wrL L csr v)) ∧ Below w.heap.size w w' := by
  have hL := h.1
  by_cases hk : 0 ≤ csr ∧ csr < 8
  · obtain ⟨k, rfl⟩ : ∃ k : Nat, csr = k := ⟨csr.toNat, by omega⟩
    have hk8 : k < 8 := by omega
    have HS := Lib.hid (show L.set (17 + k) (bits .and .u32 v (wd kb k)) = wrL L k v by unfold wrL; rw [if_pos hk, kb_is k hk8 v h0 h1]; rfl)
    have ht := hT k hk8
    have hlt := hT.lt
    have hne : ¬ 0 = w.heap.size := by omega
    have hk25 : 17 + k < 25 := by omega
    have hk1 : (0 : Int) ≤ k := by omega
    have hk2 : (k : Int) < 8 := by omega
    have hk3 : 17 ≤ 17 + k := by omega
    clear hk hT
    obtain ⟨F1, F2, F3, -⟩ := cw_facts
    go_enter Tryd.func51, Tryd.ntmps51
    go_wp2_with (first
      | (refine wpList_load_look rfl _ rfl _ rfl (fun ob hob => ?_); simp [look_alloc, look_setRow, look_drew, look_drewN, look_setCell, Nat.add_assoc, *] at hob; subst hob; refine ⟨_, rfl, by (first | with_reducible assumption | (simp only [List.length_set]; with_reducible assumption) | exact Z25_len), ?_⟩; simp only [Act.put, List.setIfInBounds_toArray, List.set_cons_zero, List.set_cons_succ])
      | (refine wpList_store_look rfl _ _ rfl _ rfl rfl (by (first | with_reducible assumption | (simp only [List.length_set]; with_reducible assumption) | exact Z25_len)) (fun ob hob => by (simp [look_alloc, look_setRow, look_drew, look_drewN, look_setCell, Nat.add_assoc, *] at hob; subst hob; exact ⟨_, rfl, by (first | with_reducible assumption | (simp only [List.length_set]; with_reducible assumption) | exact Z25_len)⟩)) (fun w2 hw2 => ?_); simp [row_alloc_same, row_alloc_old, *] at hw2; subst hw2; simp only [Act.put, List.setIfInBounds_toArray, List.set_cons_zero, List.set_cons_succ])
      | (refine wpList_alloc_box rfl rfl ?_; simp only [Act.put, List.setIfInBounds_toArray, List.set_cons_zero, List.set_cons_succ])
      | (refine wpList_box_box rfl _ rfl rfl ?_; simp only [Act.put, List.setIfInBounds_toArray, List.set_cons_zero, List.set_cons_succ]))
    refine bodyPost_ret (v := cpV (wrL L k v)) ?_ rfl ⟨rfl, by (repeat' (first | with_reducible exact Below.refl _ _ | with_reducible assumption | with_reducible apply below_drewN | with_reducible apply Below.drew | with_reducible apply Below.setCell | with_reducible apply Below.alloc | (simp; done) | omega | (simp; omega)))⟩
    rw [← HS.out]
    exact (results_cpu rfl _ _ _ rfl (by (first | with_reducible assumption | (simp only [List.length_set]; with_reducible assumption) | exact Z25_len)) (by simp [look_alloc, look_setRow, look_drew, look_drewN, look_setCell, Nat.add_assoc, *] <;> rfl))
  · have HS := Lib.hid (show L = wrL L csr v by unfold wrL; rw [if_neg hk])
    have HK := Lib.hid hk
    clear hk hT
    obtain ⟨F1, F2, F3, -⟩ := cw_facts
    go_enter Tryd.func51, Tryd.ntmps51
    go_wp2_with (first
      | (refine wpList_load_look rfl _ rfl _ rfl (fun ob hob => ?_); simp [look_alloc, look_setRow, look_drew, look_drewN, look_setCell, Nat.add_assoc, *] at hob; subst hob; refine ⟨_, rfl, by (first | with_reducible assumption | (simp only [List.length_set]; with_reducible assumption) | exact Z25_len), ?_⟩; simp only [Act.put, List.setIfInBounds_toArray, List.set_cons_zero, List.set_cons_succ])
      | (refine wpList_store_look rfl _ _ rfl _ rfl rfl (by (first | with_reducible assumption | (simp only [List.length_set]; with_reducible assumption) | exact Z25_len)) (fun ob hob => by (simp [look_alloc, look_setRow, look_drew, look_drewN, look_setCell, Nat.add_assoc, *] at hob; subst hob; exact ⟨_, rfl, by (first | with_reducible assumption | (simp only [List.length_set]; with_reducible assumption) | exact Z25_len)⟩)) (fun w2 hw2 => ?_); simp [row_alloc_same, row_alloc_old, *] at hw2; subst hw2; simp only [Act.put, List.setIfInBounds_toArray, List.set_cons_zero, List.set_cons_succ])
      | (refine wpList_alloc_box rfl rfl ?_; simp only [Act.put, List.setIfInBounds_toArray, List.set_cons_zero, List.set_cons_succ])
      | (refine wpList_box_box rfl _ rfl rfl ?_; simp only [Act.put, List.setIfInBounds_toArray, List.set_cons_zero, List.set_cons_succ]))
    all_goals first
      | (exfalso; have := HK.out; omega)
      | (refine bodyPost_ret (v := cpV (wrL L csr v)) ?_ rfl ⟨rfl, by (repeat' (first | with_reducible exact Below.refl _ _ | with_reducible assumption | with_reducible apply below_drewN | with_reducible apply Below.drew | with_reducible apply Below.setCell | with_reducible apply Below.alloc | (simp; done) | omega | (simp; omega)))⟩
         rw [← HS.out]
         exact (results_cpu rfl _ _ _ rfl (by (first | with_reducible assumption | (simp only [List.length_set]; with_reducible assumption) | exact Z25_len)) (by simp [look_alloc, look_setRow, look_drew, look_drewN, look_setCell, Nat.add_assoc, *] <;> rfl)))
theorem reset_built (n : Int) : Tryd.prog.built 32 [(1, Value.int .u32 n)] = some (cw (Z25.set 16 n)).toArray := by kernel_rfl
theorem reset_any (pc : Int) (w : World) :
    Calls Tryd.prog 31 #[.int .u32 pc] w fun e w' => e = .returned (cpV (resetL pc)) ∧ Below w.heap.size w w' := by
  have hL : (Z25.set 16 pc).length = 25 := List.length_set.trans Z25_len
  obtain ⟨F1, F2, F3, -⟩ := cw_facts
  go_enter Tryd.func31, Tryd.ntmps31
  go_wp2_with (first
    | (refine wpList_build_cpu rfl _ rfl (reset_built pc) ?_; simp only [Act.put, List.setIfInBounds_toArray, List.set_cons_zero, List.set_cons_succ])
    | (refine wpList_load_look rfl _ rfl _ rfl (fun ob hob => ?_); simp [look_alloc, look_setRow, look_drew, look_drewN, look_setCell, Nat.add_assoc, *] at hob; subst hob; refine ⟨_, rfl, by (first | with_reducible assumption | (simp only [List.length_set]; with_reducible assumption) | exact Z25_len), ?_⟩; simp only [Act.put, List.setIfInBounds_toArray, List.set_cons_zero, List.set_cons_succ])
    | (refine wpList_store_look rfl _ _ rfl _ rfl rfl (by (first | with_reducible assumption | (simp only [List.length_set]; with_reducible assumption) | exact Z25_len)) (fun ob hob => by (simp [look_alloc, look_setRow, look_drew, look_drewN, look_setCell, Nat.add_assoc, *] at hob; subst hob; exact ⟨_, rfl, by (first | with_reducible assumption | (simp only [List.length_set]; with_reducible assumption) | exact Z25_len)⟩)) (fun w2 hw2 => ?_); simp [row_alloc_same, row_alloc_old, *] at hw2; subst hw2; simp only [Act.put, List.setIfInBounds_toArray, List.set_cons_zero, List.set_cons_succ])
    | (refine wpList_alloc_box rfl rfl ?_; simp only [Act.put, List.setIfInBounds_toArray, List.set_cons_zero, List.set_cons_succ]))
  refine bodyPost_ret (v := cpV ((Z25.set 16 pc).set 17 1)) ?_ rfl ⟨rfl, by (repeat' (first | with_reducible exact Below.refl _ _ | with_reducible assumption | with_reducible apply below_drewN | with_reducible apply Below.drew | with_reducible apply Below.setCell | with_reducible apply Below.alloc | (simp; done) | omega | (simp; omega)))⟩
  exact (results_cpu rfl _ _ _ rfl (by (first | with_reducible assumption | (simp only [List.length_set]; with_reducible assumption) | exact Z25_len)) (by simp [look_alloc, look_setRow, look_drew, look_drewN, look_setCell, Nat.add_assoc, *] <;> rfl))
theorem reset_ref (pc : Int) (w : World) :
    Calls Tryd.prog 17 #[.int .u32 pc] w fun e w' => e = .returned (cpV (resetL pc)) ∧ Below w.heap.size w w' := by
  have hL : (Z25.set 16 pc).length = 25 := List.length_set.trans Z25_len
  obtain ⟨F1, F2, F3, -⟩ := cw_facts
  go_enter Tryd.func17, Tryd.ntmps17
  go_wp2_with (first
    | (refine wpList_build_cpu rfl _ rfl (reset_built pc) ?_; simp only [Act.put, List.setIfInBounds_toArray, List.set_cons_zero, List.set_cons_succ])
    | (refine wpList_load_look rfl _ rfl _ rfl (fun ob hob => ?_); simp [look_alloc, look_setRow, look_drew, look_drewN, look_setCell, Nat.add_assoc, *] at hob; subst hob; refine ⟨_, rfl, by (first | with_reducible assumption | (simp only [List.length_set]; with_reducible assumption) | exact Z25_len), ?_⟩; simp only [Act.put, List.setIfInBounds_toArray, List.set_cons_zero, List.set_cons_succ])
    | (refine wpList_store_look rfl _ _ rfl _ rfl rfl (by (first | with_reducible assumption | (simp only [List.length_set]; with_reducible assumption) | exact Z25_len)) (fun ob hob => by (simp [look_alloc, look_setRow, look_drew, look_drewN, look_setCell, Nat.add_assoc, *] at hob; subst hob; exact ⟨_, rfl, by (first | with_reducible assumption | (simp only [List.length_set]; with_reducible assumption) | exact Z25_len)⟩)) (fun w2 hw2 => ?_); simp [row_alloc_same, row_alloc_old, *] at hw2; subst hw2; simp only [Act.put, List.setIfInBounds_toArray, List.set_cons_zero, List.set_cons_succ])
    | (refine wpList_alloc_box rfl rfl ?_; simp only [Act.put, List.setIfInBounds_toArray, List.set_cons_zero, List.set_cons_succ]))
  refine bodyPost_ret (v := cpV ((Z25.set 16 pc).set 17 1)) ?_ rfl ⟨rfl, by (repeat' (first | with_reducible exact Below.refl _ _ | with_reducible assumption | with_reducible apply below_drewN | with_reducible apply Below.drew | with_reducible apply Below.setCell | with_reducible apply Below.alloc | (simp; done) | omega | (simp; omega)))⟩
  exact (results_cpu rfl _ _ _ rfl (by (first | with_reducible assumption | (simp only [List.length_set]; with_reducible assumption) | exact Z25_len)) (by simp [look_alloc, look_setRow, look_drew, look_drewN, look_setCell, Nat.add_assoc, *] <;> rfl))
set_option maxHeartbeats 2000000 in
theorem trap_ref (L : List Int) (c b : Int) (w : World) (h : C25 L) :
    Calls Tryd.prog 54 #[cpV L, .int .i64 c, .int .u32 b] w fun e w' => e = .returned (cpV (trapL L c b)) ∧ Below w.heap.size w w' := by
  have hL := h.1
  have hs := h.bd 17
  have e := trf_is (wd L 17) _ _ hs.1 hs.2 rfl rfl
  by_cases h1 : bits .and .u32 (wd L 17) 1 = 0 <;> by_cases h2 : bits .and .u32 (wd L 17) 2 = 0
  all_goals
    simp only [h1, h2, ↓reduceIte] at e
    have HT := Lib.hid e
    clear e
    obtain ⟨F1, F2, F3, -⟩ := cw_facts
    go_enter Tryd.func54, Tryd.ntmps54
    go_wp2_with (first
      | (refine wpList_load_look rfl _ rfl _ rfl (fun ob hob => ?_); simp [look_alloc, look_setRow, look_drew, look_drewN, look_setCell, Nat.add_assoc, *] at hob; subst hob; refine ⟨_, rfl, by (first | with_reducible assumption | (simp only [List.length_set]; with_reducible assumption) | exact Z25_len), ?_⟩; simp only [Act.put, List.setIfInBounds_toArray, List.set_cons_zero, List.set_cons_succ])
      | (refine wpList_store_look rfl _ _ rfl _ rfl rfl (by (first | with_reducible assumption | (simp only [List.length_set]; with_reducible assumption) | exact Z25_len)) (fun ob hob => by (simp [look_alloc, look_setRow, look_drew, look_drewN, look_setCell, Nat.add_assoc, *] at hob; subst hob; exact ⟨_, rfl, by (first | with_reducible assumption | (simp only [List.length_set]; with_reducible assumption) | exact Z25_len)⟩)) (fun w2 hw2 => ?_); simp [row_alloc_same, row_alloc_old, *] at hw2; subst hw2; simp only [Act.put, List.setIfInBounds_toArray, List.set_cons_zero, List.set_cons_succ])
      | (refine wpList_alloc_box rfl rfl ?_; simp only [Act.put, List.setIfInBounds_toArray, List.set_cons_zero, List.set_cons_succ])
      | (refine wpList_box_box rfl _ rfl rfl ?_; simp only [Act.put, List.setIfInBounds_toArray, List.set_cons_zero, List.set_cons_succ])
      | (go_at_call 83; refine (bit_any _ _).mono ?_; rintro e w1 ⟨rfl, rfl⟩))
    refine bodyPost_ret (v := cpV (trapL L c b)) ?_ rfl ⟨rfl, by (repeat' (first | with_reducible exact Below.refl _ _ | with_reducible assumption | with_reducible apply below_drewN | with_reducible apply Below.drew | with_reducible apply Below.setCell | with_reducible apply Below.alloc | (simp; done) | omega | (simp; omega)))⟩
    unfold trapL
    rw [← HT.out]
    exact (results_cpu rfl _ _ _ rfl (by (first | with_reducible assumption | (simp only [List.length_set]; with_reducible assumption) | exact Z25_len)) (by simp [look_alloc, look_setRow, look_drew, look_drewN, look_setCell, Nat.add_assoc, *] <;> rfl))
set_option maxHeartbeats 2000000 in
theorem return_ref (L : List Int) (w : World) (h : C25 L) :
    Calls Tryd.prog 84 #[cpV L] w fun e w' => e = .returned (cpV (retL L)) ∧ Below w.heap.size w w' := by
  have hL := h.1
  have hs := h.bd 17
  have e := rtf_is (wd L 17) _ _ hs.1 hs.2 rfl rfl
  by_cases h1 : bits .and .u32 (wd L 17) 8 = 0 <;> by_cases h2 : bits .and .u32 (wd L 17) 16 = 0
  all_goals
    simp only [h1, h2, ↓reduceIte] at e
    have HT := Lib.hid e
    clear e
    obtain ⟨F1, F2, F3, -⟩ := cw_facts
    go_enter Tryd.func84, Tryd.ntmps84
    go_wp2_with (first
      | (refine wpList_load_look rfl _ rfl _ rfl (fun ob hob => ?_); simp [look_alloc, look_setRow, look_drew, look_drewN, look_setCell, Nat.add_assoc, *] at hob; subst hob; refine ⟨_, rfl, by (first | with_reducible assumption | (simp only [List.length_set]; with_reducible assumption) | exact Z25_len), ?_⟩; simp only [Act.put, List.setIfInBounds_toArray, List.set_cons_zero, List.set_cons_succ])
      | (refine wpList_store_look rfl _ _ rfl _ rfl rfl (by (first | with_reducible assumption | (simp only [List.length_set]; with_reducible assumption) | exact Z25_len)) (fun ob hob => by (simp [look_alloc, look_setRow, look_drew, look_drewN, look_setCell, Nat.add_assoc, *] at hob; subst hob; exact ⟨_, rfl, by (first | with_reducible assumption | (simp only [List.length_set]; with_reducible assumption) | exact Z25_len)⟩)) (fun w2 hw2 => ?_); simp [row_alloc_same, row_alloc_old, *] at hw2; subst hw2; simp only [Act.put, List.setIfInBounds_toArray, List.set_cons_zero, List.set_cons_succ])
      | (refine wpList_alloc_box rfl rfl ?_; simp only [Act.put, List.setIfInBounds_toArray, List.set_cons_zero, List.set_cons_succ])
      | (refine wpList_box_box rfl _ rfl rfl ?_; simp only [Act.put, List.setIfInBounds_toArray, List.set_cons_zero, List.set_cons_succ])
      | (go_at_call 83; refine (bit_any _ _).mono ?_; rintro e w1 ⟨rfl, rfl⟩))
    refine bodyPost_ret (v := cpV (retL L)) ?_ rfl ⟨rfl, by (repeat' (first | with_reducible exact Below.refl _ _ | with_reducible assumption | with_reducible apply below_drewN | with_reducible apply Below.drew | with_reducible apply Below.setCell | with_reducible apply Below.alloc | (simp; done) | omega | (simp; omega)))⟩
    unfold retL
    rw [← HT.out]
    exact (results_cpu rfl _ _ _ rfl (by (first | with_reducible assumption | (simp only [List.length_set]; with_reducible assumption) | exact Z25_len)) (by simp [look_alloc, look_setRow, look_drew, look_drewN, look_setCell, Nat.add_assoc, *] <;> rfl))
end Go.Proofs.YtfnfbdjbdbifaaaDoor
