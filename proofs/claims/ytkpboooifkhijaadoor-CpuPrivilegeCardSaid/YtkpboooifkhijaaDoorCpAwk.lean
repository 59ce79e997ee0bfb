import Derived.Test.YtkpboooifkhijaaDoorCpEq
import Derived.Test.YtkpboooifkhijaaDoorCpAluX
namespace Go.Proofs.YtkpboooifkhijaaDoor
set_option linter.unusedVariables false
set_option linter.unusedSimpArgs false
set_option maxRecDepth 20000
open Go.ChangeShapes Go.WideShapes Go.ChangeAt Go.RowKit Go.Proofs.YtkpboooifkhijaaDoor.Num Go.Proofs.YtkpboooifkhijaaDoor.Mem Go.Proofs.YtkpboooifkhijaaDoor.Isa
/- awake. -/
theorem awk_facts : ftC 32 (zs 32) (resetL 0) = 0 ∧ ftW 32 (zs 32) (resetL 0) = 0 ∧ ftL 32 (zs 32) (resetL 0) = zs 32 ∧ decide (dOk 0) = false ∧ wd (trapL (resetL 0) 1 0) 20 = 1 ∧ wd (trapL (resetL 0) 1 0) 17 = 9 ∧ aluV 2 3 5 = 4294967294 ∧ aluB 2 = true := by decide +kernel
theorem new1 (w : World) : Calls Tryd.prog 25 #[.int .i64 1] w fun e w' => (∃ A c, e = .returned (.slice A 32 c) ∧ Mem w' A 32 c (zs 32)) ∧ Below w.heap.size w w' := by
  refine (new_ref 1 w).mono fun e w' ⟨⟨A, c, l, he, hl, hm, _⟩, hb⟩ => ?_
  have hll : l = zs 32 := by rw [hl]; rfl
  subst hll
  rw [zs_len] at he hm
  exact ⟨⟨A, c, he, hm⟩, hb⟩
set_option maxHeartbeats 1000000 in
theorem awake6 (w : World) : Calls Tryd.prog 15 #[] w fun e w' => e = .returned (.bool true) ∧ Below w.heap.size w w' := by
  obtain ⟨q1, q2, q3, q4, q5, q6, q7, q8⟩ := awk_facts
  have hR : C25 (resetL 0) := C25.reset (by omega) (by omega)
  have hd : ¬ dOk 0 := of_decide_eq_false q4
  have HE := Lib.hid (fun W A c (hM : Mem W A 32 c (zs 32)) => exec_ill (resetL 0) A 32 c (zs 32) W hR hM q1 (by rw [q2]; exact hd) (by rw [q2]; omega))
  rw [q2, q3] at HE
  have HA := Lib.hid (fun W => alu_any 2 3 5 W (by omega) (by omega) (by omega) (by omega))
  unfold AluPost at HA
  rw [q7, q8] at HA
  have HRS := Lib.hid (fun W => reset_any 0 W)
  have hL := (hR.trap 1 (b := 0) (by omega) (by omega)).1
  generalize trapL (resetL 0) 1 0 = L at *
  generalize resetL 0 = R at *
  unfold efV at HE
  clear q1 q2 q3 q4 q7 q8 hd hR
  obtain ⟨F1, F2, F3, -⟩ := cw_facts
  go_enter Tryd.func15, Tryd.ntmps15
  go_wp2_with (first
    | (refine wpList_alloc_box rfl rfl ?_; simp only [Act.put, List.setIfInBounds_toArray, List.set_cons_zero, List.set_cons_succ])
    | (refine wpList_load_look rfl _ rfl _ rfl (fun ob hob => ?_); simp [look_alloc, look_setRow, look_drew, look_drewN, look_setCell, Nat.add_assoc] at hob; subst hob; refine ⟨_, rfl, by (first | with_reducible assumption | (simp only [List.length_set]; with_reducible assumption) | exact Z25_len), ?_⟩; simp only [Act.put, List.setIfInBounds_toArray, List.set_cons_zero, List.set_cons_succ])
    | (go_at_call 37; refine (HRS.out _).mono ?_; rintro e w1 ⟨rfl, hb1⟩)
    | (go_at_call 25; refine (new1 _).mono ?_; rintro e w2 ⟨⟨A2, c2, rfl, hm2⟩, hb2⟩))
  refine (HE.out _ _ _ hm2).mono ?_
  rintro e w3 ⟨⟨S3, c3, rfl, hm3, hf3⟩, hb3⟩
  have bel := below_step (below_step hb1 hb2) hb3
  clear hm3 hf3 hm2 hb1 hb2 hb3
  go_wp2_with (first
    | (refine wpList_alloc_box rfl rfl ?_; simp only [Act.put, List.setIfInBounds_toArray, List.set_cons_zero, List.set_cons_succ])
    | (refine wpList_load_look rfl _ rfl _ rfl (fun ob hob => ?_); simp [look_alloc, look_setRow, look_drew, look_drewN, look_setCell, Nat.add_assoc] at hob; subst hob; refine ⟨_, rfl, by (first | with_reducible assumption | (simp only [List.length_set]; with_reducible assumption) | exact Z25_len), ?_⟩; simp only [Act.put, List.setIfInBounds_toArray, List.set_cons_zero, List.set_cons_succ])
    | (refine wpList_store_look rfl _ _ rfl _ rfl rfl (by (first | with_reducible assumption | (simp only [List.length_set]; with_reducible assumption) | exact Z25_len)) (fun ob hob => by (simp [look_alloc, look_setRow, look_drew, look_drewN, look_setCell, Nat.add_assoc] at hob; subst hob; exact ⟨_, rfl, by (first | with_reducible assumption | (simp only [List.length_set]; with_reducible assumption) | exact Z25_len)⟩)) (fun w2 hw2 => ?_); simp [row_alloc_same, row_alloc_old] at hw2; subst hw2; simp only [Act.put, List.setIfInBounds_toArray, List.set_cons_zero, List.set_cons_succ])
    | (go_at_call 38; refine (HA.out _).mono ?_; rintro e w4 ⟨rfl, m4, rfl⟩))
  go_ret
  exact ⟨rfl, below_step bel (by (repeat' (first | with_reducible exact Below.refl _ _ | with_reducible assumption | with_reducible apply below_drewN | with_reducible apply Below.drew | with_reducible apply Below.setCell | with_reducible apply Below.alloc | (simp; done) | omega | (simp; omega))))⟩
end Go.Proofs.YtkpboooifkhijaaDoor
