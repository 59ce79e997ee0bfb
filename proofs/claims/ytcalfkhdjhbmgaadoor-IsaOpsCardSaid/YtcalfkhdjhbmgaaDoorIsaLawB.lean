import Derived.Test.YtcalfkhdjhbmgaaDoorIsaFn9
namespace Go.Proofs.YtcalfkhdjhbmgaaDoor
set_option linter.unusedVariables false
set_option linter.unusedSimpArgs false
open Go.Lib Go.ChangeShapes Go.WideShapes Go.ChangeAt Go.RowKit Go.Proofs.YtcalfkhdjhbmgaaDoor.Num Go.Proofs.YtcalfkhdjhbmgaaDoor.Isa Go.Proofs.YtcalfkhdjhbmgaaDoor.Mem
theorem zero_ok (op : Int) : Ok op 0 0 0 0 ↔ lay op ≠ 0 := by
  unfold Ok
  rcases kind op with k | k | k | k | k | k | k | k | k | k | k <;> obtain ⟨k1, k2, k3, k4, k5⟩ := k <;> omega
theorem blocks_fact (op : Int) : (decide (EndsOp op) = (decide (40 ≤ op) && decide (Ok op 0 0 0 0))) ∧ ((57 ≤ op ∧ op ≤ 64) → EndsOp op) := by
  refine ⟨?_, fun h => by unfold EndsOp; omega⟩
  rw [Bool.eq_iff_iff, ends_iff, Bool.and_eq_true, decide_eq_true_eq, decide_eq_true_eq, zero_ok]
  rcases kind op with k | k | k | k | k | k | k | k | k | k | k <;> obtain ⟨k1, k2, k3, k4, k5⟩ := k <;> omega
set_option maxHeartbeats 1000000 in
theorem blocks_walk (op : Int) (w0 : (Lit.int .i64 op).wf = true) (w : World) (hT : Tabs w) :
    Calls Tryd.prog 9 #[.int .i64 op] w fun e w' => e = .returned (.bool true) ∧ Below w.heap.size w w' := by
  obtain ⟨f1, f2⟩ := blocks_fact op
  by_cases hr : 0 ≤ op ∧ op ≤ 300
  · obtain ⟨hr0, hr1⟩ := hr
    by_cases hp : 57 ≤ op ∧ op ≤ 64
    · have hd1 : decide (57 ≤ op ∧ op ≤ 64) = true := by simpa using hp
      have hd2 : decide (EndsOp op) = true := by simpa using f2 hp
      rw [hd2] at f1
      have h40 : 40 ≤ op := by omega
      have hok : decide (Ok op 0 0 0 0) = true := by simpa [h40] using f1.symm
      clear f1 f2
      go_enter Tryd.func9, Tryd.ntmps9
      go_wp2_with (first
        | (go_at_call 17; refine (priv_any _ _).mono ?_; rintro e w' ⟨rfl, m1, rfl⟩)
        | (go_at_call 19; refine (ends_isa _ _).mono ?_; rintro e w' ⟨rfl, m2, rfl⟩)
        | (go_at_call 13; refine (valid_any _ _ _ _ _ _ (by decide) (by decide)).mono ?_; rintro e w' ⟨rfl, hb1⟩)
        | (go_at_call 14; refine (awake_any _ (by first | exact hT | exact hT.on (drewN_below _ _) | exact hT.on (below_step (drewN_below _ _) hb1))).mono ?_; rintro e w3 ⟨rfl, hb3⟩))
      all_goals first | (exfalso; omega) | skip
      all_goals go_ret
      all_goals exact ⟨rfl, by first | exact below_step (drewN_below _ _) hb3 | exact below_step (below_step (drewN_below _ _) hb1) hb3⟩
    · have hd1 : decide (57 ≤ op ∧ op ≤ 64) = false := by simpa using hp
      by_cases h40 : 40 ≤ op
      · have hd2 : decide (EndsOp op) = decide (Ok op 0 0 0 0) := by rw [f1]; simp [h40]
        clear f1 f2
        go_enter Tryd.func9, Tryd.ntmps9
        go_wp2_with (first
          | (go_at_call 17; refine (priv_any _ _).mono ?_; rintro e w' ⟨rfl, m1, rfl⟩)
          | (go_at_call 19; refine (ends_isa _ _).mono ?_; rintro e w' ⟨rfl, m2, rfl⟩)
          | (go_at_call 13; refine (valid_any _ _ _ _ _ _ (by decide) (by decide)).mono ?_; rintro e w' ⟨rfl, hb1⟩)
          | (go_at_call 14; refine (awake_any _ (by first | exact hT | exact hT.on (drewN_below _ _) | exact hT.on (below_step (drewN_below _ _) hb1))).mono ?_; rintro e w3 ⟨rfl, hb3⟩))
        all_goals first | (exfalso; omega) | skip
        all_goals go_ret
        all_goals exact ⟨rfl, by first | exact below_step (drewN_below _ _) hb3 | exact below_step (below_step (drewN_below _ _) hb1) hb3⟩
      · have hd2 : decide (EndsOp op) = false := by rw [f1]; simp [h40]
        have h40' : op < 40 := by omega
        clear f1 f2 h40
        go_enter Tryd.func9, Tryd.ntmps9
        go_wp2_with (first
          | (go_at_call 17; refine (priv_any _ _).mono ?_; rintro e w' ⟨rfl, m1, rfl⟩)
          | (go_at_call 19; refine (ends_isa _ _).mono ?_; rintro e w' ⟨rfl, m2, rfl⟩)
          | (go_at_call 13; refine (valid_any _ _ _ _ _ _ (by decide) (by decide)).mono ?_; rintro e w' ⟨rfl, hb1⟩)
          | (go_at_call 14; refine (awake_any _ (by first | exact hT | exact hT.on (drewN_below _ _) | exact hT.on (below_step (drewN_below _ _) hb1))).mono ?_; rintro e w3 ⟨rfl, hb3⟩))
        all_goals first | (exfalso; omega) | skip
        all_goals go_ret
        all_goals exact ⟨rfl, by first | exact below_step (drewN_below _ _) hb3 | exact below_step (below_step (drewN_below _ _) hb1) hb3⟩
  · have hd1 : decide (57 ≤ op ∧ op ≤ 64) = false := by rw [decide_eq_false_iff_not]; omega
    have hd2 : decide (EndsOp op) = false := by
      rw [decide_eq_false_iff_not]; unfold EndsOp; omega
    clear f1 f2
    go_enter Tryd.func9, Tryd.ntmps9
    go_wp2_with (first
      | (go_at_call 17; refine (priv_any _ _).mono ?_; rintro e w' ⟨rfl, m1, rfl⟩)
      | (go_at_call 19; refine (ends_isa _ _).mono ?_; rintro e w' ⟨rfl, m2, rfl⟩)
      | (go_at_call 13; refine (valid_any _ _ _ _ _ _ (by decide) (by decide)).mono ?_; rintro e w' ⟨rfl, hb1⟩)
      | (go_at_call 14; refine (awake_any _ (by first | exact hT | exact hT.on (drewN_below _ _) | exact hT.on (below_step (drewN_below _ _) hb1))).mono ?_; rintro e w3 ⟨rfl, hb3⟩))
    all_goals first | (exfalso; omega) | skip
    all_goals go_ret
    all_goals exact ⟨rfl, by first | exact below_step (drewN_below _ _) hb3 | exact below_step (below_step (drewN_below _ _) hb1) hb3⟩
end Go.Proofs.YtcalfkhdjhbmgaaDoor
