import Derived.Test.YtcalfkhdjhbmgaaDoorIsaFn9
import Derived.Test.YtcalfkhdjhbmgaaDoorIsaLawB
import Derived.Laws.Strings
namespace Go.Proofs.YtcalfkhdjhbmgaaDoor
set_option linter.unusedVariables false
set_option linter.unusedSimpArgs false
open Go.ChangeShapes Go.WideShapes Go.ChangeAt Go.RowKit Go.Proofs.YtcalfkhdjhbmgaaDoor.Num Go.Proofs.YtcalfkhdjhbmgaaDoor.Isa Go.Proofs.YtcalfkhdjhbmgaaDoor.Mem
/-- How many of the first k numbers are operations by their names, and by their instructions. -/
def cM : Nat → Int
  | 0 => 0
  | k + 1 => if mn k = [] then cM k else cM k + 1
def cO : Nat → Int
  | 0 => 0
  | k + 1 => if lay ((k : Int) - 5) ≠ 0 then cO k + 1 else cO k
theorem cM_bd (k : Nat) : 0 ≤ cM k ∧ cM k ≤ k := by
  induction k with
  | zero => simp [cM]
  | succ k ih => unfold cM; split <;> omega
theorem cO_bd (k : Nat) : 0 ≤ cO k ∧ cO k ≤ k := by
  induction k with
  | zero => simp [cO]
  | succ k ih => unfold cO; split <;> omega
set_option maxRecDepth 100000 in
theorem c_same : cO 305 = cM 300 := by decide +kernel
theorem mnS_nil (k : Nat) : mnS k = { data := #[] } ↔ mn k = [] := by
  refine ⟨fun h => ?_, fun h => by unfold mnS; rw [h]⟩
  have := congrArg (fun s : ByteArray => s.data.toList) h
  simpa [mnS] using this
set_option maxRecDepth 100000 in
theorem count_any (w : World) :
    Calls Tryd.prog 21 #[] w fun e w' => e = .returned (.int .i64 (cM 300)) ∧ Below w.heap.size w w' := by
  go_enter Tryd.func21, Tryd.ntmps21
  go_wp2
  go_loopw [1, 2] (fun n i wr => ∃ k : Nat, k ≤ 300 ∧ i = .int .i64 k ∧ n = .int .i64 (cM k) ∧ Below w.heap.size w wr) (fun _ i _ => 300 - (intOf i).toNat)
  case atStart => exact ⟨0, Nat.zero_le _, rfl, rfl, Below.refl _ _⟩
  case round =>
    obtain ⟨k, hk, rfl, rfl, hbel⟩ := hrel
    have hc := cM_bd k
    by_cases hlt : k < 300
    · by_cases hm : mn k = []
      · have hs : mnS k = { data := #[] } := (mnS_nil k).2 hm
        have HC : Hid (cM (k + 1) = cM k) := by show _ = _; unfold cM; rw [if_pos hm]; cases k <;> rfl
        clear hm
        go_wp2_with (go_at_call 36; refine (mnemonic_ref k _).mono ?_; rintro e w1 ⟨rfl, hb1⟩)
        go_roundw
        case rel => exact ⟨k + 1, by omega, by go_num, by rw [HC.out], below_step hbel hb1⟩
        case measure => simp [intOf]; omega
      · have hs : (mnS k).toList.isEmpty = false := by
          rw [ByteArray.toList_eq]; unfold mnS; simpa using hm
        have HC : Hid (cM (k + 1) = cM k + 1) := by show _ = _; unfold cM; rw [if_neg hm]; cases k <;> rfl
        clear hm
        go_wp2_with (go_at_call 36; refine (mnemonic_ref k _).mono ?_; rintro e w1 ⟨rfl, hb1⟩)
        go_roundw
        case rel => exact ⟨k + 1, by omega, by go_num, by rw [HC.out], below_step hbel hb1⟩
        case measure => simp [intOf]; omega
    · obtain rfl : 300 = k := by omega
      go_wp2
      go_ret
      exact ⟨rfl, hbel⟩
set_option maxRecDepth 100000 in
theorem ops_walk (op : Int) (w0 : (Lit.int .i64 op).wf = true) (w : World) (hT : Tabs w) :
    Calls Tryd.prog 5 #[.int .i64 op] w fun e w' => e = .returned (.bool true) ∧ Below w.heap.size w w' := by
  go_enter Tryd.func5, Tryd.ntmps5
  go_wp2_with (first
    | (go_at_call 17; refine (priv_any _ _).mono ?_; rintro e w' ⟨rfl, m1, rfl⟩)
    | (go_at_call 18; refine (priv_ref _ _).mono ?_; rintro e w' ⟨rfl, m2, rfl⟩)
    | (go_at_call 19; refine (ends_isa _ _).mono ?_; rintro e w' ⟨rfl, m3, rfl⟩)
    | (go_at_call 20; refine (ends_ref _ _).mono ?_; rintro e w' ⟨rfl, m4, rfl⟩))
  have hbel0 : Below w.heap.size w (w.drewN (m1 + m2 + m3 + m4)) := drewN_below _ _
  generalize w.drewN (m1 + m2 + m3 + m4) = W at *
  go_loopw [3, 4] (fun n i wr => ∃ k : Nat, k ≤ 305 ∧ i = .int .i64 ((k : Int) - 5) ∧ n = .int .i64 (cO k) ∧ Below w.heap.size w wr) (fun _ i _ => 305 - (intOf i + 5).toNat)
  case atStart => exact ⟨0, Nat.zero_le _, rfl, rfl, hbel0⟩
  case round =>
    clear hbel0
    obtain ⟨k, hk, rfl, rfl, hbel⟩ := hrel
    have hc := cO_bd k
    by_cases hlt : k < 305
    · by_cases hm : lay ((k : Int) - 5) ≠ 0
      · have hs : decide (Ok ((k : Int) - 5) 0 0 0 0) = true := by rw [decide_eq_true_eq, zero_ok]; exact hm
        have HC : Hid (cO (k + 1) = cO k + 1) := by show _ = _; unfold cO; rw [if_pos hm]; cases k <;> rfl
        clear hm
        go_wp2_with (go_at_call 13; refine (valid_any _ _ _ _ _ _ (by decide) (by decide)).mono ?_; rintro e w1 ⟨rfl, hb1⟩)
        go_roundw
        case rel => exact ⟨k + 1, by omega, by go_num, by rw [HC.out], below_step hbel hb1⟩
        case measure => simp [intOf]; omega
      · have hs : decide (Ok ((k : Int) - 5) 0 0 0 0) = false := by rw [decide_eq_false_iff_not, zero_ok]; exact hm
        have HC : Hid (cO (k + 1) = cO k) := by show _ = _; unfold cO; rw [if_neg hm]; cases k <;> rfl
        clear hm
        go_wp2_with (go_at_call 13; refine (valid_any _ _ _ _ _ _ (by decide) (by decide)).mono ?_; rintro e w1 ⟨rfl, hb1⟩)
        go_roundw
        case rel => exact ⟨k + 1, by omega, by go_num, by rw [HC.out], below_step hbel hb1⟩
        case measure => simp [intOf]; omega
    · obtain rfl : 305 = k := by omega
      rw [c_same]
      go_wp2_with (first
        | (go_at_call 21; refine (count_any _).mono ?_; rintro e w2 ⟨rfl, hb2⟩)
        | (go_at_call 14; refine (awake_any _ (hT.on (below_step hbel hb2))).mono ?_; rintro e w3 ⟨rfl, hb3⟩))
      go_ret
      exact ⟨rfl, below_step (below_step hbel hb2) hb3⟩
end Go.Proofs.YtcalfkhdjhbmgaaDoor
