import Derived.Test.YtdjnloacjgcckaaPmFn9
namespace Go.Proofs.Ytdjnloacjgcckaa
set_option linter.unusedVariables false
set_option linter.unusedSimpArgs false
open Go.ChangeShapes Go.WideShapes Go.ChangeAt Go.RowKit Go.Proofs.Ytdjnloacjgcckaa.Num Go.Proofs.Ytdjnloacjgcckaa.Mem
/-- The number of chunks of 32 words. -/
def chunks (m : Nat) : Nat := (m + 31) / 32
theorem range_page (l : List Int) : ∀ K, (List.range K).flatMap (pageL l) = l.take (32 * K)
  | 0 => by simp
  | K + 1 => by
    rw [List.range_succ, List.flatMap_append, range_page l K]
    have e : 32 * (K + 1) = 32 * K + 32 := by omega
    rw [e, List.take_add]
    simp [pageL]
theorem bytes_flat (f : Nat → List Int) (xs : List Nat) : bytesL (xs.flatMap f) = xs.flatMap fun x => bytesL (f x) := by
  unfold bytesL
  rw [List.flatMap_assoc]
theorem bytes_chunks (l : List Int) (m : Nat) (h : l.length = m) : (List.range (chunks m)).flatMap (fun j => bytesL (pageL l j)) = bytesL l := by
  rw [← bytes_flat, range_page, List.take_of_length_le (by unfold chunks; omega)]
/-- The hash of the words. -/
def hashW (l : List Int) : Int := hash 14695981039346656037 (bytesL l)
set_option maxRecDepth 100000 in
set_option maxHeartbeats 1000000 in
theorem hashW_ref (A : Option Addr) (n c : Nat) (l : List Int) (w : World) (hm : Mem w A n c l) :
    Calls Try.prog 28 #[.slice A n c] w fun e w' => e = .returned (.int .u64 (hashW l)) ∧ Below w.heap.size w w' := by
  have hn := hm.2.2.1
  have HM := Lib.hid hm
  have HH := Lib.hid (fun h s W hs => hash_ref h s W hs)
  obtain ⟨R, hR⟩ : ∃ R, Hid (hashW l = R) := ⟨_, rfl⟩
  rw [hR.out]
  clear hm
  go_enter Try.func28, Try.ntmps28
  go_wp2
  go_loopw [3, 4] (fun x i wr => ∃ (k : Nat) (y : Int), k ≤ n ∧ i = .int .i64 k ∧ x = .int .u64 y ∧ Hid (y = hash 14695981039346656037 (bytesL (l.take k))) ∧ Below w.heap.size w wr) (fun _ i _ => n - (intOf i).toNat)
  case atStart => exact ⟨0, _, Nat.zero_le _, rfl, rfl, (rfl : (14695981039346656037 : Int) = hash 14695981039346656037 (bytesL (l.take 0))), Below.refl _ _⟩
  case round =>
    obtain ⟨k, y, hk, rfl, rfl, hy, hb⟩ := hrel
    by_cases hlt : k < n
    · obtain ⟨b, off, rfl, hc1, x0, x1⟩ := (HM.out.on hb).at_ hlt
      have HB := Lib.hid (bytes_snoc l k (by rw [HM.out.1]; exact hlt))
      generalize wd l k = x at hc1 x0 x1 HB
      have HBb := Lib.hid hb
      clear hb
      go_wp2_with (first
        | (go_at_call 45; refine (low_any _ _ x0 x1).mono ?_; rintro e w3 ⟨rfl, hb3⟩)
        | (go_at_call 50; refine (HH.out _ _ _ (by rw [S8_size]; simp [lowL]; decide)).mono ?_; rintro e w4 ⟨rfl, m4, rfl⟩))
      go_roundw
      case rel => exact ⟨k + 1, _, by omega, by go_num, rfl, (by rw [HB.out, S8_list, hy.out, hash_append] : hash y (S8 (lowL x)).data.toList = hash 14695981039346656037 (bytesL (l.take (k + 1)))), below_drewN (below_step HBb.out hb3) _⟩
      case measure => simp [intOf]; omega
    · obtain rfl : n = k := by omega
      go_wp2
      go_ret
      exact ⟨ret_int (by rw [← hR.out, hy.out, List.take_of_length_le (by rw [HM.out.1]; exact Nat.le_refl _)]; rfl), hb⟩
end Go.Proofs.Ytdjnloacjgcckaa
