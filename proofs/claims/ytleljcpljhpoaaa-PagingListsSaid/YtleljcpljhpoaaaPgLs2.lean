import Derived.Test.YtleljcpljhpoaaaPgLs
namespace Go.Proofs.Ytleljcpljhpoaaa
set_option linter.unusedVariables false
set_option linter.unusedSimpArgs false
open Go.ChangeShapes Go.WideShapes Go.ChangeAt Go.RowKit Go.Proofs.Ytleljcpljhpoaaa.Num Go.Proofs.Ytleljcpljhpoaaa.Mem
theorem list_any (A : Option Addr) (n c : Nat) (l : List Int) (root : Int) (w : World) (hm : Mem w A n c l) (r0 : 0 ≤ root) (r1 : root ≤ 4294967295) :
    Calls Try.prog 21 #[.slice A n c, .int .u32 root] w (Lists (lsL n l root) w) := by
  obtain ⟨r, rfl⟩ := nat_of r0
  have e : lsL n l r = lsK l r (pgN n r) := by
    unfold lsL pgN
    split
    · rfl
    · rfl
  rw [e]
  exact callsIn_wide.1 (list_in A n c r l w hm r1)
theorem flatM_at (ms : List Mp) : ∀ i : Nat, i < ms.length → (flatM ms)[i * 3]? = some (.int .u32 (ms.getD i (0, 0, 0)).1) ∧ (flatM ms)[i * 3 + 1]? = some (.int .u32 (ms.getD i (0, 0, 0)).2.1) ∧ (flatM ms)[i * 3 + 2]? = some (.int .u32 (ms.getD i (0, 0, 0)).2.2) := by
  induction ms with
  | nil => intro i hi; simp at hi
  | cons m ms ih =>
    intro i hi
    cases i with
    | zero => simp [flatM, mC]
    | succ i =>
      have h := ih i (by simpa using hi)
      have e : ∀ t, (flatM (m :: ms))[(i + 1) * 3 + t]? = (flatM ms)[i * 3 + t]? := fun t => by
        have e1 : flatM (m :: ms) = mC m ++ flatM ms := by simp [flatM]
        rw [e1, List.getElem?_append_right (by simp [mC]; omega)]
        congr 1
        simp [mC]; omega
      have e0 := e 0
      simp only [Nat.add_zero] at e0
      rw [e0, e 1, e 2]
      simpa using h
theorem maps_at {w : World} {base g k cap : Nat} {ms : List Mp} (h : w.ownsRow base 45 3 (.slice (some ⟨g, 0, none⟩) k cap) ms.length (flatM ms)) {i : Nat} (hi : i < ms.length) :
    w.cell? ⟨g, i * 3, none⟩ = some (.int .u32 (ms.getD i (0, 0, 0)).1) ∧ w.cell? ⟨g, i * 3 + 1, none⟩ = some (.int .u32 (ms.getD i (0, 0, 0)).2.1) ∧ w.cell? ⟨g, i * 3 + 2, none⟩ = some (.int .u32 (ms.getD i (0, 0, 0)).2.2) := by
  rcases h.2 with ⟨h1, _⟩ | ⟨g', cap', cur, h1, _, hg, hnc, _, hcs, htk⟩
  · cases h1
  · injection h1 with h1 _ _
    injection h1 with h1
    injection h1 with h1 _ _
    subst h1
    have key : ∀ j v, (flatM ms)[j]? = some v → w.cell? ⟨g, j, none⟩ = some v := fun j v hj => by
      have hjl : j < ms.length * 3 := by
        have := (List.getElem?_eq_some_iff.1 hj).1
        rw [flatM_len] at this; exact this
      rw [← htk, List.getElem?_take_of_lt hjl] at hj
      simp [World.cell?, hg]
      simpa using hj
    obtain ⟨a, b, c⟩ := flatM_at ms i hi
    exact ⟨key _ _ a, key _ _ b, key _ _ c⟩
theorem maps_shape {w : World} {base : Nat} {v : Value} {ms : List Mp} (h : w.ownsRow base 45 3 v ms.length (flatM ms)) : ∃ A cap, v = .slice A ms.length cap ∧ (0 < ms.length → ∃ g, A = some ⟨g, 0, none⟩) := by
  rcases h.2 with ⟨rfl, h0⟩ | ⟨g, cap, cur, rfl, _⟩
  · exact ⟨none, 0, by rw [h0], fun h => by omega⟩
  · exact ⟨_, cap, rfl, fun _ => ⟨g, rfl⟩⟩
set_option maxRecDepth 100000 in
set_option maxHeartbeats 1000000 in
theorem samem_refl (v v' : Value) (b1 b2 : Nat) (ms : List Mp) (w : World) (h : w.ownsRow b1 45 3 v ms.length (flatM ms)) (h' : w.ownsRow b2 45 3 v' ms.length (flatM ms)) (hms : ms.length ≤ 32) :
    Calls Try.prog 20 #[v, v'] w fun e w' => e = .returned (.bool true) ∧ ∃ q, w' = w.drewN q := by
  obtain ⟨A, cap, rfl, hA⟩ := maps_shape h
  obtain ⟨B, cap', rfl, hB⟩ := maps_shape h'
  have H := Lib.hid h
  have H' := Lib.hid h'
  obtain ⟨n, hn⟩ : ∃ n, Hid (ms.length = n) := ⟨_, rfl⟩
  rw [hn.out] at hA hB hms ⊢
  replace hA := Lib.hid hA
  replace hB := Lib.hid hB
  clear h h'
  go_enter Try.func20, Try.ntmps20
  go_wp2
  go_loopw [5] (fun i wr => ∃ k q : Nat, k ≤ n ∧ i = .int .i64 k ∧ wr = w.drewN q) (fun i _ => n - (intOf i).toNat)
  case atStart => exact ⟨0, 0, Nat.zero_le _, rfl, rfl⟩
  case round =>
    obtain ⟨k, q, hk, rfl, rfl⟩ := hrel
    by_cases hlt : k < n
    · obtain ⟨g, rfl⟩ := hA.out (by omega)
      obtain ⟨g', rfl⟩ := hB.out (by omega)
      obtain ⟨x0, x1, x2⟩ := maps_at H.out (i := k) (by rw [hn.out]; exact hlt)
      obtain ⟨y0, y1, y2⟩ := maps_at H'.out (i := k) (by rw [hn.out]; exact hlt)
      generalize (ms.getD k (0, 0, 0)).1 = z0 at *
      generalize (ms.getD k (0, 0, 0)).2.1 = z1 at *
      generalize (ms.getD k (0, 0, 0)).2.2 = z2 at *
      go_wp2
      go_quiet (fail)
      go_wp2
      go_roundw
      case rel => exact ⟨k + 1, _, by omega, by go_num, rfl⟩
      case measure => simp [intOf]; omega
    · obtain rfl : n = k := by omega
      go_wp2
      go_ret
      exact ⟨rfl, _, rfl⟩
end Go.Proofs.Ytleljcpljhpoaaa
