import Derived.Test.YtleljcpljhpoaaaPgAwake
namespace Go.Proofs.Ytleljcpljhpoaaa
set_option linter.unusedVariables false
set_option linter.unusedSimpArgs false
open Go.ChangeShapes Go.WideShapes Go.ChangeAt Go.RowKit Go.Proofs.Ytleljcpljhpoaaa.Num Go.Proofs.Ytleljcpljhpoaaa.Mem
/-- Page tables made from numbers: N words, in g pages. -/
theorem tables_n (B : Option Addr) (k d g N : Nat) (z : Nat → Int) (p : Int) (w : World) (hz : Ints w B k z) (p0 : -9223372036854775808 ≤ p) (p1 : p ≤ 9223372036854775807) (hg : (g : Int) = 1 + p % 8) (hN : N = 32 * g) :
    Calls Try.prog 23 #[.slice B k d, .int .i64 p] w fun e w' => (∃ A c l, e = .returned (.slice A N c) ∧ Mem w' A N c l) ∧ Below w.heap.size w w' := by
  obtain ⟨r, hr⟩ := nat_of (show 0 ≤ p % 8 by omega)
  have e : g = 1 + r := by omega
  subst hN e
  exact tables_any B k d r z p w hz p0 p1 hr
theorem pages_tab (p : Int) : ∃ g N : Nat, (g : Int) = 1 + p % 8 ∧ N = 32 * g ∧ 1 ≤ g ∧ g ≤ 8 ∧ pagesN N = g := by
  obtain ⟨r, hr⟩ := nat_of (show 0 ≤ p % 8 by omega)
  refine ⟨1 + r, 32 * (1 + r), by omega, rfl, by omega, by omega, ?_⟩
  unfold pagesN
  rw [if_pos (by omega)]
  omega
theorem walk_is (A : Option Addr) (n k : Nat) (l : List Int) (root va a x y c : Int) (w : World) (hm : Mem w A n k l) (r0 : 0 ≤ root) (r1 : root ≤ 4294967295) (v0 : 0 ≤ va) (v1 : va ≤ 4294967295) (hx : wkA n l root va a = x) (hy : wkE n l root va a = y) (hc : wkC n l root va a = c) :
    Calls Try.prog 12 #[.slice A n k, .int .u32 root, .int .u32 va, .int .i64 a] w fun e w' => e = .returned (.agg #[.int .u32 x, .int .u32 y, .int .i64 c]) ∧ Below w.heap.size w w' := by
  subst hx hy hc
  exact walk_any A n k l root va a w hm r0 r1 v0 v1
theorem cauN_bd (a : Int) : 4 ≤ cauN a ∧ cauN a ≤ 6 := by unfold cauN; split <;> (try split) <;> omega
/-- Two addresses of one page. -/
theorem pg_same (n : Nat) (l : List Int) (root p x y a : Int) (r0 : 0 ≤ root) (r1 : root ≤ 32) (p0 : 0 ≤ p) (p1 : p ≤ 31) (x0 : 0 ≤ x) (x1 : x ≤ 127) (y0 : 0 ≤ y) (y1 : y ≤ 127) :
    ∃ A1 A2 E C : Int, wkA n l root (128 * p + x) a = A1 ∧ wkA n l root (128 * p + y) a = A2 ∧ wkE n l root (128 * p + x) a = E ∧ wkE n l root (128 * p + y) a = E ∧ wkC n l root (128 * p + x) a = C ∧ wkC n l root (128 * p + y) a = C ∧ (4 ≤ C ∨ (C = 0 ∧ ∃ F, 0 ≤ F ∧ F ≤ 255 ∧ A1 = F * 128 + x ∧ A2 = F * 128 + y)) := by
  have e1 : (128 * p + x) / 128 = p := by omega
  have e2 : (128 * p + y) / 128 = p := by omega
  have hp : pteW l root (128 * p + x) = pteW l root (128 * p + y) := by unfold pteW; rw [e1, e2]
  have hb : wkB n l root (128 * p + x) a = wkB n l root (128 * p + y) a := by
    unfold wkB
    rw [hp]
    exact decide_eq_decide.2 ⟨fun ⟨h1, h2, h3⟩ => ⟨h1, by omega, h3⟩, fun ⟨h1, h2, h3⟩ => ⟨h1, by omega, h3⟩⟩
  have hcb := cauN_bd a
  cases h : wkB n l root (128 * p + y) a with
  | false =>
    rw [h] at hb
    refine ⟨0, 0, 0, cauN a, ?_, ?_, ?_, ?_, ?_, ?_, .inl hcb.1⟩ <;> simp [wkA, wkE, wkC, h, hb]
  | true =>
    rw [h] at hb
    refine ⟨frW (pteW l root (128 * p + y)) * 128 + x, frW (pteW l root (128 * p + y)) * 128 + y, root * 128 + p * 4, 0, ?_, ?_, ?_, ?_, ?_, ?_, .inr ⟨rfl, frW (pteW l root (128 * p + y)), ?_, ?_, rfl, rfl⟩⟩
    · simp only [wkA, hb, if_true, hp]; omega
    · simp only [wkA, h, if_true]; omega
    · simp only [wkE, hb, if_true, e1]
    · simp only [wkE, h, if_true, e2]
    · simp [wkC, hb]
    · simp [wkC, h]
    · unfold frW; omega
    · unfold frW; omega
set_option maxHeartbeats 2000000 in
theorem offsets_walk (B : Option Addr) (k d : Nat) (z : Nat → Int) (p root page a b access : Int) (w : World) (hz : Ints w B k z) (p0 : -9223372036854775808 ≤ p) (p1 : p ≤ 9223372036854775807)
    (r0 : 0 ≤ root) (r1 : root ≤ 4294967295) (g0 : 0 ≤ page) (g1 : page ≤ 4294967295) (a0 : 0 ≤ a) (a1 : a ≤ 4294967295) (b0 : 0 ≤ b) (b1 : b ≤ 4294967295) (c0 : -9223372036854775808 ≤ access) (c1 : access ≤ 9223372036854775807) :
    Calls Try.prog 9 #[.slice B k d, .int .i64 p, .int .u32 root, .int .u32 page, .int .u32 a, .int .u32 b, .int .i64 access] w fun e w' => e = .returned (.bool true) ∧ Below w.heap.size w w' := by
  obtain ⟨g, N, hg, hN, g1', g8, hpn⟩ := pages_tab p
  have HT := Lib.hid (fun W (h : Ints W B k z) => tables_n B k d g N z p W h p0 p1 hg hN)
  have HZ := Lib.hid hz
  have HA := Lib.hid awake_any
  clear hz hg hpn hN
  go_enter Try.func9, Try.ntmps9
  go_wp2_with (first
    | (go_at_call 23; refine (HT.out _ HZ.out).mono ?_; rintro e w1 ⟨⟨A1, c1, l1, rfl, hm1⟩, hb1⟩)
    | (go_at_call 11; refine (round_any _ _ _ (by omega) (by omega) (by omega) (by omega)).mono ?_; rintro e w2 ⟨rfl, rfl⟩))
  obtain ⟨X1, X2, E, C, q1, q2, q3, q4, q5, q6, hC⟩ := pg_same N l1 (root % 9) (page % 32) (a % 128) (b % 128) (access % 5) (by omega) (by omega) (by omega) (by omega) (by omega) (by omega) (by omega) (by omega)
  have H1 := Lib.hid (fun A c W (hM : Mem W A N c l1) => walk_is A N c l1 (root % 9) (128 * (page % 32) + a % 128) (access % 5) X1 E C W hM (by omega) (by omega) (by omega) (by omega) q1 q3 q5)
  have H2 := Lib.hid (fun A c W (hM : Mem W A N c l1) => walk_is A N c l1 (root % 9) (128 * (page % 32) + b % 128) (access % 5) X2 E C W hM (by omega) (by omega) (by omega) (by omega) q2 q4 q6)
  clear q1 q2 q3 q4 q5 q6
  rcases hC with hC | ⟨rfl, F, f0, f1, rfl, rfl⟩
  all_goals
    go_wp2_with (first
      | (go_at_call 12; first
        | ((with_reducible refine (H1.out _ _ _ hm1).mono ?_); rintro e w3 ⟨rfl, hb3⟩; have hm3 := hm1.on hb3)
        | ((with_reducible refine (H2.out _ _ _ hm3).mono ?_); rintro e w4 ⟨rfl, hb4⟩; have hz : w.heap.size ≤ w4.heap.size := (below_step (below_step hb1 hb3) hb4).size))
      | (go_at_call 17; refine (HA.out _).mono ?_; rintro e w11 ⟨rfl, hb11⟩))
    go_ret
    exact ⟨rfl, below_step (((below_step (below_step hb1 hb3) hb4).alloc hz _).alloc (by simp; omega) _) hb11⟩
theorem offsets_row (a0 : Option Addr) (len0 cap0 : Nat) (z0 : List Int) (a1 a2 a3 a4 a5 a6 : Int) (w : World) (w0 : IsRow .i64 w a0 len0 cap0 z0)
    (w1 : (Lit.int .i64 a1).wf = true) (w2 : (Lit.int .u32 a2).wf = true) (w3 : (Lit.int .u32 a3).wf = true) (w4 : (Lit.int .u32 a4).wf = true) (w5 : (Lit.int .u32 a5).wf = true) (w6 : (Lit.int .i64 a6).wf = true) :
    Calls Try.prog 9 #[.slice a0 len0 cap0, .int .i64 a1, .int .u32 a2, .int .u32 a3, .int .u32 a4, .int .u32 a5, .int .i64 a6] w fun e w' => e = .returned (.bool true) ∧ Below w.heap.size w w' :=
  offsets_walk a0 len0 cap0 _ a1 a2 a3 a4 a5 a6 w (row_ints w0) (wf_i64 w1).1 (wf_i64 w1).2 (wf_u32 w2).1 (wf_u32 w2).2 (wf_u32 w3).1 (wf_u32 w3).2 (wf_u32 w4).1 (wf_u32 w4).2 (wf_u32 w5).1 (wf_u32 w5).2 (wf_i64 w6).1 (wf_i64 w6).2
end Go.Proofs.Ytleljcpljhpoaaa
