import Derived.Test.YtleljcpljhpoaaaPgLawO
namespace Go.Proofs.Ytleljcpljhpoaaa
set_option linter.unusedVariables false
set_option linter.unusedSimpArgs false
open Go.ChangeShapes Go.WideShapes Go.ChangeAt Go.RowKit Go.Proofs.Ytleljcpljhpoaaa.Num Go.Proofs.Ytleljcpljhpoaaa.Mem
theorem may_or (x : Int) (f : Nat) (a : Int) (h0 : 0 ≤ x) (hf : f = 8 ∨ f = 24) : mayB (orW x f) a = mayB x a := by
  have h := orW_low x f h0 hf
  unfold mayB
  exact decide_eq_decide.2 ⟨fun ⟨h1, h2, h3⟩ => ⟨by omega, fun e => by have := h2 e; omega, fun e => by have := h3 e; omega⟩, fun ⟨h1, h2, h3⟩ => ⟨by omega, fun e => by have := h2 e; omega, fun e => by have := h3 e; omega⟩⟩
theorem fr_or (x : Int) (f : Nat) (h0 : 0 ≤ x) (hf : f = 8 ∨ f = 24) : frW (orW x f) = frW x := by
  have h := orW_high x f h0 hf
  unfold frW; rw [h]
theorem wd_touch {n : Nat} {l : List Int} (hl : l.length = n) (e a : Int) (e0 : 0 ≤ e) (i : Nat) : wd (tcL n l e a) i = wd l i ∨ wd (tcL n l e a) i = orW (wd l i) (tcF a) := by
  unfold tcL
  split
  · have ho := okB_true ‹_›
    rw [wd_set _ _ _ _ (by omega)]
    split
    · subst ‹_ = i›; exact .inr rfl
    · exact .inl rfl
  · exact .inl rfl
theorem wk_touch {n : Nat} {l : List Int} (hl : l.length = n) (hu : U32 l) (e a : Int) (e0 : 0 ≤ e) (root va k : Int) :
    wkA n (tcL n l e a) root va k = wkA n l root va k ∧ wkE n (tcL n l e a) root va k = wkE n l root va k ∧ wkC n (tcL n l e a) root va k = wkC n l root va k := by
  have h : mayB (pteW (tcL n l e a) root va) k = mayB (pteW l root va) k ∧ frW (pteW (tcL n l e a) root va) = frW (pteW l root va) := by
    unfold pteW
    have hx := wd_bd hu (32 * root + va / 128).toNat
    rcases wd_touch hl e a e0 (32 * root + va / 128).toNat with h | h
    · rw [h]; exact ⟨rfl, rfl⟩
    · rw [h]; exact ⟨may_or _ _ _ hx.1 (tcF_or a), fr_or _ _ hx.1 (tcF_or a)⟩
  have hb : wkB n (tcL n l e a) root va k = wkB n l root va k := by unfold wkB; rw [h.1, h.2]
  refine ⟨?_, ?_, ?_⟩
  · unfold wkA; rw [hb, h.2]
  · unfold wkE; rw [hb]
  · unfold wkC; rw [hb]
theorem tc_twice (n : Nat) (l : List Int) (hl : l.length = n) (e a : Int) (e0 : 0 ≤ e) : tcL n (tcL n l e a) e a = tcL n l e a := by
  cases ho : okB n e 4 with
  | false => rw [tcL_no ho, tcL_no ho]
  | true =>
    have h := okB_true ho
    rw [tcL_yes ho, tcL_yes ho, wd_set _ _ _ _ (by omega), if_pos rfl, orW_same, List.set_set]
set_option maxRecDepth 100000 in
set_option maxHeartbeats 4000000 in
theorem touches_walk (B : Option Addr) (k d : Nat) (z : Nat → Int) (p entry root va one two : Int) (w : World) (hz : Ints w B k z) (p0 : -9223372036854775808 ≤ p) (p1 : p ≤ 9223372036854775807)
    (e0 : 0 ≤ entry) (e1 : entry ≤ 4294967295) (r0 : 0 ≤ root) (r1 : root ≤ 4294967295) (v0 : 0 ≤ va) (v1 : va ≤ 4294967295) :
    Calls Try.prog 6 #[.slice B k d, .int .i64 p, .int .u32 entry, .int .u32 root, .int .u32 va, .int .i64 one, .int .i64 two] w fun e w' => e = .returned (.bool true) ∧ Below w.heap.size w w' := by
  obtain ⟨g, N, hg, hN, g1', g8, hpn⟩ := pages_tab p
  have HT := Lib.hid (fun W (h : Ints W B k z) => tables_n B k d g N z p W h p0 p1 hg hN)
  have HZ := Lib.hid hz
  have HA := Lib.hid awake_any
  have N1 : 1 ≤ N := by omega
  have N2 : N ≤ 256 := by omega
  obtain ⟨ev, hev⟩ := nat_of (show 0 ≤ entry % (4 * (N : Int)) from Int.emod_nonneg _ (by omega))
  have hev1 : (ev : Int) < 4 * N := by rw [← hev]; exact Int.emod_lt_of_pos _ (by omega)
  clear hz hg hpn hN
  go_enter Try.func6, Try.ntmps6
  go_wp2_with (first
    | (go_at_call 23; refine (HT.out _ HZ.out).mono ?_; rintro e w1 ⟨⟨A1, c1, l1, rfl, hm1⟩, hb1⟩))
  have HTC := Lib.hid (touch_any A1 N c1 l1 ev one w1 hm1 (by omega) (by omega))
  go_wp2_with (first
    | (go_at_call 15; refine (HTC.out).mono ?_; rintro e w2 ⟨⟨A2, c2, rfl, hm2⟩, hb2⟩))
  have hwk := fun r v t => wk_touch (l := l1) hm1.1 hm1.2.2.2.1 ev one (by omega) r v t
  have HX : Hid (∀ W, Mem W A2 N c2 (tcL N l1 ev one) → ∀ (r v t : Int), 0 ≤ r → r ≤ 4294967295 → 0 ≤ v → v ≤ 4294967295 → Calls Try.prog 12 #[.slice A2 N c2, .int .u32 r, .int .u32 v, .int .i64 t] W fun e w' => e = .returned (.agg #[.int .u32 (wkA N l1 r v t), .int .u32 (wkE N l1 r v t), .int .i64 (wkC N l1 r v t)]) ∧ Below W.heap.size W w') :=
    fun W hM r v t q0 q1 q2 q3 => walk_is A2 N c2 _ r v t _ _ _ W hM q0 q1 q2 q3 (hwk r v t).1 (hwk r v t).2.1 (hwk r v t).2.2
  have HY : Hid (∀ W, Mem W A1 N c1 l1 → ∀ (r v t : Int), 0 ≤ r → r ≤ 4294967295 → 0 ≤ v → v ≤ 4294967295 → Calls Try.prog 12 #[.slice A1 N c1, .int .u32 r, .int .u32 v, .int .i64 t] W fun e w' => e = .returned (.agg #[.int .u32 (wkA N l1 r v t), .int .u32 (wkE N l1 r v t), .int .i64 (wkC N l1 r v t)]) ∧ Below W.heap.size W w') :=
    fun W hM r v t q0 q1 q2 q3 => walk_is A1 N c1 _ r v t _ _ _ W hM q0 q1 q2 q3 rfl rfl rfl
  have HT2 : Hid (∀ W, Mem W A2 N c2 (tcL N l1 ev one) → Calls Try.prog 15 #[.slice A2 N c2, .int .u32 ev, .int .i64 one] W (Gives N (tcL N l1 ev one) W)) := fun W hM => by
    have h := touch_any A2 N c2 _ ev one W hM (by omega) (by omega)
    rw [tc_twice N l1 hm1.1 ev one (by omega)] at h
    exact h
  clear hwk HTC HT
  generalize tcL N l1 ev one = l2 at *
  have HM2 := Lib.hid hm2
  have HM1 := Lib.hid (hm1.on hb2)
  have HB := Lib.hid (below_step hb1 hb2)
  clear hm1 hm2 hb1 hb2
  go_loopw [17] (fun i wr => ∃ t : Nat, 1 ≤ t ∧ t ≤ 4 ∧ i = .int .i64 t ∧ Below w2.heap.size w2 wr) (fun i _ => 4 - (intOf i).toNat)
  case atStart => exact ⟨1, by omega, by omega, rfl, Below.refl _ _⟩
  case round =>
    obtain ⟨t, t1, t4, rfl, hb⟩ := hrel
    have HBB := Lib.hid hb
    clear hb
    by_cases hlt : t ≤ 3
    · go_wp2_with (go_at_call 12; first
        | ((with_reducible refine (HX.out _ (HM2.out.on HBB.out) _ _ _ (by omega) (by omega) (by omega) (by omega)).mono ?_); rintro e w4 ⟨rfl, hb4⟩)
        | ((with_reducible refine (HY.out _ (HM1.out.on (below_step HBB.out hb4)) _ _ _ (by omega) (by omega) (by omega) (by omega)).mono ?_); rintro e w5 ⟨rfl, hb5⟩))
      go_roundw
      case rel => exact ⟨t + 1, by omega, by omega, by go_num, below_step (below_step HBB.out hb4) hb5⟩
      case measure => simp [intOf]; omega
    · go_wp2_with (first
        | (go_at_call 15; refine (HT2.out _ (HM2.out.on HBB.out)).mono ?_; rintro e w6 ⟨⟨A6, c6, rfl, hm6⟩, hb6⟩)
        | (go_at_call 14; refine (same_refl _ _ _ _ _ _ _ hm6 (HM2.out.on (below_step HBB.out hb6))).mono ?_; rintro e w7 ⟨rfl, m7, rfl⟩)
        | (go_at_call 12; first
          | ((with_reducible refine (HX.out _ (HM2.out.on (below_drewN (below_step HBB.out hb6) m7)) _ _ _ (by omega) (by omega) (by omega) (by omega)).mono ?_); rintro e w8 ⟨rfl, hb8⟩)
          | ((with_reducible refine (HY.out _ (HM1.out.on (below_step (below_drewN (below_step HBB.out hb6) m7) hb8)) _ _ _ (by omega) (by omega) (by omega) (by omega)).mono ?_); rintro e w9 ⟨rfl, hb9⟩))
        | (go_at_call 17; refine (HA.out _).mono ?_; rintro e w11 ⟨rfl, hb11⟩))
      go_ret
      exact ⟨rfl, below_step HB.out (below_step (below_step (below_step (below_drewN (below_step HBB.out hb6) m7) hb8) hb9) hb11)⟩
theorem touches_row (a0 : Option Addr) (len0 cap0 : Nat) (z0 : List Int) (a1 a2 a3 a4 a5 a6 : Int) (w : World) (w0 : IsRow .i64 w a0 len0 cap0 z0)
    (w1 : (Lit.int .i64 a1).wf = true) (w2 : (Lit.int .u32 a2).wf = true) (w3 : (Lit.int .u32 a3).wf = true) (w4 : (Lit.int .u32 a4).wf = true) :
    Calls Try.prog 6 #[.slice a0 len0 cap0, .int .i64 a1, .int .u32 a2, .int .u32 a3, .int .u32 a4, .int .i64 a5, .int .i64 a6] w fun e w' => e = .returned (.bool true) ∧ Below w.heap.size w w' :=
  touches_walk a0 len0 cap0 _ a1 a2 a3 a4 a5 a6 w (row_ints w0) (wf_i64 w1).1 (wf_i64 w1).2 (wf_u32 w2).1 (wf_u32 w2).2 (wf_u32 w3).1 (wf_u32 w3).2 (wf_u32 w4).1 (wf_u32 w4).2
end Go.Proofs.Ytleljcpljhpoaaa
