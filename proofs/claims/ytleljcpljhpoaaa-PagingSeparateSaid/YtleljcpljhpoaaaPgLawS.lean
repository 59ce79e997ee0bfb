import Derived.Test.YtleljcpljhpoaaaPgLawD
namespace Go.Proofs.Ytleljcpljhpoaaa
set_option linter.unusedVariables false
set_option linter.unusedSimpArgs false
open Go.ChangeShapes Go.WideShapes Go.ChangeAt Go.RowKit Go.Proofs.Ytleljcpljhpoaaa.Num Go.Proofs.Ytleljcpljhpoaaa.Mem
theorem mp_apart {n : Nat} {l : List Int} {r pg fr fl s q a : Int} (hl : l.length = n) (r0 : 0 ≤ r) (r1 : r < pagesN n) (p0 : 0 ≤ pg) (p1 : pg ≤ 31) (f1 : fr < pagesN n) (g1 : fl ≤ 31) (s0 : 0 ≤ s) (q0 : 0 ≤ q) (q1 : q ≤ 31) (hne : ¬ (r = s ∧ pg = q)) :
    mpB n r pg fr fl = true ∧ wkA n (mpL n l r pg fr fl) s (128 * q) a = wkA n l s (128 * q) a ∧ wkE n (mpL n l r pg fr fl) s (128 * q) a = wkE n l s (128 * q) a ∧ wkC n (mpL n l r pg fr fl) s (128 * q) a = wkC n l s (128 * q) a := by
  obtain ⟨hb, hx⟩ := mp_pte (fl := fl) hl r0 r1 p0 p1 f1 g1 s (128 * q) s0 (by omega) (by omega)
  rw [if_neg (by rw [show 128 * q / 128 = q by omega]; exact hne)] at hx
  have hB : wkB n (mpL n l r pg fr fl) s (128 * q) a = wkB n l s (128 * q) a := by unfold wkB; rw [hx]
  refine ⟨hb, ?_, ?_, ?_⟩
  · unfold wkA; rw [hB, hx]
  · unfold wkE; rw [hB]
  · unfold wkC; rw [hB]
set_option maxRecDepth 100000 in
set_option maxHeartbeats 4000000 in
theorem separate_walk (B : Option Addr) (k d : Nat) (z : Nat → Int) (p one two page other frame flags access : Int) (w : World) (hz : Ints w B k z) (p0 : -9223372036854775808 ≤ p) (p1 : p ≤ 9223372036854775807)
    (r0 : 0 ≤ one) (r1 : one ≤ 4294967295) (s0 : 0 ≤ two) (s1 : two ≤ 4294967295) (pg0 : 0 ≤ page) (pg1 : page ≤ 4294967295) (q0 : 0 ≤ other) (q1 : other ≤ 4294967295) (fr0 : 0 ≤ frame) (fr1 : frame ≤ 4294967295) (fl0 : 0 ≤ flags) (fl1 : flags ≤ 4294967295) (c0 : -9223372036854775808 ≤ access) (c1 : access ≤ 9223372036854775807) :
    Calls Try.prog 8 #[.slice B k d, .int .i64 p, .int .u32 one, .int .u32 two, .int .u32 page, .int .u32 other, .int .u32 frame, .int .u32 flags, .int .i64 access] w fun e w' => e = .returned (.bool true) ∧ Below w.heap.size w w' := by
  obtain ⟨g, N, hg, hN, g1', g8, hpn⟩ := pages_tab p
  have HT := Lib.hid (fun W (h : Ints W B k z) => tables_n B k d g N z p W h p0 p1 hg hN)
  have HZ := Lib.hid hz
  have HA := Lib.hid awake_any
  have HP := Lib.hid (fun A c W => (pages_ref A N c W (by omega)).mono (R' := fun e w' => e = .returned (.int .i64 (g : Int)) ∧ ∃ m, w' = W.drewN m) fun e w' ⟨he, hw⟩ => ⟨by rw [he, hpn], hw⟩)
  have hgz : ¬ g = 0 := by omega
  obtain ⟨r, hr⟩ := nat_of (show 0 ≤ one % (g : Int) from Int.emod_nonneg _ (by omega))
  obtain ⟨s, hs⟩ := nat_of (show 0 ≤ two % (g : Int) from Int.emod_nonneg _ (by omega))
  obtain ⟨fr, hfr⟩ := nat_of (show 0 ≤ frame % (g : Int) from Int.emod_nonneg _ (by omega))
  have rg : (r : Int) < g := by rw [← hr]; exact Int.emod_lt_of_pos _ (by omega)
  have sg : (s : Int) < g := by rw [← hs]; exact Int.emod_lt_of_pos _ (by omega)
  have frg : (fr : Int) < g := by rw [← hfr]; exact Int.emod_lt_of_pos _ (by omega)
  obtain ⟨pg, hpg, pg2⟩ : ∃ x : Nat, page % 32 = x ∧ x ≤ 31 := ⟨(page % 32).toNat, by omega, by omega⟩
  obtain ⟨q, hq, q2⟩ : ∃ x : Nat, other % 32 = x ∧ x ≤ 31 := ⟨(other % 32).toNat, by omega, by omega⟩
  obtain ⟨fl, hfl, fl2⟩ : ∃ x : Nat, flags % 32 = x ∧ x ≤ 31 := ⟨(flags % 32).toNat, by omega, by omega⟩
  obtain ⟨t, ht, t1, t2⟩ : ∃ t : Nat, 1 + access % 3 = t ∧ 1 ≤ t ∧ t ≤ 3 := ⟨(1 + access % 3).toNat, by omega, by omega, by omega⟩
  have HRD := Lib.hid (fun W => (round_any access 3 W (by omega) (by omega) (by omega) (by omega)).mono (R' := fun e w' => e = .returned (.int .i64 (access % 3)) ∧ w' = W) fun e w' ⟨he, hw⟩ => ⟨he, hw.symm⟩)
  have HB : Hid (mpB N r pg fr fl = true) := decide_eq_true ⟨by rw [hpn]; exact rg, by rw [hpn]; exact frg, by omega, by omega⟩
  have HW : Hid (¬ (r = s ∧ pg = q) → ∀ l : List Int, l.length = N → _) := fun h l hl => mp_apart (n := N) (l := l) (r := r) (pg := pg) (fr := fr) (fl := fl) (s := s) (q := q) (a := t) hl (by omega) (by rw [hpn]; exact rg) (by omega) (by omega) (by rw [hpn]; exact frg) (by omega) (by omega) (by omega) (by omega) (by omega)
  have m1 : one.tmod (g : Int) = r := by rw [Int.tmod_eq_emod_of_nonneg r0, hr]
  have m2 : frame.tmod (g : Int) = fr := by rw [Int.tmod_eq_emod_of_nonneg fr0, hfr]
  have m3 : page.tmod 32 = pg := by rw [Int.tmod_eq_emod_of_nonneg pg0, hpg]
  have m4 : two.tmod (g : Int) = s := by rw [Int.tmod_eq_emod_of_nonneg s0, hs]
  have m5 : other.tmod 32 = q := by rw [Int.tmod_eq_emod_of_nonneg q0, hq]
  have m6 : IntKind.i64.wrap (1 + access % 3) = t := by rw [IntWalk.i64_in _ (by omega), ht]
  clear hz hg hpn hN
  go_enter Try.func8, Try.ntmps8
  go_wp2_with (first
    | (go_at_call 23; refine (HT.out _ HZ.out).mono ?_; rintro e w1 ⟨⟨A1, c1, l1, rfl, hm1⟩, hb1⟩)
    | (go_at_call 24; refine (HP.out _ _ _).mono ?_; rintro e w1 ⟨rfl, k1, rfl⟩))
  go_quiet ((go_at_call 11; first | exact Calls.quiet_of_same (HRD.out _) | exact quiet_same3 (HRD.out _)))
  clear m1 m2 m3 m4 m5 m6 hr hs hfr hpg hq ht
  have HM := Lib.hid (fun W (hM : Mem W A1 N c1 l1) => map_any A1 N c1 l1 r pg fr fl W hM (by omega) (by omega) (by omega) (by omega) (by omega) (by omega) (by omega) (by omega))
  rw [HB.out] at HM
  have HM1 := Lib.hid hm1
  clear hm1
  by_cases hne : r = s ∧ pg = q
  · obtain ⟨rfl, rfl⟩ := hne
    clear HW
    go_wp2_with (first
      | (go_at_call 18; refine (HM.out _ (HM1.out.drewN _)).mono ?_; rintro e w2 ⟨⟨A2, c2, rfl, hm2⟩, hb2⟩)
      | (go_at_call 17; refine (HA.out _).mono ?_; rintro e w11 ⟨rfl, hb11⟩))
    go_ret
    exact ⟨rfl, below_step (below_step (below_drewN hb1 _) hb2) hb11⟩
  · obtain ⟨_, u1, u2, u3⟩ := HW.out hne l1 HM1.out.1
    have H1 := Lib.hid (fun A c W (hM : Mem W A N c (mpL N l1 r pg fr fl)) => walk_is A N c _ s (128 * (q : Int)) t _ _ _ W hM (by omega) (by omega) (by omega) (by omega) u1 u2 u3)
    have H2 := Lib.hid (fun A c W (hM : Mem W A N c l1) => walk_is A N c _ s (128 * (q : Int)) t _ _ _ W hM (by omega) (by omega) (by omega) (by omega) rfl rfl rfl)
    clear HW u1 u2 u3
    generalize wkA N l1 s (128 * (q : Int)) t = X at *
    generalize wkE N l1 s (128 * (q : Int)) t = Y at *
    generalize wkC N l1 s (128 * (q : Int)) t = C at *
    by_cases h1 : r = s
    · have h2 : ¬ pg = q := fun h => hne ⟨h1, h⟩
      subst h1
      clear hne
      go_wp2_with (first
        | (go_at_call 18; refine (HM.out _ (HM1.out.drewN _)).mono ?_; rintro e w2 ⟨⟨A2, c2, rfl, hm2⟩, hb2⟩)
        | (go_at_call 12; first
          | ((with_reducible refine (H1.out _ _ _ hm2).mono ?_); rintro e w3 ⟨rfl, hb3⟩)
          | ((with_reducible refine (H2.out _ _ _ ((HM1.out.drewN _).on (below_step hb2 hb3))).mono ?_); rintro e w4 ⟨rfl, hb4⟩))
        | (go_at_call 17; refine (HA.out _).mono ?_; rintro e w11 ⟨rfl, hb11⟩))
      go_ret
      exact ⟨rfl, below_step (below_step (below_step (below_step (below_drewN hb1 _) hb2) hb3) hb4) hb11⟩
    · clear hne
      go_wp2_with (first
        | (go_at_call 18; refine (HM.out _ (HM1.out.drewN _)).mono ?_; rintro e w2 ⟨⟨A2, c2, rfl, hm2⟩, hb2⟩)
        | (go_at_call 12; first
          | ((with_reducible refine (H1.out _ _ _ hm2).mono ?_); rintro e w3 ⟨rfl, hb3⟩)
          | ((with_reducible refine (H2.out _ _ _ ((HM1.out.drewN _).on (below_step hb2 hb3))).mono ?_); rintro e w4 ⟨rfl, hb4⟩))
        | (go_at_call 17; refine (HA.out _).mono ?_; rintro e w11 ⟨rfl, hb11⟩))
      go_ret
      exact ⟨rfl, below_step (below_step (below_step (below_step (below_drewN hb1 _) hb2) hb3) hb4) hb11⟩
theorem separate_row (a0 : Option Addr) (len0 cap0 : Nat) (z0 : List Int) (a1 a2 a3 a4 a5 a6 a7 a8 : Int) (w : World) (w0 : IsRow .i64 w a0 len0 cap0 z0)
    (w1 : (Lit.int .i64 a1).wf = true) (w2 : (Lit.int .u32 a2).wf = true) (w3 : (Lit.int .u32 a3).wf = true) (w4 : (Lit.int .u32 a4).wf = true) (w5 : (Lit.int .u32 a5).wf = true) (w6 : (Lit.int .u32 a6).wf = true) (w7 : (Lit.int .u32 a7).wf = true) (w8 : (Lit.int .i64 a8).wf = true) :
    Calls Try.prog 8 #[.slice a0 len0 cap0, .int .i64 a1, .int .u32 a2, .int .u32 a3, .int .u32 a4, .int .u32 a5, .int .u32 a6, .int .u32 a7, .int .i64 a8] w fun e w' => e = .returned (.bool true) ∧ Below w.heap.size w w' :=
  separate_walk a0 len0 cap0 _ a1 a2 a3 a4 a5 a6 a7 a8 w (row_ints w0) (wf_i64 w1).1 (wf_i64 w1).2 (wf_u32 w2).1 (wf_u32 w2).2 (wf_u32 w3).1 (wf_u32 w3).2 (wf_u32 w4).1 (wf_u32 w4).2 (wf_u32 w5).1 (wf_u32 w5).2 (wf_u32 w6).1 (wf_u32 w6).2 (wf_u32 w7).1 (wf_u32 w7).2 (wf_i64 w8).1 (wf_i64 w8).2
end Go.Proofs.Ytleljcpljhpoaaa
