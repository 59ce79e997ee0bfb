import Derived.Test.YtleljcpljhpoaaaPgLawT
namespace Go.Proofs.Ytleljcpljhpoaaa
set_option linter.unusedVariables false
set_option linter.unusedSimpArgs false
open Go.ChangeShapes Go.WideShapes Go.ChangeAt Go.RowKit Go.Proofs.Ytleljcpljhpoaaa.Num Go.Proofs.Ytleljcpljhpoaaa.Mem
theorem mp_pte {n : Nat} {l : List Int} {r pg fr fl : Int} (hl : l.length = n) (r0 : 0 ≤ r) (r1 : r < pagesN n) (p0 : 0 ≤ pg) (p1 : pg ≤ 31) (f1 : fr < pagesN n) (g1 : fl ≤ 31) (s va : Int) (s0 : 0 ≤ s) (v0 : 0 ≤ va) (v1 : va < 4096) :
    mpB n r pg fr fl = true ∧ pteW (mpL n l r pg fr fl) s va = if r = s ∧ pg = va / 128 then fr * 256 + fl else pteW l s va := by
  have hb : mpB n r pg fr fl = true := decide_eq_true ⟨r1, f1, by omega, g1⟩
  have hp := pagesN_le n
  refine ⟨hb, ?_⟩
  unfold pteW
  rw [mpL_yes hb, wd_set _ _ _ _ (by omega)]
  by_cases h : r = s ∧ pg = va / 128
  · rw [if_pos (by rw [h.1, h.2]), if_pos h]
  · rw [if_neg (by omega), if_neg h]
/-- What an access needs of flags. -/
def mayF (fl a : Int) : Bool := decide (fl % 2 = 1 ∧ (a = 3 → fl / 2 % 2 = 1) ∧ (a = 1 → fl / 4 % 2 = 1))
theorem mp_may (fr fl a : Int) (g0 : 0 ≤ fl) (g1 : fl ≤ 31) : mayB (fr * 256 + fl) a = mayF fl a := by
  unfold mayB mayF
  exact decide_eq_decide.2 ⟨fun ⟨h1, h2, h3⟩ => ⟨by omega, fun e => by have := h2 e; omega, fun e => by have := h3 e; omega⟩, fun ⟨h1, h2, h3⟩ => ⟨by omega, fun e => by have := h2 e; omega, fun e => by have := h3 e; omega⟩⟩
/-- After a mapping: the translation of its page. -/
theorem mp_wk {n : Nat} {l : List Int} {r pg fr fl o a : Int} (hl : l.length = n) (r0 : 0 ≤ r) (r1 : r < pagesN n) (p0 : 0 ≤ pg) (p1 : pg ≤ 31) (f0 : 0 ≤ fr) (f1 : fr < pagesN n) (g0 : 0 ≤ fl) (g1 : fl ≤ 31) (o0 : 0 ≤ o) (o1 : o ≤ 127) (ha : a = 1 ∨ a = 2 ∨ a = 3) :
    mpB n r pg fr fl = true ∧ (mayF fl a = true → wkA n (mpL n l r pg fr fl) r (128 * pg + o) a = 128 * fr + o ∧ wkE n (mpL n l r pg fr fl) r (128 * pg + o) a = 128 * r + 4 * pg ∧ wkC n (mpL n l r pg fr fl) r (128 * pg + o) a = 0) ∧ (mayF fl a = false → wkC n (mpL n l r pg fr fl) r (128 * pg + o) a = cauN a) := by
  obtain ⟨hb, hx⟩ := mp_pte (fl := fl) hl r0 r1 p0 p1 f1 g1 r (128 * pg + o) r0 (by omega) (by omega)
  have hp := pagesN_le n
  have e1 : (128 * pg + o) / 128 = pg := by omega
  have e2 : (128 * pg + o) % 128 = o := by omega
  rw [if_pos ⟨rfl, e1.symm⟩] at hx
  have hfr : frW (fr * 256 + fl) = fr := by unfold frW; omega
  have hB : wkB n (mpL n l r pg fr fl) r (128 * pg + o) a = mayF fl a := by
    unfold wkB
    rw [hx, mp_may _ _ _ g0 g1, hfr]
    cases mayF fl a with
    | true => exact decide_eq_true ⟨ha, by omega, r1, rfl, f1⟩
    | false => exact decide_eq_false fun h => absurd h.2.2.2.1 (by decide)
  refine ⟨hb, fun h => ?_, fun h => ?_⟩
  · rw [h] at hB
    refine ⟨?_, ?_, ?_⟩
    · simp only [wkA, hB, if_true, hx, hfr, e2]; omega
    · simp only [wkE, hB, if_true, e1]; omega
    · simp [wkC, hB]
  · rw [h] at hB; simp [wkC, hB]
theorem mayF_is (f t : Int) (g0 : 0 ≤ f) (g1 : f ≤ 31) : mayF f t = ((bits .and .u32 f 1 != 0) && (decide (¬ t = 3) || (bits .and .u32 f 2 != 0)) && (decide (¬ t = 1) || (bits .and .u32 f 4 != 0))) := by
  rw [and_1 f g0 (by omega), and_2 f g0 (by omega), and_4 f g0 (by omega), Bool.eq_iff_iff]
  simp [mayF]
  omega
theorem quiet_same3 {P : Program} {f : FuncId} {args : Array Value} {w : World} {a n : Nat} {v : Value}
    (h : Calls P f args (w.drewN (a + n)) fun e w' => e = .returned v ∧ w' = w.drewN (a + n)) : Calls P f args (w.drewN (a + n)) fun e w'' => e = .returned v ∧ ∃ m, w'' = w.drewN (a + m) :=
  h.mono fun _ _ ⟨he, hm⟩ => ⟨he, n, hm⟩
set_option maxRecDepth 100000 in
set_option maxHeartbeats 4000000 in
theorem leads_walk (B : Option Addr) (k d : Nat) (z : Nat → Int) (p root page frame flags offset access : Int) (w : World) (hz : Ints w B k z) (p0 : -9223372036854775808 ≤ p) (p1 : p ≤ 9223372036854775807)
    (r0 : 0 ≤ root) (r1 : root ≤ 4294967295) (pg0 : 0 ≤ page) (pg1 : page ≤ 4294967295) (fr0 : 0 ≤ frame) (fr1 : frame ≤ 4294967295) (fl0 : 0 ≤ flags) (fl1 : flags ≤ 4294967295) (o0 : 0 ≤ offset) (o1 : offset ≤ 4294967295) (c0 : -9223372036854775808 ≤ access) (c1 : access ≤ 9223372036854775807) :
    Calls Try.prog 5 #[.slice B k d, .int .i64 p, .int .u32 root, .int .u32 page, .int .u32 frame, .int .u32 flags, .int .u32 offset, .int .i64 access] w fun e w' => e = .returned (.bool true) ∧ Below w.heap.size w w' := by
  obtain ⟨g, N, hg, hN, g1', g8, hpn⟩ := pages_tab p
  have HT := Lib.hid (fun W (h : Ints W B k z) => tables_n B k d g N z p W h p0 p1 hg hN)
  have HZ := Lib.hid hz
  have HA := Lib.hid awake_any
  have HP := Lib.hid (fun A c W => (pages_ref A N c W (by omega)).mono (R' := fun e w' => e = .returned (.int .i64 (g : Int)) ∧ ∃ m, w' = W.drewN m) fun e w' ⟨he, hw⟩ => ⟨by rw [he, hpn], hw⟩)
  have hgz : ¬ g = 0 := by omega
  obtain ⟨r, hr⟩ := nat_of (show 0 ≤ root % (g : Int) from Int.emod_nonneg _ (by omega))
  obtain ⟨fr, hfr⟩ := nat_of (show 0 ≤ frame % (g : Int) from Int.emod_nonneg _ (by omega))
  have rg : (r : Int) < g := by rw [← hr]; exact Int.emod_lt_of_pos _ (by omega)
  have frg : (fr : Int) < g := by rw [← hfr]; exact Int.emod_lt_of_pos _ (by omega)
  obtain ⟨pg, hpg, pg2⟩ : ∃ x : Nat, page % 32 = x ∧ x ≤ 31 := ⟨(page % 32).toNat, by omega, by omega⟩
  obtain ⟨fl, hfl, fl2⟩ : ∃ x : Nat, flags % 32 = x ∧ x ≤ 31 := ⟨(flags % 32).toNat, by omega, by omega⟩
  obtain ⟨o, ho, o2⟩ : ∃ x : Nat, offset % 128 = x ∧ x ≤ 127 := ⟨(offset % 128).toNat, by omega, by omega⟩
  obtain ⟨t, ht, t1, t2⟩ : ∃ t : Nat, 1 + access % 3 = t ∧ 1 ≤ t ∧ t ≤ 3 := ⟨(1 + access % 3).toNat, by omega, by omega, by omega⟩
  have HRD := Lib.hid (fun W => (round_any access 3 W (by omega) (by omega) (by omega) (by omega)).mono (R' := fun e w' => e = .returned (.int .i64 (access % 3)) ∧ w' = W) fun e w' ⟨he, hw⟩ => ⟨he, hw.symm⟩)
  have ha : (t : Int) = 1 ∨ (t : Int) = 2 ∨ (t : Int) = 3 := by omega
  have HW : Hid (∀ l : List Int, l.length = N → _) := fun l hl => mp_wk (n := N) (l := l) (r := r) (pg := pg) (fr := fr) (fl := fl) (o := o) (a := t) hl (by omega) (by rw [hpn]; exact rg) (by omega) (by omega) (by omega) (by rw [hpn]; exact frg) (by omega) (by omega) (by omega) (by omega) ha
  have HF := Lib.hid (mayF_is fl t (by omega) (by omega))
  have hcb := cauN_bd t
  have m1 : root.tmod (g : Int) = r := by rw [Int.tmod_eq_emod_of_nonneg r0, hr]
  have m2 : frame.tmod (g : Int) = fr := by rw [Int.tmod_eq_emod_of_nonneg fr0, hfr]
  have m3 : page.tmod 32 = pg := by rw [Int.tmod_eq_emod_of_nonneg pg0, hpg]
  have m4 : flags.tmod 32 = fl := by rw [Int.tmod_eq_emod_of_nonneg fl0, hfl]
  have m5 : offset.tmod 128 = o := by rw [Int.tmod_eq_emod_of_nonneg o0, ho]
  have m6 : IntKind.i64.wrap (1 + access % 3) = t := by rw [IntWalk.i64_in _ (by omega), ht]
  clear hz hg hpn hN ha
  go_enter Try.func5, Try.ntmps5
  go_wp2_with (first
    | (go_at_call 23; refine (HT.out _ HZ.out).mono ?_; rintro e w1 ⟨⟨A1, c1, l1, rfl, hm1⟩, hb1⟩)
    | (go_at_call 24; refine (HP.out _ _ _).mono ?_; rintro e w1 ⟨rfl, k1, rfl⟩))
  go_quiet ((go_at_call 11; first | exact Calls.quiet_of_same (HRD.out _) | exact quiet_same3 (HRD.out _)))
  clear m1 m2 m3 m4 m5 m6 hr hfr hpg hfl ho ht
  obtain ⟨mb, hT, hF⟩ := HW.out l1 hm1.1
  have HX : Hid (mpB N r pg fr fl = true) := mb
  obtain ⟨X, hX⟩ : ∃ X, wkA N (mpL N l1 r pg fr fl) r (128 * (pg : Int) + o) t = X := ⟨_, rfl⟩
  obtain ⟨Y, hY⟩ : ∃ Y, wkE N (mpL N l1 r pg fr fl) r (128 * (pg : Int) + o) t = Y := ⟨_, rfl⟩
  obtain ⟨C, hC⟩ : ∃ C, wkC N (mpL N l1 r pg fr fl) r (128 * (pg : Int) + o) t = C := ⟨_, rfl⟩
  have HM := Lib.hid (fun W (hM : Mem W A1 N c1 l1) => map_any A1 N c1 l1 r pg fr fl W hM (by omega) (by omega) (by omega) (by omega) (by omega) (by omega) (by omega) (by omega))
  rw [HX.out] at HM
  have HWK := Lib.hid (fun A c W (hM : Mem W A N c (mpL N l1 r pg fr fl)) => walk_is A N c _ r (128 * (pg : Int) + o) t X Y C W hM (by omega) (by omega) (by omega) (by omega) hX hY hC)
  rw [hX, hY, hC] at hT
  rw [hC] at hF
  have HTT := Lib.hid hT
  have HFF := Lib.hid hF
  have HM1 := Lib.hid hm1
  clear hT hF mb HX hX hY hC HW hm1
  go_wp2_with (go_at_call 18; refine (HM.out _ (HM1.out.drewN _)).mono ?_; rintro e w2 ⟨⟨A2, c2, rfl, hm2⟩, hb2⟩)
  refine (HWK.out _ _ _ hm2).mono ?_
  rintro e w3 ⟨rfl, hb3⟩
  have hz : w.heap.size ≤ w3.heap.size := (below_step (below_step (below_drewN hb1 _) hb2) hb3).size
  have HB := Lib.hid (below_step (below_step (below_drewN hb1 _) hb2) hb3)
  clear HM HWK hm2 HM1 HT HZ HP HRD
  have hms : mayF fl t = true ∨ mayF fl t = false := by cases mayF fl t <;> simp
  obtain ⟨v1, hv1⟩ : ∃ v, (bits .and .u32 (fl : Int) 1 != 0) = v := ⟨_, rfl⟩
  obtain ⟨v2, hv2⟩ : ∃ v, (bits .and .u32 (fl : Int) 2 != 0) = v := ⟨_, rfl⟩
  obtain ⟨v4, hv4⟩ : ∃ v, (bits .and .u32 (fl : Int) 4 != 0) = v := ⟨_, rfl⟩
  rw [hv1, hv2, hv4] at HF
  have ht3 : t = 1 ∨ t = 2 ∨ t = 3 := by omega
  rcases ht3 with rfl | rfl | rfl <;> cases v1 <;> cases v2 <;> cases v4
  all_goals
    rcases hms with hms | hms
    · first
      | (exfalso; have h := HF.out; rw [hms] at h; exact absurd h (by decide))
      | (obtain ⟨rfl, rfl, rfl⟩ := HTT.out hms
         clear HF HTT HFF hms
         go_wp2_with (go_at_call 17; refine (HA.out _).mono ?_; rintro e w11 ⟨rfl, hb11⟩)
         go_ret
         exact ⟨rfl, below_step (HB.out.alloc hz _) hb11⟩)
    · first
      | (exfalso; have h := HF.out; rw [hms] at h; exact absurd h (by decide))
      | (have hC : ¬ C = 0 := by have := HFF.out hms; omega
         clear HF HTT HFF hms
         go_wp2_with (go_at_call 17; refine (HA.out _).mono ?_; rintro e w11 ⟨rfl, hb11⟩)
         go_ret
         exact ⟨rfl, below_step (HB.out.alloc hz _) hb11⟩)
theorem leads_row (a0 : Option Addr) (len0 cap0 : Nat) (z0 : List Int) (a1 a2 a3 a4 a5 a6 a7 : Int) (w : World) (w0 : IsRow .i64 w a0 len0 cap0 z0)
    (w1 : (Lit.int .i64 a1).wf = true) (w2 : (Lit.int .u32 a2).wf = true) (w3 : (Lit.int .u32 a3).wf = true) (w4 : (Lit.int .u32 a4).wf = true) (w5 : (Lit.int .u32 a5).wf = true) (w6 : (Lit.int .u32 a6).wf = true) (w7 : (Lit.int .i64 a7).wf = true) :
    Calls Try.prog 5 #[.slice a0 len0 cap0, .int .i64 a1, .int .u32 a2, .int .u32 a3, .int .u32 a4, .int .u32 a5, .int .u32 a6, .int .i64 a7] w fun e w' => e = .returned (.bool true) ∧ Below w.heap.size w w' :=
  leads_walk a0 len0 cap0 _ a1 a2 a3 a4 a5 a6 a7 w (row_ints w0) (wf_i64 w1).1 (wf_i64 w1).2 (wf_u32 w2).1 (wf_u32 w2).2 (wf_u32 w3).1 (wf_u32 w3).2 (wf_u32 w4).1 (wf_u32 w4).2 (wf_u32 w5).1 (wf_u32 w5).2 (wf_u32 w6).1 (wf_u32 w6).2 (wf_i64 w7).1 (wf_i64 w7).2
end Go.Proofs.Ytleljcpljhpoaaa
