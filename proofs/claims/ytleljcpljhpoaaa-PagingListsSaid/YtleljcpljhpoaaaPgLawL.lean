import Derived.Test.YtleljcpljhpoaaaPgLs2
namespace Go.Proofs.Ytleljcpljhpoaaa
set_option linter.unusedVariables false
set_option linter.unusedSimpArgs false
open Go.ChangeShapes Go.WideShapes Go.ChangeAt Go.RowKit Go.Proofs.Ytleljcpljhpoaaa.Num Go.Proofs.Ytleljcpljhpoaaa.Mem
/-- The mappings of m pages from page a on. -/
def lsT (l : List Int) (r a m : Nat) : List Mp := (List.range m).flatMap fun i => enM (wd l (32 * r + (a + i))) (a + i)
theorem lsK_add (l : List Int) (r a : Nat) : ∀ m, lsK l r (a + m) = lsK l r a ++ lsT l r a m
  | 0 => by simp [lsT]
  | m + 1 => by
    rw [← Nat.add_assoc, lsK_succ, lsK_add l r a m, List.append_assoc]
    congr 1
    unfold lsT
    rw [List.range_succ, List.flatMap_append]
    simp
theorem enM_mem {x : Int} {p : Nat} {y : Mp} (h : y ∈ enM x p) : y.1 = p := by
  unfold enM at h
  split at h
  · simp at h; rw [h]
  · simp at h
theorem lsT_ge (l : List Int) (r a m : Nat) (y : Mp) (h : y ∈ lsT l r a m) : (a : Int) ≤ y.1 := by
  unfold lsT at h
  obtain ⟨i, hi, hy⟩ := List.mem_flatMap.1 h
  rw [enM_mem hy]; omega
theorem ls_at (l : List Int) (r q : Nat) (hq : q < 32) : (wd l (32 * r + q) % 2 = 1 → (lsK l r q).length < (lsK l r 32).length ∧ (lsK l r 32).getD (lsK l r q).length (0, 0, 0) = ((q : Int), frW (wd l (32 * r + q)), wd l (32 * r + q) % 32)) ∧
    (¬ wd l (32 * r + q) % 2 = 1 → (lsK l r q).length < (lsK l r 32).length → ¬ ((lsK l r 32).getD (lsK l r q).length (0, 0, 0)).1 = (q : Int)) := by
  have e : lsK l r 32 = lsK l r q ++ (enM (wd l (32 * r + q)) q ++ lsT l r (q + 1) (31 - q)) := by
    rw [← List.append_assoc, ← lsK_succ, ← lsK_add]
    congr 1; omega
  rw [e]
  refine ⟨fun h => ?_, fun h hlt => ?_⟩
  · have hx : enM (wd l (32 * r + q)) q = [((q : Int), frW (wd l (32 * r + q)), wd l (32 * r + q) % 32)] := by unfold enM; rw [if_pos h]
    rw [hx]
    refine ⟨by simp, ?_⟩
    rw [List.getD_eq_getElem?_getD, List.getElem?_append_right (Nat.le_refl _)]
    simp
  · have hx : enM (wd l (32 * r + q)) q = [] := by unfold enM; rw [if_neg h]
    rw [hx, List.nil_append] at hlt ⊢
    rw [List.getD_eq_getElem?_getD, List.getElem?_append_right (Nat.le_refl _), Nat.sub_self]
    have h0 : 0 < (lsT l r (q + 1) (31 - q)).length := by rw [List.length_append] at hlt; omega
    rw [List.getElem?_eq_getElem h0, Option.getD_some]
    have := lsT_ge l r (q + 1) (31 - q) _ (List.getElem_mem h0)
    omega
theorem lists_step (l : List Int) (r q : Nat) : (lsK l r (q + 1)).length = (lsK l r q).length + (if wd l (32 * r + q) % 2 = 1 then 1 else 0) := by
  rw [lsK_succ, List.length_append]
  congr 1
  unfold enM
  split <;> rfl
/-- The translation of a page's first address, for a load. -/
theorem lists_wk (n : Nat) (l : List Int) (r q : Nat) (hr : (r : Int) < pagesN n) (hq : q < 32) :
    (wd l (32 * r + q) % 2 = 1 → frW (wd l (32 * r + q)) < pagesN n → wkA n l r (128 * (q : Int)) 2 = 128 * frW (wd l (32 * r + q)) ∧ wkC n l r (128 * (q : Int)) 2 = 0) ∧
    (¬ (wd l (32 * r + q) % 2 = 1 ∧ frW (wd l (32 * r + q)) < pagesN n) → wkC n l r (128 * (q : Int)) 2 = 5) := by
  have hx : pteW l r (128 * (q : Int)) = wd l (32 * r + q) := by unfold pteW; congr 1; omega
  have hb : wkB n l r (128 * (q : Int)) 2 = decide (wd l (32 * r + q) % 2 = 1 ∧ frW (wd l (32 * r + q)) < pagesN n) := by
    unfold wkB
    rw [hx]
    refine decide_eq_decide.2 ⟨fun ⟨h1, h2, h3, h4, h5⟩ => ⟨?_, h5⟩, fun ⟨h1, h2⟩ => ⟨.inr (.inl rfl), by omega, hr, ?_, h2⟩⟩
    · unfold mayB at h4; exact (of_decide_eq_true h4).1
    · unfold mayB; exact decide_eq_true ⟨h1, fun e => by omega, fun e => by omega⟩
  refine ⟨fun h1 h2 => ?_, fun h => ?_⟩
  · rw [decide_eq_true ⟨h1, h2⟩] at hb
    refine ⟨?_, by simp [wkC, hb]⟩
    simp only [wkA, hb, if_true, hx]; omega
  · rw [decide_eq_false h] at hb
    simp [wkC, hb, cauN]
set_option maxRecDepth 100000 in
set_option maxHeartbeats 4000000 in
theorem lists_walk (B : Option Addr) (k d : Nat) (z : Nat → Int) (p root : Int) (w : World) (hz : Ints w B k z) (p0 : -9223372036854775808 ≤ p) (p1 : p ≤ 9223372036854775807) (r0 : 0 ≤ root) (r1 : root ≤ 4294967295) :
    Calls Try.prog 7 #[.slice B k d, .int .i64 p, .int .u32 root] w fun e w' => e = .returned (.bool true) ∧ Below w.heap.size w w' := by
  obtain ⟨g, N, hg, hN, g1', g8, hpn⟩ := pages_tab p
  have HT := Lib.hid (fun W (h : Ints W B k z) => tables_n B k d g N z p W h p0 p1 hg hN)
  have HZ := Lib.hid hz
  have HA := Lib.hid awake_any
  have HP := Lib.hid (fun A c W => (pages_ref A N c W (by omega)).mono (R' := fun e w' => e = .returned (.int .i64 (g : Int)) ∧ ∃ m, w' = W.drewN m) fun e w' ⟨he, hw⟩ => ⟨by rw [he, hpn], hw⟩)
  have hgz : ¬ g = 0 := by omega
  obtain ⟨r, hr⟩ := nat_of (show 0 ≤ root % (g : Int) from Int.emod_nonneg _ (by omega))
  have rg : (r : Int) < g := by rw [← hr]; exact Int.emod_lt_of_pos _ (by omega)
  have HPN := Lib.hid hpn
  clear hz hg hN hpn
  go_enter Try.func7, Try.ntmps7
  go_wp2_with (first
    | (go_at_call 23; refine (HT.out _ HZ.out).mono ?_; rintro e w1 ⟨⟨A1, c1, l1, rfl, hm1⟩, hb1⟩)
    | (go_at_call 24; refine (HP.out _ _ _).mono ?_; rintro e w1 ⟨rfl, m1, rfl⟩))
  have els : lsL N l1 r = lsK l1 r 32 := by unfold lsL; rw [HPN.out, if_pos rg]; rfl
  have HLS := Lib.hid (list_any A1 N c1 l1 r (w1.drewN m1) (hm1.drewN m1) (by omega) (by omega))
  rw [els] at HLS
  have HM := Lib.hid (hm1.drewN m1)
  have HB1 := Lib.hid (below_drewN hb1 m1)
  have hu := Lib.hid hm1.2.2.2.1
  clear els hm1 hb1
  go_wp2_with (go_at_call 21; refine (HLS.out).mono ?_; rintro e w2 ⟨⟨v, rfl, ho⟩, hb2⟩)
  obtain ⟨A2, cap2, rfl, hA2⟩ := maps_shape ho
  have HO := Lib.hid ho
  have HM2 := Lib.hid (HM.out.on hb2)
  have HB2 := Lib.hid (below_step HB1.out hb2)
  have HA2 := Lib.hid hA2
  clear ho hb2 hA2 HLS HT HP HM HB1
  obtain ⟨n, hn⟩ : ∃ n, Hid ((lsK l1 r 32).length = n) := ⟨_, rfl⟩
  have hn32 : n ≤ 32 := by rw [← hn.out]; exact lsK_len _ _ _
  rw [hn.out] at HA2 ⊢
  go_loopw [10, 11] (fun kk pp wr => ∃ q j : Nat, q ≤ 32 ∧ pp = .int .u32 q ∧ kk = .int .i64 j ∧ Hid ((lsK l1 r q).length = j) ∧ j ≤ n ∧ Below w2.heap.size w2 wr) (fun _ pp _ => 32 - (intOf pp).toNat)
  case atStart => exact ⟨0, 0, by omega, rfl, rfl, (rfl : (lsK l1 r 0).length = 0), by omega, Below.refl _ _⟩
  case round =>
    obtain ⟨q, j, hq, rfl, rfl, hj, hjn, hb⟩ := hrel
    have HB := Lib.hid hb
    clear hb
    by_cases hlt : q < 32
    · obtain ⟨a1, a2⟩ := ls_at l1 r q hlt
      have a3 := lists_step l1 r q
      obtain ⟨k1, k2⟩ := lists_wk N l1 r q (by rw [HPN.out]; exact rg) hlt
      have hx := wd_bd hu.out (32 * r + q)
      have HWK := Lib.hid (fun X Y C W (hM : Mem W A1 N c1 l1) hX hY hC => walk_is A1 N c1 l1 r (128 * (q : Int)) 2 X Y C W hM (by omega) (by omega) (by omega) (by omega) hX hY hC)
      rw [hn.out, hj.out] at a1 a2
      rw [hj.out] at a3
      rw [HPN.out] at k1 k2
      generalize wd l1 (32 * r + q) = x at *
      obtain ⟨x0, x1⟩ := hx
      have hfr : 0 ≤ frW x ∧ frW x ≤ 255 := by unfold frW; omega
      generalize frW x = fr at *
      obtain ⟨f0, f1⟩ := hfr
      by_cases hv : x % 2 = 1
      · obtain ⟨hjl, hget⟩ := a1 hv
        obtain ⟨ga, rfl⟩ := HA2.out (by omega)
        have HAT := Lib.hid (fun W (hB : Below w2.heap.size w2 W) => maps_at (own_below HO.out hB) (i := j) (by rw [hn.out]; exact hjl))
        rw [hget] at HAT
        dsimp only at HAT
        rw [if_pos hv] at a3
        have HA3 := Lib.hid a3
        clear a1 a2 hget a3
        have hmf : 128 * fr % 4294967296 = 128 * fr := by omega
        have hwf : IntKind.u32.wrap (128 * fr) = 128 * fr := by
          have e : IntKind.u32.wrap (128 * fr) = 128 * fr % 4294967296 := by simp [IntKind.wrap, IntKind.bits, IntKind.signed]
          rw [e, hmf]
        by_cases hf : fr < g
        · obtain ⟨hX, hC⟩ := k1 hv hf
          have HW1 := Lib.hid (fun W hM => HWK.out _ _ _ W hM hX rfl hC)
          have hdf : decide (fr < (g : Int)) = true := decide_eq_true hf
          clear k1 k2 HWK hX hC hv
          generalize wkE N l1 r (128 * (q : Int)) 2 = E at *
          go_wp2_with (go_at_call 12; refine (HW1.out _ (HM2.out.on HB.out)).mono ?_; rintro e w4 ⟨rfl, hb4⟩; obtain ⟨d0, d1, d2⟩ := HAT.out w4 (below_step HB.out hb4); have e0 := fun o => Lib.cell?_alloc_some o d0; have e1 := fun o => Lib.cell?_alloc_some o d1)
          go_quiet (fail)
          go_wp2
          go_roundw
          case rel => exact ⟨q + 1, j + 1, by omega, by go_num, by go_num, HA3.out, by omega, below_drewN ((below_step HB.out hb4).alloc ((below_step HB.out hb4).size) _) _⟩
          case measure => simp [intOf]; omega
        · have hC := k2 (fun h => hf h.2)
          have HW1 := Lib.hid (fun W hM => HWK.out _ _ _ W hM rfl rfl hC)
          have hdf : decide (fr < (g : Int)) = false := decide_eq_false hf
          clear k1 k2 HWK hC hv
          generalize wkE N l1 r (128 * (q : Int)) 2 = E at *
          generalize wkA N l1 r (128 * (q : Int)) 2 = X at *
          go_wp2_with (go_at_call 12; refine (HW1.out _ (HM2.out.on HB.out)).mono ?_; rintro e w4 ⟨rfl, hb4⟩; obtain ⟨d0, d1, d2⟩ := HAT.out w4 (below_step HB.out hb4); have e0 := fun o => Lib.cell?_alloc_some o d0; have e1 := fun o => Lib.cell?_alloc_some o d1)
          go_quiet (fail)
          go_wp2
          go_roundw
          case rel => exact ⟨q + 1, j + 1, by omega, by go_num, by go_num, HA3.out, by omega, below_drewN ((below_step HB.out hb4).alloc ((below_step HB.out hb4).size) _) _⟩
          case measure => simp [intOf]; omega
      · have hC := k2 (fun h => hv h.1)
        have HW1 := Lib.hid (fun W hM => HWK.out _ _ _ W hM rfl rfl hC)
        rw [if_neg hv] at a3
        have HA3 := Lib.hid a3
        have ha2 := a2 hv
        clear a1 k1 k2 HWK hC a3 a2
        generalize wkE N l1 r (128 * (q : Int)) 2 = E at *
        generalize wkA N l1 r (128 * (q : Int)) 2 = X at *
        by_cases hjl : j < n
        · obtain ⟨ga, rfl⟩ := HA2.out (by omega)
          have HAT := Lib.hid (fun W (hB : Below w2.heap.size w2 W) => maps_at (own_below HO.out hB) (i := j) (by rw [hn.out]; exact hjl))
          have hne := ha2 hjl
          generalize ((lsK l1 r 32).getD j (0, 0, 0)).1 = z0 at *
          have hne2 : (z0 == (q : Int)) = false := by simpa using hne
          clear ha2
          go_wp2_with (go_at_call 12; refine (HW1.out _ (HM2.out.on HB.out)).mono ?_; rintro e w4 ⟨rfl, hb4⟩; obtain ⟨d0, d1, d2⟩ := HAT.out w4 (below_step HB.out hb4); have e0 := fun o => Lib.cell?_alloc_some o d0)
          go_roundw
          case rel => exact ⟨q + 1, j, by omega, by go_num, rfl, HA3.out, by omega, (below_step HB.out hb4).alloc ((below_step HB.out hb4).size) _⟩
          case measure => simp [intOf]; omega
        · clear ha2
          go_wp2_with (go_at_call 12; refine (HW1.out _ (HM2.out.on HB.out)).mono ?_; rintro e w4 ⟨rfl, hb4⟩)
          go_roundw
          case rel => exact ⟨q + 1, j, by omega, by go_num, rfl, HA3.out, by omega, (below_step HB.out hb4).alloc ((below_step HB.out hb4).size) _⟩
          case measure => simp [intOf]; omega
    · obtain rfl : q = 32 := by omega
      have e : j = n := by rw [← hj.out, hn.out]
      subst e
      go_wp2_with (go_at_call 17; refine (HA.out _).mono ?_; rintro e w11 ⟨rfl, hb11⟩)
      go_ret
      exact ⟨rfl, below_step HB2.out (below_step HB.out hb11)⟩
theorem lists_row (a0 : Option Addr) (len0 cap0 : Nat) (z0 : List Int) (a1 a2 : Int) (w : World) (w0 : IsRow .i64 w a0 len0 cap0 z0) (w1 : (Lit.int .i64 a1).wf = true) (w2 : (Lit.int .u32 a2).wf = true) :
    Calls Try.prog 7 #[.slice a0 len0 cap0, .int .i64 a1, .int .u32 a2] w fun e w' => e = .returned (.bool true) ∧ Below w.heap.size w w' :=
  lists_walk a0 len0 cap0 _ a1 a2 w (row_ints w0) (wf_i64 w1).1 (wf_i64 w1).2 (wf_u32 w2).1 (wf_u32 w2).2
end Go.Proofs.Ytleljcpljhpoaaa
