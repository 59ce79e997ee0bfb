import Derived.Test.YtleljcpljhpoaaaPgLawO
import Derived.Deep.RegionHeld3
namespace Go.Proofs.Ytleljcpljhpoaaa
set_option linter.unusedVariables false
set_option linter.unusedSimpArgs false
open Go.ChangeShapes Go.WideShapes Go.ChangeAt Go.RowKit Go.Proofs.Ytleljcpljhpoaaa.Num Go.Proofs.Ytleljcpljhpoaaa.Mem
/-- A slice of words: what came in, or page tables that were made. -/
def Shaped5 (w : World) (e : Ending) (w' : World) : Prop := (∃ A n c l, e = .returned (.slice A n c) ∧ n ≤ 256 ∧ Mem w' A n c l) ∧ Below w.heap.size w w'
theorem shaped5_any (A B : Option Addr) (n c k d : Nat) (raw : Bool) (z : Nat → Int) (p : Int) (w : World) (hm : n ≤ 200 → ∃ l, Mem w A n c l) (hz : Ints w B k z) (p0 : -9223372036854775808 ≤ p) (p1 : p ≤ 9223372036854775807) :
    Calls Try.prog 10 #[.slice A n c, .bool raw, .slice B k d, .int .i64 p] w (Shaped5 w) := by
  obtain ⟨g, N, hg, hN, g1', g8, hpn⟩ := pages_tab p
  have HT := Lib.hid (fun W (h : Ints W B k z) => tables_n B k d g N z p W h p0 p1 hg hN)
  have HZ := Lib.hid hz
  have HM := Lib.hid hm
  have HN : Hid (N ≤ 256) := by show _ ≤ _; omega
  clear hm hz hpn hN
  cases raw with
  | false =>
    go_enter Try.func10, Try.ntmps10
    go_wp2_with (go_at_call 23; refine (HT.out _ HZ.out).mono ?_; rintro e w1 ⟨⟨A1, c1, l1, rfl, hm1⟩, hb1⟩)
    go_ret
    exact ⟨⟨A1, N, c1, l1, rfl, HN.out, hm1⟩, hb1⟩
  | true =>
    by_cases hn : n ≤ 200
    · go_enter Try.func10, Try.ntmps10
      go_wp2
      go_ret
      obtain ⟨l, hl⟩ := HM.out hn
      exact ⟨⟨A, n, c, l, rfl, by omega, hl⟩, Below.refl _ _⟩
    · by_cases hnm : n ≤ 9223372036854775807
      · go_enter Try.func10, Try.ntmps10
        go_wp2_with (go_at_call 23; refine (HT.out _ HZ.out).mono ?_; rintro e w1 ⟨⟨A1, c1, l1, rfl, hm1⟩, hb1⟩)
        go_ret
        exact ⟨⟨A1, N, c1, l1, rfl, HN.out, hm1⟩, hb1⟩
      · go_enter Try.func10, Try.ntmps10
        go_wp2_with (go_at_call 23; refine (HT.out _ HZ.out).mono ?_; rintro e w1 ⟨⟨A1, c1, l1, rfl, hm1⟩, hb1⟩)
        go_ret
        exact ⟨⟨A1, N, c1, l1, rfl, HN.out, hm1⟩, hb1⟩
theorem walkr_is (A : Option Addr) (n k : Nat) (l : List Int) (root va a x y c : Int) (w : World) (hm : Mem w A n k l) (r0 : 0 ≤ root) (v0 : 0 ≤ va) (hx : wkA n l root va a = x) (hy : wkE n l root va a = y) (hc : wkC n l root va a = c) :
    Calls Try.prog 13 #[.slice A n k, .int .u32 root, .int .u32 va, .int .i64 a] w fun e w' => e = .returned (.agg #[.int .u32 x, .int .u32 y, .int .i64 c]) ∧ Below w.heap.size w w' := by
  subst hx hy hc
  exact walk_ref A n k l root va a w hm r0 v0
theorem wkE_bd (n : Nat) (l : List Int) (root va a : Int) (r0 : 0 ≤ root) (v0 : 0 ≤ va) : 0 ≤ wkE n l root va a ∧ wkE n l root va a ≤ 4294967295 := by
  have hp := pagesN_le n
  unfold wkE
  split
  · have h : wkB n l root va a = true := ‹_›
    unfold wkB at h
    have h := of_decide_eq_true h
    omega
  · omega
set_option maxRecDepth 100000 in
set_option maxHeartbeats 4000000 in
theorem walks_walk (A B : Option Addr) (n c k d : Nat) (raw small : Bool) (z : Nat → Int) (p root va access : Int) (w : World) (hm : n ≤ 200 → ∃ l, Mem w A n c l) (hz : Ints w B k z) (p0 : -9223372036854775808 ≤ p) (p1 : p ≤ 9223372036854775807)
    (r0 : 0 ≤ root) (r1 : root ≤ 4294967295) (v0 : 0 ≤ va) (v1 : va ≤ 4294967295) (c0 : -9223372036854775808 ≤ access) (c1 : access ≤ 9223372036854775807) :
    Calls Try.prog 3 #[.slice A n c, .bool raw, .slice B k d, .int .i64 p, .int .u32 root, .int .u32 va, .int .i64 access, .bool small] w fun e w' => e = .returned (.bool true) ∧ Below w.heap.size w w' := by
  have HS := Lib.hid (shaped5_any A B n c k d raw z p w hm hz p0 p1)
  have HA := Lib.hid awake_any
  clear hm hz
  obtain ⟨R, V, K, hR, hV, hK, R0, R1, V0, V1⟩ : ∃ R V K : Int, (if small = true then root % 9 else root) = R ∧ (if small = true then va % 5000 else va) = V ∧ (if small = true then access % 5 else access) = K ∧ 0 ≤ R ∧ R ≤ 4294967295 ∧ 0 ≤ V ∧ V ≤ 4294967295 := ⟨_, _, _, rfl, rfl, rfl, by split <;> omega, by split <;> omega, by split <;> omega, by split <;> omega⟩
  cases small
  all_goals
    simp only [Bool.false_eq_true, if_false, if_true] at hR hV hK
    go_enter Try.func3, Try.ntmps3
    go_wp2_with (first
      | (go_at_call 10; refine (HS.out).mono ?_; rintro e w1 ⟨⟨A1, n1, c1, l1, rfl, hn1, hm1⟩, hb1⟩)
      | (go_at_call 11; refine (round_any _ _ _ (by omega) (by omega) (by omega) (by omega)).mono ?_; rintro e w2 ⟨rfl, rfl⟩))
  all_goals
    clear hR hV hK
    have hE := wkE_bd n1 l1 R V K R0 V0
    have H1 := Lib.hid (walk_is A1 n1 c1 l1 R V K _ _ _ w1 hm1 R0 R1 V0 V1 rfl rfl rfl)
    have H2 := Lib.hid (fun W (hM : Mem W A1 n1 c1 l1) => walkr_is A1 n1 c1 l1 R V K _ _ _ W hM R0 V0 rfl rfl rfl)
    generalize wkA n1 l1 R V K = X at *
    generalize wkE n1 l1 R V K = E at *
    generalize wkC n1 l1 R V K = C at *
    have HM1 := Lib.hid hm1
    clear hm1
    go_wp2_with (first
      | (go_at_call 12; refine (H1.out).mono ?_; rintro e w3 ⟨rfl, hb3⟩)
      | (go_at_call 13; refine (H2.out _ (HM1.out.on (hb3.alloc hb3.size _))).mono ?_; rintro e w4 ⟨rfl, hb4⟩))
    have hz1 := hb3.size
    have hz4 := hb4.size
    simp at hz4
    have t0 : w4.cell? ⟨w3.heap.size, 0, none⟩ = some (.int .u32 X) := cell_on (by simp [go_sem]) hb4
    have t1 : w4.cell? ⟨w3.heap.size, 1, none⟩ = some (.int .u32 E) := cell_on (by simp [go_sem]) hb4
    have t2 : w4.cell? ⟨w3.heap.size, 2, none⟩ = some (.int .i64 C) := cell_on (by simp [go_sem]) hb4
    have HB4 := Lib.hid ((hb3.alloc hb3.size (.cells #[.int .u32 X, .int .u32 E, .int .i64 C] 28)).trans (hb4.mono (by simp; omega)))
    obtain ⟨W, hW⟩ : ∃ W, w4.alloc (.cells #[.int .u32 X, .int .u32 E, .int .i64 C] 28) = W := ⟨_, rfl⟩
    have s0 : W.cell? ⟨w3.heap.size, 0, none⟩ = some (.int .u32 X) := by rw [← hW]; exact Lib.cell?_alloc_some _ t0
    have s1 : W.cell? ⟨w3.heap.size, 1, none⟩ = some (.int .u32 E) := by rw [← hW]; exact Lib.cell?_alloc_some _ t1
    have s2 : W.cell? ⟨w3.heap.size, 2, none⟩ = some (.int .i64 C) := by rw [← hW]; exact Lib.cell?_alloc_some _ t2
    have s3 : W.cell? ⟨w4.heap.size, 0, none⟩ = some (.int .u32 X) := by rw [← hW]; simp [go_sem]
    have s4 : W.cell? ⟨w4.heap.size, 1, none⟩ = some (.int .u32 E) := by rw [← hW]; simp [go_sem]
    have s5 : W.cell? ⟨w4.heap.size, 2, none⟩ = some (.int .i64 C) := by rw [← hW]; simp [go_sem]
    have HBW : Hid (Below w1.heap.size w1 W) := by rw [← hW]; exact HB4.out.alloc (by omega) _
    rw [hW]
    have HMW := Lib.hid (HM1.out.on HBW.out)
    clear hW t0 t1 t2 HB4 hb3 hb4 hz1 hz4 H1 H2 HM1
    generalize w3.heap.size = g3 at *
    generalize w4.heap.size = g4 at *
    have bb : Below W.heap.size W W.drew := (Below.refl _ _).drew
  all_goals
    go_region_held3 (fun w' => w'.cell? ⟨g3, 0, none⟩ = some (.int .u32 X) ∧ w'.cell? ⟨g3, 1, none⟩ = some (.int .u32 E) ∧ w'.cell? ⟨g3, 2, none⟩ = some (.int .i64 C) ∧ w'.cell? ⟨g4, 0, none⟩ = some (.int .u32 X) ∧ w'.cell? ⟨g4, 1, none⟩ = some (.int .u32 E) ∧ w'.cell? ⟨g4, 2, none⟩ = some (.int .i64 C)) (first | exact ⟨cell_on s0 bb, cell_on s1 bb, cell_on s2 bb, cell_on s3 bb, cell_on s4 bb, cell_on s5 bb⟩ | go_keep) (first
      | (go_at_call 15; refine (touch_any A1 n1 c1 l1 _ _ _ (HMW.out.on bb) (by omega) (by omega)).mono ?_; rintro e w5 ⟨⟨A5, c5, rfl, hm5⟩, hb5⟩; replace bb := below_step bb hb5)
      | (go_at_call 16; refine (touch_ref A1 n1 c1 l1 _ _ _ (HMW.out.on bb) (by omega) (by omega)).mono ?_; rintro e w6 ⟨⟨A6, c6, rfl, hm6⟩, hb6⟩; replace bb := below_step bb hb6; replace hm5 := hm5.on hb6)
      | (go_at_call 14; refine (same_refl _ _ _ _ _ _ _ hm5 hm6).mono ?_; rintro e w7 ⟨rfl, m7, rfl⟩; replace bb := below_drewN bb m7)
      | (go_at_call 17; refine (HA.out _).mono ?_; rintro e w11 ⟨rfl, hb11⟩; replace bb := below_step bb hb11))
  all_goals
    go_wp2
    go_ret
    exact ⟨rfl, below_step (below_step hb1 HBW.out) bb⟩
theorem walks_row (a0 : Option Addr) (len0 cap0 : Nat) (z0 : List Int) (a1 : Bool) (a2 : Option Addr) (len2 cap2 : Nat) (z2 : List Int) (a3 a4 a5 a6 : Int) (a7 : Bool) (w : World) (w0 : IsRow .u32 w a0 len0 cap0 z0) (w2 : IsRow .i64 w a2 len2 cap2 z2)
    (w3 : (Lit.int .i64 a3).wf = true) (w4 : (Lit.int .u32 a4).wf = true) (w5 : (Lit.int .u32 a5).wf = true) (w6 : (Lit.int .i64 a6).wf = true) :
    Calls Try.prog 3 #[.slice a0 len0 cap0, .bool a1, .slice a2 len2 cap2, .int .i64 a3, .int .u32 a4, .int .u32 a5, .int .i64 a6, .bool a7] w fun e w' => e = .returned (.bool true) ∧ Below w.heap.size w w' :=
  walks_walk a0 a2 len0 cap0 len2 cap2 a1 a7 _ a3 a4 a5 a6 w (row_mem w0) (row_ints w2) (wf_i64 w3).1 (wf_i64 w3).2 (wf_u32 w4).1 (wf_u32 w4).2 (wf_u32 w5).1 (wf_u32 w5).2 (wf_i64 w6).1 (wf_i64 w6).2
end Go.Proofs.Ytleljcpljhpoaaa
