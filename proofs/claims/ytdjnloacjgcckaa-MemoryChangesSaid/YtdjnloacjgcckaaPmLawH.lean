import Derived.Test.YtdjnloacjgcckaaPmFn10
import Derived.Test.YtdjnloacjgcckaaPmHash2
import Derived.Test.YtdjnloacjgcckaaPmLawO
namespace Go.Proofs.Ytdjnloacjgcckaa
set_option linter.unusedVariables false
set_option linter.unusedSimpArgs false
open Go.ChangeShapes Go.WideShapes Go.ChangeAt Go.RowKit Go.Proofs.Ytdjnloacjgcckaa.Num Go.Proofs.Ytdjnloacjgcckaa.Mem
theorem chg_self (l : List Int) (k : Nat) : chg l l k = [] := by
  unfold chg; simp
/-- What Changed gives. -/
def chgL (n m : Nat) (l r : List Int) : List Nat := if n = m then chg l r (pagesN n) else []
def NumsR (zs : List Nat) (w : World) (e : Ending) (w' : World) : Prop := (∃ A c, e = .returned (.slice A zs.length c) ∧ Ints w' A zs.length (fun i => (zs.getD i 0 : Int))) ∧ Below w.heap.size w w'
theorem nums_r {l r : List Int} {k : Nat} {w w' : World} {e : Ending} (hk : k ≤ 32) (h : NumsPost (chg l r k) w e w') : NumsR (chg l r k) w e w' := by
  obtain ⟨⟨v, he, ho⟩, hb⟩ := h
  obtain ⟨A, c, rfl, hi⟩ := nums_shape ho (chg_bd l r k hk)
  exact ⟨⟨A, c, he, hi⟩, hb⟩
theorem nums_r0 {w w' : World} {e : Ending} (h : NumsPost [] w e w') : NumsR [] w e w' := by
  obtain ⟨⟨v, he, ho⟩, hb⟩ := h
  obtain ⟨A, c, rfl, hi⟩ := nums_shape ho (fun i hi => by simp at hi)
  exact ⟨⟨A, c, he, hi⟩, hb⟩
theorem chg_a (A B : Option Addr) (n m c d : Nat) (l r : List Int) (w : World) (hl : Mem w A n c l) (hr : Mem w B m d r) :
    Calls Try.prog 30 #[.slice A n c, .slice B m d] w (NumsR (chgL n m l r) w) := by
  unfold chgL
  by_cases h : n = m
  · subst h
    rw [if_pos rfl]
    exact (changed_any A B n c d l r w hl hr).mono fun _ _ => nums_r (pagesN_le n).1
  · rw [if_neg h]
    exact (changed_no A B n m c d w h hl.2.2.1 hr.2.2.1).mono fun _ _ => nums_r0
theorem chg_b (A B : Option Addr) (n m c d : Nat) (l r : List Int) (w : World) (hl : Mem w A n c l) (hr : Mem w B m d r) :
    Calls Try.prog 31 #[.slice A n c, .slice B m d] w (NumsR (chgL n m l r) w) := by
  unfold chgL
  by_cases h : n = m
  · subst h
    rw [if_pos rfl]
    exact (changed_ref A B n c d l r w hl hr).mono fun _ _ => nums_r (pagesN_le n).1
  · rw [if_neg h]
    exact (changed_refno A B n m c d w h hl.2.2.1 hr.2.2.1).mono fun _ _ => nums_r0
theorem chgL_len (n m : Nat) (l r : List Int) : (chgL n m l r).length ≤ 32 := by
  unfold chgL; split
  · exact Nat.le_trans (chg_len l r _) (pagesN_le n).1
  · simp
theorem chgL_self (n : Nat) (l : List Int) : chgL n n l l = [] := by unfold chgL; rw [if_pos rfl, chg_self]
set_option maxRecDepth 100000 in
set_option maxHeartbeats 4000000 in
theorem hashes_walk (A A' B B' : Option Addr) (n n' c c' k k' d d' : Nat) (raw : Bool) (z z' : Nat → Int) (p p' : Int) (w : World) (hm : n ≤ 200 → ∃ l, Mem w A n c l) (hm' : n' ≤ 200 → ∃ l, Mem w A' n' c' l) (hz : Ints w B k z) (hz' : Ints w B' k' z') (p0 : -9223372036854775808 ≤ p) (p1 : p ≤ 9223372036854775807) (q0 : -9223372036854775808 ≤ p') (q1 : p' ≤ 9223372036854775807) :
    Calls Try.prog 5 #[.slice A n c, .slice A' n' c', .bool raw, .slice B k d, .slice B' k' d', .int .i64 p, .int .i64 p'] w fun e w' => e = .returned (.bool true) ∧ Below w.heap.size w w' := by
  have HS1 := Lib.hid (shaped_any A B n c k d raw z p w hm hz p0 p1)
  have HS2 := Lib.hid (fun W (hb : Below w.heap.size w W) => shaped_any A' B' n' c' k' d' raw z' p' W (fun h => by obtain ⟨l, hl⟩ := hm' h; exact ⟨l, hl.on hb⟩) (hz'.on hb) q0 q1)
  have HA := Lib.hid awake_any
  clear hm hm' hz hz'
  go_enter Try.func5, Try.ntmps5
  go_wp2_with fail
  refine (HS1.out).mono ?_
  rintro e w1 ⟨⟨A1, n1, c1, l1, rfl, hn1, hm1⟩, hb1⟩
  go_wp2_with fail
  refine (HS2.out w1 hb1).mono ?_
  rintro e w2 ⟨⟨A2, n2, c2, l2, rfl, hn2, hm2⟩, hb2⟩
  replace hm1 := hm1.on hb2
  have hcl := chgL_len n1 n2 l1 l2
  have HCA := Lib.hid (fun W (hb : Below w2.heap.size w2 W) => chg_a A1 A2 n1 n2 c1 c2 l1 l2 W (hm1.on hb) (hm2.on hb))
  have HCB := Lib.hid (fun W (hb : Below w2.heap.size w2 W) => chg_b A1 A2 n1 n2 c1 c2 l1 l2 W (hm1.on hb) (hm2.on hb))
  have HCS := Lib.hid (fun W (hb : Below w2.heap.size w2 W) => chg_a A1 A1 n1 n1 c1 c1 l1 l1 W (hm1.on hb) (hm1.on hb))
  rw [chgL_self] at HCS
  have HHA := Lib.hid (fun W (hb : Below w2.heap.size w2 W) => hashW_any A1 n1 c1 l1 W (hm1.on hb))
  have HHB := Lib.hid (fun W (hb : Below w2.heap.size w2 W) => hashW_ref A1 n1 c1 l1 W (hm1.on hb))
  generalize chgL n1 n2 l1 l2 = zs at HCA HCB hcl
  have bb := Below.refl w2.heap.size w2
  have hbb := Lib.hid (below_step hb1 hb2)
  clear hm1 hm2 hb1 hb2
  go_wp2_with (first
    | (go_at_call 27; refine (HHA.out _ bb).mono ?_; rintro e w3 ⟨rfl, hb3⟩; replace bb := below_step bb hb3)
    | (go_at_call 28; refine (HHB.out _ bb).mono ?_; rintro e w4 ⟨rfl, hb4⟩; replace bb := below_step bb hb4)
    | (go_at_call 30; first
      | ((with_reducible refine (HCA.out _ bb).mono ?_); rintro e w5 ⟨⟨A5, c5, rfl, hi5⟩, hb5⟩; replace bb := below_step bb hb5)
      | ((with_reducible refine (HCS.out _ bb).mono ?_); rintro e w6 ⟨⟨A6, c6, rfl, hi6⟩, hb6⟩; replace bb := below_step bb hb6))
    | (go_at_call 31; refine (HCB.out _ bb).mono ?_; rintro e w7 ⟨⟨A7, c7, rfl, hi7⟩, hb7⟩; replace bb := below_step bb hb7; replace hi5 := hi5.on hb7)
    | (go_at_call 29; refine (sameInts_yes _ _ _ _ _ _ _ (by omega) hi5 hi7).mono ?_; rintro e w8 ⟨rfl, m8, rfl⟩; replace bb := below_drewN bb m8)
    | (go_at_call 21; refine (HA.out _).mono ?_; rintro e w9 ⟨rfl, hb9⟩; replace bb := below_step bb hb9))
  go_ret
  exact ⟨rfl, below_step hbb.out bb⟩
theorem hashes_row (a0 : Option Addr) (len0 cap0 : Nat) (z0 : List Int) (a1 : Option Addr) (len1 cap1 : Nat) (z1 : List Int) (a2 : Bool) (a3 : Option Addr) (len3 cap3 : Nat) (z3 : List Int) (a4 : Option Addr) (len4 cap4 : Nat) (z4 : List Int) (a5 a6 : Int) (w : World) (w0 : IsRow .u32 w a0 len0 cap0 z0) (w1 : IsRow .u32 w a1 len1 cap1 z1) (w3 : IsRow .i64 w a3 len3 cap3 z3) (w4 : IsRow .i64 w a4 len4 cap4 z4)
    (w5 : (Lit.int .i64 a5).wf = true) (w6 : (Lit.int .i64 a6).wf = true) :
    Calls Try.prog 5 #[.slice a0 len0 cap0, .slice a1 len1 cap1, .bool a2, .slice a3 len3 cap3, .slice a4 len4 cap4, .int .i64 a5, .int .i64 a6] w fun e w' => e = .returned (.bool true) ∧ Below w.heap.size w w' :=
  hashes_walk a0 a1 a3 a4 len0 len1 cap0 cap1 len3 len4 cap3 cap4 a2 _ _ a5 a6 w (row_mem w0) (row_mem w1) (row_ints w3) (row_ints w4) (wf_i64 w5).1 (wf_i64 w5).2 (wf_i64 w6).1 (wf_i64 w6).2
theorem set_self (l : List Int) (i : Nat) (h : i < l.length) : l.set i (wd l i) = l := by
  apply List.ext_getElem?
  intro j
  rw [List.getElem?_set]
  by_cases e : i = j
  · subst e; simp [wd, List.getD, h]
  · simp [e]
theorem page_set (l : List Int) (i f : Nat) (v : Int) (hf : 32 * f + 32 ≤ l.length) (hi : i < l.length) (hv : wd l i ≠ v) : pageL l f = pageL (l.set i v) f ↔ f ≠ i / 32 := by
  constructor
  · rintro h rfl
    have h1 : wd (pageL l (i / 32)) (i % 32) = wd (pageL (l.set i v) (i / 32)) (i % 32) := congrArg (fun p => wd p (i % 32)) h
    rw [pageL_wd (by omega), pageL_wd (by omega), wd_set l _ _ v hi] at h1
    have e : 32 * (i / 32) + i % 32 = i := by omega
    rw [e, if_pos rfl] at h1
    exact hv h1
  · intro h
    refine alike_all (by rw [pageL_len hf, pageL_len (by rw [List.length_set]; exact hf)]) fun j hj => ?_
    rw [pageL_len hf] at hj
    rw [pageL_wd hj, pageL_wd hj, wd_set l _ _ v hi, if_neg (by omega)]
theorem chg_set (l : List Int) (i : Nat) (v : Int) (hi : i < l.length) (hv : wd l i ≠ v) : ∀ k, 32 * k ≤ l.length → chg l (l.set i v) k = if i / 32 < k then [i / 32] else []
  | 0, _ => by rw [if_neg (by omega)]; rfl
  | k + 1, h => by
    rw [chg_succ, chg_set l i v hi hv k (by omega)]
    have hp := page_set l i k v (by omega) hi hv
    by_cases e : k = i / 32
    · rw [if_neg (fun h => (hp.1 h) e), if_neg (by omega), if_pos (by omega), e]
      rfl
    · rw [if_pos (hp.2 e)]
      by_cases h2 : i / 32 < k
      · rw [if_pos h2, if_pos (by omega)]
      · rw [if_neg h2, if_neg (by omega)]
set_option maxRecDepth 100000 in
set_option maxHeartbeats 4000000 in
theorem changes_walk (B : Option Addr) (k d : Nat) (z : Nat → Int) (p a v : Int) (w : World) (hz : Ints w B k z) (p0 : -9223372036854775808 ≤ p) (p1 : p ≤ 9223372036854775807)
    (a0 : 0 ≤ a) (a1 : a ≤ 4294967295) (v0 : 0 ≤ v) (v1 : v ≤ 4294967295) :
    Calls Try.prog 7 #[.slice B k d, .int .i64 p, .int .u32 a, .int .u32 v] w fun e w' => e = .returned (.bool true) ∧ Below w.heap.size w w' := by
  obtain ⟨r, hr⟩ : ∃ r : Nat, p % 6 = r := ⟨(p % 6).toNat, by omega⟩
  have HS := made_any none B 0 0 k d r false z p w (.inl rfl) hz p0 p1 hr
  have hP : Hid (pagesN (32 * (1 + r)) = 1 + r) := by show _ = _; unfold pagesN; rw [if_pos ⟨by omega, by omega⟩]; omega
  have hN : 0 < pagesN (32 * (1 + r)) := by rw [hP.out]; omega
  have hN1 : 32 ≤ 32 * (1 + r) := by omega
  have hN2 : 32 * (1 + r) ≤ 192 := by omega
  have hPN : Hid (32 * (1 + r) = 32 * pagesN (32 * (1 + r))) := by show _ = _; rw [hP.out]
  unfold Made at HS
  generalize 32 * (1 + r) = N at *
  obtain ⟨M, hM⟩ : ∃ M : Nat, 4 * (N : Int) = M := ⟨4 * N, by omega⟩
  have M0 : ¬ (M : Int) = 0 := by omega
  have M1 : 1 ≤ M := by omega
  have M2 : M ≤ 768 := by omega
  obtain ⟨i, hi⟩ : ∃ i : Nat, a % (M : Int) / 4 * 4 = (i : Int) * 4 := ⟨(a % (M : Int) / 4).toNat, by have := Int.emod_nonneg a (b := (M : Int)) (by omega); omega⟩
  have i0 : i < N := by have := Int.emod_lt_of_pos a (b := (M : Int)) (by omega); omega
  obtain ⟨iq, hiq⟩ : ∃ iq, i / 32 = iq := ⟨_, rfl⟩
  have hi32 : (i : Int) * 4 / 128 = (iq : Int) := by omega
  have HIQ := Lib.hid hiq
  clear hiq
  have HS' := Lib.hid HS
  have HA := Lib.hid awake_any
  clear HS hr hP
  go_enter Try.func7, Try.ntmps7
  go_wp2_with fail
  refine (HS'.out).mono ?_
  rintro e w1 ⟨⟨A1, c1, l1, rfl, hm1⟩, hb1⟩
  go_wp2_with fail
  refine (load_w A1 N c1 i l1 _ w1 hm1 rfl i0 hN).mono ?_
  rintro e w2 ⟨rfl, m2, rfl⟩
  go_wp2_with fail
  refine (store_w A1 N c1 i l1 _ v _ (hm1.drewN m2) rfl i0 hN v0 v1).mono ?_
  rintro e w3 ⟨⟨A3, c3, rfl, hm3⟩, hb3⟩
  replace hm1 := (hm1.drewN m2).on hb3
  have hb13 : Below w.heap.size w w3 := below_step (below_drewN hb1 m2) hb3
  have HB := Lib.hid hb13
  have hlen := hm1.1
  have HS3 := Lib.hid (fun (h : wd l1 i ≠ v) => (show chgL N N l1 (l1.set i v) = [i / 32] by
    unfold chgL
    rw [if_pos rfl, chg_set l1 i v (by omega) h _ (by rw [hlen]; have := hPN.out; omega), if_pos (by have := hPN.out; omega)]))
  have HE := Lib.hid (fun (h : wd l1 i = v) => (show l1.set i v = l1 by rw [← h]; exact set_self l1 i (by omega)))
  clear hb1 hb3 hb13 hlen
  have bb := Below.refl w3.heap.size w3
  by_cases hv : wd l1 i = v
  · rw [HE.out hv] at hm3
    rw [hv]
    have HCS := Lib.hid (chg_a A1 A3 N N c1 c3 l1 l1 w3 hm1 hm3)
    rw [chgL_self] at HCS
    have HH1 := Lib.hid (fun W (hb : Below w3.heap.size w3 W) => hashW_any A1 N c1 l1 W (hm1.on hb))
    have HH3 := Lib.hid (fun W (hb : Below w3.heap.size w3 W) => hashW_any A3 N c3 l1 W (hm3.on hb))
    generalize hashW l1 = hh at HH1 HH3
    clear hm1 hm3 hv HE HS3
    go_wp2_with (first
      | (go_at_call 30; refine (HCS.out).mono ?_; rintro e w5 ⟨⟨A5, c5, rfl, hi5⟩, hb5⟩; replace bb := below_step bb hb5)
      | (go_at_call 27; first
        | ((with_reducible refine (HH1.out _ bb).mono ?_); rintro e w6 ⟨rfl, hb6⟩; replace bb := below_step bb hb6)
        | ((with_reducible refine (HH3.out _ bb).mono ?_); rintro e w7 ⟨rfl, hb7⟩; replace bb := below_step bb hb7))
      | (go_at_call 21; refine (HA.out _).mono ?_; rintro e w9 ⟨rfl, hb9⟩; replace bb := below_step bb hb9))
    all_goals go_ret
    all_goals exact ⟨rfl, below_step HB.out bb⟩
  · have HCS := Lib.hid (chg_a A1 A3 N N c1 c3 l1 (l1.set i v) w3 hm1 hm3)
    rw [HS3.out hv, HIQ.out] at HCS
    have hv' : (wd l1 i == v) = false := by simpa using hv
    generalize wd l1 i = x at hv'
    clear hm1 hm3 hv HE HS3
    go_wp2_with (first
      | (go_at_call 30; refine (HCS.out).mono ?_; rintro e w5 ⟨⟨A5, c5, rfl, hi5⟩, hb5⟩; replace bb := below_step bb hb5; obtain ⟨b5, o5, rfl, h05⟩ := hi5.1 0 (Nat.lt_add_one 0); replace h05 : w5.cell? ⟨b5, o5, none⟩ = some (.int .i64 (iq : Int)) := h05)
      | (go_at_call 21; refine (HA.out _).mono ?_; rintro e w9 ⟨rfl, hb9⟩; replace bb := below_step bb hb9))
    all_goals go_ret
    all_goals exact ⟨rfl, below_step HB.out bb⟩
theorem changes_row (a0 : Option Addr) (len0 cap0 : Nat) (z0 : List Int) (a1 a2 a3 : Int) (w : World) (w0 : IsRow .i64 w a0 len0 cap0 z0) (w1 : (Lit.int .i64 a1).wf = true) (w2 : (Lit.int .u32 a2).wf = true) (w3 : (Lit.int .u32 a3).wf = true) :
    Calls Try.prog 7 #[.slice a0 len0 cap0, .int .i64 a1, .int .u32 a2, .int .u32 a3] w fun e w' => e = .returned (.bool true) ∧ Below w.heap.size w w' :=
  changes_walk a0 len0 cap0 _ a1 a2 a3 w (row_ints w0) (wf_i64 w1).1 (wf_i64 w1).2 (wf_u32 w2).1 (wf_u32 w2).2 (wf_u32 w3).1 (wf_u32 w3).2
end Go.Proofs.Ytdjnloacjgcckaa
