import Derived.Test.YtdjnloacjgcckaaPmLawH
namespace Go.Proofs.Ytdjnloacjgcckaa
set_option linter.unusedVariables false
set_option linter.unusedSimpArgs false
open Go.ChangeShapes Go.WideShapes Go.ChangeAt Go.RowKit Go.Proofs.Ytdjnloacjgcckaa.Num Go.Proofs.Ytdjnloacjgcckaa.Mem
/-- The order in which the pages are copied. -/
def perm (P c i : Nat) : Nat := if P = 5 then i else (i * 5 + c) % P
theorem perm_lt {P c i : Nat} (hi : i < P) : perm P c i < P := by
  unfold perm; split
  · exact hi
  · exact Nat.mod_lt _ (by omega)
theorem perm_all : ∀ P : Fin 7, ∀ c : Fin 7, ∀ f : Fin 7, 1 ≤ P.val → c.val < P.val → f.val < P.val → ∃ j : Fin 7, j.val < P.val ∧ perm P.val c.val j.val = f.val := by decide +kernel
theorem perm_on {P c f : Nat} (h1 : 1 ≤ P) (h6 : P ≤ 6) (hc : c < P) (hf : f < P) : ∃ j, j < P ∧ perm P c j = f := by
  obtain ⟨j, hj, h⟩ := perm_all ⟨P, by omega⟩ ⟨c, by omega⟩ ⟨f, by omega⟩ h1 hc hf
  exact ⟨j.val, hj, h⟩
theorem pages_ext {l r : List Int} {P : Nat} (hl : U32 l) (hr : U32 r) (h1 : l.length = 32 * P) (h2 : r.length = 32 * P) (h : ∀ f, f < P → pageL l f = pageL r f) : l = r := by
  refine byte_ext hl hr (by rw [h1, h2]) fun a ha => ?_
  have e : a = 128 * (a / 128) + a % 128 := by omega
  rw [e, ← page_byte (Nat.mod_lt _ (by decide)), ← page_byte (Nat.mod_lt _ (by decide)), h (a / 128) (by omega)]
theorem Filled.copy {la l l' : List Int} {f P : Nat} (h : Filled (bytesL (pageL la f)) f 128 l l') (hua : U32 la) (hu : U32 l) (h1 : la.length = 32 * P) (h2 : l.length = 32 * P) (hf : f < P) : pageL l' f = pageL la f ∧ ∀ g, g < P → g ≠ f → pageL l' g = pageL l g := by
  obtain ⟨hl, hu', hb⟩ := h
  have hpu : ∀ (x : List Int) (g : Nat), U32 x → U32 (pageL x g) := fun x g hx y hy => hx y (List.mem_of_mem_drop (List.mem_of_mem_take hy))
  have hsl : (bytesL (pageL la f)).length = 128 := by rw [bytesL_len, pageL_len (by omega)]
  refine ⟨byte_ext (hpu _ _ hu') (hpu _ _ hua) (by rw [pageL_len (by omega), pageL_len (by omega)]) fun a ha => ?_, fun g hg hne => byte_ext (hpu _ _ hu') (hpu _ _ hu) (by rw [pageL_len (by omega), pageL_len (by omega)]) fun a ha => ?_⟩
  · rw [pageL_len (by omega)] at ha
    rw [page_byte (by omega), hb _ (by omega), if_pos (by omega), Nat.add_sub_cancel_left]
    have := bytesL_get (pageL la f) a (by rw [pageL_len (by omega)]; omega)
    rw [List.getD_eq_getElem?_getD, this]; rfl
  · rw [pageL_len (by omega)] at ha
    rw [page_byte (by omega), page_byte (by omega), hb _ (by omega), if_neg (by omega)]
theorem set_copy (A : Option Addr) (n c f : Nat) (F : Int) (l la : List Int) (w : World) (hF : F = f) (hm : Mem w A n c l) (hf : f < pagesN n) (hla : la.length = n) :
    Calls Try.prog 25 #[.slice A n c, .int .i64 F, .string (pageS la f)] w fun e w' => (∃ A c l', e = .returned (.tuple #[.slice A n c, .bool true]) ∧ Mem w' A n c l' ∧ Filled (bytesL (pageL la f)) f 128 l l') ∧ Below w.heap.size w w' := by
  subst hF
  have hp := pagesN_le n
  have hs : (pageS la f).size = 128 := pageS_size (by omega)
  have ht : 0 ≤ (f : Int) ∧ (f : Int) < pagesN n ∧ (pageS la f).size = 128 := ⟨by omega, by omega, hs⟩
  refine (set_yes A n c f l (pageS la f) w hm hf hs).mono fun e w' ⟨⟨A', c', l', he, hm', h1, _⟩, hb⟩ => ⟨⟨A', c', l', by rw [he, decide_eq_true ht], hm', ?_⟩, hb⟩
  have h2 := h1 ht
  have e1 : (pageS la f).data.toList = bytesL (pageL la f) := S8_list _
  rw [e1, Int.toNat_natCast] at h2
  exact h2
theorem page_copy (A : Option Addr) (n c f : Nat) (F : Int) (l : List Int) (w : World) (hF : F = f) (hm : Mem w A n c l) (hf : f < pagesN n) :
    Calls Try.prog 23 #[.slice A n c, .int .i64 F] w fun e w' => e = .returned (.tuple #[.string (pageS l f), .bool true]) ∧ Below w.heap.size w w' := by
  subst hF
  exact page_yes A n c f l w hm hf
/-- The state of the loop. -/
def CopyRel (w2 : World) (N P c0 : Nat) (la : List Int) (i : Nat) (v : Value) (wr : World) : Prop := ∃ A c l, v = .slice A N c ∧ Mem wr A N c l ∧ (∀ j, j < i → pageL l (perm P c0 j) = pageL la (perm P c0 j)) ∧ Below w2.heap.size w2 wr
theorem copy_step {w2 wr w6 : World} {N P c0 j c c1 c6 : Nat} {A A1 A6 : Option Addr} {l l1 l6 : List Int} (hm1 : Mem w2 A1 N c1 l1) (hm : Mem wr A N c l) (hcp : ∀ t, t < j → pageL l (perm P c0 t) = pageL l1 (perm P c0 t)) (hN : 32 * P = N) (hj : j < P)
    (hm6 : Mem w6 A6 N c6 l6) (hF : Filled (bytesL (pageL l1 (perm P c0 j))) (perm P c0 j) 128 l l6) (hb : Below w2.heap.size w2 w6) : CopyRel w2 N P c0 l1 (j + 1) (.slice A6 N c6) w6 := by
  obtain ⟨h1, h2⟩ := hF.copy hm1.2.2.2.1 hm.2.2.2.1 (by rw [hm1.1, hN]) (by rw [hm.1, hN]) (perm_lt hj)
  refine ⟨A6, c6, l6, rfl, hm6, fun t ht => ?_, hb⟩
  by_cases e : perm P c0 t = perm P c0 j
  · rw [e]; exact h1
  · have htj : t < j := by
      rcases Nat.lt_or_ge t j with h | h
      · exact h
      · have : t = j := by omega
        subst this
        exact absurd rfl e
    rw [h2 _ (perm_lt (by omega)) e, hcp t htj]
set_option maxRecDepth 100000 in
set_option maxHeartbeats 4000000 in
theorem copies_walk (B B' : Option Addr) (k d k' d' : Nat) (z z' : Nat → Int) (p o : Int) (w : World) (hz : Ints w B k z) (hz' : Ints w B' k' z') (p0 : -9223372036854775808 ≤ p) (p1 : p ≤ 9223372036854775807) (o0 : -9223372036854775808 ≤ o) (o1 : o ≤ 9223372036854775807) :
    Calls Try.prog 9 #[.slice B k d, .slice B' k' d', .int .i64 p, .int .i64 o] w fun e w' => e = .returned (.bool true) ∧ Below w.heap.size w w' := by
  obtain ⟨r, hr⟩ : ∃ r : Nat, p % 6 = r := ⟨(p % 6).toNat, by omega⟩
  have HS1 := Lib.hid (made_any none B 0 0 k d r false z p w (.inl rfl) hz p0 p1 hr)
  have HS2 := Lib.hid (fun W (hb : Below w.heap.size w W) => made_any none B' 0 0 k' d' r false z' p W (.inl rfl) (hz'.on hb) p0 p1 hr)
  have hr5 : r ≤ 5 := by omega
  unfold Made at HS1 HS2
  obtain ⟨P, hP⟩ : ∃ P, 1 + r = P := ⟨_, rfl⟩
  rw [hP] at HS1 HS2
  have P1 : 1 ≤ P := by omega
  have P6 : P ≤ 6 := by omega
  have hPN : Hid (pagesN (32 * P) = P) := by show _ = _; unfold pagesN; rw [if_pos ⟨by omega, by omega⟩]; omega
  have hN2 : 32 * P ≤ 192 := by omega
  obtain ⟨N, hN⟩ : ∃ N, 32 * P = N := ⟨_, rfl⟩
  rw [hN] at HS1 HS2 hPN hN2
  have HN := Lib.hid hN
  obtain ⟨c0, hc0⟩ : ∃ c0 : Nat, o % (P : Int) = c0 := ⟨(o % P).toNat, by have := Int.emod_nonneg o (b := (P : Int)) (by omega); omega⟩
  have c0P : c0 < P := by have := Int.emod_lt_of_pos o (b := (P : Int)) (by omega); omega
  have HR1 := Lib.hid (fun W => round_any o P W (by omega) (by omega) o0 o1)
  rw [hc0] at HR1
  have HPA := Lib.hid (fun A c W => pages_any A N c W (by omega))
  rw [hPN.out] at HPA
  have HA := Lib.hid awake_any
  clear hr hz hz' hP hN hc0
  go_enter Try.func9, Try.ntmps9
  go_wp2_with fail
  refine (HS1.out).mono ?_
  rintro e w1 ⟨⟨A1, c1, l1, rfl, hm1⟩, hb1⟩
  go_wp2_with fail
  refine (HS2.out w1 hb1).mono ?_
  rintro e w2 ⟨⟨A2, c2, l2, rfl, hm2⟩, hb2⟩
  replace hm1 := hm1.on hb2
  go_wp2_with (go_at_call 17; refine (HPA.out _ _ _).mono ?_; rintro e w3 ⟨rfl, m3, rfl⟩)
  have HM1 := Lib.hid hm1
  have HM2 := Lib.hid hm2
  have HB := Lib.hid (below_step hb1 hb2)
  clear hm1 hm2 hb1 hb2
  go_loopw [10, 12] (fun v i wr => ∃ j : Nat, j ≤ P ∧ i = .int .i64 j ∧ CopyRel w2 N P c0 l1 j v wr) (fun _ i _ => P - (intOf i).toNat)
  case atStart => exact ⟨0, Nat.zero_le _, rfl, A2, c2, l2, rfl, HM2.out.drewN _, fun j hj => absurd hj (Nat.not_lt_zero _), below_drewN (Below.refl _ _) _⟩
  case round =>
    obtain ⟨j, hj, rfl, A, c, l, rfl, hm, hcp, hb⟩ := hrel
    by_cases hlt : j < P
    · have hpm := perm_lt (c := c0) hlt
      have HSET := Lib.hid (fun F W (hF : F = ((perm P c0 j : Nat) : Int)) (h : Mem W A N c l) => set_copy A N c (perm P c0 j) F l l1 W hF h (by rw [hPN.out]; exact hpm) HM1.out.1)
      have HPG := Lib.hid (fun F (hF : F = ((perm P c0 j : Nat) : Int)) => page_copy A1 N c1 (perm P c0 j) F l1 wr hF (HM1.out.on hb) (by rw [hPN.out]; exact hpm))
      obtain ⟨q, hq⟩ : ∃ q : Nat, ((j : Int) * 5 + c0) % (P : Int) = q := ⟨(((j : Int) * 5 + c0) % P).toNat, by have := Int.emod_nonneg ((j : Int) * 5 + c0) (b := (P : Int)) (by omega); omega⟩
      have HR2 := Lib.hid (fun W => round_any ((j : Int) * 5 + c0) P W (by omega) (by omega) (by omega) (by omega))
      rw [hq] at HR2
      have HM := Lib.hid hm
      have HBb := Lib.hid hb
      have HCP := Lib.hid hcp
      have hqn : ¬ P = 5 → perm P c0 j = q := fun h => by
        unfold perm; rw [if_neg h]
        have e : ((j : Int) * 5 + c0) % (P : Int) = (((j * 5 + c0) % P : Nat) : Int) := by simp
        omega
      have HQN := Lib.hid hqn
      have HQ5 := Lib.hid (fun h : P = 5 => (show perm P c0 j = j by unfold perm; rw [if_pos h]))
      clear hm hb hcp hq hqn
      by_cases h5 : P = 5
      · have hb5 : ((P : Int) % 5 == 0) = true := by rw [h5]; rfl
        have HF := Lib.hid (HQ5.out h5)
        clear h5
        go_wp2_with (first
          | (go_at_call 11; first | ((with_reducible refine (HR1.out _).mono ?_); rintro e w4 ⟨rfl, rfl⟩) | ((with_reducible refine (HR2.out _).mono ?_); rintro e w4 ⟨rfl, rfl⟩))
          | (go_at_call 23; refine (HPG.out _ (by rw [HF.out])).mono ?_; rintro e w5 ⟨rfl, hb5'⟩)
          | (go_at_call 25; refine (HSET.out _ _ (by rw [HF.out]) (HM.out.on hb5')).mono ?_; rintro e w6 ⟨⟨A6, c6, l6, rfl, hm6, hF6⟩, hb6⟩))
        go_roundw
        case rel => exact ⟨j + 1, by omega, by go_num, copy_step HM1.out HM.out HCP.out HN.out hlt hm6 hF6 (below_step (below_step HBb.out hb5') hb6)⟩
        case measure => simp [intOf]; omega
      · have hb5 : ((P : Int) % 5 == 0) = false := by
          have : ¬ (P : Int) % 5 = 0 := by omega
          simpa using this
        have HF := Lib.hid (HQN.out h5)
        clear h5
        go_wp2_with (first
          | (go_at_call 11; first | ((with_reducible refine (HR1.out _).mono ?_); rintro e w4 ⟨rfl, rfl⟩) | ((with_reducible refine (HR2.out _).mono ?_); rintro e w4 ⟨rfl, rfl⟩))
          | (go_at_call 23; refine (HPG.out _ (by rw [HF.out])).mono ?_; rintro e w5 ⟨rfl, hb5'⟩)
          | (go_at_call 25; refine (HSET.out _ _ (by rw [HF.out]) (HM.out.on hb5')).mono ?_; rintro e w6 ⟨⟨A6, c6, l6, rfl, hm6, hF6⟩, hb6⟩))
        go_roundw
        case rel => exact ⟨j + 1, by omega, by go_num, copy_step HM1.out HM.out HCP.out HN.out hlt hm6 hF6 (below_step (below_step HBb.out hb5') hb6)⟩
        case measure => simp [intOf]; omega
    · obtain rfl : j = P := by omega
      have hall : l = l1 := pages_ext hm.2.2.2.1 HM1.out.2.2.2.1 (by rw [hm.1, HN.out]) (by rw [HM1.out.1, HN.out]) fun f hf => by
        obtain ⟨t, ht, e⟩ := perm_on (c := c0) P1 P6 c0P hf
        rw [← e]; exact hcp t ht
      subst hall
      have bb := Below.refl wr.heap.size wr
      have hm1 := HM1.out.on hb
      have HCS := Lib.hid (fun W (h : Below wr.heap.size wr W) => chg_a A1 A N N c1 c l l W (hm1.on h) (hm.on h))
      rw [chgL_self] at HCS
      have HH1 := Lib.hid (fun W (h : Below wr.heap.size wr W) => hashW_any A1 N c1 l W (hm1.on h))
      have HH2 := Lib.hid (fun W (h : Below wr.heap.size wr W) => hashW_any A N c l W (hm.on h))
      have HSW := Lib.hid (same_refl A1 A N c1 c l wr hm1 hm)
      have HBb := Lib.hid (below_step HB.out hb)
      clear hm hm1 hb hcp HM1 HM2
      generalize hashW l = hh at HH1 HH2
      go_wp2_with (first
        | (go_at_call 16; refine (HSW.out).mono ?_; rintro e w9 ⟨rfl, m9, rfl⟩; replace bb := below_drewN bb m9)
        | (go_at_call 30; refine (HCS.out _ bb).mono ?_; rintro e w5 ⟨⟨A5, c5, rfl, hi5⟩, hb5⟩; replace bb := below_step bb hb5)
        | (go_at_call 27; first
          | ((with_reducible refine (HH1.out _ bb).mono ?_); rintro e w6 ⟨rfl, hb6⟩; replace bb := below_step bb hb6)
          | ((with_reducible refine (HH2.out _ bb).mono ?_); rintro e w7 ⟨rfl, hb7⟩; replace bb := below_step bb hb7))
        | (go_at_call 21; refine (HA.out _).mono ?_; rintro e w9 ⟨rfl, hb9⟩; replace bb := below_step bb hb9))
      all_goals go_ret
      all_goals exact ⟨rfl, below_step HBb.out bb⟩
theorem copies_row (a0 : Option Addr) (len0 cap0 : Nat) (z0 : List Int) (a1 : Option Addr) (len1 cap1 : Nat) (z1 : List Int) (a2 a3 : Int) (w : World) (w0 : IsRow .i64 w a0 len0 cap0 z0) (w1 : IsRow .i64 w a1 len1 cap1 z1) (w2 : (Lit.int .i64 a2).wf = true) (w3 : (Lit.int .i64 a3).wf = true) :
    Calls Try.prog 9 #[.slice a0 len0 cap0, .slice a1 len1 cap1, .int .i64 a2, .int .i64 a3] w fun e w' => e = .returned (.bool true) ∧ Below w.heap.size w w' :=
  copies_walk a0 a1 len0 cap0 len1 cap1 _ _ a2 a3 w (row_ints w0) (row_ints w1) (wf_i64 w2).1 (wf_i64 w2).2 (wf_i64 w3).1 (wf_i64 w3).2
end Go.Proofs.Ytdjnloacjgcckaa
