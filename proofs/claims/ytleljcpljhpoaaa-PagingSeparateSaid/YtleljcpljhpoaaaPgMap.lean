import Derived.Test.YtleljcpljhpoaaaPgFn2
namespace Go.Proofs.Ytleljcpljhpoaaa
set_option linter.unusedVariables false
set_option linter.unusedSimpArgs false
open Go.ChangeShapes Go.WideShapes Go.ChangeAt Go.RowKit Go.Proofs.Ytleljcpljhpoaaa.Num Go.Proofs.Ytleljcpljhpoaaa.Mem
/-- Whether a page may be mapped, and the memory in which it is. -/
def mpB (n : Nat) (root page frame flags : Int) : Bool := decide (root < pagesN n ∧ frame < pagesN n ∧ page < 32 ∧ flags ≤ 31)
def mpL (n : Nat) (l : List Int) (root page frame flags : Int) : List Int := if mpB n root page frame flags = true then l.set (32 * root + page).toNat (frame * 256 + flags) else l
theorem mpL_no {n : Nat} {l : List Int} {root page frame flags : Int} (h : mpB n root page frame flags = false) : mpL n l root page frame flags = l := by unfold mpL; rw [h]; rfl
theorem mpL_yes {n : Nat} {l : List Int} {root page frame flags : Int} (h : mpB n root page frame flags = true) : mpL n l root page frame flags = l.set (32 * root + page).toNat (frame * 256 + flags) := by unfold mpL; rw [if_pos h]
theorem mpB_true {n : Nat} {root page frame flags : Int} (h : mpB n root page frame flags = true) : root < pagesN n ∧ frame < pagesN n ∧ page < 32 ∧ flags ≤ 31 := by simpa [mpB] using h
theorem mpB_false {n : Nat} {root page frame flags : Int} (h : mpB n root page frame flags = false) : ¬ (root < pagesN n ∧ frame < pagesN n ∧ page < 32 ∧ flags ≤ 31) := by simpa [mpB] using h
theorem mpL_len (n : Nat) (l : List Int) (root page frame flags : Int) : (mpL n l root page frame flags).length = l.length := by unfold mpL; split <;> simp
theorem mpL_u32 {n : Nat} {l : List Int} {root page frame flags : Int} (hu : U32 l) (r0 : 0 ≤ frame) (f0 : 0 ≤ flags) : U32 (mpL n l root page frame flags) := by
  unfold mpL
  split
  · have := mpB_true ‹_›
    have hp := pagesN_le n
    exact hu.set _ (by omega) (by omega)
  · exact hu
theorem isFrame_yes (A : Option Addr) (n c : Nat) (f : Int) (w : World) (hn : n ≤ 1000000) (h0 : 0 ≤ f) (h1 : f ≤ 4294967295) (h : f < pagesN n) :
    Calls Try.prog 26 #[.slice A n c, .int .u32 f] w fun e w' => e = .returned (.bool true) ∧ ∃ m, w' = w.drewN m :=
  (frame_any A n c f w hn h0 h1).mono fun e w' ⟨he, hw⟩ => ⟨by rw [he, decide_eq_true h], hw⟩
theorem isFrame_no (A : Option Addr) (n c : Nat) (f : Int) (w : World) (hn : n ≤ 1000000) (h0 : 0 ≤ f) (h1 : f ≤ 4294967295) (h : ¬ f < pagesN n) :
    Calls Try.prog 26 #[.slice A n c, .int .u32 f] w fun e w' => e = .returned (.bool false) ∧ ∃ m, w' = w.drewN m :=
  (frame_any A n c f w hn h0 h1).mono fun e w' ⟨he, hw⟩ => ⟨by rw [he, decide_eq_false h], hw⟩
set_option maxHeartbeats 1000000 in
theorem map_no (A : Option Addr) (n c : Nat) (l : List Int) (root page frame flags : Int) (w : World) (hm : Mem w A n c l) (r0 : 0 ≤ root) (r1 : root ≤ 4294967295) (p0 : 0 ≤ page) (p1 : page ≤ 4294967295) (f0 : 0 ≤ frame) (f1 : frame ≤ 4294967295) (g0 : 0 ≤ flags) (g1 : flags ≤ 4294967295) (hb : mpB n root page frame flags = false) :
    Calls Try.prog 18 #[.slice A n c, .int .u32 root, .int .u32 page, .int .u32 frame, .int .u32 flags] w (Gives2 n (mpL n l root page frame flags) (mpB n root page frame flags) w) := by
  have hn := hm.2.2.1
  have hf := mpB_false hb
  have HT := Lib.hid (mpL_no (l := l) hb)
  have HC := Lib.hid (fun W (hM : Mem W A n c l) => clone_any A n c l W hM)
  have HM := Lib.hid hm
  rw [hb]
  clear hm hb
  by_cases h1 : root < pagesN n
  by_cases h2 : frame < pagesN n
  by_cases h3 : page < 32
  · have h4 : ¬ flags ≤ 31 := by omega
    have hd1 : decide (root < (pagesN n : Int)) = true := decide_eq_true h1
    have hd2 : decide (frame < (pagesN n : Int)) = true := decide_eq_true h2
    clear hf
    go_enter Try.func18, Try.ntmps18
    go_wp2_with (first
      | (go_at_call 26; refine (frame_any _ _ _ _ _ (by omega) (by omega) (by omega)).mono ?_; rintro e w1 ⟨rfl, m1, rfl⟩)
      | (go_at_call 36; refine (HC.out _ (HM.out.drewN _)).mono ?_; rintro e w2 ⟨⟨A2, c2, rfl, hm2, _⟩, hb2⟩))
    all_goals go_ret2
    all_goals exact ⟨⟨A2, c2, rfl, by rw [HT.out]; exact hm2⟩, below_step (below_drewN (Below.refl _ _) _) hb2⟩
  · have hd1 : decide (root < (pagesN n : Int)) = true := decide_eq_true h1
    have hd2 : decide (frame < (pagesN n : Int)) = true := decide_eq_true h2
    clear hf
    go_enter Try.func18, Try.ntmps18
    go_wp2_with (first
      | (go_at_call 26; refine (frame_any _ _ _ _ _ (by omega) (by omega) (by omega)).mono ?_; rintro e w1 ⟨rfl, m1, rfl⟩)
      | (go_at_call 36; refine (HC.out _ (HM.out.drewN _)).mono ?_; rintro e w2 ⟨⟨A2, c2, rfl, hm2, _⟩, hb2⟩))
    all_goals go_ret2
    all_goals exact ⟨⟨A2, c2, rfl, by rw [HT.out]; exact hm2⟩, below_step (below_drewN (Below.refl _ _) _) hb2⟩
  · have hd1 : decide (root < (pagesN n : Int)) = true := decide_eq_true h1
    have hd2 : decide (frame < (pagesN n : Int)) = false := decide_eq_false h2
    clear hf
    go_enter Try.func18, Try.ntmps18
    go_wp2_with (first
      | (go_at_call 26; refine (frame_any _ _ _ _ _ (by omega) (by omega) (by omega)).mono ?_; rintro e w1 ⟨rfl, m1, rfl⟩)
      | (go_at_call 36; refine (HC.out _ (HM.out.drewN _)).mono ?_; rintro e w2 ⟨⟨A2, c2, rfl, hm2, _⟩, hb2⟩))
    all_goals go_ret2
    all_goals exact ⟨⟨A2, c2, rfl, by rw [HT.out]; exact hm2⟩, below_step (below_drewN (Below.refl _ _) _) hb2⟩
  · have hd1 : decide (root < (pagesN n : Int)) = false := decide_eq_false h1
    clear hf
    go_enter Try.func18, Try.ntmps18
    go_wp2_with (first
      | (go_at_call 26; refine (frame_any _ _ _ _ _ (by omega) (by omega) (by omega)).mono ?_; rintro e w1 ⟨rfl, m1, rfl⟩)
      | (go_at_call 36; refine (HC.out _ (HM.out.drewN _)).mono ?_; rintro e w2 ⟨⟨A2, c2, rfl, hm2, _⟩, hb2⟩))
    all_goals go_ret2
    all_goals exact ⟨⟨A2, c2, rfl, by rw [HT.out]; exact hm2⟩, below_step (below_drewN (Below.refl _ _) _) hb2⟩
set_option maxHeartbeats 1000000 in
theorem map_yes (A : Option Addr) (n c : Nat) (l : List Int) (root page frame flags : Int) (w : World) (hm : Mem w A n c l) (r0 : 0 ≤ root) (p0 : 0 ≤ page) (f0 : 0 ≤ frame) (g0 : 0 ≤ flags) (hb : mpB n root page frame flags = true) :
    Calls Try.prog 18 #[.slice A n c, .int .u32 root, .int .u32 page, .int .u32 frame, .int .u32 flags] w (Gives2 n (mpL n l root page frame flags) (mpB n root page frame flags) w) := by
  have hn := hm.2.2.1
  have hp := pagesN_le n
  obtain ⟨h1, h2, h3, h4⟩ := mpB_true hb
  have hd1 : decide (root < (pagesN n : Int)) = true := decide_eq_true h1
  have hd2 : decide (frame < (pagesN n : Int)) = true := decide_eq_true h2
  have ho : okB n (root * 128 + page * 4) 4 = true := decide_eq_true ⟨.inr rfl, by omega, by omega, by omega⟩
  have hv : setR flags 8 8 frame = frame * 256 + flags := pte_set flags frame g0 h4 f0 (by omega)
  have HS := Lib.hid (fun W (hM : Mem W A n c l) => (store_any A n c l (root * 128 + page * 4) 4 (frame * 256 + flags) W hM (by omega) (by omega) (by omega) (by omega)).mono (R' := fun e' w' => (∃ A c, e' = .returned (.tuple #[.slice A n c, .bool true]) ∧ Mem w' A n c (mpL n l root page frame flags)) ∧ Below W.heap.size W w') fun _ _ ⟨⟨A, c, he, hM⟩, hb'⟩ => by
    rw [ho] at he; rw [if_pos ho] at hM
    have e : stV l (root * 128 + page * 4) 4 (frame * 256 + flags) = mpL n l root page frame flags := by
      rw [mpL_yes hb]
      have e1 : (root * 128 + page * 4) / 4 = 32 * root + page := by omega
      simp [stV, stW, e1]
    rw [e] at hM
    exact ⟨⟨A, c, he, hM⟩, hb'⟩)
  have HF := Lib.hid (fun W => (set_any flags 8 8 frame W).mono (R' := fun e w' => e = .returned (.int .u32 (frame * 256 + flags)) ∧ ∃ m, w' = W.drewN m) fun e w' ⟨he, hw⟩ => ⟨by rw [he, hv], hw⟩)
  have HM := Lib.hid hm
  rw [hb]
  clear hm hb hv ho
  go_enter Try.func18, Try.ntmps18
  go_wp2_with (first
    | (go_at_call 26; refine (frame_any _ _ _ _ _ (by omega) (by omega) (by omega)).mono ?_; rintro e w1 ⟨rfl, m1, rfl⟩)
    | (go_at_call 37; refine (HF.out _).mono ?_; rintro e w3 ⟨rfl, m3, rfl⟩)
    | (go_at_call 27; refine (place_pg _ _ _ (by omega) (by omega) (by omega) (by omega)).mono ?_; rintro e w3 ⟨rfl, rfl⟩)
    | (go_at_call 32; refine (HS.out _ (HM.out.drewN _)).mono ?_; rintro e w2 ⟨⟨A2, c2, rfl, hm2⟩, hb2⟩))
  go_ret2
  exact ⟨⟨A2, c2, rfl, hm2⟩, below_step (below_drewN (Below.refl _ _) _) hb2⟩
theorem map_any (A : Option Addr) (n c : Nat) (l : List Int) (root page frame flags : Int) (w : World) (hm : Mem w A n c l) (r0 : 0 ≤ root) (r1 : root ≤ 4294967295) (p0 : 0 ≤ page) (p1 : page ≤ 4294967295) (f0 : 0 ≤ frame) (f1 : frame ≤ 4294967295) (g0 : 0 ≤ flags) (g1 : flags ≤ 4294967295) :
    Calls Try.prog 18 #[.slice A n c, .int .u32 root, .int .u32 page, .int .u32 frame, .int .u32 flags] w (Gives2 n (mpL n l root page frame flags) (mpB n root page frame flags) w) := by
  cases hb : mpB n root page frame flags with
  | false => have h := map_no A n c l root page frame flags w hm r0 r1 p0 p1 f0 f1 g0 g1 hb; rw [hb] at h; exact h
  | true => have h := map_yes A n c l root page frame flags w hm r0 p0 f0 g0 hb; rw [hb] at h; exact h
set_option maxHeartbeats 1000000 in
theorem mapr_no (A : Option Addr) (n c : Nat) (l : List Int) (root page frame flags : Int) (w : World) (hm : Mem w A n c l) (r0 : 0 ≤ root) (p0 : 0 ≤ page) (f0 : 0 ≤ frame) (g0 : 0 ≤ flags) (hb : mpB n root page frame flags = false) :
    Calls Try.prog 19 #[.slice A n c, .int .u32 root, .int .u32 page, .int .u32 frame, .int .u32 flags] w (Gives2 n (mpL n l root page frame flags) (mpB n root page frame flags) w) := by
  have hn := hm.2.2.1
  have hp := pagesN_le n
  have hf := mpB_false hb
  have HT := Lib.hid (mpL_no (l := l) hb)
  have HC := Lib.hid (fun W (hM : Mem W A n c l) => copy_any A n c l W hM)
  have HM := Lib.hid hm
  rw [hb]
  clear hm hb
  go_enter Try.func19, Try.ntmps19
  go_wp2_with (first
    | (go_at_call 24; refine (pages_ref _ _ _ _ (by omega)).mono ?_; rintro e w2 ⟨rfl, m2, rfl⟩)
    | (go_at_call 33; refine (HC.out _ (HM.out.drewN _)).mono ?_; rintro e w2 ⟨⟨A2, c2, rfl, hm2, _⟩, hb2⟩))
  all_goals first | (exfalso; omega) | skip
  all_goals go_ret2
  all_goals exact ⟨⟨A2, c2, rfl, by rw [HT.out]; exact hm2⟩, below_step (below_drewN (Below.refl _ _) _) hb2⟩
set_option maxHeartbeats 1000000 in
theorem mapr_yes (A : Option Addr) (n c r p : Nat) (l : List Int) (frame flags : Int) (w : World) (hm : Mem w A n c l) (f0 : 0 ≤ frame) (g0 : 0 ≤ flags) (hb : mpB n r p frame flags = true) :
    Calls Try.prog 19 #[.slice A n c, .int .u32 r, .int .u32 p, .int .u32 frame, .int .u32 flags] w (Gives2 n (mpL n l r p frame flags) (mpB n r p frame flags) w) := by
  have hn := hm.2.2.1
  have hl := hm.1
  have hp := pagesN_le n
  have hu := hm.2.2.2.1
  obtain ⟨h1, h2, h3, h4⟩ := mpB_true hb
  have h1n : ¬ pagesN n ≤ r := by omega
  have hdv : (r : Int) * 32 + (p : Int) = ((32 * r + p : Nat) : Int) := by omega
  have hi : 32 * r + p < n := by omega
  have HT := Lib.hid (mpL_yes (l := l) hb)
  have HTL := Lib.hid (mpL_len n l r p frame flags)
  have HTU := Lib.hid (mpL_u32 (n := n) (root := r) (page := p) hu f0 g0)
  have hv := pte_or flags frame g0 h4 f0 (by omega)
  have HC := Lib.hid (fun W (hM : Mem W A n c l) => copy_any A n c l W hM)
  have HM := Lib.hid hm
  have HL := Lib.hid hl
  have hn0 : 0 < n := by omega
  have HIL : Hid (32 * r + p < l.length) := by show _ < _; omega
  rw [hb]
  clear hm hb hl
  go_enter Try.func19, Try.ntmps19
  go_wp2_with (first
    | (go_at_call 24; refine (pages_ref _ _ _ _ (by omega)).mono ?_; rintro e w2 ⟨rfl, m2, rfl⟩)
    | (go_at_call 33; refine (HC.out _ (HM.out.drewN _)).mono ?_; rintro e w2 ⟨⟨A2, c2, rfl, hm2, ho2⟩, hb2⟩; obtain ⟨g, rfl, hg, ho⟩ := ho2 hn0; have hcell := ho.cell HIL.out; have hfree := ho.free (32 * r + p); have HO := Lib.hid ho; clear ho))
  go_ret2
  refine ⟨⟨_, c2, rfl, ?_⟩, (below_step (below_drewN (Below.refl _ _) _) hb2).setCell (by first | exact hg | (show w.heap.size ≤ g; exact hg)) _⟩
  have h := HO.out.set HIL.out (frame * 256 + flags)
  have e : l.set (32 * r + p) (frame * 256 + flags) = mpL n l r p frame flags := by
    rw [HT.out]; congr 1
  rw [e] at h
  exact h.mem (by rw [HTL.out]; exact HL.out) hm2.2.1 hn HTU.out
theorem map_ref (A : Option Addr) (n c : Nat) (l : List Int) (root page frame flags : Int) (w : World) (hm : Mem w A n c l) (r0 : 0 ≤ root) (p0 : 0 ≤ page) (f0 : 0 ≤ frame) (g0 : 0 ≤ flags) :
    Calls Try.prog 19 #[.slice A n c, .int .u32 root, .int .u32 page, .int .u32 frame, .int .u32 flags] w (Gives2 n (mpL n l root page frame flags) (mpB n root page frame flags) w) := by
  cases hb : mpB n root page frame flags with
  | false => have h := mapr_no A n c l root page frame flags w hm r0 p0 f0 g0 hb; rw [hb] at h; exact h
  | true =>
    obtain ⟨r, rfl⟩ : ∃ r : Nat, root = r := ⟨root.toNat, by omega⟩
    obtain ⟨p, rfl⟩ : ∃ p : Nat, page = p := ⟨page.toNat, by omega⟩
    have h := mapr_yes A n c r p l frame flags w hm f0 g0 hb; rw [hb] at h; exact h
end Go.Proofs.Ytleljcpljhpoaaa
