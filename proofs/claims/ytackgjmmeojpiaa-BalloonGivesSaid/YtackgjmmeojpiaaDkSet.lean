import Derived.Test.YtackgjmmeojpiaaPmFn9
namespace Go.Proofs.Ytackgjmmeojpiaa
set_option linter.unusedVariables false
set_option linter.unusedSimpArgs false
open Go.ChangeShapes Go.WideShapes Go.ChangeAt Go.RowKit Go.Proofs.Ytackgjmmeojpiaa.Num Go.Proofs.Ytackgjmmeojpiaa.Mem
/-- What SetPage gives. -/
def SetOwn (n : Nat) (l : List Int) (f : Int) (s : ByteArray) (w : World) (e : Ending) (w' : World) : Prop :=
  (∃ A c l', e = .returned (.tuple #[.slice A n c, .bool (decide (0 ≤ f ∧ f < pagesN n ∧ s.size = 128))]) ∧ Mem w' A n c l' ∧ (0 < n → ∃ g, A = some ⟨g, 0, none⟩ ∧ w.heap.size ≤ g ∧ Own w' g l') ∧ (0 ≤ f ∧ f < pagesN n ∧ s.size = 128 → Filled s.data.toList f.toNat 128 l l') ∧ (¬ (0 ≤ f ∧ f < pagesN n ∧ s.size = 128) → l' = l)) ∧ Below w.heap.size w w'
set_option maxRecDepth 100000 in
set_option maxHeartbeats 1000000 in
theorem sown_yes (A : Option Addr) (n c f : Nat) (l : List Int) (s : ByteArray) (w : World) (hm : Mem w A n c l) (hf : f < pagesN n) (hs : s.size = 128) :
    Calls Try.prog 34 #[.slice A n c, .int .i64 f, .string s] w (SetOwn n l f s w) := by
  have hn := hm.2.2.1
  have hl := hm.1
  have hu := hm.2.2.2.1
  have hp := pagesN_le n
  have HC := Lib.hid (clone_any A n c l w hm)
  have HH := Lib.hid (fun W => hasPage_any A n c f W hn)
  rw [decide_eq_true (⟨by omega, by omega⟩ : 0 ≤ (f : Int) ∧ (f : Int) < pagesN n)] at HH
  have HL := Lib.hid hl
  have HS := Lib.hid hs
  have s1 : ¬ s.size < 128 := by omega
  have s2 : (s.size : Int) = 128 := by omega
  have HF : Hid (f < pagesN n) := hf
  clear hl hm hs hf
  go_enter Try.func34, Try.ntmps34
  go_wp2_with (first | (go_at_call 27; refine (HC.out).mono ?_; rintro e w1 ⟨⟨A1, c1, rfl, hm1, ho1⟩, hb1⟩; obtain ⟨g, rfl, hg, ho⟩ := ho1 (by have := HF.out; omega)) | (go_at_call 37; refine (HH.out _).mono ?_; rintro e w2 ⟨rfl, m2, rfl⟩) | (go_at_call 38; refine (pageOf_at g 0 n c1 f _ (by have := HF.out; omega) hm1.2.1 hn).mono ?_; rintro e w2 ⟨rfl, rfl⟩))
  have HO := Lib.hid ho
  have HM := Lib.hid hm1
  have HB := Lib.hid hb1
  clear ho1 ho hm1 hb1
  go_loopw [28] (fun i wr => ∃ (k : Nat) (l' : List Int), k ≤ 32 ∧ i = .int .i64 k ∧ Hid (Filled s.data.toList f (4 * k) l l') ∧ Own wr g l' ∧ Below w.heap.size w wr) (fun i _ => 32 - (intOf i).toNat)
  case atStart => exact ⟨0, l, by omega, rfl, Filled.start _ _ hu, HO.out, below_drewN HB.out _⟩
  case round =>
    obtain ⟨k, l', hk, rfl, hF, ho, hb⟩ := hrel
    by_cases hlt : k < 32
    · have hcell := ho.cell (i := 32 * f + k) (by rw [hF.out.1, HL.out]; have := HF.out; omega)
      have hfree := ho.free (32 * f + k)
      have HO2 := Lib.hid ho
      have HB2 := Lib.hid hb
      clear ho hb
      have hFN := hF.out.four hlt (by rw [HL.out]; have := HF.out; omega)
      have HW := Lib.hid (fun W => word_at s k W HS.out hlt)
      generalize join (s.data.toList.getD (4 * k) 0) (s.data.toList.getD (4 * k + 1) 0) (s.data.toList.getD (4 * k + 2) 0) (s.data.toList.getD (4 * k + 3) 0) = J at hFN HW
      have HFN := Lib.hid hFN
      clear hFN
      go_wp2_with (go_at_call 39; refine (HW.out _).mono ?_; rintro e w2 ⟨rfl, m3, rfl⟩)
      go_roundw
      case rel => exact ⟨k + 1, _, by omega, by go_num, HFN, (HO2.out.drewN _).set (by rw [hF.out.1, HL.out]; have := HF.out; omega) J, (below_drewN HB2.out _).setCell hg _⟩
      case measure => simp [intOf]; omega
    · obtain rfl : k = 32 := by omega
      go_wp2
      go_ret2
      have ht : 0 ≤ (f : Int) ∧ (f : Int) < pagesN n ∧ s.size = 128 := ⟨by omega, by have := HF.out; omega, HS.out⟩
      have hmm := ho.mem (n := n) (c := c1) (by rw [hF.out.1]; exact HL.out) HM.out.2.1 hn hF.out.2.1
      exact ⟨⟨_, c1, l', by rw [decide_eq_true ht]; rfl, hmm, fun _ => ⟨g, rfl, hg, ho⟩, fun _ => hF.out, fun h => absurd ht h⟩, hb⟩
theorem sown_no (A : Option Addr) (n c : Nat) (f : Int) (l : List Int) (s : ByteArray) (w : World) (hm : Mem w A n c l) (hf : ¬ (0 ≤ f ∧ f < pagesN n ∧ s.size = 128)) (hs : s.size ≤ 1000) :
    Calls Try.prog 34 #[.slice A n c, .int .i64 f, .string s] w (SetOwn n l f s w) := by
  have hn := hm.2.2.1
  have HC := Lib.hid (clone_any A n c l w hm)
  have HH := Lib.hid (fun W => hasPage_any A n c f W hn)
  have HN := Lib.hid hf
  have HD := Lib.hid (decide_eq_false hf)
  by_cases h1 : 0 ≤ f ∧ f < pagesN n
  · rw [decide_eq_true h1] at HH
    have h2 : ¬ (s.size : Int) = 128 := fun h => hf ⟨h1.1, h1.2, by omega⟩
    clear h1 hf hm
    go_enter Try.func34, Try.ntmps34
    go_wp2_with (first | (go_at_call 27; refine (HC.out).mono ?_; rintro e w1 ⟨⟨A1, c1, rfl, hm1, ho1⟩, hb1⟩) | (go_at_call 37; refine (HH.out _).mono ?_; rintro e w2 ⟨rfl, m2, rfl⟩))
    go_ret2
    exact ⟨⟨A1, c1, l, by rw [HD.out]; rfl, hm1, ho1, fun h => absurd h HN.out, fun _ => rfl⟩, below_drewN hb1 _⟩
  · rw [decide_eq_false h1] at HH
    clear h1 hf hm
    go_enter Try.func34, Try.ntmps34
    go_wp2_with (first | (go_at_call 27; refine (HC.out).mono ?_; rintro e w1 ⟨⟨A1, c1, rfl, hm1, ho1⟩, hb1⟩) | (go_at_call 37; refine (HH.out _).mono ?_; rintro e w2 ⟨rfl, m2, rfl⟩))
    go_ret2
    exact ⟨⟨A1, c1, l, by rw [HD.out]; rfl, hm1, ho1, fun h => absurd h HN.out, fun _ => rfl⟩, below_drewN hb1 _⟩
theorem sown_page (A : Option Addr) (n c : Nat) (f : Int) (l : List Int) (s : ByteArray) (w : World) (hm : Mem w A n c l) (hs : s.size ≤ 1000) :
    Calls Try.prog 34 #[.slice A n c, .int .i64 f, .string s] w (SetOwn n l f s w) := by
  by_cases hf : 0 ≤ f ∧ f < pagesN n ∧ s.size = 128
  · obtain ⟨k, rfl⟩ : ∃ k : Nat, f = k := ⟨f.toNat, by omega⟩
    exact sown_yes A n c k l s w hm (by omega) hf.2.2
  · exact sown_no A n c f l s w hm hf hs
end Go.Proofs.Ytackgjmmeojpiaa
