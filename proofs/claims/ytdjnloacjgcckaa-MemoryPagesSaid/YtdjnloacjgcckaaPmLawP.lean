import Derived.Test.YtdjnloacjgcckaaPmFn9
import Derived.Test.YtdjnloacjgcckaaPmRow
namespace Go.Proofs.Ytdjnloacjgcckaa
set_option linter.unusedVariables false
set_option linter.unusedSimpArgs false
open Go.ChangeShapes Go.WideShapes Go.ChangeAt Go.RowKit Go.Proofs.Ytdjnloacjgcckaa.Num Go.Proofs.Ytdjnloacjgcckaa.Mem
def okP (n : Nat) (f : Int) (z : Nat) : Bool := decide (0 ≤ f ∧ f < pagesN n ∧ z = 128)
def hasP (n : Nat) (f : Int) : Bool := decide (0 ≤ f ∧ f < pagesN n)
def SetRel (n : Nat) (l : List Int) (f : Int) (s : ByteArray) (l' : List Int) : Prop := (0 ≤ f ∧ f < pagesN n ∧ s.size = 128 → Filled s.data.toList f.toNat 128 l l') ∧ (¬ (0 ≤ f ∧ f < pagesN n ∧ s.size = 128) → l' = l)
def SetR (n : Nat) (l : List Int) (f : Int) (s : ByteArray) (w : World) (e : Ending) (w' : World) : Prop :=
  (∃ A c l', e = .returned (.tuple #[.slice A n c, .bool (okP n f s.size)]) ∧ Mem w' A n c l' ∧ SetRel n l f s l') ∧ Below w.heap.size w w'
theorem setR_of {n : Nat} {l : List Int} {f : Int} {s : ByteArray} {w w' : World} {e : Ending} (h : SetPost n l f s w e w') : SetR n l f s w e w' := by
  obtain ⟨⟨A, c, l', he, hm, h1, h2⟩, hb⟩ := h
  exact ⟨⟨A, c, l', he, hm, h1, h2⟩, hb⟩
theorem SetRel.same {n : Nat} {l l1 l2 : List Int} {f : Int} {s : ByteArray} (h1 : SetRel n l f s l1) (h2 : SetRel n l f s l2) : l1 = l2 := by
  by_cases h : 0 ≤ f ∧ f < pagesN n ∧ s.size = 128
  · exact (h1.1 h).same (h2.1 h)
  · rw [h1.2 h, h2.2 h]
theorem SetRel.page {n : Nat} {l l' : List Int} {f : Int} {s : ByteArray} (h : SetRel n l f s l') (hl : l.length = n) (hn : n ≤ 1024) (ho : okP n f s.size = true) : hasP n f = true ∧ pgS n l' f = s := by
  have ho' : 0 ≤ f ∧ f < pagesN n ∧ s.size = 128 := by simpa [okP] using ho
  have hp := pagesN_le n
  refine ⟨decide_eq_true ⟨ho'.1, ho'.2.1⟩, ?_⟩
  unfold pgS
  rw [if_pos ⟨ho'.1, ho'.2.1⟩]
  have hF := (h.1 ho').page (by rw [← ho'.2.2]; show s.data.toList.length = s.data.size; simp) (by omega)
  unfold pageS
  rw [hF]
  apply ByteArray.ext
  simp [S8]
theorem pageA (A : Option Addr) (n c : Nat) (f : Int) (l : List Int) (w : World) (hm : Mem w A n c l) :
    Calls Try.prog 23 #[.slice A n c, .int .i64 f] w fun e w' => e = .returned (.tuple #[.string (pgS n l f), .bool (hasP n f)]) ∧ Below w.heap.size w w' := page_any A n c f l w hm
theorem pageB (A : Option Addr) (n c : Nat) (f : Int) (l : List Int) (w : World) (hm : Mem w A n c l) :
    Calls Try.prog 24 #[.slice A n c, .int .i64 f] w fun e w' => e = .returned (.tuple #[.string (pgS n l f), .bool (hasP n f)]) ∧ Below w.heap.size w w' := page_ref' A n c f l w hm
theorem S8_self (l : List UInt8) (h : l.length = 128) : (S8 l).size ≤ 1000 := by rw [S8_size]; omega
set_option maxRecDepth 100000 in
set_option maxHeartbeats 4000000 in
theorem pages_walk (A B : Option Addr) (n c k d : Nat) (raw : Bool) (z : Nat → Int) (p f u : Int) (s : ByteArray) (w : World) (hm : n ≤ 200 → ∃ l, Mem w A n c l) (hz : Ints w B k z) (p0 : -9223372036854775808 ≤ p) (p1 : p ≤ 9223372036854775807)
    (f0 : -9223372036854775808 ≤ f) (f1 : f ≤ 9223372036854775807) (u0 : -9223372036854775808 ≤ u) (u1 : u ≤ 9223372036854775807) (hs : s.size ≤ maxLen) :
    Calls Try.prog 4 #[.slice A n c, .bool raw, .slice B k d, .int .i64 p, .int .i64 f, .int .i64 u, .string s] w fun e w' => e = .returned (.bool true) ∧ Below w.heap.size w w' := by
  have HS := Lib.hid (shaped_any A B n c k d raw z p w hm hz p0 p1)
  have HA := Lib.hid awake_any
  unfold maxLen at hs
  clear hm hz
  go_enter Try.func4, Try.ntmps4
  go_wp2_with (first
    | (go_at_call 10; refine (HS.out).mono ?_; rintro e w1 ⟨⟨A1, n1, c1, l1, rfl, hn1, hm1⟩, hb1⟩; have bb := Below.refl w1.heap.size w1)
    | (go_at_call 22; refine (data_any _ _ u0 u1).mono ?_; rintro e w2 ⟨⟨ls, rfl, hls⟩, hb2⟩; replace bb := below_step bb hb2; have hls' := S8_self ls hls; have hls3 : ¬ 300 < (S8 ls).size := by (rw [S8_size]; omega))
    | (go_at_call 21; refine (HA.out _).mono ?_; rintro e w11 ⟨rfl, hb11⟩; replace bb := below_step bb hb11)
    | (go_at_call 11; refine (round_any _ _ _ (by omega) (by omega) (by omega) (by omega)).mono ?_; rintro e w3 ⟨rfl, rfl⟩)
    | (go_at_call 23; first
      | ((with_reducible refine (pageA A1 n1 c1 _ l1 _ (hm1.on bb)).mono ?_); rintro e w4 ⟨rfl, hb4⟩; replace bb := below_step bb hb4)
      | ((with_reducible refine (pageA _ _ _ _ _ _ hm6).mono ?_); rintro e w8 ⟨rfl, hb8⟩; replace bb := below_step bb hb8))
    | (go_at_call 24; refine (pageB A1 n1 c1 _ l1 _ (hm1.on bb)).mono ?_; rintro e w5 ⟨rfl, hb5⟩; replace bb := below_step bb hb5)
    | (go_at_call 25; refine ((set_page A1 n1 c1 _ l1 _ _ (hm1.on bb) (by omega)).mono fun _ _ h => setR_of h).mono ?_; rintro e w6 ⟨⟨A6, c6, l6, rfl, hm6, hr6⟩, hb6⟩; replace bb := below_step bb hb6)
    | (go_at_call 26; refine ((set_ref' A1 n1 c1 _ l1 _ _ (hm1.on bb) (by omega)).mono fun _ _ h => setR_of h).mono ?_; rintro e w7 ⟨⟨A7, c7, l7, rfl, hm7, hr7⟩, hb7⟩; replace bb := below_step bb hb7; replace hm6 := hm6.on hb7; obtain rfl := hr6.same hr7; have hpg := Lib.hid (hr6.page hm1.1 hm1.2.2.1))
    | (go_at_call 16; refine (same_refl _ _ _ _ _ _ _ hm6 hm7).mono ?_; rintro e w9 ⟨rfl, m9, rfl⟩; replace bb := below_drewN bb m9; replace hm6 := hm6.drewN m9))
  all_goals first
    | (exfalso; have h1 := hpg.out (by assumption); exact absurd h1.1 (by assumption))
    | (exfalso; have h1 := hpg.out (by assumption); exact absurd (congrArg ByteArray.toList h1.2) (by assumption))
    | (go_ret; exact ⟨rfl, below_step hb1 bb⟩)
theorem pages_row (a0 : Option Addr) (len0 cap0 : Nat) (z0 : List Int) (a1 : Bool) (a2 : Option Addr) (len2 cap2 : Nat) (z2 : List Int) (a3 a4 a5 : Int) (a6 : ByteArray) (w : World) (w0 : IsRow .u32 w a0 len0 cap0 z0) (w2 : IsRow .i64 w a2 len2 cap2 z2)
    (w3 : (Lit.int .i64 a3).wf = true) (w4 : (Lit.int .i64 a4).wf = true) (w5 : (Lit.int .i64 a5).wf = true) (w6 : a6.size ≤ maxLen) :
    Calls Try.prog 4 #[.slice a0 len0 cap0, .bool a1, .slice a2 len2 cap2, .int .i64 a3, .int .i64 a4, .int .i64 a5, .string a6] w fun e w' => e = .returned (.bool true) ∧ Below w.heap.size w w' :=
  pages_walk a0 a2 len0 cap0 len2 cap2 a1 _ a3 a4 a5 a6 w (row_mem w0) (row_ints w2) (wf_i64 w3).1 (wf_i64 w3).2 (wf_i64 w4).1 (wf_i64 w4).2 (wf_i64 w5).1 (wf_i64 w5).2 w6
end Go.Proofs.Ytdjnloacjgcckaa
