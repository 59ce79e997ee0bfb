import Derived.Test.YtdjnloacjgcckaaPmRow
namespace Go.Proofs.Ytdjnloacjgcckaa
set_option linter.unusedVariables false
set_option linter.unusedSimpArgs false
open Go.ChangeShapes Go.WideShapes Go.ChangeAt Go.RowKit Go.Proofs.Ytdjnloacjgcckaa.Num Go.Proofs.Ytdjnloacjgcckaa.Mem
set_option maxRecDepth 100000 in
set_option maxHeartbeats 4000000 in
theorem accesses_walk (A B : Option Addr) (n c k d : Nat) (raw small : Bool) (z : Nat → Int) (p a size v : Int) (w : World) (hm : n ≤ 200 → ∃ l, Mem w A n c l) (hz : Ints w B k z) (p0 : -9223372036854775808 ≤ p) (p1 : p ≤ 9223372036854775807)
    (a0 : 0 ≤ a) (a1 : a ≤ 4294967295) (s0 : -9223372036854775808 ≤ size) (s1 : size ≤ 9223372036854775807) (v0 : 0 ≤ v) (v1 : v ≤ 4294967295) :
    Calls Try.prog 3 #[.slice A n c, .bool raw, .slice B k d, .int .i64 p, .int .u32 a, .bool small, .int .i64 size, .int .u32 v] w fun e w' => e = .returned (.bool true) ∧ Below w.heap.size w w' := by
  have HS := Lib.hid (shaped_any A B n c k d raw z p w hm hz p0 p1)
  have HN1 := Lib.hid (fun W => (new_any p W).mono fun _ _ => new_gives)
  have HN2 := Lib.hid (fun W => (new_ref p W).mono fun _ _ => new_gives)
  generalize (newL p).length = nn at HN1 HN2
  generalize newL p = ll at HN1 HN2
  have HA := Lib.hid awake_any
  clear hm hz
  cases small
  all_goals
    go_enter Try.func3, Try.ntmps3
    go_wp2_with (first
      | (go_at_call 10; refine (HS.out).mono ?_; rintro e w1 ⟨⟨A1, n1, c1, l1, rfl, hn1, hm1⟩, hb1⟩; have bb := Below.refl w1.heap.size w1)
      | (go_at_call 11; refine (round_any _ _ _ (by omega) (by omega) (by omega) (by omega)).mono ?_; rintro e w2 ⟨rfl, rfl⟩)
      | (go_at_call 12; refine (load_any A1 n1 c1 l1 _ _ _ (hm1.on bb) (by omega) (by omega)).mono ?_; rintro e w2 ⟨rfl, m2, rfl⟩; replace bb := below_drewN bb m2)
      | (go_at_call 13; refine (load_ref A1 n1 c1 l1 _ _ _ (hm1.on bb) (by omega) (by omega)).mono ?_; rintro e w2 ⟨rfl, m3, rfl⟩; replace bb := below_more bb m3)
      | (go_at_call 14; refine (store_any A1 n1 c1 l1 _ _ _ _ (hm1.on bb) (by omega) (by omega) v0 v1).mono ?_; rintro e w3 ⟨⟨A3, c3, rfl, hm3⟩, hb3⟩; replace bb := below_step bb hb3)
      | (go_at_call 15; refine (store_ref A1 n1 c1 l1 _ _ _ _ (hm1.on bb) (by omega) (by omega) v0 v1).mono ?_; rintro e w4 ⟨⟨A4, c4, rfl, hm4⟩, hb4⟩; replace bb := below_step bb hb4; replace hm3 := hm3.on hb4)
      | (go_at_call 17; refine (pages_any _ _ _ _ (by omega)).mono ?_; rintro e w5 ⟨rfl, m5, rfl⟩; replace bb := below_more bb m5)
      | (go_at_call 18; refine (pages_ref _ _ _ _ (by omega)).mono ?_; rintro e w6 ⟨rfl, m6, rfl⟩; replace bb := below_more bb m6)
      | (go_at_call 19; refine (HN1.out _).mono ?_; rintro e w7 ⟨⟨A7, c7, rfl, hm7⟩, hb7⟩; replace bb := below_step bb hb7)
      | (go_at_call 20; refine (HN2.out _).mono ?_; rintro e w8 ⟨⟨A8, c8, rfl, hm8⟩, hb8⟩; replace bb := below_step bb hb8; replace hm7 := hm7.on hb8)
      | (go_at_call 16; first
        | ((with_reducible refine (same_refl _ _ _ _ _ _ _ hm3 hm4).mono ?_); rintro e w9 ⟨rfl, m9, rfl⟩; replace bb := below_drewN bb m9)
        | ((with_reducible refine (same_refl _ _ _ _ _ _ _ hm7 hm8).mono ?_); rintro e w9 ⟨rfl, m10, rfl⟩; replace bb := below_drewN bb m10))
      | (go_at_call 21; refine (HA.out _).mono ?_; rintro e w11 ⟨rfl, hb11⟩; replace bb := below_step bb hb11))
    go_ret
    exact ⟨rfl, below_step hb1 bb⟩
theorem accesses_row (a0 : Option Addr) (len0 cap0 : Nat) (z0 : List Int) (a1 : Bool) (a2 : Option Addr) (len2 cap2 : Nat) (z2 : List Int) (a3 a4 : Int) (a5 : Bool) (a6 a7 : Int) (w : World) (w0 : IsRow .u32 w a0 len0 cap0 z0) (w2 : IsRow .i64 w a2 len2 cap2 z2)
    (w3 : (Lit.int .i64 a3).wf = true) (w4 : (Lit.int .u32 a4).wf = true) (w6 : (Lit.int .i64 a6).wf = true) (w7 : (Lit.int .u32 a7).wf = true) :
    Calls Try.prog 3 #[.slice a0 len0 cap0, .bool a1, .slice a2 len2 cap2, .int .i64 a3, .int .u32 a4, .bool a5, .int .i64 a6, .int .u32 a7] w fun e w' => e = .returned (.bool true) ∧ Below w.heap.size w w' :=
  accesses_walk a0 a2 len0 cap0 len2 cap2 a1 a5 _ a3 a4 a6 a7 w (row_mem w0) (row_ints w2) (wf_i64 w3).1 (wf_i64 w3).2 (wf_u32 w4).1 (wf_u32 w4).2 (wf_i64 w6).1 (wf_i64 w6).2 (wf_u32 w7).1 (wf_u32 w7).2
end Go.Proofs.Ytdjnloacjgcckaa
