import Derived.Test.YtdjnloacjgcckaaPmFn3
import Derived.StillTailTactics
namespace Go.Proofs.Ytdjnloacjgcckaa
set_option linter.unusedVariables false
set_option linter.unusedSimpArgs false
open Go.ChangeShapes Go.WideShapes Go.ChangeAt Go.RowKit Go.Proofs.Ytdjnloacjgcckaa.Num Go.Proofs.Ytdjnloacjgcckaa.Mem
theorem u64_bd (x : Int) : 0 ≤ IntKind.u64.wrap x ∧ IntKind.u64.wrap x < 18446744073709551616 := by
  rw [IntKind.wrap_u64]; omega
theorem mixC_bd (y : Int) (h0 : 0 ≤ y) (h1 : y < 18446744073709551616) : 0 ≤ mixC y ∧ mixC y < 18446744073709551616 := by
  obtain ⟨z, rfl⟩ : ∃ z : Nat, y = z := ⟨y.toNat, by omega⟩
  unfold mixC
  have e : ((z : Int) / 2147483648) = ((z / 2147483648 : Nat) : Int) := by omega
  rw [e, u64_xor_nat z (z / 2147483648) (by omega) (by omega)]
  have := Nat.xor_lt_two_pow (x := z) (y := z / 2147483648) (n := 64) (by omega) (by omega)
  omega
theorem mixed_bd (s : Int) : 0 ≤ mixed s ∧ mixed s < 18446744073709551616 := by
  unfold mixed
  generalize mixA (seedStep s) = q
  unfold mixB
  have h := u64_bd (bits .xor .u64 q (q / 134217728) * 10723151780598845931)
  generalize IntKind.u64.wrap (bits .xor .u64 q (q / 134217728) * 10723151780598845931) = y at *
  exact mixC_bd y h.1 h.2
/-- What Mix gives. -/
def mixK (n k : Int) : Int := mixed (bits .xor .u64 (IntKind.u64.wrap n) (IntKind.u64.wrap (k * 11400714819323198485))) / 2
theorem mixK_bd (n k : Int) : 0 ≤ mixK n k ∧ mixK n k ≤ 9223372036854775807 := by
  unfold mixK
  have h := mixed_bd (bits .xor .u64 (IntKind.u64.wrap n) (IntKind.u64.wrap (k * 11400714819323198485)))
  generalize mixed (bits .xor .u64 (IntKind.u64.wrap n) (IntKind.u64.wrap (k * 11400714819323198485))) = y at *
  omega
theorem mix_any (n k : Int) (w : World) (h0 : -9223372036854775808 ≤ n) (h1 : n ≤ 9223372036854775807) (k0 : 0 ≤ k) (k1 : k ≤ 1000) :
    Calls Try.prog 32 #[.int .i64 n, .int .i64 k] w fun e w' => e = .returned (.int .i64 (mixK n k)) ∧ w = w' := by
  go_enter Try.func32, Try.ntmps32
  go_wp2_with (go_at_call 52; refine (next_ref0 _ _).mono ?_; rintro e w1 ⟨rfl, rfl⟩)
  all_goals go_ret
  all_goals refine ⟨ret_int ?_, rfl⟩
  have hb := mixK_bd n k
  show wrap64 (mixK n k) = mixK n k
  generalize mixK n k = y at *
  unfold wrap64; omega
theorem rnd (n k : Int) (hk : 1 ≤ k) : (n.tmod k < 0 → n % k = n.tmod k + k ∧ -k < n.tmod k) ∧ (0 ≤ n.tmod k → n % k = n.tmod k ∧ n.tmod k < k) := by
  obtain ⟨h1, h2, h3, h4, h5⟩ := tdiv_facts n k (by omega)
  obtain ⟨h6, h7⟩ := h4 (by omega)
  have e : n % k = n.tmod k % k := by
    conv => lhs; rw [← h1]
    rw [Int.add_comm, Int.add_mul_emod_self_left]
  refine ⟨fun h => ⟨?_, h6⟩, fun h => ⟨?_, h7⟩⟩
  · rw [e]
    have : n.tmod k % k = (n.tmod k + k) % k := by simp
    rw [this, Int.emod_eq_of_lt (by omega) (by omega)]
  · rw [e, Int.emod_eq_of_lt h h7]
theorem round_any (n k : Int) (w : World) (hk : 1 ≤ k) (hk' : k ≤ 1000000) (h0 : -9223372036854775808 ≤ n) (h1 : n ≤ 9223372036854775807) :
    Calls Try.prog 11 #[.int .i64 n, .int .i64 k] w fun e w' => e = .returned (.int .i64 (n % k)) ∧ w = w' := by
  have hz : ¬ k = 0 := by omega
  have hr := Lib.hid (rnd n k hk)
  go_enter Try.func11, Try.ntmps11
  go_wp2
  all_goals go_ret
  all_goals refine ⟨ret_int ?_, rfl⟩
  · have := (hr.out.1 (by assumption)).2
    rw [(hr.out.1 (by assumption)).1]
    (try unfold wrap64); omega
  · rw [(hr.out.2 (by assumption)).1]
/-- A slice of numbers that came in. -/
def Ints (w : World) (A : Option Addr) (n : Nat) (z : Nat → Int) : Prop := (∀ i, i < n → ∃ b off, A = some ⟨b, off, none⟩ ∧ w.cell? ⟨b, off + i, none⟩ = some (.int .i64 (z i))) ∧ ∀ i, i < n → -9223372036854775808 ≤ z i ∧ z i ≤ 9223372036854775807
theorem Ints.on {w w' : World} {A : Option Addr} {n : Nat} {z : Nat → Int} (h : Ints w A n z) (hb : Below w.heap.size w w') : Ints w' A n z := ⟨fun i hi => by
  obtain ⟨b, off, hA, hc⟩ := h.1 i hi
  exact ⟨b, off, hA, cell_on hc hb⟩, h.2⟩
/-- A memory that was made: 1 to 6 pages. -/
def Made (p : Nat) (w w' : World) (e : Ending) : Prop := (∃ A c l, e = .returned (.slice A (32 * p) c) ∧ Mem w' A (32 * p) c l) ∧ Below w.heap.size w w'
theorem new_made (r : Nat) (w : World) (h : r ≤ 31) : Calls Try.prog 20 #[.int .i64 (1 + (r : Int))] w fun e w' => (∃ l c, e = .returned (.slice (some ⟨w.heap.size, 0, none⟩) (32 * (1 + r)) c) ∧ 32 * (1 + r) ≤ c ∧ Hid (l.length = 32 * (1 + r)) ∧ U32 l ∧ Own w' w.heap.size l) ∧ Below w.heap.size w w' := by
  have e : (1 + (r : Int)) = ((1 + r : Nat) : Int) := by omega
  rw [e]
  refine (new_ref _ w).mono fun e w' ⟨⟨A, c, l, he, hl, hm, ho⟩, hb⟩ => ?_
  rw [if_pos ⟨by omega, by omega⟩] at hl
  have hll : l.length = 32 * (1 + r) := by rw [hl, zs_len]; omega
  obtain ⟨hA, ho⟩ := ho (by omega)
  exact ⟨⟨l, c, by rw [he, hA, hll], by rw [← hll]; exact hm.2.1, hll, hm.2.2.2.1, ho⟩, hb⟩
theorem made_end {r N c g : Nat} {w w' : World} {l : List Int} (hN : N = 32 * (1 + r)) (hl : l.length = N) (ho : Own w' g l) (hu : U32 l) (hb : Below w.heap.size w w') (hc : N ≤ c) (hr : r ≤ 5) : Made (1 + r) w w' (.returned (.slice (some ⟨g, 0, none⟩) N c)) := by
  subst hN
  exact ⟨⟨_, c, l, rfl, ho.mem hl hc (by omega) hu⟩, hb⟩
set_option maxRecDepth 100000 in
theorem made_any (A B : Option Addr) (n c k d r : Nat) (raw : Bool) (z : Nat → Int) (p : Int) (w : World) (hraw : raw = false ∨ 200 < n) (hz : Ints w B k z) (p0 : -9223372036854775808 ≤ p) (p1 : p ≤ 9223372036854775807) (hr : p % 6 = (r : Int)) :
    Calls Try.prog 10 #[.slice A n c, .bool raw, .slice B k d, .int .i64 p] w fun e w' => Made (1 + r) w w' e := by
  have hr5 : r ≤ 5 := by omega
  have HZ := Lib.hid hz
  have HR := Lib.hid (fun W => round_any p 6 W (by omega) (by omega) (by omega) (by omega))
  rw [hr] at HR
  have HN := Lib.hid (fun W => new_made r W (by omega))
  clear hz hr
  rcases hraw with rfl | hbig
  all_goals
    go_enter Try.func10, Try.ntmps10
    go_wp2_with (first | (go_at_call 11; refine (HR.out _).mono ?_; rintro e w1 ⟨rfl, rfl⟩) | (go_at_call 20; refine (HN.out _).mono ?_; rintro e w1 ⟨⟨l1, c1, rfl, hc1, hl1, hu1, ho1⟩, hb1⟩))
    all_goals first | (exfalso; omega) | skip
  all_goals
    obtain ⟨N, HNN⟩ : ∃ N, Hid (N = 32 * (1 + r)) := ⟨_, rfl⟩
    rw [← HNN.out] at hc1 hl1 ⊢
    have hN : N ≤ 192 := by rw [HNN.out]; omega
    have hN1 : 1 ≤ N := by rw [HNN.out]; omega
    have HU := Lib.hid hu1
    have HO := Lib.hid ho1
    have HB := Lib.hid hb1
    clear hu1 ho1 hb1
    go_loopw [10] (fun i wr => ∃ (j : Nat) (l : List Int), j ≤ k ∧ j ≤ 40 ∧ i = .int .i64 j ∧ Hid (l.length = N) ∧ U32 l ∧ Own wr w.heap.size l ∧ Below w.heap.size w wr) (fun i _ => 40 - (intOf i).toNat)
    case atStart => exact ⟨0, l1, by omega, by omega, rfl, hl1, HU.out, HO.out, HB.out⟩
    case round =>
      obtain ⟨j, l, hjk, hj40, rfl, hl, hu, ho, hb⟩ := hrel
      by_cases hlt : j < k ∧ j < 40
      · obtain ⟨hlt1, hlt2⟩ := hlt
        obtain ⟨b, off, rfl, hc⟩ := (HZ.out.on hb).1 j hlt1
        obtain ⟨z0, z1⟩ := HZ.out.2 j hlt1
        generalize z j = y at hc z0 z1
        have i0 : 0 ≤ mixK y 5 % N := Int.emod_nonneg _ (by omega)
        have i1 : mixK y 5 % N < N := Int.emod_lt_of_pos _ (by omega)
        obtain ⟨q, hq⟩ : ∃ q : Nat, mixK y 5 % N = q := ⟨(mixK y 5 % N).toNat, by omega⟩
        have hqN : q < N := by omega
        have HQ := Lib.hid hq
        clear hq i0 i1
        have hcell := ho.cell (i := q) (by rw [hl.out]; omega)
        have hfree := ho.free q
        have HO2 := Lib.hid ho
        have HU2 := Lib.hid hu
        have HB2 := Lib.hid hb
        clear ho hu hb
        have HM5 := Lib.hid (mix_any y 5 wr.drew z0 z1 (by omega) (by omega))
        have HM6 := Lib.hid (mix_any y 6 wr.drew z0 z1 (by omega) (by omega))
        have hk5 := mixK_bd y 5
        have hk6 := mixK_bd y 6
        generalize mixK y 5 = y5 at *
        generalize mixK y 6 = y6 at *
        have HR5 := Lib.hid (round_any y5 N wr.drew (by omega) (by omega) (by omega) (by omega))
        go_wp2_with fail
        refine wp_region_still_tail 17 (by kernel_rfl) (by kernel_rfl) ?_
        simp only [List.take_succ_cons, List.take_zero, List.drop_succ_cons, List.drop_zero]
        have QM5 := Lib.hid (HM5.out.mono (R' := fun e w' => e = .returned (.int .i64 y5) ∧ w' = wr.drew) fun _ _ ⟨h, h'⟩ => ⟨h, h'.symm⟩)
        have QM6 := Lib.hid (HM6.out.mono (R' := fun e w' => e = .returned (.int .i64 y6) ∧ w' = wr.drew) fun _ _ ⟨h, h'⟩ => ⟨h, h'.symm⟩)
        have QR5 := Lib.hid (HR5.out.mono (R' := fun e w' => e = .returned (.int .i64 (q : Int)) ∧ w' = wr.drew) fun _ _ ⟨h, h'⟩ => ⟨by rw [h, HQ.out], h'.symm⟩)
        clear HM5 HM6 HR5
        repeat (refine wpStill_step (fun K hK => ?_); go_simp; first | (with_reducible refine hK _ ?_) | (with_reducible refine ⟨_, QM5.out, hK _ ?_⟩) | (with_reducible refine ⟨_, QM6.out, hK _ ?_⟩) | (with_reducible refine ⟨_, QR5.out, hK _ ?_⟩); clear hK K)
        refine wpStill_nil ?_
        go_wp2
        go_roundw
        case rel => exact ⟨j + 1, l.set q _, by omega, by omega, by go_num, (by rw [List.length_set]; exact hl.out : (l.set q _).length = N), HU2.out.set q (Int.emod_nonneg _ (by omega)) (by omega), HO2.out.set (by rw [hl.out]; exact hqN) _, (HB2.out.setCell (Nat.le_refl _) _).drew⟩
        case measure => simp [intOf]; omega
      · have HO2 := Lib.hid ho
        have HU2 := Lib.hid hu
        have HB2 := Lib.hid hb
        clear ho hu hb
        by_cases h1 : j < k
        · have h2 : ¬ j < 40 := by omega
          go_wp2
          go_ret
          exact made_end HNN.out hl.out HO2.out HU2.out HB2.out hc1 (by omega)
        · go_wp2
          go_ret
          exact made_end HNN.out hl.out HO2.out HU2.out HB2.out hc1 (by omega)
/-- A slice of words: what came in, or a memory that was made. -/
def Shaped (w : World) (e : Ending) (w' : World) : Prop := (∃ A n c l, e = .returned (.slice A n c) ∧ n ≤ 200 ∧ Mem w' A n c l) ∧ Below w.heap.size w w'
theorem shaped_any (A B : Option Addr) (n c k d : Nat) (raw : Bool) (z : Nat → Int) (p : Int) (w : World) (hm : n ≤ 200 → ∃ l, Mem w A n c l) (hz : Ints w B k z) (p0 : -9223372036854775808 ≤ p) (p1 : p ≤ 9223372036854775807) :
    Calls Try.prog 10 #[.slice A n c, .bool raw, .slice B k d, .int .i64 p] w (Shaped w) := by
  obtain ⟨r, hr⟩ : ∃ r : Nat, p % 6 = r := ⟨(p % 6).toNat, by omega⟩
  by_cases h : raw = false ∨ 200 < n
  · exact (made_any A B n c k d r raw z p w h hz p0 p1 hr).mono fun e w' ⟨⟨A, c, l, he, hm⟩, hb⟩ => ⟨⟨A, _, c, l, he, by omega, hm⟩, hb⟩
  · obtain ⟨rfl, hn⟩ : raw = true ∧ n ≤ 200 := ⟨by cases raw <;> simp_all, by omega⟩
    have HM := Lib.hid (hm hn)
    clear hm hr h
    go_enter Try.func10, Try.ntmps10
    go_wp2
    go_ret
    obtain ⟨l, hl⟩ := HM.out
    exact ⟨⟨A, n, c, l, rfl, hn, hl⟩, Below.refl _ _⟩
end Go.Proofs.Ytdjnloacjgcckaa
