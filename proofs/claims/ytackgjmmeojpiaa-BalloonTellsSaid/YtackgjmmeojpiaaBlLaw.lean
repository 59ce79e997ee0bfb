import Derived.Test.YtackgjmmeojpiaaBlRef
import Derived.Test.YtackgjmmeojpiaaPmFn5
namespace Go.Proofs.Ytackgjmmeojpiaa
set_option linter.unusedVariables false
set_option linter.unusedSimpArgs false
set_option maxRecDepth 20000
open Go.ChangeShapes Go.WideShapes Go.ChangeAt Go.RowKit Go.Proofs.Ytackgjmmeojpiaa.Num Go.Proofs.Ytackgjmmeojpiaa.Mem
theorem awake_out : outG 128 0 10 2 = 4 ∧ cnt 4 32 = 1 ∧ cnt 0 32 = 0 := by decide +kernel
theorem awake11 (w : World) :
    Calls Try.prog 19 #[] w fun e w' => e = .returned (.bool true) ∧ Below w.heap.size w w' := by
  obtain ⟨e1, e2, e3⟩ := awake_out
  have HN := Lib.hid (fun W => new_made 3 W (by omega))
  rw [show (1 + ((3 : Nat) : Int)) = 4 from rfl, show 32 * (1 + 3) = 128 from rfl] at HN
  have HO := Lib.hid (fun A c l W (hm : Mem W A 128 c l) => bout_any 1 0 2 10 A 128 c l W hm (by omega) (by omega))
  unfold BOut at HO
  rw [e1] at HO
  have HC := Lib.hid (fun W => bcount_any 1 4 W (by omega))
  have HP := Lib.hid (fun W => (bpend_any 1 4 W (by omega)).mono (R' := fun e w' => e = .returned (.bool false) ∧ Below W.heap.size W w') fun _ _ ⟨h, h'⟩ => ⟨by rw [h, e2]; rfl, h'⟩)
  have HQ := Lib.hid (fun W => (bpend_any 1 0 W (by omega)).mono (R' := fun e w' => e = .returned (.bool true) ∧ Below W.heap.size W w') fun _ _ ⟨h, h'⟩ => ⟨by rw [h, e3]; rfl, h'⟩)
  rw [e2] at HC
  unfold blV at HO HC HP HQ
  have k4 : ((4 : Nat) : Int) = 4 := rfl
  have k2 : ((2 : Nat) : Int) = 2 := rfl
  have k0 : ((0 : Nat) : Int) = 0 := rfl
  rw [k4, k2, k0] at HO
  rw [k4] at HC HP
  rw [k0] at HQ
  clear e1 e2 e3 k4 k2 k0
  go_enter Try.func19, Try.ntmps19
  go_wp2_with (first
    | go_skip
    | (go_at_call 23; (with_reducible refine (HN.out _).mono ?_); rintro e w1 ⟨⟨l1, c1, rfl, hc1, hl1, hu1, ho1⟩, hb1⟩; have m1 := ho1.mem hl1.out hc1 (by omega) hu1; clear ho1 hu1)
    | (go_at_call 8; (with_reducible refine (HO.out _ _ _ _ m1).mono ?_); rintro e w2 ⟨⟨A2, c2, l2, rfl, -, -, -, -⟩, hb2⟩; have b2 := below_stepI hb1 hb2 (Nat.le_refl _); clear hb2 m1 hb1; have i2 : InB (w2.alloc (.cells #[.int .u32 1, .int .u32 4] 24)) w2.heap.size 1 4 := InB.new w2 1 4 24; have b2' := b2.alloc b2.size (.cells #[.int .u32 1, .int .u32 4] 24))
    | (go_at_call 15; (with_reducible refine (HP.out _).mono ?_); rintro e w3 ⟨rfl, hb3⟩; have i3 := i2.on hb3; have b3 := below_stepI b2' hb3 (Nat.le_refl _); obtain ⟨c0, c1', cz⟩ := i3; rw [show ((4 : Nat) : Int) = 4 from rfl] at c1'; clear hb3)
    | (go_at_call 13; (with_reducible refine (HC.out _).mono ?_); rintro e w4 ⟨rfl, hb4⟩; have b4 := below_stepI b3 hb4 (Nat.le_refl _); clear hb4)
    | (go_at_call 15; (with_reducible refine (HQ.out _).mono ?_); rintro e w5 ⟨rfl, hb5⟩; have b5 := below_stepI b4 hb5 (Nat.le_refl _); clear hb5))
  go_ret
  exact ⟨rfl, b5⟩
theorem asks_walk (g : Nat) (T : Int) (w : World) (hg : g < 4294967296) (T0 : 0 ≤ T) (T1 : T ≤ 4294967295) :
    Calls Try.prog 5 #[.int .u32 (g : Int), .int .u32 T] w fun e w' => e = .returned (.bool true) ∧ Below w.heap.size w w' := by
  have HW := Lib.hid awake11
  obtain ⟨t, ht⟩ : ∃ t, T % 40 = t := ⟨_, rfl⟩
  have t0 : 0 ≤ t := by omega
  have t1 : t ≤ 39 := by omega
  have hc := cnt_le g 32
  have HP := Lib.hid (fun W => bpend_any t g W hg)
  have HI10 := Lib.hid (fun W => bin_any t g 10 W hg)
  have HI11 := Lib.hid (fun W => bin_any t g 11 W hg)
  have z10 : inB t g 10 = t := rfl
  have z11 : inB t g 11 = (cnt g 32 : Int) := rfl
  rw [z10] at HI10
  rw [z11] at HI11
  obtain ⟨N, HN⟩ : ∃ N, Hid (cnt g 32 = N) := ⟨_, rfl⟩
  rw [HN.out] at HP HI11 hc
  unfold blV at HP HI10 HI11
  clear z10 z11
  go_enter Try.func5, Try.ntmps5
  go_wp2
  go_loop [5, 6] (fun n i => ∃ k : Nat, k ≤ 32 ∧ i = .int .i64 k ∧ n = .int .i64 (cnt g k : Int)) (fun _ i => 32 - (intOf i).toNat)
  case atStart => exact ⟨0, Nat.zero_le _, rfl, rfl⟩
  case round =>
    obtain ⟨k, hk, rfl, rfl⟩ := hrel
    have hck := cnt_le g k
    by_cases hlt : k < 32
    · have hb := bit_of g k hg
      have hs : cnt g (k + 1) = cnt g k + (g.testBit k).toNat := rfl
      have htt := Bool.toNat_le (g.testBit k)
      generalize (g.testBit k).toNat = tt at *
      have HS := Lib.hid hs
      clear hs
      generalize cnt g k = M at *
      clear HN
      go_wp2
      go_round
      case rel => exact ⟨k + 1, by omega, by go_num, by rw [HS.out]; go_num⟩
      case measure => simp [intOf]; omega
    · obtain rfl : k = 32 := by omega
      rw [HN.out] at hck ⊢
      have n0 : (0 : Int) ≤ N := by omega
      have n1 : (N : Int) ≤ 32 := by omega
      go_wp2_with (first
        | go_skip
        | (go_at_call 15; (with_reducible refine (HP.out _).mono ?_); rintro e w1 ⟨rfl, hb1⟩; have i1 := (InB.new w t g 24).on hb1; have b1 : Below w.heap.size w w1 := Below.trans (by (repeat' (first | with_reducible exact Below.refl _ _ | with_reducible assumption | with_reducible apply below_drewN | with_reducible apply Below.drew | with_reducible apply Below.setCell | with_reducible apply Below.alloc | (simp; done) | omega | (simp; omega)))) (hb1.mono (by simp <;> omega)); have I1 := Lib.hid i1; obtain ⟨c0, c1, cz⟩ := i1; clear hb1)
        | (go_at_call 11; (with_reducible refine (HI11.out _).mono ?_); rintro e w2 ⟨rfl, hb2⟩; have i2 := I1.out.on hb2; have b2 := below_stepI b1 hb2 (Nat.le_refl _); obtain ⟨d0, d1, dz⟩ := i2; clear hb2)
        | (go_at_call 11; (with_reducible refine (HI10.out _).mono ?_); rintro e w3 ⟨rfl, hb3⟩; have b3 := below_stepI b2 hb3 (Nat.le_refl _); clear hb3)
        | (go_at_call 19; (with_reducible refine (HW.out _).mono ?_); rintro e w4 ⟨rfl, hb4⟩; have b4 := below_stepI b3 hb4 (Nat.le_refl _); clear hb4))
      all_goals go_ret
      all_goals exact ⟨ret_bool (by simp), b4⟩
end Go.Proofs.Ytackgjmmeojpiaa
