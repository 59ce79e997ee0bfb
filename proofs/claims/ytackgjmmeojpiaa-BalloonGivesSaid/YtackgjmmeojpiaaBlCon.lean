import Derived.Test.YtackgjmmeojpiaaBlNum
import Derived.Test.YtackgjmmeojpiaaDvBas
import Derived.Below
import Derived.IntWalk
import Derived.Lib.Hide
import Derived.Laws.ResultCell
namespace Go.Proofs.Ytackgjmmeojpiaa
set_option linter.unusedVariables false
set_option linter.unusedSimpArgs false
set_option maxRecDepth 20000
open Go.ChangeShapes Go.WideShapes Go.ChangeAt Go.RowKit Go.Proofs.Ytackgjmmeojpiaa.Num Go.Proofs.Ytackgjmmeojpiaa.Mem
/-- A balloon's value. -/
def blV (T : Int) (g : Nat) : Value := .agg #[.int .u32 T, .int .u32 (g : Int)]
theorem bit_any (v : Nat) (w : World) (h1 : v ≤ 4294967295) :
    Calls Try.prog 26 #[.int .u32 (v : Int)] w fun e w' => e = .returned (.int .u32 (bitN v : Int)) ∧ w' = w := by
  have hv := bitN_is v
  have h0 : (0 : Int) ≤ v := by omega
  have h2 : (v : Int) ≤ 4294967295 := by omega
  go_enter Try.func26, Try.ntmps26
  go_wp2
  go_ret
  refine ⟨?_, rfl⟩
  first | rfl | (rw [← hv]; simp)
theorem ones_any (g : Nat) (w : World) (h : g < 4294967296) :
    Calls Try.prog 30 #[.int .u32 (g : Int)] w fun e w' => e = .returned (.int .i64 (cnt g 32 : Int)) ∧ ∃ m, w' = w.drewN m := by
  have e0 : bits .and .u32 ((g : Int)) 255 = (g : Int) % 256 := by rw [and_b255 g h]; omega
  have e1 : bits .and .u32 ((g : Int) / 256) 255 = (g : Int) / 256 % 256 := by
    rw [show (g : Int) / 256 = ((g / 256 : Nat) : Int) by omega, and_b255 _ (by omega)]; omega
  have e2 : bits .and .u32 ((g : Int) / 65536) 255 = (g : Int) / 65536 % 256 := by
    rw [show (g : Int) / 65536 = ((g / 65536 : Nat) : Int) by omega, and_b255 _ (by omega)]; omega
  have HC := Lib.hid (cnt32 g h)
  have p0 := Lib.hid (pop_cnt ((g : Int) % 256) (g % 256) (by omega) (by omega))
  have p1 := Lib.hid (pop_cnt ((g : Int) / 256 % 256) (g / 256 % 256) (by omega) (by omega))
  have p2 := Lib.hid (pop_cnt ((g : Int) / 65536 % 256) (g / 65536 % 256) (by omega) (by omega))
  have p3 := Lib.hid (pop_cnt ((g : Int) / 16777216) (g / 16777216) (by omega) (by omega))
  have q0 := cnt_le (g % 256) 8
  have q1 := cnt_le (g / 256 % 256) 8
  have q2 := cnt_le (g / 65536 % 256) 8
  have q3 := cnt_le (g / 16777216) 8
  generalize cnt (g % 256) 8 = n0 at *
  generalize cnt (g / 256 % 256) 8 = n1 at *
  generalize cnt (g / 65536 % 256) 8 = n2 at *
  generalize cnt (g / 16777216) 8 = n3 at *
  obtain ⟨a0, h0⟩ : ∃ a, (g : Int) % 256 = a := ⟨_, rfl⟩
  obtain ⟨a1, h1⟩ : ∃ a, (g : Int) / 256 % 256 = a := ⟨_, rfl⟩
  obtain ⟨a2, h2⟩ : ∃ a, (g : Int) / 65536 % 256 = a := ⟨_, rfl⟩
  obtain ⟨a3, h3⟩ : ∃ a, (g : Int) / 16777216 = a := ⟨_, rfl⟩
  have b0 : 0 ≤ a0 := by omega
  have b1 : 0 ≤ a1 := by omega
  have b2 : 0 ≤ a2 := by omega
  have b3 : 0 ≤ a3 := by omega
  have c0 : a0 ≤ 255 := by omega
  have c1 : a1 ≤ 255 := by omega
  have c2 : a2 ≤ 255 := by omega
  have c3 : a3 ≤ 255 := by omega
  rw [h0] at e0 p0
  rw [h1] at e1 p1
  rw [h2] at e2 p2
  rw [h3] at p3
  go_enter Try.func30, Try.ntmps30
  go_wp2
  go_quiet (fail)
  go_wp2
  go_ret
  refine ⟨ret_int ?_, _, rfl⟩
  rw [p0.out, p1.out, p2.out, p3.out, HC.out]
  omega
theorem bcount_any (T : Int) (g : Nat) (w : World) (h : g < 4294967296) :
    Calls Try.prog 13 #[blV T g] w fun e w' => e = .returned (.int .i64 (cnt g 32 : Int)) ∧ Below w.heap.size w w' := by
  have HC := Lib.hid (fun W => ones_any g W h)
  unfold blV
  go_enter Try.func13, Try.ntmps13
  go_wp2_with (go_at_call 30; (with_reducible refine (HC.out _).mono ?_); rintro e w1 ⟨rfl, m1, rfl⟩)
  go_ret
  exact ⟨rfl, by (repeat' (first | with_reducible exact Below.refl _ _ | with_reducible assumption | with_reducible apply below_drewN | with_reducible apply Below.drew | with_reducible apply Below.setCell | with_reducible apply Below.alloc | (simp; done) | omega | (simp; omega)))⟩
theorem given_ref (T : Int) (g : Nat) (w : World) (h : g < 4294967296) :
    Calls Try.prog 14 #[blV T g] w fun e w' => e = .returned (.int .i64 (cnt g 32 : Int)) ∧ Below w.heap.size w w' := by
  unfold blV
  go_enter Try.func14, Try.ntmps14
  go_wp2
  go_loop [3, 4] (fun n i => ∃ k : Nat, k ≤ 32 ∧ i = .int .i64 k ∧ n = .int .i64 (cnt g k : Int)) (fun _ i => 32 - (intOf i).toNat)
  case atStart => exact ⟨0, Nat.zero_le _, rfl, rfl⟩
  case round =>
    obtain ⟨k, hk, rfl, rfl⟩ := hrel
    have hc := cnt_le g k
    by_cases hlt : k < 32
    · have hb := bit_of g k h
      have hs : cnt g (k + 1) = cnt g k + (g.testBit k).toNat := rfl
      have ht := Bool.toNat_le (g.testBit k)
      generalize (g.testBit k).toNat = t at *
      have HS := Lib.hid hs
      clear hs
      generalize cnt g k = N at *
      go_wp2
      go_round
      case rel => exact ⟨k + 1, by omega, by go_num, by rw [HS.out]; go_num⟩
      case measure => simp [intOf]; omega
    · obtain rfl : k = 32 := by omega
      go_wp2
      go_ret
      exact ⟨rfl, by (repeat' (first | with_reducible exact Below.refl _ _ | with_reducible assumption | with_reducible apply below_drewN | with_reducible apply Below.drew | with_reducible apply Below.setCell | with_reducible apply Below.alloc | (simp; done) | omega | (simp; omega)))⟩
def inB (T : Int) (g : Nat) (p : Int) : Int := if p = 10 then T else if p = 11 then (cnt g 32 : Int) else 0
theorem bin_any (T : Int) (g : Nat) (p : Int) (w : World) (h : g < 4294967296) :
    Calls Try.prog 11 #[blV T g, .int .i64 p] w fun e w' => e = .returned (.int .u32 (inB T g p)) ∧ Below w.heap.size w w' := by
  have HC := Lib.hid (fun W => bcount_any T g W h)
  have hc := cnt_le g 32
  unfold inB
  generalize cnt g 32 = N at *
  unfold blV at *
  by_cases h1 : p = 10
  · subst h1
    go_enter Try.func11, Try.ntmps11
    go_wp2
    go_ret
    exact ⟨rfl, by (repeat' (first | with_reducible exact Below.refl _ _ | with_reducible assumption | with_reducible apply below_drewN | with_reducible apply Below.drew | with_reducible apply Below.setCell | with_reducible apply Below.alloc | (simp; done) | omega | (simp; omega)))⟩
  · by_cases h2 : p = 11
    · subst h2
      go_enter Try.func11, Try.ntmps11
      go_wp2_with (go_at_call 13; (with_reducible refine (HC.out _).mono ?_); rintro e w1 ⟨rfl, hb1⟩; have b1 : Below w.heap.size w w1 := Below.trans (by (repeat' (first | with_reducible exact Below.refl _ _ | with_reducible assumption | with_reducible apply below_drewN | with_reducible apply Below.drew | with_reducible apply Below.setCell | with_reducible apply Below.alloc | (simp; done) | omega | (simp; omega)))) (hb1.mono (by simp <;> omega)))
      go_ret
      exact ⟨rfl, b1⟩
    · go_enter Try.func11, Try.ntmps11
      go_wp2
      go_ret
      refine ⟨?_, by (repeat' (first | with_reducible exact Below.refl _ _ | with_reducible assumption | with_reducible apply below_drewN | with_reducible apply Below.drew | with_reducible apply Below.setCell | with_reducible apply Below.alloc | (simp; done) | omega | (simp; omega)))⟩
      first | rfl | rw [if_neg h1, if_neg h2]
theorem bin_ref (T : Int) (g : Nat) (p : Int) (w : World) (h : g < 4294967296) :
    Calls Try.prog 12 #[blV T g, .int .i64 p] w fun e w' => e = .returned (.int .u32 (inB T g p)) ∧ Below w.heap.size w w' := by
  have HC := Lib.hid (fun W => given_ref T g W h)
  have hc := cnt_le g 32
  unfold inB
  generalize cnt g 32 = N at *
  unfold blV at *
  by_cases h1 : p = 10
  · subst h1
    go_enter Try.func12, Try.ntmps12
    go_wp2
    go_ret
    exact ⟨rfl, by (repeat' (first | with_reducible exact Below.refl _ _ | with_reducible assumption | with_reducible apply below_drewN | with_reducible apply Below.drew | with_reducible apply Below.setCell | with_reducible apply Below.alloc | (simp; done) | omega | (simp; omega)))⟩
  · by_cases h2 : p = 11
    · subst h2
      go_enter Try.func12, Try.ntmps12
      go_wp2_with (go_at_call 14; (with_reducible refine (HC.out _).mono ?_); rintro e w1 ⟨rfl, hb1⟩; have b1 : Below w.heap.size w w1 := Below.trans (by (repeat' (first | with_reducible exact Below.refl _ _ | with_reducible assumption | with_reducible apply below_drewN | with_reducible apply Below.drew | with_reducible apply Below.setCell | with_reducible apply Below.alloc | (simp; done) | omega | (simp; omega)))) (hb1.mono (by simp <;> omega)))
      go_ret
      exact ⟨rfl, b1⟩
    · go_enter Try.func12, Try.ntmps12
      go_wp2
      go_ret
      refine ⟨?_, by (repeat' (first | with_reducible exact Below.refl _ _ | with_reducible assumption | with_reducible apply below_drewN | with_reducible apply Below.drew | with_reducible apply Below.setCell | with_reducible apply Below.alloc | (simp; done) | omega | (simp; omega)))⟩
      first | rfl | rw [if_neg h1, if_neg h2]
theorem bpend_any (T : Int) (g : Nat) (w : World) (h : g < 4294967296) :
    Calls Try.prog 15 #[blV T g] w fun e w' => e = .returned (.bool ((cnt g 32 : Int) != T)) ∧ Below w.heap.size w w' := by
  have HC := Lib.hid (fun W => bcount_any T g W h)
  have hc := cnt_le g 32
  generalize cnt g 32 = N at *
  unfold blV at *
  have n0 : (0 : Int) ≤ N := by omega
  have n1 : (N : Int) ≤ 32 := by omega
  go_enter Try.func15, Try.ntmps15
  go_wp2
  obtain ⟨W, hW⟩ : ∃ W, w.alloc (.cells #[.int .u32 T, .int .u32 (g : Int)] 24) = W := ⟨_, rfl⟩
  have c0 : W.cell? ⟨w.heap.size, 0, none⟩ = some (.int .u32 T) := by rw [← hW]; simp [go_sem]
  have c1 : W.cell? ⟨w.heap.size, 1, none⟩ = some (.int .u32 (g : Int)) := by rw [← hW]; simp [go_sem]
  have HB : Hid (Below w.heap.size w W) := by rw [← hW]; exact Lib.hid (by (repeat' (first | with_reducible exact Below.refl _ _ | with_reducible assumption | with_reducible apply below_drewN | with_reducible apply Below.drew | with_reducible apply Below.setCell | with_reducible apply Below.alloc | (simp; done) | omega | (simp; omega))))
  rw [hW]
  clear hW
  have hsz := HB.out.size
  obtain ⟨b, HE⟩ : ∃ b, Hid (w.heap.size = b) := ⟨_, rfl⟩
  rw [HE.out] at hsz c0 c1 HB ⊢
  have bb : Below W.heap.size W W.drew := (Below.refl _ _).drew
  go_region_held3 (fun w' => w'.cell? ⟨b, 0, none⟩ = some (.int .u32 T) ∧ w'.cell? ⟨b, 1, none⟩ = some (.int .u32 (g : Int))) (first | with_reducible exact ⟨stillI c0 bb, stillI c1 bb⟩ | go_keep) (first
    | (go_at_call 13; refine (HC.out _).mono ?_; rintro e w1 ⟨rfl, hb1⟩; replace bb := below_stepI bb hb1 (Nat.le_refl _)))
  go_wp2
  go_ret
  exact ⟨ret_bool (by rw [IntWalk.u32_in _ ⟨n0, by omega⟩]), by rw [HE.out]; exact HB.out.trans (bb.mono hsz)⟩
theorem bpend_ref (T : Int) (g : Nat) (w : World) (h : g < 4294967296) (T0 : 0 ≤ T) (T1 : T ≤ 4294967295) :
    Calls Try.prog 16 #[blV T g] w fun e w' => e = .returned (.bool ((cnt g 32 : Int) != T)) ∧ Below w.heap.size w w' := by
  have HC := Lib.hid (fun W => given_ref T g W h)
  have hc := cnt_le g 32
  generalize cnt g 32 = N at *
  unfold blV at *
  have n0 : (0 : Int) ≤ N := by omega
  have n1 : (N : Int) ≤ 32 := by omega
  go_enter Try.func16, Try.ntmps16
  go_wp2
  obtain ⟨W, hW⟩ : ∃ W, w.alloc (.cells #[.int .u32 T, .int .u32 (g : Int)] 24) = W := ⟨_, rfl⟩
  have c0 : W.cell? ⟨w.heap.size, 0, none⟩ = some (.int .u32 T) := by rw [← hW]; simp [go_sem]
  have c1 : W.cell? ⟨w.heap.size, 1, none⟩ = some (.int .u32 (g : Int)) := by rw [← hW]; simp [go_sem]
  have HB : Hid (Below w.heap.size w W) := by rw [← hW]; exact Lib.hid (by (repeat' (first | with_reducible exact Below.refl _ _ | with_reducible assumption | with_reducible apply below_drewN | with_reducible apply Below.drew | with_reducible apply Below.setCell | with_reducible apply Below.alloc | (simp; done) | omega | (simp; omega))))
  rw [hW]
  clear hW
  have hsz := HB.out.size
  obtain ⟨b, HE⟩ : ∃ b, Hid (w.heap.size = b) := ⟨_, rfl⟩
  rw [HE.out] at hsz c0 c1 HB ⊢
  have bb : Below W.heap.size W W.drew := (Below.refl _ _).drew
  go_region_held3 (fun w' => w'.cell? ⟨b, 0, none⟩ = some (.int .u32 T) ∧ w'.cell? ⟨b, 1, none⟩ = some (.int .u32 (g : Int))) (first | with_reducible exact ⟨stillI c0 bb, stillI c1 bb⟩ | go_keep) (first
    | (go_at_call 14; refine (HC.out _).mono ?_; rintro e w1 ⟨rfl, hb1⟩; replace bb := below_stepI bb hb1 (Nat.le_refl _)))
  go_wp2
  go_ret
  exact ⟨ret_bool (by rw [IntWalk.u64_in _ ⟨n0, by omega⟩, IntWalk.u64_in _ ⟨T0, by omega⟩]), by rw [HE.out]; exact HB.out.trans (bb.mono hsz)⟩
theorem bmay_any (T : Int) (g : Nat) (p : Int) (w : World) (h : g < 4294967296) :
    Calls Try.prog 17 #[blV T g, .int .i64 p] w fun e w' => e = .returned (.bool (mayB g p)) ∧ Below w.heap.size w w' := by
  have HL := Lib.hid (fun W => Try.bits_Len32 (g : Int) W (by omega) (by omega))
  unfold mayB
  rw [Int.toNat_natCast] at HL
  generalize Lib.bitLen g = L at *
  obtain ⟨P, hP⟩ : ∃ P : Nat, (P : Int) = max p 0 := ⟨(max p 0).toNat, by omega⟩
  unfold blV
  go_enter Try.func17, Try.ntmps17
  go_wp2_with (go_at_call 31; (with_reducible refine (HL.out _).mono ?_); rintro e w1 ⟨rfl, rfl⟩)
  all_goals go_ret
  all_goals refine ⟨ret_bool ?_, by (repeat' (first | with_reducible exact Below.refl _ _ | with_reducible assumption | with_reducible apply below_drewN | with_reducible apply Below.drew | with_reducible apply Below.setCell | with_reducible apply Below.alloc | (simp; done) | omega | (simp; omega)))⟩
  all_goals simp <;> omega
set_option maxHeartbeats 1000000 in
theorem bmay_ref (T : Int) (g : Nat) (p : Int) (w : World) (h : g < 4294967296) :
    Calls Try.prog 18 #[blV T g, .int .i64 p] w fun e w' => e = .returned (.bool (mayB g p)) ∧ Below w.heap.size w w' := by
  have HN := Lib.hid (fun i hb hi => @mayB_no g i p h hb hi)
  have HY := Lib.hid (@mayB_yes g p h)
  generalize mayB g p = M at *
  unfold blV
  go_enter Try.func18, Try.ntmps18
  go_wp2
  go_loop [5] (fun i => ∃ k : Nat, k ≤ 32 ∧ i = .int .i64 k ∧ Hid (∀ i, i < k → g.testBit i = true → (i : Int) < p)) (fun i => 32 - (intOf i).toNat)
  case atStart => exact ⟨0, Nat.zero_le _, rfl, Lib.hid (fun i hi => absurd hi (Nat.not_lt_zero _))⟩
  case round =>
    obtain ⟨k, hk, rfl, H⟩ := hrel
    by_cases hlt : k < 32
    · have hb := bit_of g k h
      by_cases hp : p ≤ k
      · cases ht : g.testBit k
        · rw [ht] at hb
          replace hb : bits .and .u32 ((g : Int) / 2 ^ k) 1 = 0 := hb
          have HT := Lib.hid ht
          clear ht
          go_wp2
          go_round
          case rel => exact ⟨k + 1, by omega, by go_num, Lib.hid (fun i hi hbi => by
            by_cases e : i = k
            · subst e; rw [HT.out] at hbi; cases hbi
            · exact H.out i (by omega) hbi)⟩
          case measure => simp [intOf]; omega
        · rw [ht] at hb
          replace hb : bits .and .u32 ((g : Int) / 2 ^ k) 1 = 1 := hb
          have hM := HN.out k ht hp
          subst hM
          clear ht
          go_wp2
          go_ret
          exact ⟨rfl, by (repeat' (first | with_reducible exact Below.refl _ _ | with_reducible assumption | with_reducible apply below_drewN | with_reducible apply Below.drew | with_reducible apply Below.setCell | with_reducible apply Below.alloc | (simp; done) | omega | (simp; omega)))⟩
      · have ht := Bool.toNat_le (g.testBit k)
        generalize (g.testBit k).toNat = t at hb ht
        go_wp2
        all_goals
          go_round
          case rel => exact ⟨k + 1, by omega, by go_num, Lib.hid (fun i hi hbi => by
            by_cases e : i = k
            · omega
            · exact H.out i (by omega) hbi)⟩
          case measure => simp [intOf]; omega
    · obtain rfl : k = 32 := by omega
      have hM := HY.out H.out
      subst hM
      go_wp2
      go_ret
      exact ⟨rfl, by (repeat' (first | with_reducible exact Below.refl _ _ | with_reducible assumption | with_reducible apply below_drewN | with_reducible apply Below.drew | with_reducible apply Below.setCell | with_reducible apply Below.alloc | (simp; done) | omega | (simp; omega)))⟩
end Go.Proofs.Ytackgjmmeojpiaa
