import Derived.Test.YtleljcpljhpoaaaPgMap
namespace Go.Proofs.Ytleljcpljhpoaaa
set_option linter.unusedVariables false
set_option linter.unusedSimpArgs false
open Go.ChangeShapes Go.WideShapes Go.ChangeAt Go.RowKit Go.Proofs.Ytleljcpljhpoaaa.Num Go.Proofs.Ytleljcpljhpoaaa.Mem
theorem and_i64 (x : Int) (m : Nat) (hm : m < 9223372036854775808) : 0 ≤ bits .and .i64 x (m : Int) ∧ bits .and .i64 x (m : Int) ≤ m := by
  unfold bits
  have e : (BitVec.ofInt IntKind.i64.bits (m : Int)).toNat = m := by
    show (BitVec.ofInt 64 (m : Int)).toNat = m
    rw [BitVec.toNat_ofInt]
    omega
  have h : (BitVec.ofInt IntKind.i64.bits x &&& BitVec.ofInt IntKind.i64.bits (m : Int)).toNat ≤ m := by
    rw [BitVec.toNat_and, e]
    exact Nat.and_le_right
  show 0 ≤ IntKind.i64.wrap ((BitVec.ofInt IntKind.i64.bits x &&& BitVec.ofInt IntKind.i64.bits (m : Int)).toNat : Int) ∧ IntKind.i64.wrap ((BitVec.ofInt IntKind.i64.bits x &&& BitVec.ofInt IntKind.i64.bits (m : Int)).toNat : Int) ≤ m
  generalize (BitVec.ofInt IntKind.i64.bits x &&& BitVec.ofInt IntKind.i64.bits (m : Int)).toNat = t at *
  rw [IntWalk.i64_in _ (by omega)]
  omega
theorem or_u32 (x y : Int) : 0 ≤ bits .or .u32 x y ∧ bits .or .u32 x y ≤ 4294967295 := by
  unfold bits
  show 0 ≤ IntKind.u32.wrap ((BitVec.ofInt IntKind.u32.bits x ||| BitVec.ofInt IntKind.u32.bits y).toNat : Int) ∧ IntKind.u32.wrap ((BitVec.ofInt IntKind.u32.bits x ||| BitVec.ofInt IntKind.u32.bits y).toNat : Int) ≤ 4294967295
  generalize (BitVec.ofInt IntKind.u32.bits x ||| BitVec.ofInt IntKind.u32.bits y).toNat = t
  have e : IntKind.u32.wrap (t : Int) = (t : Int) % 4294967296 := by simp [IntKind.wrap, IntKind.bits, IntKind.signed]
  rw [e]; omega
theorem nat_of {x : Int} (h : 0 ≤ x) : ∃ q : Nat, x = q := ⟨x.toNat, by omega⟩
/-- A memory that was made: 1 to 8 pages. -/
def Tabled (p : Nat) (w w' : World) (e : Ending) : Prop := (∃ A c l, e = .returned (.slice A (32 * p) c) ∧ Mem w' A (32 * p) c l) ∧ Below w.heap.size w w'
theorem tabled_end {r N c g : Nat} {w w' : World} {l : List Int} (hN : N = 32 * (1 + r)) (hl : l.length = N) (ho : Own w' g l) (hu : U32 l) (hb : Below w.heap.size w w') (hc : N ≤ c) (hr : r ≤ 7) : Tabled (1 + r) w w' (.returned (.slice (some ⟨g, 0, none⟩) N c)) := by
  subst hN
  exact ⟨⟨_, c, l, rfl, ho.mem hl hc (by omega) hu⟩, hb⟩
set_option maxRecDepth 100000 in
set_option maxHeartbeats 2000000 in
theorem tables_any (B : Option Addr) (k d r : Nat) (z : Nat → Int) (p : Int) (w : World) (hz : Ints w B k z) (p0 : -9223372036854775808 ≤ p) (p1 : p ≤ 9223372036854775807) (hr : p % 8 = (r : Int)) :
    Calls Try.prog 23 #[.slice B k d, .int .i64 p] w fun e w' => Tabled (1 + r) w w' e := by
  have hr5 : r ≤ 7 := by omega
  have HZ := Lib.hid hz
  have HR := Lib.hid (fun W => round_any p 8 W (by omega) (by omega) (by omega) (by omega))
  rw [hr] at HR
  have HN := Lib.hid (fun W => new_made r W (by omega))
  clear hz hr
  go_enter Try.func23, Try.ntmps23
  go_wp2_with (first | (go_at_call 11; refine (HR.out _).mono ?_; rintro e w1 ⟨rfl, rfl⟩) | (go_at_call 35; refine (HN.out _).mono ?_; rintro e w1 ⟨⟨l1, c1, rfl, hc1, hl1, hu1, ho1⟩, hb1⟩))
  obtain ⟨N, HNN⟩ : ∃ N, Hid (N = 32 * (1 + r)) := ⟨_, rfl⟩
  rw [← HNN.out] at hc1 hl1 ⊢
  have hN : N ≤ 256 := by rw [HNN.out]; omega
  have hN1 : 1 ≤ N := by rw [HNN.out]; omega
  have HU := Lib.hid hu1
  have HO := Lib.hid ho1
  have HB := Lib.hid hb1
  clear hu1 ho1 hb1
  go_loopw [6] (fun i wr => ∃ (j : Nat) (l : List Int), j ≤ k ∧ j ≤ 60 ∧ i = .int .i64 j ∧ Hid (l.length = N) ∧ U32 l ∧ Own wr w.heap.size l ∧ Below w.heap.size w wr) (fun i _ => 60 - (intOf i).toNat)
  case atStart => exact ⟨0, l1, by omega, by omega, rfl, hl1, HU.out, HO.out, HB.out⟩
  case round =>
    obtain ⟨j, l, hjk, hj40, rfl, hl, hu, ho, hb⟩ := hrel
    by_cases hlt : j < k ∧ j < 60
    · obtain ⟨hlt1, hlt2⟩ := hlt
      obtain ⟨b, off, rfl, hc⟩ := (HZ.out.on hb).1 j hlt1
      obtain ⟨z0, z1⟩ := HZ.out.2 j hlt1
      have hbw := block_of hc
      have hbw2 : ¬ b = w.heap.size := by
        obtain ⟨b', off', h1, h2⟩ := HZ.out.1 j hlt1
        injection h1 with h1; injection h1 with h1 _
        have := block_of h2
        simp only at this
        omega
      generalize z j = y at hc z0 z1
      have i0 : 0 ≤ mixK y 9 % N := Int.emod_nonneg _ (by omega)
      have i1 : mixK y 9 % N < N := Int.emod_lt_of_pos _ (by omega)
      obtain ⟨q, hq⟩ := nat_of i0
      have hqN : q < N := by rw [hq] at i1; exact Int.ofNat_lt.1 i1
      have HQ := Lib.hid hq
      clear hq i0 i1
      have hcell := ho.cell (i := q) (by rw [hl.out]; omega)
      have hfree := ho.free q
      have HO2 := Lib.hid ho
      have HU2 := Lib.hid hu
      have HB2 := Lib.hid hb
      clear ho hu hb
      have HM5 := Lib.hid (fun W => mix_any y 9 W z0 z1 (by omega) (by omega))
      have hk5 := mixK_bd y 9
      generalize mixK y 9 = y5 at *
      have HR5 := Lib.hid (fun W => (round_any y5 N W (by omega) (by omega) (by omega) (by omega)).mono (R' := fun e w' => e = .returned (.int .i64 (q : Int)) ∧ W = w') fun _ _ ⟨h, h'⟩ => ⟨by rw [h, HQ.out], h'⟩)
      obtain ⟨s1, hs1, b1⟩ : ∃ s, bits .and .i64 (y5 / 65536) 31 = s ∧ (0 ≤ s ∧ s ≤ 31) := ⟨_, rfl, and_i64 _ 31 (by omega)⟩
      obtain ⟨s2, hs2, b2⟩ : ∃ s, bits .and .i64 (y5 / 16777216) 15 = s ∧ (0 ≤ s ∧ s ≤ 15) := ⟨_, rfl, and_i64 _ 15 (by omega)⟩
      obtain ⟨v1, hv1, b3⟩ : ∃ s, bits .or .u32 s1 (s2 * 256) = s ∧ (0 ≤ s ∧ s ≤ 4294967295) := ⟨_, rfl, or_u32 _ _⟩
      obtain ⟨v2, hv2, b4⟩ : ∃ s, bits .and .i64 (y5 / 1048576) 4294967295 = s ∧ (0 ≤ s ∧ s ≤ 4294967295) := ⟨_, rfl, and_i64 _ 4294967295 (by omega)⟩
      go_wp2_with (first
        | (go_at_call 11; refine (HR5.out _).mono ?_; rintro e w1 ⟨rfl, rfl⟩)
        | (go_at_call 40; refine (HM5.out _).mono ?_; rintro e w1 ⟨rfl, rfl⟩))
      · go_roundw
        case rel => exact ⟨j + 1, (l.set q v1).set q v2, by omega, by omega, by go_num, (by rw [List.length_set, List.length_set]; exact hl.out : ((l.set q v1).set q v2).length = N), (HU2.out.set q b3.1 b3.2).set q b4.1 b4.2, (HO2.out.set (by rw [hl.out]; exact hqN) _).set (by rw [List.length_set, hl.out]; exact hqN) _, (HB2.out.setCell (Nat.le_refl _) _).setCell (Nat.le_refl _) _⟩
        case measure => simp [intOf]; omega
      · go_roundw
        case rel => exact ⟨j + 1, l.set q v1, by omega, by omega, by go_num, (by rw [List.length_set]; exact hl.out : (l.set q v1).length = N), HU2.out.set q b3.1 b3.2, HO2.out.set (by rw [hl.out]; exact hqN) _, HB2.out.setCell (Nat.le_refl _) _⟩
        case measure => simp [intOf]; omega
    · have HO2 := Lib.hid ho
      have HU2 := Lib.hid hu
      have HB2 := Lib.hid hb
      clear ho hu hb
      by_cases h1 : j < k
      · have h2 : ¬ j < 60 := by omega
        go_wp2
        go_ret
        exact tabled_end HNN.out hl.out HO2.out HU2.out HB2.out hc1 (by omega)
      · go_wp2
        go_ret
        exact tabled_end HNN.out hl.out HO2.out HU2.out HB2.out hc1 (by omega)
end Go.Proofs.Ytleljcpljhpoaaa
