import Derived.Test.YtdjnloacjgcckaaPmTab
import Derived.Test.YtdjnloacjgcckaaPmRow
namespace Go.Proofs.Ytdjnloacjgcckaa
set_option linter.unusedVariables false
set_option linter.unusedSimpArgs false
open Go.ChangeShapes Go.WideShapes Go.ChangeAt Go.RowKit Go.Proofs.Ytdjnloacjgcckaa.Num Go.Proofs.Ytdjnloacjgcckaa.Mem
theorem store_k (A : Option Addr) (n c q : Nat) (size : Nat) (l : List Int) (a v : Int) (w : World) (hm : Mem w A n c l) (haq : a = (q : Int)) (hs : size = 1 ∨ size = 4) (ha : q % size = 0) (hi : q / 4 < n) (hp : 0 < pagesN n) (hv : 0 ≤ v) (hv' : v ≤ 4294967295) :
    Calls Try.prog 14 #[.slice A n c, .int .u32 a, .int .i64 size, .int .u32 v] w (Gives2 n (stV l q size v) true w) := by
  subst haq
  have hn := hm.2.2.1
  have ho : okB n q size = true := okB_in (by omega) (by rcases hs with rfl | rfl <;> omega) hp (by omega)
  refine (store_any A n c l q size v w hm (by omega) (by omega) hv hv').mono fun e w' ⟨⟨A', c', he, hm'⟩, hb⟩ => ⟨⟨A', c', by rw [he, ho], ?_⟩, hb⟩
  rw [if_pos ho] at hm'
  exact hm'
theorem keeps_long (a : Option Addr) (p : Int) (k d : Nat) (w : World) (hk : 60 < k) :
    Calls Try.prog 6 #[.int .i64 p, .slice a k d] w fun e w' => e = .returned (.bool true) ∧ Below w.heap.size w w' := by
  have HA := Lib.hid awake_any
  go_enter Try.func6, Try.ntmps6
  go_wp2_with (go_at_call 21; refine (HA.out _).mono ?_; rintro e w11 ⟨rfl, hb11⟩)
  all_goals first | (exfalso; omega) | skip
  go_ret
  exact ⟨rfl, hb11⟩
/-- The state of the loop. -/
def KeepRel (w : World) (g N : Nat) (m : Value) (wr : World) : Prop := ∃ A c l, m = .slice A N c ∧ Mem wr A N c l ∧ Tab wr g (bytesL l) ∧ Below w.heap.size w wr
set_option maxRecDepth 100000 in
set_option maxHeartbeats 4000000 in
theorem keeps_walk (B : Option Addr) (k d : Nat) (z : Nat → Int) (p : Int) (w : World) (hk : k ≤ 60) (hz : Ints w B k z) (p0 : -9223372036854775808 ≤ p) (p1 : p ≤ 9223372036854775807) :
    Calls Try.prog 6 #[.int .i64 p, .slice B k d] w fun e w' => e = .returned (.bool true) ∧ Below w.heap.size w w' := by
  obtain ⟨r, hr⟩ : ∃ r : Nat, p % 4 = r := ⟨(p % 4).toNat, by omega⟩
  have hr4 : r ≤ 3 := by omega
  have HR := Lib.hid (fun W => round_any p 4 W (by omega) (by omega) (by omega) (by omega))
  rw [hr] at HR
  obtain ⟨np, hnp⟩ : ∃ np : Nat, 1 + r = np := ⟨_, rfl⟩
  have hnpI : (1 : Int) + r = np := by omega
  have np1 : 1 ≤ np := by omega
  have np2 : np ≤ 4 := by omega
  obtain ⟨N, hN⟩ : ∃ N, N = 32 * np := ⟨_, rfl⟩
  have HN := Lib.hid (fun W => new_n np np N W rfl (by omega) hN)
  have N1 : 32 ≤ N := by omega
  have N2 : N ≤ 128 := by omega
  have hp : 0 < pagesN N := by unfold pagesN; rw [if_pos ⟨by omega, by omega⟩]; omega
  have HP : Hid (pagesN N = np) := by show _ = _; unfold pagesN; rw [if_pos ⟨by omega, by omega⟩]; omega
  obtain ⟨M, hM⟩ : ∃ M, M = 4 * N := ⟨_, rfl⟩
  have M1 : 1 ≤ M := by omega
  have M2 : M ≤ 512 := by omega
  have hmk := mk_tab ((np : Int) * 128) M (by omega) (by omega)
  have HMM := Lib.hid hM
  have HNN := Lib.hid hN
  have HA := Lib.hid awake_any
  have HZ := Lib.hid hz
  have hk60 : ¬ 60 < (k : Int) := by omega
  clear hr hN hz hnp hM
  go_enter Try.func6, Try.ntmps6
  go_wp2_with (first
      | (go_at_call 11; refine (HR.out _).mono ?_; rintro e w1 ⟨rfl, rfl⟩)
      | (go_at_call 19; refine (HN.out _).mono ?_; rintro e w1 ⟨⟨A1, c1, rfl, hm1⟩, hb1⟩))
  have HM1 := Lib.hid hm1
  have HB1 := Lib.hid hb1
  clear hm1 hb1
  go_loopw [6, 8] (fun m i wr => ∃ j : Nat, j ≤ k ∧ i = .int .i64 j ∧ KeepRel w w1.heap.size N m wr) (fun _ i _ => k - (intOf i).toNat)
  case atStart =>
    refine ⟨0, Nat.zero_le _, rfl, A1, c1, zs N, rfl, HM1.out.on ((Below.refl _ _).alloc (Nat.le_refl _) _), ?_, HB1.out.alloc HB1.out.size _⟩
    unfold Tab
    rw [heap_alloc_new, bytes_zs, HMM.out]
  case round =>
    obtain ⟨j, hj, rfl, A, c, l, rfl, hm, ht, hb⟩ := hrel
    have hg : w.heap.size ≤ w1.heap.size := HB1.out.size
    by_cases hlt : j < k
    · obtain ⟨b, off, rfl, hc⟩ := (HZ.out.on hb).1 j hlt
      obtain ⟨z0, z1⟩ := HZ.out.2 j hlt
      generalize z j = y at hc z0 z1
      have HX7 := Lib.hid (fun W => mix_any y 7 W z0 z1 (by omega) (by omega))
      have HX8 := Lib.hid (fun W => mix_any y 8 W z0 z1 (by omega) (by omega))
      have b8 := mixK_bd y 8
      generalize mixK y 7 = y7 at HX7
      generalize mixK y 8 = y8 at HX8 b8
      obtain ⟨v, hv⟩ : ∃ v, bits .and .i64 y7 4294967295 % 4294967296 = v := ⟨_, rfl⟩
      have v0 : 0 ≤ v := by omega
      have v1 : v ≤ 4294967295 := by omega
      obtain ⟨q, hq⟩ : ∃ q : Nat, y8 % (M : Int) = q := ⟨(y8 % M).toNat, by have := Int.emod_nonneg y8 (b := (M : Int)) (by omega); omega⟩
      have qM : q < M := by have := Int.emod_lt_of_pos y8 (b := (M : Int)) (by omega); omega
      have HRM := Lib.hid (fun W => round_any y8 M W (by omega) (by omega) (by omega) (by omega))
      rw [hq] at HRM
      have HM := Lib.hid hm
      have HT := Lib.hid ht
      have HB := Lib.hid hb
      clear hm ht hb hq
      by_cases hodd : (bits .and .i64 y 1 == 1) = true
      · obtain ⟨q4, hq4⟩ : ∃ q4 : Nat, (q : Int) / 4 * 4 = q4 := ⟨q / 4 * 4, by omega⟩
        have q4M : q4 + 3 < M := by have := HMM.out; omega
        have q4z : q4 % 4 = 0 := by omega
        have HST := Lib.hid (fun W (h : Mem W A N c l) => store_k A N c q4 4 l (q4 : Int) v W h rfl (.inr rfl) q4z (by have := HMM.out; omega) hp v0 v1)
        go_wp2_with (first
          | (go_at_call 32; first | ((with_reducible refine (HX7.out _).mono ?_); rintro e w3 ⟨rfl, rfl⟩) | ((with_reducible refine (HX8.out _).mono ?_); rintro e w3 ⟨rfl, rfl⟩))
          | (go_at_call 11; refine (HRM.out _).mono ?_; rintro e w3 ⟨rfl, rfl⟩)
          | (go_at_call 14; refine (HST.out _ HM.out).mono ?_; rintro e w4 ⟨⟨A4, c4, rfl, hm4⟩, hb4⟩))
        have HE := Lib.hid (bytes_store l q4 4 v HM.out.2.2.2.1 (.inr rfl) q4z (by rw [HM.out.1]; have := HMM.out; omega) v0 v1)
        have HTL : Hid ((bytesL l).length = M) := by show _ = _; rw [bytesL_len, HM.out.1, HMM.out]
        have HT4 := Lib.hid (HT.out.on hb4)
        have HM4 := Lib.hid hm4
        have HB4 := Lib.hid (below_step HB.out hb4)
        clear hm4 hb4 HST HM HT HB hc
        generalize stV l _ _ v = L4 at HE HM4
        generalize bytesL l = T at HE HT4 HTL
        go_loopw [14] (fun i wr => ∃ t : Nat, t ≤ 4 ∧ i = .int .i64 t ∧ Tab wr w1.heap.size (setK T q4 v t) ∧ Mem wr A4 N c4 L4 ∧ Below w.heap.size w wr) (fun i _ => 4 - (intOf i).toNat)
        case atStart => exact ⟨0, Nat.zero_le _, rfl, HT4.out, HM4.out, HB4.out⟩
        case round =>
          obtain ⟨t, ht, rfl, hT, hM, hB⟩ := hrel
          by_cases htl : t < 4
          · have hcell := hT.cell (i := q4 + t) (by rw [setK_len, HTL.out]; omega)
            have hfree := hT.free (q4 + t)
            have HV := Lib.hid (low_shift v t v0)
            have HT5 := Lib.hid hT
            have HM5 := Lib.hid hM
            have HB5 := Lib.hid hB
            generalize ((setK T q4 v t).getD (q4 + t) 0) = u at hcell
            clear hT hM hB
            go_wp2
            go_roundw
            case rel =>
              refine ⟨t + 1, by omega, by go_num, ?_, HM5.out.setTab HT5.out _, HB5.out.setCell hg _⟩
              rw [HV.out]
              exact HT5.out.set (q4 + t) (low v t)
            case measure => simp [intOf]; omega
          · obtain rfl : t = 4 := by omega
            rw [← HE.out] at hT
            have HT5 := Lib.hid hT
            have HM5 := Lib.hid hM
            have HB5 := Lib.hid hB
            clear hT hM hB
            go_wp2
            go_roundw
            case rel => exact ⟨j + 1, by omega, by go_num, A4, c4, L4, rfl, HM5.out, HT5.out, HB5.out⟩
            case measure => simp [intOf]; omega
      · have q1z : q % 1 = 0 := by omega
        have hodd' : (bits .and .i64 y 1 == 1) = false := by simpa using hodd
        clear hodd
        have HST := Lib.hid (fun W (h : Mem W A N c l) => store_k A N c q 1 l (q : Int) v W h rfl (.inl rfl) q1z (by have := HMM.out; omega) hp v0 v1)
        go_wp2_with (first
          | (go_at_call 32; first | ((with_reducible refine (HX7.out _).mono ?_); rintro e w3 ⟨rfl, rfl⟩) | ((with_reducible refine (HX8.out _).mono ?_); rintro e w3 ⟨rfl, rfl⟩))
          | (go_at_call 11; refine (HRM.out _).mono ?_; rintro e w3 ⟨rfl, rfl⟩)
          | (go_at_call 14; refine (HST.out _ HM.out).mono ?_; rintro e w4 ⟨⟨A4, c4, rfl, hm4⟩, hb4⟩))
        have HE := Lib.hid (bytes_store l q 1 v HM.out.2.2.2.1 (.inl rfl) q1z (by rw [HM.out.1]; have := HMM.out; omega) v0 v1)
        have HTL : Hid ((bytesL l).length = M) := by show _ = _; rw [bytesL_len, HM.out.1, HMM.out]
        have HT4 := Lib.hid (HT.out.on hb4)
        have HM4 := Lib.hid hm4
        have HB4 := Lib.hid (below_step HB.out hb4)
        clear hm4 hb4 HST HM HT HB hc
        generalize stV l _ _ v = L4 at HE HM4
        generalize bytesL l = T at HE HT4 HTL
        go_loopw [14] (fun i wr => ∃ t : Nat, t ≤ 1 ∧ i = .int .i64 t ∧ Tab wr w1.heap.size (setK T q v t) ∧ Mem wr A4 N c4 L4 ∧ Below w.heap.size w wr) (fun i _ => 1 - (intOf i).toNat)
        case atStart => exact ⟨0, Nat.zero_le _, rfl, HT4.out, HM4.out, HB4.out⟩
        case round =>
          obtain ⟨t, ht, rfl, hT, hM, hB⟩ := hrel
          by_cases htl : t < 1
          · have hcell := hT.cell (i := q + t) (by rw [setK_len, HTL.out]; omega)
            have hfree := hT.free (q + t)
            have HV := Lib.hid (low_shift v t v0)
            have HT5 := Lib.hid hT
            have HM5 := Lib.hid hM
            have HB5 := Lib.hid hB
            generalize ((setK T q v t).getD (q + t) 0) = u at hcell
            clear hT hM hB
            go_wp2
            go_roundw
            case rel =>
              refine ⟨t + 1, by omega, by go_num, ?_, HM5.out.setTab HT5.out _, HB5.out.setCell hg _⟩
              rw [HV.out]
              exact HT5.out.set (q + t) (low v t)
            case measure => simp [intOf]; omega
          · obtain rfl : t = 1 := by omega
            rw [← HE.out] at hT
            have HT5 := Lib.hid hT
            have HM5 := Lib.hid hM
            have HB5 := Lib.hid hB
            clear hT hM hB
            go_wp2
            go_roundw
            case rel => exact ⟨j + 1, by omega, by go_num, A4, c4, L4, rfl, HM5.out, HT5.out, HB5.out⟩
            case measure => simp [intOf]; omega
    · obtain rfl : j = k := by omega
      have HMa := Lib.hid hm
      have HTa := Lib.hid ht
      have HBa := Lib.hid hb
      clear hm ht hb
      go_wp2
      go_loopw [15] (fun i wr => ∃ t : Nat, t ≤ np ∧ i = .int .i64 t ∧ Mem wr A N c l ∧ Tab wr w1.heap.size (bytesL l) ∧ Below w.heap.size w wr) (fun i _ => np - (intOf i).toNat)
      case atStart => exact ⟨0, Nat.zero_le _, rfl, HMa.out, HTa.out, HBa.out⟩
      case round =>
        obtain ⟨t, ht, rfl, hm, hT, hb⟩ := hrel
        by_cases htl : t < np
        · have HMb := Lib.hid hm
          have HTb := Lib.hid hT
          have HBb := Lib.hid hb
          have HPG := Lib.hid (page_yes A N c t l _ hm (by rw [HP.out]; exact htl))
          have hs1 : ((t : Int) + 1) * 128 ≤ M := by have := HMM.out; have := HNN.out; omega
          have hs2 : ¬ M = t * 128 := by omega
          have HLL : Hid ((bytesL l).length = M) := by show _ = _; rw [bytesL_len, hm.1, HMM.out]
          have HPS : Hid (S8 (((bytesL l).drop (t * 128)).take ((t + 1) * 128 - t * 128)) = pageS l t) := by
            have e1 : (t + 1) * 128 - t * 128 = 128 := by omega
            show _ = _
            rw [e1, Nat.mul_comm t 128, bytes_page l t (by rw [hm.1]; have := HNN.out; omega)]
            rfl
          clear hm hT hb
          go_wp2_with (go_at_call 23; refine (HPG.out).mono ?_; rintro e w5 ⟨rfl, hb5⟩; have hcv := tab_string w5 w1.heap.size (t * 128) ((t + 1) * 128 - t * 128) (M - t * 128) (bytesL l) (HTb.out.on hb5) (by rw [HLL.out]; omega); rw [HPS.out] at hcv)
          have HM5 := Lib.hid (HMb.out.on hb5)
          have HT5 := Lib.hid (HTb.out.on hb5)
          have HB5 := Lib.hid (below_step HBb.out hb5)
          go_roundw
          case rel => exact ⟨t + 1, by omega, by go_num, HM5.out, HT5.out, HB5.out⟩
          case measure => simp [intOf]; omega
        · obtain rfl : np = t := by omega
          have HPP := Lib.hid (fun W => pages_any A N c W (by omega))
          rw [HP.out] at HPP
          have HBb := Lib.hid hb
          clear hm hT hb
          go_wp2_with (first
            | (go_at_call 17; refine (HPP.out _).mono ?_; rintro e w5 ⟨rfl, m5, rfl⟩)
            | (go_at_call 21; refine (HA.out _).mono ?_; rintro e w11 ⟨rfl, hb11⟩))
          go_ret
          exact ⟨rfl, below_step (below_drewN HBb.out _) hb11⟩
theorem keeps_row (a0 : Int) (a1 : Option Addr) (len1 cap1 : Nat) (z1 : List Int) (w : World) (w0 : (Lit.int .i64 a0).wf = true) (w1 : IsRow .i64 w a1 len1 cap1 z1) :
    Calls Try.prog 6 #[.int .i64 a0, .slice a1 len1 cap1] w fun e w' => e = .returned (.bool true) ∧ Below w.heap.size w w' := by
  by_cases h : 60 < len1
  · exact keeps_long a1 a0 len1 cap1 w h
  · exact keeps_walk a1 len1 cap1 _ a0 w (by omega) (row_ints w1) (wf_i64 w0).1 (wf_i64 w0).2
end Go.Proofs.Ytdjnloacjgcckaa
