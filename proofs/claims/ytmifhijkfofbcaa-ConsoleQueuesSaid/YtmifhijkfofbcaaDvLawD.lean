import Derived.Test.YtmifhijkfofbcaaDvLawC
import Derived.Test.YtmifhijkfofbcaaLaw1
namespace Go.Proofs.Ytmifhijkfofbcaa
set_option linter.unusedVariables false
set_option linter.unusedSimpArgs false
open Go.ChangeShapes Go.WideShapes Go.ChangeAt Go.RowKit Go.Proofs.Ytmifhijkfofbcaa.Num Go.Proofs.Ytmifhijkfofbcaa.Mem
/-- n times the byte b. -/
def repB (b : Int) (n : Nat) : ByteArray := ⟨(List.replicate n (UInt8.ofNat b.toNat)).toArray⟩
theorem repB_size (b : Int) (n : Nat) : (repB b n).size = n := by show (List.replicate n _).toArray.size = n; simp
theorem repB_succ (b : Int) (n : Nat) : repB b n ++ bS b = repB b (n + 1) := by
  apply ByteArray.ext
  apply Array.toList_inj.1
  rw [ByteArray.data_append, Array.toList_append]
  simp [repB, bS, List.replicate_succ']
theorem tyS_rep (b : Int) (k : Nat) : tyS (repB b (min k 16)) b = repB b (min (k + 1) 16) := by
  unfold tyS
  rw [repB_size]
  by_cases h : 16 ≤ min k 16
  · rw [if_pos h]; congr 1; omega
  · rw [if_neg h, repB_succ]; congr 1; omega
theorem full_walk (n b : Int) (w : World) (b0 : 0 ≤ b) (b1 : b ≤ 255) (p0 : -9223372036854775808 ≤ n) (p1 : n ≤ 9223372036854775807) :
    Calls Try.prog 5 #[.int .i64 n, .int .u8 b] w fun e w' => e = .returned (.bool true) ∧ Below w.heap.size w w' := by
  have HA := Lib.hid awake7
  by_cases hs : 0 ≤ n ∧ n ≤ 40
  · obtain ⟨hs0, hs1⟩ := hs
    obtain ⟨N, rfl⟩ : ∃ N : Nat, n = N := ⟨n.toNat, by omega⟩
    go_enter Try.func5, Try.ntmps5
    go_wp2
    all_goals first | (exfalso; omega) | skip
    go_loopw [6, 7] (fun n i wr => ∃ (k M : Nat), k ≤ N ∧ M ≤ 16 ∧ Hid (M = min k 16) ∧ i = .int .i64 k ∧ n = .int .i64 M ∧ wr.cell? ⟨w.heap.size, 0, none⟩ = some (.string (repB b M)) ∧ wr.frozen? ⟨w.heap.size, 0, none⟩ = false ∧ Below w.heap.size w wr) (fun _ i _ => N - (intOf i).toNat)
    case atStart => exact ⟨0, 0, by omega, by omega, rfl, rfl, rfl, by simp [go_sem]; rfl, by simp [go_sem], by (repeat' (first | with_reducible exact Below.refl _ _ | with_reducible assumption | with_reducible apply below_drewN | with_reducible apply Below.drew | with_reducible apply Below.setCell | with_reducible apply Below.alloc | (simp; done) | omega | (simp; omega)))⟩
    case round =>
      obtain ⟨k, M, hk, hM16, hM, rfl, rfl, hc, hf, hb⟩ := hrel
      have hg := World.block_lt_of_cell? wr _ hc
      have hg' : w.heap.size < wr.heap.size := hg
      by_cases hlt : k < N
      · by_cases hm : M < 16
        · have HT := Lib.hid (fun W => type_any (repB b M) b W b0 b1)
          have e1 : tyS (repB b M) b = repB b (M + 1) := by unfold tyS; rw [repB_size, if_neg (by omega), repB_succ]
          have e2 : decide ((repB b M).size < 16) = true := by rw [repB_size]; simpa using hm
          rw [e1, e2] at HT
          clear e1 e2
          unfold conV at HT
          go_wp2_with (go_at_call 8; (with_reducible refine (HT.out _).mono ?_); rintro e w1 ⟨rfl, hb1⟩; have c1 := stillD hc hb1; have f1 := dvF hf hb1 hg; have l1 : w.heap.size < w1.heap.size := Nat.lt_of_lt_of_le hg' hb1.size; have n1 : ¬ w1.heap.size = w.heap.size := (by omega); have m1 : ¬ w.heap.size = w1.heap.size := (by omega); have bel1 := below_step hb hb1; have y1 : (w1.alloc (.cells #[.string (repB b (M + 1))] 23)).cell? ⟨w.heap.size, 0, none⟩ = some (.string (repB b M)) := Lib.cell?_alloc_some _ c1; clear hb1)
          go_roundw
          case rel => exact ⟨k + 1, M + 1, by omega, by omega, (by rw [hM.out]; have := hM.out; omega : M + 1 = min (k + 1) 16), by go_num, by go_num, by simp [go_sem, *], by simp [go_sem, *], by (repeat' (first | with_reducible exact Below.refl _ _ | with_reducible assumption | with_reducible apply below_drewN | with_reducible apply Below.drew | with_reducible apply Below.setCell | with_reducible apply Below.alloc | (simp; done) | omega | (simp; omega)))⟩
          case measure => simp [intOf]; omega
        · have HT := Lib.hid (fun W => type_any (repB b M) b W b0 b1)
          have e1 : tyS (repB b M) b = repB b M := by unfold tyS; rw [repB_size, if_pos (by omega)]
          have e2 : decide ((repB b M).size < 16) = false := by rw [repB_size]; simpa using hm
          rw [e1, e2] at HT
          clear e1 e2
          unfold conV at HT
          go_wp2_with (go_at_call 8; (with_reducible refine (HT.out _).mono ?_); rintro e w1 ⟨rfl, hb1⟩; have c1 := stillD hc hb1; have f1 := dvF hf hb1 hg; have l1 : w.heap.size < w1.heap.size := Nat.lt_of_lt_of_le hg' hb1.size; have n1 : ¬ w1.heap.size = w.heap.size := (by omega); have m1 : ¬ w.heap.size = w1.heap.size := (by omega); have bel1 := below_step hb hb1; have y1 : (w1.alloc (.cells #[.string (repB b M)] 23)).cell? ⟨w.heap.size, 0, none⟩ = some (.string (repB b M)) := Lib.cell?_alloc_some _ c1; clear hb1)
          go_roundw
          case rel => exact ⟨k + 1, M, by omega, by omega, (by have := hM.out; omega : M = min (k + 1) 16), by go_num, by go_num, by simp [go_sem, *], by simp [go_sem, *], by (repeat' (first | with_reducible exact Below.refl _ _ | with_reducible assumption | with_reducible apply below_drewN | with_reducible apply Below.drew | with_reducible apply Below.setCell | with_reducible apply Below.alloc | (simp; done) | omega | (simp; omega)))⟩
          case measure => simp [intOf]; omega
      · obtain rfl : k = N := by omega
        have HI := Lib.hid (fun W => in_any (repB b M) 1 W)
        have HP := Lib.hid (fun W => pending_any (repB b M) W)
        have e1 : inS (repB b M) 1 = repB b M := rfl
        have e2 : inV (repB b M) 1 = M := by unfold inV; rw [repB_size, if_neg (by decide), if_pos rfl]; omega
        rw [e1, e2] at HI
        rw [repB_size] at HP
        clear e1 e2
        unfold conV at HI HP
        have hmin : min (k : Int) 16 = M := by have := hM.out; omega
        go_wp2_with (first
          | (go_at_call 10; (with_reducible refine (HI.out _).mono ?_); rintro e w1 ⟨rfl, hb1⟩; have c1 := stillD hc hb1; have l1 : w.heap.size < w1.heap.size := Nat.lt_of_lt_of_le hg' hb1.size; have n1 : ¬ w1.heap.size = w.heap.size := (by omega); have m1 : ¬ w.heap.size = w1.heap.size := (by omega); have bel1 := below_step hb hb1; have y1 : (w1.alloc (.cells #[.string (repB b M)] 23)).cell? ⟨w.heap.size, 0, none⟩ = some (.string (repB b M)) := Lib.cell?_alloc_some _ c1; clear hb1)
          | (go_at_call 12; (with_reducible refine (HP.out _).mono ?_); rintro e w2 ⟨rfl, hb2⟩)
          | (go_at_call 6; refine (HA.out _).mono ?_; rintro e w3 ⟨rfl, hb3⟩))
        all_goals first | (exfalso; have := hM.out; omega) | skip
        all_goals
          go_ret
          exact ⟨rfl, below_step (Below.trans (bel1.alloc bel1.size _) (hb2.mono (by have := bel1.size; simp; omega))) hb3⟩
  · go_enter Try.func5, Try.ntmps5
    go_wp2_with (go_at_call 6; refine (HA.out _).mono ?_; rintro e w' ⟨rfl, hb1⟩)
    all_goals first | (exfalso; omega) | skip
    all_goals go_ret
    all_goals exact ⟨rfl, hb1⟩
theorem bS_eq (s : ByteArray) (h : 0 < s.size) : bS (s[0].toNat : Int) ++ s.extract 1 s.size = s := by
  apply ByteArray.ext
  apply Array.toList_inj.1
  rw [ByteArray.data_append, Array.toList_append]
  have e : s.data.toList = s[0] :: s.data.toList.tail := by
    have h2 : s.data.toList.length = s.size := by simp
    cases hl : s.data.toList with
    | nil => rw [hl] at h2; simp at h2; omega
    | cons x l =>
      have : s[0] = x := by
        show s.data[0] = x
        have : s.data[0] = s.data.toList[0] := by simp
        rw [this]; simp [hl]
      simp [this]
  have e2 : (s.extract 1 s.size).data.toList = s.data.toList.tail := by
    simp [← List.drop_one]
    rw [List.take_of_length_le (by simp)]
  rw [e2]
  conv => rhs; rw [e]
  simp [bS]
/-- A slice of numbers that came in. -/
def IntsD (w : World) (A : Option Addr) (n : Nat) (z : Nat → Int) : Prop := (∀ i, i < n → ∃ b off, A = some ⟨b, off, none⟩ ∧ w.cell? ⟨b, off + i, none⟩ = some (.int .i64 (z i))) ∧ ∀ i, i < n → -9223372036854775808 ≤ z i ∧ z i ≤ 9223372036854775807
theorem IntsD.on {w w' : World} {A : Option Addr} {n : Nat} {z : Nat → Int} (h : IntsD w A n z) (hb : Below w.heap.size w w') : IntsD w' A n z := ⟨fun i hi => by
  obtain ⟨b, off, hA, hc⟩ := h.1 i hi
  exact ⟨b, off, hA, stillD hc hb⟩, h.2⟩
set_option maxHeartbeats 4000000 in
theorem queues_walk (A : Option Addr) (n c : Nat) (z : Nat → Int) (w : World) (hz : IntsD w A n z) :
    Calls Try.prog 4 #[.slice A n c] w fun e w' => e = .returned (.bool true) ∧ Below w.heap.size w w' := by
  have HA := Lib.hid awake7
  by_cases hs : n ≤ 100
  · have HZ := Lib.hid hz
    clear hz
    go_enter Try.func4, Try.ntmps4
    go_wp2
    all_goals first | (exfalso; omega) | skip
    go_loopw [4, 5, 6] (fun t r i wr => ∃ (k : Nat) (T R K : ByteArray), k ≤ n ∧ i = .int .i64 k ∧ t = .string T ∧ r = .string R ∧ wr.cell? ⟨w.heap.size, 0, none⟩ = some (.string K) ∧ wr.frozen? ⟨w.heap.size, 0, none⟩ = false ∧ Hid (T = R ++ K) ∧ K.size ≤ 16 ∧ T.size ≤ k ∧ Below w.heap.size w wr) (fun _ _ i _ => n - (intOf i).toNat)
    case atStart => exact ⟨0, ⟨#[]⟩, ⟨#[]⟩, ⟨#[]⟩, by omega, rfl, rfl, rfl, by simp [go_sem], by simp [go_sem], rfl, by decide, by decide, by (repeat' (first | with_reducible exact Below.refl _ _ | with_reducible assumption | with_reducible apply below_drewN | with_reducible apply Below.drew | with_reducible apply Below.setCell | with_reducible apply Below.alloc | (simp; done) | omega | (simp; omega)))⟩
    case round =>
      obtain ⟨k, T, R, K, hk, rfl, rfl, rfl, hc, hf, hT, hK, hTs, hb⟩ := hrel
      have hg := World.block_lt_of_cell? wr _ hc
      have hg' : w.heap.size < wr.heap.size := hg
      have hsz : T.size = R.size + K.size := by rw [hT.out]; simp
      by_cases hlt : k < n
      · obtain ⟨b, off, rfl, hc0⟩ := (HZ.out.on hb).1 k hlt
        obtain ⟨z0, z1⟩ := HZ.out.2 k hlt
        generalize z k = y at hc0 z0 z1
        by_cases he : (bits BinOp.and IntKind.i64 y 1 == 0) = true
        · obtain ⟨B, hB⟩ : ∃ B, Hid (bits BinOp.and IntKind.i64 (y / 2) 255 % 256 = B) := ⟨_, rfl⟩
          have B0 : 0 ≤ B ∧ B ≤ 255 := by rw [← hB.out]; omega
          have HX := Lib.hid (fun W => type_any K B W B0.1 B0.2)
          have hcv : ∀ W b', W.cell? ⟨b', 0, none⟩ = some (.int .u8 B) → (convert 35 9 (.slice (some ⟨b', 0, none⟩) 1 1)).run Try.prog W = .ok (.string (bS B)) W := fun W b' hW => dv_conv1 W b' B B0.1 B0.2 hW
          have hbs := bS_size B
          by_cases hm : K.size < 16
          · have e1 : tyS K B = K ++ bS B := by unfold tyS; rw [if_neg (by omega)]
            have e2 : decide (K.size < 16) = true := by simpa using hm
            have hq : decide ((R.size : Int) + K.size - R.size < 16) = true := by simp; omega
            rw [e1, e2] at HX
            obtain ⟨SB, hSB⟩ : ∃ SB, Hid (bS B = SB) := ⟨_, rfl⟩
            obtain ⟨K2, hK2⟩ : ∃ K2, Hid (K ++ SB = K2) := ⟨_, rfl⟩
            rw [hSB.out] at hcv hbs HX
            rw [hK2.out] at HX
            unfold conV at HX
            rw [← hB.out] at HX hcv
            clear e1 e2
            go_wp2_with (go_at_call 8; (with_reducible refine (HX.out _).mono ?_); rintro e w1 ⟨rfl, hb1⟩; have c1 := stillD hc hb1; have f1 := dvF hf hb1 hg; have l1 : w.heap.size < w1.heap.size := Nat.lt_of_lt_of_le hg' hb1.size; have n1 : ¬ w1.heap.size = w.heap.size := (by omega); have m1 : ¬ w.heap.size = w1.heap.size := (by omega); have bel1 := below_step hb hb1; have y1 : (w1.alloc (.cells #[.string K2] 23)).cell? ⟨w.heap.size, 0, none⟩ = some (.string K) := Lib.cell?_alloc_some _ c1; clear hb1)
            all_goals first | (exfalso; omega) | skip
            go_roundw
            case rel => exact ⟨k + 1, T ++ SB, R, K2, by omega, by go_num, rfl, rfl, by simp [go_sem, *], by simp [go_sem, *], (by rw [← hK2.out, hT.out, ByteArray.append_assoc] : T ++ SB = R ++ K2), by rw [← hK2.out]; simp; omega, by simp; omega, by (repeat' (first | with_reducible exact Below.refl _ _ | with_reducible assumption | with_reducible apply below_drewN | with_reducible apply Below.drew | with_reducible apply Below.setCell | with_reducible apply Below.alloc | (simp; done) | omega | (simp; omega)))⟩
            case measure => simp [intOf]; omega
          · have e1 : tyS K B = K := by unfold tyS; rw [if_pos (by omega)]
            have e2 : decide (K.size < 16) = false := by simpa using hm
            have hq : decide ((R.size : Int) + K.size - R.size < 16) = false := by simp; omega
            rw [e1, e2] at HX
            unfold conV at HX
            rw [← hB.out] at HX
            clear e1 e2
            go_wp2_with (go_at_call 8; (with_reducible refine (HX.out _).mono ?_); rintro e w1 ⟨rfl, hb1⟩; have c1 := stillD hc hb1; have f1 := dvF hf hb1 hg; have l1 : w.heap.size < w1.heap.size := Nat.lt_of_lt_of_le hg' hb1.size; have n1 : ¬ w1.heap.size = w.heap.size := (by omega); have m1 : ¬ w.heap.size = w1.heap.size := (by omega); have bel1 := below_step hb hb1; have y1 : (w1.alloc (.cells #[.string K] 23)).cell? ⟨w.heap.size, 0, none⟩ = some (.string K) := Lib.cell?_alloc_some _ c1; clear hb1)
            all_goals first | (exfalso; omega) | skip
            go_roundw
            case rel => exact ⟨k + 1, T, R, K, by omega, by go_num, rfl, rfl, by simp [go_sem, *], by simp [go_sem, *], hT.out, hK, by omega, by (repeat' (first | with_reducible exact Below.refl _ _ | with_reducible assumption | with_reducible apply below_drewN | with_reducible apply Below.drew | with_reducible apply Below.setCell | with_reducible apply Below.alloc | (simp; done) | omega | (simp; omega)))⟩
            case measure => simp [intOf]; omega
        · have he' : (bits BinOp.and IntKind.i64 y 1 == 0) = false := by simpa using he
          clear he
          have HX := Lib.hid (fun W => in_any K 0 W)
          by_cases hm : 0 < K.size
          · obtain ⟨K3, hK3⟩ : ∃ K3, Hid (K.extract 1 K.size = K3) := ⟨_, rfl⟩
            obtain ⟨V, hV⟩ : ∃ V, Hid (V = (K[0].toNat : Int)) := ⟨(K[0].toNat : Int), rfl⟩
            have V0 : 0 ≤ V ∧ V ≤ 255 := by rw [hV.out]; have := K[0].toNat_lt; omega
            have e1 : inS K 0 = K3 := by unfold inS kyS; rw [if_pos rfl, if_pos hm, hK3.out]
            have e2 : inV K 0 = V := by unfold inV kyV; rw [if_pos rfl, dif_pos hm, hV.out]
            have e3 : bS V ++ K3 = K := by rw [← hK3.out, hV.out]; exact bS_eq K hm
            have hcv : ∀ W b', W.cell? ⟨b', 0, none⟩ = some (.int .u8 V) → (convert 35 9 (.slice (some ⟨b', 0, none⟩) 1 1)).run Try.prog W = .ok (.string (bS V)) W := fun W b' hW => dv_conv1 W b' V V0.1 V0.2 hW
            have hbs := bS_size V
            have hvm : V % 256 = V := by omega
            have hq : decide ((R.size : Int) < R.size + K.size) = true := by simp; omega
            rw [e1, e2] at HX
            unfold conV at HX
            have hK3s : K3.size + 1 = K.size := by rw [← e3]; simp [hbs]; omega
            have E3 := Lib.hid e3
            obtain ⟨SB, hSB⟩ : ∃ SB, Hid (bS V = SB) := ⟨_, rfl⟩
            rw [hSB.out] at hcv hbs E3
            clear e1 e2 e3
            go_wp2_with (go_at_call 10; (with_reducible refine (HX.out _).mono ?_); rintro e w1 ⟨rfl, hb1⟩; have c1 := stillD hc hb1; have f1 := dvF hf hb1 hg; have l1 : w.heap.size < w1.heap.size := Nat.lt_of_lt_of_le hg' hb1.size; have n1 : ¬ w1.heap.size = w.heap.size := (by omega); have m1 : ¬ w.heap.size = w1.heap.size := (by omega); have bel1 := below_step hb hb1; have y1 : (w1.alloc (.cells #[.string K3] 23)).cell? ⟨w.heap.size, 0, none⟩ = some (.string K) := Lib.cell?_alloc_some _ c1; clear hb1)
            all_goals first | (exfalso; omega) | skip
            go_roundw
            case rel => exact ⟨k + 1, T, R ++ SB, K3, by omega, by go_num, rfl, rfl, by simp [go_sem, *], by simp [go_sem, *], (by rw [ByteArray.append_assoc, E3.out]; exact hT.out : T = (R ++ SB) ++ K3), by omega, by omega, by (repeat' (first | with_reducible exact Below.refl _ _ | with_reducible assumption | with_reducible apply below_drewN | with_reducible apply Below.drew | with_reducible apply Below.setCell | with_reducible apply Below.alloc | (simp; done) | omega | (simp; omega)))⟩
            case measure => simp [intOf]; omega
          · have e1 : inS K 0 = K := by unfold inS kyS; rw [if_pos rfl, if_neg hm]
            have e2 : inV K 0 = 4294967295 := by unfold inV kyV; rw [if_pos rfl, dif_neg hm]
            rw [e1, e2] at HX
            unfold conV at HX
            have hK0 : K.size = 0 := by omega
            clear e1 e2
            go_wp2_with (go_at_call 10; (with_reducible refine (HX.out _).mono ?_); rintro e w1 ⟨rfl, hb1⟩; have c1 := stillD hc hb1; have f1 := dvF hf hb1 hg; have l1 : w.heap.size < w1.heap.size := Nat.lt_of_lt_of_le hg' hb1.size; have n1 : ¬ w1.heap.size = w.heap.size := (by omega); have m1 : ¬ w.heap.size = w1.heap.size := (by omega); have bel1 := below_step hb hb1; have y1 : (w1.alloc (.cells #[.string K] 23)).cell? ⟨w.heap.size, 0, none⟩ = some (.string K) := Lib.cell?_alloc_some _ c1; clear hb1)
            all_goals first | (exfalso; omega) | skip
            go_roundw
            case rel => exact ⟨k + 1, T, R, K, by omega, by go_num, rfl, rfl, by simp [go_sem, *], by simp [go_sem, *], hT.out, hK, by omega, by (repeat' (first | with_reducible exact Below.refl _ _ | with_reducible assumption | with_reducible apply below_drewN | with_reducible apply Below.drew | with_reducible apply Below.setCell | with_reducible apply Below.alloc | (simp; done) | omega | (simp; omega)))⟩
            case measure => simp [intOf]; omega
      · obtain rfl : k = n := by omega
        have HP := Lib.hid (fun W => cmay_any K W)
        have e1 : decide (K.size ≤ 16) = true := by simpa using hK
        rw [e1] at HP
        unfold conV at HP
        obtain rfl := hT.out
        clear hT e1
        go_wp2_with (first
          | (go_at_call 14; (with_reducible refine (HP.out _).mono ?_); rintro e w2 ⟨rfl, hb2⟩)
          | (go_at_call 6; refine (HA.out _).mono ?_; rintro e w3 ⟨rfl, hb3⟩))
        all_goals first | (exfalso; omega) | skip
        go_ret
        exact ⟨rfl, below_step (below_step hb hb2) hb3⟩
  · go_enter Try.func4, Try.ntmps4
    go_wp2_with (go_at_call 6; refine (HA.out _).mono ?_; rintro e w' ⟨rfl, hb1⟩)
    all_goals first | (exfalso; omega) | skip
    all_goals go_ret
    all_goals exact ⟨rfl, hb1⟩
theorem wf_u8D {a : Int} (h : (Lit.int .u8 a).wf = true) : 0 ≤ a ∧ a ≤ 255 := by simpa [Lit.wf, IntKind.min, IntKind.max, IntKind.bits, IntKind.signed] using h
theorem full_row (a0 a1 : Int) (w0 : (Lit.int .i64 a0).wf = true) (w1 : (Lit.int .u8 a1).wf = true) (w : World) :
    Calls Try.prog 5 #[.int .i64 a0, .int .u8 a1] w fun e w' => e = .returned (.bool true) ∧ Below w.heap.size w w' :=
  full_walk a0 a1 w (wf_u8D w1).1 (wf_u8D w1).2 (wf_i64 w0).1 (wf_i64 w0).2
/-- A slice of numbers that came in: nil, or a row of cells (the shell's own words). -/
def IsRowD (k : IntKind) (w : World) (a : Option Addr) (len cap : Nat) (zs : List Int) : Prop :=
  (a = none ∧ len = 0 ∧ cap = 0 ∧ zs = []) ∨
  ∃ x, a = some x ∧ len ≤ cap ∧ cap ≤ maxLen ∧ zs.length = cap ∧ (∀ i, i < zs.length → w.cell? (x.add i) = some (.int k (zs.getD i 0))) ∧ ∀ n ∈ zs, (Lit.int k n).wf = true
theorem row_intsD {w : World} {a : Option Addr} {len cap : Nat} {zs : List Int} (h : IsRowD .i64 w a len cap zs) : IntsD w a len (fun i => zs.getD i 0) := by
  rcases h with ⟨rfl, rfl, rfl, rfl⟩ | ⟨⟨b, off, spot⟩, rfl, hl, hm, hz, hc, hw⟩
  · exact ⟨fun i hi => absurd hi (Nat.not_lt_zero _), fun i hi => absurd hi (Nat.not_lt_zero _)⟩
  · refine ⟨fun i hi => ?_, fun i hi => ?_⟩
    · have c00 := hc 0 (by omega)
      have hspot : spot = none := by simpa [Addr.add] using World.cell?_spot c00
      clear c00
      have c0 := hc i (by omega)
      subst hspot
      exact ⟨b, off, rfl, by rw [← add_plain]; exact c0⟩
    · have hlt : i < zs.length := by omega
      have e : zs.getD i 0 = zs[i] := by simp [List.getD, hlt]
      show _ ≤ zs.getD i 0 ∧ zs.getD i 0 ≤ _
      rw [e]
      exact wf_i64 (hw _ (List.getElem_mem hlt))
theorem queues_row (a0 : Option Addr) (len0 cap0 : Nat) (z0 : List Int) (w : World) (w0 : IsRowD .i64 w a0 len0 cap0 z0) :
    Calls Try.prog 4 #[.slice a0 len0 cap0] w fun e w' => e = .returned (.bool true) ∧ Below w.heap.size w w' :=
  queues_walk a0 len0 cap0 _ w (row_intsD w0)
end Go.Proofs.Ytmifhijkfofbcaa
