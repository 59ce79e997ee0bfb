import Derived.Test.YtegaookkfjgepaaDoorAsmLim
import Derived.Test.YtegaookkfjgepaaDoorIsaFn4
import Derived.OwnWalk
namespace Go.Proofs.YtegaookkfjgepaaDoor
set_option linter.unusedVariables false
set_option linter.unusedSimpArgs false
open Go.ChangeShapes Go.WideShapes Go.ChangeAt Go.RowKit Go.Proofs.YtegaookkfjgepaaDoor.Num Go.Proofs.YtegaookkfjgepaaDoor.Isa Go.Proofs.YtegaookkfjgepaaDoor.Mem Go.Proofs.YtegaookkfjgepaaDoor.Asm
set_option maxRecDepth 100000 in
theorem awakeA (W : World) : Calls Tryd.prog 20 #[.string { data := #[108, 111, 111, 112, 58, 32, 97, 100, 100, 105, 32, 114, 49, 44, 32, 114, 49, 44, 32, 45, 49, 10, 98, 110, 101, 32, 114, 49, 44, 32, 114, 48, 44, 32, 108, 111, 111, 112, 10] }] W
    fun e w' => (∃ oa cap, e = .returned (.tuple #[.slice oa 2 cap, .agg #[.int .i64 0, .int .i64 0]]) ∧ w'.ownsRow W.heap.size 47 1 (.slice oa 2 cap) 2 [.int .u32 269615103, .int .u32 688979967]) ∧ Below W.heap.size W w' := by
  have h := assemble_asm (S srcA) W (by rw [S_size]; decide)
  rw [S_list, tA] at h
  refine Calls.mono (show Calls Tryd.prog 20 #[.string (S srcA)] W _ from h) ?_
  rintro e w' ⟨⟨v, rfl, hv⟩, hb⟩
  obtain ⟨oa, cap, rfl⟩ := own_shape hv
  exact ⟨⟨oa, cap, rfl, hv⟩, hb⟩
set_option maxRecDepth 100000 in
theorem awakeB (W : World) : Calls Tryd.prog 20 #[.string { data := #[106, 97, 108, 32, 114, 49, 44, 32, 110, 111, 119, 104, 101, 114, 101] }] W
    fun e w' => e = .returned (.tuple #[.slice none 0 0, .agg #[.int .i64 302, .int .i64 1]]) ∧ Below W.heap.size W w' := by
  have h := assemble_asm (S srcB) W (by rw [S_size]; decide)
  rw [S_list, tB] at h
  exact (show Calls Tryd.prog 20 #[.string (S srcB)] W _ from h).mono fun e w' h => h
set_option maxHeartbeats 4000000 in
theorem awake3 (w : World) : Calls Tryd.prog 16 #[] w fun e w' => e = .returned (.bool true) ∧ Below w.heap.size w w' := by
  have HA := Lib.hid awakeA
  have HB := Lib.hid awakeB
  go_enter Tryd.func16, Tryd.ntmps16
  go_wp2_with (first
    | (go_at_call 20; (with_reducible refine (HA.out _).mono ?_); rintro e w1 ⟨⟨oa, cap, rfl, hr⟩, hb1⟩; have HR := Lib.hid hr; have HB1 := Lib.hid hb1; clear hr hb1)
    | (go_at_call 20; (with_reducible refine (HB.out _).mono ?_); rintro e w2 ⟨rfl, hb2⟩; obtain ⟨g, hg, hc⟩ := own_at1 (own_below (HR.out.alloc _) hb2) (by decide); subst hg; have hgl := own_lt (own_below (HR.out.alloc _) hb2) rfl; have c0 : w2.cell? ⟨g, 0, none⟩ = some (.int .u32 269615103) := hc 0 (by decide); have c1 : w2.cell? ⟨g, 1, none⟩ = some (.int .u32 688979967) := hc 1 (by decide); have g0 := heap_below (al_new w1 _ _ rfl) hb2; have d0 : w2.cell? ⟨w1.heap.size, 0, none⟩ = some (.int .i64 0) := cell_blk g0 0 rfl; have d1 : w2.cell? ⟨w1.heap.size, 1, none⟩ = some (.int .i64 0) := cell_blk g0 1 rfl; have hw2 := lt_of_block g0; have HB2 := Lib.hid hb2; clear hb2 hc g0))
  go_ret
  have h2 : Below w.heap.size w w2 := below_step (HB1.out.alloc HB1.out.size _) HB2.out
  exact ⟨rfl, h2.alloc h2.size _⟩
theorem info_u8' : (Tryd.prog.info? 5).map (fun i => (i.zero, i.size, i.bytes)) = some (some (.int .u8 0), 1, 1) := by kernel_rfl
/-- So many bytes, the first of them filled. -/
def fillA (B k : Nat) : Array Value := (List.replicate k (Value.int .u8 59) ++ List.replicate (B - k) (Value.int .u8 0)).toArray
theorem fill_zero (B : Nat) : madeCells #[Value.int .u8 0] (B * 1) = fillA B 0 := by
  apply Array.toList_inj.1
  rw [toList_madeCells_one]
  simp [fillA]
theorem fill_get (B k : Nat) (h : k < B) : (fillA B k)[k]? = some (.int .u8 0) := by
  unfold fillA
  rw [List.getElem?_toArray, List.getElem?_append_right (by simp), List.length_replicate, Nat.sub_self, List.getElem?_replicate, if_pos (by omega)]
theorem fill_set (B k : Nat) (h : k < B) : (fillA B k).setIfInBounds k (.int .u8 59) = fillA B (k + 1) := by
  unfold fillA
  apply Array.toList_inj.1
  rw [Array.toList_setIfInBounds]
  obtain ⟨d, rfl⟩ : ∃ d, B = k + (d + 1) := ⟨B - k - 1, by omega⟩
  rw [show k + (d + 1) - k = d + 1 by omega, show k + (d + 1) - (k + 1) = d by omega, List.replicate_succ, List.replicate_succ']
  simp [List.set_append]
theorem fill_own (w : World) (g B base : Nat) (hg : w.heap[g]? = some (.cells (fillA B B) 5 (0, 0))) (hb : base ≤ g) (hB : B ≤ 10000) : w.ownsRow base 5 1 (.slice (some ⟨g, 0, none⟩) B B) B (u8s (List.replicate B 59)) := by
  refine ⟨by simp [u8s], Or.inr ⟨g, B, fillA B B, rfl, hb, hg, Nat.le_refl _, by unfold maxLen; omega, by simp [fillA], ?_⟩⟩
  simp [fillA, u8s]
theorem srcW_start (m : Nat) (h0 : 1000 ≤ m) (h1 : m ≤ 1024) : ({ data := #[46, 115, 112, 97, 99, 101, 32] } : ByteArray) ++ itoaS (m : Int) ++ { data := #[10] } = S (srcW m 0) := by
  apply ba_ext
  rw [itoaS_pos _ (by omega), Int.toNat_natCast]
  unfold decS
  rw [dd4 m h0 (by omega), S_list]
  simp [ByteArray.data_append, srcW, spaceL, spH, spT, nops]
theorem srcW_next (m k : Nat) : S (srcW m k) ++ ({ data := #[110, 111, 112, 10] } : ByteArray) = S (srcW m (k + 1)) := by
  apply ba_ext
  rw [S_list]
  simp [ByteArray.data_append, srcW, nops_snoc, S]
theorem srcW_size (m k : Nat) : (S (srcW m k)).size = 12 + 4 * k := by
  rw [S_size]; unfold srcW; rw [List.length_append, spaceL_len, List.length_cons, nops_len]; omega
abbrev OneOf (src : ByteArray) (L : Nat) (e l : Int) : Prop := ∀ W, Calls Tryd.prog 20 #[.string src] W fun x w' => (∃ oa cap, x = .returned (.tuple #[.slice oa L cap, .agg #[.int .i64 e, .int .i64 l]])) ∧ Below W.heap.size W w'
theorem one_in {src : Bs} {ws : List Int} {syms : List (Bs × Nat)} (h : transL src = .inr (ws, syms)) (hs : src.length ≤ 100000) : OneOf (S src) ws.length 0 0 := fun W => by
  have h1 := assemble_asm (S src) W (by rw [S_size]; omega)
  rw [S_list, h] at h1
  refine h1.mono ?_
  rintro x w' ⟨⟨v, rfl, hv⟩, hb⟩
  obtain ⟨oa, cap, rfl⟩ := own_shape hv
  exact ⟨⟨oa, cap, rfl⟩, hb⟩
theorem one_no {src : Bs} {e l : Int} (h : transL src = .inl (e, l)) (hs : src.length ≤ 100000) : OneOf (S src) 0 e l := fun W => by
  have h1 := assemble_asm (S src) W (by rw [S_size]; omega)
  rw [S_list, h] at h1
  refine h1.mono ?_
  rintro x w' ⟨rfl, hb⟩
  exact ⟨⟨none, 0, rfl⟩, hb⟩
set_option maxHeartbeats 8000000 in
set_option maxRecDepth 100000 in
theorem limits_in (n B : Nat) (w : World) (n0 : 1000 ≤ n) (n1 : n ≤ 1040) (b0 : 8150 ≤ B) (b1 : B ≤ 8230) :
    Calls Tryd.prog 8 #[.int .i64 n, .int .i64 B] w fun e w' => e = .returned (.bool true) ∧ Below w.heap.size w w' := by
  obtain ⟨i0, hi, hz0, hz1, hz2⟩ := info_parts info_u8'
  have hmk : ∀ W : World, (Instr.makeSlice 53 (.int .i64 (B : Int)) (.int .i64 (B : Int))).run Tryd.prog W = .ok (.slice (some ⟨W.heap.size, 0, none⟩) B B) (W.alloc (.cells (fillA B 0) 5)) := fun W => by
    rw [run_make (P := Tryd.prog) W 53 5 i0 _ Tryd.underlying53 hi hz0 .i64 .i64 B B (by omega) (by omega) (by rw [hz2]; omega) (by omega), hz1, ← fill_zero]
    rfl
  obtain ⟨m, K, hm0, hm1, hmin, hK, hKn⟩ : ∃ m K : Nat, 1000 ≤ m ∧ m ≤ 1024 ∧ min n 1024 = m ∧ K ≤ 16 ∧ (n = m + K ∧ (1 ≤ K → m = 1024) ∧ max n 1024 = 1024 + K) := ⟨min n 1024, n - min n 1024, by omega, by omega, rfl, by omega, by omega⟩
  have H1 : Hid ((n ≤ 1024 ∧ OneOf (S (srcW m K)) n 0 0) ∨ (1024 < n ∧ OneOf (S (srcW m K)) 0 305 2)) := Lib.hid (by
    by_cases h : n ≤ 1024
    · obtain rfl : K = 0 := by omega
      obtain rfl : n = m := by omega
      have := one_in (trans_words n hm0 hm1) (by rw [← S_size, srcW_size]; omega)
      rw [List.length_replicate] at this
      exact Or.inl ⟨h, this⟩
    · obtain rfl : m = 1024 := by omega
      exact Or.inr ⟨by omega, one_no (trans_large K (by omega) hK) (by rw [← S_size, srcW_size]; omega)⟩)
  have H2 : Hid ((B ≤ 8192 ∧ OneOf (S (List.replicate B 59)) 0 0 0) ∨ (8192 < B ∧ OneOf (S (List.replicate B 59)) 0 300 0)) := Lib.hid (by
    by_cases h : B ≤ 8192
    · exact Or.inl ⟨h, one_in (trans_semi B (by omega) h) (by simp; omega)⟩
    · exact Or.inr ⟨by omega, one_no (trans_semi_long B (by omega)) (by simp; omega)⟩)
  have hmI : min (n : Int) 1024 = m := by omega
  have HST := srcW_start m hm0 hm1
  have hts := itoaS_size (m : Int) (by omega) (by omega)
  have HD := Lib.hid (fun W => decimal_ref (m : Int) W (by omega) (by omega))
  have HAW := Lib.hid awake3
  have HKN := Lib.hid hKn
  clear hKn hmin
  go_enter Tryd.func8, Tryd.ntmps8
  go_wp2_with (go_at_call 23; (with_reducible refine (HD.out _).mono ?_); rintro e w1 ⟨rfl, hb1⟩)
  go_loopw [5, 6] (fun s i wr => ∃ k : Nat, k ≤ K ∧ s = .string (S (srcW m k)) ∧ i = .int .i64 (1024 + (k : Int)) ∧ Below w.heap.size w wr) (fun _ i _ => (2000 - intOf i).toNat)
  case atStart => exact ⟨0, by omega, rfl, rfl, hb1⟩
  case round =>
    obtain ⟨k, hk, rfl, rfl, hbw⟩ := hrel
    have hws := hbw.size
    have hsz := srcW_size m k
    have hnx := srcW_next m k
    by_cases hlt : 1024 + k < n
    · have hltI : 1024 + (k : Int) < n := by omega
      go_wp2
      go_roundw
      case rel => exact ⟨k + 1, by have := HKN.out; omega, rfl, by go_num, hbw⟩
      case measure => simp [intOf]; omega
    · have hltI : (n : Int) ≤ 1024 + (k : Int) := by omega
      obtain rfl : k = K := by have := HKN.out; omega
      have HBW := Lib.hid hbw
      clear hnx hbw HST
      rename World => wX
      go_wp2
      go_loopw [8] (fun i wr => ∃ j : Nat, j ≤ B ∧ i = .int .i64 j ∧ wr.heap[wX.heap.size]? = some (.cells (fillA B j) 5 (0, 0)) ∧ Below w.heap.size w wr) (fun i _ => B - (intOf i).toNat)
      case atStart => exact ⟨0, by omega, rfl, al_new _ _ _ rfl, HBW.out.alloc hws _⟩
      case round =>
        obtain ⟨j, hj, rfl, hfill, hb2⟩ := hrel
        by_cases hjl : j < B
        · have c0 := cell_blk hfill j (fill_get B j hjl)
          have f0 := free_blk hfill j
          have s0 := set_blk hfill j (.int .u8 59)
          rw [fill_set B j hjl] at s0
          have S0 := Lib.hid s0
          have HB2 := Lib.hid hb2
          clear s0 hfill hb2
          go_wp2
          go_roundw
          case rel => exact ⟨j + 1, by omega, by go_num, S0.out, HB2.out.setCell hws _⟩
          case measure => simp [intOf]; omega
        · obtain rfl : j = B := by omega
          have hown := fill_own wr wX.heap.size j w.heap.size hfill hws (by omega)
          have HOWN := Lib.hid hown
          have HB2 := Lib.hid hb2
          have hl0 : List.replicate j (59 : UInt8) ≠ [] := by intro h; have := congrArg List.length h; simp at this; omega
          clear hown hfill hb2
          rcases H1.out with ⟨t1, A1⟩ | ⟨t1, A1⟩ <;> rcases H2.out with ⟨t2, A2⟩ | ⟨t2, A2⟩
          all_goals have HA1 := Lib.hid A1
          all_goals have HA2 := Lib.hid A2
          all_goals clear A1 A2 H1 H2 hmk
          all_goals go_wp2_with (first
            | (go_at_call 20; (with_reducible refine (HA1.out _).mono ?_); rintro e w3 ⟨⟨oa, cap, rfl⟩, hb3⟩; have HB3 := Lib.hid hb3; have hcv : ∀ o, (convert 53 9 (.slice (some ⟨wX.heap.size, 0, none⟩) j j)).run Tryd.prog (w3.alloc o) = .ok (.string (S (List.replicate j 59))) (w3.alloc o) := fun o => own_convert (P := Tryd.prog) Tryd.underlying53 Tryd.underlying5 Tryd.underlying9 (List.replicate j 59) j (own_below HOWN.out (hb3.alloc hb3.size _)) (by simp) hl0; clear hb3)
            | (go_at_call 20; (with_reducible refine (HA2.out _).mono ?_); rintro e w4 ⟨⟨oa2, cap2, rfl⟩, hb4⟩; have HB4 := Lib.hid hb4; have g0 := heap_below (al_new w3 _ _ rfl) hb4; have d0 := cell_blk g0 0 rfl; have d1 := cell_blk g0 1 rfl; have hw4 := lt_of_block g0; clear hb4 g0)
            | (go_at_call 16; (with_reducible refine (HAW.out _).mono ?_); rintro e w5 ⟨rfl, hb5⟩; have HB5 := Lib.hid hb5; clear hb5))
          all_goals go_ret
          all_goals exact ⟨rfl, by
            have h3 : Below w.heap.size w w3 := below_step HB2.out HB3.out
            have h4 : Below w.heap.size w w4 := below_step (h3.alloc h3.size _) HB4.out
            exact below_step (h4.alloc h4.size _) HB5.out⟩
set_option maxHeartbeats 4000000 in
theorem limits_out (a b : Int) (w : World) (h : a < 1000 ∨ (1000 ≤ a ∧ 1040 < a) ∨ (1000 ≤ a ∧ a ≤ 1040 ∧ b < 8150) ∨ (1000 ≤ a ∧ a ≤ 1040 ∧ 8150 ≤ b ∧ 8230 < b)) :
    Calls Tryd.prog 8 #[.int .i64 a, .int .i64 b] w fun e w' => e = .returned (.bool true) ∧ Below w.heap.size w w' := by
  have HAW := Lib.hid awake3
  rcases h with h1 | ⟨h1, h2⟩ | ⟨h1, h2, h3⟩ | ⟨h1, h2, h3, h4⟩
  all_goals go_enter Tryd.func8, Tryd.ntmps8
  all_goals go_wp2_with (go_at_call 16; (with_reducible refine (HAW.out _).mono ?_); rintro e w1 ⟨rfl, hb1⟩)
  all_goals go_ret
  all_goals exact ⟨rfl, hb1⟩
theorem limits_walk (a b : Int) (w0 : (Lit.int .i64 a).wf = true) (w1 : (Lit.int .i64 b).wf = true) (w : World) :
    Calls Tryd.prog 8 #[.int .i64 a, .int .i64 b] w fun e w' => e = .returned (.bool true) ∧ Below w.heap.size w w' := by
  by_cases h : 1000 ≤ a ∧ a ≤ 1040 ∧ 8150 ≤ b ∧ b ≤ 8230
  · obtain ⟨h1, h2, h3, h4⟩ := h
    obtain ⟨n, rfl⟩ : ∃ n : Nat, a = n := ⟨a.toNat, by omega⟩
    obtain ⟨B, rfl⟩ : ∃ B : Nat, b = B := ⟨b.toNat, by omega⟩
    exact limits_in n B w (by omega) (by omega) (by omega) (by omega)
  · exact limits_out a b w (by omega)
end Go.Proofs.YtegaookkfjgepaaDoor
