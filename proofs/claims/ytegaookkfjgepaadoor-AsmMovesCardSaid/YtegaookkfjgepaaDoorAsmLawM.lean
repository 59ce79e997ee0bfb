import Derived.Test.YtegaookkfjgepaaDoorAsmMov
import Derived.Test.YtegaookkfjgepaaDoorAsmLawL
import Derived.Test.YtegaookkfjgepaaDoorIsaFn2
namespace Go.Proofs.YtegaookkfjgepaaDoor
set_option linter.unusedVariables false
set_option linter.unusedSimpArgs false
open Go.ChangeShapes Go.WideShapes Go.ChangeAt Go.RowKit Go.Proofs.YtegaookkfjgepaaDoor.Num Go.Proofs.YtegaookkfjgepaaDoor.Isa Go.Proofs.YtegaookkfjgepaaDoor.Mem Go.Proofs.YtegaookkfjgepaaDoor.Asm
theorem one_at {src : Bs} {pre post : List Int} {x : Int} {syms : List (Bs × Nat)} {k : Nat} (h : transL src = .inr (pre ++ x :: post, syms)) (hk : pre.length = k) (hs : src.length ≤ 100000) (W : World) :
    Calls Tryd.prog 20 #[.string (S src)] W fun e w' => (∃ g L cap, k < L ∧ e = .returned (.tuple #[.slice (some ⟨g, 0, none⟩) L cap, .agg #[.int .i64 0, .int .i64 0]]) ∧ w'.cell? ⟨g, k, none⟩ = some (.int .u32 x)) ∧ Below W.heap.size W w' := by
  have h1 := assemble_asm (S src) W (by rw [S_size]; omega)
  rw [S_list, h] at h1
  refine h1.mono ?_
  rintro e w' ⟨⟨v, rfl, hv⟩, hb⟩
  obtain ⟨oa, cap, rfl⟩ := own_shape hv
  have hlen : k < (pre ++ x :: post).length := by simp; omega
  obtain ⟨g, rfl, hc⟩ := own_at1 hv (by omega)
  refine ⟨⟨g, _, cap, hlen, rfl, ?_⟩, hb⟩
  rw [hc k hlen, List.getElem?_map, List.getElem?_append_right (by omega), hk, Nat.sub_self]
  rfl
theorem sym_at {src : Bs} {ws : List Int} {lab : Bs} {t : Nat} (h : transL src = .inr (ws, [(lab, t)])) (hs : src.length ≤ 100000) (W : World) :
    Calls Tryd.prog 24 #[.string (S src)] W fun e w' => (∃ g cap, e = .returned (.tuple #[.slice (some ⟨g, 0, none⟩) 1 cap, .agg #[.int .i64 0, .int .i64 0]]) ∧ w'.cell? ⟨g, 1, none⟩ = some (.int .u32 t)) ∧ Below W.heap.size W w' := by
  have h1 := symbols_asm (S src) W (by rw [S_size]; omega)
  rw [S_list, h] at h1
  refine h1.mono ?_
  rintro e w' ⟨⟨v, rfl, hv⟩, hb⟩
  have hv' := hv
  rcases hv.2 with ⟨_, h2⟩ | ⟨g, cap, cur, h1, _⟩
  · cases h2
  · subst h1
    exact ⟨⟨g, cap, rfl, hv'.cellAt 1 (by show 1 < 1 * 2; decide)⟩, hb⟩
theorem str_first (s n : Nat) : ({ data := #[46, 115, 112, 97, 99, 101, 32] } : ByteArray) ++ itoaS (s : Int) ++ { data := #[10, 120, 58, 32, 46, 115, 112, 97, 99, 101, 32] } ++ itoaS (n : Int) ++ { data := #[10, 106, 97, 108, 32, 114, 49, 44, 32, 120, 10] } = S (srcBack s n) := by
  apply ba_ext
  rw [itoaS_pos _ (by omega), itoaS_pos _ (by omega), Int.toNat_natCast, Int.toNat_natCast]
  unfold decS
  rw [S_list]
  simp [ByteArray.data_append, srcBack, spL, xsL, spH, jalL]
theorem str_second (s n : Nat) : ({ data := #[46, 115, 112, 97, 99, 101, 32] } : ByteArray) ++ itoaS (s : Int) ++ { data := #[10, 106, 97, 108, 32, 114, 49, 44, 32, 120, 10, 46, 115, 112, 97, 99, 101, 32] } ++ itoaS (n : Int) ++ { data := #[10, 120, 58, 32, 110, 111, 112, 10] } = S (srcFwd s n) := by
  apply ba_ext
  rw [itoaS_pos _ (by omega), itoaS_pos _ (by omega), Int.toNat_natCast, Int.toNat_natCast]
  unfold decS
  rw [S_list]
  simp [ByteArray.data_append, srcFwd, spL, spH, jalL, nopL]
theorem srcs_len (s n : Nat) (hs : s ≤ 200) (hn : n ≤ 50) : (srcBack s n).length ≤ 100000 ∧ (srcFwd s n).length ≤ 100000 := by
  have h1 := (mv_one s hs).2.2.2.2.2
  have h2 := (mv_one n (by omega)).2.2.2.2.2
  constructor
  · unfold srcBack xsL; simp only [List.length_append, List.length_cons, spL_len]; simp [jalL]; omega
  · unfold srcFwd; simp only [List.length_append, List.length_cons, spL_len]; simp [jalL, nopL]; omega
theorem enc_jal (m X : Int) (W : World) (hX : X = word 48 1 0 0 m) (h0 : -51 ≤ m) (h1 : m ≤ 51) : Calls Tryd.prog 25 #[.agg #[.int .i64 48, .int .i64 1, .int .i64 0, .int .i64 0, .int .i32 m]] W fun e w' => (∃ b, e = .returned (.tuple #[.int .u32 X, .bool b])) ∧ Below W.heap.size W w' := by
  have he : eW 48 1 0 0 m = X := by unfold eW; rw [if_pos (ok_jal _ h0 h1), hX]
  refine (encode_ref 48 1 0 0 m W (by omega) (by omega)).mono ?_
  rintro e w' ⟨rfl, hb⟩
  rw [he]
  exact ⟨⟨_, rfl⟩, hb⟩
set_option maxHeartbeats 8000000 in
set_option maxRecDepth 100000 in
theorem moves_back (n s : Nat) (w : World) (hn : n ≤ 50) (hs : s ≤ 200) :
    Calls Tryd.prog 7 #[.int .i64 n, .int .i64 s, .bool true] w fun e w' => e = .returned (.bool true) ∧ Below w.heap.size w w' := by
  obtain ⟨pre, post, hT, hpre⟩ := mv_back s n hs hn
  obtain ⟨X, hX⟩ : ∃ X, X = word 48 1 0 0 (-(n : Int)) := ⟨_, rfl⟩
  rw [← hX] at hT
  have HE := Lib.hid (fun W => enc_jal (-(n : Int)) X W hX (by omega) (by omega))
  clear hX
  have HA := Lib.hid (fun W => one_at hT hpre (srcs_len s n hs hn).1 W)
  have HY := Lib.hid (fun W => sym_at hT (srcs_len s n hs hn).1 W)
  clear hT hpre
  have HS := str_first s n
  have HS2 := str_second s n
  have z1 := itoaS_size (s : Int) (by omega) (by omega)
  have z2 := itoaS_size (n : Int) (by omega) (by omega)
  have HD := Lib.hid (fun (m : Nat) (hm : m ≤ 1000) W => decimal_ref (m : Int) W (by omega) (by omega))
  have HAW := Lib.hid awake3
  have hw : wrap32 (-(n : Int)) = -(n : Int) := by unfold wrap32; omega
  have bb : Below w.heap.size w w := Below.refl _ _
  go_enter Tryd.func7, Tryd.ntmps7
  go_wp2_with (first
    | (go_at_call 23; (with_reducible refine (HD.out _ (by omega) _).mono ?_); rintro e w1 ⟨rfl, hb1⟩; replace bb := below_step bb hb1)
    | (go_at_call 20; (with_reducible refine (HA.out _).mono ?_); rintro e w3 ⟨⟨g, L, cap, hL, rfl, c0⟩, hb3⟩; replace bb := below_step bb hb3; have hLI : (s : Int) + (n : Int) < (L : Int) := by omega)
    | (go_at_call 24; (with_reducible refine (HY.out _).mono ?_); rintro e w4 ⟨⟨g2, cap2, rfl, e0⟩, hb4⟩; replace bb := below_step (bb.alloc bb.size _) hb4; have g0 := heap_below (al_new w3 _ _ rfl) hb4; have d0 := cell_blk g0 0 rfl; have d1 := cell_blk g0 1 rfl; have hw4 := lt_of_block g0; have c1 := still (still c0 ((Below.refl _ _).alloc (Nat.le_refl _) _)) hb4)
    | (go_at_call 25; (with_reducible refine (HE.out _).mono ?_); rintro e w5 ⟨⟨b5, rfl⟩, hb5⟩; replace bb := below_step (bb.alloc bb.size _) hb5; have c2 := still (still c1 ((Below.refl _ _).alloc (Nat.le_refl _) _)) hb5; have e2 := still (still e0 ((Below.refl _ _).alloc (Nat.le_refl _) _)) hb5)
    | (go_at_call 16; (with_reducible refine (HAW.out _).mono ?_); rintro e w6 ⟨rfl, hb6⟩; replace bb := below_step bb hb6))
  go_ret
  exact ⟨rfl, bb⟩
set_option maxHeartbeats 8000000 in
set_option maxRecDepth 100000 in
theorem moves_fwd (n s : Nat) (w : World) (hn : n ≤ 50) (hs : s ≤ 200) :
    Calls Tryd.prog 7 #[.int .i64 n, .int .i64 s, .bool false] w fun e w' => e = .returned (.bool true) ∧ Below w.heap.size w w' := by
  obtain ⟨pre, post, hT, hpre⟩ := mv_fwd s n hs hn
  obtain ⟨X, hX⟩ : ∃ X, X = word 48 1 0 0 ((n : Int) + 1) := ⟨_, rfl⟩
  rw [← hX] at hT
  have HE := Lib.hid (fun W => enc_jal ((n : Int) + 1) X W hX (by omega) (by omega))
  clear hX
  have HA := Lib.hid (fun W => one_at hT hpre (srcs_len s n hs hn).2 W)
  have HY := Lib.hid (fun W => sym_at hT (srcs_len s n hs hn).2 W)
  clear hT hpre
  have HS := str_first s n
  have HS2 := str_second s n
  have z1 := itoaS_size (s : Int) (by omega) (by omega)
  have z2 := itoaS_size (n : Int) (by omega) (by omega)
  have HD := Lib.hid (fun (m : Nat) (hm : m ≤ 1000) W => decimal_ref (m : Int) W (by omega) (by omega))
  have HAW := Lib.hid awake3
  have hw : wrap32 ((n : Int) + 1) = (n : Int) + 1 := by unfold wrap32; omega
  have bb : Below w.heap.size w w := Below.refl _ _
  go_enter Tryd.func7, Tryd.ntmps7
  go_wp2_with (first
    | (go_at_call 23; (with_reducible refine (HD.out _ (by omega) _).mono ?_); rintro e w1 ⟨rfl, hb1⟩; replace bb := below_step bb hb1)
    | (go_at_call 20; (with_reducible refine (HA.out _).mono ?_); rintro e w3 ⟨⟨g, L, cap, hL, rfl, c0⟩, hb3⟩; replace bb := below_step bb hb3; have hLI : (s : Int) < (L : Int) := by omega)
    | (go_at_call 24; (with_reducible refine (HY.out _).mono ?_); rintro e w4 ⟨⟨g2, cap2, rfl, e0⟩, hb4⟩; replace bb := below_step (bb.alloc bb.size _) hb4; have g0 := heap_below (al_new w3 _ _ rfl) hb4; have d0 := cell_blk g0 0 rfl; have d1 := cell_blk g0 1 rfl; have hw4 := lt_of_block g0; have c1 := still (still c0 ((Below.refl _ _).alloc (Nat.le_refl _) _)) hb4)
    | (go_at_call 25; (with_reducible refine (HE.out _).mono ?_); rintro e w5 ⟨⟨b5, rfl⟩, hb5⟩; replace bb := below_step (bb.alloc bb.size _) hb5; have c2 := still (still c1 ((Below.refl _ _).alloc (Nat.le_refl _) _)) hb5; have e2 := still (still e0 ((Below.refl _ _).alloc (Nat.le_refl _) _)) hb5)
    | (go_at_call 16; (with_reducible refine (HAW.out _).mono ?_); rintro e w6 ⟨rfl, hb6⟩; replace bb := below_step bb hb6))
  go_ret
  exact ⟨rfl, bb⟩
set_option maxHeartbeats 4000000 in
theorem moves_out (a b : Int) (k : Bool) (w : World) (h : a < 0 ∨ (0 ≤ a ∧ 50 < a) ∨ (0 ≤ a ∧ a ≤ 50 ∧ b < 0) ∨ (0 ≤ a ∧ a ≤ 50 ∧ 0 ≤ b ∧ 200 < b)) :
    Calls Tryd.prog 7 #[.int .i64 a, .int .i64 b, .bool k] w fun e w' => e = .returned (.bool true) ∧ Below w.heap.size w w' := by
  have HAW := Lib.hid awake3
  rcases h with h1 | ⟨h1, h2⟩ | ⟨h1, h2, h3⟩ | ⟨h1, h2, h3, h4⟩
  all_goals go_enter Tryd.func7, Tryd.ntmps7
  all_goals go_wp2_with (go_at_call 16; (with_reducible refine (HAW.out _).mono ?_); rintro e w1 ⟨rfl, hb1⟩)
  all_goals go_ret
  all_goals exact ⟨rfl, hb1⟩
theorem moves_walk (a b : Int) (k : Bool) (w0 : (Lit.int .i64 a).wf = true) (w1 : (Lit.int .i64 b).wf = true) (w : World) :
    Calls Tryd.prog 7 #[.int .i64 a, .int .i64 b, .bool k] w fun e w' => e = .returned (.bool true) ∧ Below w.heap.size w w' := by
  by_cases h : 0 ≤ a ∧ a ≤ 50 ∧ 0 ≤ b ∧ b ≤ 200
  · obtain ⟨h1, h2, h3, h4⟩ := h
    obtain ⟨n, rfl⟩ : ∃ n : Nat, a = n := ⟨a.toNat, by omega⟩
    obtain ⟨s, rfl⟩ : ∃ s : Nat, b = s := ⟨b.toNat, by omega⟩
    cases k
    · exact moves_fwd n s w (by omega) (by omega)
    · exact moves_back n s w (by omega) (by omega)
  · exact moves_out a b k w (by omega)
end Go.Proofs.YtegaookkfjgepaaDoor
