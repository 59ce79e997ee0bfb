import Derived.Test.YtbbmakpfconnnaaDoorAsmLawS
namespace Go.Proofs.YtbbmakpfconnnaaDoor
set_option linter.unusedVariables false
set_option linter.unusedSimpArgs false
open Go.ChangeShapes Go.WideShapes Go.ChangeAt Go.RowKit Go.Proofs.YtbbmakpfconnnaaDoor.Num Go.Proofs.YtbbmakpfconnnaaDoor.Isa Go.Proofs.YtbbmakpfconnnaaDoor.Mem Go.Proofs.YtbbmakpfconnnaaDoor.Asm
theorem sizeW (w : World) : (sizeOf (Tryd.prog.elem 28)).run Tryd.prog w = .ok 1 w := by kernel_rfl
theorem elemW : Tryd.prog.underlying 28 = some (.slice (Tryd.prog.elem 28)) := by kernel_rfl
theorem head_w (oa : Option Addr) (N cap k : Nat) (hk : k ≤ cap) (W : World) : (Instr.slice 28 (.slice oa N cap) none (some (.int .i64 (k : Int))) none).run Tryd.prog W = .ok (.slice oa k cap) W := by
  rw [run_slice_h W 28 oa N cap elemW .i64 (k : Int) (by omega) (by omega), sizeW]
  cases oa <;> simp [Result.andThen, sliced, Addr.add]
theorem tail_w (oa : Option Addr) (N cap k : Nat) (hk : k ≤ N) (hc : N ≤ cap) : ∃ oa', (∀ W : World, (Instr.slice 28 (.slice oa N cap) (some (.int .i64 (k : Int))) none none).run Tryd.prog W = .ok (.slice oa' (N - k) (cap - k)) W) ∧ ∀ (w : World) (l : List Int), Row .u32 w oa l → l.length = N → Row .u32 w oa' (l.drop k) := by
  by_cases h : k < cap
  · refine ⟨oa.map fun x => x.add k, fun W => ?_, fun w l hr hl i hi => ?_⟩
    · rw [run_slice_l W 28 oa N cap elemW .i64 (k : Int) (by omega) (by omega), sizeW]
      cases oa with
      | none => simp [Result.andThen, sliced]
      | some x =>
        simp only [Result.andThen, sliced, Int.toNat_natCast, Nat.mul_one, Option.map_some]
        congr 2
        rw [if_neg (by omega)]
    · rw [List.length_drop] at hi
      obtain ⟨b, off, rfl, hcell⟩ := hr (k + i) (by omega)
      refine ⟨b, off + k, by rw [Option.map_some, Go.WideShapes.add_plain], ?_⟩
      rw [Nat.add_assoc, hcell]
      simp [List.getD]
  · refine ⟨oa, fun W => ?_, fun w l hr hl i hi => ?_⟩
    · rw [run_slice_l W 28 oa N cap elemW .i64 (k : Int) (by omega) (by omega), sizeW]
      cases oa with
      | none => simp [Result.andThen, sliced]
      | some x =>
        simp only [Result.andThen, sliced, Int.toNat_natCast, Nat.mul_one]
        congr 2
        rw [if_pos (by omega)]
    · rw [List.length_drop] at hi; omega
theorem Row.head {w : World} {oa : Option Addr} {l r : List Int} (h : Row .u32 w oa (l ++ r)) : Row .u32 w oa l := fun i hi => by
  obtain ⟨b, off, h1, h2⟩ := h i (by rw [List.length_append]; omega)
  refine ⟨b, off, h1, ?_⟩
  rw [h2]
  simp [List.getD, List.getElem?_append_left hi]
theorem own_room {w : World} {base : Nat} {e : TypeId} {v : Value} {n : Nat} {xs : List Value} (h : w.ownsRow base e 1 v n xs) : ∃ oa cap, v = .slice oa n cap ∧ n ≤ cap ∧ cap ≤ 9223372036854775807 := by
  rcases h.2 with ⟨rfl, rfl⟩ | ⟨g, cap, cur, rfl, _, _, h1, h2, _⟩
  · exact ⟨none, 0, rfl, Nat.le_refl _, by omega⟩
  · exact ⟨_, cap, rfl, h1, by unfold maxLen at h2; omega⟩
theorem joins_long (a b : Option Addr) (n cap m cap2 : Nat) (w : World) (h : 30 < n ∨ 60 < m) :
    Calls Tryd.prog 5 #[.slice a n cap, .slice b m cap2] w fun e w' => e = .returned (.bool true) ∧ Below w.heap.size w w' := by
  have HAW := Lib.hid awake3
  by_cases h1 : 30 < n
  · have hI : (30 : Int) < n := by omega
    clear h
    go_enter Tryd.func5, Tryd.ntmps5
    go_wp2_with (go_at_call 7; (with_reducible refine (HAW.out _).mono ?_); rintro e w1 ⟨rfl, hb1⟩)
    go_ret
    exact ⟨rfl, hb1⟩
  · have hI : ¬ (30 : Int) < n := by omega
    have hJ : (60 : Int) < m := by omega
    clear h
    go_enter Tryd.func5, Tryd.ntmps5
    go_wp2_with (go_at_call 7; (with_reducible refine (HAW.out _).mono ?_); rintro e w1 ⟨rfl, hb1⟩)
    go_ret
    exact ⟨rfl, hb1⟩
set_option maxHeartbeats 4000000 in
set_option maxRecDepth 100000 in
theorem joins_bad (a b : Option Addr) (n cap m cap2 : Nat) (T : Bs) (w : World) (h30 : n ≤ 30) (h60 : m ≤ 60) (hT : T.length ≤ 100000) (hs : Calls Tryd.prog 9 #[.slice a n cap] w fun e w' => e = .returned (.string (S T)) ∧ Below w.heap.size w w') (c l : Int) (ht : transL T = .inl (c, l)) :
    Calls Tryd.prog 5 #[.slice a n cap, .slice b m cap2] w fun e w' => e = .returned (.bool true) ∧ Below w.heap.size w w' := by
  have hc := trans_err ht
  have hcb : (c != 0) = true := by rw [bne_iff_ne]; exact hc
  have ha := fun W => assemble_asm (S T) W (by rw [S_size]; omega)
  rw [S_list, ht] at ha
  have HA := Lib.hid ha
  have HS := Lib.hid hs
  have HAW := Lib.hid awake3
  have bb : Below w.heap.size w w := Below.refl _ _
  have hI : ¬ (30 : Int) < n := by omega
  have hJ : ¬ (60 : Int) < m := by omega
  clear ha hs ht
  go_enter Tryd.func5, Tryd.ntmps5
  go_wp2_with (first
    | (go_at_call 9; (with_reducible refine (HS.out).mono ?_); rintro e w1 ⟨rfl, hb1⟩; replace bb := below_step bb hb1)
    | (go_at_call 11; (with_reducible refine (HA.out _).mono ?_); rintro e w2 ⟨rfl, hb2⟩; replace bb := below_step bb hb2)
    | (go_at_call 7; (with_reducible refine (HAW.out _).mono ?_); rintro e w4 ⟨rfl, hb4⟩; replace bb := below_step (bb.alloc bb.size _) hb4))
  go_ret
  exact ⟨rfl, bb⟩
set_option maxHeartbeats 8000000 in
set_option maxRecDepth 100000 in
theorem joins_good (a b : Option Addr) (n cap m cap2 : Nat) (T : Bs) (ws : List Int) (w : World) (h30 : n ≤ 30) (h60 : m ≤ 60) (hT : T.length ≤ 100000) (hs : Calls Tryd.prog 9 #[.slice a n cap] w fun e w' => e = .returned (.string (S T)) ∧ Below w.heap.size w w') (hm : ws.length = m) (hR : Row .u32 w b ws) (hu : U32s ws) (hTb : Tab2 w)
    (ws0 : List Int) (syms : List (Bs × Nat)) (ht : transL T = .inr (ws0, syms)) (hj : transL (T ++ disL ws) = .inr (ws0 ++ ws, syms)) :
    Calls Tryd.prog 5 #[.slice a n cap, .slice b m cap2] w fun e w' => e = .returned (.bool true) ∧ Below w.heap.size w w' := by
  have hcnt := (trans_sym ht).2
  have hdl := dis_len ws hu
  have hD := fun W (h1 : Row .u32 W b ws) (h2 : Tab2 W) => dis_asm b m cap2 ws W hm (by omega) h1 hu h2
  obtain ⟨D, hDe⟩ : ∃ D, disL ws = D := ⟨_, rfl⟩
  rw [hDe] at hdl hD hj
  have ha := fun W => assemble_asm (S T) W (by rw [S_size]; omega)
  have ha2 := fun W => assemble_asm (S (T ++ D)) W (by rw [S_size, List.length_append]; omega)
  rw [S_list, ht] at ha
  rw [S_list, hj] at ha2
  have hsz : (S D).size ≤ 4900 := by rw [S_size]; omega
  have hsz2 : (S T).size ≤ 100000 := by rw [S_size]; omega
  have happ := S_app T D
  obtain ⟨n0, hn0⟩ : ∃ n0, ws0.length = n0 := ⟨_, rfl⟩
  have hlen : (ws0 ++ ws).length = n0 + m := by rw [List.length_append, hn0, hm]
  have HA := Lib.hid (show ∀ W, Calls Tryd.prog 11 #[.string (S T)] W fun e w' => (∃ v, e = .returned (.tuple #[v, .agg #[.int .i64 0, .int .i64 0]]) ∧ w'.ownsRow W.heap.size 39 1 v ws0.length (ws0.map u32V)) ∧ Below W.heap.size W w' from ha)
  have HA2 := Lib.hid (show ∀ W, Calls Tryd.prog 11 #[.string (S (T ++ D))] W fun e w' => (∃ v, e = .returned (.tuple #[v, .agg #[.int .i64 0, .int .i64 0]]) ∧ w'.ownsRow W.heap.size 39 1 v (ws0 ++ ws).length ((ws0 ++ ws).map u32V)) ∧ Below W.heap.size W w' from ha2)
  rw [hn0] at HA
  rw [hlen] at HA2
  rw [hn0] at hcnt
  have HS := Lib.hid hs
  have HD := Lib.hid hD
  have HAW := Lib.hid awake3
  have HR := Lib.hid hR
  have HT := Lib.hid hTb
  have HL := Lib.hid hlen
  have HN0 := Lib.hid hn0
  have HM := Lib.hid hm
  have HS1 := Lib.hid (fun A B c d W (h1 : Row .u32 W A ws0) (h2 : Row .u32 W B ws0) => show Calls Tryd.prog 13 #[.slice A n0 c, .slice B n0 d] W fun e w' => e = .returned (.bool true) ∧ ∃ q, w' = W.drewN q from (same_any A B n0 n0 c d ws0 ws0 W (by omega) hn0 hn0 h1 h2).mono fun e w' ⟨he, hw⟩ => ⟨by rw [he, decide_eq_true rfl], hw⟩)
  have HS2 := Lib.hid (fun A B c d W (h1 : Row .u32 W A ws) (h2 : Row .u32 W B ws) => show Calls Tryd.prog 13 #[.slice A m c, .slice B m d] W fun e w' => e = .returned (.bool true) ∧ ∃ q, w' = W.drewN q from (same_any A B m m c d ws ws W (by omega) hm hm h1 h2).mono fun e w' ⟨he, hw⟩ => ⟨by rw [he, decide_eq_true rfl], hw⟩)
  have bb : Below w.heap.size w w := Below.refl _ _
  have hI : ¬ (30 : Int) < n := by omega
  have hJ : ¬ (60 : Int) < m := by omega
  clear ha ha2 hs ht hj hD hR hTb hlen hn0 hm hdl hDe
  go_enter Tryd.func5, Tryd.ntmps5
  go_wp2_with (first
    | (go_at_call 9; (with_reducible refine (HS.out).mono ?_); rintro e w1 ⟨rfl, hb1⟩; replace bb := below_step bb hb1)
    | (go_at_call 11; (with_reducible refine (HA.out _).mono ?_); rintro e w2 ⟨⟨v2, rfl, hv2⟩, hb2⟩; obtain ⟨oa2, cap2, rfl, hc2, hd2⟩ := own_room hv2; have HV2 := Lib.hid ((row_own hv2).on ((Below.refl _ _).alloc (Nat.le_refl _) (.cells #[.int .i64 0, .int .i64 0] 31))); replace bb := below_step bb hb2; clear hv2)
    | (go_at_call 12; (with_reducible refine (HD.out _ (HR.out.on (bb.alloc bb.size _)) (HT.out.on (bb.alloc bb.size _))).mono ?_); rintro e w3 ⟨rfl, hb3⟩; have HV3 := Lib.hid (HV2.out.on hb3); replace bb := below_step (bb.alloc bb.size _) hb3)
    | (go_at_call 11; (with_reducible refine (HA2.out _).mono ?_); rintro e w5 ⟨⟨v5, rfl, hv5⟩, hb5⟩; obtain ⟨oa5, cap5, rfl, hc5, hd5⟩ := own_room hv5; have HV5 := Lib.hid ((row_own hv5).on ((Below.refl _ _).alloc (Nat.le_refl _) (.cells #[.int .i64 0, .int .i64 0] 31))); have hh := head_w oa5 (n0 + m) cap5 n0 (by omega); obtain ⟨oa6, ht6, hr6⟩ := tail_w oa5 (n0 + m) cap5 n0 (by omega) hc5; have hdr := hr6 _ _ HV5.out HL.out; rw [List.drop_left' HN0.out] at hdr; have HTL := Lib.hid hdr; clear hdr; rw [Nat.add_sub_cancel_left] at ht6; have HV3' := Lib.hid ((HV3.out.on hb5).on ((Below.refl _ _).alloc (Nat.le_refl _) (.cells #[.int .i64 0, .int .i64 0] 31))); replace bb := below_step bb hb5; have HRB := Lib.hid (HR.out.on (bb.alloc bb.size (.cells #[.int .i64 0, .int .i64 0] 31))); clear hv5 hr6)
    | (go_at_call 13; (with_reducible refine (HS1.out _ _ _ _ _ (HV5.out.head) HV3'.out).mono ?_); rintro e w7 ⟨rfl, q7, rfl⟩)
    | (go_at_call 13; (with_reducible refine (HS2.out _ _ _ _ _ (HTL.out.drewN _) (HRB.out.drewN _)).mono ?_); rintro e w8 ⟨rfl, q8, rfl⟩)
    | (go_at_call 7; (with_reducible refine (HAW.out _).mono ?_); rintro e w9 ⟨rfl, hb9⟩))
  go_ret
  exact ⟨rfl, below_step (below_drewN (bb.alloc bb.size _) _) hb9⟩
theorem joins_core (a b : Option Addr) (n cap m cap2 : Nat) (zs ws : List Int) (w : World) (hz : zs.length = n) (h30 : n ≤ 30) (h60 : m ≤ 60) (hs : Calls Tryd.prog 9 #[.slice a n cap] w fun e w' => e = .returned (.string (S (srcOfL zs))) ∧ Below w.heap.size w w') (hm : ws.length = m) (hR : Row .u32 w b ws) (hu : U32s ws) (hTb : Tab2 w) :
    Calls Tryd.prog 5 #[.slice a n cap, .slice b m cap2] w fun e w' => e = .returned (.bool true) ∧ Below w.heap.size w w' := by
  have hT : (srcOfL zs).length ≤ 100000 := by have := srcOfL_len zs; omega
  cases ht : transL (srcOfL zs) with
  | inl x => exact joins_bad a b n cap m cap2 _ w h30 h60 hT hs x.1 x.2 ht
  | inr x => exact joins_good a b n cap m cap2 _ ws w h30 h60 hT hs hm hR hu hTb x.1 x.2 ht (join_src ht hu (by omega) (by omega))
theorem joins_walk (a b : Option Addr) (n cap m cap2 : Nat) (zs xs : List Int) (w : World) (hTb : Tab2 w) (h : IsRowI w a n cap zs) (h2 : IsRowW w b m cap2 xs) :
    Calls Tryd.prog 5 #[.slice a n cap, .slice b m cap2] w fun e w' => e = .returned (.bool true) ∧ Below w.heap.size w w' := by
  by_cases hbig : 30 < n ∨ 60 < m
  · exact joins_long a b n cap m cap2 w hbig
  · obtain ⟨ws, k1, k2, k3, k4⟩ := row_of h2
    have hu : U32s ws := fun x hx => by have := wf_u32 (k4 x hx); omega
    by_cases h0 : n = 0
    · subst h0; exact joins_core a b 0 cap m cap2 [] ws w rfl (by omega) (by omega) (source_zero a cap w) k1 k3 hu hTb
    · rcases h with ⟨_, hl, _⟩ | ⟨⟨b', off, spot⟩, rfl, hlc, hm, hz, hc, hw⟩
      · exact absurd hl h0
      · have c0 := hc 0 (by omega)
        have hspot : spot = none := by simpa [Addr.add] using World.cell?_spot c0
        subst hspot
        rw [Go.WideShapes.add_plain] at c0
        have ht : ∀ j, j < n → (zs.take n).getD j 0 = zs.getD j 0 := fun j hj => by simp [List.getD, hj]
        have hlen : (zs.take n).length = n := by rw [List.length_take]; omega
        refine joins_core _ b n cap m cap2 (zs.take n) ws w hlen (by omega) (by omega) (source_some b' off n cap (zs.take n) w (by omega) hlen (World.block_lt_of_cell? w _ c0) (Lib.hid fun j hj => ?_) (Lib.hid fun j hj => ?_)) k1 k3 hu hTb
        · rw [ht j hj, ← Go.WideShapes.add_plain]; exact hc j (by omega)
        · rw [ht j hj]
          have hj' : j < zs.length := by omega
          have h2 : zs.getD j 0 = zs[j] := by simp [List.getD, hj']
          have := wf_i64 (hw zs[j] (List.getElem_mem hj'))
          rw [h2]; omega
end Go.Proofs.YtbbmakpfconnnaaDoor
