import Derived.Test.YtegaookkfjgepaaDoorAsmFn19
import Derived.Test.YtegaookkfjgepaaDoorAsmLawL
namespace Go.Proofs.YtegaookkfjgepaaDoor
set_option linter.unusedVariables false
set_option linter.unusedSimpArgs false
open Go.ChangeShapes Go.WideShapes Go.ChangeAt Go.RowKit Go.Proofs.YtegaookkfjgepaaDoor.Num Go.Proofs.YtegaookkfjgepaaDoor.Isa Go.Proofs.YtegaookkfjgepaaDoor.Mem Go.Proofs.YtegaookkfjgepaaDoor.Asm
theorem flatS_get (l : List (Bs × Nat)) : ∀ (k : Nat) (hk : k < l.length) (i : Nat), i < 2 → (flatS l)[k * 2 + i]? = (symC l[k])[i]? := by
  induction l with
  | nil => intro k hk; simp at hk
  | cons d l ih =>
    intro k hk i hi
    have e : flatS (d :: l) = symC d ++ flatS l := rfl
    rw [e]
    cases k with
    | zero => rw [List.getElem?_append_left (by simp [symC]; omega)]; simp
    | succ k =>
      rw [List.getElem?_append_right (by simp [symC]; omega)]
      have := ih k (by simpa using hk) i hi
      rw [show (k + 1) * 2 + i - (symC d).length = k * 2 + i by simp [symC]; omega, this]
      simp
theorem own_sym {w : World} {base : Nat} {v : Value} {l : List (Bs × Nat)} (h : w.ownsRow base 51 2 v l.length (flatS l)) : ∃ oa cap, v = .slice oa l.length cap ∧ (0 < l.length → ∃ g, oa = some ⟨g, 0, none⟩ ∧ ∀ k (hk : k < l.length), w.cell? ⟨g, k * 2, none⟩ = some (.string (S l[k].1)) ∧ w.cell? ⟨g, k * 2 + 1, none⟩ = some (.int .u32 (l[k].2 : Int))) := by
  obtain ⟨oa, cap, rfl⟩ := own_shape h
  refine ⟨oa, cap, rfl, fun hn => ?_⟩
  have h' := h
  rcases h.2 with ⟨h1, h2⟩ | ⟨g, cap', cur, h1, _⟩
  · omega
  · injection h1 with h1 _ _
    subst h1
    refine ⟨g, rfl, fun k hk => ⟨?_, ?_⟩⟩
    · rw [h'.cellAt (k * 2) (by omega)]
      exact flatS_get l k hk 0 (by decide)
    · rw [h'.cellAt (k * 2 + 1) (by omega)]
      exact flatS_get l k hk 1 (by decide)
set_option maxHeartbeats 8000000 in
set_option maxRecDepth 100000 in
theorem labels_bad (oa : Option Addr) (len cap : Nat) (T : Bs) (w : World) (hl : len ≤ 30) (hT : T.length ≤ 100000) (hs : Calls Tryd.prog 18 #[.slice oa len cap] w fun e w' => e = .returned (.string (S T)) ∧ Below w.heap.size w w') (c l : Int) (ht : transL T = .inl (c, l)) :
    Calls Tryd.prog 10 #[.slice oa len cap] w fun e w' => e = .returned (.bool true) ∧ Below w.heap.size w w' := by
  have hc := trans_err ht
  have hcb : (c != 0) = true := by rw [bne_iff_ne]; exact hc
  have ha := fun W => assemble_asm (S T) W (by rw [S_size]; omega)
  have hy := fun W => symbols_asm (S T) W (by rw [S_size]; omega)
  rw [S_list, ht] at ha hy
  have HA := Lib.hid ha
  have HY := Lib.hid hy
  have HS := Lib.hid hs
  have HAW := Lib.hid awake3
  have bb : Below w.heap.size w w := Below.refl _ _
  clear ha hy hs ht
  go_enter Tryd.func10, Tryd.ntmps10
  go_wp2_with (first
    | (go_at_call 18; (with_reducible refine (HS.out).mono ?_); rintro e w1 ⟨rfl, hb1⟩; replace bb := below_step bb hb1)
    | (go_at_call 20; (with_reducible refine (HA.out _).mono ?_); rintro e w2 ⟨rfl, hb2⟩; replace bb := below_step bb hb2)
    | (go_at_call 24; (with_reducible refine (HY.out _).mono ?_); rintro e w3 ⟨rfl, hb3⟩; replace bb := below_step (bb.alloc bb.size _) hb3; have g0 := heap_below (al_new w2 _ _ rfl) hb3; have d0 := cell_blk g0 0 rfl; have d1 := cell_blk g0 1 rfl; have hw3 := lt_of_block g0; clear g0)
    | (go_at_call 16; (with_reducible refine (HAW.out _).mono ?_); rintro e w4 ⟨rfl, hb4⟩; replace bb := below_step (bb.alloc bb.size _) hb4))
  all_goals go_ret
  all_goals exact ⟨rfl, bb⟩
theorem read_cnt : ∀ (ls : List Bs) (i : Nat) (syms : List (Bs × Nat)) (ds : List Draft) (r : List (Bs × Nat) × List Draft), readL ls i syms ds = .inr r → r.1.length ≤ syms.length + ls.length
  | [], i, syms, ds, r, h => by simp [readL] at h; subst h; simp
  | l :: ls, i, syms, ds, r, h => by
    cases hl : lineR l with
    | none => rw [read_none hl] at h; cases h
    | some x =>
      obtain ⟨lab, dd⟩ := x
      by_cases ht : lab ≠ [] ∧ (lookS syms lab).isSome = true
      · rw [read_twice hl ht] at h; cases h
      · by_cases hb : 1024 < (ds ++ numbered ((i : Int) + 1) dd).length
        · rw [read_large hl ht hb] at h; cases h
        · rw [read_next hl ht hb] at h
          have h1 := read_cnt ls _ _ _ r h
          have h2 : (addSyms syms ds lab).length ≤ syms.length + 1 := by unfold addSyms; split <;> simp
          simp; omega
theorem trans_cnt {src : Bs} {ws : List Int} {syms : List (Bs × Nat)} (h : transL src = .inr (ws, syms)) : syms.length ≤ 20000 := by
  unfold transL at h
  split at h
  · cases h
  · cases hr : readL (linesL src) 0 [] [] with
    | inl r => rw [hr] at h; cases h
    | inr r =>
      rw [hr] at h
      dsimp only at h
      cases hc : codeL r.1 r.2 [] with
      | inl e => rw [hc] at h; cases h
      | inr w2 =>
        rw [hc] at h
        injection h with h
        injection h with h1 h2
        subst h2
        have h3 := read_cnt _ _ _ _ _ hr
        have h4 := lineGo_len src []
        unfold linesL at h3
        simp at h3 h4
        omega
def SymAt (oa : Option Addr) (l : List (Bs × Nat)) (w : World) : Prop := ∀ k (hk : k < l.length), ∃ g, oa = some ⟨g, 0, none⟩ ∧ w.cell? ⟨g, k * 2, none⟩ = some (.string (S l[k].1)) ∧ w.cell? ⟨g, k * 2 + 1, none⟩ = some (.int .u32 (l[k].2 : Int))
theorem SymAt.on {oa : Option Addr} {l : List (Bs × Nat)} {w w' : World} (h : SymAt oa l w) (hb : Below w.heap.size w w') : SymAt oa l w' := fun k hk => by
  obtain ⟨g, h1, h2, h3⟩ := h k hk
  exact ⟨g, h1, still h2 hb, still h3 hb⟩
set_option maxHeartbeats 8000000 in
set_option maxRecDepth 100000 in
theorem labels_good (oa : Option Addr) (len cap : Nat) (T : Bs) (w : World) (hl : len ≤ 30) (hT : T.length ≤ 100000) (hs : Calls Tryd.prog 18 #[.slice oa len cap] w fun e w' => e = .returned (.string (S T)) ∧ Below w.heap.size w w') (ws : List Int) (syms : List (Bs × Nat)) (ht : transL T = .inr (ws, syms)) :
    Calls Tryd.prog 10 #[.slice oa len cap] w fun e w' => e = .returned (.bool true) ∧ Below w.heap.size w w' := by
  obtain ⟨hk, hws⟩ := trans_sym ht
  have hcnt := trans_cnt ht
  have ha := fun W => assemble_asm (S T) W (by rw [S_size]; omega)
  have hy := fun W => symbols_asm (S T) W (by rw [S_size]; omega)
  rw [S_list, ht] at ha hy
  have HA := Lib.hid (show ∀ W, Calls Tryd.prog 20 #[.string (S T)] W fun e w' => (∃ v, e = .returned (.tuple #[v, .agg #[.int .i64 0, .int .i64 0]]) ∧ w'.ownsRow W.heap.size 47 1 v ws.length (ws.map u32V)) ∧ Below W.heap.size W w' from ha)
  have HY := Lib.hid (show ∀ W, Calls Tryd.prog 24 #[.string (S T)] W fun e w' => (∃ v, e = .returned (.tuple #[v, .agg #[.int .i64 0, .int .i64 0]]) ∧ w'.ownsRow W.heap.size 51 2 v syms.length (flatS syms)) ∧ Below W.heap.size W w' from hy)
  have HS := Lib.hid hs
  have HK := Lib.hid hk
  have HAW := Lib.hid awake3
  have bb : Below w.heap.size w w := Below.refl _ _
  clear ha hy hs ht hk
  go_enter Tryd.func10, Tryd.ntmps10
  go_wp2_with (first
    | (go_at_call 18; (with_reducible refine (HS.out).mono ?_); rintro e w1 ⟨rfl, hb1⟩; replace bb := below_step bb hb1)
    | (go_at_call 20; (with_reducible refine (HA.out _).mono ?_); rintro e w2 ⟨⟨v2, rfl, hr2⟩, hb2⟩; obtain ⟨oa2, cap2, rfl⟩ := own_shape hr2; replace bb := below_step bb hb2; clear hr2)
    | (go_at_call 24; (with_reducible refine (HY.out _).mono ?_); rintro e w3 ⟨⟨v3, rfl, hr3⟩, hb3⟩; obtain ⟨oa3, cap3, rfl, hsy⟩ := own_sym hr3; have HSY := Lib.hid (show SymAt oa3 syms w3 from fun k hk => by (obtain ⟨g, h1, h2⟩ := hsy (by omega); exact ⟨g, h1, h2 k hk⟩)); replace bb := below_step (bb.alloc bb.size _) hb3; have g0 := heap_below (al_new w2 _ _ rfl) hb3; have d0 := cell_blk g0 0 rfl; have d1 := cell_blk g0 1 rfl; have hw3 := lt_of_block g0; clear g0 hr3 hsy))
  have HBB := Lib.hid bb
  clear bb hb1 hb2 hb3
  go_loopw [8, 9] (fun la i wr => ∃ k t : Nat, k ≤ syms.length ∧ i = .int .i64 k ∧ la = .int .u32 t ∧ (∀ j (h : j < syms.length), k ≤ j → t ≤ syms[j].2) ∧ SymAt oa3 syms wr ∧ Below w.heap.size w wr) (fun _ i _ => syms.length - (intOf i).toNat)
  case atStart => exact ⟨0, 0, by omega, rfl, rfl, fun j h _ => Nat.zero_le _, HSY.out.on ((Below.refl _ _).alloc (Nat.le_refl _) _), HBB.out.alloc HBB.out.size _⟩
  case round =>
    obtain ⟨k, t, hk, rfl, rfl, hlast, hsy, hbw⟩ := hrel
    by_cases hlt : k < syms.length
    · obtain ⟨g, hg, c0, c1⟩ := hsy k hlt
      have h4 := (HK.out.2 syms[k] (List.getElem_mem hlt)).1
      have h5 := (HK.out.2 syms[k] (List.getElem_mem hlt)).2
      have h6 := hlast k hlt (Nat.le_refl _)
      have HL := Lib.hid (fun j (h : j < syms.length) (hj : k + 1 ≤ j) => ((List.pairwise_iff_getElem.1 HK.out.1) k j hlt h (by omega)).2)
      have HN := Lib.hid (fun q (hq : q < k) => ((List.pairwise_iff_getElem.1 HK.out.1) q k (by omega) hlt hq).1)
      have HSY2 := Lib.hid hsy
      have HBW := Lib.hid hbw
      obtain ⟨a, haa⟩ : ∃ a, syms[k].2 = a := ⟨_, rfl⟩
      obtain ⟨nm, hnm⟩ : ∃ nm, syms[k].1 = nm := ⟨_, rfl⟩
      rw [haa] at c1 h4 h5 h6 HL
      rw [hnm] at c0 HN
      have HNM := Lib.hid hnm
      have m4 : (a : Int) % 4 = 0 := by omega
      have l4 : (t : Int) ≤ a := by omega
      have l5 : ¬ (a : Int) < t := by omega
      have l6 : ¬ a < t := by omega
      have l7 : t ≤ a := by omega
      have u4 : (a : Int) ≤ 4 * (ws.length : Int) := by omega
      have u5 : ¬ 4 * (ws.length : Int) < a := by omega
      have a4 : (a : Int) ≤ 4096 := by omega
      clear hsy hbw hlast haa hnm h4 h5 h6
      rename World => wX
      subst hg
      go_wp2
      go_loopw [10] (fun i wr => ∃ q : Nat, q ≤ k ∧ i = .int .i64 q ∧ SymAt (some ⟨g, 0, none⟩) syms wr ∧ Below w.heap.size w wr) (fun i _ => k - (intOf i).toNat)
      case atStart => exact ⟨0, by omega, rfl, HSY2.out, HBW.out⟩
      case round =>
        obtain ⟨q, hq, rfl, hs2, hb2⟩ := hrel
        by_cases hqk : q < k
        · obtain ⟨g', hg', e0, _⟩ := hs2 q (by omega)
          injection hg' with hg'
          injection hg' with hg'
          subst hg'
          obtain ⟨_, hg', e1, _⟩ := hs2 k hlt
          injection hg' with hg'
          injection hg' with hg'
          subst hg'
          rw [HNM.out] at e1
          have hne : ((S syms[q].1).toList == (S nm).toList) = false := by
            rw [toL, toL, S_list, S_list, beq_eq_false_iff_ne]; exact HN.out q hqk
          have hqs : q < syms.length := by omega
          have HS2 := Lib.hid hs2
          have HB2 := Lib.hid hb2
          generalize S syms[q].1 = n1 at *
          generalize S nm = n2 at *
          clear hs2 hb2
          go_wp2
          go_quiet (fail)
          go_wp2
          go_roundw
          case rel => exact ⟨q + 1, by omega, by go_num, HS2.out.on (drewN_below _ _), below_drewN HB2.out _⟩
          case measure => simp [intOf]; omega
        · obtain rfl : q = k := by omega
          have HS2 := Lib.hid hs2
          have HB2 := Lib.hid hb2
          clear hs2 hb2
          have hlt' : q + 1 ≤ syms.length := by omega
          go_wp2
          go_roundw
          case rel => exact ⟨q + 1, a, by omega, by go_num, rfl, HL.out, HS2.out, HB2.out⟩
          case measure => simp [intOf]; omega
    · have HBW := Lib.hid hbw
      obtain rfl : k = syms.length := by omega
      clear hsy hbw
      go_wp2_with (go_at_call 16; (with_reducible refine (HAW.out _).mono ?_); rintro e w4 ⟨rfl, hb4⟩)
      go_ret
      exact ⟨rfl, below_step HBW.out hb4⟩
theorem labels_core (oa : Option Addr) (len cap : Nat) (T : Bs) (w : World) (hl : len ≤ 30) (hT : T.length ≤ 100000) (hs : Calls Tryd.prog 18 #[.slice oa len cap] w fun e w' => e = .returned (.string (S T)) ∧ Below w.heap.size w w') :
    Calls Tryd.prog 10 #[.slice oa len cap] w fun e w' => e = .returned (.bool true) ∧ Below w.heap.size w w' := by
  cases ht : transL T with
  | inl x => exact labels_bad oa len cap T w hl hT hs x.1 x.2 ht
  | inr x => exact labels_good oa len cap T w hl hT hs x.1 x.2 ht
set_option maxHeartbeats 4000000 in
theorem labels_long (a : Option Addr) (len cap : Nat) (w : World) (h : 30 < len) :
    Calls Tryd.prog 10 #[.slice a len cap] w fun e w' => e = .returned (.bool true) ∧ Below w.heap.size w w' := by
  have HAW := Lib.hid awake3
  have hI : (30 : Int) < len := by omega
  go_enter Tryd.func10, Tryd.ntmps10
  go_wp2_with (go_at_call 16; (with_reducible refine (HAW.out _).mono ?_); rintro e w1 ⟨rfl, hb1⟩)
  go_ret
  exact ⟨rfl, hb1⟩
/-- What a walk is told of a slice of ints that came in. -/
def IsRowI (w : World) (a : Option Addr) (len cap : Nat) (zs : List Int) : Prop :=
  (a = none ∧ len = 0 ∧ cap = 0 ∧ zs = []) ∨
  ∃ x, a = some x ∧ len ≤ cap ∧ cap ≤ maxLen ∧ zs.length = cap ∧ (∀ i, i < zs.length → w.cell? (x.add i) = some (.int .i64 (zs.getD i 0))) ∧ ∀ n ∈ zs, (Lit.int .i64 n).wf = true
theorem labels_walk (a : Option Addr) (len cap : Nat) (zs : List Int) (w : World) (h : IsRowI w a len cap zs) :
    Calls Tryd.prog 10 #[.slice a len cap] w fun e w' => e = .returned (.bool true) ∧ Below w.heap.size w w' := by
  by_cases h0 : len = 0
  · subst h0; exact labels_core a 0 cap (srcOfL []) w (by omega) (by simp [srcOfL]) (source_zero a cap w)
  · by_cases h60 : 30 < len
    · exact labels_long a len cap w h60
    · rcases h with ⟨_, hl, _⟩ | ⟨⟨b, off, spot⟩, rfl, hlc, hm, hz, hc, hw⟩
      · exact absurd hl h0
      · have c0 := hc 0 (by omega)
        have hspot : spot = none := by simpa [Addr.add] using World.cell?_spot c0
        subst hspot
        rw [Go.WideShapes.add_plain] at c0
        have ht : ∀ j, j < len → (zs.take len).getD j 0 = zs.getD j 0 := fun j hj => by simp [List.getD, hj]
        have hlen : (zs.take len).length = len := by rw [List.length_take]; omega
        refine labels_core _ len cap (srcOfL (zs.take len)) w (by omega) (by have := srcOfL_len (zs.take len); omega) (source_some b off len cap (zs.take len) w (by omega) hlen (World.block_lt_of_cell? w _ c0) (Lib.hid fun j hj => ?_) (Lib.hid fun j hj => ?_))
        · rw [ht j hj, ← Go.WideShapes.add_plain]; exact hc j (by omega)
        · rw [ht j hj]
          have hj' : j < zs.length := by omega
          have h2 : zs.getD j 0 = zs[j] := by simp [List.getD, hj']
          have := wf_i64 (hw zs[j] (List.getElem_mem hj'))
          rw [h2]; omega
end Go.Proofs.YtegaookkfjgepaaDoor
