import Derived.Test.YtdjnloacjgcckaaPmChunk
namespace Go.Proofs.Ytdjnloacjgcckaa
set_option linter.unusedVariables false
set_option linter.unusedSimpArgs false
open Go.ChangeShapes Go.WideShapes Go.ChangeAt Go.RowKit Go.Shelf Go.Proofs.Ytdjnloacjgcckaa.Num Go.Proofs.Ytdjnloacjgcckaa.Mem
attribute [local go_sem] Oper.semAt_some
/-- The hash behind some chunks. -/
def hashC (l : List Int) (pre : List Nat) : Int := hash 14695981039346656037 (pre.flatMap fun j => bytesL (pageL l j))
theorem hashC_snoc (l : List Int) (pre : List Nat) (j : Nat) : hash (hashC l pre) (bytesL (pageL l j)) = hashC l (pre ++ [j]) := by
  unfold hashC
  rw [List.flatMap_append, hash_append]
  simp
theorem hashC_all (l : List Int) (m : Nat) (h : l.length = m) : hashC l (List.range (chunks m)) = hashW l := by
  unfold hashC hashW
  rw [bytes_chunks l m h]
theorem Mem.chunk {w : World} {b off n c j : Nat} {l : List Int} (h : Mem w (some ⟨b, off, none⟩) n c l) (hj : 32 * j < n) : Mem w (some ⟨b, off + 32 * j, none⟩) (min 32 (n - 32 * j)) (min 32 (n - 32 * j)) (pageL l j) := by
  obtain ⟨hl, hc, hn, hu, hr⟩ := h
  have hpl : (pageL l j).length = min 32 (n - 32 * j) := by simp [pageL, hl]
  refine ⟨hpl, Nat.le_refl _, by omega, fun x hx => hu x (List.mem_of_mem_drop (List.mem_of_mem_take hx)), fun _ => ⟨b, off + 32 * j, rfl, fun i hi => ?_⟩⟩
  rw [hpl] at hi
  obtain ⟨b', off', hA, hcc⟩ := hr (by omega)
  injection hA with hA
  injection hA with hA1 hA2
  subst hA1 hA2
  rw [pageL_wd (by omega), Nat.add_assoc]
  exact hcc _ (by omega)
theorem keepH_t {h n₀ : Nat} : ∀ {A B C : World}, KeepH h n₀ A B → KeepH h n₀ B C → KeepH h n₀ A C := fun h1 h2 => h1.trans h2
theorem keepH_b {h n₀ : Nat} {w : World} (hn : n₀ ≤ w.heap.size) : ∀ (W : World) (l : Nat) (o o' : Obj), w.heap.size ≤ l → W.heap[l]? = some o → o.isCells = false → o.isWalk = false → KeepH h n₀ W (W.putObj l o') := fun W l o o' hl ho hc hw b i hb _ => (belowK_b (w := w) hn W l o o' hl ho hc hw).cell (p := ⟨b, i, none⟩) hb
theorem keeps_below {W W' : World} (hb : Below W.heap.size W W') : KeepsOthers W W' := ⟨hb.size, fun k o hk _ => by rw [hb.block k (Array.getElem?_eq_some_iff.1 hk).1]; exact hk⟩
theorem keepH_below {h n₀ : Nat} {W W' : World} (hb : Below W.heap.size W W') (hn : n₀ ≤ W.heap.size) : KeepH h n₀ W W' := fun b o hlt _ => hb.cell (p := ⟨b, o, none⟩) (by show b < _; omega)
theorem keepH_set {h n₀ : Nat} (W : World) (u : Value) : KeepH h n₀ W (W.setCell ⟨h, 0, none⟩ u) := fun b o hlt hne => World.cell?_setCell_other W _ _ u (fun e => hne (congrArg Addr.block e).symm)
theorem hash_round {w W w1 : World} {m m2 : Nat} {l : List Int} {y y2 : Int} {pre : List (Ck m)} (hz : w.heap.size + 3 ≤ W.heap.size) (hB : Below w.heap.size w W) (hb1 : Below W.drew.heap.size W.drew w1) (hc3 : w1.cell? ⟨w.heap.size, 0, none⟩ = some (.int .u64 y)) (hf3 : w1.frozen? ⟨w.heap.size, 0, none⟩ = false) (hy : hashC l (pre.map (·.1)) = y2) :
    KeepsOthers W ((w1.drewN m2).setCell ⟨w.heap.size, 0, none⟩ (.int .u64 y2)) ∧ KeepH w.heap.size (w.heap.size + 3) W ((w1.drewN m2).setCell ⟨w.heap.size, 0, none⟩ (.int .u64 y2)) ∧
      ((((w1.drewN m2).setCell ⟨w.heap.size, 0, none⟩ (.int .u64 y2)).cell? ⟨w.heap.size, 0, none⟩ = some (.int .u64 (hashC l (pre.map (·.1)))) ∧ ((w1.drewN m2).setCell ⟨w.heap.size, 0, none⟩ (.int .u64 y2)).frozen? ⟨w.heap.size, 0, none⟩ = false) ∧
        (Below w.heap.size w ((w1.drewN m2).setCell ⟨w.heap.size, 0, none⟩ (.int .u64 y2)) ∧ w.heap.size + 3 ≤ ((w1.drewN m2).setCell ⟨w.heap.size, 0, none⟩ (.int .u64 y2)).heap.size)) := by
  have k1 : KeepsOthers W w1 := (KeepsOthers.drew W).trans (keeps_below hb1)
  have k2 : KeepsOthers w1 (w1.drewN m2) := ⟨Nat.le_refl _, fun _ _ h _ => h⟩
  have hb2 : Below W.heap.size W w1 := (show Below W.heap.size W W.drew from (Below.refl _ _).drew).trans hb1
  have hz1 : W.heap.size ≤ w1.heap.size := hb2.size
  have hk : KeepH w.heap.size (w.heap.size + 3) W (w1.drewN m2) := keepH_below (W' := w1) hb2 hz
  refine ⟨(k1.trans k2).trans (KeepsOthers.setCell _ _ _), hk.trans (keepH_set _ _), ⟨?_, ?_⟩, ?_, ?_⟩
  · rw [hy]
    exact World.cell?_setCell_same' _ _ _ (by show (w1.cell? _).isSome = true; rw [hc3]; rfl)
  · rw [World.frozen?_setCell]; exact hf3
  · exact (below_drewN (below_step hB hb2) m2).setCell (p := ⟨w.heap.size, 0, none⟩) (Nat.le_refl _) _
  · simp; show _ ≤ w1.heap.size; omega
set_option maxRecDepth 100000 in
set_option maxHeartbeats 2000000 in
theorem hash_in (A : Option Addr) (m c : Nat) (l : List Int) (w : World) (hm : Mem w A m c l) :
    CallsIn Fence.wide 5 Try.prog 27 #[.slice A m c] w fun e W' => e = .returned (.int .u64 (hashW l)) ∧ Below w.heap.size w W' := by
  have h1 : 1 ≤ 5 := by omega
  refine callsIn_of_wp_marks Try.func27 rfl trivial ?_ rfl
  simp only [Try.ntmps27, List.size_toArray, List.length_cons, List.length_nil, Nat.reduceAdd, Nat.reduceSub, Array.replicate_succ, Array.replicate_zero, List.push_toArray, List.append_toArray, List.nil_append, List.cons_append]
  gi_wp2_with (refine ⟨trivial, ?_⟩; gi_at_call 48; refine (chunk_in _ _ _ _ _).mono ?_; rintro e w' ⟨rfl, rfl⟩)
  obtain ⟨W2, hW2⟩ : ∃ W2, ((w.alloc (.cells #[.int .u64 14695981039346656037] 41)).alloc (.cells #[.slice A m c] 22)).alloc (.cells #[.int .i64 32] 3) = W2 := ⟨_, rfl⟩
  have z2 : W2.heap.size = w.heap.size + 3 := by rw [← hW2]; simp
  have hB0 : Below w.heap.size w W2 := by rw [← hW2]; exact ((((Below.refl _ w).alloc (Nat.le_refl _) _).alloc (by simp) _).alloc (by simp; omega) _)
  have c0 : W2.cell? ⟨w.heap.size, 0, none⟩ = some (.int .u64 14695981039346656037) := by rw [← hW2]; simp [go_sem]
  have f0 : W2.frozen? ⟨w.heap.size, 0, none⟩ = false := by rw [← hW2]; simp [go_sem]
  have c1 : W2.cell? ⟨w.heap.size + 1, 0, none⟩ = some (.slice A m c) := by rw [← hW2]; simp [go_sem]
  have c2 : W2.cell? ⟨w.heap.size + 1 + 1, 0, none⟩ = some (.int .i64 32) := by rw [← hW2]; simp [go_sem]
  rw [hW2]
  clear hW2
  obtain ⟨b, off, hA, hseq⟩ := chunk_stops 4 (w.heap.size + 1) (w.heap.size + 1 + 1) w.heap.size (w.heap.size + 3) m c A (by omega) hm.2.2.1 hm.2.1 (fun h => by obtain ⟨b, off, h1, _⟩ := hm.at_ h; exact ⟨b, off, h1⟩) ⟨by omega, by omega⟩ ⟨by omega, by omega⟩ W2 (by omega) (by omega) c1 c2
  have HM := Lib.hid hm
  have HB0 := Lib.hid hB0
  refine wpIn_rangeFunc_ownF (α := Ck m) rfl h1 (gf := 55) (lb := #[.pointer (some ⟨w.heap.size + 1, 0, none⟩), .pointer (some ⟨w.heap.size + 1 + 1, 0, none⟩)]) rfl trivial (enters_of Try.func55 (by kernel_rfl) rfl)
    hseq keepH_t (keepH_b (by omega)) (Below.refl _ _) (fun _ => rfl)
    (fun pre W => (W.cell? ⟨w.heap.size, 0, none⟩ = some (.int .u64 (hashC l (pre.map (·.1)))) ∧ W.frozen? ⟨w.heap.size, 0, none⟩ = false) ∧ (Below w.heap.size w W ∧ w.heap.size + 3 ≤ W.heap.size))
    (fun _ _ _ => False)
    (OwnFrom.and (Own.from (fun s A B row hs hg hr => ⟨cell_kept hs.1 hg hr, (frozen_kept hs.1 hg hr).trans hs.2⟩) _) (OwnFrom.and (ownFrom_below (Nat.le_refl _) (by omega)) (fun s A B row hs hg hr => Nat.le_trans hs hg.size)))
    (fun _ _ _ _ _ hs _ _ => hs)
    ⟨⟨c0, f0⟩, hB0, by omega⟩
    (fun x => { tmps := #[.slice A m c, undef, .int .u64 0, .pointer (some ⟨w.heap.size, 0, none⟩), ckV b off m x.1, .slice A m c, .func (.func 55) #[] #[.pointer (some ⟨w.heap.size + 1, 0, none⟩), .pointer (some ⟨w.heap.size + 1 + 1, 0, none⟩)], ckV b off m x.1, undef, undef, undef, undef, undef], defers := [] }) ?assign ?body ?done ?stop
  case assign =>
    intro l x W K hK
    gi_wp2
    exact hK
  case body =>
    rintro lid pre x W ⟨⟨hc, hf⟩, hB, hz⟩ _
    obtain ⟨j, hj⟩ := x
    have hA' := hA (by omega)
    subst hA'
    have hck := (HM.out.on hB).chunk hj
    have hmx : Try.prog.follows .mixedOrders = true := by kernel_rfl
    have ev : ckV b off m j = .slice (some ⟨b, off + 32 * j, none⟩) (min 32 (m - 32 * j)) (min 32 (m - 32 * j)) := rfl
    have h0 : 0 < min 32 (m - 32 * j) := by omega
    dsimp only
    rw [ev]
    clear ev
    have HS := Lib.hid (hashC_snoc l (pre.map (·.1)) j)
    have hps : (pre ++ [(⟨j, hj⟩ : Ck m)]).map (·.1) = pre.map (·.1) ++ [j] := by rw [List.map_append]; rfl
    have HPS := Lib.hid hps
    clear hps
    have hbl : (bytesL (pageL l j)).length ≤ 4096 := by rw [bytesL_len, hck.1]; omega
    generalize min 32 (m - 32 * j) = n at hck h0
    generalize hashC l (pre.map (·.1)) = y at hc HS
    have HT := Lib.hid (fun W' (h : Mem W' (some ⟨b, off + 32 * j, none⟩) n n (pageL l j)) => text_any (some ⟨b, off + 32 * j, none⟩) n n (pageL l j) W' h h0)
    have HH := Lib.hid (fun W' => hash_any y (S8 (bytesL (pageL l j))) W' (by rw [S8_size]; unfold maxLen; omega))
    rw [S8_list, HS.out] at HH
    obtain ⟨y2, HY2⟩ : ∃ y2, Hid (hashC l (pre.map (·.1) ++ [j]) = y2) := ⟨_, rfl⟩
    rw [HY2.out] at HH
    generalize S8 (bytesL (pageL l j)) = s at HT HH
    generalize off + 32 * j = o at hck HT
    have HB := Lib.hid hB
    have HCK : Hid (Mem W.drew (some ⟨b, o, none⟩) n n (pageL l j)) := hck
    have hcd : W.drew.cell? ⟨w.heap.size, 0, none⟩ = some (.int .u64 y) := hc
    have HFD : Hid (W.drew.frozen? ⟨w.heap.size, 0, none⟩ = false) := hf
    clear hB hck HS hbl
    have hd : 1 ≤ 5 - 1 - 1 := by omega
    gi_wp2
    gi_region_with_o (first
      | (refine ⟨trivial, ?_⟩; gi_at_call 43; refine (CallsIn.inRound lid (callsIn_wide.2 (HT.out _ HCK.out))).mono ?_; rintro e w1 ⟨rfl, hb1⟩; have hc3 := cell_on hcd hb1; have hf3 := (hb1.frozen (p := ⟨w.heap.size, 0, none⟩) (by show w.heap.size < W.heap.size; omega)).trans HFD.out)
      | (refine ⟨trivial, ?_⟩; gi_at_call 49; refine (CallsIn.inRound lid (callsIn_wide.2 (HH.out _))).mono ?_; rintro e w2 ⟨rfl, m2, rfl⟩))
    all_goals gi_wp2
    all_goals exact hash_round hz HB.out hb1 hc3 hf3 (by rw [HPS.out]; exact HY2.out)
  case done =>
    rintro D ys W hD hys ⟨⟨hc, _⟩, hB, _⟩ hK
    rw [hys, hashC_all l m HM.out.1] at hc
    gi_wp2
    refine ⟨by simp, .inl ⟨_, _, rfl, run_takeDeferred hK, ?_⟩⟩
    exact ⟨_, results_tmp rfl _ _ _, rfl, hB.trans (belowK_b (w := w) (Nat.le_refl _) W D _ _ (by omega) hK rfl rfl)⟩
  case stop =>
    rintro D c pre W _ _ h _
    exact h.elim
theorem hashW_any (A : Option Addr) (m c : Nat) (l : List Int) (w : World) (hm : Mem w A m c l) :
    Calls Try.prog 27 #[.slice A m c] w fun e w' => e = .returned (.int .u64 (hashW l)) ∧ Below w.heap.size w w' := callsIn_wide.1 (hash_in A m c l w hm)
end Go.Proofs.Ytdjnloacjgcckaa
