import Derived.Test.YtleljcpljhpoaaaPgSeq
namespace Go.Proofs.Ytleljcpljhpoaaa
set_option linter.unusedVariables false
set_option linter.unusedSimpArgs false
open Go.ChangeShapes Go.WideShapes Go.ChangeAt Go.RowKit Go.Shelf Go.Proofs.Ytleljcpljhpoaaa.Num Go.Proofs.Ytleljcpljhpoaaa.Mem
attribute [local go_sem] Oper.semAt_some
/-- What some pages list. -/
def lsP (l : List Int) (r : Nat) (pre : List Pg) : List Mp := pre.flatMap fun x => enM (wd l (32 * r + x.1)) x.1
theorem lsP_snoc (l : List Int) (r : Nat) (pre : List Pg) (x : Pg) : lsP l r (pre ++ [x]) = lsP l r pre ++ enM (wd l (32 * r + x.1)) x.1 := by simp [lsP]
theorem lsP_all (l : List Int) (r k : Nat) (ys : List Pg) (h : ys.map (·.1) = List.range k) : lsP l r ys = lsK l r k := by
  unfold lsP lsK
  rw [← h, List.flatMap_map]
theorem lsP_len (l : List Int) (r : Nat) (pre : List Pg) : (lsP l r pre).length ≤ pre.length := by
  induction pre with
  | nil => simp [lsP]
  | cons x xs ih =>
    have := enM_len (wd l (32 * r + x.1)) x.1
    simp only [lsP, List.flatMap_cons, List.length_append, List.length_cons] at ih ⊢
    omega
/-- Between two rounds. -/
def LsAt (w : World) (l : List Int) (r : Nat) (pre : List Pg) (W : World) : Prop :=
  (∃ v, W.heap[w.heap.size]? = some (.cells #[v] 37 (0, 0)) ∧ W.ownsRow (w.heap.size + 3) 45 3 v (lsP l r pre).length (flatM (lsP l r pre))) ∧ Below w.heap.size w W ∧ w.heap.size + 3 ≤ W.heap.size
theorem row_kept {W W' : World} {row : Option Nat} {base : Nat} {e : TypeId} {size : Nat} {v : Value} {k : Nat} {xs : List Value} (h : W.ownsRow base e size v k xs) (hg : W.grownBy W' row)
    (hrow : ∀ r, row = some r → ∃ o : Obj, W.heap[r]? = some o ∧ o.isCells = false) : W'.ownsRow base e size v k xs := by
  refine h.kept hg ?_
  rcases h.2 with ⟨rfl, _⟩ | ⟨g, cap, cur, rfl, _, hgb, _⟩
  · exact .inl rfl
  · refine .inr fun e' => ?_
    obtain ⟨o, ho, hw⟩ := hrow g (by simpa [Value.ownBlock] using e'.symm)
    rw [hgb] at ho; cases ho; cases hw
theorem lsAt_own (w : World) (l : List Int) (r : Nat) (B : Nat) (hB : w.heap.size ≤ B) : OwnFrom B (LsAt w l r) := fun s W W' row hs hg hr => by
  obtain ⟨⟨v, h1, h2⟩, h3, h4⟩ := hs
  have hr' : ∀ r, row = some r → ∃ o : Obj, W.heap[r]? = some o ∧ o.isCells = false := fun r e => (hr r e).2
  exact ⟨⟨v, (grownBy_keeps_cells hg hr' h1 rfl).trans h1, row_kept h2 hg hr'⟩, h3.grown hg h3.size (fun k e => Nat.le_trans hB (hr k e).1), Nat.le_trans h4 hg.size⟩
theorem box_cell {W : World} {B : Nat} {v : Value} {t : TypeId} (h : W.heap[B]? = some (.cells #[v] t (0, 0))) : W.cell? ⟨B, 0, none⟩ = some v ∧ W.frozen? ⟨B, 0, none⟩ = false := by
  constructor <;> simp [World.cell?, World.frozen?, h]
theorem box_set {W : World} {B : Nat} {v : Value} {t : TypeId} (v' : Value) (h : W.heap[B]? = some (.cells #[v] t (0, 0))) : (W.setCell ⟨B, 0, none⟩ v').heap[B]? = some (.cells #[v'] t (0, 0)) := by
  obtain ⟨hlt, hk⟩ := Array.getElem?_eq_some_iff.1 h
  show (W.heap.modify B _)[B]? = _
  rw [Array.getElem?_eq_getElem (by rw [Array.size_modify]; exact hlt), Array.getElem_modify_self, hk]
  rfl
theorem heap_b {w w' : World} {k : Nat} {o : Obj} (h : w.heap[k]? = some o) (hb : Below w.heap.size w w') : w'.heap[k]? = some o := by
  rw [hb.block k (Array.getElem?_eq_some_iff.1 h).1]; exact h
/-- An operation that defers nothing, in a round. -/
theorem oper_round {lid n : Nat} {P : Program} {o : Oper} {a : Act} {w : World} {K : Act → World → Prop} {Q : Exit → Act → World → Prop} (hd : ∀ c, o.op ≠ .defer c) (h : o.wpIn Fence.wide n P a w K Q) : o.wpIn (Fence.wide.inRound lid) n P a w K Q := by
  unfold Oper.wpIn at *
  refine ⟨fun _ _ => trivial, ?_⟩
  have h2 := h.2
  rw [Oper.semAt_eq _ _ _ hd] at h2 ⊢
  exact h2
theorem any_round {lid n : Nat} {P : Program} {md : Region.Mode} {ops : Array Oper} {Q : Exit → Act → World → Prop} (hd : ∀ (i : Nat) (o : Oper), ops[i]? = some o → ∀ c, o.op ≠ .defer c) : ∀ (fuel : Nat) (listed : Array Bool) (a : Act) (w : World), wpAnyIn Fence.wide n P md ops Q fuel listed a w → wpAnyIn (Fence.wide.inRound lid) n P md ops Q fuel listed a w := by
  intro fuel
  induction fuel with
  | zero => exact fun _ _ _ h => h
  | succ fuel ih =>
    intro listed a w h
    refine ⟨h.1, fun i hi => ?_⟩
    have h2 := h.2 i hi
    unfold wpOpIn at *
    cases ho : ops[i]? with
    | none => rw [ho] at h2; exact ih _ _ _ h2
    | some o =>
      rw [ho] at h2
      simp only at h2 ⊢
      split
      · rw [if_pos ‹_›] at h2
        exact oper_round (hd i o ho) (Oper.wpIn_mono (fun a w hh => ih _ a w hh) h2)
      · rw [if_neg ‹_›] at h2
        exact ⟨fun _ _ => trivial, ih _ _ _ h2.2⟩
/-- A region that draws its order and defers nothing, in a round. -/
theorem region_round {lid n id : Nat} {P : Program} {ops : Array Oper} {Q : Exit → Act → World → Prop} {a : Act} {w : World} (hm : P.follows .mixedOrders = true) (hd : ops.toList.all (fun o => match o.op with | .defer _ => false | _ => true) = true)
    (h : wpAnyIn Fence.wide n P .any ops Q ops.size (Array.replicate ops.size false) a w.drew) : (Code.region id ops true).wpIn (Fence.wide.inRound lid) n P Q a w := by
  refine wpIn_region_any hm (any_round (fun i o ho c hc => ?_) _ _ _ _ h)
  rw [List.all_eq_true] at hd
  have := hd o (by rw [← Array.getElem?_toList] at ho; exact List.mem_of_getElem? ho)
  rw [hc] at this
  cases this
/-- An append in a region. -/
theorem stepIn_append {F : Fence} {n : Nat} {P : Program} {w : World} {ops : Array Oper} {o : Oper} {a : Act} {K : Act → World → Prop} {Q : Exit → Act → World → Prop} {E : Prop} (hgd : o.guard = none) (s x : Operand) (t : TypeId)
    (ho : o.op = .call { callee := .builtin .append, args := #[s, x], argTypes := #[t, t] })
    (base : Nat) (e : TypeId) (i : TypeInfo) (z : Value) (size bytes : Nat) (ht : P.underlying t = some (.slice e)) (hi : P.info? e = some i) (hz : i.zero = some z)
    (hsize : i.size = size) (hby : i.bytes = bytes) (hzs : z.cells.size = size) (hsz : 0 < size)
    (v : Value) (k : Nat) (xs : List Value) (hs : a.eval s = v) (hown : w.ownsRow base e size v k xs)
    (ad : Addr) (m c : Nat) (news : List Value) (hx : a.eval x = .slice (some ad) m c) (hl : news.length = m * size) (hnews : ∀ j u, news[j]? = some u → w.cell? (ad.add j) = some u) (h1 : ∀ u ∈ news, u.oneCell' = true)
    (h63 : k + m ≤ maxLen) (hbytes : (k + m) * bytes ≤ 140737488355328) (hbase : base ≤ w.heap.size)
    (h : ∀ v' w', w'.ownsRow base e size v' (k + m) (xs ++ news) → w.grownBy w' v.ownBlock → K (a.put o.dst v') w') :
    if Region.wanted o (yielded ops a.tmps) = true then Oper.wpIn F n P o a w K Q else E := by
  have hw : Region.wanted o (yielded ops a.tmps) = true := by simp [Region.wanted, hgd]
  rw [if_pos hw]
  obtain ⟨v', w', hrun, r1, r2, r3⟩ := run_append_own (P := P) w base t o.type e i z size bytes ht hi hz hsize hby hzs hsz v k xs hown ad m c news hl hnews h1 h63 hbytes hbase
  unfold Oper.wpIn
  refine ⟨?_, ?_⟩
  · simp [Oper.about, ho, resolve, Target.leads, Sem.run_pure]
  · rw [Oper.semAt_plain F _ _ (by rw [ho]; intro c hc'; cases hc')]
    simp [execOp, ho, resolve, invoke, builtin, hs, hx, hrun, Result.andThen]
    exact h _ _ r1 r2
theorem own_some {w : World} {base : Nat} {e : TypeId} {size : Nat} {v : Value} {n : Nat} {xs : List Value} (h : w.ownsRow base e size v n xs) (hn : 0 < n) : ∃ g cap, v = .slice (some ⟨g, 0, none⟩) n cap := by
  rcases h.2 with ⟨_, h0⟩ | ⟨g, cap, cur, rfl, _⟩
  · omega
  · exact ⟨g, cap, rfl⟩
theorem ls_grown {w W w4 : World} {v : Value} {k : Nat} {xs : List Value} {o : Obj} {m : Nat} (hsz : w.heap.size + 3 ≤ W.heap.size) (hbox : W.heap[w.heap.size]? = some (.cells #[v] 37 (0, 0))) (hown : W.ownsRow (w.heap.size + 3) 45 3 v k xs) (hg : ((W.drewN m).alloc o).grownBy w4 v.ownBlock) :
    ∀ b, b < W.heap.size → v.ownBlock ≠ some b → w4.heap[b]? = W.heap[b]? := fun b hb hne => by
  rw [hg.block b (by simp; omega) (fun e => hne e.symm)]
  exact (Below.heap_alloc (W.drewN m) o b hb)
theorem ls_box {w W w4 : World} {v : Value} {k : Nat} {xs : List Value} {o : Obj} {m : Nat} (hsz : w.heap.size + 3 ≤ W.heap.size) (hbox : W.heap[w.heap.size]? = some (.cells #[v] 37 (0, 0))) (hown : W.ownsRow (w.heap.size + 3) 45 3 v k xs) (hg : ((W.drewN m).alloc o).grownBy w4 v.ownBlock) :
    w4.heap[w.heap.size]? = some (.cells #[v] 37 (0, 0)) :=
  (ls_grown hsz hbox hown hg _ (by omega) (fun e => by have := (hown.lt _ e).1; omega)).trans hbox
theorem ls_end {w W w4 : World} {v v4 : Value} {k k4 r : Nat} {xs xs4 : List Value} {o : Obj} {m : Nat} {l : List Int} {pre : List Pg} (hsz : w.heap.size + 3 ≤ W.heap.size) (hbox : W.heap[w.heap.size]? = some (.cells #[v] 37 (0, 0))) (hown : W.ownsRow (w.heap.size + 3) 45 3 v k xs) (hbel : Below w.heap.size w W) (hg : ((W.drewN m).alloc o).grownBy w4 v.ownBlock)
    (hown4 : w4.ownsRow (w.heap.size + 3) 45 3 v4 k4 xs4) (hk : k4 = (lsP l r pre).length) (hx : xs4 = flatM (lsP l r pre)) :
    KeepsOthers W (w4.setCell ⟨w.heap.size, 0, none⟩ v4) ∧ KeepP w.heap.size (w.heap.size + 3) W (w4.setCell ⟨w.heap.size, 0, none⟩ v4) ∧ LsAt w l r pre (w4.setCell ⟨w.heap.size, 0, none⟩ v4) := by
  have hold := ls_grown hsz hbox hown hg
  have hz : W.heap.size ≤ w4.heap.size := by have := hg.size; simp at this; omega
  refine ⟨KeepsOthers.trans ⟨hz, fun b o' hb ho' => ?_⟩ (KeepsOthers.setCell _ _ _), fun b i hb hne => ?_, ⟨v4, ?_, ?_⟩, ?_, ?_⟩
  · refine (hold b (Array.getElem?_eq_some_iff.1 hb).1 fun e => ?_).trans hb
    rcases hown.2 with ⟨rfl, _⟩ | ⟨g, cap, cur, rfl, _, hgb, _⟩
    · simp [Value.ownBlock] at e
    · have : g = b := by simpa [Value.ownBlock] using e
      subst this; rw [hgb] at hb; cases hb; cases ho'
  · rw [World.cell?_setCell_other _ _ _ _ (fun e => hne (congrArg Addr.block e).symm)]
    exact World.cell?_of_block (hold b (by omega) (fun e => by have := (hown.lt _ e).1; omega))
  · exact box_set _ (ls_box hsz hbox hown hg)
  · subst hk hx
    exact ownsRow_setCell_other hown4 (fun e => by have := (hown4.lt _ e).1; simp only at this; omega) _
  · exact ((((below_drewN hbel m).alloc (by show w.heap.size ≤ W.heap.size; omega) o).grown hg (by simp; omega) (fun k hk => by have := (hown.lt k hk).1; omega))).setCell (Nat.le_refl _) _
  · simp; omega
theorem keepP_t {h n₀ : Nat} : ∀ {A B C : World}, KeepP h n₀ A B → KeepP h n₀ B C → KeepP h n₀ A C := fun h1 h2 => h1.trans h2
theorem keepP_b {h n₀ : Nat} {w : World} (hn : n₀ ≤ w.heap.size) : ∀ (W : World) (l : Nat) (o o' : Obj), w.heap.size ≤ l → W.heap[l]? = some o → o.isCells = false → o.isWalk = false → KeepP h n₀ W (W.putObj l o') := fun W l o o' hl ho hc hw b i hb _ => (belowK_b (w := w) hn W l o o' hl ho hc hw).cell (p := ⟨b, i, none⟩) hb
set_option maxRecDepth 100000 in
set_option maxHeartbeats 2000000 in
theorem list_in (A : Option Addr) (n c r : Nat) (l : List Int) (w : World) (hm : Mem w A n c l) (hrn : (r : Int) ≤ 4294967295) :
    CallsIn Fence.wide 5 Try.prog 21 #[.slice A n c, .int .u32 r] w fun e W' => Lists (lsK l r (pgN n r)) w e W' := by
  have h1 : 1 ≤ 5 := by omega
  refine callsIn_of_wp_marks Try.func21 rfl trivial ?_ rfl
  simp only [Try.ntmps21, List.size_toArray, List.length_cons, List.length_nil, Nat.reduceAdd, Nat.reduceSub, Array.replicate_succ, Array.replicate_zero, List.push_toArray, List.append_toArray, List.nil_append, List.cons_append]
  gi_wp2_with (refine ⟨trivial, ?_⟩; gi_at_call 38; refine (entries_in _ _ _ _ _ _).mono ?_; rintro e w' ⟨rfl, rfl⟩)
  obtain ⟨W2, hW2⟩ : ∃ W2, ((w.alloc (.cells #[.slice none 0 0] 37)).alloc (.cells #[.slice A n c] 22)).alloc (.cells #[.int .u32 r] 24) = W2 := ⟨_, rfl⟩
  have z2 : W2.heap.size = w.heap.size + 3 := by rw [← hW2]; simp
  have hB0 : Below w.heap.size w W2 := by rw [← hW2]; exact ((((Below.refl _ w).alloc (Nat.le_refl _) _).alloc (by simp) _).alloc (by simp; omega) _)
  have c0 : W2.heap[w.heap.size]? = some (.cells #[.slice none 0 0] 37 (0, 0)) := by
    rw [← hW2]; exact heap_b (heap_alloc_new w _) ((((Below.refl _ _).alloc (Nat.le_refl _) _).alloc (by simp) _))
  have c1 : W2.cell? ⟨w.heap.size + 1, 0, none⟩ = some (.slice A n c) := by rw [← hW2]; simp [go_sem]
  have c2 : W2.cell? ⟨w.heap.size + 1 + 1, 0, none⟩ = some (.int .u32 r) := by rw [← hW2]; simp [go_sem]
  have hlow : Low w.heap.size (w.heap.size + 3) A l := fun h0 b off s hA => by
    obtain ⟨b', off', hA', hc'⟩ := hm.2.2.2.2 h0
    rw [hA] at hA'
    injection hA' with hA'
    injection hA' with hA1 _ _
    subst hA1
    have := block_of (hc' 0 h0)
    simp only at this
    exact ⟨by omega, by omega⟩
  rw [hW2]
  clear hW2
  have hseq := entr_stops 4 (w.heap.size + 1) (w.heap.size + 1 + 1) w.heap.size (w.heap.size + 3) n c r A l (by omega) hrn ⟨by omega, by omega⟩ ⟨by omega, by omega⟩ W2 (hm.on hB0) hlow (by omega) (by omega) c1 c2
  have HM := Lib.hid hm
  have HB0 := Lib.hid hB0
  have hu := Lib.hid hm.2.2.2.1
  obtain ⟨i0, hi, hz0, hz1, hz2⟩ := info_parts info_map
  refine wpIn_rangeFunc_ownF (α := Pg) rfl h1 (gf := 47) (lb := #[.pointer (some ⟨w.heap.size + 1, 0, none⟩), .pointer (some ⟨w.heap.size + 1 + 1, 0, none⟩)]) rfl trivial (enters_of Try.func47 (by kernel_rfl) rfl)
    hseq keepP_t (keepP_b (by omega)) (Below.refl _ _) (fun _ => rfl)
    (LsAt w l r)
    (fun _ _ _ => False)
    (lsAt_own w l r _ (by omega))
    (fun _ _ _ _ _ hs _ _ => hs)
    ⟨⟨_, c0, World.ownsRow_nil _ _ _ _⟩, hB0, by omega⟩
    (fun x => { tmps := #[.slice A n c, .int .u32 r, undef, undef, .slice none 0 0, .pointer (some ⟨w.heap.size, 0, none⟩), .int .u32 (x.1 : Int), .int .u32 (wd l (32 * r + x.1)), undef, .slice A n c, .int .u32 r, .func (.func 47) #[] #[.pointer (some ⟨w.heap.size + 1, 0, none⟩), .pointer (some ⟨w.heap.size + 1 + 1, 0, none⟩)], .int .u32 (x.1 : Int), .int .u32 (wd l (32 * r + x.1)), undef, undef, undef, undef, undef, undef, undef, undef, undef, undef, undef, undef, undef, undef], defers := [] }) ?assign ?body ?done ?stop
  case assign =>
    intro lid x W K hK
    unfold enV
    gi_wp2
    exact hK
  case body =>
    rintro lid pre x W hI hlen
    obtain ⟨j, hj⟩ := x
    have hx := wd_bd hu.out (32 * r + j)
    have HSN := Lib.hid (lsP_snoc l r pre ⟨j, hj⟩)
    have hll := lsP_len l r pre
    have hplt : pre.length < 32 := by unfold pgN at hlen; split at hlen <;> omega
    dsimp only at HSN ⊢
    generalize wd l (32 * r + j) = y at *
    obtain ⟨y0, y1⟩ := hx
    have q1 := and_1 y y0 y1
    have HI := Lib.hid hI
    have hmx : Try.prog.follows .mixedOrders = true := by kernel_rfl
    by_cases hv : y % 2 = 1
    · have he : Hid (enM y j = [((j : Int), frW y, y % 32)]) := by show _ = _; unfold enM; rw [if_pos hv]
      have q1' : (bits .and .u32 y 1 != 0) = true := by rw [q1]; simp; omega
      clear q1 hI
      obtain ⟨⟨v, hbox, hown⟩, hbel, hsz⟩ := HI.out
      obtain ⟨hc, hf⟩ := box_cell hbox
      have HF := Lib.hid (fun W => (field_any y 0 5 W y0 y1).mono (R' := fun e w' => e = .returned (.int .u32 (y % 32)) ∧ ∃ m, w' = W.drewN m) fun e w' ⟨he, hw⟩ => ⟨by rw [he, field_fl y y0 y1], hw⟩)
      have HFR := Lib.hid (fun W => frameOf_any y W y0 y1)
      have HBX := Lib.hid hbox
      have HOW := Lib.hid hown
      have HBE := Lib.hid hbel
      clear hbox hown hbel
      gi_wp2_with (refine ⟨trivial, ?_⟩; gi_at_call 39; refine (CallsIn.inRound lid (callsIn_wide.2 (HF.out _))).mono ?_; rintro e w1 ⟨rfl, m1, rfl⟩)
      have hcd : (W.drewN m1).drew.cell? ⟨w.heap.size, 0, none⟩ = some v := hc
      have hfd : (W.drewN m1).drew.frozen? ⟨w.heap.size, 0, none⟩ = false := hf
      have hcA : ∀ q o, ((W.drewN q).alloc o).cell? ⟨w.heap.size, 0, none⟩ = some v := fun q o => Lib.cell?_alloc_some _ hc
      refine region_round hmx (by kernel_rfl) ?_
      refine wpAnyIn_take (i := 1) (v := ?_) rfl rfl (by kernel_rfl) (by kernel_rfl) (by kernel_rfl) (fun _ _ _ h => h) ⟨Or.inl ⟨by rfl, ?_⟩, fun _ => rfl⟩ ?_
      rotate_left
      · intro w; go_simp; with_reducible rfl
      refine wpAnyIn_take (i := 2) (v := ?_) rfl rfl (by kernel_rfl) (by kernel_rfl) (by kernel_rfl) (fun _ _ _ h => h) ⟨Or.inl ⟨by rfl, ?_⟩, fun _ => rfl⟩ ?_
      rotate_left
      · intro w; go_simp; with_reducible rfl
      refine wpAnyIn_take (i := 4) (v := ?_) rfl rfl (by kernel_rfl) (by kernel_rfl) (by kernel_rfl) (fun _ _ _ h => h) ⟨Or.inl ⟨by rfl, ?_⟩, fun _ => rfl⟩ ?_
      rotate_left
      · intro w; go_simp; with_reducible rfl
      refine wpAnyIn_ready (rs := [0, 3]) (by kernel_rfl) (by simp) ?_
      refine AllReadyIn.cons rfl (fun K hK => ?_) (AllReadyIn.cons rfl (fun K hK => ?_) AllReadyIn.nil)
      · go_simp
        refine hK _ _ ?_; clear hK K
        refine wpAnyIn_ready (rs := [3]) (by kernel_rfl) (by simp) ?_
        refine AllReadyIn.cons rfl (fun K hK => ?_) AllReadyIn.nil
        go_simp
        gi_wp2_with (refine ⟨trivial, ?_⟩; gi_at_call 29; refine (callsIn_wide.2 (HFR.out _)).mono ?_; rintro e w2 ⟨rfl, m2, rfl⟩)
        refine wpAnyIn_take (i := 5) (v := ?_) rfl rfl (by kernel_rfl) (by kernel_rfl) (by kernel_rfl) (fun _ _ _ h => h) ⟨Or.inl ⟨by rfl, ?_⟩, fun _ => rfl⟩ ?_
        rotate_left
        · intro w; go_simp; with_reducible rfl
        refine wpAnyIn_ready (rs := [6]) (by kernel_rfl) (by simp) ?_
        refine AllReadyIn.cons rfl (fun K hK => ?_) AllReadyIn.nil
        go_simp
        refine hK _ _ ?_; clear hK K
        refine wpAnyIn_ready (rs := [7]) (by kernel_rfl) (by simp) ?_
        refine AllReadyIn.cons rfl (fun K hK => ?_) AllReadyIn.nil
        refine stepIn_append rfl (.tmp 19) (.tmp 25) 37 rfl (w.heap.size + 3) 45 i0 _ 3 12 Try.underlying37 hi hz0 hz1 hz2 rfl (by decide) v (lsP l r pre).length (flatM (lsP l r pre)) (by first | rfl | simp [Act.eval, Act.put]) ((own_drewN HOW.out (m1 + 1 + m2)).alloc _) ⟨_, 0, none⟩ 1 1 (mC ((j : Int), frW y, y % 32)) (by first | rfl | simp [Act.eval, Act.put]) rfl (new_cells _ _ _ _ rfl) (one_mp _) (by unfold maxLen; omega) (by omega) (by simp; omega) ?_
        intro v4 w4 hown4 hg4
        refine hK _ _ ?_; clear hK K
        obtain ⟨ga, gcap, rfl⟩ := own_some hown4 (by omega)
        obtain ⟨hc4, hf4⟩ := box_cell (ls_box hsz HBX.out HOW.out hg4)
        refine wpAnyIn_ready (rs := [8]) (by kernel_rfl) (by simp) ?_
        refine AllReadyIn.cons rfl (fun K hK => ?_) AllReadyIn.nil
        go_simp
        refine hK _ _ ?_; clear hK K
        refine wpAnyIn_done (by kernel_rfl) ?_ _
        exact ls_end hsz HBX.out HOW.out HBE.out hg4 hown4 (by rw [HSN.out, he.out]; simp) (by rw [HSN.out, he.out]; exact (flatM_snoc _ _).symm)
      · go_simp
        gi_wp2_with (refine ⟨trivial, ?_⟩; gi_at_call 29; refine (callsIn_wide.2 (HFR.out _)).mono ?_; rintro e w2 ⟨rfl, m2, rfl⟩)
        refine wpAnyIn_take (i := 5) (v := ?_) rfl rfl (by kernel_rfl) (by kernel_rfl) (by kernel_rfl) (fun _ _ _ h => h) ⟨Or.inl ⟨by rfl, ?_⟩, fun _ => rfl⟩ ?_
        rotate_left
        · intro w; go_simp; with_reducible rfl
        refine wpAnyIn_ready (rs := [0, 6]) (by kernel_rfl) (by simp) ?_
        refine AllReadyIn.cons rfl (fun K hK => ?_) (AllReadyIn.cons rfl (fun K hK => ?_) AllReadyIn.nil)
        · go_simp
          refine hK _ _ ?_; clear hK K
          refine wpAnyIn_ready (rs := [6]) (by kernel_rfl) (by simp) ?_
          refine AllReadyIn.cons rfl (fun K hK => ?_) AllReadyIn.nil
          go_simp
          refine hK _ _ ?_; clear hK K
          refine wpAnyIn_ready (rs := [7]) (by kernel_rfl) (by simp) ?_
          refine AllReadyIn.cons rfl (fun K hK => ?_) AllReadyIn.nil
          refine stepIn_append rfl (.tmp 19) (.tmp 25) 37 rfl (w.heap.size + 3) 45 i0 _ 3 12 Try.underlying37 hi hz0 hz1 hz2 rfl (by decide) v (lsP l r pre).length (flatM (lsP l r pre)) (by first | rfl | simp [Act.eval, Act.put]) ((own_drewN HOW.out (m1 + 1 + m2)).alloc _) ⟨_, 0, none⟩ 1 1 (mC ((j : Int), frW y, y % 32)) (by first | rfl | simp [Act.eval, Act.put]) rfl (new_cells _ _ _ _ rfl) (one_mp _) (by unfold maxLen; omega) (by omega) (by simp; omega) ?_
          intro v4 w4 hown4 hg4
          refine hK _ _ ?_; clear hK K
          obtain ⟨ga, gcap, rfl⟩ := own_some hown4 (by omega)
          obtain ⟨hc4, hf4⟩ := box_cell (ls_box hsz HBX.out HOW.out hg4)
          refine wpAnyIn_ready (rs := [8]) (by kernel_rfl) (by simp) ?_
          refine AllReadyIn.cons rfl (fun K hK => ?_) AllReadyIn.nil
          go_simp
          refine hK _ _ ?_; clear hK K
          refine wpAnyIn_done (by kernel_rfl) ?_ _
          exact ls_end hsz HBX.out HOW.out HBE.out hg4 hown4 (by rw [HSN.out, he.out]; simp) (by rw [HSN.out, he.out]; exact (flatM_snoc _ _).symm)
        · go_simp
          refine hK _ _ ?_; clear hK K
          refine wpAnyIn_ready (rs := [0]) (by kernel_rfl) (by simp) ?_
          refine AllReadyIn.cons rfl (fun K hK => ?_) AllReadyIn.nil
          go_simp
          refine hK _ _ ?_; clear hK K
          refine wpAnyIn_ready (rs := [7]) (by kernel_rfl) (by simp) ?_
          refine AllReadyIn.cons rfl (fun K hK => ?_) AllReadyIn.nil
          refine stepIn_append rfl (.tmp 19) (.tmp 25) 37 rfl (w.heap.size + 3) 45 i0 _ 3 12 Try.underlying37 hi hz0 hz1 hz2 rfl (by decide) v (lsP l r pre).length (flatM (lsP l r pre)) (by first | rfl | simp [Act.eval, Act.put]) ((own_drewN HOW.out (m1 + 1 + m2)).alloc _) ⟨_, 0, none⟩ 1 1 (mC ((j : Int), frW y, y % 32)) (by first | rfl | simp [Act.eval, Act.put]) rfl (new_cells _ _ _ _ rfl) (one_mp _) (by unfold maxLen; omega) (by omega) (by simp; omega) ?_
          intro v4 w4 hown4 hg4
          refine hK _ _ ?_; clear hK K
          obtain ⟨ga, gcap, rfl⟩ := own_some hown4 (by omega)
          obtain ⟨hc4, hf4⟩ := box_cell (ls_box hsz HBX.out HOW.out hg4)
          refine wpAnyIn_ready (rs := [8]) (by kernel_rfl) (by simp) ?_
          refine AllReadyIn.cons rfl (fun K hK => ?_) AllReadyIn.nil
          go_simp
          refine hK _ _ ?_; clear hK K
          refine wpAnyIn_done (by kernel_rfl) ?_ _
          exact ls_end hsz HBX.out HOW.out HBE.out hg4 hown4 (by rw [HSN.out, he.out]; simp) (by rw [HSN.out, he.out]; exact (flatM_snoc _ _).symm)
    · have he : Hid (enM y j = []) := by show _ = _; unfold enM; rw [if_neg hv]
      have q1' : (bits .and .u32 y 1 != 0) = false := by rw [q1]; simp; omega
      clear q1 hI
      gi_wp2
      have hI2 : LsAt w l r (pre ++ [⟨j, hj⟩]) W := by
        unfold LsAt
        rw [HSN.out, he.out, List.append_nil]
        exact HI.out
      exact ⟨KeepsOthers.refl _, KeepP.refl _ _ _, hI2⟩
  case done =>
    rintro D ys W hD hys hI hK
    obtain ⟨⟨v, hbox, hown⟩, hbel, hsz⟩ := hI
    obtain ⟨hc, hf⟩ := box_cell hbox
    have HOW := Lib.hid hown
    have HBE := Lib.hid hbel
    have HLS := Lib.hid (lsP_all l r (pgN n r) ys hys)
    clear hbox hown hbel
    gi_wp2
    refine ⟨by simp, .inl ⟨_, _, rfl, run_takeDeferred hK, ?_⟩⟩
    refine ⟨_, results_tmp rfl _ _ _, ⟨_, rfl, ?_⟩, HBE.out.trans (belowK_b (w := w) (Nat.le_refl _) W D _ _ (by omega) hK rfl rfl)⟩
    rw [← HLS.out]
    exact own_base (row_kept HOW.out (grownBy_putObj' W D _) (fun r e => by cases e; exact ⟨_, hK, rfl⟩)) (by omega)
  case stop =>
    rintro D c pre W _ _ h _
    exact h.elim
end Go.Proofs.Ytleljcpljhpoaaa
