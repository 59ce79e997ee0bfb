import Derived.Test.YtegaookkfjgepaaDoorAsmFn11
import Derived.Deep.RegionLaw
namespace Go.Proofs.YtegaookkfjgepaaDoor
set_option linter.unusedVariables false
set_option linter.unusedSimpArgs false
open Go.ChangeShapes Go.WideShapes Go.ChangeAt Go.RowKit Go.Proofs.YtegaookkfjgepaaDoor.Num Go.Proofs.YtegaookkfjgepaaDoor.Mem Go.Proofs.YtegaookkfjgepaaDoor.Asm
theorem step_append_own2 {P : Program} {w : World} {ops : Array Oper} {o : Oper} {a : Act} {K : Act → World → Prop} {Q : Exit → Act → World → Prop} {E : Prop} (hgd : o.guard = none) (s x : Operand) (t : TypeId)
    (ho : o.op = .call { callee := .builtin .append, args := #[s, x], argTypes := #[t, t] })
    (base : Nat) (e : TypeId) (i : TypeInfo) (z : Value) (size bytes : Nat) (ht : P.underlying t = some (.slice e)) (hi : P.info? e = some i) (hz : i.zero = some z)
    (hsize : i.size = size) (hby : i.bytes = bytes) (hzs : z.cells.size = size) (hsz : 0 < size)
    (v : Value) (n : Nat) (xs : List Value) (hs : a.eval s = v) (hown : w.ownsRow base e size v n xs)
    (ad : Addr) (m c : Nat) (news : List Value) (hx : a.eval x = .slice (some ad) m c) (hl : news.length = m * size) (hnews : ∀ j u, news[j]? = some u → w.cell? (ad.add j) = some u) (h1 : ∀ u ∈ news, u.oneCell' = true)
    (h63 : n + m ≤ maxLen) (hbytes : (n + m) * bytes ≤ 140737488355328) (hbase : base ≤ w.heap.size) (hm : 0 < m)
    (h : ∀ v' w', w'.ownsRow base e size v' (n + m) (xs ++ news) → w.grownBy w' v.ownBlock → (v'.ownBlock = v.ownBlock ∨ v'.ownBlock = some w.heap.size) → K (a.put o.dst v') w') :
    if Region.wanted o (yielded ops a.tmps) = true then Oper.wp P o a w K Q else E := by
  have hw : Region.wanted o (yielded ops a.tmps) = true := by simp [Region.wanted, hgd]
  rw [if_pos hw]
  obtain ⟨v', w', hr, h2, h3, _⟩ := run_append_own (P := P) w base t o.type e i z size bytes ht hi hz hsize hby hzs hsz v n xs hown ad m c news hl hnews h1 h63 hbytes hbase
  have h5 := append_where ht hi hz hsize hby hown hl hnews h1 h63 hbytes hm hr
  unfold Oper.wp execOp
  simp only [ho, resolve, invoke, builtin, Sem.run_bind, Sem.run_pure, Result.andThen_ok, List.map_toArray, List.map_cons, List.map_nil, hs, hx, hr]
  exact h v' w' h2 h3 h5
theorem new_cells_g {W : World} {g : Nat} {xs : List Value} {T : TypeId} (hh : W.heap[g]? = some (.cells xs.toArray T (0, 0))) : ∀ j u, xs[j]? = some u → W.cell? ((⟨g, 0, none⟩ : Addr).add j) = some u := by
  intro j u h
  rw [add_plain, Nat.zero_add]
  exact cell_blk hh j (by simpa using h)
theorem heap2 (wr : World) (o o2 : Obj) : ((wr.alloc o).alloc o2).heap[wr.heap.size + 1]? = some o2 := by
  have := heap_alloc_new (wr.alloc o) o2
  simpa using this
theorem keep_g {W w1 : World} {B : Nat} {e : TypeId} {size : Nat} {v : Value} {n : Nat} {xs : List Value} (hown : W.ownsRow B e size v n xs) (hg : W.grownBy w1 v.ownBlock) (k : Nat) (obj : Obj) (hk : W.heap[k]? = some obj) (hne : ∀ c z, obj ≠ .cells c e z) : w1.heap[k]? = some obj := by
  have ne : some k ≠ v.ownBlock := fun he => by
    obtain ⟨cur, hc, _⟩ := own_type hown he.symm
    rw [hk] at hc
    exact hne cur (0, 0) (Option.some.inj hc)
  rw [hg.block k (lt_of_block hk) ne]
  exact hk
theorem num_len (n : Int) (ds dd : List Draft) (k : Nat) (hk : k ≤ dd.length) : (ds ++ numbered n (dd.take k)).length = ds.length + k := by
  simp [numbered, Nat.min_eq_left hk]
theorem own_lt {w : World} {base : Nat} {e : TypeId} {size : Nat} {v : Value} {n : Nat} {xs : List Value} (h : w.ownsRow base e size v n xs) {g : Nat} (hg : v.ownBlock = some g) : g < w.heap.size := by
  obtain ⟨cur, hc, _⟩ := own_type h hg
  exact lt_of_block hc
theorem after5 {B P M b0 n : Nat} {w wr W w5 : World} {vs' vd' v5 vd3 : Value} {syms : List (Bs × Nat)} {L : List Draft} {d : Draft} {xs : List Value} (hP : PrgV B wr P M vs' vd' syms L) (hW : Below wr.heap.size wr W) (hg : W.grownBy w5 vd'.ownBlock)
    (hown : w5.ownsRow B 130 9 v5 (L.length + 1) (flat L ++ dCells d)) (hwh : v5.ownBlock = vd'.ownBlock ∨ v5.ownBlock = some W.heap.size) (hD : wr.ownsRow b0 130 9 vd3 n xs) (hne : ∀ g, vd3.ownBlock = some g → vd'.ownBlock ≠ some g)
    (hb : Below B w wr) (hBw : B ≤ wr.heap.size) (hBP : B ≤ P) :
    w5.heap[P]? = some (.cells #[vs', .map (some M), vd'] 110 (0, 0)) ∧ PrgV B (w5.setCell ⟨P, 2, none⟩ v5) P M vs' v5 syms (L ++ [d]) ∧ Frame P M wr (w5.setCell ⟨P, 2, none⟩ v5) ∧ Below B w (w5.setCell ⟨P, 2, none⟩ v5) ∧
    (w5.setCell ⟨P, 2, none⟩ v5).ownsRow b0 130 9 vd3 n xs ∧ (∀ g, vd3.ownBlock = some g → v5.ownBlock ≠ some g) := by
  have hPW := hP.on hW
  have keep := keep_g hPW.rd hg
  have blk := keep P _ hPW.blk (by intro c z h; cases h)
  have map := keep M _ hPW.map (by intro c z h; unfold symM at h; cases h)
  have hown' : w5.ownsRow B 130 9 v5 (L ++ [d]).length (flat (L ++ [d])) := by rw [flat_snoc]; simpa using hown
  have hrs : w5.ownsRow B 51 2 vs' syms.length (flatS syms) := own_other hPW.rs fun g cur _ hg => keep g _ hg (by intro c z h; cases h)
  have hDW := own_below hD hW
  have hD5 : w5.ownsRow b0 130 9 vd3 n xs := own_other hDW fun g cur hv hg' => by
    rw [hg.block g (lt_of_block hg') (fun e => hne g hv e.symm)]; exact hg'
  refine ⟨blk, ⟨set_blk blk 2 v5, set_prg (cs := #[]) (T := 0) 2 v5 M _ map ?_, ?_, ?_⟩, fun k o hk h1 h2 h3 h4 => ?_, ?_, ?_, ?_⟩
  · intro e; rw [e, blk] at map; unfold symM at map; cases map
  · exact ownsRow_setCell_other hrs (own_ne hrs blk (by decide)) v5
  · exact ownsRow_setCell_other hown' (own_ne hown' blk (by decide)) v5
  · exact set_prg (cs := #[]) (T := 0) 2 v5 k o (keep k o (heap_below hk hW) h4) h1
  · have h1 : Below B w W := hb.trans (hW.mono hBw)
    exact (h1.grown hg (Nat.le_trans hBw hW.size) (fun k hk => (hPW.rd.lt k hk).1)).setCell hBP _
  · exact ownsRow_setCell_other hD5 (own_ne hD5 blk (by decide)) v5
  · intro g hv he
    rcases hwh with h | h
    · exact hne g hv (h ▸ he)
    · rw [h] at he
      injection he with he
      have := own_lt hDW hv
      omega
theorem num_step {B P M : Nat} {w : World} {vs vd : Value} {syms : List (Bs × Nat)} {ds dd : List Draft} {n : Int} {k : Nat} {hk : k < dd.length} {d : Draft} {L : List Draft} (hd : dd[k] = d) (hL : ds ++ numbered n (dd.take k) = L) (h : PrgV B w P M vs vd syms (L ++ [{ d with line := n }])) :
    PrgV B w P M vs vd syms (ds ++ numbered n (dd.take (k + 1))) := by
  subst hL
  rw [List.take_succ_eq_append_getElem hk, hd]
  simpa [numbered] using h
theorem addPost_large {B P M : Nat} {number : Int} {syms : List (Bs × Nat)} {ds dd : List Draft} {lab : Bs} {w w' : World} (h : ¬ (lab ≠ [] ∧ (lookS syms lab).isSome = true)) (hbig : 1024 < (ds ++ numbered number dd).length) (hb : Below B w w') :
    AddPost B P M number syms ds (some (lab, dd)) w (.returned (.int .i64 305)) w' := by
  unfold AddPost
  dsimp only
  rw [if_neg h, if_pos hbig]
  exact ⟨rfl, hb⟩
theorem addPost_ok {B P M : Nat} {number : Int} {syms : List (Bs × Nat)} {ds dd : List Draft} {lab : Bs} {w w' : World} {vs vd : Value} (h : ¬ (lab ≠ [] ∧ (lookS syms lab).isSome = true)) (hbig : ¬ 1024 < (ds ++ numbered number dd).length)
    (hp : PrgV B w' P M vs vd (addSyms syms ds lab) (ds ++ numbered number dd)) (hb : Below B w w') (hf : Frame P M w w') :
    AddPost B P M number syms ds (some (lab, dd)) w (.returned (.int .i64 0)) w' := by
  unfold AddPost
  dsimp only
  rw [if_neg h, if_neg hbig]
  exact ⟨rfl, ⟨vs, vd, hp⟩, hb, hf⟩
theorem addPost_twice {B P M : Nat} {number : Int} {syms : List (Bs × Nat)} {ds dd : List Draft} {lab : Bs} {w w' : World} {e : Ending} (h : lab ≠ [] ∧ (lookS syms lab).isSome = true) (hx : e = .returned (.int .i64 303) ∧ Below B w w') :
    AddPost B P M number syms ds (some (lab, dd)) w e w' := by
  unfold AddPost
  dsimp only
  rw [if_pos h]
  exact hx
/-- The state of addLine's loop. -/
def AddRel (B P M : Nat) (number : Int) (syms : List (Bs × Nat)) (ds dd : List Draft) (b0 : Nat) (vd3 : Value) (w : World) (i : Value) (wr : World) : Prop :=
  ∃ (k : Nat) (vs vd : Value), k ≤ dd.length ∧ i = .int .i64 k ∧ PrgV B wr P M vs vd syms (ds ++ numbered number (dd.take k)) ∧ wr.ownsRow b0 130 9 vd3 dd.length (flat dd) ∧ (∀ g, vd3.ownBlock = some g → vd.ownBlock ≠ some g) ∧ Below B w wr ∧ Frame P M w wr
theorem own_shape {w : World} {base : Nat} {e : TypeId} {size : Nat} {v : Value} {n : Nat} {xs : List Value} (h : w.ownsRow base e size v n xs) : ∃ oa cap, v = .slice oa n cap := by
  rcases h.2 with ⟨rfl, rfl⟩ | ⟨g, cap, cur, rfl, _⟩
  · exact ⟨none, 0, rfl⟩
  · exact ⟨_, cap, rfl⟩
theorem own_at {w : World} {base : Nat} {e : TypeId} {oa : Option Addr} {n cap : Nat} {ds : List Draft} (h : w.ownsRow base e 9 (.slice oa n cap) n (flat ds)) (hn : 0 < n) : ∃ g, oa = some ⟨g, 0, none⟩ ∧ ∀ j, j < n * 9 → w.cell? ⟨g, j, none⟩ = (flat ds)[j]? := by
  have h' := h
  rcases h.2 with ⟨h1, h2⟩ | ⟨g, cap', cur, h1, _⟩
  · omega
  · injection h1 with h1 _ _
    subst h1
    exact ⟨g, rfl, fun j hj => h'.cellAt j hj⟩
theorem flat_get (ds : List Draft) : ∀ (k : Nat) (hk : k < ds.length) (i : Nat), i < 9 → (flat ds)[k * 9 + i]? = (dCells ds[k])[i]? := by
  induction ds with
  | nil => intro k hk; simp at hk
  | cons d ds ih =>
    intro k hk i hi
    have e : flat (d :: ds) = dCells d ++ flat ds := rfl
    rw [e]
    cases k with
    | zero => rw [List.getElem?_append_left (by simp [dCells]; omega)]; simp
    | succ k =>
      rw [List.getElem?_append_right (by simp [dCells]; omega)]
      have := ih k (by simpa using hk) i hi
      rw [show (k + 1) * 9 + i - (dCells d).length = k * 9 + i by simp [dCells]; omega, this]
      simp
set_option maxRecDepth 100000 in
set_option maxHeartbeats 8000000 in
theorem add_plain (B R P M : Nat) (vs vd : Value) (line : ByteArray) (number : Int) (syms : List (Bs × Nat)) (ds : List Draft) (w : World) (dd : List Draft) (hs : line.size ≤ 100000) (hR : w.heap[R]? = some (.map (tabA 49) 49)) (hB : B ≤ w.heap.size) (hBP : B ≤ P)
    (hp : PrgV B w P M vs vd syms ds) (lab : Bs) (hl : lineR line.data.toList = some (lab, dd)) (h0 : lab = []) (hd : ds.length ≤ 2048) (hd2 : dd.length ≤ 1024) :
    Calls Tryd.prog 74 #[.pointer (some ⟨P, 0, none⟩), .map (some R), .string line, .int .i64 number] w (AddPost B P M number syms ds (some (lab, dd)) w) := by
  have HT := Lib.hid (fun W => toks_ct line W hs)
  have hne := toksL_ne line.data.toList
  have hbd := tk_bound line hs
  replace hl := lineR_some hl
  generalize toksL line.data.toList = ts at *
  have HR := Lib.hid hR
  have HN := Lib.hid hne
  clear hR
  obtain ⟨rest, hlab, hst⟩ := hl
  obtain ⟨hn2, hl2⟩ := labelL_ne hne hlab
  have hlb := fun v W (h : Toks W v ts) => label_asm v ts W h hne hbd
  rw [hlab] at hlb
  have HL := Lib.hid (show ∀ v W, Toks W v ts → Calls Tryd.prog 92 #[v] W fun e w' => (∃ v', e = .returned (.tuple #[.string (S lab), v', .bool true]) ∧ Toks W v' rest) ∧ ∃ m, w' = W.drewN m from hlb)
  have hsm := fun v W (h : Toks W v rest) (hb : W.heap[R]? = some (.map (tabA 49) 49)) => statement_toks R v rest W h hb (by dsimp only at hl2; omega) hn2
  rw [hst] at hsm
  have HSM := Lib.hid (show ∀ v W, Toks W v rest → W.heap[R]? = some (.map (tabA 49) 49) → Calls Tryd.prog 94 #[.map (some R), v] W fun e w' => (∃ vd', e = .returned (.tuple #[vd', .bool true]) ∧ w'.ownsRow W.heap.size 130 9 vd' dd.length (flat dd)) ∧ Below W.heap.size W w' from hsm)
  have HP := Lib.hid hp
  have q1 : (S lab).toList = [] := by rw [toL, S_list, h0]
  have q2 : (S lab).toList.isEmpty = true := by rw [q1]; rfl
  have H0 := Lib.hid h0
  clear h0
  clear hlb hlab hne hsm hst hn2 hl2 hp
  go_enter Tryd.func74, Tryd.ntmps74
  go_wp2_with (first
      | (go_at_call 93; (with_reducible refine (HT.out _).mono ?_); rintro e w1 ⟨⟨v1, rfl, ht1⟩, hb1⟩; have HT1 := Lib.hid ht1; have HR1 := Lib.hid (heap_below HR.out hb1); have HP1 := Lib.hid (HP.out.on hb1); clear ht1)
      | (go_at_call 92; (with_reducible refine (HL.out _ _ HT1.out).mono ?_); rintro e w2 ⟨⟨v2, rfl, ht2⟩, m, rfl⟩; have HT2 := Lib.hid (ht2.on (drewN_below w1 m)); have HR2 := Lib.hid (heap_below HR1.out (drewN_below w1 m)); have HP2 := Lib.hid (HP1.out.on (drewN_below w1 m)); clear ht2)
      | (go_at_call 94; (with_reducible refine (HSM.out _ _ HT2.out HR2.out).mono ?_); rintro e w3 ⟨⟨vd3, rfl, hown3⟩, hb3⟩; obtain ⟨oa, cap3, rfl⟩ := own_shape hown3; have HD3 := Lib.hid hown3; have HP3 := Lib.hid (HP2.out.on hb3); have HB3 := Lib.hid hb3; clear hown3 hb3))
  go_loopw [42] (fun i wr => AddRel B P M number syms ds dd (w1.drewN m).heap.size (.slice oa dd.length cap3) w i wr) (fun i _ => dd.length - (intOf i).toNat)
  case atStart =>
    refine ⟨0, vs, vd, by omega, rfl, by simpa [numbered] using HP3.out, HD3.out, fun g hg he => ?_, ?_, ?_⟩
    · obtain ⟨_, _, h2⟩ := own_type HD3.out hg
      have := own_lt HP2.out.rd he
      omega
    · exact below_step' hb1 hB HB3.out
    · exact Frame.below (below_step (below_drewN hb1 m) HB3.out)
  case round =>
    obtain ⟨k, vs', vd', hk, rfl, hP, hD, hne', hbw, hfr⟩ := hrel
    by_cases hlt : k < dd.length
    · obtain ⟨G, hG, hcell⟩ := own_at hD (by omega)
      subst hG
      obtain ⟨d, hd⟩ : ∃ d, dd[k] = d := ⟨_, rfl⟩
      have hc : ∀ i v, i < 9 → (dCells d)[i]? = some v → wr.cell? ⟨G, k * 9 + i, none⟩ = some v := fun i v hi hv => by
        rw [hcell _ (by omega), flat_get dd k hlt i hi, hd]; exact hv
      have e0 : wr.cell? ⟨G, k * 9, none⟩ = some (.int .i64 d.line) := hc 0 _ (by omega) rfl
      have e1 := hc 1 _ (by omega) rfl
      have e2 := hc 2 _ (by omega) rfl
      have e3 := hc 3 _ (by omega) rfl
      have e4 := hc 4 _ (by omega) rfl
      have e5 := hc 5 _ (by omega) rfl
      have e6 := hc 6 _ (by omega) rfl
      have e7 := hc 7 _ (by omega) rfl
      have e8 := hc 8 _ (by omega) rfl
      have HP := Lib.hid hP
      have HD := Lib.hid hD
      have HNE := Lib.hid hne'
      have HF := Lib.hid hfr
      have Hd := Lib.hid hd
      clear hP hD hne' hfr hd hcell hc
      have hL2 : (ds ++ numbered number (dd.take k)).length ≤ 4000 := by rw [num_len number ds dd k hk]; omega
      generalize hLL : ds ++ numbered number (dd.take k) = L at *
      have HLL := Lib.hid hLL
      clear hLL
      have hBw : B ≤ wr.heap.size := Nat.le_trans hB hbw.size
      have p2 : wr.cell? ⟨P, 2, none⟩ = some vd' := cell_blk HP.out.blk 2 rfl
      have p3 : ∀ o, (wr.alloc o).cell? ⟨P, 2, none⟩ = some vd' := fun o => still p2 ((Below.refl _ _).alloc (Nat.le_refl _) _)
      have p4 : ∀ o o2, ((wr.alloc o).alloc o2).cell? ⟨P, 2, none⟩ = some vd' := fun o o2 => still (p3 o) ((Below.refl _ _).alloc (Nat.le_refl _) _)
      obtain ⟨i0, hi, hz0, hz1, hz2⟩ := info_parts info_draft
      go_wp2
      go_region_law ((refine step_append_own2 (by rfl) (.tmp 52) (.tmp 54) 108 (by rfl) B 130 i0 _ 9 80 Tryd.underlying108 hi hz0 hz1 hz2 (by rfl) (by decide) vd' L.length (flat L) (by first | rfl | simp [Act.eval, Act.put]) (own_below HP.out.rd (by repeat' (first | with_reducible exact Below.refl _ _ | with_reducible apply below_drewN | with_reducible apply Below.drew | with_reducible apply Below.alloc | (simp; done) | (simp; omega)))) ⟨wr.heap.size + 1, 0, none⟩ 1 1 (dCells { d with line := number }) (by first | rfl | simp [Act.eval, Act.put]) (by rfl) (new_cells_g (heap2 wr _ _)) (one_cells9 _) (by unfold maxLen; omega) (by omega) (by simp; omega) (by omega) ?_; intro v' w5 hown5 hg5 hwh; obtain ⟨ga, gcap, hv⟩ := own_some hown5 (by omega); subst hv; have A5 := Lib.hid (after5 HP.out (by repeat' (first | with_reducible exact Below.refl _ _ | with_reducible apply below_drewN | with_reducible apply Below.drew | with_reducible apply Below.alloc | (simp; done) | (simp; omega))) hg5 hown5 hwh HD.out HNE.out hbw hBw hBP); have k2 := cell_blk A5.out.1 2 rfl; have z2 := free_blk A5.out.1 2; clear hown5 hg5 hwh))
      all_goals go_wp2
      all_goals (go_roundw; (case rel => exact ⟨k + 1, vs', _, by omega, by go_num, num_step Hd.out HLL.out A5.out.2.1, A5.out.2.2.2.2.1, A5.out.2.2.2.2.2, A5.out.2.2.2.1, HF.out.trans A5.out.2.2.1⟩); (case measure => simp [intOf]; omega))
    · have hke : k = dd.length := by omega
      subst hke
      rw [List.take_length] at hP
      obtain ⟨od, dcap, hv⟩ := own_shape hP.rd
      subst hv
      have p2 := cell_blk hP.blk 2 rfl
      have HP := Lib.hid hP
      have HF := Lib.hid hfr
      have hL := Lib.hid (num_len number ds dd dd.length (Nat.le_refl _))
      rw [List.take_length] at hL
      have hL2 : (ds ++ numbered number dd).length ≤ 4000 := by rw [hL.out]; omega
      clear hP hD hne' hfr
      by_cases hbig : 1024 < (ds ++ numbered number dd).length
      · have hbI : (1024 : Int) < (ds.length : Int) + ((numbered number dd).length : Int) := by have h := hbig; simp only [List.length_append] at h; omega
        go_wp2
        go_ret
        exact addPost_large (by rw [H0.out]; simp) hbig hbw
      · have hbI : (ds.length : Int) + ((numbered number dd).length : Int) ≤ 1024 := by have h := hbig; simp only [List.length_append] at h; omega
        go_wp2
        go_ret
        have hs2 : addSyms syms ds lab = syms := by unfold addSyms; rw [if_pos H0.out]
        exact addPost_ok (by rw [H0.out]; simp) hbig (hs2.symm ▸ HP.out) hbw HF.out
set_option maxRecDepth 100000 in
set_option maxHeartbeats 8000000 in
theorem add_label (B R P M : Nat) (vs vd : Value) (line : ByteArray) (number : Int) (syms : List (Bs × Nat)) (ds : List Draft) (w : World) (dd : List Draft) (hs : line.size ≤ 100000) (hR : w.heap[R]? = some (.map (tabA 49) 49)) (hB : B ≤ w.heap.size) (hBP : B ≤ P)
    (hp : PrgV B w P M vs vd syms ds) (lab : Bs) (hl : lineR line.data.toList = some (lab, dd)) (h0 : lab ≠ []) (ht : lookS syms lab = none) (hBM : B ≤ M) (hsy : syms.length ≤ 100000) (hd : ds.length ≤ 2048) (hd2 : dd.length ≤ 1024) :
    Calls Tryd.prog 74 #[.pointer (some ⟨P, 0, none⟩), .map (some R), .string line, .int .i64 number] w (AddPost B P M number syms ds (some (lab, dd)) w) := by
  have HT := Lib.hid (fun W => toks_ct line W hs)
  have hne := toksL_ne line.data.toList
  have hbd := tk_bound line hs
  replace hl := lineR_some hl
  generalize toksL line.data.toList = ts at *
  have HR := Lib.hid hR
  have HN := Lib.hid hne
  clear hR
  obtain ⟨rest, hlab, hst⟩ := hl
  obtain ⟨hn2, hl2⟩ := labelL_ne hne hlab
  have hlb := fun v W (h : Toks W v ts) => label_asm v ts W h hne hbd
  rw [hlab] at hlb
  have HL := Lib.hid (show ∀ v W, Toks W v ts → Calls Tryd.prog 92 #[v] W fun e w' => (∃ v', e = .returned (.tuple #[.string (S lab), v', .bool true]) ∧ Toks W v' rest) ∧ ∃ m, w' = W.drewN m from hlb)
  have hsm := fun v W (h : Toks W v rest) (hb : W.heap[R]? = some (.map (tabA 49) 49)) => statement_toks R v rest W h hb (by dsimp only at hl2; omega) hn2
  rw [hst] at hsm
  have HSM := Lib.hid (show ∀ v W, Toks W v rest → W.heap[R]? = some (.map (tabA 49) 49) → Calls Tryd.prog 94 #[.map (some R), v] W fun e w' => (∃ vd', e = .returned (.tuple #[vd', .bool true]) ∧ w'.ownsRow W.heap.size 130 9 vd' dd.length (flat dd)) ∧ Below W.heap.size W w' from hsm)
  have HP := Lib.hid hp
  have q1 := toL_ne (S_pos h0)
  have q2 := toL_ne' (S_pos h0)
  have H0 := Lib.hid h0
  have H1 := Lib.hid ht
  have HDF := Lib.hid (show ∀ W, PrgV B W P M vs vd syms ds → Calls Tryd.prog 95 #[.pointer (some ⟨P, 0, none⟩), .string (S lab)] W fun e w' => e = .returned (.bool true) ∧ (∃ vs', PrgV B w' P M vs' vd (syms ++ [(lab, 4 * ds.length)]) ds) ∧ Below B W w' ∧ FrameS P M W w' from
    fun W h => define_new B P M vs vd syms ds lab W h ht hBP hBM (by omega) hsy)
  have hs2 : addSyms syms ds lab = syms ++ [(lab, 4 * ds.length)] := by unfold addSyms; rw [if_neg h0]
  have HS2 := Lib.hid hs2
  clear h0 ht hs2
  clear hlb hlab hne hsm hst hn2 hl2 hp
  go_enter Tryd.func74, Tryd.ntmps74
  go_wp2_with (first
      | (go_at_call 93; (with_reducible refine (HT.out _).mono ?_); rintro e w1 ⟨⟨v1, rfl, ht1⟩, hb1⟩; have HT1 := Lib.hid ht1; have HR1 := Lib.hid (heap_below HR.out hb1); have HP1 := Lib.hid (HP.out.on hb1); clear ht1)
      | (go_at_call 92; (with_reducible refine (HL.out _ _ HT1.out).mono ?_); rintro e w2 ⟨⟨v2, rfl, ht2⟩, m, rfl⟩; have HT2 := Lib.hid (ht2.on (drewN_below w1 m)); have HR2 := Lib.hid (heap_below HR1.out (drewN_below w1 m)); have HP2 := Lib.hid (HP1.out.on (drewN_below w1 m)); clear ht2)
      | (go_at_call 94; (with_reducible refine (HSM.out _ _ HT2.out HR2.out).mono ?_); rintro e w3 ⟨⟨vd3, rfl, hown3⟩, hb3⟩; obtain ⟨oa, cap3, rfl⟩ := own_shape hown3; have HD3 := Lib.hid hown3; have HP3 := Lib.hid (HP2.out.on hb3); have HB3 := Lib.hid hb3; clear hown3 hb3)
      | (go_at_call 95; (with_reducible refine (HDF.out _ HP3.out).mono ?_); rintro e w4 ⟨rfl, ⟨vs4, hp4⟩, hb4, hf4⟩; have HP4 := Lib.hid hp4; have HF4 := Lib.hid hf4; clear hp4 hf4))
  go_loopw [42] (fun i wr => AddRel B P M number (syms ++ [(lab, 4 * ds.length)]) ds dd (w1.drewN m).heap.size (.slice oa dd.length cap3) w i wr) (fun i _ => dd.length - (intOf i).toNat)
  case atStart =>
    refine ⟨0, vs4, vd, by omega, rfl, by simpa [numbered] using HP4.out, ?_, fun g hg he => ?_, ?_, ?_⟩
    · exact own_other HD3.out fun g cur hv hg => HF4.out g _ hg (fun e => by have := HP3.out.blk; rw [← e, hg] at this; cases this) (fun e => by have := HP3.out.map; rw [← e, hg] at this; unfold symM at this; cases this) (by intro c z h; cases h)
    · obtain ⟨_, _, h2⟩ := own_type HD3.out hg
      have := own_lt HP2.out.rd he
      omega
    · exact (below_step' hb1 hB HB3.out).trans hb4
    · exact (Frame.below (below_step (below_drewN hb1 m) HB3.out)).trans HF4.out.frame
  case round =>
    obtain ⟨k, vs', vd', hk, rfl, hP, hD, hne', hbw, hfr⟩ := hrel
    by_cases hlt : k < dd.length
    · obtain ⟨G, hG, hcell⟩ := own_at hD (by omega)
      subst hG
      obtain ⟨d, hd⟩ : ∃ d, dd[k] = d := ⟨_, rfl⟩
      have hc : ∀ i v, i < 9 → (dCells d)[i]? = some v → wr.cell? ⟨G, k * 9 + i, none⟩ = some v := fun i v hi hv => by
        rw [hcell _ (by omega), flat_get dd k hlt i hi, hd]; exact hv
      have e0 : wr.cell? ⟨G, k * 9, none⟩ = some (.int .i64 d.line) := hc 0 _ (by omega) rfl
      have e1 := hc 1 _ (by omega) rfl
      have e2 := hc 2 _ (by omega) rfl
      have e3 := hc 3 _ (by omega) rfl
      have e4 := hc 4 _ (by omega) rfl
      have e5 := hc 5 _ (by omega) rfl
      have e6 := hc 6 _ (by omega) rfl
      have e7 := hc 7 _ (by omega) rfl
      have e8 := hc 8 _ (by omega) rfl
      have HP := Lib.hid hP
      have HD := Lib.hid hD
      have HNE := Lib.hid hne'
      have HF := Lib.hid hfr
      have Hd := Lib.hid hd
      clear hP hD hne' hfr hd hcell hc
      have hL2 : (ds ++ numbered number (dd.take k)).length ≤ 4000 := by rw [num_len number ds dd k hk]; omega
      generalize hLL : ds ++ numbered number (dd.take k) = L at *
      have HLL := Lib.hid hLL
      clear hLL
      have hBw : B ≤ wr.heap.size := Nat.le_trans hB hbw.size
      have p2 : wr.cell? ⟨P, 2, none⟩ = some vd' := cell_blk HP.out.blk 2 rfl
      have p3 : ∀ o, (wr.alloc o).cell? ⟨P, 2, none⟩ = some vd' := fun o => still p2 ((Below.refl _ _).alloc (Nat.le_refl _) _)
      have p4 : ∀ o o2, ((wr.alloc o).alloc o2).cell? ⟨P, 2, none⟩ = some vd' := fun o o2 => still (p3 o) ((Below.refl _ _).alloc (Nat.le_refl _) _)
      obtain ⟨i0, hi, hz0, hz1, hz2⟩ := info_parts info_draft
      go_wp2
      go_region_law ((refine step_append_own2 (by rfl) (.tmp 52) (.tmp 54) 108 (by rfl) B 130 i0 _ 9 80 Tryd.underlying108 hi hz0 hz1 hz2 (by rfl) (by decide) vd' L.length (flat L) (by first | rfl | simp [Act.eval, Act.put]) (own_below HP.out.rd (by repeat' (first | with_reducible exact Below.refl _ _ | with_reducible apply below_drewN | with_reducible apply Below.drew | with_reducible apply Below.alloc | (simp; done) | (simp; omega)))) ⟨wr.heap.size + 1, 0, none⟩ 1 1 (dCells { d with line := number }) (by first | rfl | simp [Act.eval, Act.put]) (by rfl) (new_cells_g (heap2 wr _ _)) (one_cells9 _) (by unfold maxLen; omega) (by omega) (by simp; omega) (by omega) ?_; intro v' w5 hown5 hg5 hwh; obtain ⟨ga, gcap, hv⟩ := own_some hown5 (by omega); subst hv; have A5 := Lib.hid (after5 HP.out (by repeat' (first | with_reducible exact Below.refl _ _ | with_reducible apply below_drewN | with_reducible apply Below.drew | with_reducible apply Below.alloc | (simp; done) | (simp; omega))) hg5 hown5 hwh HD.out HNE.out hbw hBw hBP); have k2 := cell_blk A5.out.1 2 rfl; have z2 := free_blk A5.out.1 2; clear hown5 hg5 hwh))
      all_goals go_wp2
      all_goals (go_roundw; (case rel => exact ⟨k + 1, vs', _, by omega, by go_num, num_step Hd.out HLL.out A5.out.2.1, A5.out.2.2.2.2.1, A5.out.2.2.2.2.2, A5.out.2.2.2.1, HF.out.trans A5.out.2.2.1⟩); (case measure => simp [intOf]; omega))
    · have hke : k = dd.length := by omega
      subst hke
      rw [List.take_length] at hP
      obtain ⟨od, dcap, hv⟩ := own_shape hP.rd
      subst hv
      have p2 := cell_blk hP.blk 2 rfl
      have HP := Lib.hid hP
      have HF := Lib.hid hfr
      have hL := Lib.hid (num_len number ds dd dd.length (Nat.le_refl _))
      rw [List.take_length] at hL
      have hL2 : (ds ++ numbered number dd).length ≤ 4000 := by rw [hL.out]; omega
      clear hP hD hne' hfr
      by_cases hbig : 1024 < (ds ++ numbered number dd).length
      · have hbI : (1024 : Int) < (ds.length : Int) + ((numbered number dd).length : Int) := by have h := hbig; simp only [List.length_append] at h; omega
        go_wp2
        go_ret
        exact addPost_large (by rw [H1.out]; simp) hbig hbw
      · have hbI : (ds.length : Int) + ((numbered number dd).length : Int) ≤ 1024 := by have h := hbig; simp only [List.length_append] at h; omega
        go_wp2
        go_ret
        exact addPost_ok (by rw [H1.out]; simp) hbig (HS2.out.symm ▸ HP.out) hbw HF.out
end Go.Proofs.YtegaookkfjgepaaDoor
