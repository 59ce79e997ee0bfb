import Derived.Test.YtegaookkfjgepaaDoorAsmFn14
namespace Go.Proofs.YtegaookkfjgepaaDoor
set_option linter.unusedVariables false
set_option linter.unusedSimpArgs false
open Go.ChangeShapes Go.WideShapes Go.ChangeAt Go.RowKit Go.Proofs.YtegaookkfjgepaaDoor.Num Go.Proofs.YtegaookkfjgepaaDoor.Isa Go.Proofs.YtegaookkfjgepaaDoor.Mem Go.Proofs.YtegaookkfjgepaaDoor.Asm
/-- The second pass: the words, or the first error and its line. -/
def codeL (syms : List (Bs × Nat)) : List Draft → List Int → Sum (Int × Int) (List Int)
  | [], acc => .inr acc
  | d :: ds, acc => if (finL syms d (4 * (acc.length : Int))).2 = 0 then codeL syms ds (acc ++ [(finL syms d (4 * (acc.length : Int))).1]) else .inl ((finL syms d (4 * (acc.length : Int))).2, d.line)
theorem code_ok {syms : List (Bs × Nat)} {d : Draft} {ds : List Draft} {acc : List Int} (h : (finL syms d (4 * (acc.length : Int))).2 = 0) : codeL syms (d :: ds) acc = codeL syms ds (acc ++ [(finL syms d (4 * (acc.length : Int))).1]) := by simp only [codeL, if_pos h]
theorem code_bad {syms : List (Bs × Nat)} {d : Draft} {ds : List Draft} {acc : List Int} (h : ¬ (finL syms d (4 * (acc.length : Int))).2 = 0) : codeL syms (d :: ds) acc = .inl ((finL syms d (4 * (acc.length : Int))).2, d.line) := by simp only [codeL, if_neg h]
def u32V (x : Int) : Value := .int .u32 x
theorem info_u32 : (Tryd.prog.info? 47).map (fun i => (i.zero, i.size, i.bytes)) = some (some (.int .u32 0), 1, 4) := by kernel_rfl
theorem one_u32 (x : Int) : ∀ u ∈ [Value.int .u32 x], u.oneCell' = true := by simp [Value.oneCell']
theorem snoc_u32 {w : World} {base : Nat} {v : Value} {n : Nat} {acc : List Int} {t : Int} (h : w.ownsRow base 47 1 v (n + 1) (acc.map u32V ++ [.int .u32 t])) (hn : n = acc.length) : w.ownsRow base 47 1 v (acc ++ [t]).length ((acc ++ [t]).map u32V) := by
  subst hn; simpa [u32V] using h
def CodePost (r : Sum (Int × Int) (List Int)) (w : World) (e : Ending) (w' : World) : Prop :=
  (match r with
  | .inl (err, line) => e = .returned (.tuple #[.slice none 0 0, .agg #[.int .i64 err, .int .i64 line]])
  | .inr ws => ∃ v, e = .returned (.tuple #[v, .agg #[.int .i64 0, .int .i64 0]]) ∧ w'.ownsRow w.heap.size 47 1 v ws.length (ws.map u32V)) ∧ Below w.heap.size w w'
theorem results_slot_cell {fn : Func} {p u : Tmp} {ty : TypeId} (h : fn.results = #[.tmp u, .cell p ty]) (tmps : Array Value) (P : Program) (w : World) :
    (results fn tmps).run P w =
      ((asAddr (tmps.getD p undef)).run P w).andThen fun a w₁ => ((loadVar ty a).run P w₁).andThen fun v w₂ => .ok (.tuple #[tmps.getD u undef, v]) w₂ := by
  simp only [results, h]
  simp [Sem.run_bind, Result.andThen]
/-- The state of code's loop. -/
def CodeRel (syms : List (Bs × Nat)) (ds : List Draft) (w : World) (v i : Value) (wr : World) : Prop :=
  ∃ (k : Nat) (acc : List Int), k ≤ ds.length ∧ i = .int .i64 k ∧ acc.length = k ∧ wr.ownsRow (w.heap.size + 1) 47 1 v acc.length (acc.map u32V) ∧ wr.heap[w.heap.size]? = some (.cells #[.int .i64 0, .int .i64 0] 37 (0, 0)) ∧
    codeL syms ds [] = codeL syms (ds.drop k) acc ∧ Below w.heap.size w wr
theorem code_after {w wr W w1 w2 : World} {v : Value} {n : Nat} {xs : List Value} (hbw : Below w.heap.size w wr) (hW : Below wr.heap.size wr W) (h1 : Below W.heap.size W w1) (hown : wr.ownsRow (w.heap.size + 1) 47 1 v n xs) (o : Obj) (hg : (w1.alloc o).grownBy w2 v.ownBlock) {obj : Obj} (h0 : wr.heap[w.heap.size]? = some obj) :
    w2.heap[w.heap.size]? = some obj ∧ Below w.heap.size w w2 := by
  have hws := hbw.size
  have s1 := hW.size
  have s2 := h1.size
  have hlt := lt_of_block h0
  have hB1 : Below wr.heap.size wr w1 := hW.trans (h1.mono s1)
  have hB2 : Below wr.heap.size wr (w1.alloc o) := hB1.alloc (by omega) o
  have hown1 := own_below hown hB1
  refine ⟨?_, (hbw.trans (hB2.mono hws)).grown hg (by simp; omega) (fun k hk => by have := (hown1.lt k hk).1; omega)⟩
  have hne : some w.heap.size ≠ v.ownBlock := fun e => by have := (hown1.lt _ e.symm).1; omega
  rw [hg.block w.heap.size (by simp; omega) hne]
  exact heap_below h0 hB2
set_option maxRecDepth 100000 in
set_option maxHeartbeats 8000000 in
theorem code_asm (P M b0 : Nat) (vs vd : Value) (syms : List (Bs × Nat)) (ds : List Draft) (w : World) (hP : w.heap[P]? = some (.cells #[vs, .map (some M), vd] 110 (0, 0))) (hM : w.heap[M]? = some (symM syms)) (hD : w.ownsRow b0 130 9 vd ds.length (flat ds))
    (hok : ∀ d ∈ ds, DraftOk d) (hsy : ∀ s ∈ syms, s.2 ≤ 1000000) (hl : ds.length ≤ 1024) :
    Calls Tryd.prog 62 #[.pointer (some ⟨P, 0, none⟩)] w (CodePost (codeL syms ds []) w) := by
  obtain ⟨i0, hi, hz0, hz1, hz2⟩ := info_parts info_u32
  obtain ⟨oa, cap, hv⟩ := own_shape hD
  subst hv
  have HP := Lib.hid hP
  have HM := Lib.hid hM
  have HD := Lib.hid hD
  have HOK := Lib.hid hok
  have HSY := Lib.hid hsy
  have p2 : w.cell? ⟨P, 2, none⟩ = some (.slice oa ds.length cap) := cell_blk hP 2 rfl
  have p3 : ∀ o, (w.alloc o).cell? ⟨P, 2, none⟩ = some (.slice oa ds.length cap) := fun o => still p2 ((Below.refl _ _).alloc (Nat.le_refl _) _)
  clear hP hM hD hok hsy
  go_enter Tryd.func62, Tryd.ntmps62
  go_wp2
  go_loopw [4, 14] (fun v i wr => CodeRel syms ds w v i wr) (fun _ i _ => ds.length - (intOf i).toNat)
  case atStart =>
    exact ⟨0, [], by omega, rfl, rfl, World.ownsRow_nil _ _ _ _, al_new _ _ _ rfl, rfl, (Below.refl _ _).alloc (Nat.le_refl _) _⟩
  case round =>
    obtain ⟨k, acc, hk, rfl, hka, hown, h0, hE, hbw⟩ := hrel
    have hws := hbw.size
    have hlt0 := lt_of_block h0
    obtain ⟨ca, ccap, hv⟩ := own_shape hown
    subst hv
    by_cases hlt : k < ds.length
    · obtain ⟨G, hG, hcell⟩ := own_at (own_below HD.out hbw) (by omega)
      subst hG
      have hdr : ds.drop k = ds[k] :: ds.drop (k + 1) := List.drop_eq_getElem_cons hlt
      rw [hdr] at hE
      have hdk := HOK.out _ (List.getElem_mem hlt)
      have hc : ∀ i v, i < 9 → (dCells ds[k])[i]? = some v → wr.cell? ⟨G, k * 9 + i, none⟩ = some v := fun i v hi hv => by
        rw [hcell _ (by omega), flat_get ds k hlt i hi]; exact hv
      generalize ds[k] = d at *
      have e0 : wr.cell? ⟨G, k * 9, none⟩ = some (.int .i64 d.line) := hc 0 _ (by omega) rfl
      have e1 := hc 1 _ (by omega) rfl
      have e2 := hc 2 _ (by omega) rfl
      have e3 := hc 3 _ (by omega) rfl
      have e4 := hc 4 _ (by omega) rfl
      have e5 := hc 5 _ (by omega) rfl
      have e6 := hc 6 _ (by omega) rfl
      have e7 := hc 7 _ (by omega) rfl
      have e8 := hc 8 _ (by omega) rfl
      subst hka
      have hfin := fun W (h : Below wr.heap.size wr W) => finish_any P M vs (.slice (some ⟨G, 0, none⟩) ds.length cap) d (4 * (acc.length : Int)) syms W (heap_below HP.out (hbw.trans (h.mono hws))) (heap_below HM.out (hbw.trans (h.mono hws))) hdk (by omega) HSY.out
      have HOWN := Lib.hid hown
      have H0 := Lib.hid h0
      by_cases hr : (finL syms d (4 * (acc.length : Int))).2 = 0
      · have hE2 := Lib.hid (hE.trans (code_ok hr))
        generalize finL syms d (4 * (acc.length : Int)) = r at *
        obtain ⟨x, c⟩ := r
        dsimp only at hr
        subst hr
        have HFIN := Lib.hid hfin
        clear hE hdr hc hcell hdk hown h0 hfin
        go_wp2_with (first
          | (go_at_call 75; (with_reducible refine (HFIN.out _ (by repeat' (first | with_reducible exact Below.refl _ _ | with_reducible apply Below.alloc | (simp; done) | (simp; omega)))).mono ?_); rintro e w3 ⟨rfl, hb3⟩; have HB3 := Lib.hid hb3; have hown3 := own_below HOWN.out (((Below.refl _ _).alloc (Nat.le_refl _) _).trans (hb3.mono (by simp))); clear hb3)
          | (at_builtin; refine wpList_append_own _ rfl _ _ 34 rfl (w.heap.size + 1) 47 i0 (.int .u32 0) 1 4 Tryd.underlying34 hi hz0 hz1 hz2 rfl (by decide) _ _ _ rfl (hown3.alloc _) ⟨_, 0, none⟩ 1 1 [.int .u32 x] rfl rfl (new_cell _ _ _) (one_u32 x) (by unfold maxLen; omega) (by omega) (by have := HB3.out.size; simp at this ⊢; omega) ?_))
        intro v' w4 hown4 hgrow _
        obtain ⟨h40, hb4⟩ := code_after hbw ((Below.refl _ _).alloc (Nat.le_refl _) _) HB3.out HOWN.out _ hgrow H0.out
        have HO := Lib.hid (snoc_u32 hown4 rfl)
        have H40 := Lib.hid h40
        clear hown4 hgrow h40
        go_wp2
        go_roundw
        case rel => exact ⟨acc.length + 1, acc ++ [x], by omega, by go_num, by simp, HO.out, H40.out, hE2.out, hb4⟩
        case measure => simp [intOf]; omega
      · have hE2 := Lib.hid (hE.trans (code_bad hr))
        generalize finL syms d (4 * (acc.length : Int)) = r at *
        obtain ⟨x, c⟩ := r
        dsimp only at hr
        have hrb : (c != 0) = true := by rw [bne_iff_ne]; exact hr
        have HFIN := Lib.hid hfin
        clear hE hdr hc hcell hdk hown h0 hfin
        go_wp2_with (first
          | (go_at_call 75; (with_reducible refine (HFIN.out _ (by repeat' (first | with_reducible exact Below.refl _ _ | with_reducible apply Below.alloc | (simp; done) | (simp; omega)))).mono ?_); rintro e w3 ⟨rfl, hb3⟩; have HB3 := Lib.hid hb3; have g0 := cell_blk (heap_below (al_old H0.out) hb3); have f0 := free_blk (heap_below (al_old H0.out) hb3); have c0 := g0 0 rfl; have c1 := g0 1 rfl; have i0 := f0 0; have i1 := f0 1; have l0 := cell_blk (heap_below (al_new wr _ _ rfl) hb3) 0 rfl; clear g0 f0 hb3))
        go_region
        all_goals go_wp2
        all_goals (rw [hE2.out]; refine bodyPost_ret (v := .tuple #[.slice none 0 0, .agg #[.int .i64 c, .int .i64 d.line]]) ?_ rfl ⟨rfl, ?_⟩)
        · rw [results_slot_cell rfl]; go_simp
        · have h0 : w.heap.size ≤ w.heap.size := Nat.le_refl _
          have hB : Below w.heap.size w w3 := hbw.trans ((((Below.refl _ _).alloc (Nat.le_refl _) _).trans (HB3.out.mono (by simp))).mono hws)
          exact ((hB.setCell h0 _).setCell h0 _).drew
    · have hke : acc.length = ds.length := by omega
      have hE2 : codeL syms ds [] = .inr acc := by rw [hE, hka.symm.trans hke, List.drop_length]; rfl
      have HE := Lib.hid hE2
      have HOWN := Lib.hid hown
      have H0 := Lib.hid h0
      have g0 := cell_blk h0
      have f0 := free_blk h0
      have c0 := g0 0 rfl
      have c1 := g0 1 rfl
      have d0 := f0 0
      have d1 := f0 1
      clear hE hE2 hown h0 g0 f0
      go_wp2
      rw [HE.out]
      refine bodyPost_ret (v := .tuple #[.slice ca acc.length ccap, .agg #[.int .i64 0, .int .i64 0]]) ?_ rfl ⟨⟨_, rfl, ?_⟩, ?_⟩
      · rw [results_slot_cell rfl]; go_simp
      · have n0 := own_low HOWN.out (k := w.heap.size) (by omega)
        exact own_base (ownsRow_setCell_other (ownsRow_setCell_other HOWN.out n0 _) n0 _) (by omega)
      · have h0 : w.heap.size ≤ w.heap.size := Nat.le_refl _
        exact (hbw.setCell h0 _).setCell h0 _
end Go.Proofs.YtegaookkfjgepaaDoor
