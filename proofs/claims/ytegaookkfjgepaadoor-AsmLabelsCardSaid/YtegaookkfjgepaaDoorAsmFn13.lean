import Derived.Test.YtegaookkfjgepaaDoorAsmFn12
import Derived.Test.YtegaookkfjgepaaDoorAsmTab2
namespace Go.Proofs.YtegaookkfjgepaaDoor
set_option linter.unusedVariables false
set_option linter.unusedSimpArgs false
open Go.ChangeShapes Go.WideShapes Go.ChangeAt Go.RowKit Go.Proofs.YtegaookkfjgepaaDoor.Num Go.Proofs.YtegaookkfjgepaaDoor.Mem Go.Proofs.YtegaookkfjgepaaDoor.Asm
theorem words_len {kind : Nat} {op : Int} {o : Opds} {ds : List Draft} (h : wordsL kind op o = some ds) : ds.length ≤ 1024 := by
  unfold wordsL at h
  split at h
  · cases h; simp
  · split at h
    · cases h; simp
    · split at h
      · cases h; simp
      · split at h
        · split at h
          · cases h
          · cases h; simp; omega
        · cases h
theorem stmt_len {ts : List Bs} {ds : List Draft} (h : stmtL ts = some ds) : ds.length ≤ 1024 := by
  cases ts with
  | nil => simp [stmtL] at h; subst h; simp
  | cons m ts =>
    change ((stmOf m).bind fun q => (opsL q.pat ts).bind fun o => wordsL q.kind q.op o) = some ds at h
    cases hq : stmOf m with
    | none => rw [hq] at h; cases h
    | some q =>
      rw [hq] at h
      cases ho : opsL q.pat ts with
      | none => simp [ho] at h
      | some o => simp [ho] at h; exact words_len h
theorem line_len {l lab : Bs} {dd : List Draft} (h : lineR l = some (lab, dd)) : dd.length ≤ 1024 := by
  obtain ⟨rest, _, h2⟩ := lineR_some h
  exact stmt_len h2
theorem add_any (B R P M : Nat) (vs vd : Value) (l : Bs) (number : Int) (syms : List (Bs × Nat)) (ds : List Draft) (w : World) (hs : l.length ≤ 100000) (hR : w.heap[R]? = some (.map (tabA 49) 49)) (hB : B ≤ w.heap.size) (hBP : B ≤ P) (hBM : B ≤ M)
    (hp : PrgV B w P M vs vd syms ds) (hd : ds.length ≤ 2048) (hsy : syms.length ≤ 100000) :
    Calls Tryd.prog 74 #[.pointer (some ⟨P, 0, none⟩), .map (some R), .string (S l), .int .i64 number] w (AddPost B P M number syms ds (lineR l) w) := by
  have hs' : (S l).size ≤ 100000 := by rw [S_size]; exact hs
  have hl : lineR (S l).data.toList = lineR l := by rw [S_list]
  cases hr : lineR l with
  | none =>
    rw [hr] at hl
    exact add_form B R P M (S l) number syms ds w hs' hR hB hl
  | some x =>
    obtain ⟨lab, dd⟩ := x
    rw [hr] at hl
    by_cases h0 : lab = []
    · exact add_plain B R P M vs vd (S l) number syms ds w dd hs' hR hB hBP hp lab hl h0 hd (line_len hr)
    · cases ht : lookS syms lab with
      | none => exact add_label B R P M vs vd (S l) number syms ds w dd hs' hR hB hBP hp lab hl h0 ht hBM hsy hd (line_len hr)
      | some n => exact (add_twice B R P M vs vd (S l) number syms ds w lab dd n hs' hR hB hp hl h0 ht).mono fun e w' h => addPost_twice ⟨h0, by rw [ht]; rfl⟩ h
/-- The first pass: the labels and the words, or the first error and its line. -/
def readL : List Bs → Nat → List (Bs × Nat) → List Draft → Sum (Nat × Nat) (List (Bs × Nat) × List Draft)
  | [], _, syms, ds => .inr (syms, ds)
  | l :: ls, i, syms, ds =>
    match lineR l with
    | none => .inl (301, i + 1)
    | some (lab, dd) =>
      if lab ≠ [] ∧ (lookS syms lab).isSome = true then .inl (303, i + 1)
      else if 1024 < (ds ++ numbered ((i : Int) + 1) dd).length then .inl (305, i + 1)
      else readL ls (i + 1) (addSyms syms ds lab) (ds ++ numbered ((i : Int) + 1) dd)
def ProgPost (r : Sum (Nat × Nat) (List (Bs × Nat) × List Draft)) (w : World) (e : Ending) (w' : World) : Prop :=
  (match r with
  | .inl (err, line) => e = .returned (.tuple #[.agg #[.slice none 0 0, .map none, .slice none 0 0], .agg #[.int .i64 err, .int .i64 line]])
  | .inr (syms, ds) => ∃ vs vd M, e = .returned (.tuple #[.agg #[vs, .map (some M), vd], .agg #[.int .i64 0, .int .i64 0]]) ∧ w'.heap[M]? = some (symM syms) ∧ w'.ownsRow w.heap.size 51 2 vs syms.length (flatS syms) ∧ w'.ownsRow w.heap.size 130 9 vd ds.length (flat ds)) ∧ Below w.heap.size w w'
theorem al_new (w : World) (o : Obj) (n : Nat) (h : n = w.heap.size) : (w.alloc o).heap[n]? = some o := by subst h; exact heap_alloc_new w o
theorem al_old {w : World} {o x : Obj} {n : Nat} (h : w.heap[n]? = some x) : (w.alloc o).heap[n]? = some x := by
  rw [heap_alloc_old w o (lt_of_block h)]; exact h
/-- The state of readProgram's loop. -/
def ReadRel (ls : List Bs) (w : World) (P M R : Nat) (v : Value) (b0 : Nat) (i : Value) (wr : World) : Prop :=
  ∃ (k : Nat) (vs vd : Value) (syms : List (Bs × Nat)) (ds : List Draft), k ≤ ls.length ∧ i = .int .i64 k ∧ PrgV M wr P M vs vd syms ds ∧ wr.heap[R]? = some (.map (tabA 49) 49) ∧
    wr.ownsRow b0 9 1 v ls.length (ls.map strV) ∧ wr.heap[w.heap.size]? = some (.cells #[.slice none 0 0, .map none, .slice none 0 0] 110 (0, 0)) ∧ wr.heap[w.heap.size + 1]? = some (.cells #[.int .i64 0, .int .i64 0] 37 (0, 0)) ∧
    Below w.heap.size w wr ∧ readL ls 0 [] [] = readL (ls.drop k) k syms ds ∧ ds.length ≤ 1024 ∧ syms.length ≤ k
theorem read_none {l : Bs} {ls : List Bs} {i : Nat} {syms : List (Bs × Nat)} {ds : List Draft} (h : lineR l = none) : readL (l :: ls) i syms ds = .inl (301, i + 1) := by simp [readL, h]
theorem read_twice {l : Bs} {ls : List Bs} {i : Nat} {syms : List (Bs × Nat)} {ds dd : List Draft} {lab : Bs} (h : lineR l = some (lab, dd)) (ht : lab ≠ [] ∧ (lookS syms lab).isSome = true) : readL (l :: ls) i syms ds = .inl (303, i + 1) := by
  simp only [readL, h, if_pos ht]
theorem read_large {l : Bs} {ls : List Bs} {i : Nat} {syms : List (Bs × Nat)} {ds dd : List Draft} {lab : Bs} (h : lineR l = some (lab, dd)) (ht : ¬ (lab ≠ [] ∧ (lookS syms lab).isSome = true)) (hb : 1024 < (ds ++ numbered ((i : Int) + 1) dd).length) : readL (l :: ls) i syms ds = .inl (305, i + 1) := by
  simp only [readL, h, if_neg ht, if_pos hb]
theorem read_next {l : Bs} {ls : List Bs} {i : Nat} {syms : List (Bs × Nat)} {ds dd : List Draft} {lab : Bs} (h : lineR l = some (lab, dd)) (ht : ¬ (lab ≠ [] ∧ (lookS syms lab).isSome = true)) (hb : ¬ 1024 < (ds ++ numbered ((i : Int) + 1) dd).length) : readL (l :: ls) i syms ds = readL ls (i + 1) (addSyms syms ds lab) (ds ++ numbered ((i : Int) + 1) dd) := by
  simp only [readL, h, if_neg ht, if_neg hb]
/-- What a line does: an error, or the next state. -/
theorem add_cases (B P M : Nat) (syms : List (Bs × Nat)) (ds : List Draft) (l : Bs) (ls : List Bs) (i : Nat) : 
    (∃ c : Nat, (c = 301 ∨ c = 303 ∨ c = 305) ∧ readL (l :: ls) i syms ds = .inl (c, i + 1) ∧ ∀ w e w', AddPost B P M ((i : Int) + 1) syms ds (lineR l) w e w' → e = .returned (.int .i64 c) ∧ Below B w w') ∨
    (∃ syms' ds', readL (l :: ls) i syms ds = readL ls (i + 1) syms' ds' ∧ ds'.length ≤ 1024 ∧ syms'.length ≤ syms.length + 1 ∧ ∀ w e w', AddPost B P M ((i : Int) + 1) syms ds (lineR l) w e w' → e = .returned (.int .i64 0) ∧ (∃ vs vd, PrgV B w' P M vs vd syms' ds') ∧ Below B w w' ∧ Frame P M w w') := by
  cases h : lineR l with
  | none => exact Or.inl ⟨301, Or.inl rfl, read_none h, fun w e w' hp => hp⟩
  | some x =>
    obtain ⟨lab, dd⟩ := x
    by_cases ht : lab ≠ [] ∧ (lookS syms lab).isSome = true
    · refine Or.inl ⟨303, Or.inr (Or.inl rfl), read_twice h ht, fun w e w' hp => ?_⟩
      unfold AddPost at hp
      dsimp only at hp
      rw [if_pos ht] at hp
      exact hp
    · by_cases hb : 1024 < (ds ++ numbered ((i : Int) + 1) dd).length
      · refine Or.inl ⟨305, Or.inr (Or.inr rfl), read_large h ht hb, fun w e w' hp => ?_⟩
        unfold AddPost at hp
        dsimp only at hp
        rw [if_neg ht, if_pos hb] at hp
        exact hp
      · refine Or.inr ⟨_, _, read_next h ht hb, by omega, by unfold addSyms; split <;> simp, fun w e w' hp => ?_⟩
        unfold AddPost at hp
        dsimp only at hp
        rw [if_neg ht, if_neg hb] at hp
        exact hp
theorem own_at1 {w : World} {base : Nat} {e : TypeId} {oa : Option Addr} {n cap : Nat} {xs : List Value} (h : w.ownsRow base e 1 (.slice oa n cap) n xs) (hn : 0 < n) : ∃ g, oa = some ⟨g, 0, none⟩ ∧ ∀ j, j < n → w.cell? ⟨g, j, none⟩ = xs[j]? := by
  have h' := h
  rcases h.2 with ⟨h1, h2⟩ | ⟨g, cap', cur, h1, _⟩
  · omega
  · injection h1 with h1 _ _
    subst h1
    exact ⟨g, rfl, fun j hj => h'.cellAt j (by omega)⟩
theorem own_low {w : World} {base : Nat} {e : TypeId} {size : Nat} {v : Value} {n : Nat} {xs : List Value} (h : w.ownsRow base e size v n xs) {k : Nat} (hk : k < base) : v.ownBlock ≠ some k := fun he => by
  obtain ⟨_, _, h2⟩ := own_type h he
  omega
theorem results_two {fn : Func} {p q : Tmp} {ty ty' : TypeId} (h : fn.results = #[.cell p ty, .cell q ty']) (tmps : Array Value) (P : Program) (w : World) :
    (results fn tmps).run P w =
      ((asAddr (tmps.getD p undef)).run P w).andThen fun a w₁ => ((loadVar ty a).run P w₁).andThen fun v w₂ => ((asAddr (tmps.getD q undef)).run P w₂).andThen fun b w₃ => ((loadVar ty' b).run P w₃).andThen fun u w₄ => .ok (.tuple #[v, u]) w₄ := by
  simp only [results, h]
  simp [Sem.run_bind, Result.andThen]
set_option maxRecDepth 100000 in
set_option maxHeartbeats 8000000 in
theorem read_asm (src : ByteArray) (w : World) (hs : src.size ≤ 8192) : Calls Tryd.prog 61 #[.string src] w (ProgPost (readL (linesL src.data.toList) 0 [] []) w) := by
  have hmm := @run_makeMap Tryd.prog
  have HL := Lib.hid (fun W => lines_asm src W (by omega))
  have HTB := Lib.hid (fun W => table_asm W)
  have hll : (linesL src.data.toList).length ≤ 10000 := by
    have := lineGo_len src.data.toList []
    rw [len_size] at this
    unfold linesL; omega
  have hlm : ∀ x ∈ linesL src.data.toList, x.length ≤ 100000 := fun x hx => by
    have := lineGo_sum src.data.toList [] x hx
    rw [len_size] at this
    simp at this; omega
  generalize linesL src.data.toList = ls at *
  have HLM := Lib.hid hlm
  clear hlm
  go_enter Tryd.func61, Tryd.ntmps61
  go_wp2_with (first
    | (go_at_call 72; (with_reducible refine (HTB.out _).mono ?_); rintro e w1 ⟨rfl, rfl⟩)
    | (go_at_call 73; (with_reducible refine (HL.out _).mono ?_); rintro e w2 ⟨vl, rfl, hrow, hb2⟩; obtain ⟨oa, cap, rfl⟩ := own_shape hrow; have HROW := Lib.hid hrow; have HB2 := Lib.hid hb2; clear hrow hb2))
  go_loopw [15] (fun i wr => ReadRel ls w (w.heap.size + 1 + 1 + 1) (w.heap.size + 1 + 1) (w.heap.size + 1 + 1 + 1 + 1) (.slice oa ls.length cap) (w.heap.size + 5) i wr) (fun i _ => ls.length - (intOf i).toNat)
  case atStart =>
    have hb := HB2.out
    refine ⟨0, .slice none 0 0, .slice none 0 0, [], [], by omega, rfl, ⟨heap_below ?_ hb, heap_below ?_ hb, World.ownsRow_nil _ _ _ _, World.ownsRow_nil _ _ _ _⟩, heap_below ?_ hb, own_base HROW.out (by simp), heap_below ?_ hb, heap_below ?_ hb, ?_, rfl, by simp, by simp⟩
    · exact al_old (al_new _ _ _ (by simp))
    · exact al_old (al_old (al_new _ _ _ (by simp)))
    · exact al_new _ _ _ (by simp)
    · exact al_old (al_old (al_old (al_old (al_new _ _ _ (by simp)))))
    · exact al_old (al_old (al_old (al_new _ _ _ (by simp))))
    · refine below_step ?_ hb
      repeat' (first | with_reducible exact Below.refl _ _ | with_reducible apply Below.alloc | (simp; done) | (simp; omega))
  case round =>
    obtain ⟨k, vs, vd, syms, ds, hk, rfl, hP, hR, hrow, hr0, hr1, hbw, hrd, hds, hsy⟩ := hrel
    have hws := hbw.size
    have hPlt := lt_of_block hP.blk
    by_cases hlt : k < ls.length
    · obtain ⟨G, hG, hcell⟩ := own_at1 hrow (by omega)
      subst hG
      have ck : wr.cell? ⟨G, k, none⟩ = some (.string (S ls[k])) := by
        rw [hcell k hlt, List.getElem?_map, List.getElem?_eq_getElem hlt]; rfl
      have hdr : ls.drop k = ls[k] :: ls.drop (k + 1) := List.drop_eq_getElem_cons hlt
      rw [hdr] at hrd
      have hadd := add_any (w.heap.size + 1 + 1) (w.heap.size + 1 + 1 + 1 + 1) (w.heap.size + 1 + 1 + 1) (w.heap.size + 1 + 1) vs vd ls[k] ((k : Int) + 1) syms ds wr (HLM.out _ (List.getElem_mem hlt)) hR (by omega) (by omega) (by omega) hP (by omega) (by omega)
      have HROWr := Lib.hid hrow
      have HR0 := Lib.hid hr0
      have HR1 := Lib.hid hr1
      have HRR := Lib.hid hR
      have HRD := Lib.hid hrd
      have HPr := Lib.hid hP
      clear hcell hdr hrow hr0 hr1 hP hrd hR
      rcases add_cases (w.heap.size + 1 + 1) (w.heap.size + 1 + 1 + 1) (w.heap.size + 1 + 1) syms ds ls[k] (ls.drop (k + 1)) k with ⟨c, hc, hrd2, hA⟩ | ⟨syms', ds', hrd2, hl1, hl2, hA⟩
      · have HADD := Lib.hid (hadd.mono fun e w' h => hA wr e w' h)
        have hcI : ((c : Int) != 0) = true := by rw [bne_iff_ne]; omega
        have hcb : (c : Int) ≤ 305 := by omega
        have HRES := Lib.hid (HRD.out.trans hrd2)
        clear hadd hA hc hrd2
        generalize ls[k] = lk at *
        go_wp2_with (go_at_call 74; (with_reducible refine (HADD.out).mono ?_); rintro e w3 ⟨rfl, hb3⟩; have HB3 := Lib.hid hb3; have g0 := cell_blk ((hb3.block w.heap.size (by omega)).trans HR0.out); have f0 := free_blk ((hb3.block w.heap.size (by omega)).trans HR0.out); have g1 := cell_blk ((hb3.block (w.heap.size + 1) (by omega)).trans HR1.out); have f1 := free_blk ((hb3.block (w.heap.size + 1) (by omega)).trans HR1.out); have c0 := g0 0 rfl; have c1 := g0 1 rfl; have c2 := g0 2 rfl; have d0 := g1 0 rfl; have d1 := g1 1 rfl; have e0 := f0 0; have e1 := f0 1; have e2 := f0 2; have i0 := f1 0; have i1 := f1 1; clear g0 f0 g1 f1 hb3)
        rw [HRES.out]
        have hB3 : Below w.heap.size w w3 := hbw.trans (HB3.out.mono (by omega))
        refine bodyPost_ret (v := .tuple #[.agg #[.slice none 0 0, .map none, .slice none 0 0], .agg #[.int .i64 c, .int .i64 ((k : Int) + 1)]]) ?_ rfl ⟨rfl, ?_⟩
        · rw [results_two rfl]; go_simp
        · have h0 : w.heap.size ≤ w.heap.size := Nat.le_refl _
          have h1 : w.heap.size ≤ w.heap.size + 1 := by omega
          exact ((((hB3.setCell h0 _).setCell h0 _).setCell h0 _).setCell h1 _).setCell h1 _
      · have HADD := Lib.hid (hadd.mono fun e w' h => hA wr e w' h)
        have HRES := Lib.hid (HRD.out.trans hrd2)
        clear hadd hA hrd2
        generalize ls[k] = lk at *
        go_wp2_with (go_at_call 74; (with_reducible refine (HADD.out).mono ?_); rintro e w3 ⟨rfl, ⟨vs3, vd3, hp3⟩, hb3, hf3⟩; have HP3 := Lib.hid hp3; have HB3 := Lib.hid hb3; have HF3 := Lib.hid hf3; clear hp3 hb3 hf3)
        go_roundw
        case rel =>
          refine ⟨k + 1, vs3, vd3, syms', ds', by omega, by go_num, HP3.out, HF3.out _ _ HRR.out (by omega) (by omega) (by intro c z h; cases h) (by intro c z h; cases h), ?_, (HB3.out.block _ (by omega)).trans HR0.out, (HB3.out.block _ (by omega)).trans HR1.out, hbw.trans (HB3.out.mono (by omega)), HRES.out, hl1, by omega⟩
          exact own_other HROWr.out fun g cur hv hg => HF3.out g _ hg (fun e => by subst e; have := HPr.out.blk; rw [hg] at this; cases this) (fun e => by subst e; have := HPr.out.map; rw [hg] at this; unfold symM at this; cases this) (by intro c z h; cases h) (by intro c z h; cases h)
        case measure => simp [intOf]; omega
    · have hke : k = ls.length := by omega
      subst hke
      rw [List.drop_length] at hrd
      have HRES := Lib.hid (show readL ls 0 [] [] = .inr (syms, ds) from hrd)
      obtain ⟨oa1, cap1, hv⟩ := own_shape hP.rs
      subst hv
      obtain ⟨oa2, cap2, hv⟩ := own_shape hP.rd
      subst hv
      have g0 := cell_blk hP.blk
      have p0 := g0 0 rfl
      have p1 := g0 1 rfl
      have p2 := g0 2 rfl
      have g0 := cell_blk hr0
      have f0 := free_blk hr0
      have g1 := cell_blk hr1
      have f1 := free_blk hr1
      have c0 := g0 0 rfl
      have c1 := g0 1 rfl
      have c2 := g0 2 rfl
      have d0 := g1 0 rfl
      have d1 := g1 1 rfl
      have e0 := f0 0
      have e1 := f0 1
      have e2 := f0 2
      have i0 := f1 0
      have i1 := f1 1
      have HP := Lib.hid hP
      have HR0 := Lib.hid hr0
      have HR1 := Lib.hid hr1
      clear g0 f0 g1 f1 hP hr0 hr1 hR hrow hrd
      go_wp2
      rw [HRES.out]
      refine bodyPost_ret (v := .tuple #[.agg #[.slice oa1 syms.length cap1, .map (some (w.heap.size + 1 + 1)), .slice oa2 ds.length cap2], .agg #[.int .i64 0, .int .i64 0]]) ?_ rfl ⟨⟨_, _, _, rfl, ?_, ?_, ?_⟩, ?_⟩
      · rw [results_two rfl]; go_simp
      · have n0 : w.heap.size + 1 + 1 ≠ w.heap.size := by omega
        have n1 : w.heap.size + 1 + 1 ≠ w.heap.size + 1 := by omega
        exact set_prg (cs := #[]) (T := 0) _ _ _ _ (set_prg (cs := #[]) (T := 0) _ _ _ _ (set_prg (cs := #[]) (T := 0) _ _ _ _ (set_prg (cs := #[]) (T := 0) _ _ _ _ (set_prg (cs := #[]) (T := 0) _ _ _ _ HP.out.map n0) n0) n0) n1) n1
      · have n0 := own_low HP.out.rs (k := w.heap.size) (by omega)
        have n1 := own_low HP.out.rs (k := w.heap.size + 1) (by omega)
        exact own_base (ownsRow_setCell_other (ownsRow_setCell_other (ownsRow_setCell_other (ownsRow_setCell_other (ownsRow_setCell_other HP.out.rs n0 _) n0 _) n0 _) n1 _) n1 _) (by omega)
      · have n0 := own_low HP.out.rd (k := w.heap.size) (by omega)
        have n1 := own_low HP.out.rd (k := w.heap.size + 1) (by omega)
        exact own_base (ownsRow_setCell_other (ownsRow_setCell_other (ownsRow_setCell_other (ownsRow_setCell_other (ownsRow_setCell_other HP.out.rd n0 _) n0 _) n0 _) n1 _) n1 _) (by omega)
      · have h0 : w.heap.size ≤ w.heap.size := Nat.le_refl _
        have h1 : w.heap.size ≤ w.heap.size + 1 := by omega
        exact ((((hbw.setCell h0 _).setCell h0 _).setCell h0 _).setCell h1 _).setCell h1 _
end Go.Proofs.YtegaookkfjgepaaDoor
