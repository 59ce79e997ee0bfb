import Derived.Test.YthghbcjaokpilaaDoorAsmGa
namespace Go.Proofs.YthghbcjaokpilaaDoor
set_option linter.unusedVariables false
set_option linter.unusedSimpArgs false
open Go.ChangeShapes Go.WideShapes Go.ChangeAt Go.RowKit Go.Proofs.YthghbcjaokpilaaDoor.Num Go.Proofs.YthghbcjaokpilaaDoor.Isa Go.Proofs.YthghbcjaokpilaaDoor.Mem Go.Proofs.YthghbcjaokpilaaDoor.Asm
def NOk (o : Opds) : Prop := -2147483648 ≤ o.n ∧ o.n ≤ 4294967295
theorem valL_bd {s : Bs} {v : Int × Bs} (h : valL s = some v) : -2147483648 ≤ v.1 ∧ v.1 ≤ 4294967295 := by
  unfold valL at h
  split at h
  · injection h with h; subst h; simp
  · cases hn : numL s with
    | none => rw [hn] at h; cases h
    | some n => rw [hn] at h; simp at h; subst h; exact numL_bd hn
theorem opStep_bd {p : UInt8} {t : Bs} {o o' : Opds} (h : opStep p t o = some o') (ho : NOk o) : NOk o' := by
  unfold opStep at h
  split at h
  · split at h
    · injection h with h; subst h; exact ho
    · cases h
  · split at h
    · split at h
      · injection h with h; subst h; exact ho
      · cases h
    · split at h
      · split at h
        · injection h with h; subst h; exact ho
        · cases h
      · split at h
        · split at h
          · rename_i n hn; injection h with h; subst h; exact numL_bd hn
          · cases h
        · split at h
          · split at h
            · rename_i v hv; injection h with h; subst h; exact valL_bd hv
            · cases h
          · split at h
            · injection h with h; subst h; exact ho
            · cases h
theorem opsGo_bd : ∀ (ps : Bs) (ts : List Bs) (o o' : Opds), opsGo ps ts o = some o' → NOk o → NOk o'
  | [], ts, o, o', h, ho => by simp [opsGo] at h; subst h; exact ho
  | p :: ps, [], o, o', h, ho => by simp [opsGo] at h; subst h; exact ho
  | p :: ps, t :: ts, o, o', h, ho => by
    simp only [opsGo] at h
    cases hs : opStep p t o with
    | none => rw [hs] at h; cases h
    | some o2 =>
      rw [hs] at h
      exact opsGo_bd ps ts o2 o' h (opStep_bd hs ho)
theorem opsL_bd {ps : Bs} {ts : List Bs} {o : Opds} (h : opsL ps ts = some o) : NOk o := by
  unfold opsL at h
  split at h
  · exact opsGo_bd _ _ _ _ h (by unfold NOk Opds.zero; simp)
  · cases h
theorem words_ok {kind : Nat} {op : Int} {o : Opds} {ds : List Draft} (h : wordsL kind op o = some ds) (ho : NOk o) : ∀ d ∈ ds, DraftOk d := by
  obtain ⟨h1, h2⟩ := ho
  unfold wordsL at h
  split at h
  · cases h; intro d hd; simp at hd; subst hd; exact ⟨h1, h2, by simp, by simp⟩
  · split at h
    · cases h; intro d hd; simp at hd; rcases hd with rfl | rfl <;> exact ⟨h1, h2, by simp, by simp⟩
    · split at h
      · cases h; intro d hd; simp at hd; subst hd; exact ⟨h1, h2, by simp, by simp⟩
      · split at h
        · split at h
          · cases h
          · cases h; intro d hd; have := List.eq_of_mem_replicate hd; subst this; exact ⟨by simp, by simp, by simp, by simp⟩
        · cases h
theorem stmt_ok {ts : List Bs} {ds : List Draft} (h : stmtL ts = some ds) : ∀ d ∈ ds, DraftOk d := by
  cases ts with
  | nil => simp [stmtL] at h; subst h; simp
  | cons m ts =>
    change ((stmOf m).bind fun q => (opsL q.pat ts).bind fun o => wordsL q.kind q.op o) = some ds at h
    cases hq : stmOf m with
    | none => rw [hq] at h; cases h
    | some q =>
      rw [hq] at h
      cases ho : opsL q.pat ts with
      | none => simp [ho] at h
      | some o => simp [ho] at h; exact words_ok h (opsL_bd ho)
theorem line_ok {l lab : Bs} {dd : List Draft} (h : lineR l = some (lab, dd)) : ∀ d ∈ dd, DraftOk d := by
  obtain ⟨rest, _, h2⟩ := lineR_some h
  exact stmt_ok h2
theorem numbered_ok {n : Int} {dd : List Draft} (h : ∀ d ∈ dd, DraftOk d) : ∀ d ∈ numbered n dd, DraftOk d := by
  intro d hd
  unfold numbered at hd
  obtain ⟨d', h1, h2⟩ := List.mem_map.1 hd
  subst h2
  exact h d' h1
def ReadOk (syms : List (Bs × Nat)) (ds : List Draft) : Prop := (∀ d ∈ ds, DraftOk d) ∧ (∀ s ∈ syms, s.2 ≤ 4096) ∧ ds.length ≤ 1024
theorem read_ok : ∀ (ls : List Bs) (i : Nat) (syms : List (Bs × Nat)) (ds : List Draft) (r : List (Bs × Nat) × List Draft), readL ls i syms ds = .inr r → ReadOk syms ds → ReadOk r.1 r.2
  | [], i, syms, ds, r, h, hk => by simp [readL] at h; subst h; exact hk
  | l :: ls, i, syms, ds, r, h, hk => by
    cases hl : lineR l with
    | none => rw [read_none hl] at h; cases h
    | some x =>
      obtain ⟨lab, dd⟩ := x
      by_cases ht : lab ≠ [] ∧ (lookS syms lab).isSome = true
      · rw [read_twice hl ht] at h; cases h
      · by_cases hb : 1024 < (ds ++ numbered ((i : Int) + 1) dd).length
        · rw [read_large hl ht hb] at h; cases h
        · rw [read_next hl ht hb] at h
          refine read_ok ls _ _ _ r h ⟨fun d hd => ?_, fun s hs => ?_, by omega⟩
          · rcases List.mem_append.1 hd with hd | hd
            · exact hk.1 d hd
            · exact numbered_ok (line_ok hl) d hd
          · unfold addSyms at hs
            split at hs
            · exact hk.2.1 s hs
            · rcases List.mem_append.1 hs with hs | hs
              · exact hk.2.1 s hs
              · simp at hs; subst hs; have := hk.2.2; simp; omega
theorem read_errs : ∀ (ls : List Bs) (i : Nat) (syms : List (Bs × Nat)) (ds : List Draft) (r : Nat × Nat), readL ls i syms ds = .inl r → r.1 = 301 ∨ r.1 = 303 ∨ r.1 = 305
  | [], i, syms, ds, r, h => by simp [readL] at h
  | l :: ls, i, syms, ds, r, h => by
    cases hl : lineR l with
    | none => rw [read_none hl] at h; cases h; simp
    | some x =>
      obtain ⟨lab, dd⟩ := x
      by_cases ht : lab ≠ [] ∧ (lookS syms lab).isSome = true
      · rw [read_twice hl ht] at h; cases h; simp
      · by_cases hb : 1024 < (ds ++ numbered ((i : Int) + 1) dd).length
        · rw [read_large hl ht hb] at h; cases h; simp
        · rw [read_next hl ht hb] at h
          exact read_errs ls _ _ _ r h
theorem code_errs (syms : List (Bs × Nat)) : ∀ (ds : List Draft) (acc : List Int) (r : Int × Int), codeL syms ds acc = .inl r → ¬ r.1 = 0
  | [], acc, r, h => by simp [codeL] at h
  | d :: ds, acc, r, h => by
    by_cases hr : (finL syms d (4 * (acc.length : Int))).2 = 0
    · rw [code_ok hr] at h; exact code_errs syms ds _ r h
    · rw [code_bad hr] at h; injection h with h; subst h; exact hr
def transR (syms : List (Bs × Nat)) : Sum (Int × Int) (List Int) → Sum (Int × Int) (List Int × List (Bs × Nat)) | .inl e => .inl e | .inr ws => .inr (ws, syms)
/-- What a source stands for: its words and labels, or an error and a line. -/
def transL (src : Bs) : Sum (Int × Int) (List Int × List (Bs × Nat)) :=
  if 8192 < src.length then .inl (300, 0)
  else match readL (linesL src) 0 [] [] with
  | .inl r => .inl (r.1, r.2)
  | .inr r => transR r.1 (codeL r.1 r.2 [])
def TransPost (r : Sum (Int × Int) (List Int × List (Bs × Nat))) (w : World) (e : Ending) (w' : World) : Prop :=
  (match r with
  | .inl (err, line) => e = .returned (.tuple #[.slice none 0 0, .slice none 0 0, .agg #[.int .i64 err, .int .i64 line]])
  | .inr (ws, syms) => ∃ v vs, e = .returned (.tuple #[v, vs, .agg #[.int .i64 0, .int .i64 0]]) ∧ w'.ownsRow w.heap.size 34 1 v ws.length (ws.map u32V) ∧ w'.ownsRow w.heap.size 60 2 vs syms.length (flatS syms)) ∧ Below w.heap.size w w'
theorem results_slot2_cell {fn : Func} {p u u' : Tmp} {ty : TypeId} (h : fn.results = #[.tmp u, .tmp u', .cell p ty]) (tmps : Array Value) (P : Program) (w : World) :
    (results fn tmps).run P w =
      ((asAddr (tmps.getD p undef)).run P w).andThen fun a w₁ => ((loadVar ty a).run P w₁).andThen fun v w₂ => .ok (.tuple #[tmps.getD u undef, tmps.getD u' undef, v]) w₂ := by
  simp only [results, h]
  simp [Sem.run_bind, Result.andThen]
end Go.Proofs.YthghbcjaokpilaaDoor

namespace Go.Proofs.YthghbcjaokpilaaDoor
set_option linter.unusedVariables false
set_option linter.unusedSimpArgs false
open Go.ChangeShapes Go.WideShapes Go.ChangeAt Go.RowKit Go.Proofs.YthghbcjaokpilaaDoor.Num Go.Proofs.YthghbcjaokpilaaDoor.Isa Go.Proofs.YthghbcjaokpilaaDoor.Mem Go.Proofs.YthghbcjaokpilaaDoor.Asm
set_option maxHeartbeats 4000000 in
theorem trans_long (src : ByteArray) (w : World) (hs : 8192 < src.size) (hs2 : src.size ≤ 9223372036854775807) : Calls Tryd.prog 16 #[.string src] w (TransPost (.inl (300, 0)) w) := by
  go_enter Tryd.func16, Tryd.ntmps16
  go_wp2
  refine bodyPost_ret (v := .tuple #[.slice none 0 0, .slice none 0 0, .agg #[.int .i64 300, .int .i64 0]]) ?_ rfl ⟨rfl, ?_⟩
  · rw [results_slot2_cell rfl]; go_simp
  · have h0 : w.heap.size ≤ w.heap.size := Nat.le_refl _
    exact (Below.refl _ w).alloc h0 _
set_option maxHeartbeats 4000000 in
theorem trans_read (src : ByteArray) (w : World) (hs : src.size ≤ 8192) (c l : Nat) (hr : readL (linesL src.data.toList) 0 [] [] = .inl (c, l)) : Calls Tryd.prog 16 #[.string src] w (TransPost (.inl (c, l)) w) := by
  have hce := read_errs _ _ _ _ _ hr
  dsimp only at hce
  have hcI : ((c : Int) != 0) = true := by rw [bne_iff_ne]; omega
  have hrd := fun W => read_asm src W hs
  rw [hr] at hrd
  have HRD := Lib.hid hrd
  clear hr hrd hce
  go_enter Tryd.func16, Tryd.ntmps16
  go_wp2_with (go_at_call 21; (with_reducible refine (HRD.out _).mono ?_); rintro e w1 ⟨rfl, hb1⟩; have HB1 := Lib.hid hb1; have g0 := cell_blk (heap_below (al_new w _ _ rfl) hb1); have f0 := free_blk (heap_below (al_new w _ _ rfl) hb1); have G0 := fun o o2 => al_old (o := o2) (al_old (o := o) (heap_below (al_new w _ _ rfl) hb1)); have c0 := fun o o2 => cell_blk (G0 o o2) 0 rfl; have c1 := fun o o2 => cell_blk (G0 o o2) 1 rfl; have i0 := fun o o2 => free_blk (G0 o o2) 0; have i1 := fun o o2 => free_blk (G0 o o2) 1; have hws := hb1.size; clear g0 f0 G0 hb1)
  go_region
  all_goals go_wp2
  all_goals refine bodyPost_ret (v := .tuple #[.slice none 0 0, .slice none 0 0, .agg #[.int .i64 c, .int .i64 l]]) ?_ rfl ⟨rfl, ?_⟩
  · rw [results_slot2_cell rfl]; go_simp
  · have h0 : w.heap.size ≤ w.heap.size := Nat.le_refl _
    have hb : Below w.heap.size w w1 := below_step ((Below.refl _ w).alloc h0 _) HB1.out
    exact ((((hb.alloc hb.size _).alloc (by have := hb.size; simp; omega) _).setCell h0 _).setCell h0 _).drew
theorem own_four {w : World} {base : Nat} {e : TypeId} {size : Nat} {v : Value} {n : Nat} {xs : List Value} {a b : Nat} {x y z u : Value} (h : w.ownsRow base e size v n xs) (na : v.ownBlock ≠ some a) (nb : v.ownBlock ≠ some b) :
    ((((w.setCell ⟨a, 0, none⟩ x).setCell ⟨a, 1, none⟩ y).setCell ⟨b, 0, none⟩ z).setCell ⟨b, 1, none⟩ u).drew.ownsRow base e size v n xs :=
  own_below (ownsRow_setCell_other (ownsRow_setCell_other (ownsRow_setCell_other (ownsRow_setCell_other h na _) na _) nb _) nb _) (Below.refl _ _).drew
theorem trans_below {w w1 w2 : World} {o o1 o2 : Obj} (h1 : Below (w.alloc o).heap.size (w.alloc o) w1) (h2 : Below ((w1.alloc o1).alloc o2).heap.size ((w1.alloc o1).alloc o2) w2) : Below w.heap.size w w2 := by
  have hb : Below w.heap.size w w1 := below_step ((Below.refl _ w).alloc (Nat.le_refl _) _) h1
  exact below_step ((hb.alloc hb.size _).alloc (by have := hb.size; simp; omega) _) h2
set_option maxHeartbeats 4000000 in
theorem trans_code (src : ByteArray) (w : World) (hs : src.size ≤ 8192) (syms : List (Bs × Nat)) (ds : List Draft) (hr : readL (linesL src.data.toList) 0 [] [] = .inr (syms, ds)) (r : Sum (Int × Int) (List Int)) (hc : codeL syms ds [] = r) :
    Calls Tryd.prog 16 #[.string src] w (TransPost (transR syms r) w) := by
  obtain ⟨k1, k2, k3⟩ := read_ok _ _ _ _ _ hr ⟨by simp, by simp, by simp⟩
  dsimp only at k1 k2 k3
  have hrd := fun W => read_asm src W hs
  rw [hr] at hrd
  have HRD := Lib.hid (show ∀ W, Calls Tryd.prog 21 #[.string src] W fun e w' => (∃ vs vd M, e = .returned (.tuple #[.agg #[vs, .map (some M), vd], .agg #[.int .i64 0, .int .i64 0]]) ∧ w'.heap[M]? = some (symM syms) ∧ w'.ownsRow W.heap.size 60 2 vs syms.length (flatS syms) ∧ w'.ownsRow W.heap.size 83 9 vd ds.length (flat ds)) ∧ Below W.heap.size W w' from hrd)
  have HCD := Lib.hid (fun P M b0 vs vd W h1 h2 h3 => code_asm P M b0 vs vd syms ds W h1 h2 h3 k1 (fun s hs => by have := k2 s hs; omega) k3)
  rw [hc] at HCD
  clear hr hrd k1 k2 k3
  cases r with
  | inl e =>
    obtain ⟨c, l⟩ := e
    have hcn := code_errs _ _ _ _ hc
    dsimp only at hcn
    have hcI : (c != 0) = true := by rw [bne_iff_ne]; exact hcn
    change Calls _ _ _ _ (TransPost (.inl (c, l)) w)
    clear hc
    go_enter Tryd.func16, Tryd.ntmps16
    go_wp2_with (first
      | (go_at_call 21; (with_reducible refine (HRD.out _).mono ?_); rintro e w1 ⟨⟨vs, vd, M, rfl, hM, hS, hD⟩, hb1⟩; obtain ⟨oa1, cap1, rfl⟩ := own_shape hS; obtain ⟨oa2, cap2, rfl⟩ := own_shape hD; have HM := Lib.hid hM; have HS := Lib.hid hS; have HD := Lib.hid hD; have HB1 := Lib.hid hb1; have H0 := Lib.hid (heap_below (al_new w _ _ rfl) hb1); have hws : w.heap.size < w1.heap.size := lt_of_block (heap_below (al_new w _ _ rfl) hb1); clear hb1 hM hS hD)
      | (go_at_call 22; (with_reducible refine (HCD.out _ _ _ _ _ _ (al_old (al_new _ _ _ rfl)) (al_old (al_old HM.out)) ((HD.out.alloc _).alloc _)).mono ?_); rintro e w2 ⟨rfl, hb2⟩; have HB2 := Lib.hid hb2; have g0 := cell_blk (heap_below (al_old (al_old H0.out)) hb2); have f0 := free_blk (heap_below (al_old (al_old H0.out)) hb2); have c0 : w2.cell? ⟨w.heap.size, 0, none⟩ = some (.int .i64 0) := g0 0 rfl; have c1 : w2.cell? ⟨w.heap.size, 1, none⟩ = some (.int .i64 0) := g0 1 rfl; have i0 := f0 0; have i1 := f0 1; clear g0 f0; have g0 := cell_blk (heap_below (al_new _ _ (w1.heap.size + 1) (by simp)) hb2); have f0 := free_blk (heap_below (al_new _ _ (w1.heap.size + 1) (by simp)) hb2); have d0 : w2.cell? ⟨w1.heap.size + 1, 0, none⟩ = some (.int .i64 0) := g0 0 rfl; have d1 : w2.cell? ⟨w1.heap.size + 1, 1, none⟩ = some (.int .i64 0) := g0 1 rfl; have j0 := f0 0; have j1 := f0 1; have hs2 := hb2.size; clear hb2 g0 f0))
    go_region
    all_goals go_wp2
    all_goals refine bodyPost_ret (v := .tuple #[.slice none 0 0, .slice none 0 0, .agg #[.int .i64 c, .int .i64 l]]) ?_ rfl ⟨rfl, ?_⟩
    · rw [results_slot2_cell rfl]; go_simp
    · have h0 : w.heap.size ≤ w.heap.size := Nat.le_refl _
      have h1 : w.heap.size ≤ w1.heap.size + 1 := by have := HB1.out.size; simp at this; omega
      have hb : Below w.heap.size w w2 := trans_below HB1.out HB2.out
      exact ((((hb.setCell h1 _).setCell h1 _).setCell h0 _).setCell h0 _).drew
  | inr ws =>
    change Calls _ _ _ _ (TransPost (.inr (ws, syms)) w)
    clear hc
    go_enter Tryd.func16, Tryd.ntmps16
    go_wp2_with (first
      | (go_at_call 21; (with_reducible refine (HRD.out _).mono ?_); rintro e w1 ⟨⟨vs, vd, M, rfl, hM, hS, hD⟩, hb1⟩; obtain ⟨oa1, cap1, rfl⟩ := own_shape hS; obtain ⟨oa2, cap2, rfl⟩ := own_shape hD; have HM := Lib.hid hM; have HS := Lib.hid hS; have HD := Lib.hid hD; have HB1 := Lib.hid hb1; have H0 := Lib.hid (heap_below (al_new w _ _ rfl) hb1); have hws : w.heap.size < w1.heap.size := lt_of_block (heap_below (al_new w _ _ rfl) hb1); clear hb1 hM hS hD)
      | (go_at_call 22; (with_reducible refine (HCD.out _ _ _ _ _ _ (al_old (al_new _ _ _ rfl)) (al_old (al_old HM.out)) ((HD.out.alloc _).alloc _)).mono ?_); rintro e w2 ⟨⟨vc, rfl, hC⟩, hb2⟩; obtain ⟨oa3, cap3, rfl⟩ := own_shape hC; have HC := Lib.hid hC; have p0 : w2.cell? ⟨w1.heap.size, 0, none⟩ = some (.slice oa1 syms.length cap1) := cell_blk (heap_below (al_old (al_new w1 _ _ rfl)) hb2) 0 rfl; have HB2 := Lib.hid hb2; have g0 := cell_blk (heap_below (al_old (al_old H0.out)) hb2); have f0 := free_blk (heap_below (al_old (al_old H0.out)) hb2); have c0 : w2.cell? ⟨w.heap.size, 0, none⟩ = some (.int .i64 0) := g0 0 rfl; have c1 : w2.cell? ⟨w.heap.size, 1, none⟩ = some (.int .i64 0) := g0 1 rfl; have i0 := f0 0; have i1 := f0 1; clear g0 f0; have g0 := cell_blk (heap_below (al_new _ _ (w1.heap.size + 1) (by simp)) hb2); have f0 := free_blk (heap_below (al_new _ _ (w1.heap.size + 1) (by simp)) hb2); have d0 : w2.cell? ⟨w1.heap.size + 1, 0, none⟩ = some (.int .i64 0) := g0 0 rfl; have d1 : w2.cell? ⟨w1.heap.size + 1, 1, none⟩ = some (.int .i64 0) := g0 1 rfl; have j0 := f0 0; have j1 := f0 1; have hs2 := hb2.size; clear hb2 g0 f0 hC))
    go_region
    all_goals go_wp2
    refine bodyPost_ret (v := .tuple #[.slice oa3 ws.length cap3, .slice oa1 syms.length cap1, .agg #[.int .i64 0, .int .i64 0]]) ?_ rfl ⟨⟨_, _, rfl, ?_, ?_⟩, ?_⟩
    · rw [results_slot2_cell rfl]; go_simp
    · have hz := HB1.out.size
      simp at hz
      exact own_base (own_four HC.out (own_low HC.out (by simp)) (own_low HC.out (by simp; omega))) (by simp; omega)
    · have hz := HB1.out.size
      simp at hz
      have h2 := own_below ((HS.out.alloc _).alloc _) HB2.out
      exact own_base (own_four h2 (fun e => by have := own_lt HS.out e; omega) (own_low HS.out (by simp))) (by simp)
    · have h0 : w.heap.size ≤ w.heap.size := Nat.le_refl _
      have h1 : w.heap.size ≤ w1.heap.size + 1 := by omega
      have hb : Below w.heap.size w w2 := trans_below HB1.out HB2.out
      exact ((((hb.setCell h1 _).setCell h1 _).setCell h0 _).setCell h0 _).drew
theorem trans_asm (src : ByteArray) (w : World) (hs : src.size ≤ 9223372036854775807) : Calls Tryd.prog 16 #[.string src] w (TransPost (transL src.data.toList) w) := by
  unfold transL
  rw [len_size]
  by_cases h : 8192 < src.size
  · rw [if_pos h]; exact trans_long src w h hs
  · rw [if_neg h]
    cases hr : readL (linesL src.data.toList) 0 [] [] with
    | inl r => exact trans_read src w (by omega) r.1 r.2 hr
    | inr r => exact trans_code src w (by omega) r.1 r.2 hr _ rfl
end Go.Proofs.YthghbcjaokpilaaDoor

namespace Go.Proofs.YthghbcjaokpilaaDoor
set_option linter.unusedVariables false
set_option linter.unusedSimpArgs false
open Go.ChangeShapes Go.WideShapes Go.ChangeAt Go.RowKit Go.Proofs.YthghbcjaokpilaaDoor.Num Go.Proofs.YthghbcjaokpilaaDoor.Isa Go.Proofs.YthghbcjaokpilaaDoor.Mem Go.Proofs.YthghbcjaokpilaaDoor.Asm
def AsmPost (r : Sum (Int × Int) (List Int × List (Bs × Nat))) (w : World) (e : Ending) (w' : World) : Prop :=
  (match r with
  | .inl (err, line) => e = .returned (.tuple #[.slice none 0 0, .agg #[.int .i64 err, .int .i64 line]])
  | .inr (ws, _) => ∃ v, e = .returned (.tuple #[v, .agg #[.int .i64 0, .int .i64 0]]) ∧ w'.ownsRow w.heap.size 34 1 v ws.length (ws.map u32V)) ∧ Below w.heap.size w w'
def SymPost (r : Sum (Int × Int) (List Int × List (Bs × Nat))) (w : World) (e : Ending) (w' : World) : Prop :=
  (match r with
  | .inl (err, line) => e = .returned (.tuple #[.slice none 0 0, .agg #[.int .i64 err, .int .i64 line]])
  | .inr (_, syms) => ∃ v, e = .returned (.tuple #[v, .agg #[.int .i64 0, .int .i64 0]]) ∧ w'.ownsRow w.heap.size 60 2 v syms.length (flatS syms)) ∧ Below w.heap.size w w'
set_option maxHeartbeats 4000000 in
theorem assemble_asm (src : ByteArray) (w : World) (hs : src.size ≤ 9223372036854775807) : Calls Tryd.prog 9 #[.string src] w (AsmPost (transL src.data.toList) w) := by
  have htr := fun W => trans_asm src W hs
  generalize transL src.data.toList = r at *
  cases r with
  | inl x =>
    obtain ⟨c, l⟩ := x
    have HTR := Lib.hid htr
    clear htr
    go_enter Tryd.func9, Tryd.ntmps9
    go_wp2_with (go_at_call 16; (with_reducible refine (HTR.out _).mono ?_); rintro e w1 ⟨rfl, hb1⟩; have HB1 := Lib.hid hb1; have hws : w.heap.size < w1.heap.size := lt_of_block (heap_below (al_new w _ _ rfl) hb1); have G0 := heap_below (al_new w _ _ rfl) hb1; have c0 : w1.cell? ⟨w.heap.size, 0, none⟩ = some (.int .i64 0) := cell_blk G0 0 rfl; have c1 : w1.cell? ⟨w.heap.size, 1, none⟩ = some (.int .i64 0) := cell_blk G0 1 rfl; have i0 := free_blk G0 0; have i1 := free_blk G0 1; clear G0 hb1)
    go_region
    all_goals go_wp2
    all_goals refine bodyPost_ret (v := .tuple #[.slice none 0 0, .agg #[.int .i64 c, .int .i64 l]]) ?_ rfl ⟨rfl, ?_⟩
    · rw [results_slot_cell rfl]; go_simp
    · have h0 : w.heap.size ≤ w.heap.size := Nat.le_refl _
      have hb : Below w.heap.size w w1 := below_step ((Below.refl _ w).alloc h0 _) HB1.out
      exact (((hb.setCell h0 _).setCell h0 _).alloc (by simp; omega) _).drew
  | inr x =>
    obtain ⟨ws, syms⟩ := x
    have HTR := Lib.hid htr
    clear htr
    go_enter Tryd.func9, Tryd.ntmps9
    go_wp2_with (go_at_call 16; (with_reducible refine (HTR.out _).mono ?_); rintro e w1 ⟨⟨v1, v2, rfl, hC, hS⟩, hb1⟩; obtain ⟨oa1, cap1, rfl⟩ := own_shape hC; obtain ⟨oa2, cap2, rfl⟩ := own_shape hS; have HB1 := Lib.hid hb1; have HC := Lib.hid hC; have hws : w.heap.size < w1.heap.size := lt_of_block (heap_below (al_new w _ _ rfl) hb1); have G0 := heap_below (al_new w _ _ rfl) hb1; have c0 : w1.cell? ⟨w.heap.size, 0, none⟩ = some (.int .i64 0) := cell_blk G0 0 rfl; have c1 : w1.cell? ⟨w.heap.size, 1, none⟩ = some (.int .i64 0) := cell_blk G0 1 rfl; have i0 := free_blk G0 0; have i1 := free_blk G0 1; clear G0 hb1 hC hS)
    go_region
    all_goals go_wp2
    all_goals refine bodyPost_ret (v := .tuple #[.slice oa1 ws.length cap1, .agg #[.int .i64 0, .int .i64 0]]) ?_ rfl ⟨⟨_, rfl, ?_⟩, ?_⟩
    · rw [results_slot_cell rfl]; go_simp
    · have n0 := own_low HC.out (k := w.heap.size) (by simp)
      exact own_base (own_below ((ownsRow_setCell_other (ownsRow_setCell_other HC.out n0 _) n0 _).alloc _) (Below.refl _ _).drew) (by simp)
    · have h0 : w.heap.size ≤ w.heap.size := Nat.le_refl _
      have hb : Below w.heap.size w w1 := below_step ((Below.refl _ w).alloc h0 _) HB1.out
      exact (((hb.setCell h0 _).setCell h0 _).alloc (by simp; omega) _).drew
set_option maxHeartbeats 4000000 in
theorem symbols_asm (src : ByteArray) (w : World) (hs : src.size ≤ 9223372036854775807) : Calls Tryd.prog 11 #[.string src] w (SymPost (transL src.data.toList) w) := by
  have htr := fun W => trans_asm src W hs
  generalize transL src.data.toList = r at *
  cases r with
  | inl x =>
    obtain ⟨c, l⟩ := x
    have HTR := Lib.hid htr
    clear htr
    go_enter Tryd.func11, Tryd.ntmps11
    go_wp2_with (go_at_call 16; (with_reducible refine (HTR.out _).mono ?_); rintro e w1 ⟨rfl, hb1⟩; have HB1 := Lib.hid hb1; have hws : w.heap.size < w1.heap.size := lt_of_block (heap_below (al_new w _ _ rfl) hb1); have G0 := heap_below (al_new w _ _ rfl) hb1; have c0 : w1.cell? ⟨w.heap.size, 0, none⟩ = some (.int .i64 0) := cell_blk G0 0 rfl; have c1 : w1.cell? ⟨w.heap.size, 1, none⟩ = some (.int .i64 0) := cell_blk G0 1 rfl; have i0 := free_blk G0 0; have i1 := free_blk G0 1; clear G0 hb1)
    go_region
    all_goals go_wp2
    all_goals refine bodyPost_ret (v := .tuple #[.slice none 0 0, .agg #[.int .i64 c, .int .i64 l]]) ?_ rfl ⟨rfl, ?_⟩
    · rw [results_slot_cell rfl]; go_simp
    · have h0 : w.heap.size ≤ w.heap.size := Nat.le_refl _
      have hb : Below w.heap.size w w1 := below_step ((Below.refl _ w).alloc h0 _) HB1.out
      exact (((hb.setCell h0 _).setCell h0 _).alloc (by simp; omega) _).drew
  | inr x =>
    obtain ⟨ws, syms⟩ := x
    have HTR := Lib.hid htr
    clear htr
    go_enter Tryd.func11, Tryd.ntmps11
    go_wp2_with (go_at_call 16; (with_reducible refine (HTR.out _).mono ?_); rintro e w1 ⟨⟨v1, v2, rfl, hC, hS⟩, hb1⟩; obtain ⟨oa1, cap1, rfl⟩ := own_shape hC; obtain ⟨oa2, cap2, rfl⟩ := own_shape hS; have HB1 := Lib.hid hb1; have HC := Lib.hid hS; have hws : w.heap.size < w1.heap.size := lt_of_block (heap_below (al_new w _ _ rfl) hb1); have G0 := heap_below (al_new w _ _ rfl) hb1; have c0 : w1.cell? ⟨w.heap.size, 0, none⟩ = some (.int .i64 0) := cell_blk G0 0 rfl; have c1 : w1.cell? ⟨w.heap.size, 1, none⟩ = some (.int .i64 0) := cell_blk G0 1 rfl; have i0 := free_blk G0 0; have i1 := free_blk G0 1; clear G0 hb1 hC hS)
    go_region
    all_goals go_wp2
    all_goals refine bodyPost_ret (v := .tuple #[.slice oa2 syms.length cap2, .agg #[.int .i64 0, .int .i64 0]]) ?_ rfl ⟨⟨_, rfl, ?_⟩, ?_⟩
    · rw [results_slot_cell rfl]; go_simp
    · have n0 := own_low HC.out (k := w.heap.size) (by simp)
      exact own_base (own_below ((ownsRow_setCell_other (ownsRow_setCell_other HC.out n0 _) n0 _).alloc _) (Below.refl _ _).drew) (by simp)
    · have h0 : w.heap.size ≤ w.heap.size := Nat.le_refl _
      have hb : Below w.heap.size w w1 := below_step ((Below.refl _ w).alloc h0 _) HB1.out
      exact (((hb.setCell h0 _).setCell h0 _).alloc (by simp; omega) _).drew
end Go.Proofs.YthghbcjaokpilaaDoor
