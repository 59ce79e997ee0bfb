import Derived.Test.YtegaookkfjgepaaDoorAsmFn15
namespace Go.Proofs.YtegaookkfjgepaaDoor
set_option linter.unusedVariables false
set_option linter.unusedSimpArgs false
open Go.ChangeShapes Go.WideShapes Go.ChangeAt Go.RowKit Go.Proofs.YtegaookkfjgepaaDoor.Num Go.Proofs.YtegaookkfjgepaaDoor.Isa Go.Proofs.YtegaookkfjgepaaDoor.Mem Go.Proofs.YtegaookkfjgepaaDoor.Asm
def NOk (o : Opds) : Prop := -2147483648 ≤ o.n ∧ o.n ≤ 4294967295
theorem valL_bd {s : Bs} {v : Int × Bs} (h : valL s = some v) : -2147483648 ≤ v.1 ∧ v.1 ≤ 4294967295 := by
  unfold valL at h
  split at h
  · injection h with h; subst h; simp
  · cases hn : numL s with
    | none => rw [hn] at h; cases h
    | some n => rw [hn] at h; simp at h; subst h; exact numL_bd hn
theorem opStep_bd {p : UInt8} {t : Bs} {o o' : Opds} (h : opStep p t o = some o') (ho : NOk o) : NOk o' := by
  unfold opStep at h
  split at h
  · split at h
    · injection h with h; subst h; exact ho
    · cases h
  · split at h
    · split at h
      · injection h with h; subst h; exact ho
      · cases h
    · split at h
      · split at h
        · injection h with h; subst h; exact ho
        · cases h
      · split at h
        · split at h
          · rename_i n hn; injection h with h; subst h; exact numL_bd hn
          · cases h
        · split at h
          · split at h
            · rename_i v hv; injection h with h; subst h; exact valL_bd hv
            · cases h
          · split at h
            · injection h with h; subst h; exact ho
            · cases h
theorem opsGo_bd : ∀ (ps : Bs) (ts : List Bs) (o o' : Opds), opsGo ps ts o = some o' → NOk o → NOk o'
  | [], ts, o, o', h, ho => by simp [opsGo] at h; subst h; exact ho
  | p :: ps, [], o, o', h, ho => by simp [opsGo] at h; subst h; exact ho
  | p :: ps, t :: ts, o, o', h, ho => by
    simp only [opsGo] at h
    cases hs : opStep p t o with
    | none => rw [hs] at h; cases h
    | some o2 =>
      rw [hs] at h
      exact opsGo_bd ps ts o2 o' h (opStep_bd hs ho)
theorem opsL_bd {ps : Bs} {ts : List Bs} {o : Opds} (h : opsL ps ts = some o) : NOk o := by
  unfold opsL at h
  split at h
  · exact opsGo_bd _ _ _ _ h (by unfold NOk Opds.zero; simp)
  · cases h
theorem words_ok {kind : Nat} {op : Int} {o : Opds} {ds : List Draft} (h : wordsL kind op o = some ds) (ho : NOk o) : ∀ d ∈ ds, DraftOk d := by
  obtain ⟨h1, h2⟩ := ho
  unfold wordsL at h
  split at h
  · cases h; intro d hd; simp at hd; subst hd; exact ⟨h1, h2, by simp, by simp⟩
  · split at h
    · cases h; intro d hd; simp at hd; rcases hd with rfl | rfl <;> exact ⟨h1, h2, by simp, by simp⟩
    · split at h
      · cases h; intro d hd; simp at hd; subst hd; exact ⟨h1, h2, by simp, by simp⟩
      · split at h
        · split at h
          · cases h
          · cases h; intro d hd; have := List.eq_of_mem_replicate hd; subst this; exact ⟨by simp, by simp, by simp, by simp⟩
        · cases h
theorem stmt_ok {ts : List Bs} {ds : List Draft} (h : stmtL ts = some ds) : ∀ d ∈ ds, DraftOk d := by
  cases ts with
  | nil => simp [stmtL] at h; subst h; simp
  | cons m ts =>
    change ((stmOf m).bind fun q => (opsL q.pat ts).bind fun o => wordsL q.kind q.op o) = some ds at h
    cases hq : stmOf m with
    | none => rw [hq] at h; cases h
    | some q =>
      rw [hq] at h
      cases ho : opsL q.pat ts with
      | none => simp [ho] at h
      | some o => simp [ho] at h; exact words_ok h (opsL_bd ho)
theorem line_ok {l lab : Bs} {dd : List Draft} (h : lineR l = some (lab, dd)) : ∀ d ∈ dd, DraftOk d := by
  obtain ⟨rest, _, h2⟩ := lineR_some h
  exact stmt_ok h2
theorem numbered_ok {n : Int} {dd : List Draft} (h : ∀ d ∈ dd, DraftOk d) : ∀ d ∈ numbered n dd, DraftOk d := by
  intro d hd
  unfold numbered at hd
  obtain ⟨d', h1, h2⟩ := List.mem_map.1 hd
  subst h2
  exact h d' h1
def ReadOk (syms : List (Bs × Nat)) (ds : List Draft) : Prop := (∀ d ∈ ds, DraftOk d) ∧ (∀ s ∈ syms, s.2 ≤ 4096) ∧ ds.length ≤ 1024
theorem read_ok : ∀ (ls : List Bs) (i : Nat) (syms : List (Bs × Nat)) (ds : List Draft) (r : List (Bs × Nat) × List Draft), readL ls i syms ds = .inr r → ReadOk syms ds → ReadOk r.1 r.2
  | [], i, syms, ds, r, h, hk => by simp [readL] at h; subst h; exact hk
  | l :: ls, i, syms, ds, r, h, hk => by
    cases hl : lineR l with
    | none => rw [read_none hl] at h; cases h
    | some x =>
      obtain ⟨lab, dd⟩ := x
      by_cases ht : lab ≠ [] ∧ (lookS syms lab).isSome = true
      · rw [read_twice hl ht] at h; cases h
      · by_cases hb : 1024 < (ds ++ numbered ((i : Int) + 1) dd).length
        · rw [read_large hl ht hb] at h; cases h
        · rw [read_next hl ht hb] at h
          refine read_ok ls _ _ _ r h ⟨fun d hd => ?_, fun s hs => ?_, by omega⟩
          · rcases List.mem_append.1 hd with hd | hd
            · exact hk.1 d hd
            · exact numbered_ok (line_ok hl) d hd
          · unfold addSyms at hs
            split at hs
            · exact hk.2.1 s hs
            · rcases List.mem_append.1 hs with hs | hs
              · exact hk.2.1 s hs
              · simp at hs; subst hs; have := hk.2.2; simp; omega
theorem read_errs : ∀ (ls : List Bs) (i : Nat) (syms : List (Bs × Nat)) (ds : List Draft) (r : Nat × Nat), readL ls i syms ds = .inl r → r.1 = 301 ∨ r.1 = 303 ∨ r.1 = 305
  | [], i, syms, ds, r, h => by simp [readL] at h
  | l :: ls, i, syms, ds, r, h => by
    cases hl : lineR l with
    | none => rw [read_none hl] at h; cases h; simp
    | some x =>
      obtain ⟨lab, dd⟩ := x
      by_cases ht : lab ≠ [] ∧ (lookS syms lab).isSome = true
      · rw [read_twice hl ht] at h; cases h; simp
      · by_cases hb : 1024 < (ds ++ numbered ((i : Int) + 1) dd).length
        · rw [read_large hl ht hb] at h; cases h; simp
        · rw [read_next hl ht hb] at h
          exact read_errs ls _ _ _ r h
theorem code_errs (syms : List (Bs × Nat)) : ∀ (ds : List Draft) (acc : List Int) (r : Int × Int), codeL syms ds acc = .inl r → ¬ r.1 = 0
  | [], acc, r, h => by simp [codeL] at h
  | d :: ds, acc, r, h => by
    by_cases hr : (finL syms d (4 * (acc.length : Int))).2 = 0
    · rw [code_ok hr] at h; exact code_errs syms ds _ r h
    · rw [code_bad hr] at h; injection h with h; subst h; exact hr
def transR (syms : List (Bs × Nat)) : Sum (Int × Int) (List Int) → Sum (Int × Int) (List Int × List (Bs × Nat)) | .inl e => .inl e | .inr ws => .inr (ws, syms)
/-- What a source stands for: its words and labels, or an error and a line. -/
def transL (src : Bs) : Sum (Int × Int) (List Int × List (Bs × Nat)) :=
  if 8192 < src.length then .inl (300, 0)
  else match readL (linesL src) 0 [] [] with
  | .inl r => .inl (r.1, r.2)
  | .inr r => transR r.1 (codeL r.1 r.2 [])
def TransPost (r : Sum (Int × Int) (List Int × List (Bs × Nat))) (w : World) (e : Ending) (w' : World) : Prop :=
  (match r with
  | .inl (err, line) => e = .returned (.tuple #[.slice none 0 0, .slice none 0 0, .agg #[.int .i64 err, .int .i64 line]])
  | .inr (ws, syms) => ∃ v vs, e = .returned (.tuple #[v, vs, .agg #[.int .i64 0, .int .i64 0]]) ∧ w'.ownsRow w.heap.size 47 1 v ws.length (ws.map u32V) ∧ w'.ownsRow w.heap.size 51 2 vs syms.length (flatS syms)) ∧ Below w.heap.size w w'
theorem results_slot2_cell {fn : Func} {p u u' : Tmp} {ty : TypeId} (h : fn.results = #[.tmp u, .tmp u', .cell p ty]) (tmps : Array Value) (P : Program) (w : World) :
    (results fn tmps).run P w =
      ((asAddr (tmps.getD p undef)).run P w).andThen fun a w₁ => ((loadVar ty a).run P w₁).andThen fun v w₂ => .ok (.tuple #[tmps.getD u undef, tmps.getD u' undef, v]) w₂ := by
  simp only [results, h]
  simp [Sem.run_bind, Result.andThen]
end Go.Proofs.YtegaookkfjgepaaDoor
