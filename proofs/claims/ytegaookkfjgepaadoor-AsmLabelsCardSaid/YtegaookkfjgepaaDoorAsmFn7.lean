import Derived.Test.YtegaookkfjgepaaDoorAsmFn6
namespace Go.Proofs.YtegaookkfjgepaaDoor
set_option linter.unusedVariables false
set_option linter.unusedSimpArgs false
open Go.ChangeShapes Go.WideShapes Go.ChangeAt Go.RowKit Go.Proofs.YtegaookkfjgepaaDoor.Num Go.Proofs.YtegaookkfjgepaaDoor.Mem Go.Proofs.YtegaookkfjgepaaDoor.Asm
/-- A word before the addresses of the labels are known. -/
structure Draft where
  line : Int
  role : Int
  op : Int
  a : Int
  b : Int
  c : Int
  n : Int
  l : Bs
def dCells (d : Draft) : List Value := [.int .i64 d.line, .int .i64 d.role, .int .i64 d.op, .int .i64 d.a, .int .i64 d.b, .int .i64 d.c, .int .i32 0, .int .i64 d.n, .string (S d.l)]
def flat (ds : List Draft) : List Value := ds.flatMap dCells
theorem flat_len (ds : List Draft) : (flat ds).length = ds.length * 9 := by
  induction ds with
  | nil => rfl
  | cons d ds ih => simp only [flat, List.flatMap_cons, List.length_append] at ih ⊢; rw [ih]; simp [dCells]; omega
theorem flat_snoc (ds : List Draft) (d : Draft) : flat (ds ++ [d]) = flat ds ++ dCells d := by simp [flat]
/-- The words that a statement stands for. -/
def wordsL (kind : Nat) (op : Int) (o : Opds) : Option (List Draft) :=
  if kind = 88 then some [⟨0, 0, op, o.a, o.b, o.c, o.n, o.l⟩]
  else if kind = 89 then some [⟨0, 2, op, o.a, 0, 0, o.n, o.l⟩, ⟨0, 3, 18, o.a, o.a, 0, o.n, o.l⟩]
  else if kind = 90 then some [⟨0, 1, 0, 0, 0, 0, o.n, o.l⟩]
  else if kind = 91 then (if o.n < 0 ∨ 1024 < o.n then none else some (List.replicate o.n.toNat ⟨0, 1, 0, 0, 0, 0, 0, []⟩))
  else none
def WordsPost (r : Option (List Draft)) (w : World) (e : Ending) (w' : World) : Prop :=
  (match r with
  | none => e = .returned (.tuple #[.slice none 0 0, .bool false])
  | some ds => ∃ v, e = .returned (.tuple #[v, .bool true]) ∧ w'.ownsRow w.heap.size 130 9 v ds.length (flat ds)) ∧ Below w.heap.size w w'
theorem words_some {ds : List Draft} {w w' : World} {v : Value} (h : w'.ownsRow w.heap.size 130 9 v ds.length (flat ds)) (hb : Below w.heap.size w w') : WordsPost (some ds) w (.returned (.tuple #[v, .bool true])) w' := ⟨⟨v, rfl, h⟩, hb⟩
theorem own_block (w : World) (g base n size : Nat) (T : TypeId) (cs : List Value) (hg : g = w.heap.size) (hb : base ≤ w.heap.size) (hl : cs.length = n * size) (hn : n ≤ 1000) : (w.alloc (.cells cs.toArray T)).ownsRow base T size (.slice (some ⟨g, 0, none⟩) n n) n cs := by
  subst hg
  exact ⟨hl, Or.inr ⟨w.heap.size, n, cs.toArray, rfl, hb, heap_alloc_new w _, Nat.le_refl _, by unfold maxLen; omega, by simpa using hl, by simp [← hl]⟩⟩
theorem instruction_asm (op : Int) (o : Opds) (w : World) : Calls Tryd.prog 88 #[.int .i64 op, opdV o] w (WordsPost (wordsL 88 op o) w) := by
  unfold opdV
  go_enter Tryd.func88, Tryd.ntmps88
  go_wp2
  go_ret2
  refine words_some (ds := [⟨0, 0, op, o.a, o.b, o.c, o.n, o.l⟩]) ?_ ?_
  · exact own_block (w.alloc _) (w.heap.size + 1) w.heap.size 1 9 130 (flat [⟨0, 0, op, o.a, o.b, o.c, o.n, o.l⟩]) (by simp) (by simp) rfl (by omega)
  · repeat' (first | with_reducible exact Below.refl _ _ | with_reducible apply Below.alloc | (simp; done) | (simp; omega))
theorem constant_asm (op : Int) (o : Opds) (w : World) : Calls Tryd.prog 89 #[.int .i64 op, opdV o] w (WordsPost (wordsL 89 op o) w) := by
  unfold opdV
  go_enter Tryd.func89, Tryd.ntmps89
  go_wp2
  go_ret2
  refine words_some (ds := [⟨0, 2, op, o.a, 0, 0, o.n, o.l⟩, ⟨0, 3, 18, o.a, o.a, 0, o.n, o.l⟩]) ?_ ?_
  · exact own_block (w.alloc _) (w.heap.size + 1) w.heap.size 2 9 130 (flat [⟨0, 2, op, o.a, 0, 0, o.n, o.l⟩, ⟨0, 3, 18, o.a, o.a, 0, o.n, o.l⟩]) (by simp) (by simp) rfl (by omega)
  · repeat' (first | with_reducible exact Below.refl _ _ | with_reducible apply Below.alloc | (simp; done) | (simp; omega))
theorem data_asm (op : Int) (o : Opds) (w : World) : Calls Tryd.prog 90 #[.int .i64 op, opdV o] w (WordsPost (wordsL 90 op o) w) := by
  unfold opdV
  go_enter Tryd.func90, Tryd.ntmps90
  go_wp2
  go_ret2
  refine words_some (ds := [⟨0, 1, 0, 0, 0, 0, o.n, o.l⟩]) ?_ ?_
  · exact own_block (w.alloc _) (w.heap.size + 1) w.heap.size 1 9 130 (flat [⟨0, 1, 0, 0, 0, 0, o.n, o.l⟩]) (by simp) (by simp) rfl (by omega)
  · repeat' (first | with_reducible exact Below.refl _ _ | with_reducible apply Below.alloc | (simp; done) | (simp; omega))
theorem info_draft : (Tryd.prog.info? 130).map (fun i => (i.zero, i.size, i.bytes)) = some (some (.agg #[.int .i64 0, .int .i64 0, .int .i64 0, .int .i64 0, .int .i64 0, .int .i64 0, .int .i32 0, .int .i64 0, .string { data := #[] }]), 9, 80) := by kernel_rfl
/-- The cells that append's one new draft lies in. -/
theorem new_cells9 (w : World) (xs : List Value) (T : TypeId) : ∀ j u, xs[j]? = some u → (w.alloc (.cells xs.toArray T)).cell? ((⟨w.heap.size, 0, none⟩ : Addr).add j) = some u := by
  intro j u h
  rw [add_plain, World.cell?_alloc_at _ _ _ _ rfl]
  simpa using h
def zeroD : Draft := ⟨0, 1, 0, 0, 0, 0, 0, []⟩
theorem one_cells9 (d : Draft) : ∀ u ∈ dCells d, u.oneCell' = true := by simp [dCells, Value.oneCell']
set_option maxRecDepth 100000 in
theorem space_asm (op : Int) (o : Opds) (w : World) : Calls Tryd.prog 91 #[.int .i64 op, opdV o] w (WordsPost (wordsL 91 op o) w) := by
  obtain ⟨i0, hi, hz0, hz1, hz2⟩ := info_parts info_draft
  by_cases hr : o.n < 0 ∨ 1024 < o.n
  · have e : wordsL 91 op o = none := by simp [wordsL, hr]
    rw [e]
    unfold opdV
    clear e
    by_cases h0 : o.n < 0
    · go_enter Tryd.func91, Tryd.ntmps91
      go_wp2
      go_ret2
      exact ⟨rfl, (Below.refl _ _).alloc (Nat.le_refl _) _⟩
    · have h1 : 1024 < o.n := by omega
      go_enter Tryd.func91, Tryd.ntmps91
      go_wp2
      go_ret2
      exact ⟨rfl, (Below.refl _ _).alloc (Nat.le_refl _) _⟩
  · have e : wordsL 91 op o = some (List.replicate o.n.toNat zeroD) := by simp [wordsL, hr, zeroD]
    rw [e]
    unfold opdV
    obtain ⟨N, hN⟩ : ∃ N : Nat, o.n = N := ⟨o.n.toNat, by omega⟩
    rw [hN, Int.toNat_natCast]
    have hN2 : N ≤ 1024 := by omega
    clear e hr hN
    go_enter Tryd.func91, Tryd.ntmps91
    go_wp2
    go_loopw [7, 18] (fun v i wr => ∃ k : Nat, k ≤ N ∧ i = .int .i64 k ∧ wr.ownsRow w.heap.size 130 9 v (List.replicate k zeroD).length (flat (List.replicate k zeroD)) ∧ Below w.heap.size w wr) (fun _ i _ => N - (intOf i).toNat)
    case atStart => exact ⟨0, by omega, rfl, World.ownsRow_nil _ _ _ _, (Below.refl _ _).alloc (Nat.le_refl _) _⟩
    case round =>
      obtain ⟨k, hk, rfl, hown, hbw⟩ := hrel
      have hws := hbw.size
      by_cases hlt : k < N
      · rw [List.length_replicate] at hown
        go_wp2_with (at_builtin; refine wpList_append_own _ rfl _ _ 108 rfl w.heap.size 130 i0 _ 9 80 Tryd.underlying108 hi hz0 hz1 hz2 rfl (by decide) _ _ _ rfl (hown.alloc _) ⟨_, 0, none⟩ 1 1 (dCells zeroD) rfl rfl (new_cells9 _ _ _) (one_cells9 _) (by unfold maxLen; omega) (by omega) (by simp; omega) ?_)
        intro v' w1 hown3 hgrow _
        have hown4 : w1.ownsRow w.heap.size 130 9 v' (List.replicate (k + 1) zeroD).length (flat (List.replicate (k + 1) zeroD)) := by
          rw [List.replicate_succ', flat_snoc]; simpa using hown3
        have hb1 : Below w.heap.size w w1 := (hbw.alloc hws _).grown hgrow (by simp; omega) (fun k hk => (hown.lt k hk).1)
        have HO := Lib.hid hown4
        clear hown3 hgrow hown4
        go_wp2
        go_roundw
        case rel => exact ⟨k + 1, by omega, by go_num, HO.out, hb1⟩
        case measure => simp [intOf]; omega
      · have e : k = N := by omega
        subst e
        have HO := Lib.hid hown
        clear hown
        go_wp2
        go_ret2
        exact words_some HO.out hbw
end Go.Proofs.YtegaookkfjgepaaDoor
