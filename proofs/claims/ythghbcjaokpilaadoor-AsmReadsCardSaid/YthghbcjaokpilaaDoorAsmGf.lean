import Derived.Test.YthghbcjaokpilaaDoorAsmFn6
import Derived.Maps.OwnOps
import Derived.Laws.EntriesVeiled
import Derived.Deep.RegionWith
import Derived.Deep.RegionHeld3
namespace Go.Proofs.YthghbcjaokpilaaDoor
set_option linter.unusedVariables false
set_option linter.unusedSimpArgs false
open Go.ChangeShapes Go.WideShapes Go.ChangeAt Go.RowKit Go.Proofs.YthghbcjaokpilaaDoor.Num Go.Proofs.YthghbcjaokpilaaDoor.Mem Go.Proofs.YthghbcjaokpilaaDoor.Asm
/-- A word before the addresses of the labels are known. -/
structure Draft where
  line : Int
  role : Int
  op : Int
  a : Int
  b : Int
  c : Int
  n : Int
  l : Bs
def dCells (d : Draft) : List Value := [.int .i64 d.line, .int .i64 d.role, .int .i64 d.op, .int .i64 d.a, .int .i64 d.b, .int .i64 d.c, .int .i32 0, .int .i64 d.n, .string (S d.l)]
def flat (ds : List Draft) : List Value := ds.flatMap dCells
theorem flat_len (ds : List Draft) : (flat ds).length = ds.length * 9 := by
  induction ds with
  | nil => rfl
  | cons d ds ih => simp only [flat, List.flatMap_cons, List.length_append] at ih ⊢; rw [ih]; simp [dCells]; omega
theorem flat_snoc (ds : List Draft) (d : Draft) : flat (ds ++ [d]) = flat ds ++ dCells d := by simp [flat]
/-- The words that a statement stands for. -/
def wordsL (kind : Nat) (op : Int) (o : Opds) : Option (List Draft) :=
  if kind = 38 then some [⟨0, 0, op, o.a, o.b, o.c, o.n, o.l⟩]
  else if kind = 39 then some [⟨0, 2, op, o.a, 0, 0, o.n, o.l⟩, ⟨0, 3, 18, o.a, o.a, 0, o.n, o.l⟩]
  else if kind = 40 then some [⟨0, 1, 0, 0, 0, 0, o.n, o.l⟩]
  else if kind = 41 then (if o.n < 0 ∨ 1024 < o.n then none else some (List.replicate o.n.toNat ⟨0, 1, 0, 0, 0, 0, 0, []⟩))
  else none
def WordsPost (r : Option (List Draft)) (w : World) (e : Ending) (w' : World) : Prop :=
  (match r with
  | none => e = .returned (.tuple #[.slice none 0 0, .bool false])
  | some ds => ∃ v, e = .returned (.tuple #[v, .bool true]) ∧ w'.ownsRow w.heap.size 83 9 v ds.length (flat ds)) ∧ Below w.heap.size w w'
theorem words_some {ds : List Draft} {w w' : World} {v : Value} (h : w'.ownsRow w.heap.size 83 9 v ds.length (flat ds)) (hb : Below w.heap.size w w') : WordsPost (some ds) w (.returned (.tuple #[v, .bool true])) w' := ⟨⟨v, rfl, h⟩, hb⟩
theorem own_block (w : World) (g base n size : Nat) (T : TypeId) (cs : List Value) (hg : g = w.heap.size) (hb : base ≤ w.heap.size) (hl : cs.length = n * size) (hn : n ≤ 1000) : (w.alloc (.cells cs.toArray T)).ownsRow base T size (.slice (some ⟨g, 0, none⟩) n n) n cs := by
  subst hg
  exact ⟨hl, Or.inr ⟨w.heap.size, n, cs.toArray, rfl, hb, heap_alloc_new w _, Nat.le_refl _, by unfold maxLen; omega, by simpa using hl, by simp [← hl]⟩⟩
theorem instruction_asm (op : Int) (o : Opds) (w : World) : Calls Tryd.prog 38 #[.int .i64 op, opdV o] w (WordsPost (wordsL 38 op o) w) := by
  unfold opdV
  go_enter Tryd.func38, Tryd.ntmps38
  go_wp2
  go_ret2
  refine words_some (ds := [⟨0, 0, op, o.a, o.b, o.c, o.n, o.l⟩]) ?_ ?_
  · exact own_block (w.alloc _) (w.heap.size + 1) w.heap.size 1 9 83 (flat [⟨0, 0, op, o.a, o.b, o.c, o.n, o.l⟩]) (by simp) (by simp) rfl (by omega)
  · repeat' (first | with_reducible exact Below.refl _ _ | with_reducible apply Below.alloc | (simp; done) | (simp; omega))
theorem constant_asm (op : Int) (o : Opds) (w : World) : Calls Tryd.prog 39 #[.int .i64 op, opdV o] w (WordsPost (wordsL 39 op o) w) := by
  unfold opdV
  go_enter Tryd.func39, Tryd.ntmps39
  go_wp2
  go_ret2
  refine words_some (ds := [⟨0, 2, op, o.a, 0, 0, o.n, o.l⟩, ⟨0, 3, 18, o.a, o.a, 0, o.n, o.l⟩]) ?_ ?_
  · exact own_block (w.alloc _) (w.heap.size + 1) w.heap.size 2 9 83 (flat [⟨0, 2, op, o.a, 0, 0, o.n, o.l⟩, ⟨0, 3, 18, o.a, o.a, 0, o.n, o.l⟩]) (by simp) (by simp) rfl (by omega)
  · repeat' (first | with_reducible exact Below.refl _ _ | with_reducible apply Below.alloc | (simp; done) | (simp; omega))
theorem data_asm (op : Int) (o : Opds) (w : World) : Calls Tryd.prog 40 #[.int .i64 op, opdV o] w (WordsPost (wordsL 40 op o) w) := by
  unfold opdV
  go_enter Tryd.func40, Tryd.ntmps40
  go_wp2
  go_ret2
  refine words_some (ds := [⟨0, 1, 0, 0, 0, 0, o.n, o.l⟩]) ?_ ?_
  · exact own_block (w.alloc _) (w.heap.size + 1) w.heap.size 1 9 83 (flat [⟨0, 1, 0, 0, 0, 0, o.n, o.l⟩]) (by simp) (by simp) rfl (by omega)
  · repeat' (first | with_reducible exact Below.refl _ _ | with_reducible apply Below.alloc | (simp; done) | (simp; omega))
theorem info_draft : (Tryd.prog.info? 83).map (fun i => (i.zero, i.size, i.bytes)) = some (some (.agg #[.int .i64 0, .int .i64 0, .int .i64 0, .int .i64 0, .int .i64 0, .int .i64 0, .int .i32 0, .int .i64 0, .string { data := #[] }]), 9, 80) := by kernel_rfl
/-- The cells that append's one new draft lies in. -/
theorem new_cells9 (w : World) (xs : List Value) (T : TypeId) : ∀ j u, xs[j]? = some u → (w.alloc (.cells xs.toArray T)).cell? ((⟨w.heap.size, 0, none⟩ : Addr).add j) = some u := by
  intro j u h
  rw [add_plain, World.cell?_alloc_at _ _ _ _ rfl]
  simpa using h
def zeroD : Draft := ⟨0, 1, 0, 0, 0, 0, 0, []⟩
theorem one_cells9 (d : Draft) : ∀ u ∈ dCells d, u.oneCell' = true := by simp [dCells, Value.oneCell']
set_option maxRecDepth 100000 in
theorem space_asm (op : Int) (o : Opds) (w : World) : Calls Tryd.prog 41 #[.int .i64 op, opdV o] w (WordsPost (wordsL 41 op o) w) := by
  obtain ⟨i0, hi, hz0, hz1, hz2⟩ := info_parts info_draft
  by_cases hr : o.n < 0 ∨ 1024 < o.n
  · have e : wordsL 41 op o = none := by simp [wordsL, hr]
    rw [e]
    unfold opdV
    clear e
    by_cases h0 : o.n < 0
    · go_enter Tryd.func41, Tryd.ntmps41
      go_wp2
      go_ret2
      exact ⟨rfl, (Below.refl _ _).alloc (Nat.le_refl _) _⟩
    · have h1 : 1024 < o.n := by omega
      go_enter Tryd.func41, Tryd.ntmps41
      go_wp2
      go_ret2
      exact ⟨rfl, (Below.refl _ _).alloc (Nat.le_refl _) _⟩
  · have e : wordsL 41 op o = some (List.replicate o.n.toNat zeroD) := by simp [wordsL, hr, zeroD]
    rw [e]
    unfold opdV
    obtain ⟨N, hN⟩ : ∃ N : Nat, o.n = N := ⟨o.n.toNat, by omega⟩
    rw [hN, Int.toNat_natCast]
    have hN2 : N ≤ 1024 := by omega
    clear e hr hN
    go_enter Tryd.func41, Tryd.ntmps41
    go_wp2
    go_loopw [7, 18] (fun v i wr => ∃ k : Nat, k ≤ N ∧ i = .int .i64 k ∧ wr.ownsRow w.heap.size 83 9 v (List.replicate k zeroD).length (flat (List.replicate k zeroD)) ∧ Below w.heap.size w wr) (fun _ i _ => N - (intOf i).toNat)
    case atStart => exact ⟨0, by omega, rfl, World.ownsRow_nil _ _ _ _, (Below.refl _ _).alloc (Nat.le_refl _) _⟩
    case round =>
      obtain ⟨k, hk, rfl, hown, hbw⟩ := hrel
      have hws := hbw.size
      by_cases hlt : k < N
      · rw [List.length_replicate] at hown
        go_wp2_with (at_builtin; refine wpList_append_own _ rfl _ _ 62 rfl w.heap.size 83 i0 _ 9 80 Tryd.underlying62 hi hz0 hz1 hz2 rfl (by decide) _ _ _ rfl (hown.alloc _) ⟨_, 0, none⟩ 1 1 (dCells zeroD) rfl rfl (new_cells9 _ _ _) (one_cells9 _) (by unfold maxLen; omega) (by omega) (by simp; omega) ?_)
        intro v' w1 hown3 hgrow _
        have hown4 : w1.ownsRow w.heap.size 83 9 v' (List.replicate (k + 1) zeroD).length (flat (List.replicate (k + 1) zeroD)) := by
          rw [List.replicate_succ', flat_snoc]; simpa using hown3
        have hb1 : Below w.heap.size w w1 := (hbw.alloc hws _).grown hgrow (by simp; omega) (fun k hk => (hown.lt k hk).1)
        have HO := Lib.hid hown4
        clear hown3 hgrow hown4
        go_wp2
        go_roundw
        case rel => exact ⟨k + 1, by omega, by go_num, HO.out, hb1⟩
        case measure => simp [intOf]; omega
      · have e : k = N := by omega
        subst e
        have HO := Lib.hid hown
        clear hown
        go_wp2
        go_ret2
        exact words_some HO.out hbw
end Go.Proofs.YthghbcjaokpilaaDoor

namespace Go.Proofs.YthghbcjaokpilaaDoor
set_option linter.unusedVariables false
set_option linter.unusedSimpArgs false
open Go.ChangeShapes Go.WideShapes Go.ChangeAt Go.RowKit Go.Proofs.YthghbcjaokpilaaDoor.Num Go.Proofs.YthghbcjaokpilaaDoor.Mem Go.Proofs.YthghbcjaokpilaaDoor.Asm
/-- A map of strings, entry by entry in the order in which they came. -/
def mkE {α : Type} (f : α → Bs) (g : α → Value) : List α → Nat → List MapEntry
  | [], _ => []
  | r :: l, i => { key := .string (S (f r)), val := g r, born := i } :: mkE f g l (i + 1)
theorem S_beq (a b : Bs) : (S a == S b) = decide (a = b) := by
  rw [Bool.eq_iff_iff, MapKept.bytes_beq, decide_eq_true_eq]
  exact ⟨S_inj, fun h => by rw [h]⟩
theorem find_mk {α : Type} (f : α → Bs) (g : α → Value) (t : Bs) : ∀ (l : List α) (i j : Nat),
    (l.find? (fun r => f r == t) = none → Instr.findNow .string (.string (S t)) (mkE f g l i) j = some none) ∧
    (∀ q, l.find? (fun r => f r == t) = some q → ∃ n, Instr.findNow .string (.string (S t)) (mkE f g l i) j = some (some (n, g q)))
  | [], i, j => ⟨fun _ => rfl, fun q h => by simp at h⟩
  | r :: l, i, j => by
    obtain ⟨h1, h2⟩ := find_mk f g t l (i + 1) (j + 1)
    have e : Instr.sameNow .string (.string (S t)) (.string (S (f r))) = some (decide (t = f r)) := by rw [← S_beq]; rfl
    by_cases h : f r = t
    · refine ⟨fun hn => by simp [h] at hn, fun q hq => ?_⟩
      simp [h] at hq
      subst hq
      refine ⟨j, ?_⟩
      simp only [mkE, Instr.findNow, e]
      simp [h]
    · have hd : decide (t = f r) = false := by simpa using fun e => h e.symm
      rw [hd] at e
      have hb : (f r == t) = false := by simpa using h
      refine ⟨fun hn => ?_, fun q hq => ?_⟩
      · rw [List.find?_cons_of_neg (by simpa using h)] at hn
        simp only [mkE, Instr.findNow, e]
        exact h1 hn
      · rw [List.find?_cons_of_neg (by simpa using h)] at hq
        obtain ⟨n, hn⟩ := h2 q hq
        exact ⟨n, by simp only [mkE, Instr.findNow, e]; exact hn⟩
theorem run_look {P : Program} {w : World} {T K E : TypeId} {r c : Nat} {es : Array MapEntry} {t : Bs} {z : Value} {a : Option (Nat × Value)} (hT : P.underlying T = some (.map K E)) (hK : P.underlying K = some .string) (hb : w.heap[r]? = some (.map es c))
    (hf : Instr.findNow .string (.string (S t)) es.toList 0 = some a) (hz : (zeroValue E).run P w = .ok z w) :
    (Instr.lookup T (.map (some r)) (.string (S t)) true).run P w = .ok (match a with | some (_, v) => .tuple #[v, .bool true] | none => .tuple #[z, .bool false]) w := by
  have hg := MapKept.run_getObj_map (P := P) hb
  have hk := MapKept.run_findKey (P := P) (w := w) hK hf
  have hc : (Instr.checkKey es.isEmpty 10000 K (.string (S t))).run P w = .ok () w := MapKept.run_checkKey (k := .string (S t)) hK (by simp [MapKept.IsKey]) es.isEmpty 9999
  cases a with
  | none => simp [Instr.lookup, run_underlying hT, hg, hc, hk, hz, Result.andThen]
  | some p => obtain ⟨n, v⟩ := p; simp [Instr.lookup, run_underlying hT, hg, hc, hk, Result.andThen]
theorem tabFrom_mk : ∀ (l : List Stm) (i : Nat), tabFrom l i = mkE Stm.name stmV l i
  | [], _ => rfl
  | r :: l, i => by simp only [tabFrom, mkE, tabFrom_mk l (i + 1)]; rfl
/-- The statement of a mnemonic. -/
def stmOf (t : Bs) : Option Stm := rows.find? (fun r => r.name == t)
theorem tab_all : (tabA 49).toList = mkE Stm.name stmV rows 0 := by
  unfold tabA
  rw [← tabFrom_mk, List.take_of_length_le (by decide)]
theorem zeroStm (w : World) : (zeroValue 99).run Tryd.prog w = .ok (.agg #[.int .i64 0, .string { data := #[] }, .nilFunc]) w := by kernel_rfl
theorem look_yes {w : World} {r : Nat} (hb : w.heap[r]? = some (.map (tabA 49) 49)) {t : Bs} {q : Stm} (h : stmOf t = some q) :
    (Instr.lookup 75 (.map (some r)) (.string (S t)) true).run Tryd.prog w = .ok (.tuple #[stmV q, .bool true]) w := by
  obtain ⟨n, hn⟩ := (find_mk Stm.name stmV t rows 0 0).2 q h
  rw [← tab_all] at hn
  exact run_look Tryd.underlying75 Tryd.underlying9 hb hn (zeroStm w)
theorem look_no {w : World} {r : Nat} (hb : w.heap[r]? = some (.map (tabA 49) 49)) {t : Bs} (h : stmOf t = none) :
    (Instr.lookup 75 (.map (some r)) (.string (S t)) true).run Tryd.prog w = .ok (.tuple #[.agg #[.int .i64 0, .string { data := #[] }, .nilFunc], .bool false]) w := by
  have hn := (find_mk Stm.name stmV t rows 0 0).1 h
  rw [← tab_all] at hn
  exact run_look Tryd.underlying75 Tryd.underlying9 hb hn (zeroStm w)
/-- The words of a line's statement. -/
def stmtL : List Bs → Option (List Draft)
  | [] => some []
  | m :: ts => (stmOf m).bind fun q => (opsL q.pat ts).bind fun o => wordsL q.kind q.op o
theorem kind_cases {t : Bs} {q : Stm} (h : stmOf t = some q) : (q.kind = 38 ∨ q.kind = 39 ∨ q.kind = 40 ∨ q.kind = 41) ∧ q.pat.length ≤ 10 := by
  have hm := List.mem_of_find?_eq_some h
  have : ∀ q ∈ rows, (q.kind = 38 ∨ q.kind = 39 ∨ q.kind = 40 ∨ q.kind = 41) ∧ q.pat.length ≤ 10 := by decide +kernel
  exact this q hm
theorem statement_nil (r : Nat) (oa : Option Addr) (cap : Nat) (w : World) : Calls Tryd.prog 44 #[.map (some r), .slice oa 0 cap] w (WordsPost (stmtL []) w) := by
  go_enter Tryd.func44, Tryd.ntmps44
  go_wp2
  go_ret2
  exact words_some (ds := []) (World.ownsRow_nil _ _ _ _) (Below.refl _ _)
theorem bcell {W w1 : World} (hb : Below W.heap.size W w1) : (∀ b o, b < W.heap.size → w1.cell? ⟨b, o, none⟩ = W.cell? ⟨b, o, none⟩) ∧ (∀ b o, b < W.heap.size → w1.frozen? ⟨b, o, none⟩ = W.frozen? ⟨b, o, none⟩) :=
  ⟨fun b o h => hb.cell (p := ⟨b, o, none⟩) h, fun b o h => hb.frozen (p := ⟨b, o, none⟩) h⟩
theorem own_base {w : World} {base base' : Nat} {e : TypeId} {size : Nat} {v : Value} {n : Nat} {xs : List Value} (h : w.ownsRow base e size v n xs) (hb : base' ≤ base) : w.ownsRow base' e size v n xs := by
  refine ⟨h.1, ?_⟩
  rcases h.2 with h | ⟨g, cap, cur, h1, h2, h3⟩
  · exact Or.inl h
  · exact Or.inr ⟨g, cap, cur, h1, by omega, h3⟩
theorem words_any (q : Stm) (o : Opds) (hk : q.kind = 38 ∨ q.kind = 39 ∨ q.kind = 40 ∨ q.kind = 41) (W : World) : Calls Tryd.prog q.kind #[.int .i64 q.op, opdV o] W (WordsPost (wordsL q.kind q.op o) W) := by
  rcases hk with h | h | h | h <;> rw [h]
  · exact instruction_asm _ _ _
  · exact constant_asm _ _ _
  · exact data_asm _ _ _
  · exact space_asm _ _ _
theorem tail_slice2 (b off n cap k : Nat) (h : k ≤ n) (hcap : n ≤ cap) : ∃ off2 : Nat, (k < n → off2 = off + k) ∧ ∀ W : World, (Instr.slice 40 (.slice (some ⟨b, off, none⟩) n cap) (some (.int .i64 (k : Int))) none none).run Tryd.prog W = .ok (.slice (some ⟨b, off2, none⟩) (n - k) (cap - k)) W := by
  by_cases hk : k < cap
  · refine ⟨off + k, fun _ => rfl, fun W => ?_⟩
    rw [run_slice_l W 40 (some ⟨b, off, none⟩) n cap elemStr .i64 (k : Int) (by omega) (by omega), sizeStr]
    simp [Result.andThen, sliced, Addr.add]
    rw [if_neg (by omega)]
    by_cases h0 : k = 0
    · simp [h0]
    · rw [if_neg h0]
  · refine ⟨off, fun h => absurd h (by omega), fun W => ?_⟩
    rw [run_slice_l W 40 (some ⟨b, off, none⟩) n cap elemStr .i64 (k : Int) (by omega) (by omega), sizeStr]
    simp [Result.andThen, sliced]
    intro h'; omega
end Go.Proofs.YthghbcjaokpilaaDoor
