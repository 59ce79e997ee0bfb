import Derived.Test.YtegaookkfjgepaaDoorAsmFn7
import Derived.Maps.OwnOps
import Derived.Laws.EntriesVeiled
import Derived.Deep.RegionWith
import Derived.Deep.RegionHeld3
namespace Go.Proofs.YtegaookkfjgepaaDoor
set_option linter.unusedVariables false
set_option linter.unusedSimpArgs false
open Go.ChangeShapes Go.WideShapes Go.ChangeAt Go.RowKit Go.Proofs.YtegaookkfjgepaaDoor.Num Go.Proofs.YtegaookkfjgepaaDoor.Mem Go.Proofs.YtegaookkfjgepaaDoor.Asm
/-- A map of strings, entry by entry in the order in which they came. -/
def mkE {α : Type} (f : α → Bs) (g : α → Value) : List α → Nat → List MapEntry
  | [], _ => []
  | r :: l, i => { key := .string (S (f r)), val := g r, born := i } :: mkE f g l (i + 1)
theorem S_beq (a b : Bs) : (S a == S b) = decide (a = b) := by
  rw [Bool.eq_iff_iff, MapKept.bytes_beq, decide_eq_true_eq]
  exact ⟨S_inj, fun h => by rw [h]⟩
theorem find_mk {α : Type} (f : α → Bs) (g : α → Value) (t : Bs) : ∀ (l : List α) (i j : Nat),
    (l.find? (fun r => f r == t) = none → Instr.findNow .string (.string (S t)) (mkE f g l i) j = some none) ∧
    (∀ q, l.find? (fun r => f r == t) = some q → ∃ n, Instr.findNow .string (.string (S t)) (mkE f g l i) j = some (some (n, g q)))
  | [], i, j => ⟨fun _ => rfl, fun q h => by simp at h⟩
  | r :: l, i, j => by
    obtain ⟨h1, h2⟩ := find_mk f g t l (i + 1) (j + 1)
    have e : Instr.sameNow .string (.string (S t)) (.string (S (f r))) = some (decide (t = f r)) := by rw [← S_beq]; rfl
    by_cases h : f r = t
    · refine ⟨fun hn => by simp [h] at hn, fun q hq => ?_⟩
      simp [h] at hq
      subst hq
      refine ⟨j, ?_⟩
      simp only [mkE, Instr.findNow, e]
      simp [h]
    · have hd : decide (t = f r) = false := by simpa using fun e => h e.symm
      rw [hd] at e
      have hb : (f r == t) = false := by simpa using h
      refine ⟨fun hn => ?_, fun q hq => ?_⟩
      · rw [List.find?_cons_of_neg (by simpa using h)] at hn
        simp only [mkE, Instr.findNow, e]
        exact h1 hn
      · rw [List.find?_cons_of_neg (by simpa using h)] at hq
        obtain ⟨n, hn⟩ := h2 q hq
        exact ⟨n, by simp only [mkE, Instr.findNow, e]; exact hn⟩
theorem run_look {P : Program} {w : World} {T K E : TypeId} {r c : Nat} {es : Array MapEntry} {t : Bs} {z : Value} {a : Option (Nat × Value)} (hT : P.underlying T = some (.map K E)) (hK : P.underlying K = some .string) (hb : w.heap[r]? = some (.map es c))
    (hf : Instr.findNow .string (.string (S t)) es.toList 0 = some a) (hz : (zeroValue E).run P w = .ok z w) :
    (Instr.lookup T (.map (some r)) (.string (S t)) true).run P w = .ok (match a with | some (_, v) => .tuple #[v, .bool true] | none => .tuple #[z, .bool false]) w := by
  have hg := MapKept.run_getObj_map (P := P) hb
  have hk := MapKept.run_findKey (P := P) (w := w) hK hf
  have hc : (Instr.checkKey es.isEmpty 10000 K (.string (S t))).run P w = .ok () w := MapKept.run_checkKey (k := .string (S t)) hK (by simp [MapKept.IsKey]) es.isEmpty 9999
  cases a with
  | none => simp [Instr.lookup, run_underlying hT, hg, hc, hk, hz, Result.andThen]
  | some p => obtain ⟨n, v⟩ := p; simp [Instr.lookup, run_underlying hT, hg, hc, hk, Result.andThen]
theorem tabFrom_mk : ∀ (l : List Stm) (i : Nat), tabFrom l i = mkE Stm.name stmV l i
  | [], _ => rfl
  | r :: l, i => by simp only [tabFrom, mkE, tabFrom_mk l (i + 1)]; rfl
/-- The statement of a mnemonic. -/
def stmOf (t : Bs) : Option Stm := rows.find? (fun r => r.name == t)
theorem tab_all : (tabA 49).toList = mkE Stm.name stmV rows 0 := by
  unfold tabA
  rw [← tabFrom_mk, List.take_of_length_le (by decide)]
theorem zeroStm (w : World) : (zeroValue 152).run Tryd.prog w = .ok (.agg #[.int .i64 0, .string { data := #[] }, .nilFunc]) w := by kernel_rfl
theorem look_yes {w : World} {r : Nat} (hb : w.heap[r]? = some (.map (tabA 49) 49)) {t : Bs} {q : Stm} (h : stmOf t = some q) :
    (Instr.lookup 122 (.map (some r)) (.string (S t)) true).run Tryd.prog w = .ok (.tuple #[stmV q, .bool true]) w := by
  obtain ⟨n, hn⟩ := (find_mk Stm.name stmV t rows 0 0).2 q h
  rw [← tab_all] at hn
  exact run_look Tryd.underlying122 Tryd.underlying9 hb hn (zeroStm w)
theorem look_no {w : World} {r : Nat} (hb : w.heap[r]? = some (.map (tabA 49) 49)) {t : Bs} (h : stmOf t = none) :
    (Instr.lookup 122 (.map (some r)) (.string (S t)) true).run Tryd.prog w = .ok (.tuple #[.agg #[.int .i64 0, .string { data := #[] }, .nilFunc], .bool false]) w := by
  have hn := (find_mk Stm.name stmV t rows 0 0).1 h
  rw [← tab_all] at hn
  exact run_look Tryd.underlying122 Tryd.underlying9 hb hn (zeroStm w)
/-- The words of a line's statement. -/
def stmtL : List Bs → Option (List Draft)
  | [] => some []
  | m :: ts => (stmOf m).bind fun q => (opsL q.pat ts).bind fun o => wordsL q.kind q.op o
theorem kind_cases {t : Bs} {q : Stm} (h : stmOf t = some q) : (q.kind = 88 ∨ q.kind = 89 ∨ q.kind = 90 ∨ q.kind = 91) ∧ q.pat.length ≤ 10 := by
  have hm := List.mem_of_find?_eq_some h
  have : ∀ q ∈ rows, (q.kind = 88 ∨ q.kind = 89 ∨ q.kind = 90 ∨ q.kind = 91) ∧ q.pat.length ≤ 10 := by decide +kernel
  exact this q hm
theorem statement_nil (r : Nat) (oa : Option Addr) (cap : Nat) (w : World) : Calls Tryd.prog 94 #[.map (some r), .slice oa 0 cap] w (WordsPost (stmtL []) w) := by
  go_enter Tryd.func94, Tryd.ntmps94
  go_wp2
  go_ret2
  exact words_some (ds := []) (World.ownsRow_nil _ _ _ _) (Below.refl _ _)
theorem bcell {W w1 : World} (hb : Below W.heap.size W w1) : (∀ b o, b < W.heap.size → w1.cell? ⟨b, o, none⟩ = W.cell? ⟨b, o, none⟩) ∧ (∀ b o, b < W.heap.size → w1.frozen? ⟨b, o, none⟩ = W.frozen? ⟨b, o, none⟩) :=
  ⟨fun b o h => hb.cell (p := ⟨b, o, none⟩) h, fun b o h => hb.frozen (p := ⟨b, o, none⟩) h⟩
theorem own_base {w : World} {base base' : Nat} {e : TypeId} {size : Nat} {v : Value} {n : Nat} {xs : List Value} (h : w.ownsRow base e size v n xs) (hb : base' ≤ base) : w.ownsRow base' e size v n xs := by
  refine ⟨h.1, ?_⟩
  rcases h.2 with h | ⟨g, cap, cur, h1, h2, h3⟩
  · exact Or.inl h
  · exact Or.inr ⟨g, cap, cur, h1, by omega, h3⟩
theorem words_any (q : Stm) (o : Opds) (hk : q.kind = 88 ∨ q.kind = 89 ∨ q.kind = 90 ∨ q.kind = 91) (W : World) : Calls Tryd.prog q.kind #[.int .i64 q.op, opdV o] W (WordsPost (wordsL q.kind q.op o) W) := by
  rcases hk with h | h | h | h <;> rw [h]
  · exact instruction_asm _ _ _
  · exact constant_asm _ _ _
  · exact data_asm _ _ _
  · exact space_asm _ _ _
theorem tail_slice2 (b off n cap k : Nat) (h : k ≤ n) (hcap : n ≤ cap) : ∃ off2 : Nat, (k < n → off2 = off + k) ∧ ∀ W : World, (Instr.slice 74 (.slice (some ⟨b, off, none⟩) n cap) (some (.int .i64 (k : Int))) none none).run Tryd.prog W = .ok (.slice (some ⟨b, off2, none⟩) (n - k) (cap - k)) W := by
  by_cases hk : k < cap
  · refine ⟨off + k, fun _ => rfl, fun W => ?_⟩
    rw [run_slice_l W 74 (some ⟨b, off, none⟩) n cap elemStr .i64 (k : Int) (by omega) (by omega), sizeStr]
    simp [Result.andThen, sliced, Addr.add]
    rw [if_neg (by omega)]
    by_cases h0 : k = 0
    · simp [h0]
    · rw [if_neg h0]
  · refine ⟨off, fun h => absurd h (by omega), fun W => ?_⟩
    rw [run_slice_l W 74 (some ⟨b, off, none⟩) n cap elemStr .i64 (k : Int) (by omega) (by omega), sizeStr]
    simp [Result.andThen, sliced]
    intro h'; omega
end Go.Proofs.YtegaookkfjgepaaDoor
