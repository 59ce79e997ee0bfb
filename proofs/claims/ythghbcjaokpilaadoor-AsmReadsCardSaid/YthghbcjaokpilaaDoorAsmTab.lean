import Derived.Test.YthghbcjaokpilaaDoorAsmFn2
import Derived.MapKept
namespace Go.Proofs.YthghbcjaokpilaaDoor
set_option linter.unusedVariables false
set_option linter.unusedSimpArgs false
open Go.ChangeShapes Go.WideShapes Go.ChangeAt Go.RowKit Go.Proofs.YthghbcjaokpilaaDoor.Num Go.Proofs.YthghbcjaokpilaaDoor.Mem Go.Proofs.YthghbcjaokpilaaDoor.Asm
structure Stm where
  name : Bs
  op : Int
  pat : Bs
  kind : Nat
/-- The statements of the language, in the order of the text. -/
def rows : List Stm := [
  ⟨[97, 100, 100], 1, [65, 44, 66, 44, 67], 38⟩,
  ⟨[115, 117, 98], 2, [65, 44, 66, 44, 67], 38⟩,
  ⟨[97, 110, 100], 3, [65, 44, 66, 44, 67], 38⟩,
  ⟨[111, 114], 4, [65, 44, 66, 44, 67], 38⟩,
  ⟨[120, 111, 114], 5, [65, 44, 66, 44, 67], 38⟩,
  ⟨[115, 104, 108], 6, [65, 44, 66, 44, 67], 38⟩,
  ⟨[115, 104, 114], 7, [65, 44, 66, 44, 67], 38⟩,
  ⟨[115, 97, 114], 8, [65, 44, 66, 44, 67], 38⟩,
  ⟨[109, 117, 108], 9, [65, 44, 66, 44, 67], 38⟩,
  ⟨[100, 105, 118], 10, [65, 44, 66, 44, 67], 38⟩,
  ⟨[114, 101, 109], 11, [65, 44, 66, 44, 67], 38⟩,
  ⟨[115, 108, 116], 12, [65, 44, 66, 44, 67], 38⟩,
  ⟨[115, 108, 116, 117], 13, [65, 44, 66, 44, 67], 38⟩,
  ⟨[97, 100, 100, 105], 16, [65, 44, 66, 44, 78], 38⟩,
  ⟨[97, 110, 100, 105], 17, [65, 44, 66, 44, 78], 38⟩,
  ⟨[111, 114, 105], 18, [65, 44, 66, 44, 78], 38⟩,
  ⟨[120, 111, 114, 105], 19, [65, 44, 66, 44, 78], 38⟩,
  ⟨[115, 104, 108, 105], 20, [65, 44, 66, 44, 78], 38⟩,
  ⟨[115, 104, 114, 105], 21, [65, 44, 66, 44, 78], 38⟩,
  ⟨[115, 97, 114, 105], 22, [65, 44, 66, 44, 78], 38⟩,
  ⟨[115, 108, 116, 105], 23, [65, 44, 66, 44, 78], 38⟩,
  ⟨[108, 117, 105], 24, [65, 44, 78], 38⟩,
  ⟨[108, 119], 32, [65, 44, 78, 40, 66, 41], 38⟩,
  ⟨[108, 98], 33, [65, 44, 78, 40, 66, 41], 38⟩,
  ⟨[108, 98, 117], 34, [65, 44, 78, 40, 66, 41], 38⟩,
  ⟨[115, 119], 35, [65, 44, 78, 40, 66, 41], 38⟩,
  ⟨[115, 98], 36, [65, 44, 78, 40, 66, 41], 38⟩,
  ⟨[98, 101, 113], 40, [65, 44, 66, 44, 88], 38⟩,
  ⟨[98, 110, 101], 41, [65, 44, 66, 44, 88], 38⟩,
  ⟨[98, 108, 116], 42, [65, 44, 66, 44, 88], 38⟩,
  ⟨[98, 103, 101], 43, [65, 44, 66, 44, 88], 38⟩,
  ⟨[98, 108, 116, 117], 44, [65, 44, 66, 44, 88], 38⟩,
  ⟨[98, 103, 101, 117], 45, [65, 44, 66, 44, 88], 38⟩,
  ⟨[106, 97, 108], 48, [65, 44, 88], 38⟩,
  ⟨[106, 97, 108, 114], 49, [65, 44, 66, 44, 78], 38⟩,
  ⟨[101, 99, 97, 108, 108], 56, [], 38⟩,
  ⟨[101, 114, 101, 116], 57, [], 38⟩,
  ⟨[99, 115, 114, 114], 58, [65, 44, 78], 38⟩,
  ⟨[99, 115, 114, 119], 59, [65, 44, 78], 38⟩,
  ⟨[105, 110], 60, [65, 44, 78], 38⟩,
  ⟨[111, 117, 116], 61, [65, 44, 78], 38⟩,
  ⟨[119, 102, 105], 62, [], 38⟩,
  ⟨[102, 108, 117, 115, 104], 63, [], 38⟩,
  ⟨[104, 97, 108, 116], 64, [], 38⟩,
  ⟨[109, 118], 16, [65, 44, 66], 38⟩,
  ⟨[110, 111, 112], 16, [], 38⟩,
  ⟨[108, 105], 24, [65, 44, 88], 39⟩,
  ⟨[46, 119, 111, 114, 100], 0, [88], 40⟩,
  ⟨[46, 115, 112, 97, 99, 101], 0, [78], 41⟩]
def stmV (r : Stm) : Value := .agg #[.int .i64 r.op, .string (S r.pat), .func (.func r.kind) #[] #[]]
def ent (r : Stm) (i : Nat) : MapEntry := { key := .string (S r.name), val := stmV r, born := i }
def tabFrom : List Stm → Nat → List MapEntry
  | [], _ => []
  | r :: l, i => ent r i :: tabFrom l (i + 1)
def tabA (n : Nat) : Array MapEntry := (tabFrom (rows.take n) 0).toArray
theorem tabFrom_snoc (r : Stm) : ∀ (l : List Stm) (i : Nat), tabFrom (l ++ [r]) i = tabFrom l i ++ [ent r (i + l.length)]
  | [], i => rfl
  | q :: l, i => by
    simp only [List.cons_append, tabFrom, tabFrom_snoc r l, List.length_cons]
    rw [show i + 1 + l.length = i + (l.length + 1) by omega]
theorem tabA_push (n : Nat) (r : Stm) (hr : rows[n]? = some r) : tabA (n + 1) = (tabA n).push (ent r n) := by
  obtain ⟨hn, hr⟩ := List.getElem?_eq_some_iff.1 hr
  unfold tabA
  rw [List.take_succ_eq_append_getElem hn, tabFrom_snoc, hr]
  simp only [List.length_take, Nat.zero_add]
  rw [Nat.min_eq_left (by omega)]
  simp
def fresh (n : Nat) (r : Stm) : Bool := match Instr.findNow .string (.string (S r.name)) (tabA n).toList 0 with | some none => true | _ => false
theorem fresh_all : ∀ n : Fin 49, (match rows[n.val]? with | some r => fresh n.val r | none => false) = true := by decide +kernel
theorem alloc_set (w : World) (o o' : Obj) : ({ w.alloc o with heap := (w.alloc o).heap.setIfInBounds w.heap.size o' } : World) = w.alloc o' := by
  simp only [World.alloc]
  congr 1
  apply Array.ext'
  simp [Array.setIfInBounds, Array.toList_push]
theorem put_step (w : World) (n : Nat) (r : Stm) (hr : rows[n]? = some r) :
    (Instr.mapUpdate 75 (.map (some w.heap.size)) (.string (S r.name)) (stmV r)).run Tryd.prog (w.alloc (.map (tabA n) n)) = .ok () (w.alloc (.map (tabA (n + 1)) (n + 1))) := by
  have hn : n < 49 := (List.getElem?_eq_some_iff.1 hr).1
  have hf : Instr.findNow .string (.string (S r.name)) (tabA n).toList 0 = some none := by
    have h := fresh_all ⟨n, hn⟩
    simp only [hr] at h
    unfold fresh at h
    split at h
    · assumption
    · exact absurd h (by decide)
  have hb : (w.alloc (.map (tabA n) n)).heap[w.heap.size]? = some (.map (tabA n) n) := heap_alloc_new w _
  have hc : (Instr.checkKey false 10000 9 (.string (S r.name))).run Tryd.prog (w.alloc (.map (tabA n) n)) = .ok () (w.alloc (.map (tabA n) n)) := MapKept.run_checkKey (k := .string (S r.name)) Tryd.underlying9 (by simp [MapKept.IsKey]) false 9999
  have hg := MapKept.run_getObj_map (P := Tryd.prog) hb
  have hk := MapKept.run_findKey (P := Tryd.prog) (w := w.alloc (.map (tabA n) n)) Tryd.underlying9 hf
  have hs := MapKept.run_setObj_map (P := Tryd.prog) (.map ((tabA n).push (ent r n)) (n + 1)) hb
  have e : (Instr.mapUpdate 75 (.map (some w.heap.size)) (.string (S r.name)) (stmV r)).run Tryd.prog (w.alloc (.map (tabA n) n)) = .ok () { w.alloc (.map (tabA n) n) with heap := (w.alloc (.map (tabA n) n)).heap.setIfInBounds w.heap.size (.map ((tabA n).push (ent r n)) (n + 1)) } := by
    simp [Instr.mapUpdate, run_underlying Tryd.underlying75, hg, hc, hk, Result.andThen]
    exact hs
  refine e.trans (congrArg (Result.ok ()) ?_)
  rw [tabA_push n r hr]
  exact alloc_set w _ _
end Go.Proofs.YthghbcjaokpilaaDoor
