import Derived.Test.YtegaookkfjgepaaDoorAsmFn17
namespace Go.Proofs.YtegaookkfjgepaaDoor
set_option linter.unusedVariables false
set_option linter.unusedSimpArgs false
open Go.ChangeShapes Go.WideShapes Go.ChangeAt Go.RowKit Go.Proofs.YtegaookkfjgepaaDoor.Num Go.Proofs.YtegaookkfjgepaaDoor.Isa Go.Proofs.YtegaookkfjgepaaDoor.Mem Go.Proofs.YtegaookkfjgepaaDoor.Asm
def AsmPost (r : Sum (Int × Int) (List Int × List (Bs × Nat))) (w : World) (e : Ending) (w' : World) : Prop :=
  (match r with
  | .inl (err, line) => e = .returned (.tuple #[.slice none 0 0, .agg #[.int .i64 err, .int .i64 line]])
  | .inr (ws, _) => ∃ v, e = .returned (.tuple #[v, .agg #[.int .i64 0, .int .i64 0]]) ∧ w'.ownsRow w.heap.size 47 1 v ws.length (ws.map u32V)) ∧ Below w.heap.size w w'
def SymPost (r : Sum (Int × Int) (List Int × List (Bs × Nat))) (w : World) (e : Ending) (w' : World) : Prop :=
  (match r with
  | .inl (err, line) => e = .returned (.tuple #[.slice none 0 0, .agg #[.int .i64 err, .int .i64 line]])
  | .inr (_, syms) => ∃ v, e = .returned (.tuple #[v, .agg #[.int .i64 0, .int .i64 0]]) ∧ w'.ownsRow w.heap.size 51 2 v syms.length (flatS syms)) ∧ Below w.heap.size w w'
set_option maxHeartbeats 4000000 in
theorem assemble_asm (src : ByteArray) (w : World) (hs : src.size ≤ 9223372036854775807) : Calls Tryd.prog 20 #[.string src] w (AsmPost (transL src.data.toList) w) := by
  have htr := fun W => trans_asm src W hs
  generalize transL src.data.toList = r at *
  cases r with
  | inl x =>
    obtain ⟨c, l⟩ := x
    have HTR := Lib.hid htr
    clear htr
    go_enter Tryd.func20, Tryd.ntmps20
    go_wp2_with (go_at_call 44; (with_reducible refine (HTR.out _).mono ?_); rintro e w1 ⟨rfl, hb1⟩; have HB1 := Lib.hid hb1; have hws : w.heap.size < w1.heap.size := lt_of_block (heap_below (al_new w _ _ rfl) hb1); have G0 := heap_below (al_new w _ _ rfl) hb1; have c0 : w1.cell? ⟨w.heap.size, 0, none⟩ = some (.int .i64 0) := cell_blk G0 0 rfl; have c1 : w1.cell? ⟨w.heap.size, 1, none⟩ = some (.int .i64 0) := cell_blk G0 1 rfl; have i0 := free_blk G0 0; have i1 := free_blk G0 1; clear G0 hb1)
    go_region
    all_goals go_wp2
    all_goals refine bodyPost_ret (v := .tuple #[.slice none 0 0, .agg #[.int .i64 c, .int .i64 l]]) ?_ rfl ⟨rfl, ?_⟩
    · rw [results_slot_cell rfl]; go_simp
    · have h0 : w.heap.size ≤ w.heap.size := Nat.le_refl _
      have hb : Below w.heap.size w w1 := below_step ((Below.refl _ w).alloc h0 _) HB1.out
      exact (((hb.setCell h0 _).setCell h0 _).alloc (by simp; omega) _).drew
  | inr x =>
    obtain ⟨ws, syms⟩ := x
    have HTR := Lib.hid htr
    clear htr
    go_enter Tryd.func20, Tryd.ntmps20
    go_wp2_with (go_at_call 44; (with_reducible refine (HTR.out _).mono ?_); rintro e w1 ⟨⟨v1, v2, rfl, hC, hS⟩, hb1⟩; obtain ⟨oa1, cap1, rfl⟩ := own_shape hC; obtain ⟨oa2, cap2, rfl⟩ := own_shape hS; have HB1 := Lib.hid hb1; have HC := Lib.hid hC; have hws : w.heap.size < w1.heap.size := lt_of_block (heap_below (al_new w _ _ rfl) hb1); have G0 := heap_below (al_new w _ _ rfl) hb1; have c0 : w1.cell? ⟨w.heap.size, 0, none⟩ = some (.int .i64 0) := cell_blk G0 0 rfl; have c1 : w1.cell? ⟨w.heap.size, 1, none⟩ = some (.int .i64 0) := cell_blk G0 1 rfl; have i0 := free_blk G0 0; have i1 := free_blk G0 1; clear G0 hb1 hC hS)
    go_region
    all_goals go_wp2
    all_goals refine bodyPost_ret (v := .tuple #[.slice oa1 ws.length cap1, .agg #[.int .i64 0, .int .i64 0]]) ?_ rfl ⟨⟨_, rfl, ?_⟩, ?_⟩
    · rw [results_slot_cell rfl]; go_simp
    · have n0 := own_low HC.out (k := w.heap.size) (by simp)
      exact own_base (own_below ((ownsRow_setCell_other (ownsRow_setCell_other HC.out n0 _) n0 _).alloc _) (Below.refl _ _).drew) (by simp)
    · have h0 : w.heap.size ≤ w.heap.size := Nat.le_refl _
      have hb : Below w.heap.size w w1 := below_step ((Below.refl _ w).alloc h0 _) HB1.out
      exact (((hb.setCell h0 _).setCell h0 _).alloc (by simp; omega) _).drew
set_option maxHeartbeats 4000000 in
theorem symbols_asm (src : ByteArray) (w : World) (hs : src.size ≤ 9223372036854775807) : Calls Tryd.prog 24 #[.string src] w (SymPost (transL src.data.toList) w) := by
  have htr := fun W => trans_asm src W hs
  generalize transL src.data.toList = r at *
  cases r with
  | inl x =>
    obtain ⟨c, l⟩ := x
    have HTR := Lib.hid htr
    clear htr
    go_enter Tryd.func24, Tryd.ntmps24
    go_wp2_with (go_at_call 44; (with_reducible refine (HTR.out _).mono ?_); rintro e w1 ⟨rfl, hb1⟩; have HB1 := Lib.hid hb1; have hws : w.heap.size < w1.heap.size := lt_of_block (heap_below (al_new w _ _ rfl) hb1); have G0 := heap_below (al_new w _ _ rfl) hb1; have c0 : w1.cell? ⟨w.heap.size, 0, none⟩ = some (.int .i64 0) := cell_blk G0 0 rfl; have c1 : w1.cell? ⟨w.heap.size, 1, none⟩ = some (.int .i64 0) := cell_blk G0 1 rfl; have i0 := free_blk G0 0; have i1 := free_blk G0 1; clear G0 hb1)
    go_region
    all_goals go_wp2
    all_goals refine bodyPost_ret (v := .tuple #[.slice none 0 0, .agg #[.int .i64 c, .int .i64 l]]) ?_ rfl ⟨rfl, ?_⟩
    · rw [results_slot_cell rfl]; go_simp
    · have h0 : w.heap.size ≤ w.heap.size := Nat.le_refl _
      have hb : Below w.heap.size w w1 := below_step ((Below.refl _ w).alloc h0 _) HB1.out
      exact (((hb.setCell h0 _).setCell h0 _).alloc (by simp; omega) _).drew
  | inr x =>
    obtain ⟨ws, syms⟩ := x
    have HTR := Lib.hid htr
    clear htr
    go_enter Tryd.func24, Tryd.ntmps24
    go_wp2_with (go_at_call 44; (with_reducible refine (HTR.out _).mono ?_); rintro e w1 ⟨⟨v1, v2, rfl, hC, hS⟩, hb1⟩; obtain ⟨oa1, cap1, rfl⟩ := own_shape hC; obtain ⟨oa2, cap2, rfl⟩ := own_shape hS; have HB1 := Lib.hid hb1; have HC := Lib.hid hS; have hws : w.heap.size < w1.heap.size := lt_of_block (heap_below (al_new w _ _ rfl) hb1); have G0 := heap_below (al_new w _ _ rfl) hb1; have c0 : w1.cell? ⟨w.heap.size, 0, none⟩ = some (.int .i64 0) := cell_blk G0 0 rfl; have c1 : w1.cell? ⟨w.heap.size, 1, none⟩ = some (.int .i64 0) := cell_blk G0 1 rfl; have i0 := free_blk G0 0; have i1 := free_blk G0 1; clear G0 hb1 hC hS)
    go_region
    all_goals go_wp2
    all_goals refine bodyPost_ret (v := .tuple #[.slice oa2 syms.length cap2, .agg #[.int .i64 0, .int .i64 0]]) ?_ rfl ⟨⟨_, rfl, ?_⟩, ?_⟩
    · rw [results_slot_cell rfl]; go_simp
    · have n0 := own_low HC.out (k := w.heap.size) (by simp)
      exact own_base (own_below ((ownsRow_setCell_other (ownsRow_setCell_other HC.out n0 _) n0 _).alloc _) (Below.refl _ _).drew) (by simp)
    · have h0 : w.heap.size ≤ w.heap.size := Nat.le_refl _
      have hb : Below w.heap.size w w1 := below_step ((Below.refl _ w).alloc h0 _) HB1.out
      exact (((hb.setCell h0 _).setCell h0 _).alloc (by simp; omega) _).drew
end Go.Proofs.YtegaookkfjgepaaDoor
