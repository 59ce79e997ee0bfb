import Derived.Test.YthghbcjaokpilaaDoorAsmFn3
import Derived.OwnWalk
import Derived.LoopTactic
namespace Go.Proofs.YthghbcjaokpilaaDoor
set_option linter.unusedVariables false
set_option linter.unusedSimpArgs false
open Go.ChangeShapes Go.WideShapes Go.ChangeAt Go.RowKit Go.Proofs.YthghbcjaokpilaaDoor.Num Go.Proofs.YthghbcjaokpilaaDoor.Mem Go.Proofs.YthghbcjaokpilaaDoor.Asm
theorem info_str : (Tryd.prog.info? 9).map (fun i => (i.zero, i.size, i.bytes)) = some (some (.string { data := #[] }), 1, 16) := by kernel_rfl
def strV (t : Bs) : Value := .string (S t)
theorem one_str (s : ByteArray) : ∀ u ∈ [Value.string s], u.oneCell' = true := by simp [Value.oneCell']
theorem own_iter {w : World} {base : Nat} {e : TypeId} {size : Nat} {v : Value} {n : Nat} {xs : List Value} (h : w.ownsRow base e size v n xs) {k : Nat} (hk : k < base) (s : ByteArray) (pos : Nat) : (w.iterAt k s pos).ownsRow base e size v n xs := by
  refine ⟨h.1, ?_⟩
  rcases h.2 with h | ⟨g, cap, cur, h1, h2, h3, h4⟩
  · exact Or.inl h
  · exact Or.inr ⟨g, cap, cur, h1, h2, by rw [Lib.iterAt_other _ _ _ _ _ (by omega)]; exact h3, h4⟩
theorem slice_mid (s : ByteArray) (a b : Nat) (h : a ≤ b) (hb : b ≤ s.size) (wx : World) :
    (Instr.slice 9 (.string s) (some (.int .i64 (a : Int))) (some (.int .i64 (b : Int))) none).run Tryd.prog wx = .ok (.string (S (piece s.data.toList a b))) wx := by
  rw [run_slice_string wx 9 s .i64 .i64 (a : Int) (b : Int) Tryd.underlying9 (by omega) (by omega) (by omega), Int.toNat_natCast, Int.toNat_natCast, extract_piece]
theorem slice_end (s : ByteArray) (a : Nat) (h : a ≤ s.size) (wx : World) :
    (Instr.slice 9 (.string s) (some (.int .i64 (a : Int))) none none).run Tryd.prog wx = .ok (.string (S (piece s.data.toList a s.size))) wx := by
  rw [run_slice_string_from_if wx 9 s .i64 (a : Int) Tryd.underlying9, if_pos ⟨by omega, by omega⟩, Int.toNat_natCast, extract_piece]
theorem drop_get {s : ByteArray} {pos : Nat} (h : pos < s.size) : s.data.toList.drop pos = s[pos] :: s.data.toList.drop (pos + 1) := by
  rw [List.drop_eq_getElem_cons (by rw [len_size]; exact h)]; rfl
/-- A rune that is no newline. -/
theorem line_step {s : ByteArray} {pos : Nat} (h : pos < s.size) (hc : ¬ s[pos].toNat = 10) :
    (((Utf8.decode s pos).1 : Int) == 10) = false ∧ pos + (Utf8.decode s pos).2 ≤ s.size ∧ 1 ≤ (Utf8.decode s pos).2 ∧ ∀ b ∈ (s.data.toList.drop pos).take (Utf8.decode s pos).2, b ≠ 10 := by
  by_cases ha : s[pos].toNat < 128
  · rw [decode_ascii s pos h ha]
    refine ⟨by rw [beq_eq_false_iff_ne]; dsimp only; omega, by dsimp only; omega, by dsimp only; omega, fun b hb => ?_⟩
    rw [drop_get h] at hb
    simp at hb
    subst hb
    intro e; rw [e] at hc; exact hc rfl
  · have h1 := decode_high s pos h (by omega)
    have h2 := decode_span s pos h (by omega)
    have h3 := span_mem s pos h (by omega)
    refine ⟨by rw [beq_eq_false_iff_ne]; omega, h2.1, h2.2.1, fun b hb e => ?_⟩
    have := h3 b hb
    rw [e] at this; simp at this
/-- The state of cutLines' loop. -/
def LineRel (s : ByteArray) (w : World) (v st : Value) (wr : World) : Prop :=
  ∃ (pos start : Nat) (acc : List Bs), start ≤ pos ∧ pos ≤ s.size ∧ st = .int .i64 start ∧ acc.length ≤ pos ∧ acc ++ lineGo (piece s.data.toList start pos) (s.data.toList.drop pos) = linesL s.data.toList ∧
    wr.ownsRow (w.heap.size + 1) 9 1 v acc.length (acc.map strV) ∧ wr.heap[w.heap.size]? = some (.stringIter s pos) ∧ Below w.heap.size w wr
def LinesPost (l : List Bs) (w : World) (e : Ending) (w' : World) : Prop := ∃ v, e = .returned v ∧ w'.ownsRow (w.heap.size + 1) 9 1 v l.length (l.map strV) ∧ Below w.heap.size w w'
theorem iter_lt {w : World} {k : Nat} {s : ByteArray} {pos : Nat} (h : w.heap[k]? = some (.stringIter s pos)) : k < w.heap.size := (Array.getElem?_eq_some_iff.1 h).1
theorem snoc_row {w : World} {base : Nat} {v : Value} {n : Nat} {acc : List Bs} {t : Bs} (h : w.ownsRow base 9 1 v (n + 1) (acc.map strV ++ [.string (S t)])) (hn : n = acc.length) : w.ownsRow base 9 1 v (acc ++ [t]).length ((acc ++ [t]).map strV) := by
  subst hn; simpa [strV] using h
theorem after_row {w wr w1 : World} {v : Value} {n : Nat} {e : TypeId} {size : Nat} {xs : List Value} {s : ByteArray} {pos pos' : Nat} {o : Obj} (hown : wr.ownsRow (w.heap.size + 1) e size v n xs) (hit : wr.heap[w.heap.size]? = some (.stringIter s pos)) (hbw : Below w.heap.size w wr)
    (hg : ((wr.iterAt w.heap.size s pos').alloc o).grownBy w1 v.ownBlock) : w1.heap[w.heap.size]? = some (.stringIter s pos') ∧ Below w.heap.size w w1 := by
  have hlt := iter_lt hit
  have hb1 := Lib.below_iterAt hbw (k := w.heap.size) (Nat.le_refl _) s pos'
  have hsz := Lib.iterAt_size wr w.heap.size s pos'
  have h2 := hb1.alloc (o := o) (by rw [hsz]; omega)
  have hown2 := own_iter hown (k := w.heap.size) (by omega) s pos'
  refine ⟨?_, h2.grown hg (by simp; omega) (fun k hk => by have := (hown2.lt k hk).1; omega)⟩
  have hne : some w.heap.size ≠ v.ownBlock := fun e => by have := (hown2.lt _ e.symm).1; omega
  rw [hg.block w.heap.size (by simp; omega) hne, heap_alloc_old _ _ (by omega)]
  exact Lib.iterAt_heap wr w.heap.size s pos pos' hit
theorem pos_iter {w : World} {k : Nat} {s : ByteArray} {pos : Nat} (h : w.heap[k]? = some (.stringIter s pos)) : w.iterPos k = pos := by unfold World.iterPos; rw [h]
set_option maxRecDepth 100000 in
set_option maxHeartbeats 2000000 in
theorem lines_asm (s : ByteArray) (w : World) (hs : s.size ≤ 100000) : Calls Tryd.prog 29 #[.string s] w (LinesPost (linesL s.data.toList) w) := by
  obtain ⟨i0, hi, hz0, hz1, hz2⟩ := info_parts info_str
  go_enter Tryd.func29, Tryd.ntmps29
  go_wp2
  go_loopw [3, 4] (fun v st wr => LineRel s w v st wr) (fun _ _ wr => s.size - wr.iterPos w.heap.size)
  case atStart => exact ⟨0, 0, [], by omega, by omega, rfl, by simp, by simp [piece, linesL], World.ownsRow_nil _ _ _ _, World.iter_heap w s 0, (Below.refl _ _).alloc (Nat.le_refl _) _⟩
  case round =>
    obtain ⟨pos, start, acc, h1, h2, rfl, h3, hE, hown, hit, hbw⟩ := hrel
    have HE := Lib.hid hE
    have HIT := Lib.hid hit
    have hlt := iter_lt hit
    clear hE hit
    by_cases hp : pos < s.size
    · by_cases hc : s[pos].toNat = 10
      · have hnx : ∀ ty, (Instr.next (.pointer (some ⟨w.heap.size, 0, none⟩)) true ty).run Tryd.prog _ = _ := fun ty => Lib.run_next_ascii_at _ w.heap.size s pos ty HIT.out hp (by omega)
        have hcI : (s[pos].toNat : Int) = 10 := by omega
        have hsl := fun W => slice_mid s start pos h1 h2 W
        have hown2 := own_iter hown (k := w.heap.size) (by omega) s (pos + 1)
        have hsz := Lib.hid (Lib.iterAt_size wr w.heap.size s (pos + 1))
        have hm := Lib.hid (pos_iter HIT.out)
        go_wp2_with (at_builtin; refine wpList_append_own _ rfl _ _ 40 rfl (w.heap.size + 1) 9 i0 (.string { data := #[] }) 1 16 Tryd.underlying40 hi hz0 hz1 hz2 rfl (by decide) _ _ _ rfl (hown2.alloc _) ⟨_, 0, none⟩ 1 1 [.string (S (piece s.data.toList start pos))] rfl rfl (new_cell _ _ _) (one_str _) (by unfold maxLen; omega) (by omega) (by have := hsz.out; simp; omega) ?_)
        intro v' w1 hown3 hgrow _
        obtain ⟨hit1, hb1⟩ := after_row hown HIT.out hbw hgrow
        have hown4 := snoc_row hown3 rfl
        clear hown3 hgrow hown2 hsl hnx
        go_wp2
        go_roundw
        case rel => exact ⟨pos + 1, pos + 1, _, by omega, by omega, by go_num, by simp; omega, by
          rw [← HE.out, drop_get hp, piece_self]
          simp [lineGo, show s[pos] = 10 from UInt8.toNat_inj.1 hc], hown4, hit1, hb1⟩
        case measure => rw [pos_iter hit1, hm.out]; omega
      · obtain ⟨hc1, hc2, hc3, hc4⟩ := line_step hp hc
        have hnx : ∀ ty, (Instr.next (.pointer (some ⟨w.heap.size, 0, none⟩)) true ty).run Tryd.prog _ = _ := fun ty => Lib.run_next_any_at _ w.heap.size s pos ty HIT.out hp
        have hd1 := decode_le s pos
        have hm := Lib.hid (pos_iter HIT.out)
        have HC := Lib.hid hc4
        clear hc4 hc
        go_wp2
        go_roundw
        case rel => exact ⟨pos + (Utf8.decode s pos).2, start, acc, by omega, by omega, rfl, by omega, by
          rw [← HE.out, piece_add _ _ _ _ h1]
          conv => rhs; rw [← List.take_append_drop (Utf8.decode s pos).2 (s.data.toList.drop pos), lineGo_skip _ _ _ HC.out, List.drop_drop], own_iter hown (by omega) s _, Lib.iterAt_heap _ _ s pos _ HIT.out, Lib.below_iterAt hbw (Nat.le_refl _) s _⟩
        case measure => rw [pos_iter (Lib.iterAt_heap _ _ s pos _ HIT.out), hm.out]; omega
    · have hnx : ∀ ty, (Instr.next (.pointer (some ⟨w.heap.size, 0, none⟩)) true ty).run Tryd.prog _ = _ := fun ty => Lib.run_next_end_at _ w.heap.size s pos ty HIT.out hp
      have hsl := fun W => slice_end s start (by omega) W
      go_wp2_with (at_builtin; refine wpList_append_own _ rfl _ _ 40 rfl (w.heap.size + 1) 9 i0 (.string { data := #[] }) 1 16 Tryd.underlying40 hi hz0 hz1 hz2 rfl (by decide) _ _ _ rfl (hown.alloc _) ⟨_, 0, none⟩ 1 1 [.string (S (piece s.data.toList start s.size))] rfl rfl (new_cell _ _ _) (one_str _) (by unfold maxLen; omega) (by omega) (by simp; omega) ?_)
      intro v' w1 hown3 hgrow _
      have hown4 := snoc_row hown3 rfl
      have hb1 : Below w.heap.size w w1 := (hbw.alloc (by omega) _).grown hgrow (by simp; omega) (fun k hk => by have := (hown.lt k hk).1; omega)
      have hF : acc ++ [piece s.data.toList start s.size] = linesL s.data.toList := by
        rw [← HE.out, show pos = s.size by omega, List.drop_of_length_le (by rw [len_size]; exact Nat.le_refl _)]; rfl
      rw [hF] at hown4
      have HF := Lib.hid hown4
      clear hown3 hgrow hsl hnx hF hown4
      go_wp2
      go_ret
      exact ⟨_, rfl, HF.out, hb1⟩
end Go.Proofs.YthghbcjaokpilaaDoor
