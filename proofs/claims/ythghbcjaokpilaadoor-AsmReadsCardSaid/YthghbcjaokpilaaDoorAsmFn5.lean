import Derived.Test.YthghbcjaokpilaaDoorAsmFn4
namespace Go.Proofs.YthghbcjaokpilaaDoor
set_option linter.unusedVariables false
set_option linter.unusedSimpArgs false
open Go.ChangeShapes Go.WideShapes Go.ChangeAt Go.RowKit Go.Proofs.YthghbcjaokpilaaDoor.Num Go.Proofs.YthghbcjaokpilaaDoor.Mem Go.Proofs.YthghbcjaokpilaaDoor.Asm
theorem ix_cases (l : Bs) (c : UInt8) : (Lib.indexByte l c = -1 ∧ l.takeWhile (· != c) = l) ∨ ∃ n : Nat, Lib.indexByte l c = n ∧ n < l.length ∧ l.takeWhile (· != c) = l.take n := by
  induction l with
  | nil => exact Or.inl ⟨rfl, rfl⟩
  | cons b l ih =>
    by_cases hb : b = c
    · subst hb
      exact Or.inr ⟨0, by simp [Lib.indexByte], by simp, by simp⟩
    · have e : (b == c) = false := by simpa using hb
      rcases ih with ⟨h1, h2⟩ | ⟨n, h1, h2, h3⟩
      · exact Or.inl ⟨by simp [Lib.indexByte, e, h1], by simp [hb, h2]⟩
      · refine Or.inr ⟨n + 1, ?_, by simp; omega, by simp [hb, h3]⟩
        have hne : (Lib.indexByte l c == -1) = false := by rw [h1, beq_eq_false_iff_ne]; omega
        simp [Lib.indexByte, e, hne, h1]
def CutPost (l : Bs) (w : World) (e : Ending) (w' : World) : Prop := (∃ x y, e = .returned (.tuple #[.string (S (l.takeWhile (· != 59))), x, y])) ∧ ∃ m, w' = w.drewN m
theorem slice_to (s : ByteArray) (b : Nat) (hb : b ≤ s.size) (wx : World) :
    (Instr.slice 9 (.string s) none (some (.int .i64 (b : Int))) none).run Tryd.prog wx = .ok (.string (S (s.data.toList.take b))) wx := by
  rw [run_slice_string_to_if wx 9 s .i64 (b : Int) Tryd.underlying9, if_pos ⟨by omega, by omega⟩, Int.toNat_natCast, extract_piece]
  unfold piece; simp
theorem slice_end1 (s : ByteArray) (a : Nat) (h : a + 1 ≤ s.size) (wx : World) :
    (Instr.slice 9 (.string s) (some (.int .i64 ((a : Int) + 1))) none none).run Tryd.prog wx = .ok (.string (S (piece s.data.toList (a + 1) s.size))) wx := slice_end s (a + 1) h wx
theorem cutlite_asm (s : ByteArray) (w : World) (hs : s.size ≤ 100000) : Calls Tryd.prog 64 #[.string s, .string { data := #[59] }] w (CutPost s.data.toList w) := by
  have hix := Tryd.stringslite_Index_one s 59
  rcases ix_cases s.data.toList 59 with ⟨h1, h2⟩ | ⟨n, h1, h2, h3⟩
  · rw [h1] at hix
    have H2 := Lib.hid h2
    clear h1 h2
    go_enter Tryd.func64, Tryd.ntmps64
    go_wp2_with (go_at_call 73; (with_reducible refine (hix _).mono ?_); rintro e w' ⟨rfl, rfl⟩)
    go_ret3
    exact ⟨⟨_, _, by rw [H2.out, S_back]; rfl⟩, 0, rfl⟩
  · rw [h1] at hix
    rw [len_size] at h2
    have H3 := Lib.hid h3
    have hsl := fun W => slice_to s n (by omega) W
    have hsl2 := fun W => slice_end1 s n (by omega) W
    have hw : IntKind.i64.wrap ((n : Int) + 1) = (n : Int) + 1 := IntWalk.i64_in _ (by omega)
    clear h1 h3
    go_enter Tryd.func64, Tryd.ntmps64
    go_wp2_with (go_at_call 73; (with_reducible refine (hix _).mono ?_); rintro e w' ⟨rfl, rfl⟩)
    go_quiet (fail)
    go_wp2
    go_ret3
    exact ⟨⟨_, _, by rw [H3.out]; rfl⟩, _, rfl⟩
theorem cut_asm (s : ByteArray) (w : World) (hs : s.size ≤ 100000) : Calls Tryd.prog 54 #[.string s, .string { data := #[59] }] w (CutPost s.data.toList w) := by
  go_enter Tryd.func54, Tryd.ntmps54
  go_wp2_with (go_at_call 64; (with_reducible refine (cutlite_asm s _ hs).mono ?_); rintro e w' ⟨⟨x, y, rfl⟩, m, rfl⟩)
  go_ret3
  exact ⟨⟨x, y, rfl⟩, m, rfl⟩
theorem own_below {w w' : World} {base : Nat} {e : TypeId} {size : Nat} {v : Value} {n : Nat} {xs : List Value} (h : w.ownsRow base e size v n xs) (hb : Below w.heap.size w w') : w'.ownsRow base e size v n xs := by
  refine ⟨h.1, ?_⟩
  rcases h.2 with h | ⟨g, cap, cur, h1, h2, h3, h4⟩
  · exact Or.inl h
  · exact Or.inr ⟨g, cap, cur, h1, h2, by rw [hb.block g (Array.getElem?_eq_some_iff.1 h3).1]; exact h3, h4⟩
theorem heap_below {w w' : World} {k : Nat} {o : Obj} (h : w.heap[k]? = some o) (hb : Below w.heap.size w w') : w'.heap[k]? = some o := by
  rw [hb.block k (Array.getElem?_eq_some_iff.1 h).1]; exact h
/-- A rune that is no separator. -/
theorem tok_step {s : ByteArray} {pos : Nat} (h : pos < s.size) (hc : s[pos].toNat < 128 → sepB s[pos] = false) :
    pos + (Utf8.decode s pos).2 ≤ s.size ∧ 1 ≤ (Utf8.decode s pos).2 ∧ (∀ b ∈ (s.data.toList.drop pos).take (Utf8.decode s pos).2, sepB b = false) ∧
    ∀ W, Calls Tryd.prog 55 #[.string { data := #[32, 44, 58, 40, 41] }, .int .i32 ((Utf8.decode s pos).1 : Int)] W fun e w' => e = .returned (.bool false) ∧ Below W.heap.size W w' := by
  by_cases ha : s[pos].toNat < 128
  · have hd := decode_ascii s pos h ha
    have hsep := fun W => sep_low s[pos] W ha
    rw [hc ha] at hsep
    rw [hd]
    refine ⟨by dsimp only; omega, by dsimp only; omega, fun b hb => ?_, fun W => (hsep W).mono fun e w' ⟨he, hw⟩ => ⟨he, by subst hw; exact Below.refl _ _⟩⟩
    rw [drop_get h] at hb
    simp at hb
    subst hb
    exact hc ha
  · have h1 := decode_high s pos h (by omega)
    have h2 := decode_span s pos h (by omega)
    have h3 := span_mem s pos h (by omega)
    have h4 := decode_le s pos
    refine ⟨h2.1, h2.2.1, fun b hb => ?_, fun W => sep_high _ W (by omega) (by omega) (decode_valid s pos)⟩
    have := h3 b hb
    unfold sepB
    have f : ∀ c : UInt8, c.toNat < 128 → (b == c) = false := fun c hc => by
      rw [beq_eq_false_iff_ne]; rintro rfl; omega
    rw [f 32 (by decide), f 44 (by decide), f 58 (by decide), f 40 (by decide), f 41 (by decide)]; rfl
theorem after_row2 {w wr w1 : World} {v : Value} {n : Nat} {e : TypeId} {size : Nat} {xs : List Value} {s : ByteArray} {pos : Nat} {o : Obj} (hown : wr.ownsRow (w.heap.size + 1) e size v n xs) (hit : wr.heap[w.heap.size]? = some (.stringIter s pos)) (hbw : Below w.heap.size w wr)
    (hg : (wr.alloc o).grownBy w1 v.ownBlock) : w1.heap[w.heap.size]? = some (.stringIter s pos) ∧ Below w.heap.size w w1 := by
  have hlt := iter_lt hit
  have h2 := hbw.alloc (o := o) (by omega)
  refine ⟨?_, h2.grown hg (by simp; omega) (fun k hk => by have := (hown.lt k hk).1; omega)⟩
  have hne : some w.heap.size ≠ v.ownBlock := fun e => by have := (hown.lt _ e.symm).1; omega
  rw [hg.block w.heap.size (by simp; omega) hne, heap_alloc_old _ _ (by omega)]
  exact hit
/-- The state of cutTokens' loop. -/
def TokRel (s : ByteArray) (w : World) (v st : Value) (wr : World) : Prop :=
  ∃ (pos start : Nat) (acc : List Bs), start ≤ pos ∧ pos ≤ s.size ∧ st = .int .i64 start ∧ acc.length ≤ 2 * pos ∧ acc ++ tokGo (piece s.data.toList start pos) (s.data.toList.drop pos) = tokGo [] s.data.toList ∧
    wr.ownsRow (w.heap.size + 1) 9 1 v acc.length (acc.map strV) ∧ wr.heap[w.heap.size]? = some (.stringIter s pos) ∧ Below w.heap.size w wr
theorem tok_sep {s : ByteArray} {pos start : Nat} {acc : List Bs} (hp : pos < s.size) (hst : start ≤ pos) (hc : sepB s[pos] = true) (hE : acc ++ tokGo (piece s.data.toList start pos) (s.data.toList.drop pos) = tokGo [] s.data.toList) :
    (acc ++ (if start < pos then [piece s.data.toList start pos] else []) ++ (if s[pos].toNat = 32 then [] else [[s[pos]]])) ++ tokGo (piece s.data.toList (pos + 1) (pos + 1)) (s.data.toList.drop (pos + 1)) = tokGo [] s.data.toList := by
  rw [← hE, drop_get hp, piece_self]
  conv => rhs; unfold tokGo
  rw [if_pos hc]
  have e1 : (if start < pos then [piece s.data.toList start pos] else []) = if piece s.data.toList start pos = [] then ([] : List Bs) else [piece s.data.toList start pos] := by
    have := piece_nil (l := s.data.toList) hst (by rw [len_size]; omega)
    by_cases h : start < pos
    · rw [if_pos h, if_neg (fun e => (this.1 e) h)]
    · rw [if_neg h, if_pos (this.2 h)]
  have e2 : (if s[pos].toNat = 32 then ([] : List Bs) else [[s[pos]]]) = if s[pos] = 32 then [] else [[s[pos]]] := by
    by_cases h : s[pos] = 32
    · rw [if_pos h, if_pos (by rw [h]; rfl)]
    · rw [if_neg h, if_neg (fun e : s[pos].toNat = 32 => h (UInt8.toNat_inj.1 e))]
  rw [e1, e2]
  simp
theorem sep_lt {c : UInt8} (h : sepB c = true) : c.toNat < 128 := by
  unfold sepB at h
  simp at h
  rcases h with (((rfl | rfl) | rfl) | rfl) | rfl <;> decide
theorem slice_byte (p : ByteArray) (k : Nat) (h : k < p.size) (wx : World) :
    (Instr.slice 9 (.string p) (some (.int .i64 (k : Int))) (some (.int .i64 ((k : Int) + 1))) none).run Tryd.prog wx = .ok (.string (S [p[k]])) wx := by
  rw [slice_one p k h wx, extract_piece]
  unfold piece
  rw [show k + 1 - k = 1 by omega, drop_get h]
  rfl
set_option maxRecDepth 100000 in
set_option maxHeartbeats 4000000 in
theorem toks_asm (l : ByteArray) (w : World) (hs : l.size ≤ 100000) : Calls Tryd.prog 43 #[.string l] w (LinesPost (toksL l.data.toList) w) := by
  obtain ⟨i0, hi, hz0, hz1, hz2⟩ := info_parts info_str
  have hcut := cut_asm l w hs
  obtain ⟨s, hS⟩ : ∃ s, S (l.data.toList.takeWhile (· != 59)) = s := ⟨_, rfl⟩
  have hT : toksL l.data.toList = tokGo [] s.data.toList := by rw [← hS, S_list]; rfl
  have hsz : s.size ≤ 100000 := by
    rw [← hS, S_size]
    have h1 : (l.data.toList.takeWhile (· != 59)).length ≤ l.data.toList.length := (List.takeWhile_sublist _).length_le
    rw [len_size] at h1; omega
  unfold CutPost at hcut
  rw [hS] at hcut
  rw [hT]
  clear hT hS hs
  have hcut2 : Calls Tryd.prog 54 #[.string l, .string { data := #[59] }] w fun e w' => (∃ x y, e = .returned (.tuple #[.string s, x, y])) ∧ ∃ m, w' = w.drewN m := hcut
  have HCUT := Lib.hid hcut2
  clear hcut hcut2
  go_enter Tryd.func43, Tryd.ntmps43
  go_wp2_with (go_at_call 54; refine (HCUT.out).mono ?_; rintro e w' ⟨⟨x, y, rfl⟩, m, rfl⟩)
  go_loopw [3, 4] (fun v st wr => TokRel s w v st wr) (fun _ _ wr => s.size - wr.iterPos w.heap.size)
  case atStart => exact ⟨0, 0, [], by omega, by omega, rfl, by simp, by simp [piece], World.ownsRow_nil _ _ _ _, World.iter_heap (w.drewN m) s 0, (drewN_below _ _).alloc (Nat.le_refl _) _⟩
  case round =>
    obtain ⟨pos, start, acc, h1, h2, rfl, h3, hE, hown, hit, hbw⟩ := hrel
    have HE := Lib.hid hE
    have HIT := Lib.hid hit
    have hlt := iter_lt hit
    have hm := Lib.hid (pos_iter hit)
    clear hE hit
    by_cases hp : pos < s.size
    · by_cases hc : sepB s[pos] = true
      · have hlow := sep_lt hc
        have hnx : ∀ ty, (Instr.next (.pointer (some ⟨w.heap.size, 0, none⟩)) true ty).run Tryd.prog _ = _ := fun ty => Lib.run_next_ascii_at _ w.heap.size s pos ty HIT.out hp hlow
        have hsep := fun W => sep_low s[pos] W hlow
        rw [hc] at hsep
        have hN := Lib.hid (tok_sep hp h1 hc HE.out)
        have hown1 := own_iter hown (k := w.heap.size) (by omega) s (pos + 1)
        have hit1 := Lib.hid (Lib.iterAt_heap wr w.heap.size s pos (pos + 1) HIT.out)
        have hb1 := Lib.below_iterAt hbw (k := w.heap.size) (Nat.le_refl _) s (pos + 1)
        have hsz1 := Lib.hid (Lib.iterAt_size wr w.heap.size s (pos + 1))
        clear hc
        have HSEP := Lib.hid hsep
        clear hsep
        by_cases hst : start < pos
        · have hstI : (start : Int) < pos := by omega
          have hsl := fun W => slice_mid s start pos h1 h2 W
          go_wp2_with (first
            | (go_at_call 55; (with_reducible refine (HSEP.out _).mono ?_); rintro e w' ⟨rfl, rfl⟩)
            | (at_builtin; refine wpList_append_own _ rfl _ _ 40 rfl (w.heap.size + 1) 9 i0 (.string { data := #[] }) 1 16 Tryd.underlying40 hi hz0 hz1 hz2 rfl (by decide) _ _ _ rfl (hown1.alloc _) ⟨_, 0, none⟩ 1 1 [.string (S (piece s.data.toList start pos))] rfl rfl (new_cell _ _ _) (one_str _) (by unfold maxLen; omega) (by omega) (by have := hsz1.out; simp; omega) ?_))
          intro v1 w1 hown2 hg1 _
          obtain ⟨hit2, hb2⟩ := after_row2 hown1 hit1.out hb1 hg1
          have hown3 := snoc_row hown2 rfl
          have HIT2 := Lib.hid hit2
          have hlt2 := iter_lt hit2
          clear hown2 hg1 hsl hown1 hit1 hb1 hsz1 hit2 hnx
          by_cases h32 : s[pos].toNat = 32
          · have hI : ((s[pos].toNat : Int) != 32) = false := by rw [h32]; rfl
            rw [if_pos hst, if_pos h32, List.append_nil] at hN
            go_wp2
            go_roundw
            case rel => exact ⟨pos + 1, pos + 1, _, by omega, by omega, by go_num, by simp; omega, hN.out, hown3, HIT2.out, hb2⟩
            case measure => rw [pos_iter (HIT2.out), hm.out]; omega
          · have hI : ((s[pos].toNat : Int) != 32) = true := by rw [bne_iff_ne]; omega
            rw [if_pos hst, if_neg h32] at hN
            have hsl := fun W => slice_byte s pos hp W
            have hL3 : (acc ++ [piece s.data.toList start pos]).length ≤ 2 * pos + 1 := by simp; omega
            go_wp2_with (at_builtin; refine wpList_append_own _ rfl _ _ 40 rfl (w.heap.size + 1) 9 i0 (.string { data := #[] }) 1 16 Tryd.underlying40 hi hz0 hz1 hz2 rfl (by decide) _ _ _ rfl (hown3.alloc _) ⟨_, 0, none⟩ 1 1 [.string (S [s[pos]])] rfl rfl (new_cell _ _ _) (one_str _) (by unfold maxLen; omega) (by omega) (by simp; omega) ?_)
            intro v2 w2 hown4 hg2 _
            obtain ⟨hit3, hb3⟩ := after_row2 hown3 HIT2.out hb2 hg2
            have hown5 : w2.ownsRow (w.heap.size + 1) 9 1 v2 (acc ++ [piece s.data.toList start pos] ++ [[s[pos]]]).length ((acc ++ [piece s.data.toList start pos] ++ [[s[pos]]]).map strV) := by simpa [strV] using hown4
            clear hown4 hg2 hsl hown3 HIT2 hb2
            go_wp2
            go_roundw
            case rel => exact ⟨pos + 1, pos + 1, _, by omega, by omega, by go_num, by simp; omega, hN.out, hown5, hit3, hb3⟩
            case measure => rw [pos_iter (hit3), hm.out]; omega
        · have hstI : ¬ (start : Int) < pos := by omega
          by_cases h32 : s[pos].toNat = 32
          · have hI : ((s[pos].toNat : Int) != 32) = false := by rw [h32]; rfl
            rw [if_neg hst, if_pos h32, List.append_nil, List.append_nil] at hN
            clear h32
            go_wp2_with (go_at_call 55; (with_reducible refine (HSEP.out _).mono ?_); rintro e w' ⟨rfl, rfl⟩)
            go_roundw
            case rel => exact ⟨pos + 1, pos + 1, _, by omega, by omega, by go_num, by omega, hN.out, hown1, hit1.out, hb1⟩
            case measure => rw [pos_iter hit1.out, hm.out]; omega
          · have hI : ((s[pos].toNat : Int) != 32) = true := by rw [bne_iff_ne]; omega
            rw [if_neg hst, if_neg h32, List.append_nil] at hN
            have hsl := fun W => slice_byte s pos hp W
            go_wp2_with (first
              | (go_at_call 55; (with_reducible refine (HSEP.out _).mono ?_); rintro e w' ⟨rfl, rfl⟩)
              | (at_builtin; refine wpList_append_own _ rfl _ _ 40 rfl (w.heap.size + 1) 9 i0 (.string { data := #[] }) 1 16 Tryd.underlying40 hi hz0 hz1 hz2 rfl (by decide) _ _ _ rfl (hown1.alloc _) ⟨_, 0, none⟩ 1 1 [.string (S [s[pos]])] rfl rfl (new_cell _ _ _) (one_str _) (by unfold maxLen; omega) (by omega) (by have := hsz1.out; simp; omega) ?_))
            intro v2 w2 hown4 hg2 _
            obtain ⟨hit3, hb3⟩ := after_row2 hown1 hit1.out hb1 hg2
            have hown5 := snoc_row hown4 rfl
            clear hown4 hg2 hsl hown1 hit1 hb1 hnx
            go_wp2
            go_roundw
            case rel => exact ⟨pos + 1, pos + 1, _, by omega, by omega, by go_num, by simp; omega, hN.out, hown5, hit3, hb3⟩
            case measure => rw [pos_iter (hit3), hm.out]; omega
      · obtain ⟨hc2, hc3, hc4, hc5⟩ := tok_step hp (fun _ => by simpa using hc)
        have hnx : ∀ ty, (Instr.next (.pointer (some ⟨w.heap.size, 0, none⟩)) true ty).run Tryd.prog _ = _ := fun ty => Lib.run_next_any_at _ w.heap.size s pos ty HIT.out hp
        have HC := Lib.hid hc4
        have HSEP := Lib.hid hc5
        have hd1 := decode_le s pos
        clear hc4 hc5 hc
        have hown1 := own_iter hown (k := w.heap.size) (by omega) s (pos + (Utf8.decode s pos).2)
        have hit1 := Lib.hid (Lib.iterAt_heap wr w.heap.size s pos (pos + (Utf8.decode s pos).2) HIT.out)
        have hb1 := Lib.below_iterAt hbw (k := w.heap.size) (Nat.le_refl _) s (pos + (Utf8.decode s pos).2)
        go_wp2_with (go_at_call 55; (with_reducible refine (HSEP.out _).mono ?_); rintro e w1 ⟨rfl, hb2⟩)
        have hit2 := heap_below hit1.out hb2
        go_roundw
        case rel => exact ⟨pos + (Utf8.decode s pos).2, start, acc, by omega, by omega, rfl, by omega, by
          rw [← HE.out, piece_add _ _ _ _ h1]
          conv => rhs; rw [← List.take_append_drop (Utf8.decode s pos).2 (s.data.toList.drop pos), tokGo_skip _ _ _ HC.out, List.drop_drop], own_below hown1 hb2, hit2, below_step hb1 hb2⟩
        case measure => rw [pos_iter hit2, hm.out]; omega
    · have hnx : ∀ ty, (Instr.next (.pointer (some ⟨w.heap.size, 0, none⟩)) true ty).run Tryd.prog _ = _ := fun ty => Lib.run_next_end_at _ w.heap.size s pos ty HIT.out hp
      have hE := HE.out
      rw [show pos = s.size by omega, List.drop_of_length_le (by rw [len_size]; exact Nat.le_refl _)] at hE
      rw [show ∀ p : Bs, tokGo p [] = (if p = [] then [] else [p]) from fun _ => rfl] at hE
      have hpn := piece_nil (l := s.data.toList) (a := start) (b := s.size) (by omega) (by rw [len_size]; exact Nat.le_refl _)
      by_cases hst : start < s.size
      · rw [if_neg (fun e => (hpn.1 e) hst)] at hE
        have HE2 := Lib.hid hE
        have hstI : (start : Int) < s.size := by omega
        have hsl := fun W => slice_end s start (by omega) W
        clear hE hpn
        go_wp2_with (at_builtin; refine wpList_append_own _ rfl _ _ 40 rfl (w.heap.size + 1) 9 i0 (.string { data := #[] }) 1 16 Tryd.underlying40 hi hz0 hz1 hz2 rfl (by decide) _ _ _ rfl (hown.alloc _) ⟨_, 0, none⟩ 1 1 [.string (S (piece s.data.toList start s.size))] rfl rfl (new_cell _ _ _) (one_str _) (by unfold maxLen; omega) (by omega) (by simp; omega) ?_)
        intro v' w1 hown3 hgrow _
        have hown4 := snoc_row hown3 rfl
        have hb1 : Below w.heap.size w w1 := (hbw.alloc (by omega) _).grown hgrow (by simp; omega) (fun k hk => by have := (hown.lt k hk).1; omega)
        rw [HE2.out] at hown4
        have HF := Lib.hid hown4
        clear hown3 hgrow hsl hnx hown4
        go_wp2
        go_ret
        exact ⟨_, rfl, HF.out, hb1⟩
      · rw [if_pos (hpn.2 hst), List.append_nil] at hE
        have HF := Lib.hid hown
        rw [hE] at HF
        have hstI : ¬ (start : Int) < s.size := by omega
        clear hE hpn
        go_wp2
        go_ret
        exact ⟨_, rfl, HF.out, hbw⟩
end Go.Proofs.YthghbcjaokpilaaDoor
