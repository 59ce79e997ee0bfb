import Derived.Test.YthghbcjaokpilaaDoorRefC
namespace Go.Proofs.YthghbcjaokpilaaDoor
set_option linter.unusedVariables false
set_option linter.unusedSimpArgs false
open Go.ChangeShapes Go.WideShapes Go.ChangeAt Go.RowKit Go.Proofs.YthghbcjaokpilaaDoor.Num Go.Proofs.YthghbcjaokpilaaDoor.Isa Go.Proofs.YthghbcjaokpilaaDoor.Mem Go.Proofs.YthghbcjaokpilaaDoor.Asm
/-- A word or number goes on by one byte. -/
theorem tk_more (q : Int) {s : ByteArray} {L : List Tk} {g : Bool} {k j : Nat} (hkj : k ≤ j) (hj : j < s.size) (hc : okC s[j] = true) (h0 : TkAt s L (some ⟨q, piece s.data.toList k (k + 1), g⟩) false (k + 1)) (h : j = k ∨ (k < j ∧ TkAt s L (some ⟨q, piece s.data.toList k j, g⟩) false j)) :
    j + 1 = k ∨ (k < j + 1 ∧ TkAt s L (some ⟨q, piece s.data.toList k (j + 1), g⟩) false (j + 1)) := by
  refine Or.inr ⟨by omega, ?_⟩
  rcases h with rfl | ⟨h1, h2⟩
  · exact h0
  · exact tkat_ext h2 (by omega) hj hc
theorem split5 (s : ByteArray) (j : Nat) : (∃ h : j < s.size, letB (s[j].toNat : Int) = true) ∨ (∃ h : j < s.size, letB (s[j].toNat : Int) = false ∧ digB (s[j].toNat : Int) = true) ∨ (∃ h : j < s.size, letB (s[j].toNat : Int) = false ∧ digB (s[j].toNat : Int) = false ∧ ((s[j].toNat : Int) == 95) = true) ∨ (∃ h : j < s.size, letB (s[j].toNat : Int) = false ∧ digB (s[j].toNat : Int) = false ∧ ((s[j].toNat : Int) == 95) = false) ∨ ¬ j < s.size := by
  by_cases h : j < s.size
  · cases h1 : letB (s[j].toNat : Int) with
    | true => exact Or.inl ⟨h, h1⟩
    | false =>
      cases h2 : digB (s[j].toNat : Int) with
      | true => exact Or.inr (Or.inl ⟨h, h1, h2⟩)
      | false =>
        cases h3 : ((s[j].toNat : Int) == 95) with
        | true => exact Or.inr (Or.inr (Or.inl ⟨h, h1, h2, h3⟩))
        | false => exact Or.inr (Or.inr (Or.inr (Or.inl ⟨h, h1, h2, h3⟩)))
  · exact Or.inr (Or.inr (Or.inr (Or.inr h)))
theorem split6 (c : Int) (h : c = 44 ∨ c = 58 ∨ c = 40 ∨ c = 41 ∨ c = 46) : (c == 44) = true ∨ ((c == 44) = false ∧ (c == 58) = true) ∨ ((c == 44) = false ∧ (c == 58) = false ∧ (c == 40) = true) ∨ ((c == 44) = false ∧ (c == 58) = false ∧ (c == 40) = false ∧ (c == 41) = true) ∨ ((c == 44) = false ∧ (c == 58) = false ∧ (c == 40) = false ∧ (c == 41) = false ∧ (c == 46) = true) := by
  rcases h with rfl | rfl | rfl | rfl | rfl <;> decide
def TokPost (r : Option (List Tk)) (w : World) (e : Ending) (w' : World) : Prop :=
  (match r with
  | some L => ∃ v, e = .returned (.tuple #[v, .bool true]) ∧ w'.ownsRow w.heap.size 90 3 v L.length (flatT L)
  | none => e = .returned (.tuple #[.slice none 0 0, .bool false])) ∧ Below w.heap.size w w'
set_option maxHeartbeats 8000000 in
set_option maxRecDepth 100000 in
theorem tokens_ref (s : ByteArray) (w : World) (hz : s.size ≤ 100000) :
    Calls Tryd.prog 32 #[.string s] w (TokPost (tkL s.data.toList) w) := by
  obtain ⟨i0, hi, hz0, hz1, hz2⟩ := info_parts info_tok
  have HL := Lib.hid (fun (c : UInt8) W b (h : letB (c.toNat : Int) = b) => show Calls Tryd.prog 48 #[.int .u8 (c.toNat : Int)] W fun e w' => e = .returned (.bool b) ∧ W = w' by rw [← h]; exact letter_ref _ W)
  have HD := Lib.hid (fun (c : UInt8) W b (h : digB (c.toNat : Int) = b) => show Calls Tryd.prog 49 #[.int .u8 (c.toNat : Int)] W fun e w' => e = .returned (.bool b) ∧ W = w' by rw [← h]; exact digit_ref _ W)
  obtain ⟨R, hR⟩ : ∃ R, Hid (tkL s.data.toList = R) := ⟨_, rfl⟩
  rw [hR.out]
  go_enter Tryd.func32, Tryd.ntmps32
  go_wp2
  go_loopw [4, 5, 6] (fun v g i wr => ∃ (L : List Tk) (gb : Bool) (k : Nat), k ≤ s.size ∧ i = .int .i64 k ∧ g = .bool gb ∧ L.length ≤ k ∧ wr.ownsRow w.heap.size 90 3 v L.length (flatT L) ∧ Below w.heap.size w wr ∧ Hid (TkAt s L none gb k)) (fun _ _ i _ => s.size - (intOf i).toNat)
  case atStart => exact ⟨[], true, 0, by omega, rfl, rfl, by simp, World.ownsRow_nil _ _ _ _, Below.refl _ _, Lib.hid (tkat_start s)⟩
  case round =>
    obtain ⟨L, gb, k, hk, rfl, rfl, hLk, hown, hbw, hat⟩ := hrel
    have hws := hbw.size
    by_cases hlt : k < s.size
    · by_cases h32 : (s[k].toNat : Int) = 32
      · have HA := Lib.hid (tkat_blank hat.out hlt (cls_0 h32))
        have HO := Lib.hid hown
        have HB := Lib.hid hbw
        clear hown hbw hat
        go_wp2
        go_roundw
        case rel => exact ⟨L, true, k + 1, by omega, by go_num, rfl, by omega, HO.out, HB.out, HA⟩
        case measure => simp [intOf]; omega
      · have b32 : ((s[k].toNat : Int) == 32) = false := by simpa using h32
        cases hl : letB (s[k].toNat : Int) with
        | true =>
          have HL1 := Lib.hid (fun W => HL.out s[k] W true hl)
          have HA0 := Lib.hid (show TkAt s L (some ⟨1, piece s.data.toList k (k + 1), gb⟩) false (k + 1) by
            have := tkat_open hat.out hlt (Or.inl (cls_1 h32 hl)); rwa [cls_1 h32 hl] at this)
          have HK := Lib.hid (show okC s[k] = true by rw [ok_split, hl]; rfl)
          have HO := Lib.hid hown
          have HB := Lib.hid hbw
          clear hown hbw hat h32
          rename World => wX
          go_wp2_with (go_at_call 48; (with_reducible refine (HL1.out _).mono ?_); rintro e w1 ⟨rfl, rfl⟩)
          clear b32
          go_loopw [6] (fun i wr => ∃ j : Nat, k ≤ j ∧ j ≤ s.size ∧ i = .int .i64 j ∧ wr = wX ∧ Hid (j = k ∨ (k < j ∧ TkAt s L (some ⟨1, piece s.data.toList k j, gb⟩) false j))) (fun i _ => s.size - (intOf i).toNat)
          case atStart => exact ⟨k, by omega, by omega, rfl, rfl, Lib.hid (Or.inl rfl)⟩
          case round =>
            obtain ⟨j, hkj, hj, rfl, rfl, hor⟩ := hrel
            have hcase : Hid ((∃ h : j < s.size, letB (s[j].toNat : Int) = true) ∨ (∃ h : j < s.size, letB (s[j].toNat : Int) = false ∧ digB (s[j].toNat : Int) = true) ∨ (∃ h : j < s.size, letB (s[j].toNat : Int) = false ∧ digB (s[j].toNat : Int) = false ∧ ((s[j].toNat : Int) == 95) = true) ∨ (∃ h : j < s.size, letB (s[j].toNat : Int) = false ∧ digB (s[j].toNat : Int) = false ∧ ((s[j].toNat : Int) == 95) = false) ∨ ¬ j < s.size) := split5 s j
            rcases hcase.out with ⟨hjs, x1⟩ | ⟨hjs, x1, x2⟩ | ⟨hjs, x1, x2, x3⟩ | ⟨hjs, x1, x2, x3⟩ | hjs
            · have HN := Lib.hid (tk_more 1 hkj hjs (show okC s[j] = true by rw [ok_split, x1]; rfl) HA0.out hor.out)
              have HL2 := Lib.hid (fun W => HL.out s[j] W true x1)
              clear hcase
              go_wp2_with (go_at_call 48; (with_reducible refine (HL2.out _).mono ?_); rintro e w1 ⟨rfl, rfl⟩)
              go_roundw
              case rel => exact ⟨j + 1, by omega, by omega, by go_num, trivial, HN⟩
              case measure => simp [intOf]; omega
            · have HN := Lib.hid (tk_more 1 hkj hjs (show okC s[j] = true by rw [ok_split, x1, x2]; rfl) HA0.out hor.out)
              have HL2 := Lib.hid (fun W => HL.out s[j] W false x1)
              have HD2 := Lib.hid (fun W => HD.out s[j] W true x2)
              clear hcase
              go_wp2_with (first
                | (go_at_call 48; (with_reducible refine (HL2.out _).mono ?_); rintro e w1 ⟨rfl, rfl⟩)
                | (go_at_call 49; (with_reducible refine (HD2.out _).mono ?_); rintro e w2 ⟨rfl, rfl⟩))
              go_roundw
              case rel => exact ⟨j + 1, by omega, by omega, by go_num, trivial, HN⟩
              case measure => simp [intOf]; omega
            · have HN := Lib.hid (tk_more 1 hkj hjs (show okC s[j] = true by rw [ok_split, x1, x2]; simpa using x3) HA0.out hor.out)
              have HL2 := Lib.hid (fun W => HL.out s[j] W false x1)
              have HD2 := Lib.hid (fun W => HD.out s[j] W false x2)
              clear hcase
              go_wp2_with (first
                | (go_at_call 48; (with_reducible refine (HL2.out _).mono ?_); rintro e w1 ⟨rfl, rfl⟩)
                | (go_at_call 49; (with_reducible refine (HD2.out _).mono ?_); rintro e w2 ⟨rfl, rfl⟩))
              go_roundw
              case rel => exact ⟨j + 1, by omega, by omega, by go_num, trivial, HN⟩
              case measure => simp [intOf]; omega
            · obtain ⟨hkj2, hat2⟩ : k < j ∧ TkAt s L (some ⟨1, piece s.data.toList k j, gb⟩) false j := by
                rcases hor.out with rfl | h
                · rw [hl] at x1; cases x1
                · exact h
              have HCL := Lib.hid (tkat_close hat2 (Or.inr ⟨hjs, show okC s[j] = false by rw [ok_split, x1, x2]; simpa using x3⟩))
              have hsl := slice_mid s k j (by omega) (by omega)
              have HL2 := Lib.hid (fun W => HL.out s[j] W false x1)
              have HD2 := Lib.hid (fun W => HD.out s[j] W false x2)
              clear hcase
              go_wp2_with (first
                | (go_at_call 48; (with_reducible refine (HL2.out _).mono ?_); rintro e w1 ⟨rfl, rfl⟩)
                | (go_at_call 49; (with_reducible refine (HD2.out _).mono ?_); rintro e w2 ⟨rfl, rfl⟩)
                | (at_builtin; refine wpList_append_own _ rfl _ _ 86 rfl w.heap.size 90 i0 _ 3 32 Tryd.underlying86 hi hz0 hz1 hz2 rfl (by decide) _ _ _ rfl (HO.out.alloc _) ⟨_, 0, none⟩ 1 1 (tkV ⟨1, piece s.data.toList k j, gb⟩) rfl rfl (new_cellsA _ _ _) (one_tok _) (by unfold maxLen; omega) (by omega) (by have := HB.out.size; simp; omega) ?_))
              intro v' w1 hown3 hgrow _
              have HO4 := Lib.hid (show w1.ownsRow w.heap.size 90 3 v' (L ++ [(⟨1, piece s.data.toList k j, gb⟩ : Tk)]).length (flatT (L ++ [(⟨1, piece s.data.toList k j, gb⟩ : Tk)])) by rw [flatT_snoc]; simpa using hown3)
              have HB4 := Lib.hid (show Below w.heap.size w w1 from (HB.out.alloc HB.out.size _).grown hgrow (by have := HB.out.size; simp; omega) (fun k hk => (HO.out.lt k hk).1))
              clear hown3 hgrow
              go_wp2
              go_roundw
              case rel => exact ⟨L ++ [(⟨1, piece s.data.toList k j, gb⟩ : Tk)], false, j, by omega, rfl, rfl, by rw [List.length_append, List.length_singleton]; omega, HO4.out, HB4.out, HCL⟩
              case measure => simp [intOf]; omega
            · obtain ⟨hkj2, hat2⟩ : k < j ∧ TkAt s L (some ⟨1, piece s.data.toList k j, gb⟩) false j := by
                rcases hor.out with rfl | h
                · exact absurd hlt hjs
                · exact h
              have HCL := Lib.hid (tkat_close hat2 (Or.inl (by omega)))
              have hsl := slice_mid s k j (by omega) (by omega)
              clear hcase
              go_wp2_with (at_builtin; refine wpList_append_own _ rfl _ _ 86 rfl w.heap.size 90 i0 _ 3 32 Tryd.underlying86 hi hz0 hz1 hz2 rfl (by decide) _ _ _ rfl (HO.out.alloc _) ⟨_, 0, none⟩ 1 1 (tkV ⟨1, piece s.data.toList k j, gb⟩) rfl rfl (new_cellsA _ _ _) (one_tok _) (by unfold maxLen; omega) (by omega) (by have := HB.out.size; simp; omega) ?_)
              intro v' w1 hown3 hgrow _
              have HO4 := Lib.hid (show w1.ownsRow w.heap.size 90 3 v' (L ++ [(⟨1, piece s.data.toList k j, gb⟩ : Tk)]).length (flatT (L ++ [(⟨1, piece s.data.toList k j, gb⟩ : Tk)])) by rw [flatT_snoc]; simpa using hown3)
              have HB4 := Lib.hid (show Below w.heap.size w w1 from (HB.out.alloc HB.out.size _).grown hgrow (by have := HB.out.size; simp; omega) (fun k hk => (HO.out.lt k hk).1))
              clear hown3 hgrow
              go_wp2
              go_roundw
              case rel => exact ⟨L ++ [(⟨1, piece s.data.toList k j, gb⟩ : Tk)], false, j, by omega, rfl, rfl, by rw [List.length_append, List.length_singleton]; omega, HO4.out, HB4.out, HCL⟩
              case measure => simp [intOf]; omega
        | false =>
          have HL1 := Lib.hid (fun W => HL.out s[k] W false hl)
          by_cases hnum : digB (s[k].toNat : Int) = true ∨ (s[k].toNat : Int) = 45
          · have HA0 := Lib.hid (show TkAt s L (some ⟨2, piece s.data.toList k (k + 1), gb⟩) false (k + 1) by
              have := tkat_open hat.out hlt (Or.inr (cls_2 h32 hl hnum)); rwa [cls_2 h32 hl hnum] at this)
            have HO := Lib.hid hown
            have HB := Lib.hid hbw
            clear hown hbw hat h32
            have hn2 : Hid (digB (s[k].toNat : Int) = true ∨ (digB (s[k].toNat : Int) = false ∧ ((s[k].toNat : Int) == 45) = true)) := by
              cases hd : digB (s[k].toNat : Int) with
              | true => exact Lib.hid (Or.inl rfl)
              | false =>
                rcases hnum with h | h
                · rw [hd] at h; cases h
                · exact Lib.hid (Or.inr ⟨rfl, by simpa using h⟩)
            clear hnum
            rename World => wX
            rcases hn2.out with y1 | ⟨y1, y2⟩
            all_goals
              have HD1 := Lib.hid (fun W => HD.out s[k] W _ y1)
              clear hn2
              go_wp2_with (first
                | (go_at_call 48; (with_reducible refine (HL1.out _).mono ?_); rintro e w1 ⟨rfl, rfl⟩)
                | (go_at_call 49; (with_reducible refine (HD1.out _).mono ?_); rintro e w2 ⟨rfl, rfl⟩))
              clear b32 HD1
              try clear y2
              go_loopw [6] (fun i wr => ∃ j : Nat, k < j ∧ j ≤ s.size ∧ i = .int .i64 j ∧ wr = wX ∧ Hid (TkAt s L (some ⟨2, piece s.data.toList k j, gb⟩) false j)) (fun i _ => s.size - (intOf i).toNat)
              case atStart => exact ⟨k + 1, by omega, by omega, by go_num, rfl, HA0⟩
              case round =>
                obtain ⟨j, hkj, hj, rfl, rfl, hor⟩ := hrel
                have hcase : Hid ((∃ h : j < s.size, letB (s[j].toNat : Int) = true) ∨ (∃ h : j < s.size, letB (s[j].toNat : Int) = false ∧ digB (s[j].toNat : Int) = true) ∨ (∃ h : j < s.size, letB (s[j].toNat : Int) = false ∧ digB (s[j].toNat : Int) = false ∧ ((s[j].toNat : Int) == 95) = true) ∨ (∃ h : j < s.size, letB (s[j].toNat : Int) = false ∧ digB (s[j].toNat : Int) = false ∧ ((s[j].toNat : Int) == 95) = false) ∨ ¬ j < s.size) := split5 s j
                rcases hcase.out with ⟨hjs, x1⟩ | ⟨hjs, x1, x2⟩ | ⟨hjs, x1, x2, x3⟩ | ⟨hjs, x1, x2, x3⟩ | hjs
                · have HN := Lib.hid (tkat_ext hor.out (Nat.le_of_lt hkj) hjs (show okC s[j] = true by rw [ok_split, x1]; rfl))
                  have HL2 := Lib.hid (fun W => HL.out s[j] W true x1)
                  clear hcase
                  go_wp2_with (go_at_call 48; (with_reducible refine (HL2.out _).mono ?_); rintro e w1 ⟨rfl, rfl⟩)
                  go_roundw
                  case rel => exact ⟨j + 1, by omega, by omega, by go_num, trivial, HN⟩
                  case measure => simp [intOf]; omega
                · have HN := Lib.hid (tkat_ext hor.out (Nat.le_of_lt hkj) hjs (show okC s[j] = true by rw [ok_split, x1, x2]; rfl))
                  have HL2 := Lib.hid (fun W => HL.out s[j] W false x1)
                  have HD2 := Lib.hid (fun W => HD.out s[j] W true x2)
                  clear hcase
                  go_wp2_with (first
                    | (go_at_call 48; (with_reducible refine (HL2.out _).mono ?_); rintro e w1 ⟨rfl, rfl⟩)
                    | (go_at_call 49; (with_reducible refine (HD2.out _).mono ?_); rintro e w2 ⟨rfl, rfl⟩))
                  go_roundw
                  case rel => exact ⟨j + 1, by omega, by omega, by go_num, trivial, HN⟩
                  case measure => simp [intOf]; omega
                · have HN := Lib.hid (tkat_ext hor.out (Nat.le_of_lt hkj) hjs (show okC s[j] = true by rw [ok_split, x1, x2]; simpa using x3))
                  have HL2 := Lib.hid (fun W => HL.out s[j] W false x1)
                  have HD2 := Lib.hid (fun W => HD.out s[j] W false x2)
                  clear hcase
                  go_wp2_with (first
                    | (go_at_call 48; (with_reducible refine (HL2.out _).mono ?_); rintro e w1 ⟨rfl, rfl⟩)
                    | (go_at_call 49; (with_reducible refine (HD2.out _).mono ?_); rintro e w2 ⟨rfl, rfl⟩))
                  go_roundw
                  case rel => exact ⟨j + 1, by omega, by omega, by go_num, trivial, HN⟩
                  case measure => simp [intOf]; omega
                · have hat2 := hor.out
                  have HCL := Lib.hid (tkat_close hat2 (Or.inr ⟨hjs, show okC s[j] = false by rw [ok_split, x1, x2]; simpa using x3⟩))
                  have hsl := slice_mid s k j (by omega) (by omega)
                  have HL2 := Lib.hid (fun W => HL.out s[j] W false x1)
                  have HD2 := Lib.hid (fun W => HD.out s[j] W false x2)
                  clear hcase
                  go_wp2_with (first
                    | (go_at_call 48; (with_reducible refine (HL2.out _).mono ?_); rintro e w1 ⟨rfl, rfl⟩)
                    | (go_at_call 49; (with_reducible refine (HD2.out _).mono ?_); rintro e w2 ⟨rfl, rfl⟩)
                    | (at_builtin; refine wpList_append_own _ rfl _ _ 86 rfl w.heap.size 90 i0 _ 3 32 Tryd.underlying86 hi hz0 hz1 hz2 rfl (by decide) _ _ _ rfl (HO.out.alloc _) ⟨_, 0, none⟩ 1 1 (tkV ⟨2, piece s.data.toList k j, gb⟩) rfl rfl (new_cellsA _ _ _) (one_tok _) (by unfold maxLen; omega) (by omega) (by have := HB.out.size; simp; omega) ?_))
                  intro v' w1 hown3 hgrow _
                  have HO4 := Lib.hid (show w1.ownsRow w.heap.size 90 3 v' (L ++ [(⟨2, piece s.data.toList k j, gb⟩ : Tk)]).length (flatT (L ++ [(⟨2, piece s.data.toList k j, gb⟩ : Tk)])) by rw [flatT_snoc]; simpa using hown3)
                  have HB4 := Lib.hid (show Below w.heap.size w w1 from (HB.out.alloc HB.out.size _).grown hgrow (by have := HB.out.size; simp; omega) (fun k hk => (HO.out.lt k hk).1))
                  clear hown3 hgrow
                  go_wp2
                  go_roundw
                  case rel => exact ⟨L ++ [(⟨2, piece s.data.toList k j, gb⟩ : Tk)], false, j, by omega, rfl, rfl, by rw [List.length_append, List.length_singleton]; omega, HO4.out, HB4.out, HCL⟩
                  case measure => simp [intOf]; omega
                · have hat2 := hor.out
                  have HCL := Lib.hid (tkat_close hat2 (Or.inl (by omega)))
                  have hsl := slice_mid s k j (by omega) (by omega)
                  clear hcase
                  go_wp2_with (at_builtin; refine wpList_append_own _ rfl _ _ 86 rfl w.heap.size 90 i0 _ 3 32 Tryd.underlying86 hi hz0 hz1 hz2 rfl (by decide) _ _ _ rfl (HO.out.alloc _) ⟨_, 0, none⟩ 1 1 (tkV ⟨2, piece s.data.toList k j, gb⟩) rfl rfl (new_cellsA _ _ _) (one_tok _) (by unfold maxLen; omega) (by omega) (by have := HB.out.size; simp; omega) ?_)
                  intro v' w1 hown3 hgrow _
                  have HO4 := Lib.hid (show w1.ownsRow w.heap.size 90 3 v' (L ++ [(⟨2, piece s.data.toList k j, gb⟩ : Tk)]).length (flatT (L ++ [(⟨2, piece s.data.toList k j, gb⟩ : Tk)])) by rw [flatT_snoc]; simpa using hown3)
                  have HB4 := Lib.hid (show Below w.heap.size w w1 from (HB.out.alloc HB.out.size _).grown hgrow (by have := HB.out.size; simp; omega) (fun k hk => (HO.out.lt k hk).1))
                  clear hown3 hgrow
                  go_wp2
                  go_roundw
                  case rel => exact ⟨L ++ [(⟨2, piece s.data.toList k j, gb⟩ : Tk)], false, j, by omega, rfl, rfl, by rw [List.length_append, List.length_singleton]; omega, HO4.out, HB4.out, HCL⟩
                  case measure => simp [intOf]; omega
          · have hd0 : digB (s[k].toNat : Int) = false := by
              cases hd : digB (s[k].toNat : Int) with
              | true => exact absurd (Or.inl hd) hnum
              | false => rfl
            have h45 : ¬ (s[k].toNat : Int) = 45 := fun h => hnum (Or.inr h)
            have b45 : ((s[k].toNat : Int) == 45) = false := by simpa using h45
            have HD1 := Lib.hid (fun W => HD.out s[k] W false hd0)
            by_cases hsg : (s[k].toNat : Int) = 44 ∨ (s[k].toNat : Int) = 58 ∨ (s[k].toNat : Int) = 40 ∨ (s[k].toNat : Int) = 41 ∨ (s[k].toNat : Int) = 46
            · have HA := Lib.hid (tkat_sign hat.out hlt (cls_3 hsg))
              have HO := Lib.hid hown
              have HB := Lib.hid hbw
              have hsl := slice_mid s k (k + 1) (by omega) (by omega)
              have hk1 : (((k + 1 : Nat)) : Int) = (k : Int) + 1 := by omega
              rw [hk1] at hsl
              have hsg2 := Lib.hid (split6 _ hsg)
              clear hown hbw hat h32 hnum h45 hsg hk1
              rcases hsg2.out with z1 | ⟨z1, z2⟩ | ⟨z1, z2, z3⟩ | ⟨z1, z2, z3, z4⟩ | ⟨z1, z2, z3, z4, z5⟩
              all_goals
                clear hsg2
                go_wp2_with (first
                  | (go_at_call 48; (with_reducible refine (HL1.out _).mono ?_); rintro e w1 ⟨rfl, rfl⟩)
                  | (go_at_call 49; (with_reducible refine (HD1.out _).mono ?_); rintro e w2 ⟨rfl, rfl⟩)
                  | (at_builtin; refine wpList_append_own _ rfl _ _ 86 rfl w.heap.size 90 i0 _ 3 32 Tryd.underlying86 hi hz0 hz1 hz2 rfl (by decide) _ _ _ rfl (HO.out.alloc _) ⟨_, 0, none⟩ 1 1 (tkV ⟨3, piece s.data.toList k (k + 1), gb⟩) rfl rfl (new_cellsA _ _ _) (one_tok _) (by unfold maxLen; omega) (by omega) (by have := HB.out.size; simp; omega) ?_))
                intro v' w1 hown3 hgrow _
                have HO4 := Lib.hid (show w1.ownsRow w.heap.size 90 3 v' (L ++ [(⟨3, piece s.data.toList k (k + 1), gb⟩ : Tk)]).length (flatT (L ++ [(⟨3, piece s.data.toList k (k + 1), gb⟩ : Tk)])) by rw [flatT_snoc]; simpa using hown3)
                have HB4 := Lib.hid (show Below w.heap.size w w1 from (HB.out.alloc HB.out.size _).grown hgrow (by have := HB.out.size; simp; omega) (fun k hk => (HO.out.lt k hk).1))
                clear hown3 hgrow
                go_wp2
                go_roundw
                case rel => exact ⟨L ++ [(⟨3, piece s.data.toList k (k + 1), gb⟩ : Tk)], false, k + 1, by omega, by go_num, rfl, by rw [List.length_append, List.length_singleton]; omega, HO4.out, HB4.out, HA⟩
                case measure => simp [intOf]; omega
            · have e44 : ¬ (s[k].toNat : Int) = 44 := fun h => hsg (Or.inl h)
              have e58 : ¬ (s[k].toNat : Int) = 58 := fun h => hsg (Or.inr (Or.inl h))
              have e40 : ¬ (s[k].toNat : Int) = 40 := fun h => hsg (Or.inr (Or.inr (Or.inl h)))
              have e41 : ¬ (s[k].toNat : Int) = 41 := fun h => hsg (Or.inr (Or.inr (Or.inr (Or.inl h))))
              have e46 : ¬ (s[k].toNat : Int) = 46 := fun h => hsg (Or.inr (Or.inr (Or.inr (Or.inr h))))
              have HBAD := Lib.hid (tkat_bad hat.out hlt (cls_4 h32 hl hd0 h45 e44 e58 e40 e41 e46))
              have f44 : ((s[k].toNat : Int) == 44) = false := by simpa using e44
              have f58 : ((s[k].toNat : Int) == 58) = false := by simpa using e58
              have f40 : ((s[k].toNat : Int) == 40) = false := by simpa using e40
              have f41 : ((s[k].toNat : Int) == 41) = false := by simpa using e41
              have f46 : ((s[k].toNat : Int) == 46) = false := by simpa using e46
              have HB := Lib.hid hbw
              clear hown hbw hat h32 hnum h45 hsg e44 e58 e40 e41 e46
              go_wp2_with (first
                | (go_at_call 48; (with_reducible refine (HL1.out _).mono ?_); rintro e w1 ⟨rfl, rfl⟩)
                | (go_at_call 49; (with_reducible refine (HD1.out _).mono ?_); rintro e w2 ⟨rfl, rfl⟩))
              go_ret2
              have hRn : R = none := by rw [← hR.out]; exact HBAD.out
              subst hRn
              exact ⟨rfl, HB.out⟩
    · obtain rfl : k = s.size := by omega
      have HE := Lib.hid (tkat_end hat.out)
      have HO := Lib.hid hown
      have HB := Lib.hid hbw
      clear hown hbw hat
      go_wp2
      go_ret2
      have hRs : R = some L := by rw [← hR.out]; exact HE.out
      subst hRs
      exact ⟨⟨_, rfl, HO.out⟩, HB.out⟩
end Go.Proofs.YthghbcjaokpilaaDoor
