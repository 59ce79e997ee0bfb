import Derived.Test.YtamjfbcjenocpaaGreatDoorAsmGd
import Derived.Test.YtamjfbcjenocpaaGreatDoorAsmFn19
import Derived.Test.YtamjfbcjenocpaaGreatDoorAsmGe
import Derived.Test.YtamjfbcjenocpaaGreatDoorIsaFn6
namespace Go.Proofs.YtamjfbcjenocpaaGreatDoor
set_option linter.unusedVariables false
set_option linter.unusedSimpArgs false
open Go.ChangeShapes Go.WideShapes Go.ChangeAt Go.RowKit Go.Proofs.YtamjfbcjenocpaaGreatDoor.Num Go.Proofs.YtamjfbcjenocpaaGreatDoor.Isa Go.Proofs.YtamjfbcjenocpaaGreatDoor.Mem Go.Proofs.YtamjfbcjenocpaaGreatDoor.Asm
theorem lineGo_cut (r : Bs) : ∀ (a p : Bs), lineGo p (a ++ 10 :: r) = lineGo p a ++ lineGo [] r
  | [], p => by simp [lineGo]
  | c :: a, p => by
    simp only [List.cons_append, lineGo]
    split
    · rw [lineGo_cut r a []]; rfl
    · rw [lineGo_cut r a _]
theorem readL_app (Y : List Bs) : ∀ (X : List Bs) (i : Nat) (syms : List (Bs × Nat)) (ds : List Draft), readL (X ++ Y) i syms ds = (match readL X i syms ds with | .inl e => .inl e | .inr r => readL Y (i + X.length) r.1 r.2)
  | [], i, syms, ds => by simp [readL]
  | l :: X, i, syms, ds => by
    rw [List.cons_append]
    cases hl : lineR l with
    | none => rw [read_none hl, read_none hl]
    | some x =>
      obtain ⟨lab, dd⟩ := x
      by_cases ht : lab ≠ [] ∧ (lookS syms lab).isSome = true
      · rw [read_twice hl ht, read_twice hl ht]
      · by_cases hb : 1024 < (ds ++ numbered ((i : Int) + 1) dd).length
        · rw [read_large hl ht hb, read_large hl ht hb]
        · rw [read_next hl ht hb, read_next hl ht hb, readL_app Y X (i + 1), List.length_cons, show i + 1 + X.length = i + (X.length + 1) by omega]
theorem codeL_app (syms : List (Bs × Nat)) (es : List Draft) : ∀ (ds : List Draft) (acc : List Int), codeL syms (ds ++ es) acc = (match codeL syms ds acc with | .inl e => .inl e | .inr ws => codeL syms es ws)
  | [], acc => by simp [codeL]
  | d :: ds, acc => by
    rw [List.cons_append]
    by_cases hr : (finL syms d (4 * (acc.length : Int))).2 = 0
    · rw [code_ok hr, code_ok hr, codeL_app syms es ds]
    · rw [code_bad hr, code_bad hr]
theorem read_last {i : Nat} {syms : List (Bs × Nat)} {ds : List Draft} {r : List (Bs × Nat) × List Draft} (h : readL [[]] i syms ds = .inr r) : r = (syms, ds) := by
  have hl : lineR [] = some ([], []) := rfl
  have ht : ¬ (([] : Bs) ≠ [] ∧ (lookS syms []).isSome = true) := fun h => h.1 rfl
  by_cases hb : 1024 < (ds ++ numbered ((i : Int) + 1) []).length
  · rw [read_large hl ht hb] at h; cases h
  · rw [read_next hl ht hb] at h
    simp only [readL] at h
    injection h with h
    rw [← h]
    have e1 : addSyms syms ds [] = syms := by unfold addSyms; rw [if_pos rfl]
    have e2 : ds ++ numbered ((i : Int) + 1) [] = ds := by simp [numbered]
    rw [e1, e2]
/-- Disassembled words behind a source that assembles. -/
theorem join_any {a : Bs} {ws0 ws : List Int} {syms : List (Bs × Nat)} (hsrc : a = [] ∨ ∃ a', a = a' ++ [10]) (h : transL a = .inr (ws0, syms)) (hu : U32s ws) (hn : ws0.length + ws.length ≤ 1024) (hs : (a ++ disL ws).length ≤ 8192) : transL (a ++ disL ws) = .inr (ws0 ++ ws, syms) := by
  rcases hsrc with rfl | ⟨a', rfl⟩
  · have h0 : transL [] = .inr ([], []) := by decide +kernel
    rw [h0] at h
    injection h with h
    injection h with h1 h2
    subst h1; subst h2
    simp only [List.nil_append, List.length_nil] at hn hs ⊢
    exact trans_dis hu (by omega) hs
  · have e1 : linesL (a' ++ [10] ++ disL ws) = linesL a' ++ linesL (disL ws) := by
      unfold linesL
      rw [List.append_assoc, List.singleton_append, lineGo_cut]
    have e2 : linesL (a' ++ [10]) = linesL a' ++ [[]] := by
      unfold linesL
      rw [lineGo_cut]; rfl
    unfold transL at h ⊢
    rw [if_neg (by simp at hs ⊢; omega)] at h
    rw [if_neg (by omega), e1, readL_app]
    rw [e2, readL_app] at h
    cases hr : readL (linesL a') 0 [] [] with
    | inl e => rw [hr] at h; cases h
    | inr r =>
      rw [hr] at h
      dsimp only at h ⊢
      cases hr2 : readL [[]] (0 + (linesL a').length) r.1 r.2 with
      | inl e => rw [hr2] at h; cases h
      | inr r2 =>
        rw [hr2] at h
        have e3 := read_last hr2
        subst e3
        dsimp only at h
        cases hc : codeL r.1 r.2 [] with
        | inl e => rw [hc] at h; cases h
        | inr w2 =>
          rw [hc] at h
          simp only [transR] at h
          injection h with h
          injection h with h1 h2
          subst h1; subst h2
          have hl := code_len _ _ _ _ hc
          simp at hl
          obtain ⟨ns, k1, k2⟩ := read_of (lines_of_dis ws) hu (0 + (linesL a').length) r.1 r.2 (by omega)
          rw [k1]
          dsimp only
          rw [codeL_app, hc]
          dsimp only
          rw [code_of r.1 ns w2 (by rw [k2]; exact hu), k2]
          rfl
/-- No line of the sources has more than three words. -/
theorem pcs_words : ∀ p ∈ PCS, (match lineR p with | none => true | some x => decide (x.2.length ≤ 3)) = true := by decide +kernel
theorem pcs_lines : ∀ p ∈ PCS, p.all (· != 10) = true := by decide +kernel
theorem pcs_mem (k : Nat) : PCS.getD k [] ∈ PCS := by
  by_cases h : k < PCS.length
  · have e : PCS.getD k [] = PCS[k] := by simp [List.getD, h]
    rw [e]; exact List.getElem_mem h
  · have e : PCS.getD k [] = [] := by simp [List.getD, List.getElem?_eq_none (Nat.le_of_not_lt h)]
    rw [e]; decide +kernel
theorem src_lines : ∀ zs : List Int, ∀ l ∈ linesL (srcOfL zs), l ∈ PCS
  | [], l, h => by
    have e : linesL (srcOfL []) = [[]] := rfl
    rw [e] at h
    simp at h; subst h; decide +kernel
  | z :: zs, l, h => by
    have hp := List.all_eq_true.1 (pcs_lines _ (pcs_mem (z % 36).toNat))
    have e : srcOfL (z :: zs) = PCS.getD (z % 36).toNat [] ++ 10 :: srcOfL zs := by simp [srcOfL]
    unfold linesL at h
    rw [e, lineGo_skip _ _ _ (fun c hc => by simpa using hp c hc)] at h
    simp only [List.nil_append, lineGo, if_true] at h
    rcases List.mem_cons.1 h with rfl | h
    · exact pcs_mem _
    · exact src_lines zs l h
theorem src_end : ∀ zs : List Int, srcOfL zs = [] ∨ ∃ a, srcOfL zs = a ++ [10]
  | [] => Or.inl rfl
  | z :: zs => by
    have e : srcOfL (z :: zs) = PCS.getD (z % 36).toNat [] ++ 10 :: srcOfL zs := by simp [srcOfL]
    rcases src_end zs with h | ⟨a, h⟩
    · exact Or.inr ⟨PCS.getD (z % 36).toNat [], by rw [e, h]⟩
    · exact Or.inr ⟨PCS.getD (z % 36).toNat [] ++ 10 :: a, by rw [e, h]; simp⟩
theorem read_three : ∀ (ls : List Bs) (i : Nat) (syms : List (Bs × Nat)) (ds : List Draft) (r : List (Bs × Nat) × List Draft), readL ls i syms ds = .inr r → (∀ l ∈ ls, ∀ x, lineR l = some x → x.2.length ≤ 3) → r.2.length ≤ ds.length + 3 * ls.length
  | [], i, syms, ds, r, h, _ => by simp [readL] at h; subst h; simp
  | l :: ls, i, syms, ds, r, h, hk => by
    cases hl : lineR l with
    | none => rw [read_none hl] at h; cases h
    | some x =>
      have hx := hk l (by simp) x hl
      obtain ⟨lab, dd⟩ := x
      by_cases ht : lab ≠ [] ∧ (lookS syms lab).isSome = true
      · rw [read_twice hl ht] at h; cases h
      · by_cases hb : 1024 < (ds ++ numbered ((i : Int) + 1) dd).length
        · rw [read_large hl ht hb] at h; cases h
        · rw [read_next hl ht hb] at h
          have := read_three ls _ _ _ r h (fun q hq => hk q (by simp [hq]))
          simp [numbered] at this hx ⊢
          omega
theorem src_cnt : ∀ zs : List Int, (linesL (srcOfL zs)).length = zs.length + 1
  | [] => rfl
  | z :: zs => by
    have hp := List.all_eq_true.1 (pcs_lines _ (pcs_mem (z % 36).toNat))
    have e : srcOfL (z :: zs) = PCS.getD (z % 36).toNat [] ++ 10 :: srcOfL zs := by simp [srcOfL]
    have ih := src_cnt zs
    unfold linesL at ih ⊢
    rw [e, lineGo_skip _ _ _ (fun c hc => by simpa using hp c hc)]
    simp only [List.nil_append, lineGo, if_true, List.length_cons, ih]
theorem src_words {zs : List Int} {ws : List Int} {syms : List (Bs × Nat)} (h : transL (srcOfL zs) = .inr (ws, syms)) : ws.length ≤ 3 * (zs.length + 1) := by
  unfold transL at h
  split at h
  · cases h
  · cases hr : readL (linesL (srcOfL zs)) 0 [] [] with
    | inl e => rw [hr] at h; cases h
    | inr r =>
      rw [hr] at h
      dsimp only at h
      cases hc : codeL r.1 r.2 [] with
      | inl e => rw [hc] at h; cases h
      | inr w2 =>
        rw [hc] at h
        simp only [transR] at h
        injection h with h
        injection h with h1 h2
        subst h1
        have hl := code_len _ _ _ _ hc
        have h3 := read_three _ _ _ _ _ hr (fun l hl x hx => by
          have := pcs_words l (src_lines zs l hl)
          rw [hx] at this
          simpa using this)
        rw [src_cnt] at h3
        simp at hl h3
        omega
/-- A word's line has at most 40 bytes. -/
theorem mn_short : ∀ k : Fin 65, (mn k.val).length ≤ 5 := by decide +kernel
theorem itoa_short (m : Int) (h0 : -2147483648 ≤ m) (h1 : m ≤ 4294967295) : (Lib.itoa m).length ≤ 11 := by
  have e : (10 : Nat) ^ (9 + 1) = 10000000000 := by decide
  unfold Lib.itoa
  split
  · have := dec_len 9 m.natAbs (by omega)
    simp; omega
  · have := dec_len 9 m.toNat (by omega)
    omega
theorem word_short (w : Int) (h0 : 0 ≤ w) (h1 : w ≤ 4294967295) : (wordL w).length ≤ 48 := by
  unfold wordL
  split
  · rename_i h
    have hb := ok_bound h
    have hk : (mn (dOp w).toNat).length ≤ 5 := mn_short ⟨(dOp w).toNat, by omega⟩
    have ha := itoa_short (dA w) (by have := h.2.1; omega) (by have := h.2.2.1; omega)
    have hbb := itoa_short (dB w) (by have := h.2.2.2.1; omega) (by have := h.2.2.2.2.1; omega)
    have hc := itoa_short (dC w) (by have := h.2.2.2.2.2.1; omega) (by have := h.2.2.2.2.2.2.1; omega)
    have hm := itoa_short (dM w) (by omega) (by omega)
    rw [List.length_append]
    have ht : (tailL (dOp w) (dA w) (dB w) (dC w) (dM w)).length ≤ 43 := by
      unfold tailL
      repeat' split
      all_goals simp only [List.length_cons, List.length_append, List.length_nil]
      all_goals omega
    omega
  · have := hexPad_len w.toNat (by omega)
    simp [wT, hexT]; omega
theorem dis_len : ∀ ws : List Int, U32s ws → (disL ws).length ≤ 49 * ws.length
  | [], _ => by simp [disL]
  | w :: ws, h => by
    have h1 := h w (by simp)
    have h2 := word_short w h1.1 h1.2
    have h3 := dis_len ws (fun x hx => h x (by simp [hx]))
    rw [disL_cons]
    simp only [List.length_append, List.length_cons]
    omega
theorem join_src {zs ws0 ws : List Int} {syms : List (Bs × Nat)} (h : transL (srcOfL zs) = .inr (ws0, syms)) (hu : U32s ws) (hz : zs.length ≤ 30) (hn : ws.length ≤ 60) : transL (srcOfL zs ++ disL ws) = .inr (ws0 ++ ws, syms) := by
  have h1 := src_words h
  have h2 := srcOfL_len zs
  have h3 := dis_len ws hu
  exact join_any (src_end zs) h hu (by omega) (by rw [List.length_append]; omega)
end Go.Proofs.YtamjfbcjenocpaaGreatDoor

namespace Go.Proofs.YtamjfbcjenocpaaGreatDoor
set_option linter.unusedVariables false
set_option linter.unusedSimpArgs false
open Go.ChangeShapes Go.WideShapes Go.ChangeAt Go.RowKit Go.Proofs.YtamjfbcjenocpaaGreatDoor.Num Go.Proofs.YtamjfbcjenocpaaGreatDoor.Isa Go.Proofs.YtamjfbcjenocpaaGreatDoor.Mem Go.Proofs.YtamjfbcjenocpaaGreatDoor.Asm
/-- The tables that are read. -/
def Tab2 (w : World) : Prop := Tabs w ∧ Brj w
theorem Tab2.on {w w' : World} (h : Tab2 w) (hb : Below w.heap.size w w') : Tab2 w' := ⟨h.1.on hb, h.2.on hb⟩
theorem bldAt_on {T e : TypeId} {B b : Nat} {p : Value} {bs : List Value} {w w' : World} (h : Lib.BuilderAt T e B b p bs w) (hb : Below w.heap.size w w') : Lib.BuilderAt T e B b p bs w' := by
  obtain ⟨hB, v, h1, h2, h3⟩ := h
  exact ⟨hB, v, heap_below h1 hb, own_below h2 hb, h3⟩
theorem bld_on {B b : Nat} {l : Bs} {w w' : World} (h : Bld B b l w) (hb : Below w.heap.size w w') : Bld B b l w' := by
  rcases h with h | h
  · exact Or.inl (bldAt_on h hb)
  · exact Or.inr (bldAt_on h hb)
theorem word_str (x : Int) (h : dOk x) : fmtS (zOp x) (zA x) (zB x) (zC x) (zM x) = S (wordL x) := by
  apply ba_ext
  have e : wordL x = mn (dOp x).toNat ++ tailL (dOp x) (dA x) (dB x) (dC x) (dM x) := by unfold wordL; rw [if_pos h]
  have z1 : zOp x = dOp x := by unfold zOp; rw [if_pos h]
  have z2 : zA x = dA x := by unfold zA; rw [if_pos h]
  have z3 : zB x = dB x := by unfold zB; rw [if_pos h]
  have z4 : zC x = dC x := by unfold zC; rw [if_pos h]
  have z5 : zM x = dM x := by unfold zM; rw [if_pos h]
  rw [z1, z2, z3, z4, z5, S_list, e]
  exact fmt_list h
theorem word_hex (n : Nat) (h : ¬ dOk (n : Int)) : ({ data := #[46, 119, 111, 114, 100, 32, 48, 120] } : ByteArray) ++ S (hexPad n) = S (wordL n) := by
  apply ba_ext
  have e : wordL n = wT ++ 32 :: hexT n := by unfold wordL; rw [if_neg h, Int.toNat_natCast]
  rw [S_list, e]
  simp [ByteArray.data_append, S, wT, hexT]
theorem dis_snoc (ws : List Int) (k x : Nat) (hk : k < ws.length) (hx : ws.getD k 0 = x) : disL (ws.take (k + 1)) = disL (ws.take k) ++ wordL x ++ [10] := by
  have : ws[k] = (x : Int) := by rw [← hx]; simp [List.getD, hk]
  unfold disL
  rw [List.take_succ_eq_append_getElem hk, this, List.map_append, List.flatten_append]
  simp
/-- The builder's contracts, in bytes. -/
theorem bld_s (B b : Nat) (l t : Bs) (w : World) (h : Bld B b l w) (hlen : l.length + t.length ≤ 100000) (hBw : B ≤ w.heap.size) :
    Calls Tryz.prog 13 #[.pointer (some ⟨b, 0, none⟩), .string (S t)] w fun e w' => (∃ v, e = .returned (.tuple #[v, .nilIface])) ∧ Bld B b (l ++ t) w' ∧ Below B w w' := by
  refine (bld_string B b _ (S t) w h (by rw [Lib.byteCells_length, S_size]; omega) hBw).mono ?_
  rintro e w' ⟨rfl, h1, h2⟩
  refine ⟨⟨_, rfl⟩, Or.inr ?_, h2⟩
  have : Lib.byteCells (l ++ t) = Lib.byteCells l ++ Lib.strCells (S t) := by simp [Lib.byteCells, Lib.strCells, S]
  rw [this]; exact h1
theorem bld_b (B b : Nat) (l : Bs) (c : UInt8) (v : Int) (hv : v = (c.toNat : Int)) (w : World) (h : Bld B b l w) (hlen : l.length ≤ 100000) (hBw : B ≤ w.heap.size) :
    Calls Tryz.prog 16 #[.pointer (some ⟨b, 0, none⟩), .int .u8 v] w fun e w' => e = .returned .nilIface ∧ Bld B b (l ++ [c]) w' ∧ Below B w w' := by
  subst hv
  refine (bld_byte B b _ _ w h (by rw [Lib.byteCells_length]; omega) hBw).mono ?_
  rintro e w' ⟨rfl, h1, h2⟩
  refine ⟨rfl, Or.inr ?_, h2⟩
  have : Lib.byteCells (l ++ [c]) = Lib.byteCells l ++ [.int .u8 (c.toNat : Int)] := by simp [Lib.byteCells]
  rw [this]; exact h1
set_option maxHeartbeats 4000000 in
set_option maxRecDepth 100000 in
theorem dis_asm (a : Option Addr) (n cap : Nat) (ws : List Int) (w : World) (hn : ws.length = n) (h100 : n ≤ 100) (hR : Row .u32 w a ws) (hu : U32s ws) (hT : Tab2 w) :
    Calls Tryz.prog 6 #[.slice a n cap] w fun e w' => e = .returned (.string (S (disL ws))) ∧ Below w.heap.size w w' := by
  have HT := Lib.hid hT
  have HR := Lib.hid hR
  have HU := Lib.hid hu
  have HBS := Lib.hid bld_s
  have HBB := Lib.hid bld_b
  clear hT hR hu
  go_enter Tryz.func6, Tryz.ntmps6
  go_wp2
  have HB0 : Hid (Bld w.heap.size w.heap.size [] (w.alloc (.cells #[.pointer none, .slice none 0 0] 43)) ∧ Below w.heap.size w (w.alloc (.cells #[.pointer none, .slice none 0 0] 43))) := Lib.hid ⟨Lib.fresh_isBuilder _ _ w, (Below.refl _ _).alloc (Nat.le_refl _) _⟩
  generalize w.alloc (.cells #[.pointer none, .slice none 0 0] 43) = w0 at *
  go_loopw [10] (fun i wr => ∃ k : Nat, k ≤ n ∧ i = .int .i64 k ∧ Bld w.heap.size w.heap.size (disL (ws.take k)) wr ∧ Below w.heap.size w wr) (fun i _ => n - (intOf i).toNat)
  case atStart => exact ⟨0, Nat.zero_le _, rfl, HB0.out.1, HB0.out.2⟩
  case round =>
    obtain ⟨k, hk, rfl, hbld, hbw⟩ := hrel
    by_cases hlt : k < n
    · obtain ⟨b, off, ha, hc⟩ := HR.out.on hbw k (by omega)
      have hx := HU.out (ws.getD k 0) (by
        have h2 : k < ws.length := by omega
        have e : ws.getD k 0 = ws[k] := by simp [List.getD, h2]
        rw [e]; exact List.getElem_mem h2)
      obtain ⟨x, hxe⟩ : ∃ x : Nat, ws.getD k 0 = x := ⟨(ws.getD k 0).toNat, by omega⟩
      rw [hxe] at hc hx
      have HSN := Lib.hid (dis_snoc ws k x (by omega) hxe)
      have hl1 := dis_len (ws.take k) (fun y hy => HU.out y (List.mem_of_mem_take hy))
      have hl2 := word_short x hx.1 hx.2
      have hl3 : (disL (ws.take k)).length ≤ 4900 := by rw [List.length_take] at hl1; omega
      have hx1 : x ≤ 4294967295 := by omega
      have HBW := Lib.hid hbw
      have HBL := Lib.hid hbld
      have hTr := Lib.hid (HT.out.on hbw)
      have hTb := Lib.hid hTr.out.1
      have hBr := Lib.hid hTr.out.2
      clear hbw hbld hxe hl1 hx
      subst ha
      generalize disL (ws.take k) = L at *
      have bb : Below wr.heap.size wr wr := Below.refl _ _
      by_cases hd : dOk (x : Int)
      · have HD := Lib.hid (fun W => decode_any (x : Int) W (by omega) (by omega))
        rw [decide_eq_true hd] at HD
        have HW := word_str x hd
        have hm : -2147483648 ≤ zM x ∧ zM x ≤ 2147483647 := by
          have e : zM x = dM x := by unfold zM; rw [if_pos hd]
          have := ok_bound hd
          omega
        have HF := Lib.hid (fun W h => format_any (zOp x) (zA x) (zB x) (zC x) (zM x) W h hm.1 hm.2)
        rw [HW] at HF
        generalize wordL x = t at *
        generalize zOp x = y1 at *
        generalize zA x = y2 at *
        generalize zB x = y3 at *
        generalize zC x = y4 at *
        generalize zM x = y5 at *
        clear hd HW
        go_wp2_with (first
          | (go_at_call 12; (with_reducible refine (HD.out _).mono ?_); rintro e w1 ⟨rfl, hb1⟩; replace bb := below_step bb hb1)
          | (go_at_call 14; (with_reducible refine (HF.out _ ((hTb.out.on bb).on ((Below.refl _ _).alloc (Nat.le_refl _) _))).mono ?_); rintro e w2 ⟨rfl, hb2⟩; replace bb := below_step (bb.alloc bb.size _) hb2)
          | (go_at_call 13; (with_reducible refine (HBS.out _ _ L t _ (bld_on HBL.out bb) (by omega) (Nat.le_trans HBW.out.size bb.size)).mono ?_); rintro e w3 ⟨⟨v3, rfl⟩, hb3, hc3⟩)
          | (go_at_call 16; (with_reducible refine (HBB.out _ _ (L ++ t) 10 10 rfl _ hb3 (by simp; omega) (Nat.le_trans (Nat.le_trans HBW.out.size bb.size) hc3.size)).mono ?_); rintro e w4 ⟨rfl, hb4, hc4⟩))
        go_roundw
        case rel => exact ⟨k + 1, by omega, by go_num, by rw [HSN.out]; exact hb4, ((below_step HBW.out bb).trans hc3).trans hc4⟩
        case measure => simp [intOf]; omega
      · have HD := Lib.hid (fun W => decode_any (x : Int) W (by omega) (by omega))
        rw [decide_eq_false hd] at HD
        have HW := word_hex x hd
        have HH := Lib.hid (fun W h => hex_asm x W hx1 h)
        have z8 : (S (hexPad x)).size = 8 := by rw [S_size, hexPad_len x (by omega)]
        generalize wordL x = t at *
        generalize S (hexPad x) = hs at *
        clear hd
        go_wp2_with (first
          | (go_at_call 12; (with_reducible refine (HD.out _).mono ?_); rintro e w1 ⟨rfl, hb1⟩; replace bb := below_step bb hb1)
          | (go_at_call 15; (with_reducible refine (HH.out _ ((hBr.out.on bb).on ((Below.refl _ _).alloc (Nat.le_refl _) _))).mono ?_); rintro e w2 ⟨rfl, hb2⟩; replace bb := below_step (bb.alloc bb.size _) hb2)
          | (go_at_call 13; (with_reducible refine (HBS.out _ _ L t _ (bld_on HBL.out bb) (by omega) (Nat.le_trans HBW.out.size bb.size)).mono ?_); rintro e w3 ⟨⟨v3, rfl⟩, hb3, hc3⟩)
          | (go_at_call 16; (with_reducible refine (HBB.out _ _ (L ++ t) 10 10 rfl _ hb3 (by simp; omega) (Nat.le_trans (Nat.le_trans HBW.out.size bb.size) hc3.size)).mono ?_); rintro e w4 ⟨rfl, hb4, hc4⟩))
        go_roundw
        case rel => exact ⟨k + 1, by omega, by go_num, by rw [HSN.out]; exact hb4, ((below_step HBW.out bb).trans hc3).trans hc4⟩
        case measure => simp [intOf]; omega
    · obtain rfl : n = k := by omega
      have hz : ws.take n = ws := List.take_of_length_le (by omega)
      rw [hz] at hbld
      have HSTR := Lib.hid (fun l W (h : Bld w.heap.size w.heap.size l W) hBw => show Calls Tryz.prog 17 #[.pointer (some ⟨w.heap.size, 0, none⟩)] W fun e w' => e = .returned (.string (S l)) ∧ Below w.heap.size W w' from Tryz.Builder_String_any w.heap.size w.heap.size l W h hBw)
      have HBW := Lib.hid hbw
      have HBL := Lib.hid hbld
      clear hbw hbld hz
      go_wp2_with (go_at_call 17; (with_reducible refine (HSTR.out _ _ HBL.out HBW.out.size).mono ?_); rintro e w5 ⟨rfl, hb5⟩)
      go_ret
      exact ⟨rfl, HBW.out.trans hb5⟩
end Go.Proofs.YtamjfbcjenocpaaGreatDoor
