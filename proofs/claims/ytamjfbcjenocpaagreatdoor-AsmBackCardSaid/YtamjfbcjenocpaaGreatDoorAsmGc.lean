import Derived.Test.YtamjfbcjenocpaaGreatDoorAsmFn
import Derived.Shelf.Strings.Builder1
import Derived.Lib.Builder
import Derived.Below
import Derived.Test.YtamjfbcjenocpaaGreatDoorMem
import Derived.Test.YtamjfbcjenocpaaGreatDoorShelf3
import Derived.Test.YtamjfbcjenocpaaGreatDoorAsmNum2
import Derived.Lib.LaidTab
import Derived.StillTailTactics
namespace Go.Proofs.YtamjfbcjenocpaaGreatDoor
set_option linter.unusedVariables false
set_option linter.unusedSimpArgs false
open Go.ChangeShapes Go.WideShapes Go.ChangeAt Go.RowKit Go.Proofs.YtamjfbcjenocpaaGreatDoor.Num Go.Proofs.YtamjfbcjenocpaaGreatDoor.Mem Go.Proofs.YtamjfbcjenocpaaGreatDoor.Asm
theorem sizeBld : (Tryz.prog.info? 43).map (·.size) = some 2 := by kernel_rfl
theorem liesBld : liesAt Tryz.prog Tryz.prog.depth 43 (2 / Tryz.prog.cellsOf 43) 0 43 1 = true := by kernel_rfl
theorem infoByt : (Tryz.prog.info? 5).map (fun i => (i.zero, i.size, i.bytes)) = some (some (.int .u8 0), 1, 1) := by kernel_rfl
set_option maxHeartbeats 1000000 in
set_option maxRecDepth 100000 in
theorem bcheck_used (b : Nat) (w : World) (h0 : w.cell? ⟨b, 0, none⟩ = some (.pointer (some ⟨b, 0, none⟩))) :
    Calls Tryz.prog 29 #[.pointer (some ⟨b, 0, none⟩)] w fun e w' => e = .returned (.tuple #[]) ∧ w' = w := by
  obtain ⟨j, hj, _⟩ := Option.map_eq_some_iff.1 sizeBld
  go_enter Tryz.func29, Tryz.ntmps29
  go_wp2
  rw [Lib.run_neq_ptr_same w _ Tryz.underlying40 hj]
  go_wp2
  go_end0
  exact ⟨rfl, rfl⟩
set_option maxHeartbeats 1000000 in
set_option maxRecDepth 100000 in
theorem bcheck_fresh (b : Nat) (w : World) (h0 : w.cell? ⟨b, 0, none⟩ = some (.pointer none)) (hsh : w.shape? b = some (43, 2)) (hfz : w.frozen? ⟨b, 0, none⟩ = false) :
    Calls Tryz.prog 29 #[.pointer (some ⟨b, 0, none⟩)] w fun e w' => e = .returned (.tuple #[]) ∧ w' = w.setCell ⟨b, 0, none⟩ (.pointer (some ⟨b, 0, none⟩)) := by
  obtain ⟨j, hj, hjs⟩ := Option.map_eq_some_iff.1 sizeBld
  go_enter Tryz.func29, Tryz.ntmps29
  go_wp2
  rw [Lib.run_to_unsafe w ⟨b, 0, none⟩ Tryz.underlying40 Tryz.underlying92 hj (by rw [hjs]; decide) hsh (Nat.zero_lt_succ 1)]
  simp only [Result.andThen]
  rw [Oper.upon_value]
  go_wp2
  rw [run_callFunc_extern Tryz.func49 (by kernel_rfl) (by kernel_rfl) (by kernel_rfl) (e := Extern.AbiNoEscape.same) (by kernel_rfl)]
  rw [Lib.run_noEscape]
  simp only [Result.andThen]
  rw [Oper.upon_value]
  go_wp2
  rw [Lib.run_from_unsafe w ⟨b, 0, none⟩ Tryz.underlying92 Tryz.underlying40 hj hsh liesBld]
  simp only [Result.andThen]
  rw [Oper.upon_value]
  go_wp2
  go_end0
  exact ⟨rfl, rfl⟩
/-- The builder in block b, one of the call's own from B on, holds the bytes l. -/
def Bld (B b : Nat) (l : Bs) (w : World) : Prop := Lib.IsBuilder 43 5 B b (Lib.byteCells l) w
theorem bcheck_any (B b : Nat) (bs : List Value) (w : World) (h : Lib.IsBuilder 43 5 B b bs w) :
    Calls Tryz.prog 29 #[.pointer (some ⟨b, 0, none⟩)] w fun e w' => e = .returned (.tuple #[]) ∧ (Lib.BuilderAt 43 5 B b (.pointer (some ⟨b, 0, none⟩)) bs w' ∧ Below B w w') := by
  rcases h with h | h
  · refine (bcheck_fresh b w h.cell0 h.shape h.frozen0).mono ?_
    rintro e w' ⟨rfl, rfl⟩
    exact ⟨rfl, h.used _, (Below.refl B w).setCell (p := ⟨b, 0, none⟩) h.1 _⟩
  · refine (bcheck_used b w h.cell0).mono ?_
    rintro e w' ⟨rfl, rfl⟩
    exact ⟨rfl, h, Below.refl B _⟩
set_option maxHeartbeats 2000000 in
set_option maxRecDepth 100000 in
theorem bld_byte (B b : Nat) (bs : List Value) (c : Int) (w : World) (h : Lib.IsBuilder 43 5 B b bs w) (hlen : bs.length + 1 ≤ 140737488355328) (hBw : B ≤ w.heap.size) :
    Calls Tryz.prog 16 #[.pointer (some ⟨b, 0, none⟩), .int .u8 c] w fun e w' => e = .returned .nilIface ∧ (Lib.BuilderAt 43 5 B b (.pointer (some ⟨b, 0, none⟩)) (bs ++ [.int .u8 c]) w' ∧ Below B w w') := by
  obtain ⟨i0, hi, hz0, hz1, hz2⟩ := info_parts infoByt
  go_enter Tryz.func16, Tryz.ntmps16
  go_wp2_with (go_at_call 29; refine (bcheck_any B b bs _ h).mono ?_)
  rintro e w1 ⟨rfl, h1, hb1⟩
  obtain ⟨hB, v, hbk, hown, hne⟩ := h1
  have c0 : w1.cell? ⟨b, 0, none⟩ = some (.pointer (some ⟨b, 0, none⟩)) := by rw [Lib.cell_of_heap hbk]; rfl
  have c1 : w1.cell? ⟨b, 1, none⟩ = some v := by rw [Lib.cell_of_heap hbk]; rfl
  go_wp2_with (at_builtin; refine wpList_append_own _ rfl _ _ 41 rfl B 5 i0 (.int .u8 0) 1 1 Tryz.underlying41 hi hz0 hz1 hz2 rfl (by decide) _ _ _ rfl (hown.alloc _) ⟨w1.heap.size, 0, none⟩ 1 1 [.int .u8 c] rfl rfl ?c1 ?c2 ?c3 ?c4 ?c5 ?_)
  case c1 =>
    intro j u hj
    match j, hj with
    | 0, hj => simp at hj; subst hj; simp [Addr.add]
  case c2 => intro u hu; simp at hu; subst hu; rfl
  case c3 => unfold maxLen; omega
  case c4 => omega
  case c5 => have := hb1.size; simp; omega
  intro v' w2 hown' hgrow _
  have hlt : b < w1.heap.size := by
    rcases Nat.lt_or_ge b w1.heap.size with h' | h'
    · exact h'
    · simp [Array.getElem?_eq_none h'] at hbk
  have hb2 : w2.heap[b]? = some (.cells #[.pointer (some ⟨b, 0, none⟩), v] 43 (0, 0)) := by
    rw [hgrow.block b (by simp; omega) (fun e => hne e.symm), Lib.alloc_old w1 _ b hlt]
    exact hbk
  have d0 : w2.cell? ⟨b, 0, none⟩ = some (.pointer (some ⟨b, 0, none⟩)) := by rw [Lib.cell_of_heap hb2]; rfl
  have d1 : w2.cell? ⟨b, 1, none⟩ = some v := by rw [Lib.cell_of_heap hb2]; rfl
  have f1 : w2.frozen? ⟨b, 1, none⟩ = false := Lib.frozen_of_heap hb2 1
  obtain ⟨g, cap, rfl⟩ : ∃ g cap, v' = .slice (some ⟨g, 0, none⟩) (bs.length + 1) cap := by
    rcases hown'.2 with ⟨_, h0⟩ | ⟨g, cap, cur, hv, _⟩
    · omega
    · exact ⟨g, cap, hv⟩
  go_wp2
  go_ret
  refine ⟨rfl, ?_, ?_⟩
  · exact Lib.BuilderAt.put (T := 43) (e := 5) hB hb2 (bs' := bs ++ [.int .u8 c]) (by simpa using hown') (by decide)
  · exact ((hb1.alloc (by have := hb1.size; omega) _).grown hgrow (by have := hb1.size; simp; omega) (fun k hk => (hown.lt k hk).1)).setCell (p := ⟨b, 1, none⟩) hB _
set_option maxHeartbeats 2000000 in
set_option maxRecDepth 100000 in
theorem bld_string (B b : Nat) (bs : List Value) (s : ByteArray) (w : World) (h : Lib.IsBuilder 43 5 B b bs w) (hlen : bs.length + s.size ≤ 140737488355328) (hBw : B ≤ w.heap.size) :
    Calls Tryz.prog 13 #[.pointer (some ⟨b, 0, none⟩), .string s] w fun e w' => e = .returned (.tuple #[.int .i64 s.size, .nilIface]) ∧ (Lib.BuilderAt 43 5 B b (.pointer (some ⟨b, 0, none⟩)) (bs ++ Lib.strCells s) w' ∧ Below B w w') := by
  obtain ⟨i0, hi, hz0, hz1, hz2⟩ := info_parts infoByt
  go_enter Tryz.func13, Tryz.ntmps13
  go_wp2_with (go_at_call 29; refine (bcheck_any B b bs _ h).mono ?_)
  rintro e w1 ⟨rfl, h1, hb1⟩
  obtain ⟨hB, v, hbk, hown, hne⟩ := h1
  have c0 : w1.cell? ⟨b, 0, none⟩ = some (.pointer (some ⟨b, 0, none⟩)) := by rw [Lib.cell_of_heap hbk]; rfl
  have c1 : w1.cell? ⟨b, 1, none⟩ = some v := by rw [Lib.cell_of_heap hbk]; rfl
  go_wp2_with (at_builtin; refine Lib.wpList_append_own_string _ rfl _ _ 41 9 rfl B 5 i0 Tryz.underlying41 Tryz.underlying9 hi hz0 hz1 hz2 _ _ _ rfl hown s rfl ?c3 ?c4 ?c5 ?_)
  case c3 => unfold maxLen; omega
  case c4 => omega
  case c5 => have := hb1.size; omega
  intro v' w2 hown' hgrow _
  have hlt : b < w1.heap.size := by
    rcases Nat.lt_or_ge b w1.heap.size with h' | h'
    · exact h'
    · simp [Array.getElem?_eq_none h'] at hbk
  have hb2 : w2.heap[b]? = some (.cells #[.pointer (some ⟨b, 0, none⟩), v] 43 (0, 0)) := by
    rw [hgrow.block b hlt (fun e => hne e.symm)]
    exact hbk
  have d0 : w2.cell? ⟨b, 0, none⟩ = some (.pointer (some ⟨b, 0, none⟩)) := by rw [Lib.cell_of_heap hb2]; rfl
  have d1 : w2.cell? ⟨b, 1, none⟩ = some v := by rw [Lib.cell_of_heap hb2]; rfl
  have f1 : w2.frozen? ⟨b, 1, none⟩ = false := Lib.frozen_of_heap hb2 1
  obtain ⟨ao, n', cap, rfl⟩ : ∃ ao n' cap, v' = .slice ao n' cap := by
    rcases hown'.2 with ⟨hv, _⟩ | ⟨g, cap, cur, hv, _⟩
    · exact ⟨_, _, _, hv⟩
    · exact ⟨_, _, _, hv⟩
  go_wp2
  go_ret2
  refine ⟨rfl, ?_, ?_⟩
  · exact Lib.BuilderAt.put (T := 43) (e := 5) hB hb2 (bs' := bs ++ Lib.strCells s) (by simpa [Lib.strCells_length] using hown') (by decide)
  · exact (hb1.grown hgrow (by have := hb1.size; omega) (fun k hk => (hown.lt k hk).1)).setCell (p := ⟨b, 1, none⟩) hB _
end Go.Proofs.YtamjfbcjenocpaaGreatDoor

namespace Go.Proofs.YtamjfbcjenocpaaGreatDoor
set_option linter.unusedVariables false
set_option linter.unusedSimpArgs false
open Go.ChangeShapes Go.WideShapes Go.ChangeAt Go.RowKit Go.Proofs.YtamjfbcjenocpaaGreatDoor.Num Go.Proofs.YtamjfbcjenocpaaGreatDoor.Mem Go.Proofs.YtamjfbcjenocpaaGreatDoor.Asm
def hexC (v : Nat) : UInt8 := hexD.getD v 0
/-- A number's digits to base 16. -/
def hexG (n : Nat) : Bs := if n < 16 then [hexC n] else hexG (n / 16) ++ [hexC (n % 16)]
theorem hexG_form (n : Nat) : hexG n = (if n < 16 then [] else hexG (n / 16)) ++ [hexC (n % 16)] := by
  conv => lhs; unfold hexG
  split
  · rename_i h; rw [Nat.mod_eq_of_lt h]; rfl
  · rfl
theorem hexG_len (k : Nat) : ∀ n, n < 16 ^ (k + 1) → (hexG n).length ≤ k + 1 := by
  induction k with
  | zero => intro n h; rw [hexG_form n, if_pos (by simpa using h)]; simp
  | succ k ih =>
    intro n h
    rw [hexG_form n]
    split
    · simp
    · have := ih (n / 16) (by rw [Nat.pow_succ] at h; omega)
      simp; omega
/-- Eight digits. -/
def hexPad (n : Nat) : Bs := List.replicate (8 - (hexG n).length) 48 ++ hexG n
/-- What is read of the table of math/bits. -/
def Brj (w : World) : Prop := w.cell? ⟨4, 15, none⟩ = some (.int .u8 4)
theorem Brj.on {w w' : World} (h : Brj w) (hb : Below w.heap.size w w') : Brj w' := (hb.cell (p := ⟨4, 15, none⟩) (World.block_lt_of_cell? w _ h)).trans h
theorem pow2_16 (w : World) : Calls Tryz.prog 83 #[.int .i64 16] w fun e w' => e = .returned (.bool true) ∧ w' = w := by
  have q : bits .and .i64 16 15 = 0 := by decide +kernel
  go_enter Tryz.func83, Tryz.ntmps83
  go_wp2
  go_ret
  exact ⟨rfl, rfl⟩
theorem tz_64 (w : World) (hb : Brj w) : Calls Tryz.prog 92 #[.int .u64 16] w fun e w' => e = .returned (.int .i64 4) ∧ w' = w := by
  unfold Brj at hb
  have q1 : bits .and .u64 16 18446744073709551600 = 16 := by decide +kernel
  have q2 : IntKind.u64.wrap (-16) = 18446744073709551600 := by decide +kernel
  go_enter Tryz.func92, Tryz.ntmps92
  go_wp2
  go_ret
  exact ⟨rfl, rfl⟩
theorem tz_16 (w : World) (hb : Brj w) : Calls Tryz.prog 84 #[.int .u64 16] w fun e w' => e = .returned (.int .i64 4) ∧ w' = w := by
  have HT := Lib.hid (tz_64 w hb)
  go_enter Tryz.func84, Tryz.ntmps84
  go_wp2_with (go_at_call 92; (with_reducible refine (HT.out).mono ?_); rintro e w1 ⟨rfl, rfl⟩)
  go_ret
  exact ⟨rfl, rfl⟩
/-- The last k of the 65 bytes are these digits. -/
def Dg (w : World) (b k : Nat) (t : Bs) : Prop := ∃ C : Array Value, w.heap[b]? = some (.cells C 133 (0, 0)) ∧ C.size = 65 ∧ t.length = k ∧ C.toList.drop (65 - k) = t.map fun c => Value.int .u8 (c.toNat : Int)
theorem dg_put {w : World} {b k : Nat} {t : Bs} (h : Dg w b k t) (hk : k < 65) (c : UInt8) (v : Int) (hv : v = (c.toNat : Int)) : Dg (w.setCell ⟨b, 64 - k, none⟩ (.int .u8 v)) b (k + 1) (c :: t) := by
  subst hv
  obtain ⟨C, h1, h2, h3, h4⟩ := h
  refine ⟨C.setIfInBounds (64 - k) (.int .u8 (c.toNat : Int)), ?_, by simp [h2], by simp [h3], ?_⟩
  · simp [World.setCell, Array.getElem?_modify, h1]
  · rw [Array.toList_setIfInBounds, show 65 - (k + 1) = 64 - k by omega, List.map_cons, ← h4]
    have hlt : 64 - k < (C.toList.set (64 - k) (Value.int .u8 (c.toNat : Int))).length := by simp [h2]; omega
    rw [List.drop_eq_getElem_cons hlt, List.getElem_set_self]
    congr 1
    rw [List.drop_set_of_lt (by omega), show 64 - k + 1 = 65 - k by omega]
theorem dg_cell {w : World} {b k : Nat} {t : Bs} (h : Dg w b k t) (hk : k ≤ 65) (j : Nat) (hj : j < t.length) : w.cell? ⟨b, 65 - k + j, none⟩ = some (.int .u8 (t[j].toNat : Int)) := by
  obtain ⟨C, h1, h2, h3, h4⟩ := h
  have e : (C.toList.drop (65 - k))[j]? = some (Value.int .u8 (t[j].toNat : Int)) := by rw [h4]; simp [hj]
  rw [List.getElem?_drop] at e
  simp only [World.cell?, h1]
  simpa using e
theorem dg_old {w : World} {b k : Nat} {t : Bs} (h : Dg w b k t) (hk : k < 65) : ∃ v, w.cell? ⟨b, 64 - k, none⟩ = some v := by
  obtain ⟨C, h1, h2, h3, h4⟩ := h
  refine ⟨C[64 - k]'(by omega), ?_⟩
  simp only [World.cell?, h1]
  simp
abbrev hexB : ByteArray := { data := #[48, 49, 50, 51, 52, 53, 54, 55, 56, 57, 97, 98, 99, 100, 101, 102, 103, 104, 105, 106, 107, 108, 109, 110, 111, 112, 113, 114, 115, 116, 117, 118, 119, 120, 121, 122] }
theorem hexB_at (r : Nat) (hr : r < 16) (h : r < hexB.size) : ((hexB[r]'h).toNat : Int) = ((hexC r).toNat : Int) := by
  have : ∀ k : Fin 16, ∀ h : k.val < hexB.size, (hexB[k.val]'h).toNat = (hexC k.val).toNat := by decide +kernel
  exact_mod_cast this ⟨r, hr⟩ h
theorem hexG_ne (n : Nat) : 1 ≤ (hexG n).length := by
  rw [hexG_form]; simp
theorem hexG_big {u : Nat} (h : ¬ u < 16) : hexG u = hexG (u / 16) ++ [hexC (u % 16)] := by rw [hexG_form u, if_neg h]
theorem hexG_small {u : Nat} (h : u < 16) : hexG u = [hexC u] := by unfold hexG; rw [if_pos h]
set_option maxHeartbeats 4000000 in
set_option maxRecDepth 100000 in
theorem bits_16 (n : Nat) (w : World) (hn : n ≤ 4294967295) (hb : Brj w) :
    Calls Tryz.prog 65 #[.slice none 0 0, .int .u64 n, .int .i64 16, .bool false, .bool false] w fun e w' => e = .returned (.tuple #[.slice none 0 0, .string (S (hexG n))]) ∧ Below w.heap.size w w' := by
  have HP := Lib.hid pow2_16
  have HT := Lib.hid (fun W (h : Brj W) => tz_16 W h)
  have HB := Lib.hid hb
  clear hb
  go_enter Tryz.func65, Tryz.ntmps65
  go_wp2_with (first
    | (go_at_call 83; (with_reducible refine (HP.out _).mono ?_); rintro e w1 ⟨rfl, rfl⟩)
    | (go_at_call 84; (with_reducible refine (HT.out _ (HB.out.on ((Below.refl _ _).alloc (Nat.le_refl _) _))).mono ?_); rintro e w2 ⟨rfl, rfl⟩))
  have HG : Hid (Dg (w.alloc (.cells Tryz.zeroCells133 133)) w.heap.size 0 []) := by
    refine Lib.hid ⟨_, heap_alloc_new w _, by kernel_rfl, rfl, ?_⟩
    kernel_rfl
  have HB0 : Hid (Below w.heap.size w (w.alloc (.cells Tryz.zeroCells133 133))) := Lib.hid ((Below.refl _ _).alloc (Nat.le_refl _) _)
  generalize w.alloc (.cells Tryz.zeroCells133 133) = w0 at *
  go_loopw [1, 13] (fun uv i wr => ∃ (u k : Nat) (t : Bs), uv = .int .u64 u ∧ i = .int .i64 ((65 - k : Nat) : Int) ∧ u ≤ 4294967295 ∧ Dg wr w.heap.size k t ∧ Hid (hexG n = hexG u ++ t) ∧ Below w.heap.size w wr) (fun uv _ _ => (intOf uv).toNat)
  case atStart => exact ⟨n, 0, [], rfl, rfl, hn, HG.out, Lib.hid (by simp), HB0.out⟩
  case round =>
    obtain ⟨u, k, t, rfl, rfl, hu, hd, hh, hbw⟩ := hrel
    have hlen := congrArg List.length hh.out
    have h8 := hexG_len 7 n (by have e : (16 : Nat) ^ (7 + 1) = 4294967296 := by decide
                                omega)
    have h1 := hexG_ne u
    have hk : k ≤ 7 := by
      obtain ⟨_, _, _, h3, _⟩ := hd
      rw [List.length_append] at hlen; omega
    clear hlen h8 h1
    have HD := Lib.hid hd
    have HBW := Lib.hid hbw
    clear hd hbw
    by_cases hlt : u < 16
    · have hf : ∀ j : Nat, wr.frozen? ⟨w.heap.size, j, none⟩ = false := fun j => by
        obtain ⟨C, h1, _⟩ := HD.out
        simp [World.frozen?, h1]
      obtain ⟨v0, hv0⟩ := dg_old HD.out (by omega)
      have hhw := lt_of_block HD.out.choose_spec.1
      have h64 : ((65 - k : Nat) : Int) - 1 = ((64 - k : Nat) : Int) := by omega
      have hI : ¬ (16 : Int) ≤ u := by omega
      have hE : hexG n = hexC u :: t := by rw [hh.out, hexG_small hlt]; rfl
      have hsl : ∀ W, (Instr.sliceAt 133 (.pointer (some ⟨w.heap.size, 0, none⟩)) (some (.int .i64 ((64 - k : Nat) : Int))) none none).run Tryz.prog W = .ok (.slice (some ⟨w.heap.size, 64 - k, none⟩) (k + 1) (k + 1)) W := fun W => by
        rw [run_sliceAt_array_l (P := Tryz.prog) W 133 ⟨w.heap.size, 0, none⟩ (by kernel_rfl) .i64 ((64 - k : Nat) : Int) (by omega) (by show ((64 - k : Nat) : Int) ≤ 65; omega)]
        have e : ∀ W, (sizeOf (Tryz.prog.elem 133)).run Tryz.prog W = .ok 1 W := fun W => by kernel_rfl
        have e2 : Tryz.prog.arrayLen 133 = 65 := by kernel_rfl
        rw [Int.toNat_natCast, e, e2]
        simp only [Result.andThen, slicedAt]
        rw [if_neg (by omega)]
        rw [Go.WideShapes.add_plain, Nat.zero_add, Nat.mul_one, show 65 - (64 - k) = k + 1 by omega]
      have hcv : ∀ v : Int, v = ((hexC u).toNat : Int) → (convert 41 9 (.slice (some ⟨w.heap.size, 64 - k, none⟩) (k + 1) (k + 1))).run Tryz.prog (wr.setCell ⟨w.heap.size, 64 - k, none⟩ (.int .u8 v)) = .ok (.string (S (hexG n))) (wr.setCell ⟨w.heap.size, 64 - k, none⟩ (.int .u8 v)) := fun v hv => by
        have h2 := dg_put HD.out (by omega) (hexC u) v hv
        rw [run_convert_bytes_string _ 41 9 5 _ _ _ Tryz.underlying41 Tryz.underlying5 Tryz.underlying9]
        rw [hE]
        refine bytes_string _ _ _ _ (hexC u :: t) (by obtain ⟨_, _, _, h3, _⟩ := HD.out; simp [h3]) fun j hj => ?_
        rw [add_plain]
        have := dg_cell h2 (by omega) j hj
        rwa [show 65 - (k + 1) = 64 - k by omega] at this
      go_wp2
      rw [hcv _ (hexB_at u hlt _)]
      go_wp2
      go_ret2
      exact ⟨by first | rfl | (rw [hE]; rfl), HBW.out.setCell (p := ⟨w.heap.size, 64 - k, none⟩) (Nat.le_refl _) _⟩
    · obtain ⟨r, hr⟩ : ∃ r : Nat, u % 16 = r := ⟨_, rfl⟩
      have hr16 : r < 16 := by omega
      have q1 : bits .and .u64 (u : Int) 15 = (r : Int) := by
        rw [show (15 : Int) = ((15 : Nat) : Int) from rfl, u64_and_nat u 15 (by omega) (by decide), ← hr]
        congr 1
        exact Nat.and_two_pow_sub_one_eq_mod u 4
      have hf : ∀ j : Nat, wr.frozen? ⟨w.heap.size, j, none⟩ = false := fun j => by
        obtain ⟨C, h1, _⟩ := HD.out
        simp [World.frozen?, h1]
      obtain ⟨v0, hv0⟩ := dg_old HD.out (by omega)
      have hhw := lt_of_block HD.out.choose_spec.1
      have h64 : ((65 - k : Nat) : Int) - 1 = ((64 - k : Nat) : Int) := by omega
      have hI : (16 : Int) ≤ u := by omega
      go_wp2
      go_roundw
      case rel => exact ⟨u / 16, k + 1, hexC r :: t, by go_num, by rw [show 65 - (k + 1) = 64 - k by omega], by omega, dg_put HD.out (by omega) _ _ (hexB_at r hr16 _), Lib.hid (by rw [hh.out, hexG_big hlt, hr]; simp), HBW.out.setCell (p := ⟨w.heap.size, 64 - k, none⟩) (Nat.le_refl _) _⟩
      case measure => simp [intOf]; omega
set_option maxHeartbeats 1000000 in
theorem fmt_in (n : Nat) (w : World) (hn : n ≤ 4294967295) (hb : Brj w) :
    Calls Tryz.prog 51 #[.int .u64 n, .int .i64 16] w fun e w' => e = .returned (.string (S (hexG n))) ∧ Below w.heap.size w w' := by
  have HF := Lib.hid (bits_16 n w hn hb)
  go_enter Tryz.func51, Tryz.ntmps51
  go_wp2_with (go_at_call 65; (with_reducible refine (HF.out).mono ?_); rintro e w1 ⟨rfl, hb1⟩)
  go_ret
  exact ⟨rfl, hb1⟩
theorem fmt_out (n : Nat) (w : World) (hn : n ≤ 4294967295) (hb : Brj w) :
    Calls Tryz.prog 32 #[.int .u64 n, .int .i64 16] w fun e w' => e = .returned (.string (S (hexG n))) ∧ Below w.heap.size w w' := by
  have HF := Lib.hid (fmt_in n w hn hb)
  go_enter Tryz.func32, Tryz.ntmps32
  go_wp2_with (go_at_call 51; (with_reducible refine (HF.out).mono ?_); rintro e w1 ⟨rfl, hb1⟩)
  go_ret
  exact ⟨rfl, hb1⟩
theorem hex_asm (n : Nat) (w : World) (hn : n ≤ 4294967295) (hb : Brj w) :
    Calls Tryz.prog 15 #[.int .u32 n] w fun e w' => e = .returned (.string (S (hexPad n))) ∧ Below w.heap.size w w' := by
  have h8 := hexG_len 7 n (by have e : (16 : Nat) ^ (7 + 1) = 4294967296 := by decide
                              omega)
  have hz : (S (hexG n)).size ≤ 8 := by rw [S_size]; omega
  have HF := Lib.hid (fmt_out n w hn hb)
  obtain ⟨q, hq⟩ : ∃ q : Nat, 8 - (hexG n).length = q := ⟨_, rfl⟩
  have hq2 : (8 : Int) - ((S (hexG n)).size : Int) = (q : Int) := by rw [S_size]; omega
  have hrep : (Lib.repeatL ([48] : Bs) q) = List.replicate q 48 := by
    clear hq hq2
    induction q with
    | zero => rfl
    | succ q ih => rw [Lib.repeatL, ih]; rfl
  have HR := Lib.hid (fun W => show Calls Tryz.prog 33 #[.string { data := #[48] }, .int .i64 q] W fun e w' => e = .returned (.string (S (List.replicate q 48))) ∧ Below W.heap.size W w' from (Tryz.strings_Repeat ⟨#[48]⟩ q W (by omega) (by show 1 * q ≤ _; omega)).mono fun e w' ⟨he, hb⟩ => ⟨by rw [he, show (⟨#[48]⟩ : ByteArray).data.toList = [48] from rfl, hrep]; rfl, hb⟩)
  have hz2 : (S (List.replicate q (48 : UInt8))).size ≤ 8 := by rw [S_size, List.length_replicate]; omega
  have hs : S (List.replicate q 48) ++ S (hexG n) = S (hexPad n) := by
    apply ba_ext
    unfold hexPad
    rw [hq, S_list]
    simp [ByteArray.data_append, S]
  clear hrep hq
  go_enter Tryz.func15, Tryz.ntmps15
  go_wp2_with (first
    | (go_at_call 32; (with_reducible refine (HF.out).mono ?_); rintro e w1 ⟨rfl, hb1⟩)
    | (go_at_call 33; (with_reducible refine (HR.out _).mono ?_); rintro e w2 ⟨rfl, hb2⟩))
  go_ret
  exact ⟨by first | rfl | rw [hs], below_step hb1 hb2⟩
end Go.Proofs.YtamjfbcjenocpaaGreatDoor
