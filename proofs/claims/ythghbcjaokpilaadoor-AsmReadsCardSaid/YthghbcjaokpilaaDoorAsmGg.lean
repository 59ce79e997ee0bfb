import Derived.Test.YthghbcjaokpilaaDoorAsmGb
import Derived.Test.YthghbcjaokpilaaDoorIsaFn4
import Derived.OwnWalk
namespace Go.Proofs.YthghbcjaokpilaaDoor
set_option linter.unusedVariables false
set_option linter.unusedSimpArgs false
open Go.ChangeShapes Go.WideShapes Go.ChangeAt Go.RowKit Go.Proofs.YthghbcjaokpilaaDoor.Num Go.Proofs.YthghbcjaokpilaaDoor.Isa Go.Proofs.YthghbcjaokpilaaDoor.Mem Go.Proofs.YthghbcjaokpilaaDoor.Asm
theorem dd4 (n : Nat) (h0 : 1000 ≤ n) (h1 : n < 10000) : Lib.decDigits n = [UInt8.ofNat (48 + n / 10 / 10 / 10), UInt8.ofNat (48 + n / 10 / 10 % 10), UInt8.ofNat (48 + n / 10 % 10), UInt8.ofNat (48 + n % 10)] := by
  rw [Lib.decDigits, dif_neg (by omega), Lib.decDigits, dif_neg (by omega), Lib.decDigits, dif_neg (by omega), Lib.decDigits, dif_pos (by omega)]
  rfl
def spH : Bs := [46, 115, 112, 97, 99, 101]
def spT (n : Nat) : Bs := [UInt8.ofNat (48 + n / 10 / 10 / 10), UInt8.ofNat (48 + n / 10 / 10 % 10), UInt8.ofNat (48 + n / 10 % 10), UInt8.ofNat (48 + n % 10)]
def spaceL (n : Nat) : Bs := spH ++ 32 :: spT n
set_option maxRecDepth 100000 in
theorem sp_all : ∀ k : Fin 25, toksL (spaceL (1000 + k.val)) = [spH, spT (1000 + k.val)] ∧ numL (spT (1000 + k.val)) = some ((1000 + k.val : Nat) : Int) ∧ (spaceL (1000 + k.val)).all (· != 10) = true := by decide +kernel
theorem sp_one (n : Nat) (h0 : 1000 ≤ n) (h1 : n ≤ 1024) : toksL (spaceL n) = [spH, spT n] ∧ numL (spT n) = some (n : Int) ∧ ∀ c ∈ spaceL n, c ≠ 10 := by
  have := sp_all ⟨n - 1000, by omega⟩
  dsimp only at this
  rw [show 1000 + (n - 1000) = n by omega] at this
  refine ⟨this.1, this.2.1, fun c hc => ?_⟩
  have h := List.all_eq_true.1 this.2.2 c hc
  simpa using h
def Z0 : Draft := ⟨0, 1, 0, 0, 0, 0, 0, []⟩
set_option maxRecDepth 100000 in
theorem sp_stm : (stmOf spH).map (fun q => (q.pat, q.kind)) = some ([78], 41) := by decide +kernel
theorem sp_line (n : Nat) (h0 : 1000 ≤ n) (h1 : n ≤ 1024) : lineR (spaceL n) = some ([], List.replicate n Z0) := by
  obtain ⟨e1, e2, _⟩ := sp_one n h0 h1
  have e3 := sp_stm
  cases hq : stmOf spH with
  | none => rw [hq] at e3; cases e3
  | some q =>
    rw [hq] at e3
    simp at e3
    obtain ⟨p1, p2⟩ := e3
    have ho : opsL [78] [spT n] = some { Opds.zero with n := (n : Int) } := by
      simp [opsL, opsGo, opStep, e2]
    have hs : stmtL [spH, spT n] = some (List.replicate n Z0) := by
      change ((stmOf spH).bind fun q => (opsL q.pat [spT n]).bind fun o => wordsL q.kind q.op o) = _
      rw [hq]
      simp only [Option.bind_some]
      rw [p1, p2, ho]
      simp only [Option.bind_some]
      have hr : ¬ ((n : Int) < 0 ∨ 1024 < (n : Int)) := by omega
      simp [wordsL, hr, Z0]
    unfold lineR
    rw [e1]
    have hl : labelL [spH, spT n] = some ([], [spH, spT n]) := by
      simp [labelL, spT]
    rw [hl]
    simp [hs]
def nops (k : Nat) : Bs := (List.replicate k [110, 111, 112, 10]).flatten
def srcW (m k : Nat) : Bs := spaceL m ++ 10 :: nops k
theorem spaceL_len (m : Nat) : (spaceL m).length = 11 := rfl
theorem nops_succ (k : Nat) : nops (k + 1) = 110 :: 111 :: 112 :: 10 :: nops k := rfl
theorem nops_snoc (k : Nat) : nops (k + 1) = nops k ++ [110, 111, 112, 10] := by
  unfold nops; rw [List.replicate_succ']; simp
theorem nops_len (k : Nat) : (nops k).length = 4 * k := by
  induction k with
  | zero => rfl
  | succ k ih => rw [nops_succ]; simp [ih]; omega
theorem line_nil : lineR [] = some ([], []) := rfl
set_option maxRecDepth 100000 in
theorem line_nop : (lineR [110, 111, 112]).map (fun x => (x.1, x.2.length)) = some ([], 1) := by decide +kernel
theorem fin_Z (syms : List (Bs × Nat)) (l at' : Int) : finL syms { Z0 with line := l } at' = (0, 0) := by
  simp [finL, finX, finR, Z0]
theorem code_Z (syms : List (Bs × Nat)) (l : Int) : ∀ (n : Nat) (acc : List Int), codeL syms (List.replicate n { Z0 with line := l }) acc = .inr (acc ++ List.replicate n 0)
  | 0, acc => by simp [codeL]
  | n + 1, acc => by
    rw [List.replicate_succ, code_ok (by rw [fin_Z]), fin_Z, code_Z syms l n]
    simp [List.replicate_succ]
theorem no_lab (syms : List (Bs × Nat)) : ¬ (([] : Bs) ≠ [] ∧ (lookS syms []).isSome = true) := fun h => h.1 rfl
theorem num_rep (n : Nat) (l : Int) : numbered l (List.replicate n Z0) = List.replicate n { Z0 with line := l } := by simp [numbered]
theorem trans_words (m : Nat) (h0 : 1000 ≤ m) (h1 : m ≤ 1024) : transL (srcW m 0) = .inr (List.replicate m 0, []) := by
  have hl : linesL (srcW m 0) = [spaceL m, []] := by
    unfold linesL srcW
    rw [lineGo_skip _ _ _ (sp_one m h0 h1).2.2]
    simp [lineGo, nops]
  unfold transL
  rw [if_neg (by unfold srcW; rw [List.length_append, spaceL_len]; simp [nops]), hl, read_next (sp_line m h0 h1) (no_lab _) (by rw [num_rep]; simp; omega), read_next line_nil (no_lab _) (by rw [num_rep]; simp [numbered]; omega)]
  simp only [readL, addSyms, if_pos, num_rep]
  simp only [numbered, List.map_nil, List.append_nil, List.nil_append]
  rw [code_Z]
  rfl
theorem trans_large (k : Nat) (hk : 1 ≤ k) (hk2 : k ≤ 16) : transL (srcW 1024 k) = .inl (305, 2) := by
  obtain ⟨j, rfl⟩ : ∃ j, k = j + 1 := ⟨k - 1, by omega⟩
  have hl : ∃ r, linesL (srcW 1024 (j + 1)) = spaceL 1024 :: [110, 111, 112] :: r := by
    unfold linesL srcW
    rw [lineGo_skip _ _ _ (sp_one 1024 (by omega) (by omega)).2.2, nops_succ]
    exact ⟨_, by simp [lineGo]; rfl⟩
  obtain ⟨r, hl⟩ := hl
  have hn := line_nop
  cases hx : lineR [110, 111, 112] with
  | none => rw [hx] at hn; cases hn
  | some x =>
    obtain ⟨lab, dd⟩ := x
    rw [hx] at hn
    simp at hn
    obtain ⟨rfl, hd⟩ := hn
    unfold transL
    rw [if_neg (by unfold srcW; rw [List.length_append, spaceL_len, List.length_cons, nops_len]; omega), hl, read_next (sp_line 1024 (by omega) (by omega)) (no_lab _) (by rw [num_rep, List.nil_append, List.length_replicate]; omega), read_large hx (no_lab _) (by rw [num_rep, List.length_append, List.nil_append, List.length_replicate]; unfold numbered; rw [List.length_map, hd]; omega)]
    rfl
theorem semi_tok (n : Nat) (h : 1 ≤ n) : toksL (List.replicate n 59) = [] := by
  obtain ⟨j, rfl⟩ : ∃ j, n = j + 1 := ⟨n - 1, by omega⟩
  rfl
theorem trans_semi (n : Nat) (h0 : 1 ≤ n) (h1 : n ≤ 8192) : transL (List.replicate n 59) = .inr ([], []) := by
  have hl : linesL (List.replicate n 59) = [List.replicate n 59] := by
    unfold linesL
    have := lineGo_skip (List.replicate n 59) [] [] (fun c hc => by rw [List.eq_of_mem_replicate hc]; decide)
    rw [List.append_nil] at this
    rw [this]; simp [lineGo]
  have hr : lineR (List.replicate n 59) = some ([], []) := by
    unfold lineR; rw [semi_tok n h0]; rfl
  unfold transL
  rw [if_neg (by simp; omega), hl, read_next hr (no_lab _) (by simp [numbered])]
  rfl
theorem trans_semi_long (n : Nat) (h1 : 8192 < n) : transL (List.replicate n 59) = .inl (300, 0) := by
  unfold transL
  rw [if_pos (by simp; omega)]
def srcA : Bs := [108, 111, 111, 112, 58, 32, 97, 100, 100, 105, 32, 114, 49, 44, 32, 114, 49, 44, 32, 45, 49, 10, 98, 110, 101, 32, 114, 49, 44, 32, 114, 48, 44, 32, 108, 111, 111, 112, 10]
def srcB : Bs := [106, 97, 108, 32, 114, 49, 44, 32, 110, 111, 119, 104, 101, 114, 101]
set_option maxRecDepth 100000 in
theorem tA : transL srcA = .inr ([269615103, 688979967], [([108, 111, 111, 112], 0)]) := by decide +kernel
set_option maxRecDepth 100000 in
theorem tB : transL srcB = .inl (302, 1) := by decide +kernel
end Go.Proofs.YthghbcjaokpilaaDoor

namespace Go.Proofs.YthghbcjaokpilaaDoor
set_option linter.unusedVariables false
set_option linter.unusedSimpArgs false
open Go.ChangeShapes Go.WideShapes Go.ChangeAt Go.RowKit Go.Proofs.YthghbcjaokpilaaDoor.Num Go.Proofs.YthghbcjaokpilaaDoor.Isa Go.Proofs.YthghbcjaokpilaaDoor.Mem Go.Proofs.YthghbcjaokpilaaDoor.Asm
set_option maxRecDepth 100000 in
theorem awakeA (W : World) : Calls Tryd.prog 9 #[.string { data := #[108, 111, 111, 112, 58, 32, 97, 100, 100, 105, 32, 114, 49, 44, 32, 114, 49, 44, 32, 45, 49, 10, 98, 110, 101, 32, 114, 49, 44, 32, 114, 48, 44, 32, 108, 111, 111, 112, 10] }] W
    fun e w' => (∃ oa cap, e = .returned (.tuple #[.slice oa 2 cap, .agg #[.int .i64 0, .int .i64 0]]) ∧ w'.ownsRow W.heap.size 34 1 (.slice oa 2 cap) 2 [.int .u32 269615103, .int .u32 688979967]) ∧ Below W.heap.size W w' := by
  have h := assemble_asm (S srcA) W (by rw [S_size]; decide)
  rw [S_list, tA] at h
  refine Calls.mono (show Calls Tryd.prog 9 #[.string (S srcA)] W _ from h) ?_
  rintro e w' ⟨⟨v, rfl, hv⟩, hb⟩
  obtain ⟨oa, cap, rfl⟩ := own_shape hv
  exact ⟨⟨oa, cap, rfl, hv⟩, hb⟩
set_option maxRecDepth 100000 in
theorem awakeB (W : World) : Calls Tryd.prog 9 #[.string { data := #[106, 97, 108, 32, 114, 49, 44, 32, 110, 111, 119, 104, 101, 114, 101] }] W
    fun e w' => e = .returned (.tuple #[.slice none 0 0, .agg #[.int .i64 302, .int .i64 1]]) ∧ Below W.heap.size W w' := by
  have h := assemble_asm (S srcB) W (by rw [S_size]; decide)
  rw [S_list, tB] at h
  exact (show Calls Tryd.prog 9 #[.string (S srcB)] W _ from h).mono fun e w' h => h
set_option maxHeartbeats 4000000 in
theorem awake3 (w : World) : Calls Tryd.prog 5 #[] w fun e w' => e = .returned (.bool true) ∧ Below w.heap.size w w' := by
  have HA := Lib.hid awakeA
  have HB := Lib.hid awakeB
  go_enter Tryd.func5, Tryd.ntmps5
  go_wp2_with (first
    | (go_at_call 9; (with_reducible refine (HA.out _).mono ?_); rintro e w1 ⟨⟨oa, cap, rfl, hr⟩, hb1⟩; have HR := Lib.hid hr; have HB1 := Lib.hid hb1; clear hr hb1)
    | (go_at_call 9; (with_reducible refine (HB.out _).mono ?_); rintro e w2 ⟨rfl, hb2⟩; obtain ⟨g, hg, hc⟩ := own_at1 (own_below (HR.out.alloc _) hb2) (by decide); subst hg; have hgl := own_lt (own_below (HR.out.alloc _) hb2) rfl; have c0 : w2.cell? ⟨g, 0, none⟩ = some (.int .u32 269615103) := hc 0 (by decide); have c1 : w2.cell? ⟨g, 1, none⟩ = some (.int .u32 688979967) := hc 1 (by decide); have g0 := heap_below (al_new w1 _ _ rfl) hb2; have d0 : w2.cell? ⟨w1.heap.size, 0, none⟩ = some (.int .i64 0) := cell_blk g0 0 rfl; have d1 : w2.cell? ⟨w1.heap.size, 1, none⟩ = some (.int .i64 0) := cell_blk g0 1 rfl; have hw2 := lt_of_block g0; have HB2 := Lib.hid hb2; clear hb2 hc g0))
  go_ret
  have h2 : Below w.heap.size w w2 := below_step (HB1.out.alloc HB1.out.size _) HB2.out
  exact ⟨rfl, h2.alloc h2.size _⟩
theorem info_u8' : (Tryd.prog.info? 5).map (fun i => (i.zero, i.size, i.bytes)) = some (some (.int .u8 0), 1, 1) := by kernel_rfl
/-- So many bytes, the first of them filled. -/
def fillA (B k : Nat) : Array Value := (List.replicate k (Value.int .u8 59) ++ List.replicate (B - k) (Value.int .u8 0)).toArray
theorem fill_zero (B : Nat) : madeCells #[Value.int .u8 0] (B * 1) = fillA B 0 := by
  apply Array.toList_inj.1
  rw [toList_madeCells_one]
  simp [fillA]
theorem fill_get (B k : Nat) (h : k < B) : (fillA B k)[k]? = some (.int .u8 0) := by
  unfold fillA
  rw [List.getElem?_toArray, List.getElem?_append_right (by simp), List.length_replicate, Nat.sub_self, List.getElem?_replicate, if_pos (by omega)]
theorem fill_set (B k : Nat) (h : k < B) : (fillA B k).setIfInBounds k (.int .u8 59) = fillA B (k + 1) := by
  unfold fillA
  apply Array.toList_inj.1
  rw [Array.toList_setIfInBounds]
  obtain ⟨d, rfl⟩ : ∃ d, B = k + (d + 1) := ⟨B - k - 1, by omega⟩
  rw [show k + (d + 1) - k = d + 1 by omega, show k + (d + 1) - (k + 1) = d by omega, List.replicate_succ, List.replicate_succ']
  simp [List.set_append]
theorem fill_own (w : World) (g B base : Nat) (hg : w.heap[g]? = some (.cells (fillA B B) 5 (0, 0))) (hb : base ≤ g) (hB : B ≤ 10000) : w.ownsRow base 5 1 (.slice (some ⟨g, 0, none⟩) B B) B (u8s (List.replicate B 59)) := by
  refine ⟨by simp [u8s], Or.inr ⟨g, B, fillA B B, rfl, hb, hg, Nat.le_refl _, by unfold maxLen; omega, by simp [fillA], ?_⟩⟩
  simp [fillA, u8s]
theorem srcW_start (m : Nat) (h0 : 1000 ≤ m) (h1 : m ≤ 1024) : ({ data := #[46, 115, 112, 97, 99, 101, 32] } : ByteArray) ++ itoaS (m : Int) ++ { data := #[10] } = S (srcW m 0) := by
  apply ba_ext
  rw [itoaS_pos _ (by omega), Int.toNat_natCast]
  unfold decS
  rw [dd4 m h0 (by omega), S_list]
  simp [ByteArray.data_append, srcW, spaceL, spH, spT, nops]
theorem srcW_next (m k : Nat) : S (srcW m k) ++ ({ data := #[110, 111, 112, 10] } : ByteArray) = S (srcW m (k + 1)) := by
  apply ba_ext
  rw [S_list]
  simp [ByteArray.data_append, srcW, nops_snoc, S]
theorem srcW_size (m k : Nat) : (S (srcW m k)).size = 12 + 4 * k := by
  rw [S_size]; unfold srcW; rw [List.length_append, spaceL_len, List.length_cons, nops_len]; omega
abbrev OneOf (src : ByteArray) (L : Nat) (e l : Int) : Prop := ∀ W, Calls Tryd.prog 9 #[.string src] W fun x w' => (∃ oa cap, x = .returned (.tuple #[.slice oa L cap, .agg #[.int .i64 e, .int .i64 l]])) ∧ Below W.heap.size W w'
theorem one_in {src : Bs} {ws : List Int} {syms : List (Bs × Nat)} (h : transL src = .inr (ws, syms)) (hs : src.length ≤ 100000) : OneOf (S src) ws.length 0 0 := fun W => by
  have h1 := assemble_asm (S src) W (by rw [S_size]; omega)
  rw [S_list, h] at h1
  refine h1.mono ?_
  rintro x w' ⟨⟨v, rfl, hv⟩, hb⟩
  obtain ⟨oa, cap, rfl⟩ := own_shape hv
  exact ⟨⟨oa, cap, rfl⟩, hb⟩
theorem one_no {src : Bs} {e l : Int} (h : transL src = .inl (e, l)) (hs : src.length ≤ 100000) : OneOf (S src) 0 e l := fun W => by
  have h1 := assemble_asm (S src) W (by rw [S_size]; omega)
  rw [S_list, h] at h1
  refine h1.mono ?_
  rintro x w' ⟨rfl, hb⟩
  exact ⟨⟨none, 0, rfl⟩, hb⟩
end Go.Proofs.YthghbcjaokpilaaDoor
