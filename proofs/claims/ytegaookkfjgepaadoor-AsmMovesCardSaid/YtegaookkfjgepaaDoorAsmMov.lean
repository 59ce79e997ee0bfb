import Derived.Test.YtegaookkfjgepaaDoorAsmLim
namespace Go.Proofs.YtegaookkfjgepaaDoor
set_option linter.unusedVariables false
set_option linter.unusedSimpArgs false
open Go.ChangeShapes Go.WideShapes Go.ChangeAt Go.RowKit Go.Proofs.YtegaookkfjgepaaDoor.Num Go.Proofs.YtegaookkfjgepaaDoor.Isa Go.Proofs.YtegaookkfjgepaaDoor.Mem Go.Proofs.YtegaookkfjgepaaDoor.Asm
def spL (k : Nat) : Bs := spH ++ 32 :: Lib.decDigits k
def xsL (k : Nat) : Bs := 120 :: 58 :: 32 :: spL k
def jalL : Bs := [106, 97, 108, 32, 114, 49, 44, 32, 120]
def nopL : Bs := [120, 58, 32, 110, 111, 112]
set_option maxRecDepth 100000 in
theorem mv_all : ∀ k : Fin 201, toksL (spL k.val) = [spH, Lib.decDigits k.val] ∧ numL (Lib.decDigits k.val) = some (k.val : Int) ∧ (spL k.val).all (· != 10) = true ∧ Lib.decDigits k.val ≠ [58] ∧ toksL (xsL k.val) = [[120], [58], spH, Lib.decDigits k.val] ∧ (Lib.decDigits k.val).length ≤ 3 := by decide +kernel
theorem mv_one (n : Nat) (h1 : n ≤ 200) : toksL (spL n) = [spH, Lib.decDigits n] ∧ numL (Lib.decDigits n) = some (n : Int) ∧ (∀ c ∈ spL n, c ≠ 10) ∧ Lib.decDigits n ≠ [58] ∧ toksL (xsL n) = [[120], [58], spH, Lib.decDigits n] ∧ (Lib.decDigits n).length ≤ 3 := by
  have := mv_all ⟨n, by omega⟩
  dsimp only at this
  refine ⟨this.1, this.2.1, fun c hc => ?_, this.2.2.2⟩
  have h := List.all_eq_true.1 this.2.2.1 c hc
  simpa using h
theorem sp_stmt (n : Nat) (t : Bs) (h1 : n ≤ 1024) (e2 : numL t = some (n : Int)) : stmtL [spH, t] = some (List.replicate n Z0) := by
  have e3 := sp_stm
  cases hq : stmOf spH with
  | none => rw [hq] at e3; cases e3
  | some q =>
    rw [hq] at e3
    simp at e3
    obtain ⟨p1, p2⟩ := e3
    have ho : opsL [78] [t] = some { Opds.zero with n := (n : Int) } := by
      simp [opsL, opsGo, opStep, e2]
    change ((stmOf spH).bind fun q => (opsL q.pat [t]).bind fun o => wordsL q.kind q.op o) = _
    rw [hq]
    simp only [Option.bind_some]
    rw [p1, p2, ho]
    simp only [Option.bind_some]
    have hr : ¬ ((n : Int) < 0 ∨ 1024 < (n : Int)) := by omega
    simp [wordsL, hr, Z0]
theorem spL_line (n : Nat) (h1 : n ≤ 200) : lineR (spL n) = some ([], List.replicate n Z0) := by
  obtain ⟨e1, e2, _, e4, _⟩ := mv_one n h1
  unfold lineR
  rw [e1]
  have hl : labelL [spH, Lib.decDigits n] = some ([], [spH, Lib.decDigits n]) := by
    simp [labelL, e4]
  rw [hl]
  simp [sp_stmt n _ (by omega) e2]
theorem xsL_line (n : Nat) (h1 : n ≤ 200) : lineR (xsL n) = some ([120], List.replicate n Z0) := by
  obtain ⟨_, e2, _, _, e5, _⟩ := mv_one n h1
  unfold lineR
  rw [e5]
  have hl : labelL [[120], [58], spH, Lib.decDigits n] = some ([120], [spH, Lib.decDigits n]) := by
    have hn : nameB [120] = true := by decide +kernel
    simp [labelL, hn]
  rw [hl]
  simp [sp_stmt n _ (by omega) e2]
def jalD : Draft := ⟨0, 0, 48, 1, 0, 0, 0, [120]⟩
def nopD : Draft := ⟨0, 0, 16, 0, 0, 0, 0, []⟩
set_option maxRecDepth 100000 in
theorem jal_line : lineR jalL = some ([], [jalD]) := by kernel_rfl
set_option maxRecDepth 100000 in
theorem nop_line : lineR nopL = some ([120], [nopD]) := by kernel_rfl
theorem code_Z2 (syms : List (Bs × Nat)) (l : Int) (ds : List Draft) : ∀ (n : Nat) (acc : List Int), codeL syms (List.replicate n { Z0 with line := l } ++ ds) acc = codeL syms ds (acc ++ List.replicate n 0)
  | 0, acc => by simp
  | n + 1, acc => by
    rw [List.replicate_succ, List.cons_append, code_ok (by rw [fin_Z]), fin_Z, code_Z2 syms l ds n]
    simp [List.replicate_succ]
theorem ok_jal_all : ∀ n : Fin 103, Ok 48 1 0 0 ((n.val : Int) - 51) := by decide +kernel
theorem ok_jal (m : Int) (h0 : -51 ≤ m) (h1 : m ≤ 51) : Ok 48 1 0 0 m := by
  have := ok_jal_all ⟨(m + 51).toNat, by omega⟩
  dsimp only at this
  rwa [show (((m + 51).toNat : Nat) : Int) - 51 = m by omega] at this
theorem fin_jal (l : Int) (t : Nat) (at' m : Int) (h : (t : Int) - at' = 4 * m) (h0 : -51 ≤ m) (h1 : m ≤ 51) : finL [([120], t)] { jalD with line := l } at' = (word 48 1 0 0 m, 0) := by
  have hq : ((t : Int) - at').tdiv 4 = m := by rw [h]; exact Int.mul_tdiv_cancel_left m (by decide)
  simp [finL, finX, finR, jalD, lookS, hq]
  exact encI_ok (ok_jal m h0 h1)
theorem fin_nop (syms : List (Bs × Nat)) (l at' : Int) : finL syms { nopD with line := l } at' = (word 16 0 0 0 0, 0) := by
  have : Ok 16 0 0 0 0 := by decide +kernel
  simp [finL, finX, finR, nopD, encI_ok this]
def srcBack (s n : Nat) : Bs := spL s ++ 10 :: (xsL n ++ 10 :: (jalL ++ [10]))
def srcFwd (s n : Nat) : Bs := spL s ++ 10 :: (jalL ++ 10 :: (spL n ++ 10 :: (nopL ++ [10])))
theorem spL_len (n : Nat) : (spL n).length = 7 + (Lib.decDigits n).length := by simp [spL, spH]; omega
theorem lines_cons (q r : Bs) (h : ∀ c ∈ q, c ≠ 10) : lineGo [] (q ++ 10 :: r) = q :: lineGo [] r := by
  rw [lineGo_skip _ _ _ h]; simp [lineGo]
theorem mv_back (s n : Nat) (hs : s ≤ 200) (hn : n ≤ 50) : ∃ pre post, transL (srcBack s n) = .inr (pre ++ word 48 1 0 0 (-(n : Int)) :: post, [([120], 4 * s)]) ∧ pre.length = s + n := by
  have h1 := mv_one s hs
  have h2 := mv_one n (by omega)
  have hl : linesL (srcBack s n) = [spL s, xsL n, jalL, []] := by
    unfold linesL srcBack
    rw [lines_cons _ _ h1.2.2.1, lines_cons (xsL n) _ (by intro c hc; simp [xsL] at hc; rcases hc with rfl | rfl | rfl | hc; decide; decide; decide; exact h2.2.2.1 c hc), lines_cons jalL _ (by decide)]
    rfl
  refine ⟨List.replicate s 0 ++ List.replicate n 0, [], ?_, by simp⟩
  unfold transL
  rw [if_neg (by unfold srcBack xsL; simp only [List.length_append, List.length_cons, spL_len]; have := h1.2.2.2.2.2; have := h2.2.2.2.2.2; simp [jalL]; omega), hl, read_next (spL_line s hs) (no_lab _) (by rw [num_rep]; simp; omega),
    read_next (xsL_line n (by omega)) (by simp [addSyms, lookS]) (by rw [num_rep, num_rep]; simp; omega), read_next jal_line (no_lab _) (by rw [num_rep, num_rep]; simp [numbered]; omega), read_next line_nil (no_lab _) (by rw [num_rep, num_rep]; simp [numbered]; omega)]
  simp only [readL, num_rep]
  have hsy : addSyms (addSyms (addSyms (addSyms [] [] []) ([] ++ List.replicate s { Z0 with line := ((0 : Nat) : Int) + 1 }) [120]) ([] ++ List.replicate s { Z0 with line := ((0 : Nat) : Int) + 1 } ++ List.replicate n { Z0 with line := ((0 + 1 : Nat) : Int) + 1 }) []) ([] ++ List.replicate s { Z0 with line := ((0 : Nat) : Int) + 1 } ++ List.replicate n { Z0 with line := ((0 + 1 : Nat) : Int) + 1 } ++ numbered (((0 + 1 + 1 : Nat) : Int) + 1) [jalD]) [] = [([120], 4 * s)] := by
    simp [addSyms]
  rw [hsy]
  simp only [List.nil_append, List.append_assoc]
  rw [code_Z2, code_Z2]
  simp only [numbered, List.map_cons, List.map_nil, List.append_nil, List.nil_append]
  have hf := fin_jal (((0 + 1 + 1 : Nat) : Int) + 1) (4 * s) (4 * ((List.replicate s (0 : Int) ++ List.replicate n 0).length : Int)) (-(n : Int)) (by simp; omega) (by omega) (by omega)
  rw [code_ok (by rw [hf]), hf]
  simp [codeL, transR]
  rw [← List.append_assoc, List.replicate_append_replicate]
theorem mv_fwd (s n : Nat) (hs : s ≤ 200) (hn : n ≤ 50) : ∃ pre post, transL (srcFwd s n) = .inr (pre ++ word 48 1 0 0 ((n : Int) + 1) :: post, [([120], 4 * (s + n + 1))]) ∧ pre.length = s := by
  have h1 := mv_one s hs
  have h2 := mv_one n (by omega)
  have hl : linesL (srcFwd s n) = [spL s, jalL, spL n, nopL, []] := by
    unfold linesL srcFwd
    rw [lines_cons _ _ h1.2.2.1, lines_cons jalL _ (by decide), lines_cons _ _ h2.2.2.1, lines_cons nopL _ (by decide)]
    rfl
  refine ⟨List.replicate s 0, List.replicate n 0 ++ [word 16 0 0 0 0], ?_, by simp⟩
  unfold transL
  rw [if_neg (by unfold srcFwd; simp only [List.length_append, List.length_cons, spL_len]; have := h1.2.2.2.2.2; have := h2.2.2.2.2.2; simp [jalL, nopL]; omega), hl, read_next (spL_line s hs) (no_lab _) (by rw [num_rep]; simp; omega),
    read_next jal_line (no_lab _) (by rw [num_rep]; simp [numbered]; omega), read_next (spL_line n (by omega)) (no_lab _) (by rw [num_rep, num_rep]; simp [numbered]; omega), read_next nop_line (by simp [addSyms, lookS]) (by rw [num_rep, num_rep]; simp [numbered]; omega), read_next line_nil (no_lab _) (by rw [num_rep, num_rep]; simp [numbered]; omega)]
  simp only [readL, num_rep]
  have hsy : ∀ a b c d e : List Draft, e.length = s + n + 1 → addSyms (addSyms (addSyms (addSyms (addSyms [] a []) b []) c []) e [120]) d [] = [([120], 4 * (s + n + 1))] := by
    intro a b c d e he
    simp [addSyms, he]
  rw [hsy _ _ _ _ _ (by simp [numbered]; omega)]
  simp only [List.nil_append, List.append_assoc]
  rw [code_Z2]
  simp only [numbered, List.map_cons, List.map_nil, List.append_nil, List.nil_append, List.cons_append]
  have hf := fin_jal (((0 + 1 : Nat) : Int) + 1) (4 * (s + n + 1)) (4 * ((List.replicate s (0 : Int)).length : Int)) ((n : Int) + 1) (by simp; omega) (by omega) (by omega)
  rw [code_ok (by rw [hf]), hf, code_Z2, code_ok (by rw [fin_nop]), fin_nop]
  simp [codeL, transR]
end Go.Proofs.YtegaookkfjgepaaDoor
