import Derived.Test.YtegaookkfjgepaaDoorAsmFn18
namespace Go.Proofs.YtegaookkfjgepaaDoor
set_option linter.unusedVariables false
set_option linter.unusedSimpArgs false
open Go.ChangeShapes Go.WideShapes Go.ChangeAt Go.RowKit Go.Proofs.YtegaookkfjgepaaDoor.Num Go.Proofs.YtegaookkfjgepaaDoor.Isa Go.Proofs.YtegaookkfjgepaaDoor.Mem Go.Proofs.YtegaookkfjgepaaDoor.Asm
theorem dd4 (n : Nat) (h0 : 1000 ≤ n) (h1 : n < 10000) : Lib.decDigits n = [UInt8.ofNat (48 + n / 10 / 10 / 10), UInt8.ofNat (48 + n / 10 / 10 % 10), UInt8.ofNat (48 + n / 10 % 10), UInt8.ofNat (48 + n % 10)] := by
  rw [Lib.decDigits, dif_neg (by omega), Lib.decDigits, dif_neg (by omega), Lib.decDigits, dif_neg (by omega), Lib.decDigits, dif_pos (by omega)]
  rfl
def spH : Bs := [46, 115, 112, 97, 99, 101]
def spT (n : Nat) : Bs := [UInt8.ofNat (48 + n / 10 / 10 / 10), UInt8.ofNat (48 + n / 10 / 10 % 10), UInt8.ofNat (48 + n / 10 % 10), UInt8.ofNat (48 + n % 10)]
def spaceL (n : Nat) : Bs := spH ++ 32 :: spT n
set_option maxRecDepth 100000 in
theorem sp_all : ∀ k : Fin 25, toksL (spaceL (1000 + k.val)) = [spH, spT (1000 + k.val)] ∧ numL (spT (1000 + k.val)) = some ((1000 + k.val : Nat) : Int) ∧ (spaceL (1000 + k.val)).all (· != 10) = true := by decide +kernel
theorem sp_one (n : Nat) (h0 : 1000 ≤ n) (h1 : n ≤ 1024) : toksL (spaceL n) = [spH, spT n] ∧ numL (spT n) = some (n : Int) ∧ ∀ c ∈ spaceL n, c ≠ 10 := by
  have := sp_all ⟨n - 1000, by omega⟩
  dsimp only at this
  rw [show 1000 + (n - 1000) = n by omega] at this
  refine ⟨this.1, this.2.1, fun c hc => ?_⟩
  have h := List.all_eq_true.1 this.2.2 c hc
  simpa using h
def Z0 : Draft := ⟨0, 1, 0, 0, 0, 0, 0, []⟩
set_option maxRecDepth 100000 in
theorem sp_stm : (stmOf spH).map (fun q => (q.pat, q.kind)) = some ([78], 91) := by decide +kernel
theorem sp_line (n : Nat) (h0 : 1000 ≤ n) (h1 : n ≤ 1024) : lineR (spaceL n) = some ([], List.replicate n Z0) := by
  obtain ⟨e1, e2, _⟩ := sp_one n h0 h1
  have e3 := sp_stm
  cases hq : stmOf spH with
  | none => rw [hq] at e3; cases e3
  | some q =>
    rw [hq] at e3
    simp at e3
    obtain ⟨p1, p2⟩ := e3
    have ho : opsL [78] [spT n] = some { Opds.zero with n := (n : Int) } := by
      simp [opsL, opsGo, opStep, e2]
    have hs : stmtL [spH, spT n] = some (List.replicate n Z0) := by
      change ((stmOf spH).bind fun q => (opsL q.pat [spT n]).bind fun o => wordsL q.kind q.op o) = _
      rw [hq]
      simp only [Option.bind_some]
      rw [p1, p2, ho]
      simp only [Option.bind_some]
      have hr : ¬ ((n : Int) < 0 ∨ 1024 < (n : Int)) := by omega
      simp [wordsL, hr, Z0]
    unfold lineR
    rw [e1]
    have hl : labelL [spH, spT n] = some ([], [spH, spT n]) := by
      simp [labelL, spT]
    rw [hl]
    simp [hs]
def nops (k : Nat) : Bs := (List.replicate k [110, 111, 112, 10]).flatten
def srcW (m k : Nat) : Bs := spaceL m ++ 10 :: nops k
theorem spaceL_len (m : Nat) : (spaceL m).length = 11 := rfl
theorem nops_succ (k : Nat) : nops (k + 1) = 110 :: 111 :: 112 :: 10 :: nops k := rfl
theorem nops_snoc (k : Nat) : nops (k + 1) = nops k ++ [110, 111, 112, 10] := by
  unfold nops; rw [List.replicate_succ']; simp
theorem nops_len (k : Nat) : (nops k).length = 4 * k := by
  induction k with
  | zero => rfl
  | succ k ih => rw [nops_succ]; simp [ih]; omega
theorem line_nil : lineR [] = some ([], []) := rfl
set_option maxRecDepth 100000 in
theorem line_nop : (lineR [110, 111, 112]).map (fun x => (x.1, x.2.length)) = some ([], 1) := by decide +kernel
theorem fin_Z (syms : List (Bs × Nat)) (l at' : Int) : finL syms { Z0 with line := l } at' = (0, 0) := by
  simp [finL, finX, finR, Z0]
theorem code_Z (syms : List (Bs × Nat)) (l : Int) : ∀ (n : Nat) (acc : List Int), codeL syms (List.replicate n { Z0 with line := l }) acc = .inr (acc ++ List.replicate n 0)
  | 0, acc => by simp [codeL]
  | n + 1, acc => by
    rw [List.replicate_succ, code_ok (by rw [fin_Z]), fin_Z, code_Z syms l n]
    simp [List.replicate_succ]
theorem no_lab (syms : List (Bs × Nat)) : ¬ (([] : Bs) ≠ [] ∧ (lookS syms []).isSome = true) := fun h => h.1 rfl
theorem num_rep (n : Nat) (l : Int) : numbered l (List.replicate n Z0) = List.replicate n { Z0 with line := l } := by simp [numbered]
theorem trans_words (m : Nat) (h0 : 1000 ≤ m) (h1 : m ≤ 1024) : transL (srcW m 0) = .inr (List.replicate m 0, []) := by
  have hl : linesL (srcW m 0) = [spaceL m, []] := by
    unfold linesL srcW
    rw [lineGo_skip _ _ _ (sp_one m h0 h1).2.2]
    simp [lineGo, nops]
  unfold transL
  rw [if_neg (by unfold srcW; rw [List.length_append, spaceL_len]; simp [nops]), hl, read_next (sp_line m h0 h1) (no_lab _) (by rw [num_rep]; simp; omega), read_next line_nil (no_lab _) (by rw [num_rep]; simp [numbered]; omega)]
  simp only [readL, addSyms, if_pos, num_rep]
  simp only [numbered, List.map_nil, List.append_nil, List.nil_append]
  rw [code_Z]
  rfl
theorem trans_large (k : Nat) (hk : 1 ≤ k) (hk2 : k ≤ 16) : transL (srcW 1024 k) = .inl (305, 2) := by
  obtain ⟨j, rfl⟩ : ∃ j, k = j + 1 := ⟨k - 1, by omega⟩
  have hl : ∃ r, linesL (srcW 1024 (j + 1)) = spaceL 1024 :: [110, 111, 112] :: r := by
    unfold linesL srcW
    rw [lineGo_skip _ _ _ (sp_one 1024 (by omega) (by omega)).2.2, nops_succ]
    exact ⟨_, by simp [lineGo]; rfl⟩
  obtain ⟨r, hl⟩ := hl
  have hn := line_nop
  cases hx : lineR [110, 111, 112] with
  | none => rw [hx] at hn; cases hn
  | some x =>
    obtain ⟨lab, dd⟩ := x
    rw [hx] at hn
    simp at hn
    obtain ⟨rfl, hd⟩ := hn
    unfold transL
    rw [if_neg (by unfold srcW; rw [List.length_append, spaceL_len, List.length_cons, nops_len]; omega), hl, read_next (sp_line 1024 (by omega) (by omega)) (no_lab _) (by rw [num_rep, List.nil_append, List.length_replicate]; omega), read_large hx (no_lab _) (by rw [num_rep, List.length_append, List.nil_append, List.length_replicate]; unfold numbered; rw [List.length_map, hd]; omega)]
    rfl
theorem semi_tok (n : Nat) (h : 1 ≤ n) : toksL (List.replicate n 59) = [] := by
  obtain ⟨j, rfl⟩ : ∃ j, n = j + 1 := ⟨n - 1, by omega⟩
  rfl
theorem trans_semi (n : Nat) (h0 : 1 ≤ n) (h1 : n ≤ 8192) : transL (List.replicate n 59) = .inr ([], []) := by
  have hl : linesL (List.replicate n 59) = [List.replicate n 59] := by
    unfold linesL
    have := lineGo_skip (List.replicate n 59) [] [] (fun c hc => by rw [List.eq_of_mem_replicate hc]; decide)
    rw [List.append_nil] at this
    rw [this]; simp [lineGo]
  have hr : lineR (List.replicate n 59) = some ([], []) := by
    unfold lineR; rw [semi_tok n h0]; rfl
  unfold transL
  rw [if_neg (by simp; omega), hl, read_next hr (no_lab _) (by simp [numbered])]
  rfl
theorem trans_semi_long (n : Nat) (h1 : 8192 < n) : transL (List.replicate n 59) = .inl (300, 0) := by
  unfold transL
  rw [if_pos (by simp; omega)]
def srcA : Bs := [108, 111, 111, 112, 58, 32, 97, 100, 100, 105, 32, 114, 49, 44, 32, 114, 49, 44, 32, 45, 49, 10, 98, 110, 101, 32, 114, 49, 44, 32, 114, 48, 44, 32, 108, 111, 111, 112, 10]
def srcB : Bs := [106, 97, 108, 32, 114, 49, 44, 32, 110, 111, 119, 104, 101, 114, 101]
set_option maxRecDepth 100000 in
theorem tA : transL srcA = .inr ([269615103, 688979967], [([108, 111, 111, 112], 0)]) := by decide +kernel
set_option maxRecDepth 100000 in
theorem tB : transL srcB = .inl (302, 1) := by decide +kernel
end Go.Proofs.YtegaookkfjgepaaDoor
