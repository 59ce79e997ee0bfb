import Derived.Test.YtamjfbcjenocpaaGreatDoorAsmGb
import Derived.Test.YtamjfbcjenocpaaGreatDoorIsaInj
import Derived.Test.YtamjfbcjenocpaaGreatDoorAsmGc
namespace Go.Proofs.YtamjfbcjenocpaaGreatDoor
set_option linter.unusedVariables false
set_option linter.unusedSimpArgs false
open Go.ChangeShapes Go.WideShapes Go.ChangeAt Go.RowKit Go.Proofs.YtamjfbcjenocpaaGreatDoor.Num Go.Proofs.YtamjfbcjenocpaaGreatDoor.Isa Go.Proofs.YtamjfbcjenocpaaGreatDoor.Mem Go.Proofs.YtamjfbcjenocpaaGreatDoor.Asm
theorem hexV_dig (r : Nat) (h : r < 10) : hexV (UInt8.ofNat (48 + r)) = r := by
  have : ∀ k : Fin 10, hexV (UInt8.ofNat (48 + k.val)) = k.val := by decide
  exact this ⟨r, h⟩
theorem digs_dec (n : Nat) : digs 10 (Lib.decDigits n) 0 = some n := by
  induction n using Nat.strongRecOn with
  | _ n ih =>
    rw [dec_form n]
    have hr : n % 10 < 10 := Nat.mod_lt _ (by decide)
    by_cases hn : n < 10
    · rw [if_pos hn]
      simp only [List.nil_append, digs]
      rw [hexV_dig _ hr, if_pos hr]
      congr 1; omega
    · rw [if_neg hn, digs_snoc, ih (n / 10) (by omega)]
      simp only [Option.bind_some]
      rw [hexV_dig _ hr, if_pos hr]
      congr 1; omega
theorem dec_len (k : Nat) : ∀ n, n < 10 ^ (k + 1) → (Lib.decDigits n).length ≤ k + 1 := by
  induction k with
  | zero => intro n h; rw [dec_form n, if_pos (by simpa using h)]; simp
  | succ k ih =>
    intro n h
    rw [dec_form n]
    split
    · simp
    · have := ih (n / 10) (by rw [Nat.pow_succ] at h; omega)
      simp; omega
theorem dec_digs (n : Nat) (h : n < 10000000000) : digsR 10 10 (Lib.decDigits n) = some n := by
  unfold digsR
  rw [if_neg (by
    have := dec_len 9 n (by simpa using h)
    rintro (h | h)
    · exact dec_ne _ h
    · omega)]
  exact digs_dec n
theorem dec_x (n : Nat) : Lib.hasPrefix (Lib.decDigits n) [48, 120] = false := by
  by_cases h : Lib.hasPrefix (Lib.decDigits n) [48, 120] = true
  · unfold Lib.hasPrefix at h
    have : (120 : UInt8) ∈ Lib.decDigits n := by
      obtain ⟨t, ht⟩ := List.isPrefixOf_iff_prefix.1 h
      rw [← ht]; simp
    have := dec_mem n 120 this
    simp at this
  · simpa using h
theorem dec_minus (n : Nat) : Lib.hasPrefix (Lib.decDigits n) [45] = false := by
  by_cases h : Lib.hasPrefix (Lib.decDigits n) [45] = true
  · unfold Lib.hasPrefix at h
    have : (45 : UInt8) ∈ Lib.decDigits n := by
      obtain ⟨t, ht⟩ := List.isPrefixOf_iff_prefix.1 h
      rw [← ht]; simp
    have := dec_mem n 45 this
    simp at this
  · simpa using h
theorem num_itoa (m : Int) (h0 : -2147483648 ≤ m) (h1 : m ≤ 4294967295) : numL (Lib.itoa m) = some m := by
  unfold Lib.itoa
  split
  · rename_i hm
    unfold numL
    rw [if_neg (by unfold Lib.hasPrefix; simp [List.isPrefixOf])]
    have e : Lib.trimPrefix (45 :: Lib.decDigits m.natAbs) [45] = Lib.decDigits m.natAbs := by
      unfold Lib.trimPrefix Lib.hasPrefix; simp [List.isPrefixOf]
    rw [e, dec_digs _ (by omega)]
    have e2 : Lib.hasPrefix (45 :: Lib.decDigits m.natAbs) [45] = true := by unfold Lib.hasPrefix; simp [List.isPrefixOf]
    dsimp only
    rw [if_pos e2, if_neg (by omega)]
    congr 1; omega
  · rename_i hm
    unfold numL
    rw [if_neg (by rw [dec_x]; decide)]
    have e : Lib.trimPrefix (Lib.decDigits m.toNat) [45] = Lib.decDigits m.toNat := by
      unfold Lib.trimPrefix; rw [dec_minus]; simp
    rw [e, dec_digs _ (by omega)]
    dsimp only
    rw [dec_minus]
    simp only [Bool.false_eq_true, if_false]
    rw [if_neg (by omega)]
    congr 1; omega
theorem name_num (s : Bs) (c : UInt8) (l : Bs) (h : s = c :: l) (hc : letB (c.toNat : Int) = false) : nameB s = false := by
  subst h
  unfold nameB
  rw [List.headD_cons, hc]; simp
theorem name_itoa (m : Int) : nameB (Lib.itoa m) = false := by
  have hmem := itoa_mem m
  cases hs : Lib.itoa m with
  | nil =>
    unfold Lib.itoa at hs
    split at hs
    · cases hs
    · exact absurd hs (dec_ne _)
  | cons c l =>
    refine name_num _ c l rfl ?_
    have := hmem c (by rw [hs]; simp)
    unfold letB
    rcases this with rfl | h
    · decide
    · simp; omega
theorem val_itoa (m : Int) (h0 : -2147483648 ≤ m) (h1 : m ≤ 4294967295) : valL (Lib.itoa m) = some (m, []) := by
  unfold valL
  rw [if_neg (by rw [name_itoa]; decide), num_itoa m h0 h1]; rfl
theorem reg_itoa (r : Int) (h0 : 0 ≤ r) (h1 : r ≤ 15) : regL (114 :: Lib.itoa r) = some r.toNat := by
  have : ∀ k : Fin 16, regL (114 :: Lib.itoa (k.val : Int)) = some k.val := by decide +kernel
  have h := this ⟨r.toNat, by omega⟩
  simp only at h
  rwa [Int.toNat_of_nonneg h0] at h
/-- The pattern of an instruction's operands. -/
def patL (op : Int) : Bs :=
  if lay op = 1 then [65, 44, 66, 44, 67]
  else if lay op = 2 then [65, 44, 66, 44, if 40 ≤ op ∧ op ≤ 45 then 88 else 78]
  else if lay op = 3 then [65, 44, 78, 40, 66, 41]
  else if lay op = 4 then [65, 44, if op = 48 then 88 else 78]
  else []
set_option maxRecDepth 100000 in
theorem mn_stm : ∀ k : Fin 65, lay (k.val : Int) ≠ 0 → (stmOf (mn k.val)).map (fun q => (q.op, q.pat, q.kind)) = some ((k.val : Int), patL k.val, 70) := by decide +kernel
set_option maxRecDepth 100000 in
theorem mn_plain : ∀ k : Fin 65, (mn k.val).all (fun c => sepB c == false && c != 10 && c != 59) = true := by decide +kernel
theorem dig_plain (c : UInt8) (h : c = 45 ∨ 48 ≤ c.toNat ∧ c.toNat ≤ 57) : sepB c = false ∧ c ≠ 10 ∧ c ≠ 59 := by
  rcases h with rfl | h
  · decide
  · have : ∀ k : Fin 10, sepB (UInt8.ofNat (48 + k.val)) = false ∧ UInt8.ofNat (48 + k.val) ≠ 10 ∧ UInt8.ofNat (48 + k.val) ≠ 59 := by decide
    have h2 := this ⟨c.toNat - 48, by omega⟩
    simp only [show 48 + (c.toNat - 48) = c.toNat by omega, UInt8.ofNat_toNat] at h2
    exact h2
/-- No separator, no end of a line, no comment. -/
def Plain (q : Bs) : Prop := ∀ c ∈ q, sepB c = false ∧ c ≠ 10 ∧ c ≠ 59
theorem itoa_plain (m : Int) : Plain (Lib.itoa m) := fun c hc => dig_plain c (itoa_mem m c hc)
theorem reg_plain (m : Int) : Plain (114 :: Lib.itoa m) := by
  intro c hc
  rcases List.mem_cons.1 hc with rfl | h
  · decide
  · exact itoa_plain m c h
theorem tok_end {q : Bs} (h : Plain q) (hne : q ≠ []) : tokGo [] q = [q] := by
  have := tokGo_skip q [] [] (fun c hc => (h c hc).1)
  rw [List.append_nil, List.nil_append] at this
  rw [this]; unfold tokGo; rw [if_neg hne]
theorem tok_cut {q : Bs} (h : Plain q) (hne : q ≠ []) (c : UInt8) (hc : sepB c = true) (r : Bs) : tokGo [] (q ++ c :: r) = [q] ++ (if c = 32 then [] else [[c]]) ++ tokGo [] r := by
  rw [tokGo_skip q [] _ (fun c hc => (h c hc).1), List.nil_append]
  conv => lhs; unfold tokGo
  rw [if_pos hc, if_neg hne]
theorem tok_blank (r : Bs) : tokGo [] (32 :: r) = tokGo [] r := by
  conv => lhs; unfold tokGo
  rw [if_pos (by decide)]; simp
theorem tok_comma {q : Bs} (h : Plain q) (hne : q ≠ []) (r : Bs) : tokGo [] (q ++ 44 :: 32 :: r) = q :: [44] :: tokGo [] r := by
  rw [tok_cut h hne 44 (by decide), tok_blank]; simp
/-- The tokens behind the name. -/
def opToks (o a b c m : Int) : List Bs :=
  if lay o = 1 then [114 :: Lib.itoa a, [44], 114 :: Lib.itoa b, [44], 114 :: Lib.itoa c]
  else if lay o = 2 then [114 :: Lib.itoa a, [44], 114 :: Lib.itoa b, [44], Lib.itoa m]
  else if lay o = 3 then [114 :: Lib.itoa a, [44], Lib.itoa m, [40], 114 :: Lib.itoa b, [41]]
  else if lay o = 4 then [114 :: Lib.itoa a, [44], Lib.itoa m]
  else []
theorem itoa_ne (m : Int) : Lib.itoa m ≠ [] := by
  unfold Lib.itoa
  split
  · simp
  · exact dec_ne _
theorem mn_ne {o : Int} (hl : lay o ≠ 0) (h1 : 1 ≤ o) (h2 : o ≤ 64) : mn o.toNat ≠ [] := by
  refine mn_some ⟨o.toNat, by omega⟩ ?_
  simp only; rw [Int.toNat_of_nonneg (by omega)]; exact hl
theorem mn_pl {o : Int} (h1 : 1 ≤ o) (h2 : o ≤ 64) : Plain (mn o.toNat) := by
  intro c hc
  have := List.all_eq_true.1 (mn_plain ⟨o.toNat, by omega⟩) c hc
  simpa [and_assoc] using this
theorem fmt_toks {o a b c m : Int} (h : Ok o a b c m) : tokGo [] (mn o.toNat ++ tailL o a b c m) = mn o.toNat :: opToks o a b c m := by
  have hb := ok_bound h
  have p0 := mn_pl hb.1 hb.2.1
  have n0 := mn_ne h.1 hb.1 hb.2.1
  have pr : ∀ x, Plain (114 :: Lib.itoa x) := reg_plain
  have nr : ∀ x, (114 :: Lib.itoa x : Bs) ≠ [] := fun x => by simp
  unfold tailL opToks
  rcases kind_lay o with k | k | k | k | k | k
  · exact absurd k h.1
  · rw [if_pos k, if_pos k, tok_cut p0 n0 32 (by decide)]
    have e1 := tok_comma (pr a) (nr a) (114 :: (Lib.itoa b ++ 44 :: 32 :: 114 :: Lib.itoa c))
    have e2 := tok_comma (pr b) (nr b) (114 :: Lib.itoa c)
    simp only [List.cons_append] at e1 e2
    rw [e1, e2, tok_end (pr c) (nr c)]; rfl
  · rw [if_neg (by omega), if_pos k, if_neg (by omega), if_pos k, tok_cut p0 n0 32 (by decide)]
    have e1 := tok_comma (pr a) (nr a) (114 :: (Lib.itoa b ++ 44 :: 32 :: Lib.itoa m))
    have e2 := tok_comma (pr b) (nr b) (Lib.itoa m)
    simp only [List.cons_append] at e1 e2
    rw [e1, e2, tok_end (itoa_plain m) (itoa_ne m)]; rfl
  · rw [if_neg (by omega), if_neg (by omega), if_pos k, if_neg (by omega), if_neg (by omega), if_pos k, tok_cut p0 n0 32 (by decide)]
    have e1 := tok_comma (pr a) (nr a) (Lib.itoa m ++ 40 :: 114 :: (Lib.itoa b ++ [41]))
    have e2 := tok_cut (itoa_plain m) (itoa_ne m) 40 (by decide) (114 :: (Lib.itoa b ++ [41]))
    have e3 := tok_cut (pr b) (nr b) 41 (by decide) []
    simp only [List.cons_append] at e1 e2 e3
    rw [e1, e2, e3]; rfl
  · rw [if_neg (by omega), if_neg (by omega), if_neg (by omega), if_pos k, if_neg (by omega), if_neg (by omega), if_neg (by omega), if_pos k, tok_cut p0 n0 32 (by decide)]
    have e1 := tok_comma (pr a) (nr a) (Lib.itoa m)
    simp only [List.cons_append] at e1
    rw [e1, tok_end (itoa_plain m) (itoa_ne m)]; rfl
  · rw [if_neg (by omega), if_neg (by omega), if_neg (by omega), if_neg (by omega), if_neg (by omega), if_neg (by omega), if_neg (by omega), if_neg (by omega), List.append_nil, tok_end p0 n0]
theorem fmt_pl {o a b c m : Int} (h : Ok o a b c m) : ∀ d ∈ mn o.toNat ++ tailL o a b c m, d ≠ 10 ∧ d ≠ 59 := by
  have hb := ok_bound h
  have p0 := mn_pl hb.1 hb.2.1
  have pi : ∀ x, ∀ d ∈ Lib.itoa x, d ≠ 10 ∧ d ≠ 59 := fun x d hd => (itoa_plain x d hd).2
  intro d hd
  rcases List.mem_append.1 hd with hd | hd
  · exact (p0 d hd).2
  · unfold tailL at hd
    repeat' split at hd
    all_goals simp only [List.mem_cons, List.mem_append, List.not_mem_nil, or_false] at hd
    · rcases hd with rfl | rfl | hd | rfl | rfl | rfl | hd | rfl | rfl | rfl | hd
      all_goals first | decide | exact pi _ _ hd
    · rcases hd with rfl | rfl | hd | rfl | rfl | rfl | hd | rfl | rfl | hd
      all_goals first | decide | exact pi _ _ hd
    · rcases hd with rfl | rfl | hd | rfl | rfl | hd | rfl | rfl | hd | rfl
      all_goals first | decide | exact pi _ _ hd
    · rcases hd with rfl | rfl | hd | rfl | rfl | hd
      all_goals first | decide | exact pi _ _ hd
theorem takeW_all {p : UInt8 → Bool} : ∀ l : Bs, (∀ d ∈ l, p d = true) → l.takeWhile p = l
  | [], _ => rfl
  | c :: l, h => by
    rw [List.takeWhile_cons_of_pos (h c (by simp)), takeW_all l (fun d hd => h d (by simp [hd]))]
theorem toks_line {l : Bs} (h : ∀ d ∈ l, d ≠ 10 ∧ d ≠ 59) : toksL l = tokGo [] l := by
  unfold toksL
  congr 1
  exact takeW_all l fun d hd => by simpa using (h d hd).2
theorem ops_fmt {o a b c m : Int} (h : Ok o a b c m) : opsL (patL o) (opToks o a b c m) = some ⟨a, b, c, m, []⟩ := by
  have hb := ok_bound h
  obtain ⟨g0, g1, g2, g3, g4, g5, g6, g7, g8, g9, g10, g11⟩ := h
  have ra := reg_itoa a g1 g2
  have rb := reg_itoa b g3 g4
  have rc := reg_itoa c g5 g6
  have nm := num_itoa m (by omega) (by omega)
  have vm := val_itoa m (by omega) (by omega)
  have ea := Int.toNat_of_nonneg g1
  have eb := Int.toNat_of_nonneg g3
  have ec := Int.toNat_of_nonneg g5
  have hm0 : lay o = 1 ∨ lay o = 5 → m = 0 := by
    rcases Isa.kind o with k | k | k | k | k | k | k | k | k | k | k <;> obtain ⟨k1, k2, k3, k4, k5⟩ := k <;> omega
  rcases kind_lay o with k | k | k | k | k | k
  · exact absurd k g0
  · have e1 : patL o = [65, 44, 66, 44, 67] := by simp [patL, k]
    have e2 : opToks o a b c m = [114 :: Lib.itoa a, [44], 114 :: Lib.itoa b, [44], 114 :: Lib.itoa c] := by simp [opToks, k]
    have := hm0 (Or.inl k); subst this
    rw [e1, e2]
    simp [opsL, opsGo, opStep, ra, rb, rc, Opds.zero, ea, eb, ec]
  · have e1 : patL o = [65, 44, 66, 44, if 40 ≤ o ∧ o ≤ 45 then 88 else 78] := by simp [patL, k]
    have e2 : opToks o a b c m = [114 :: Lib.itoa a, [44], 114 :: Lib.itoa b, [44], Lib.itoa m] := by simp [opToks, k]
    have : c = 0 := by omega
    subst this
    rw [e1, e2]
    split <;> simp [opsL, opsGo, opStep, ra, rb, nm, vm, Opds.zero, ea, eb]
  · have e1 : patL o = [65, 44, 78, 40, 66, 41] := by simp [patL, k]
    have e2 : opToks o a b c m = [114 :: Lib.itoa a, [44], Lib.itoa m, [40], 114 :: Lib.itoa b, [41]] := by simp [opToks, k]
    have : c = 0 := by omega
    subst this
    rw [e1, e2]
    simp [opsL, opsGo, opStep, ra, rb, nm, vm, Opds.zero, ea, eb]
  · have e1 : patL o = [65, 44, if o = 48 then 88 else 78] := by simp [patL, k]
    have e2 : opToks o a b c m = [114 :: Lib.itoa a, [44], Lib.itoa m] := by simp [opToks, k]
    have : c = 0 := by omega
    subst this
    have : b = 0 := by omega
    subst this
    rw [e1, e2]
    split <;> simp [opsL, opsGo, opStep, ra, nm, vm, Opds.zero, ea]
  · have e1 : patL o = [] := by simp [patL, k]
    have e2 : opToks o a b c m = [] := by simp [opToks, k]
    have : a = 0 := g10 k
    subst this
    have : b = 0 := by omega
    subst this
    have : c = 0 := by omega
    subst this
    have := hm0 (Or.inr k); subst this
    rw [e1, e2]
    rfl
theorem stmt_fmt {o a b c m : Int} (h : Ok o a b c m) : stmtL (mn o.toNat :: opToks o a b c m) = some [⟨0, 0, o, a, b, c, m, []⟩] := by
  have hb := ok_bound h
  have e0 : ((o.toNat : Nat) : Int) = o := Int.toNat_of_nonneg (by omega)
  have e := mn_stm ⟨o.toNat, by omega⟩ (by simp only; rw [e0]; exact h.1)
  simp only [e0] at e
  cases hq : stmOf (mn o.toNat) with
  | none => rw [hq] at e; cases e
  | some q =>
    rw [hq] at e
    simp at e
    obtain ⟨e1, e2, e3⟩ := e
    simp only [stmtL, hq, Option.bind_some, e2, ops_fmt h, e3]
    unfold wordsL
    rw [if_pos rfl, e1]
theorem label_fmt {o a b c m : Int} (h : Ok o a b c m) : labelL (mn o.toNat :: opToks o a b c m) = some ([], mn o.toNat :: opToks o a b c m) := by
  unfold opToks
  repeat' split
  all_goals first | rfl | (unfold labelL; rw [if_neg (by simp)])
theorem line_fmt {o a b c m : Int} (h : Ok o a b c m) {l : Bs} (hl : toksL l = mn o.toNat :: opToks o a b c m) : lineR l = some ([], [⟨0, 0, o, a, b, c, m, []⟩]) := by
  unfold lineR
  rw [hl, label_fmt h]
  simp only [Option.bind_some, stmt_fmt h]; rfl
end Go.Proofs.YtamjfbcjenocpaaGreatDoor

namespace Go.Proofs.YtamjfbcjenocpaaGreatDoor
set_option linter.unusedVariables false
set_option linter.unusedSimpArgs false
open Go.ChangeShapes Go.WideShapes Go.ChangeAt Go.RowKit Go.Proofs.YtamjfbcjenocpaaGreatDoor.Num Go.Proofs.YtamjfbcjenocpaaGreatDoor.Isa Go.Proofs.YtamjfbcjenocpaaGreatDoor.Mem Go.Proofs.YtamjfbcjenocpaaGreatDoor.Asm
theorem hexC_all : ∀ k : Fin 16, hexV (hexC k.val) = k.val ∧ sepB (hexC k.val) = false ∧ hexC k.val ≠ 10 ∧ hexC k.val ≠ 59 := by decide
theorem digs_hex (n : Nat) : digs 16 (hexG n) 0 = some n := by
  induction n using Nat.strongRecOn with
  | _ n ih =>
    rw [hexG_form n]
    have hr : n % 16 < 16 := Nat.mod_lt _ (by decide)
    have hv := (hexC_all ⟨n % 16, hr⟩).1
    simp only at hv
    by_cases hn : n < 16
    · rw [if_pos hn]
      simp only [List.nil_append, digs]
      rw [hv, if_pos hr]
      congr 1; omega
    · rw [if_neg hn, digs_snoc, ih (n / 16) (by omega)]
      simp only [Option.bind_some]
      rw [hv, if_pos hr]
      congr 1; omega
theorem hexG_plain (n : Nat) : Plain (hexG n) := by
  induction n using Nat.strongRecOn with
  | _ n ih =>
    intro d hd
    rw [hexG_form n, List.mem_append] at hd
    have hr : n % 16 < 16 := Nat.mod_lt _ (by decide)
    rcases hd with hd | hd
    · by_cases hn : n < 16
      · rw [if_pos hn] at hd; simp at hd
      · rw [if_neg hn] at hd; exact ih (n / 16) (by omega) d hd
    · simp at hd
      subst hd
      exact (hexC_all ⟨n % 16, hr⟩).2
theorem digs_zero (l : Bs) : ∀ k, digs 16 (List.replicate k 48 ++ l) 0 = digs 16 l 0
  | 0 => by simp
  | k + 1 => by
    rw [List.replicate_succ, List.cons_append]
    simp only [digs]
    rw [show hexV 48 = 0 by decide, if_pos (by decide)]
    simpa using digs_zero l k
theorem hexPad_len (n : Nat) (h : n < 4294967296) : (hexPad n).length = 8 := by
  have := hexG_len 7 n (by simpa using h)
  unfold hexPad; simp; omega
theorem hexPad_plain (n : Nat) : Plain (hexPad n) := by
  intro d hd
  rcases List.mem_append.1 hd with hd | hd
  · have := List.eq_of_mem_replicate hd; subst this; decide
  · exact hexG_plain n d hd
def hexT (n : Nat) : Bs := 48 :: 120 :: hexPad n
theorem hexT_plain (n : Nat) : Plain (hexT n) := by
  intro d hd
  rcases List.mem_cons.1 hd with rfl | hd
  · decide
  · rcases List.mem_cons.1 hd with rfl | hd
    · decide
    · exact hexPad_plain n d hd
theorem num_hex (n : Nat) (h : n < 4294967296) : numL (hexT n) = some (n : Int) := by
  have hl := hexPad_len n h
  unfold numL
  rw [if_pos (by unfold hexT Lib.hasPrefix; simp [List.isPrefixOf])]
  have e : (hexT n).drop 2 = hexPad n := rfl
  rw [e]
  unfold digsR
  rw [if_neg (by
    rintro (h | h)
    · rw [h] at hl; simp at hl
    · omega)]
  unfold hexPad
  rw [digs_zero, digs_hex]; rfl
theorem val_hex (n : Nat) (h : n < 4294967296) : valL (hexT n) = some ((n : Int), []) := by
  unfold valL
  rw [if_neg (by rw [name_num (hexT n) 48 (120 :: hexPad n) rfl (by decide)]; decide), num_hex n h]; rfl
def wT : Bs := [46, 119, 111, 114, 100]
set_option maxRecDepth 100000 in
theorem wT_stm : (stmOf wT).map (fun q => (q.pat, q.kind)) = some ([88], 72) := by decide +kernel
theorem wT_plain : Plain wT := fun c hc => (show ∀ c ∈ wT, sepB c = false ∧ c ≠ 10 ∧ c ≠ 59 by decide) c hc
/-- A word's line. -/
def wordL (w : Int) : Bs := if dOk w then mn (dOp w).toNat ++ tailL (dOp w) (dA w) (dB w) (dC w) (dM w) else wT ++ 32 :: hexT w.toNat
def toksW (w : Int) : List Bs := if dOk w then mn (dOp w).toNat :: opToks (dOp w) (dA w) (dB w) (dC w) (dM w) else [wT, hexT w.toNat]
def dftL (w : Int) : Draft := if dOk w then ⟨0, 0, dOp w, dA w, dB w, dC w, dM w, []⟩ else ⟨0, 1, 0, 0, 0, 0, w, []⟩
theorem word_pl (w : Int) : ∀ d ∈ wordL w, d ≠ 10 ∧ d ≠ 59 := by
  unfold wordL
  split
  · rename_i h; exact fmt_pl h
  · intro d hd
    rcases List.mem_append.1 hd with hd | hd
    · exact (wT_plain d hd).2
    · rcases List.mem_cons.1 hd with rfl | hd
      · decide
      · exact (hexT_plain _ d hd).2
theorem word_toks (w : Int) : tokGo [] (wordL w) = toksW w := by
  unfold wordL toksW
  split
  · rename_i h; exact fmt_toks h
  · rw [tok_cut wT_plain (by decide) 32 (by decide), tok_end (hexT_plain _) (by unfold hexT; simp)]; rfl
theorem line_word {w : Int} (h0 : 0 ≤ w) (h1 : w ≤ 4294967295) {l : Bs} (hl : toksL l = toksW w) : lineR l = some ([], [dftL w]) := by
  unfold toksW at hl
  unfold dftL
  split at hl
  · rename_i h
    rw [if_pos h]
    exact line_fmt h hl
  · rename_i h
    rw [if_neg h]
    unfold lineR
    rw [hl]
    have e0 : labelL [wT, hexT w.toNat] = some ([], [wT, hexT w.toNat]) := by
      have : ¬ hexT w.toNat = [58] := by unfold hexT; simp
      unfold labelL
      dsimp only
      rw [if_neg this]
    rw [e0]
    have e := wT_stm
    cases hq : stmOf wT with
    | none => rw [hq] at e; cases e
    | some q =>
      rw [hq] at e
      simp at e
      obtain ⟨e1, e2⟩ := e
      have ho : opsL [88] [hexT w.toNat] = some ⟨0, 0, 0, w, []⟩ := by
        have := val_hex w.toNat (by omega)
        rw [Int.toNat_of_nonneg h0] at this
        simp [opsL, opsGo, opStep, this, Opds.zero]
      simp only [Option.bind_some, stmtL, hq, e1, ho, e2]
      unfold wordsL
      rw [if_neg (by decide), if_neg (by decide), if_pos rfl]; rfl
theorem fin_word {w : Int} (h0 : 0 ≤ w) (h1 : w ≤ 4294967295) (syms : List (Bs × Nat)) (n at' : Int) : finL syms { dftL w with line := n } at' = (w, 0) := by
  unfold dftL
  split
  · rename_i h
    have hw := word_dec h h0 h1
    unfold dOk at h
    unfold finL finX
    simp only [if_true]
    unfold finR
    simp only
    rw [if_neg (by omega), if_neg (by omega), if_neg (by omega), encI_ok h, hw]
  · unfold finL finX
    simp only [if_true]
    unfold finR
    simp only [if_true]
    congr 1; omega
/-- The lines hold the words, in their order, and else nothing. -/
inductive LinesOf : List Int → List Bs → Prop
  | nil : LinesOf [] []
  | skip {l : Bs} {ws : List Int} {ls : List Bs} : toksL l = [] → LinesOf ws ls → LinesOf ws (l :: ls)
  | word {l : Bs} {w : Int} {ws : List Int} {ls : List Bs} : toksL l = toksW w → LinesOf ws ls → LinesOf (w :: ws) (l :: ls)
def U32s (ws : List Int) : Prop := ∀ w ∈ ws, 0 ≤ w ∧ w ≤ 4294967295
theorem read_of {ws : List Int} {ls : List Bs} (h : LinesOf ws ls) : U32s ws → ∀ (i : Nat) (syms : List (Bs × Nat)) (ds : List Draft), ds.length + ws.length ≤ 1024 →
    ∃ ns : List (Int × Int), readL ls i syms ds = .inr (syms, ds ++ ns.map fun p => { dftL p.1 with line := p.2 }) ∧ ns.map Prod.fst = ws := by
  induction h with
  | nil => intro _ i syms ds _; exact ⟨[], by simp [readL], rfl⟩
  | @skip l ws ls h _ ih =>
    intro hu i syms ds hb
    have hl : lineR l = some ([], []) := by unfold lineR; rw [h]; rfl
    rw [read_next hl (fun h => h.1 rfl) (by simp [numbered]; omega)]
    have e1 : addSyms syms ds [] = syms := by unfold addSyms; rw [if_pos rfl]
    have e2 : ds ++ numbered ((i : Int) + 1) [] = ds := by simp [numbered]
    rw [e1, e2]
    exact ih hu (i + 1) syms ds hb
  | @word l w ws ls h _ ih =>
    intro hu i syms ds hb
    have hw := hu w (by simp)
    have hl := line_word hw.1 hw.2 h
    simp only [List.length_cons] at hb
    rw [read_next hl (fun h => h.1 rfl) (by simp [numbered]; omega)]
    have e1 : addSyms syms ds [] = syms := by unfold addSyms; rw [if_pos rfl]
    rw [e1]
    obtain ⟨ns, h1, h2⟩ := ih (fun x hx => hu x (by simp [hx])) (i + 1) syms (ds ++ numbered ((i : Int) + 1) [dftL w]) (by simp [numbered]; omega)
    exact ⟨(w, (i : Int) + 1) :: ns, by rw [h1]; simp [numbered], by simp [h2]⟩
theorem code_of (syms : List (Bs × Nat)) : ∀ (ns : List (Int × Int)) (acc : List Int), U32s (ns.map Prod.fst) → codeL syms (ns.map fun p => { dftL p.1 with line := p.2 }) acc = .inr (acc ++ ns.map Prod.fst)
  | [], acc, _ => by simp [codeL]
  | p :: ns, acc, h => by
    have hp := h p.1 (by simp)
    have e := fin_word hp.1 hp.2 syms p.2 (4 * (acc.length : Int))
    simp only [List.map_cons]
    rw [code_ok (by rw [e]), e, code_of syms ns _ (fun x hx => h x (by simp at hx ⊢; exact Or.inr hx))]
    simp
theorem trans_of {ws : List Int} {src : Bs} (h : LinesOf ws (linesL src)) (hu : U32s ws) (hn : ws.length ≤ 1024) (hs : src.length ≤ 8192) : transL src = .inr (ws, []) := by
  obtain ⟨ns, h1, h2⟩ := read_of h hu 0 [] [] (by simpa using hn)
  unfold transL
  rw [if_neg (by omega), h1]
  simp only [List.nil_append]
  rw [code_of [] ns [] (by rw [h2]; exact hu), h2]; rfl
/-- The text of words. -/
def disL (ws : List Int) : Bs := (ws.map fun w => wordL w ++ [10]).flatten
theorem disL_cons (w : Int) (ws : List Int) : disL (w :: ws) = wordL w ++ 10 :: disL ws := by simp [disL]
theorem lines_of_dis : ∀ ws : List Int, LinesOf ws (linesL (disL ws))
  | [] => .skip (by decide) .nil
  | w :: ws => by
    unfold linesL
    rw [disL_cons, lineGo_skip _ [] _ (fun c hc => (word_pl w c hc).1)]
    simp only [List.nil_append, lineGo, if_true]
    exact .word (by rw [toks_line (word_pl w), word_toks]) (lines_of_dis ws)
def semiL : Bs := [32, 59, 32, 120, 32, 121, 44, 32, 122]
/-- What stands for a byte of the spaced text. -/
def outC (k : Nat) (o : Bool) (c : UInt8) : Bs :=
  if c = 32 ∨ c = 44 then c :: List.replicate k 32 else if c = 10 then semiL ++ 10 :: (if o = true then [10, 32, 32, 32, 10, 59, 10] else []) else [c]
def sprL (k : Nat → Nat) (o : Nat → Bool) : Nat → Bs → Bs
  | _, [] => []
  | i, c :: l => outC (k i) (o i) c ++ sprL k o (i + 1) l
theorem sprL_app (k : Nat → Nat) (o : Nat → Bool) (b : Bs) : ∀ (a : Bs) (i : Nat), sprL k o i (a ++ b) = sprL k o i a ++ sprL k o (i + a.length) b
  | [], i => by simp [sprL]
  | c :: a, i => by
    simp only [List.cons_append, sprL, List.append_assoc, List.length_cons]
    rw [sprL_app k o b a (i + 1), show i + 1 + a.length = i + (a.length + 1) by omega]
theorem sprL_snoc (k : Nat → Nat) (o : Nat → Bool) (l : Bs) (i : Nat) (h : i < l.length) : sprL k o 0 (l.take (i + 1)) = sprL k o 0 (l.take i) ++ outC (k i) (o i) l[i] := by
  rw [List.take_add_one, List.getElem?_eq_getElem h, sprL_app]
  have : min i l.length = i := by omega
  simp [sprL, this]
theorem tok_blanks (r : Bs) : ∀ k, tokGo [] (List.replicate k 32 ++ r) = tokGo [] r
  | 0 => by simp
  | k + 1 => by rw [List.replicate_succ, List.cons_append, tok_blank, tok_blanks r k]
theorem spr_tok (k : Nat → Nat) (o : Nat → Bool) : ∀ (l p : Bs) (i : Nat), (∀ d ∈ l, d ≠ 10) → tokGo p (sprL k o i l) = tokGo p l
  | [], p, i, _ => rfl
  | c :: l, p, i, h => by
    have hc := h c (by simp)
    have hl : ∀ d ∈ l, d ≠ 10 := fun d hd => h d (by simp [hd])
    simp only [sprL, outC]
    by_cases h1 : c = 32 ∨ c = 44
    · have hs : sepB c = true := by rcases h1 with rfl | rfl <;> decide
      rw [if_pos h1, List.cons_append]
      simp only [tokGo]
      rw [if_pos hs, if_pos hs, tok_blanks, spr_tok k o l [] _ hl]
    · rw [if_neg h1, if_neg hc, List.cons_append, List.nil_append]
      simp only [tokGo]
      rw [spr_tok k o l [] _ hl, spr_tok k o l _ _ hl]
theorem spr_pl (k : Nat → Nat) (o : Nat → Bool) : ∀ (l : Bs) (i : Nat), (∀ d ∈ l, d ≠ 10 ∧ d ≠ 59) → ∀ d ∈ sprL k o i l, d ≠ 10 ∧ d ≠ 59
  | [], i, _, d, hd => by simp [sprL] at hd
  | c :: l, i, h, d, hd => by
    have hc := h c (by simp)
    simp only [sprL, List.mem_append] at hd
    rcases hd with hd | hd
    · unfold outC at hd
      split at hd
      · rcases List.mem_cons.1 hd with rfl | hd
        · exact hc
        · have := List.eq_of_mem_replicate hd; subst this; decide
      · rw [if_neg hc.1] at hd
        simp at hd; subst hd; exact hc
    · exact spr_pl k o l (i + 1) (fun x hx => h x (by simp [hx])) d hd
theorem tok_trail : ∀ (l p : Bs), tokGo p (l ++ [32]) = tokGo p l
  | [], p => by
    simp only [List.nil_append, tokGo]
    rw [if_pos (by decide)]; simp
  | c :: l, p => by
    simp only [List.cons_append, tokGo]
    rw [tok_trail l [], tok_trail l _]
theorem toks_semi {q : Bs} (h : ∀ d ∈ q, d ≠ 10 ∧ d ≠ 59) : toksL (q ++ semiL) = tokGo [] q := by
  unfold toksL
  have e : (q ++ semiL).takeWhile (· != 59) = q ++ [32] := by
    rw [List.takeWhile_append_of_pos (fun d hd => by simpa using (h d hd).2)]
    rfl
  rw [e, tok_trail]
theorem lines_of_spr (k : Nat → Nat) (o : Nat → Bool) : ∀ (ws : List Int) (i : Nat), LinesOf ws (linesL (sprL k o i (disL ws)))
  | [], i => .skip (by decide) .nil
  | w :: ws, i => by
    have hp := spr_pl k o (wordL w) i (word_pl w)
    have e1 : sprL k o i (disL (w :: ws)) = (sprL k o i (wordL w) ++ semiL) ++ 10 :: ((if o (i + (wordL w).length) = true then [10, 32, 32, 32, 10, 59, 10] else []) ++ sprL k o (i + (wordL w).length + 1) (disL ws)) := by
      rw [disL_cons, sprL_app]
      simp only [sprL, outC]
      rw [if_neg (by decide)]
      simp only [if_true, List.append_assoc, List.cons_append]
    have hq : ∀ c ∈ sprL k o i (wordL w) ++ semiL, c ≠ 10 := by
      intro c hc
      rcases List.mem_append.1 hc with hc | hc
      · exact (hp c hc).1
      · have : ∀ c ∈ semiL, c ≠ 10 := by decide
        exact this c hc
    have ih := lines_of_spr k o ws (i + (wordL w).length + 1)
    unfold linesL at ih ⊢
    rw [e1, lineGo_skip _ [] _ hq]
    simp only [List.nil_append, lineGo, if_true]
    refine .word (by rw [toks_semi hp, spr_tok k o _ _ _ (fun d hd => (word_pl w d hd).1), word_toks]) ?_
    split
    · exact .skip (l := []) (by decide) (.skip (l := [32, 32, 32]) (by decide) (.skip (l := [59]) (by decide) ih))
    · exact ih
theorem trans_dis {ws : List Int} (hu : U32s ws) (hn : ws.length ≤ 1024) (hs : (disL ws).length ≤ 8192) : transL (disL ws) = .inr (ws, []) := trans_of (lines_of_dis ws) hu hn hs
theorem trans_spr {ws : List Int} (k : Nat → Nat) (o : Nat → Bool) (hu : U32s ws) (hn : ws.length ≤ 1024) (hs : (sprL k o 0 (disL ws)).length ≤ 8192) : transL (sprL k o 0 (disL ws)) = .inr (ws, []) := trans_of (lines_of_spr k o ws 0) hu hn hs
end Go.Proofs.YtamjfbcjenocpaaGreatDoor
