/- The assembler in plain terms: bytes, tokens, numbers. No program is named here. -/
import Derived.Lib.ItoaNum
import Derived.Lib.Bytealg
import Derived.Lib.IndexLaws
import Derived.Lib.Strings
import Derived.Laws.Strings
namespace Go.Proofs.YthghbcjaokpilaaDoor.Asm
set_option linter.unusedVariables false
set_option linter.unusedSimpArgs false

abbrev Bs := List UInt8
def S (l : Bs) : ByteArray := ⟨l.toArray⟩
@[simp] theorem S_list (l : Bs) : (S l).data.toList = l := by simp [S]
theorem S_size (l : Bs) : (S l).size = l.length := by simp [S, ByteArray.size]
theorem S_back (s : ByteArray) : S s.data.toList = s := by apply ByteArray.ext; simp [S]
theorem S_inj {a b : Bs} (h : S a = S b) : a = b := by
  have := congrArg (fun s : ByteArray => s.data.toList) h
  simpa using this
theorem toL (s : ByteArray) : s.toList = s.data.toList := ByteArray.toList_eq s
theorem ba_ext {s t : ByteArray} (h : s.data.toList = t.data.toList) : s = t := by
  apply ByteArray.ext; exact Array.toList_inj.1 h
def letB (c : Int) : Bool := decide (97 ≤ c ∧ c ≤ 122)
def digB (c : Int) : Bool := decide (48 ≤ c ∧ c ≤ 57)
def okB (c : Int) : Bool := letB c || digB c || decide (c = 95)
/-- The register that a word names. -/
def regL (s : Bs) : Option Nat := (List.range 16).find? (fun r => s == 114 :: Lib.decDigits r)
theorem regL_some {s : Bs} {k : Nat} (hk : k < 16) (hs : s = 114 :: Lib.decDigits k) (hn : ∀ r, r < k → ¬ s = 114 :: Lib.decDigits r) : regL s = some k := by
  unfold regL
  rw [List.find?_eq_some_iff_append]
  refine ⟨by simp [hs], List.range k, List.range' (k + 1) (15 - k), ?_, fun r hr => ?_⟩
  · have e1 : List.range 16 = List.range' 0 k ++ List.range' k (16 - k) := by
      rw [List.range_eq_range', show (List.range' 0 k ++ List.range' k (16 - k)) = List.range' 0 k ++ List.range' (0 + 1 * k) (16 - k) by simp, List.range'_append]
      congr 1; omega
    rw [e1, List.range_eq_range', show 16 - k = (15 - k) + 1 by omega, List.range'_succ]
  · have := hn r (List.mem_range.1 hr)
    simpa using this
theorem regL_none {s : Bs} (hn : ∀ r, r < 16 → ¬ s = 114 :: Lib.decDigits r) : regL s = none := by
  unfold regL
  rw [List.find?_eq_none]
  intro r hr
  simpa using hn r (List.mem_range.1 hr)
theorem regL_lt {s : Bs} {k : Nat} (h : regL s = some k) : k < 16 := by
  unfold regL at h
  have := List.mem_of_find?_eq_some h
  simpa using this
/-- What a digit counts; 16 of what is none. -/
def hexV (c : UInt8) : Nat := if 48 ≤ c.toNat ∧ c.toNat ≤ 57 then c.toNat - 48 else if 97 ≤ c.toNat ∧ c.toNat ≤ 102 then c.toNat - 87 else 16
theorem hexV_le (c : UInt8) : hexV c ≤ 16 := by unfold hexV; split <;> (try split) <;> omega
def hexD : Bs := [48, 49, 50, 51, 52, 53, 54, 55, 56, 57, 97, 98, 99, 100, 101, 102]
theorem hex_ix16 : ∀ c : Fin 256, Lib.indexByte hexD (UInt8.ofNat c.val) = if hexV (UInt8.ofNat c.val) < 16 then (hexV (UInt8.ofNat c.val) : Int) else -1 := by decide +kernel
theorem hex_ix10 : ∀ c : Fin 256, Lib.indexByte (hexD.take 10) (UInt8.ofNat c.val) = if hexV (UInt8.ofNat c.val) < 10 then (hexV (UInt8.ofNat c.val) : Int) else -1 := by decide +kernel
theorem hex_16 (c : UInt8) : Lib.indexByte hexD c = if hexV c < 16 then (hexV c : Int) else -1 := by
  have := hex_ix16 ⟨c.toNat, c.toNat_lt⟩
  simpa using this
theorem hex_10 (c : UInt8) : Lib.indexByte (hexD.take 10) c = if hexV c < 10 then (hexV c : Int) else -1 := by
  have := hex_ix10 ⟨c.toNat, c.toNat_lt⟩
  simpa using this
def digs (b : Nat) : Bs → Nat → Option Nat
  | [], n => some n
  | c :: l, n => if hexV c < b then digs b l (n * b + hexV c) else none
theorem digs_snoc (b : Nat) (c : UInt8) : ∀ (l : Bs) (n : Nat), digs b (l ++ [c]) n = (digs b l n).bind (fun m => if hexV c < b then some (m * b + hexV c) else none)
  | [], n => by simp [digs]
  | d :: l, n => by
    simp only [List.cons_append, digs]
    split
    · exact digs_snoc b c l _
    · rfl
theorem digs_none (b : Nat) (r : Bs) : ∀ (l : Bs) (n : Nat), digs b l n = none → digs b (l ++ r) n = none
  | [], n, h => by simp [digs] at h
  | d :: l, n, h => by
    simp only [List.cons_append, digs] at h ⊢
    split
    · rename_i hd; rw [if_pos hd] at h; exact digs_none b r l _ h
    · rfl
theorem digs_bd (b : Nat) : ∀ (l : Bs) (n m j : Nat), digs b l n = some m → n < b ^ j → m < b ^ (j + l.length)
  | [], n, m, j, h, hn => by simp [digs] at h; subst h; simpa using hn
  | c :: l, n, m, j, h, hn => by
    simp only [digs] at h
    split at h
    · rename_i hd
      have h1 : n * b + hexV c < b ^ (j + 1) := by
        have : n * b + b ≤ b ^ j * b := by
          have := Nat.mul_le_mul_right b (show n + 1 ≤ b ^ j from hn)
          rw [Nat.add_mul, Nat.one_mul] at this; exact this
        rw [Nat.pow_succ]; omega
      have := digs_bd b l _ m (j + 1) h h1
      rw [List.length_cons]
      rwa [show j + (l.length + 1) = j + 1 + l.length by omega]
    · simp at h
def digsR (b most : Nat) (s : Bs) : Option Nat := if s = [] ∨ most < s.length then none else digs b s 0
theorem digsR_bd {b most : Nat} {s : Bs} {m : Nat} (hb : 1 ≤ b) (h : digsR b most s = some m) : m < b ^ most := by
  unfold digsR at h
  split at h
  · simp at h
  · rename_i hn
    have h1 := digs_bd b s 0 m 0 h (by simp)
    have h2 : s.length ≤ most := by
      simp only [not_or] at hn; omega
    exact Nat.lt_of_lt_of_le h1 (Nat.pow_le_pow_right hb (by omega))
/-- The value of a number. -/
def numL (s : Bs) : Option Int :=
  if Lib.hasPrefix s [48, 120] = true then (digsR 16 8 (s.drop 2)).map (fun n => (n : Int))
  else match digsR 10 10 (Lib.trimPrefix s [45]) with
    | none => none
    | some n =>
      let v : Int := if Lib.hasPrefix s [45] = true then -(n : Int) else n
      if v < -2147483648 ∨ 4294967295 < v then none else some v
theorem numL_bd {s : Bs} {v : Int} (h : numL s = some v) : -2147483648 ≤ v ∧ v ≤ 4294967295 := by
  unfold numL at h
  split at h
  · cases hd : digsR 16 8 (s.drop 2) with
    | none => rw [hd] at h; simp at h
    | some n =>
      rw [hd] at h
      have := digsR_bd (by decide) hd
      simp at h; subst h
      have e : (16 : Nat) ^ 8 = 4294967296 := by decide
      omega
  · split at h
    · simp at h
    · rename_i n hn
      generalize (if Lib.hasPrefix s [45] = true then -(n : Int) else (n : Int)) = x at h
      dsimp only at h
      split at h
      · simp at h
      · simp only [Option.some.injEq] at h; subst h; omega
/-- Is it a name? -/
def nameB (s : Bs) : Bool := (regL s).isNone && decide (s.length ≤ 12) && letB (s.headD 0).toNat && s.all (fun c => okB c.toNat)
/-- The value of an operand that may be a label. -/
def valL (s : Bs) : Option (Int × Bs) := if nameB s = true then some (0, s) else (numL s).map (fun n => (n, []))
/-- What a pattern has read. -/
structure Opds where
  a : Int
  b : Int
  c : Int
  n : Int
  l : Bs
def Opds.zero : Opds := ⟨0, 0, 0, 0, []⟩
def opStep (p : UInt8) (t : Bs) (o : Opds) : Option Opds :=
  if p = 65 then (match regL t with | some r => some { o with a := (r : Int) } | none => none)
  else if p = 66 then (match regL t with | some r => some { o with b := (r : Int) } | none => none)
  else if p = 67 then (match regL t with | some r => some { o with c := (r : Int) } | none => none)
  else if p = 78 then (match numL t with | some n => some { o with n := n } | none => none)
  else if p = 88 then (match valL t with | some v => some { o with n := v.1, l := v.2 } | none => none)
  else if t = [p] then some o else none
def opsGo : Bs → List Bs → Opds → Option Opds
  | p :: ps, t :: ts, o => (opStep p t o).bind (opsGo ps ts)
  | _, _, o => some o
theorem opsGo_nil (ps : Bs) (o : Opds) : opsGo ps [] o = some o := by cases ps <;> rfl
theorem opsGo_snoc : ∀ (ps : Bs) (ts : List Bs) (o : Opds) (k : Nat) (h1 : k < ps.length) (h2 : k < ts.length),
    opsGo (ps.take (k + 1)) (ts.take (k + 1)) o = (opsGo (ps.take k) (ts.take k) o).bind (opStep ps[k] ts[k])
  | [], _, _, _, h1, _ => absurd h1 (by simp)
  | _ :: _, [], _, _, _, h2 => absurd h2 (by simp)
  | p :: ps, t :: ts, o, 0, _, _ => by
    simp only [List.take_succ_cons, List.take_zero, opsGo, List.getElem_cons_zero, Option.bind_some]
    cases opStep p t o <;> rfl
  | p :: ps, t :: ts, o, k + 1, h1, h2 => by
    simp only [List.take_succ_cons, opsGo, List.getElem_cons_succ]
    cases opStep p t o with
    | none => rfl
    | some o' =>
      simp only [Option.bind_some]
      exact opsGo_snoc ps ts o' k (by simpa using h1) (by simpa using h2)
theorem opsGo_none : ∀ (k : Nat) (ps : Bs) (ts : List Bs) (o : Opds), opsGo (ps.take k) (ts.take k) o = none → opsGo ps ts o = none
  | 0, ps, ts, o, h => by simp [opsGo] at h
  | k + 1, [], ts, o, h => by simp [opsGo] at h
  | k + 1, p :: ps, [], o, h => by simp [opsGo] at h
  | k + 1, p :: ps, t :: ts, o, h => by
    simp only [List.take_succ_cons, opsGo] at h ⊢
    cases ho : opStep p t o with
    | none => rfl
    | some o' =>
      rw [ho] at h
      simp only [Option.bind_some] at h ⊢
      exact opsGo_none k ps ts o' h
/-- The operands of a statement. -/
def opsL (ps : Bs) (ts : List Bs) : Option Opds := if ts.length = ps.length then opsGo ps ts .zero else none
end Go.Proofs.YthghbcjaokpilaaDoor.Asm
