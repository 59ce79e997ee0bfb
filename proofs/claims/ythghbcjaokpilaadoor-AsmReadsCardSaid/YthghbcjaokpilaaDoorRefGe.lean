import Derived.Test.YthghbcjaokpilaaDoorRefV
import Derived.Test.YthghbcjaokpilaaDoorAsmGb
namespace Go.Proofs.YthghbcjaokpilaaDoor
set_option linter.unusedVariables false
set_option linter.unusedSimpArgs false
open Go.ChangeShapes Go.WideShapes Go.ChangeAt Go.RowKit Go.Proofs.YthghbcjaokpilaaDoor.Num Go.Proofs.YthghbcjaokpilaaDoor.Isa Go.Proofs.YthghbcjaokpilaaDoor.Mem Go.Proofs.YthghbcjaokpilaaDoor.Asm
/- The first pass of both sides. -/
structure StL where
  st : StR
  line : Int
  at' : Int
def symR (syms : List (Bs × Nat)) (lab : Bs) (at' : Int) : List (Bs × Nat) := if lab = [] then syms else syms ++ [(lab, (4 * at').toNat)]
/-- The reference's first pass. -/
def rdR : List Bs → Nat → Int → List (Bs × Nat) → List StL → Sum (Nat × Nat) (List (Bs × Nat) × List StL)
  | [], _, _, syms, sts => .inr (syms, sts)
  | l :: ls, i, at', syms, sts =>
    match parR l with
    | none => .inl (301, i + 1)
    | some (lab, o) =>
      if lab ≠ [] ∧ (lookS syms lab).isSome = true then .inl (303, i + 1)
      else match o with
        | none => if 1024 < at' then .inl (305, i + 1) else rdR ls (i + 1) at' (symR syms lab at') sts
        | some st => if 1024 < at' + st.size then .inl (305, i + 1) else rdR ls (i + 1) (at' + st.size) (symR syms lab at') (sts ++ [⟨st, (i : Int) + 1, at'⟩])
/-- The drafts of the statements. -/
def ExpL : List StL → List Draft → Int → Prop
  | [], ds, _ => ds = []
  | x :: r, ds, at' => ∃ dd rest, ds = numbered x.line dd ++ rest ∧ StOk x.st dd ∧ x.at' = at' ∧ ExpL r rest (at' + dd.length)
theorem exp_snoc {st : StR} {dd : List Draft} {n : Int} (h : StOk st dd) : ∀ (sts : List StL) (ds : List Draft) (at' : Int), ExpL sts ds at' → ExpL (sts ++ [⟨st, n, at' + ds.length⟩]) (ds ++ numbered n dd) at'
  | [], ds, at', e => by
    obtain rfl : ds = [] := e
    exact ⟨dd, [], by simp, h, by simp, rfl⟩
  | x :: r, ds, at', e => by
    obtain ⟨d1, rest, rfl, h1, h2, h3⟩ := e
    refine ⟨d1, rest ++ numbered n dd, by simp, h1, h2, ?_⟩
    have := exp_snoc (n := n) h r rest _ h3
    have e : at' + (d1.length : Int) + (rest.length : Int) = at' + ((numbered x.line d1 ++ rest).length : Int) := by
      rw [List.length_append]; unfold numbered; rw [List.length_map]; omega
    rw [e] at this
    exact this
def SameRd (r : Sum (Nat × Nat) (List (Bs × Nat) × List StL)) (p : Sum (Nat × Nat) (List (Bs × Nat) × List Draft)) : Prop :=
  match r, p with
  | .inl x, .inl y => x = y
  | .inr (s, t), .inr (s', d) => s = s' ∧ ExpL t d 0
  | _, _ => False
theorem numd_len (n : Int) (dd : List Draft) : (numbered n dd).length = dd.length := by unfold numbered; rw [List.length_map]
theorem sym_same (syms : List (Bs × Nat)) (ds : List Draft) (lab : Bs) : symR syms lab (ds.length : Int) = addSyms syms ds lab := by
  unfold symR addSyms
  have e : (4 * (ds.length : Int)).toNat = 4 * ds.length := by omega
  rw [e]
theorem read_same : ∀ (ls : List Bs) (i : Nat) (syms : List (Bs × Nat)) (sts : List StL) (ds : List Draft), ExpL sts ds 0 → ds.length ≤ 1024 → SameRd (rdR ls i (ds.length : Int) syms sts) (readL ls i syms ds)
  | [], i, syms, sts, ds, h, _ => ⟨rfl, h⟩
  | l :: ls, i, syms, sts, ds, h, hb => by
    have hl := line_same l
    unfold rdR readL
    match hr : parR l, hp : lineR l, hl with
    | none, none, _ => simp only [SameRd]
    | some (lab', none), some (lab, dd), hl =>
      obtain ⟨rfl, rfl⟩ := hl
      simp only
      by_cases hd : lab' ≠ [] ∧ (lookS syms lab').isSome = true
      · rw [if_pos hd, if_pos hd]; rfl
      · rw [if_neg hd, if_neg hd, if_neg (by omega)]
        have e : ds ++ numbered ((i : Int) + 1) [] = ds := by simp [numbered]
        rw [e, if_neg (by omega), sym_same]
        exact read_same ls (i + 1) _ sts ds h hb
    | some (lab', some st), some (lab, dd), hl =>
      obtain ⟨rfl, hst⟩ := hl
      simp only
      have hz : st.size = dd.length := by
        obtain ⟨_, _, _, _, _, _, h5⟩ := hst
        exact h5
      have hle : (ds ++ numbered ((i : Int) + 1) dd).length = ds.length + dd.length := by rw [List.length_append, numd_len]
      by_cases hd : lab' ≠ [] ∧ (lookS syms lab').isSome = true
      · rw [if_pos hd, if_pos hd]; rfl
      · rw [if_neg hd, if_neg hd]
        by_cases hx : 1024 < ds.length + dd.length
        · rw [if_pos (by rw [hz]; omega), if_pos (by rw [hle]; exact hx)]; rfl
        · rw [if_neg (by rw [hz]; omega), if_neg (by rw [hle]; exact hx), sym_same, hz]
          have hs := exp_snoc (n := (i : Int) + 1) hst sts ds 0 h
          rw [Int.zero_add] at hs
          have := read_same ls (i + 1) (addSyms syms ds lab') _ _ hs (by rw [hle]; omega)
          rw [hle] at this
          have e : ((ds.length + dd.length : Nat) : Int) = (ds.length : Int) + (dd.length : Int) := by omega
          rw [e] at this
          exact this
/-- An empty line at the end changes nothing. -/
theorem read_tail : ∀ (ls : List Bs) (i : Nat) (syms : List (Bs × Nat)) (ds : List Draft), ds.length ≤ 1024 → readL (ls ++ [[]]) i syms ds = readL ls i syms ds
  | [], i, syms, ds, h => by
    have e : lineR [] = some ([], []) := rfl
    simp only [List.nil_append, readL, e]
    rw [if_neg (fun h => h.1 rfl)]
    have e2 : ds ++ numbered ((i : Int) + 1) [] = ds := by simp [numbered]
    rw [e2, if_neg (by omega)]
    rfl
  | l :: ls, i, syms, ds, h => by
    simp only [List.cons_append, readL]
    cases lineR l with
    | none => rfl
    | some x =>
      obtain ⟨lab, dd⟩ := x
      simp only
      split
      · rfl
      · split
        · rfl
        · exact read_tail ls (i + 1) _ _ (by omega)
theorem read_lines (l : Bs) : readL (linesL l) 0 [] [] = readL (linR l) 0 [] [] := by
  unfold linesL linR
  rcases lin_same l [] with h | h
  · rw [h]
  · rw [h]; exact read_tail _ _ _ _ (by simp)
theorem first_same (l : Bs) : SameRd (rdR (linR l) 0 0 [] []) (readL (linesL l) 0 [] []) := by
  rw [read_lines]
  exact read_same (linR l) 0 [] [] [] rfl (by simp)
end Go.Proofs.YthghbcjaokpilaaDoor

namespace Go.Proofs.YthghbcjaokpilaaDoor
set_option linter.unusedVariables false
set_option linter.unusedSimpArgs false
open Go.ChangeShapes Go.WideShapes Go.ChangeAt Go.RowKit Go.Proofs.YthghbcjaokpilaaDoor.Num Go.Proofs.YthghbcjaokpilaaDoor.Isa Go.Proofs.YthghbcjaokpilaaDoor.Mem Go.Proofs.YthghbcjaokpilaaDoor.Asm
/- The second pass of both sides. -/
def argZ : Arg := ⟨0, 0, []⟩
/-- The fields of an instruction, as the reference takes them. -/
def insR (op : Int) (a : List Arg) (v : Int) : Int × Int × Int × Int :=
  if frm op = 2 then ((a.getD 0 argZ).reg, (a.getD 1 argZ).reg, (a.getD 2 argZ).reg, 0)
  else if 32 ≤ op ∧ op ≤ 36 then ((a.getD 0 argZ).reg, (a.getD 2 argZ).reg, 0, (a.getD 1 argZ).num)
  else if 6 ≤ frm op then ((a.getD 0 argZ).reg, 0, 0, v)
  else if frm op = 1 then (0, 0, 0, 0)
  else ((a.getD 0 argZ).reg, (a.getD 1 argZ).reg, 0, v)
/-- The value of the last operand. -/
def lastV (syms : List (Bs × Nat)) (x : StL) : Option Int :=
  match x.st.l.getLast? with
  | none => some 0
  | some a => if a.lab = [] then some a.num else (lookS syms a.lab).map fun t => if 0 < x.st.op then (t : Int) / 4 - x.at' else (t : Int)
/-- The words of a statement, or its error. -/
def stW (syms : List (Bs × Nat)) (x : StL) : Sum Int (List Int) :=
  match lastV syms x with
  | none => .inl 302
  | some v =>
    if x.st.what = wWord then .inr [v % 4294967296]
    else if x.st.what = wSpace then .inr (List.replicate x.st.size.toNat 0)
    else if x.st.what = wLi then .inr [word 24 (x.st.l.getD 0 argZ).reg 0 0 (v % 4294967296 / 65536), word 18 (x.st.l.getD 0 argZ).reg (x.st.l.getD 0 argZ).reg 0 (v % 65536)]
    else if x.st.what = wMv then .inr [word 16 (x.st.l.getD 0 argZ).reg (x.st.l.getD 1 argZ).reg 0 0]
    else if x.st.what = wNop then .inr [word 16 0 0 0 0]
    else if Ok x.st.op (insR x.st.op x.st.l v).1 (insR x.st.op x.st.l v).2.1 (insR x.st.op x.st.l v).2.2.1 (insR x.st.op x.st.l v).2.2.2 then .inr [word x.st.op (insR x.st.op x.st.l v).1 (insR x.st.op x.st.l v).2.1 (insR x.st.op x.st.l v).2.2.1 (insR x.st.op x.st.l v).2.2.2]
    else .inl 304
/-- The reference's second pass. -/
def cdR (syms : List (Bs × Nat)) : List StL → List Int → Sum (Int × Int) (List Int)
  | [], acc => .inr acc
  | x :: r, acc => match stW syms x with
    | .inl e => .inl (e, x.line)
    | .inr ws => cdR syms r (acc ++ ws)
def ArgOk (p : UInt8) (x : Arg) : Prop :=
  if p = 65 ∨ p = 66 ∨ p = 67 then 0 ≤ x.reg ∧ x.reg ≤ 15 ∧ x.num = 0 ∧ x.lab = [] else if p = 78 then x.reg = 0 ∧ x.lab = [] else x.reg = 0 ∧ (x.lab = [] ∨ x.num = 0)
def ShA : Bs → List Arg → Prop
  | [], al => al = []
  | p :: ps, al => if isL p = true then ∃ x r, al = x :: r ∧ ArgOk p x ∧ ShA ps r else ShA ps al
theorem arg_ok {p : UInt8} (hp : isL p = true) {t : Tk} {o : Option Arg} (h : mtStep (conv p) t = some o) : ∃ x, o = some x ∧ ArgOk p x := by
  have R : ∀ q : UInt8, conv q = 114 → mtStep (conv q) t = some o → ∃ x, o = some x ∧ 0 ≤ x.reg ∧ x.reg ≤ 15 ∧ x.num = 0 ∧ x.lab = [] := by
    intro q hq h
    rw [hq] at h
    unfold mtStep at h
    rw [if_pos rfl] at h
    cases hr : regL t.text with
    | none => rw [hr] at h; cases h
    | some r =>
      rw [hr] at h
      simp only at h
      split at h
      · obtain rfl := Option.some.inj h
        have := regL_lt hr
        exact ⟨_, rfl, by show (0 : Int) ≤ r; omega, by show (r : Int) ≤ 15; omega, rfl, rfl⟩
      · cases h
  have N : ∀ q : UInt8, conv q = 110 → mtStep (conv q) t = some o → ∃ x, o = some x ∧ x.reg = 0 ∧ x.lab = [] := by
    intro q hq h
    rw [hq] at h
    unfold mtStep at h
    rw [if_neg (by decide), if_pos (.inl rfl), if_neg (fun h => absurd h.1 (by decide))] at h
    cases hr : numL t.text with
    | none => rw [hr] at h; cases h
    | some r =>
      rw [hr] at h
      simp only at h
      split at h
      · obtain rfl := Option.some.inj h
        exact ⟨_, rfl, rfl, rfl⟩
      · cases h
  rcases letters hp with rfl | rfl | rfl | rfl | rfl
  · obtain ⟨x, h1, h2⟩ := R 65 rfl h; exact ⟨x, h1, h2⟩
  · obtain ⟨x, h1, h2⟩ := R 66 rfl h; exact ⟨x, h1, h2⟩
  · obtain ⟨x, h1, h2⟩ := R 67 rfl h; exact ⟨x, h1, h2⟩
  · obtain ⟨x, h1, h2⟩ := N 78 rfl h; exact ⟨x, h1, h2⟩
  · rw [show conv 88 = 120 from rfl] at h
    unfold mtStep at h
    rw [if_neg (by decide), if_pos (.inr rfl)] at h
    split at h
    · obtain rfl := Option.some.inj h
      exact ⟨_, rfl, rfl, .inr rfl⟩
    · cases hr : numL t.text with
      | none => rw [hr] at h; cases h
      | some r =>
        rw [hr] at h
        simp only at h
        split at h
        · obtain rfl := Option.some.inj h
          exact ⟨_, rfl, rfl, .inl rfl⟩
        · cases h
theorem mt_shape : ∀ (ps : Bs) (L : List Tk) (al : List Arg), PatOk ps = true → mtL L (ps.map conv) = some al → ShA ps al
  | [], [], al, _, h => by
    have : some [] = some al := h
    exact (Option.some.inj this).symm
  | [], t :: L, al, _, h => by rw [List.map_nil, mtL_nil] at h; cases h
  | p :: ps, [], al, _, h => by
    unfold mtL at h
    rw [if_neg (by simp)] at h
    cases h
  | p :: ps, t :: L, al, hp, h => by
    simp only [PatOk, Bool.and_eq_true] at hp
    rw [List.map_cons, mtL_cons] at h
    cases hs : mtStep (conv p) t with
    | none => rw [hs] at h; cases h
    | some o =>
      rw [hs, Option.bind_some] at h
      cases hr : mtL L (ps.map conv) with
      | none => rw [hr] at h; cases h
      | some a2 =>
        rw [hr] at h
        obtain rfl := Option.some.inj h
        have IH := mt_shape ps L a2 hp.2 hr
        unfold ShA
        cases hl : isL p with
        | true =>
          obtain ⟨x, rfl, hx⟩ := arg_ok hl hs
          exact ⟨x, a2, rfl, hx, IH⟩
        | false =>
          have hsg := signs hl hp.1.1
          rw [conv_sign hsg, mt_sign hsg] at hs
          split at hs
          · obtain rfl := Option.some.inj hs
            exact IH
          · cases hs
/-- The rows of the table, by the shape of their operands. -/
def RowF (q : Stm) : Prop :=
  (q.kind = 40 ∧ q.name = wWord ∧ q.pat = [88]) ∨ (q.kind = 41 ∧ q.name = wSpace ∧ q.pat = [78]) ∨ (q.kind = 39 ∧ q.name = wLi ∧ q.pat = [65, 44, 88] ∧ q.op = 24) ∨
  (q.kind = 38 ∧ ((q.name = wMv ∧ q.op = 16 ∧ q.pat = [65, 44, 66]) ∨ (q.name = wNop ∧ q.op = 16 ∧ q.pat = []) ∨
    (¬ q.name = wWord ∧ ¬ q.name = wSpace ∧ ¬ q.name = wLi ∧ ¬ q.name = wMv ∧ ¬ q.name = wNop ∧ opR q.name = q.op ∧ 0 < q.op ∧
      ((q.pat = [65, 44, 66, 44, 67] ∧ frm q.op = 2) ∨ (q.pat = [65, 44, 78, 40, 66, 41] ∧ ¬ frm q.op = 2 ∧ 32 ≤ q.op ∧ q.op ≤ 36) ∨
       ((q.pat = [65, 44, 78] ∨ q.pat = [65, 44, 88]) ∧ ¬ frm q.op = 2 ∧ ¬ (32 ≤ q.op ∧ q.op ≤ 36) ∧ 6 ≤ frm q.op) ∨ (q.pat = [] ∧ ¬ (32 ≤ q.op ∧ q.op ≤ 36) ∧ frm q.op = 1) ∨
       ((q.pat = [65, 44, 66, 44, 78] ∨ q.pat = [65, 44, 66, 44, 88]) ∧ ¬ frm q.op = 2 ∧ ¬ (32 ≤ q.op ∧ q.op ≤ 36) ∧ ¬ 6 ≤ frm q.op ∧ ¬ frm q.op = 1)))))
instance (q : Stm) : Decidable (RowF q) := by unfold RowF; infer_instance
theorem row_form : ∀ q ∈ rows, RowF q := by decide +kernel
theorem op_zero : opR wWord = 0 ∧ opR wSpace = 0 ∧ opR wLi = 0 ∧ opR wMv = 0 ∧ opR wNop = 0 := by decide +kernel
end Go.Proofs.YthghbcjaokpilaaDoor

namespace Go.Proofs.YthghbcjaokpilaaDoor
set_option linter.unusedVariables false
set_option linter.unusedSimpArgs false
open Go.ChangeShapes Go.WideShapes Go.ChangeAt Go.RowKit Go.Proofs.YthghbcjaokpilaaDoor.Num Go.Proofs.YthghbcjaokpilaaDoor.Isa Go.Proofs.YthghbcjaokpilaaDoor.Mem Go.Proofs.YthghbcjaokpilaaDoor.Asm
theorem sha_l {p : UInt8} {ps : Bs} {al : List Arg} (hp : isL p = true) (h : ShA (p :: ps) al) : ∃ x r, al = x :: r ∧ ArgOk p x ∧ ShA ps r := by
  unfold ShA at h
  rwa [if_pos hp] at h
theorem sha_s {p : UInt8} {ps : Bs} {al : List Arg} (hp : isL p = false) (h : ShA (p :: ps) al) : ShA ps al := by
  unfold ShA at h
  rwa [if_neg (by rw [hp]; decide)] at h
theorem put_X (x : Arg) : putL [88] [x] .zero = ⟨0, 0, 0, x.num, x.lab⟩ := rfl
theorem put_AX (x y : Arg) : putL [65, 44, 88] [x, y] .zero = ⟨x.reg, 0, 0, y.num, y.lab⟩ := rfl
theorem put_AN (x y : Arg) : putL [65, 44, 78] [x, y] .zero = ⟨x.reg, 0, 0, y.num, []⟩ := rfl
theorem put_AB (x y : Arg) : putL [65, 44, 66] [x, y] .zero = ⟨x.reg, y.reg, 0, 0, []⟩ := rfl
theorem put_ABC (x y z : Arg) : putL [65, 44, 66, 44, 67] [x, y, z] .zero = ⟨x.reg, y.reg, z.reg, 0, []⟩ := rfl
theorem put_ABN (x y z : Arg) : putL [65, 44, 66, 44, 78] [x, y, z] .zero = ⟨x.reg, y.reg, 0, z.num, []⟩ := rfl
theorem put_ABX (x y z : Arg) : putL [65, 44, 66, 44, 88] [x, y, z] .zero = ⟨x.reg, y.reg, 0, z.num, z.lab⟩ := rfl
theorem put_ANB (x y z : Arg) : putL [65, 44, 78, 40, 66, 41] [x, y, z] .zero = ⟨x.reg, z.reg, 0, y.num, []⟩ := rfl
theorem argA {x : Arg} (h : ArgOk 65 x) : 0 ≤ x.reg ∧ x.reg ≤ 15 ∧ x.num = 0 ∧ x.lab = [] := h
theorem argB {x : Arg} (h : ArgOk 66 x) : 0 ≤ x.reg ∧ x.reg ≤ 15 ∧ x.num = 0 ∧ x.lab = [] := h
theorem argC {x : Arg} (h : ArgOk 67 x) : 0 ≤ x.reg ∧ x.reg ≤ 15 ∧ x.num = 0 ∧ x.lab = [] := h
theorem argN {x : Arg} (h : ArgOk 78 x) : x.reg = 0 ∧ x.lab = [] := h
theorem look_mem {syms : List (Bs × Nat)} {t : Bs} {k : Nat} (h : lookS syms t = some k) : ∃ s ∈ syms, s.2 = k := by
  unfold lookS at h
  cases hf : syms.find? (fun s => s.1 == t) with
  | none => rw [hf] at h; cases h
  | some s =>
    rw [hf] at h
    exact ⟨s, List.mem_of_find?_eq_some hf, Option.some.inj h⟩
theorem code_x {syms : List (Bs × Nat)} {d : Draft} {rest : List Draft} {acc : List Int} {x v : Int} (h : finX syms d (4 * (acc.length : Int)) = some x) (hp : finR d x = (v, 0)) : codeL syms (d :: rest) acc = codeL syms rest (acc ++ [v]) := by
  have e : finL syms d (4 * (acc.length : Int)) = (v, 0) := by unfold finL; rw [h]; exact hp
  rw [code_ok (by rw [e]), e]
theorem code_e {syms : List (Bs × Nat)} {d : Draft} {rest : List Draft} {acc : List Int} {x v k : Int} (h : finX syms d (4 * (acc.length : Int)) = some x) (hp : finR d x = (v, k)) (hk : ¬ k = 0) : codeL syms (d :: rest) acc = .inl (k, d.line) := by
  have e : finL syms d (4 * (acc.length : Int)) = (v, k) := by unfold finL; rw [h]; exact hp
  rw [code_bad (by rw [e]; exact hk), e]
theorem code_n {syms : List (Bs × Nat)} {d : Draft} {rest : List Draft} {acc : List Int} (h : finX syms d (4 * (acc.length : Int)) = none) : codeL syms (d :: rest) acc = .inl (302, d.line) := by
  have e : finL syms d (4 * (acc.length : Int)) = (0, 302) := by unfold finL; rw [h]
  rw [code_bad (by rw [e]; decide), e]
theorem code_zeros (syms : List (Bs × Nat)) (n : Int) (rest : List Draft) : ∀ (k : Nat) (acc : List Int), codeL syms (numbered n (List.replicate k ⟨0, 1, 0, 0, 0, 0, 0, []⟩) ++ rest) acc = codeL syms rest (acc ++ List.replicate k 0)
  | 0, acc => by simp [numbered]
  | k + 1, acc => by
    have e : numbered n (List.replicate (k + 1) ⟨0, 1, 0, 0, 0, 0, 0, []⟩) ++ rest = (⟨n, 1, 0, 0, 0, 0, 0, []⟩ : Draft) :: (numbered n (List.replicate k ⟨0, 1, 0, 0, 0, 0, 0, []⟩) ++ rest) := by simp [numbered, List.replicate_succ]
    rw [e, code_x (x := 0) (v := 0) rfl rfl, code_zeros syms n rest k, List.append_assoc]
    rfl
theorem ok_lui {r m : Int} (r0 : 0 ≤ r) (r1 : r ≤ 15) (m0 : 0 ≤ m) (m1 : m ≤ 65535) : Ok 24 r 0 0 m := by
  have e1 : lay 24 = 4 := by decide
  have e2 : lo 24 = 0 := by decide
  have e3 : hi 24 = 65535 := by decide
  unfold Ok; rw [e1, e2, e3]; omega
theorem ok_ori {r m : Int} (r0 : 0 ≤ r) (r1 : r ≤ 15) (m0 : 0 ≤ m) (m1 : m ≤ 65535) : Ok 18 r r 0 m := by
  have e1 : lay 18 = 2 := by decide
  have e2 : lo 18 = 0 := by decide
  have e3 : hi 18 = 65535 := by decide
  unfold Ok; rw [e1, e2, e3]; omega
theorem ok_addi {r s : Int} (r0 : 0 ≤ r) (r1 : r ≤ 15) (s0 : 0 ≤ s) (s1 : s ≤ 15) : Ok 16 r s 0 0 := by
  have e1 : lay 16 = 2 := by decide
  have e2 : lo 16 = -32768 := by decide
  have e3 : hi 16 = 32767 := by decide
  unfold Ok; rw [e1, e2, e3]; omega
/-- The operand of a draft that has role 0, and of one that has not. -/
theorem fin_lab {syms : List (Bs × Nat)} (hs : ∀ s ∈ syms, s.2 % 4 = 0) (d : Draft) (A : Int) (st : StR) (n : Int) (y : Arg) (h1 : d.n = y.num) (h2 : d.l = y.lab) (hl : st.l.getLast? = some y) (h3 : d.role = 0 ↔ 0 < st.op) : finX syms d (4 * A) = lastV syms ⟨st, n, A⟩ := by
  unfold finX lastV
  simp only [hl, h1, h2]
  by_cases hb : y.lab = []
  · rw [if_pos hb, if_pos hb]
  · rw [if_neg hb, if_neg hb]
    cases hk : lookS syms y.lab with
    | none => rfl
    | some k =>
      obtain ⟨s, hm, rfl⟩ := look_mem hk
      have h4 := hs s hm
      show some (if d.role = 0 then (((s.2 : Nat) : Int) - 4 * A).tdiv 4 else ((s.2 : Nat) : Int)) = some (if 0 < st.op then ((s.2 : Nat) : Int) / 4 - A else ((s.2 : Nat) : Int))
      by_cases hr : d.role = 0
      · rw [if_pos hr, if_pos (h3.1 hr)]
        congr 1
        obtain ⟨z, hz⟩ : ∃ z : Nat, s.2 = 4 * z := ⟨s.2 / 4, by omega⟩
        rw [hz]
        have e1 : (((4 * z : Nat) : Int) - 4 * A) = 4 * ((z : Int) - A) := by omega
        have e2 : (((4 * z : Nat) : Int)) / 4 = (z : Int) := by omega
        rw [e1, e2, Int.mul_tdiv_cancel_left _ (by decide)]
      · rw [if_neg hr, if_neg (fun h => hr (h3.2 h))]
theorem fin_none {syms : List (Bs × Nat)} (d : Draft) (A : Int) (h : d.l = []) : finX syms d A = some d.n := by unfold finX; rw [if_pos h]
theorem finR_0 (n op a b c m : Int) (l : Bs) (x : Int) : finR ⟨n, 0, op, a, b, c, m, l⟩ x = encI op a b c x := rfl
/-- An instruction's draft. -/
theorem code_ins {syms : List (Bs × Nat)} (n op a b c m : Int) (l : Bs) (rest : List Draft) (acc : List Int) (X : Option Int) (h : finX syms ⟨n, 0, op, a, b, c, m, l⟩ (4 * (acc.length : Int)) = X) :
    codeL syms ((⟨n, 0, op, a, b, c, m, l⟩ : Draft) :: rest) acc = match X with | none => .inl (302, n) | some x => if Ok op a b c x then codeL syms rest (acc ++ [word op a b c x]) else .inl (304, n) := by
  cases X with
  | none => rw [code_n h]
  | some x =>
    simp only
    by_cases hk : Ok op a b c x
    · rw [code_x h ((finR_0 ..).trans (encI_ok hk)), if_pos hk]
    · rw [code_e h ((finR_0 ..).trans (encI_no hk)) (by decide), if_neg hk]
def Goal1 (syms : List (Bs × Nat)) (st : StR) (dd : List Draft) (n : Int) (rest : List Draft) (acc : List Int) : Prop :=
  codeL syms (numbered n dd ++ rest) acc = match stW syms ⟨st, n, acc.length⟩ with | .inl e => .inl (e, n) | .inr ws => codeL syms rest (acc ++ ws)
theorem numd_one (n : Int) (d : Draft) (rest : List Draft) : numbered n [d] ++ rest = { d with line := n } :: rest := rfl
/-- An instruction of the table whose fields both sides take alike. -/
theorem ins_goal {syms : List (Bs × Nat)} {q : Stm} {al : List Arg} {size : Int} {n : Int} {rest : List Draft} {acc : List Int} (w1 : ¬ q.name = wWord) (w2 : ¬ q.name = wSpace) (w3 : ¬ q.name = wLi) (w4 : ¬ q.name = wMv) (w5 : ¬ q.name = wNop) (hop : opR q.name = q.op)
    (a b c m : Int) (l : Bs) (hX : ∀ v, lastV syms ⟨⟨q.name, opR q.name, al, size⟩, n, acc.length⟩ = some v → finX syms ⟨n, 0, q.op, a, b, c, m, l⟩ (4 * (acc.length : Int)) = some (insR q.op al v).2.2.2 ∧ (insR q.op al v).1 = a ∧ (insR q.op al v).2.1 = b ∧ (insR q.op al v).2.2.1 = c)
    (hN : lastV syms ⟨⟨q.name, opR q.name, al, size⟩, n, acc.length⟩ = none → finX syms ⟨n, 0, q.op, a, b, c, m, l⟩ (4 * (acc.length : Int)) = none) :
    Goal1 syms ⟨q.name, opR q.name, al, size⟩ [⟨0, 0, q.op, a, b, c, m, l⟩] n rest acc := by
  unfold Goal1 stW
  rw [numd_one]
  cases hv : lastV syms ⟨⟨q.name, opR q.name, al, size⟩, n, acc.length⟩ with
  | none => rw [code_ins _ _ _ _ _ _ _ _ _ none (hN hv)]
  | some v =>
    obtain ⟨h1, h2, h3, h4⟩ := hX v hv
    rw [code_ins _ _ _ _ _ _ _ _ _ _ h1]
    simp only [if_neg w1, if_neg w2, if_neg w3, if_neg w4, if_neg w5, hop, h2, h3, h4]
    split
    · rfl
    · rfl
end Go.Proofs.YthghbcjaokpilaaDoor

namespace Go.Proofs.YthghbcjaokpilaaDoor
set_option linter.unusedVariables false
set_option linter.unusedSimpArgs false
open Go.ChangeShapes Go.WideShapes Go.ChangeAt Go.RowKit Go.Proofs.YthghbcjaokpilaaDoor.Num Go.Proofs.YthghbcjaokpilaaDoor.Isa Go.Proofs.YthghbcjaokpilaaDoor.Mem Go.Proofs.YthghbcjaokpilaaDoor.Asm
/-- The words of a statement are the same. -/
theorem st_code {syms : List (Bs × Nat)} (hs : ∀ s ∈ syms, s.2 % 4 = 0) {st : StR} {dd : List Draft} (h : StOk st dd) (n : Int) (rest : List Draft) (acc : List Int) : Goal1 syms st dd n rest acc := by
  obtain ⟨q, L, hq, hop, hm, hw, hz⟩ := h
  obtain ⟨hr, hne⟩ := stm_row hq
  have hsh := mt_shape q.pat L st.l (row_facts q hr).1 hm
  obtain ⟨what, op, al, size⟩ := st
  simp only at hop hm hw hz hsh hne
  subst hne
  subst hop
  clear hm hq
  have fa := fin_lab hs
  rcases row_form q hr with ⟨hk, hnm, hp⟩ | ⟨hk, hnm, hp⟩ | ⟨hk, hnm, hp, h24⟩ | ⟨hk, hi⟩
  · rw [hp] at hsh hw
    obtain ⟨x, r, rfl, hx, hr'⟩ := sha_l rfl hsh
    obtain rfl : r = [] := hr'
    unfold wordsL at hw
    rw [if_neg (by rw [hk]; decide), if_neg (by rw [hk]; decide), if_pos hk, put_X] at hw
    obtain rfl := Option.some.inj hw
    have h0 : opR q.name = 0 := by rw [hnm]; exact op_zero.1
    have hX := fa ⟨n, 1, 0, 0, 0, 0, x.num, x.lab⟩ acc.length ⟨q.name, opR q.name, [x], size⟩ n x rfl rfl rfl (by simp only [h0]; decide)
    unfold Goal1 stW
    rw [numd_one]
    cases hv : lastV syms ⟨⟨q.name, opR q.name, [x], size⟩, n, acc.length⟩ with
    | none => rw [hv] at hX; rw [code_n hX]
    | some v =>
      rw [hv] at hX
      rw [code_x (v := v % 4294967296) hX rfl]
      simp only [if_pos hnm]
  · rw [hp] at hsh hw
    obtain ⟨x, r, rfl, hx, hr'⟩ := sha_l rfl hsh
    obtain rfl : r = [] := hr'
    obtain ⟨_, hxl⟩ := argN hx
    unfold wordsL at hw
    rw [if_neg (by rw [hk]; decide), if_neg (by rw [hk]; decide), if_neg (by rw [hk]; decide), if_pos hk] at hw
    split at hw
    · cases hw
    · obtain rfl := Option.some.inj hw
      unfold Goal1 stW lastV
      rw [code_zeros]
      simp only [List.getLast?_singleton, hxl, if_true]
      rw [if_neg (by rw [hnm]; decide), if_pos hnm]
      simp only
      rw [hz, List.length_replicate, Int.toNat_natCast]
  · rw [hp] at hsh hw
    obtain ⟨x, r, rfl, hx, hr'⟩ := sha_l rfl hsh
    obtain ⟨y, r2, rfl, hy, hr2⟩ := sha_l rfl (sha_s rfl hr')
    obtain rfl : r2 = [] := hr2
    obtain ⟨x0, x1, _, _⟩ := argA hx
    unfold wordsL at hw
    rw [if_neg (by rw [hk]; decide), if_pos hk, put_AX] at hw
    obtain rfl := Option.some.inj hw
    have h0 : opR q.name = 0 := by rw [hnm]; exact op_zero.2.2.1
    have hX1 := fa ⟨n, 2, q.op, x.reg, 0, 0, y.num, y.lab⟩ acc.length ⟨q.name, opR q.name, [x, y], size⟩ n y rfl rfl rfl (by simp only [h0]; decide)
    unfold Goal1 stW
    have e : numbered n [(⟨0, 2, q.op, x.reg, 0, 0, y.num, y.lab⟩ : Draft), ⟨0, 3, 18, x.reg, x.reg, 0, y.num, y.lab⟩] ++ rest = ⟨n, 2, q.op, x.reg, 0, 0, y.num, y.lab⟩ :: ⟨n, 3, 18, x.reg, x.reg, 0, y.num, y.lab⟩ :: rest := rfl
    rw [e]
    cases hv : lastV syms ⟨⟨q.name, opR q.name, [x, y], size⟩, n, acc.length⟩ with
    | none => rw [hv] at hX1; rw [code_n hX1]
    | some v =>
      rw [hv] at hX1
      have m0 : 0 ≤ v % 4294967296 / 65536 ∧ v % 4294967296 / 65536 ≤ 65535 := by omega
      have m1 : 0 ≤ v % 65536 ∧ v % 65536 ≤ 65535 := by omega
      have r1 : finR ⟨n, 2, q.op, x.reg, 0, 0, y.num, y.lab⟩ v = (word 24 x.reg 0 0 (v % 4294967296 / 65536), 0) := by
        show encI q.op x.reg 0 0 (v % 4294967296 / 65536) = _
        rw [h24, encI_ok (ok_lui x0 x1 m0.1 m0.2)]
      have r2 : finR ⟨n, 3, 18, x.reg, x.reg, 0, y.num, y.lab⟩ v = (word 18 x.reg x.reg 0 (v % 65536), 0) := by
        show encI 18 x.reg x.reg 0 (v % 65536) = _
        rw [encI_ok (ok_ori x0 x1 m1.1 m1.2)]
      have hX2 : finX syms ⟨n, 3, 18, x.reg, x.reg, 0, y.num, y.lab⟩ (4 * ((acc ++ [word 24 x.reg 0 0 (v % 4294967296 / 65536)]).length : Int)) = some v := by
        rw [← hX1]
        unfold finX
        rfl
      rw [code_x hX1 r1, code_x hX2 r2, List.append_assoc]
      simp only [if_neg (show ¬ q.name = wWord by rw [hnm]; decide), if_neg (show ¬ q.name = wSpace by rw [hnm]; decide), if_pos hnm]
      rfl
  · unfold wordsL at hw
    rw [if_pos hk] at hw
    rcases hi with ⟨hnm, ho, hp⟩ | ⟨hnm, ho, hp⟩ | ⟨w1, w2, w3, w4, w5, hop, hpos, hi⟩
    · rw [hp] at hsh hw
      obtain ⟨x, r, rfl, hx, hr'⟩ := sha_l rfl hsh
      obtain ⟨y, r2, rfl, hy, hr2⟩ := sha_l rfl (sha_s rfl hr')
      obtain rfl : r2 = [] := hr2
      obtain ⟨x0, x1, _, _⟩ := argA hx
      obtain ⟨y0, y1, yn, yl⟩ := argB hy
      rw [put_AB] at hw
      obtain rfl := Option.some.inj hw
      unfold Goal1 stW lastV
      rw [numd_one, ho]
      simp only
      rw [code_ins _ _ _ _ _ _ _ _ _ (some 0) rfl]
      simp only [if_pos (ok_addi x0 x1 y0 y1), List.getLast?_cons_cons, List.getLast?_singleton, yl, yn, if_true]
      rw [if_neg (by rw [hnm]; decide), if_neg (by rw [hnm]; decide), if_neg (by rw [hnm]; decide), if_pos hnm]
      rfl
    · rw [hp] at hsh hw
      obtain rfl : al = [] := hsh
      obtain rfl := Option.some.inj hw
      unfold Goal1 stW lastV
      rw [numd_one, ho]
      show codeL syms (⟨n, 0, 16, 0, 0, 0, 0, []⟩ :: rest) acc = _
      rw [code_ins _ _ _ _ _ _ _ _ _ (some 0) rfl]
      simp only [if_pos (ok_addi (r := 0) (s := 0) (by omega) (by omega) (by omega) (by omega)), List.getLast?_nil]
      rw [if_neg (by rw [hnm]; decide), if_neg (by rw [hnm]; decide), if_neg (by rw [hnm]; decide), if_neg (by rw [hnm]; decide), if_pos hnm]
    · have hro : 0 < opR q.name := by rw [hop]; exact hpos
      rcases hi with ⟨hp, f1⟩ | ⟨hp, f1, f2, f3⟩ | ⟨hp, f1, f2, f3⟩ | ⟨hp, f1, f2⟩ | ⟨hp, f1, f2, f3, f4⟩
      · rw [hp] at hsh hw
        obtain ⟨x, r, rfl, hx, hr'⟩ := sha_l rfl hsh
        obtain ⟨y, r2, rfl, hy, hr2⟩ := sha_l rfl (sha_s rfl hr')
        obtain ⟨z, r3, rfl, hzz, hr3⟩ := sha_l rfl (sha_s rfl hr2)
        obtain rfl : r3 = [] := hr3
        obtain ⟨_, _, zn, zl⟩ := argC hzz
        rw [put_ABC] at hw
        obtain rfl := Option.some.inj hw
        refine ins_goal w1 w2 w3 w4 w5 hop _ _ _ _ _ (fun v hv => ?_) (fun hv => ?_)
        · unfold insR; rw [if_pos f1]; exact ⟨rfl, rfl, rfl, rfl⟩
        · unfold lastV at hv
          simp only [List.getLast?_cons_cons, List.getLast?_singleton, zl, if_true] at hv
          cases hv
      · rw [hp] at hsh hw
        obtain ⟨x, r, rfl, hx, hr'⟩ := sha_l rfl hsh
        obtain ⟨y, r2, rfl, hy, hr2⟩ := sha_l rfl (sha_s rfl hr')
        obtain ⟨z, r3, rfl, hzz, hr3⟩ := sha_l rfl (sha_s rfl hr2)
        obtain rfl : r3 = [] := sha_s rfl hr3
        obtain ⟨_, _, zn, zl⟩ := argB hzz
        rw [put_ANB] at hw
        obtain rfl := Option.some.inj hw
        refine ins_goal w1 w2 w3 w4 w5 hop _ _ _ _ _ (fun v hv => ?_) (fun hv => ?_)
        · unfold insR; rw [if_neg f1, if_pos ⟨f2, f3⟩]; exact ⟨rfl, rfl, rfl, rfl⟩
        · unfold lastV at hv
          simp only [List.getLast?_cons_cons, List.getLast?_singleton, zl, if_true] at hv
          cases hv
      · rcases hp with hp | hp
        · rw [hp] at hsh hw
          obtain ⟨x, r, rfl, hx, hr'⟩ := sha_l rfl hsh
          obtain ⟨y, r2, rfl, hy, hr2⟩ := sha_l rfl (sha_s rfl hr')
          obtain rfl : r2 = [] := hr2
          obtain ⟨_, yl⟩ := argN hy
          rw [put_AN] at hw
          obtain rfl := Option.some.inj hw
          have hX := fa ⟨n, 0, q.op, x.reg, 0, 0, y.num, []⟩ acc.length ⟨q.name, opR q.name, [x, y], size⟩ n y rfl yl.symm rfl (by simp only [hro])
          refine ins_goal w1 w2 w3 w4 w5 hop _ _ _ _ _ (fun v hv => ?_) (fun hv => hX.trans hv)
          unfold insR; rw [if_neg f1, if_neg f2, if_pos f3]; exact ⟨hX.trans hv, rfl, rfl, rfl⟩
        · rw [hp] at hsh hw
          obtain ⟨x, r, rfl, hx, hr'⟩ := sha_l rfl hsh
          obtain ⟨y, r2, rfl, hy, hr2⟩ := sha_l rfl (sha_s rfl hr')
          obtain rfl : r2 = [] := hr2
          rw [put_AX] at hw
          obtain rfl := Option.some.inj hw
          have hX := fa ⟨n, 0, q.op, x.reg, 0, 0, y.num, y.lab⟩ acc.length ⟨q.name, opR q.name, [x, y], size⟩ n y rfl rfl rfl (by simp only [hro])
          refine ins_goal w1 w2 w3 w4 w5 hop _ _ _ _ _ (fun v hv => ?_) (fun hv => hX.trans hv)
          unfold insR; rw [if_neg f1, if_neg f2, if_pos f3]; exact ⟨hX.trans hv, rfl, rfl, rfl⟩
      · rw [hp] at hsh hw
        obtain rfl : al = [] := hsh
        obtain rfl := Option.some.inj hw
        refine ins_goal w1 w2 w3 w4 w5 hop _ _ _ _ _ (fun v hv => ?_) (fun hv => ?_)
        · unfold insR; rw [if_neg (by rw [f2]; decide), if_neg f1, if_neg (by rw [f2]; decide), if_pos f2]; exact ⟨rfl, rfl, rfl, rfl⟩
        · unfold lastV at hv
          simp only [List.getLast?_nil] at hv
          cases hv
      · rcases hp with hp | hp
        · rw [hp] at hsh hw
          obtain ⟨x, r, rfl, hx, hr'⟩ := sha_l rfl hsh
          obtain ⟨y, r2, rfl, hy, hr2⟩ := sha_l rfl (sha_s rfl hr')
          obtain ⟨z, r3, rfl, hzz, hr3⟩ := sha_l rfl (sha_s rfl hr2)
          obtain rfl : r3 = [] := hr3
          obtain ⟨_, zl⟩ := argN hzz
          rw [put_ABN] at hw
          obtain rfl := Option.some.inj hw
          have hX := fa ⟨n, 0, q.op, x.reg, y.reg, 0, z.num, []⟩ acc.length ⟨q.name, opR q.name, [x, y, z], size⟩ n z rfl zl.symm rfl (by simp only [hro])
          refine ins_goal w1 w2 w3 w4 w5 hop _ _ _ _ _ (fun v hv => ?_) (fun hv => hX.trans hv)
          unfold insR; rw [if_neg f1, if_neg f2, if_neg f3, if_neg f4]; exact ⟨hX.trans hv, rfl, rfl, rfl⟩
        · rw [hp] at hsh hw
          obtain ⟨x, r, rfl, hx, hr'⟩ := sha_l rfl hsh
          obtain ⟨y, r2, rfl, hy, hr2⟩ := sha_l rfl (sha_s rfl hr')
          obtain ⟨z, r3, rfl, hzz, hr3⟩ := sha_l rfl (sha_s rfl hr2)
          obtain rfl : r3 = [] := hr3
          rw [put_ABX] at hw
          obtain rfl := Option.some.inj hw
          have hX := fa ⟨n, 0, q.op, x.reg, y.reg, 0, z.num, z.lab⟩ acc.length ⟨q.name, opR q.name, [x, y, z], size⟩ n z rfl rfl rfl (by simp only [hro])
          refine ins_goal w1 w2 w3 w4 w5 hop _ _ _ _ _ (fun v hv => ?_) (fun hv => hX.trans hv)
          unfold insR; rw [if_neg f1, if_neg f2, if_neg f3, if_neg f4]; exact ⟨hX.trans hv, rfl, rfl, rfl⟩
theorem code_len (syms : List (Bs × Nat)) : ∀ (ds : List Draft) (acc r : List Int), codeL syms ds acc = .inr r → r.length = acc.length + ds.length
  | [], acc, r, h => by
    obtain rfl : acc = r := Sum.inr.inj h
    simp
  | d :: ds, acc, r, h => by
    by_cases hk : (finL syms d (4 * (acc.length : Int))).2 = 0
    · rw [code_ok hk] at h
      have := code_len syms ds _ _ h
      rw [List.length_append] at this
      simp only [List.length_cons, List.length_nil] at this ⊢
      omega
    · rw [code_bad hk] at h; cases h
/-- As many words as drafts. -/
theorem st_len {syms : List (Bs × Nat)} (hs : ∀ s ∈ syms, s.2 % 4 = 0) {st : StR} {dd : List Draft} (h : StOk st dd) (n : Int) (acc : List Int) (ws : List Int) (hw : stW syms ⟨st, n, acc.length⟩ = .inr ws) : ws.length = dd.length := by
  have hg := st_code hs h n [] acc
  unfold Goal1 at hg
  rw [hw, List.append_nil] at hg
  simp only [codeL] at hg
  have := code_len syms _ _ _ hg
  rw [List.length_append, numd_len] at this
  omega
/-- The second pass is the same. -/
theorem code_same {syms : List (Bs × Nat)} (hs : ∀ s ∈ syms, s.2 % 4 = 0) : ∀ (sts : List StL) (ds : List Draft) (acc : List Int), ExpL sts ds acc.length → (∀ x ws, stW syms x = .inr ws → True) → cdR syms sts acc = codeL syms ds acc
  | [], ds, acc, h, _ => by
    obtain rfl : ds = [] := h
    rfl
  | x :: r, ds, acc, h, hh => by
    obtain ⟨dd, rest, rfl, h1, h2, h3⟩ := h
    obtain ⟨st, n, at'⟩ := x
    simp only at h1 h2 h3
    subst h2
    have hg := st_code hs h1 n rest acc
    have hl := st_len hs h1 n acc
    unfold Goal1 at hg
    rw [hg]
    unfold cdR
    cases hw : stW syms ⟨st, n, acc.length⟩ with
    | inl e => rfl
    | inr ws =>
      simp only
      refine code_same hs r rest (acc ++ ws) ?_ hh
      have := hl ws hw
      rw [List.length_append, this]
      have e : ((acc.length + dd.length : Nat) : Int) = (acc.length : Int) + (dd.length : Int) := by omega
      rw [e]
      exact h3
end Go.Proofs.YthghbcjaokpilaaDoor

namespace Go.Proofs.YthghbcjaokpilaaDoor
set_option linter.unusedVariables false
set_option linter.unusedSimpArgs false
open Go.ChangeShapes Go.WideShapes Go.ChangeAt Go.RowKit Go.Proofs.YthghbcjaokpilaaDoor.Num Go.Proofs.YthghbcjaokpilaaDoor.Isa Go.Proofs.YthghbcjaokpilaaDoor.Mem Go.Proofs.YthghbcjaokpilaaDoor.Asm
/- What the reference's Assemble and Symbols give, and that the program's give the same. -/
def asmR (l : Bs) : Sum (Int × Int) (List Int × List (Bs × Nat)) :=
  if 8192 < l.length then .inl (300, 0)
  else match rdR (linR l) 0 0 [] [] with
  | .inl r => .inl (r.1, r.2)
  | .inr r => transR r.1 (cdR r.1 r.2 [])
theorem read_mod : ∀ (ls : List Bs) (i : Nat) (syms : List (Bs × Nat)) (ds : List Draft) (s' : List (Bs × Nat)) (d' : List Draft), readL ls i syms ds = .inr (s', d') → (∀ s ∈ syms, s.2 % 4 = 0) → ∀ s ∈ s', s.2 % 4 = 0
  | [], i, syms, ds, s', d', h, hs => by
    unfold readL at h
    injection h with h
    injection h with h1 h2
    subst h1
    exact hs
  | l :: ls, i, syms, ds, s', d', h, hs => by
    unfold readL at h
    cases hl : lineR l with
    | none => rw [hl] at h; cases h
    | some x =>
      obtain ⟨lab, dd⟩ := x
      rw [hl] at h
      simp only at h
      split at h
      · cases h
      · split at h
        · cases h
        · refine read_mod ls (i + 1) _ _ s' d' h ?_
          unfold addSyms
          split
          · exact hs
          · intro s hm
            rcases List.mem_append.1 hm with hm | hm
            · exact hs s hm
            · rw [List.mem_singleton] at hm
              subst hm
              show 4 * ds.length % 4 = 0
              omega
theorem asm_same (l : Bs) : asmR l = transL l := by
  unfold asmR transL
  by_cases h : 8192 < l.length
  · rw [if_pos h, if_pos h]
  · rw [if_neg h, if_neg h]
    have hf := first_same l
    match hr : rdR (linR l) 0 0 [] [], hp : readL (linesL l) 0 [] [], hf with
    | .inl x, .inl y, hf =>
      obtain rfl : x = y := hf
      rfl
    | .inr (s, t), .inr (s', d), hf =>
      obtain ⟨rfl, he⟩ := hf
      have hm := read_mod _ _ _ _ _ _ hp (fun s hs => by cases hs)
      have := code_same hm t d [] he (fun _ _ _ => trivial)
      simp only
      rw [this]
end Go.Proofs.YthghbcjaokpilaaDoor
