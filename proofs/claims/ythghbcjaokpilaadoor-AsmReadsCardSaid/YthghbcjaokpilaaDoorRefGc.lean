import Derived.Test.YthghbcjaokpilaaDoorRefG
import Derived.Test.YthghbcjaokpilaaDoorAsmGa
import Derived.RegionTactic
import Derived.BigRegion
import Derived.Deep.DeepCutAuto
namespace Go.Proofs.YthghbcjaokpilaaDoor
set_option linter.unusedVariables false
set_option linter.unusedSimpArgs false
open Go.ChangeShapes Go.WideShapes Go.ChangeAt Go.RowKit Go.Proofs.YthghbcjaokpilaaDoor.Num Go.Proofs.YthghbcjaokpilaaDoor.Isa Go.Proofs.YthghbcjaokpilaaDoor.Mem Go.Proofs.YthghbcjaokpilaaDoor.Asm
theorem sizeTok (w : World) : (sizeOf (Tryd.prog.elem 86)).run Tryd.prog w = .ok 3 w := by kernel_rfl
theorem elemTok : Tryd.prog.underlying 86 = some (.slice (Tryd.prog.elem 86)) := by kernel_rfl
/-- A slice of tokens without its first k. -/
theorem tail_t (oa : Option Addr) (n cap k m : Nat) (hn : n = m + k) (hc : n ≤ cap) : ∃ oa' cap', m ≤ cap' ∧ (∀ W : World, (Instr.slice 86 (.slice oa n cap) (some (.int .i64 (k : Int))) none none).run Tryd.prog W = .ok (.slice oa' m cap') W) ∧ ∀ (w : World) (ts : List Tk), RowT w oa ts → ts.length = n → RowT w oa' (ts.drop k) := by
  have hm : n - k = m := by omega
  by_cases h : k < cap
  · refine ⟨oa.map fun x => x.add (k * 3), cap - k, by omega, fun W => ?_, fun w l hr hl i hi => ?_⟩
    · rw [run_slice_l W 86 oa n cap elemTok .i64 (k : Int) (by omega) (by omega), sizeTok]
      cases oa with
      | none => simp [Result.andThen, sliced, hm]
      | some x =>
        simp only [Result.andThen, sliced, Int.toNat_natCast, Option.map_some, hm]
        congr 2
        rw [if_neg (by omega)]
    · have hi0 := hi
      rw [List.length_drop] at hi0
      obtain ⟨b, off, rfl, h1, h2, h3⟩ := hr (k + i) (by omega)
      refine ⟨b, off + k * 3, by rw [Option.map_some, Go.WideShapes.add_plain], ?_⟩
      have e : off + k * 3 + i * 3 = off + (k + i) * 3 := by omega
      rw [e, h1, h2, h3]
      simp
  · refine ⟨oa, cap - k, by omega, fun W => ?_, fun w l hr hl i hi => ?_⟩
    · rw [run_slice_l W 86 oa n cap elemTok .i64 (k : Int) (by omega) (by omega), sizeTok]
      cases oa with
      | none => simp [Result.andThen, sliced, hm]
      | some x =>
        simp only [Result.andThen, sliced, Int.toNat_natCast, hm]
        congr 2
        rw [if_pos (by omega)]
    · rw [List.length_drop] at hi; omega
theorem flatT_at : ∀ (L : List Tk) (i : Nat) (h : i < L.length), (flatT L)[i * 3]? = some (.int .i64 L[i].kind) ∧ (flatT L)[i * 3 + 1]? = some (.string (S L[i].text)) ∧ (flatT L)[i * 3 + 2]? = some (.bool L[i].gap)
  | t :: L, 0, _ => by
    have e : flatT (t :: L) = tkV t ++ flatT L := rfl
    rw [e]; simp [tkV]
  | t :: L, i + 1, h => by
    have e : flatT (t :: L) = tkV t ++ flatT L := rfl
    obtain ⟨h1, h2, h3⟩ := flatT_at L i (by simpa using h)
    have hl : (tkV t).length = 3 := rfl
    rw [e]
    refine ⟨?_, ?_, ?_⟩
    · rw [List.getElem?_append_right (by rw [hl]; omega), hl, show (i + 1) * 3 - 3 = i * 3 by omega, h1]; rfl
    · rw [List.getElem?_append_right (by rw [hl]; omega), hl, show (i + 1) * 3 + 1 - 3 = i * 3 + 1 by omega, h2]; rfl
    · rw [List.getElem?_append_right (by rw [hl]; omega), hl, show (i + 1) * 3 + 2 - 3 = i * 3 + 2 by omega, h3]; rfl
theorem rowT_own {w : World} {base : Nat} {e : TypeId} {v : Value} {n : Nat} {L : List Tk} (h : w.ownsRow base e 3 v n (flatT L)) (hn : L.length = n) : ∃ oa cap, v = .slice oa n cap ∧ n ≤ cap ∧ RowT w oa L := by
  have h' := h
  rcases h.2 with ⟨rfl, rfl⟩ | ⟨g, cap, cur, rfl, _, _, h1, h2, _⟩
  · exact ⟨none, 0, rfl, Nat.le_refl _, fun i hi => by omega⟩
  · refine ⟨_, cap, rfl, h1, fun i hi => ⟨g, 0, rfl, ?_⟩⟩
    obtain ⟨k1, k2, k3⟩ := flatT_at L i hi
    simp only [Nat.zero_add]
    rw [h'.cellAt (i * 3) (by omega), h'.cellAt (i * 3 + 1) (by omega), h'.cellAt (i * 3 + 2) (by omega)]
    exact ⟨k1, k2, k3⟩
theorem RowT.one {w : World} {oa : Option Addr} {t : Tk} {r : List Tk} (h : RowT w oa (t :: r)) : ∃ b off, oa = some ⟨b, off, none⟩ ∧ w.cell? ⟨b, off, none⟩ = some (.int .i64 t.kind) ∧ w.cell? ⟨b, off + 1, none⟩ = some (.string (S t.text)) ∧ w.cell? ⟨b, off + 2, none⟩ = some (.bool t.gap) := by
  obtain ⟨b, off, h1, h2, h3, h4⟩ := h 0 (by simp)
  exact ⟨b, off, h1, by simpa using h2, by simpa using h3, by simpa using h4⟩
theorem RowT.two {w : World} {oa : Option Addr} {t u : Tk} {r : List Tk} (h : RowT w oa (t :: u :: r)) : ∃ b off, oa = some ⟨b, off, none⟩ ∧ (w.cell? ⟨b, off, none⟩ = some (.int .i64 t.kind) ∧ w.cell? ⟨b, off + 1, none⟩ = some (.string (S t.text)) ∧ w.cell? ⟨b, off + 2, none⟩ = some (.bool t.gap)) ∧
    w.cell? ⟨b, off + 3, none⟩ = some (.int .i64 u.kind) ∧ w.cell? ⟨b, off + 3 + 1, none⟩ = some (.string (S u.text)) ∧ w.cell? ⟨b, off + 3 + 2, none⟩ = some (.bool u.gap) := by
  obtain ⟨b, off, h1, h2, h3, h4⟩ := h 0 (by simp)
  obtain ⟨b', off', g1, g2, g3, g4⟩ := h 1 (by simp)
  rw [h1] at g1
  injection g1 with g1
  injection g1 with g5 g6
  subst g5; subst g6
  exact ⟨b, off, h1, ⟨by simpa using h2, by simpa using h3, by simpa using h4⟩, by simpa using g2, by simpa using g3, by simpa using g4⟩
/-- The label and the rest of a line's tokens. -/
def labR : List Tk → Option (Bs × List Tk)
  | t :: u :: r => if u.text = [58] then (if t.kind = 1 ∧ nameR t.text = true then some (t.text, r) else none) else some ([], t :: u :: r)
  | L => some ([], L)
/-- The mnemonic and the operands' tokens. -/
def whatR : List Tk → Bs × List Tk
  | t :: u :: r => if t.text = [46] ∧ u.gap = false then (46 :: u.text, r) else (t.text, u :: r)
  | [t] => (t.text, [])
  | [] => ([], [])
def gapB : List Tk → Bool
  | [] => true
  | t :: _ => t.gap
structure StR where
  what : Bs
  op : Int
  l : List Arg
  size : Int
def sizeR (what : Bs) (a : List Arg) : Option Int := if what = wLi then some 2 else if what = wSpace then (match a with | x :: _ => if x.num < 0 ∨ 1024 < x.num then none else some x.num | [] => none) else some 1
def stR (T : List Tk) : Option StR :=
  (patR (whatR T).1).bind fun p => if gapB (whatR T).2 = false then none else (mtL (whatR T).2 p).bind fun a => (sizeR (whatR T).1 a).map fun z => ⟨(whatR T).1, opR (whatR T).1, a, z⟩
def endR (x : Bs × List Tk) : Option (Bs × Option StR) := if x.2 = [] then some (x.1, none) else (stR x.2).map fun st => (x.1, some st)
/-- A line, as the reference reads it. -/
def parR (l : Bs) : Option (Bs × Option StR) := (tkL (l.takeWhile (· != 59))).bind fun L => (labR L).bind endR
def zeroSt : Value := .agg #[.string { data := #[] }, .int .i64 0, .slice none 0 0, .int .i64 0, .int .i64 0, .int .i64 0]
def stV (st : StR) (v : Value) : Value := .agg #[.string (S st.what), .int .i64 st.op, v, .int .i64 0, .int .i64 0, .int .i64 st.size]
def ParPost (r : Option (Bs × Option StR)) (w : World) (e : Ending) (w' : World) : Prop :=
  (match r with
  | none => e = .returned (.tuple #[.string { data := #[] }, zeroSt, .bool false])
  | some (lab, none) => e = .returned (.tuple #[.string (S lab), zeroSt, .bool true])
  | some (lab, some st) => ∃ v, e = .returned (.tuple #[.string (S lab), stV st v, .bool true]) ∧ w'.ownsRow w.heap.size 51 3 v st.l.length (flatA st.l)) ∧ Below w.heap.size w w'
theorem results_scs {fn : Func} {p u u' : Tmp} {ty : TypeId} (h : fn.results = #[.tmp u, .cell p ty, .tmp u']) (tmps : Array Value) (P : Program) (w : World) :
    (results fn tmps).run P w =
      ((asAddr (tmps.getD p undef)).run P w).andThen fun a w₁ => ((loadVar ty a).run P w₁).andThen fun v w₂ => .ok (.tuple #[tmps.getD u undef, v, tmps.getD u' undef]) w₂ := by
  simp only [results, h]
  simp [Sem.run_bind, Result.andThen]
theorem box6 {w w' : World} {T : TypeId} {v0 v1 v2 v3 v4 v5 : Value} (hb : Below (w.alloc (Obj.cells #[v0, v1, v2, v3, v4, v5] T)).heap.size (w.alloc (Obj.cells #[v0, v1, v2, v3, v4, v5] T)) w') :
    w'.cell? ⟨w.heap.size, 0, none⟩ = some v0 ∧ w'.cell? ⟨w.heap.size, 1, none⟩ = some v1 ∧ w'.cell? ⟨w.heap.size, 2, none⟩ = some v2 ∧ w'.cell? ⟨w.heap.size, 3, none⟩ = some v3 ∧ w'.cell? ⟨w.heap.size, 4, none⟩ = some v4 ∧ w'.cell? ⟨w.heap.size, 5, none⟩ = some v5 := by
  have hs : w.heap.size < (w.alloc (Obj.cells #[v0, v1, v2, v3, v4, v5] T)).heap.size := by simp
  refine ⟨?_, ?_, ?_, ?_, ?_, ?_⟩ <;> (rw [hb.cell hs]; simp)
theorem tk_text : ∀ (l : Bs) (o : Option Tk) (g : Bool) (L : List Tk), tkGo o g l = some L → ∀ t ∈ L, t.text.length ≤ (match o with | some x => x.text.length | none => 0) + l.length
  | [], none, g, L, h, t, ht => by simp [tkGo] at h; subst h; cases ht
  | [], some x, g, L, h, t, ht => by simp [tkGo] at h; subst h; simp at ht; subst ht; simp
  | c :: l, none, g, L, h, t, ht => by
    rcases cls_le4 c with h0 | h0 | h0 | h0
    · rw [tk_blank0 h0] at h; have := tk_text l none true L h t ht; simp at this ⊢; omega
    · rw [tk_open h0] at h; have := tk_text l _ false L h t ht; simp at this ⊢; omega
    · rw [tk_sign h0] at h
      cases hr : tkGo none false l with
      | none => rw [hr] at h; cases h
      | some r =>
        rw [hr] at h; simp at h; subst h
        rcases List.mem_cons.1 ht with rfl | ht
        · simp
        · have := tk_text l none false r hr t ht; simp at this ⊢; omega
    · rw [tk_bad h0] at h; cases h
  | c :: l, some x, g, L, h, t, ht => by
    cases hk : okC c with
    | true => rw [tk_ext hk] at h; have := tk_text l _ false L h t ht; simp at this ⊢; omega
    | false =>
      rw [tk_close x g (c :: l) (Or.inr ⟨c, l, rfl, hk⟩)] at h
      have H : ∀ r, tkGo none false (c :: l) = some r → ∀ t ∈ r, t.text.length ≤ (c :: l).length := fun r hr t ht => by
        rcases cls_le4 c with h0 | h0 | h0 | h0
        · rw [tk_blank0 h0] at hr; have := tk_text l none true r hr t ht; simp at this ⊢; omega
        · rw [tk_open h0] at hr; have := tk_text l _ false r hr t ht; simp at this ⊢; omega
        · rw [tk_sign h0] at hr
          cases hq : tkGo none false l with
          | none => rw [hq] at hr; cases hr
          | some q =>
            rw [hq] at hr; simp at hr; subst hr
            rcases List.mem_cons.1 ht with rfl | ht
            · simp
            · have := tk_text l none false q hq t ht; simp at this ⊢; omega
        · rw [tk_bad h0] at hr; cases hr
      cases hr : tkGo none false (c :: l) with
      | none => rw [hr] at h; cases h
      | some r =>
        rw [hr] at h; simp at h; subst h
        rcases List.mem_cons.1 ht with rfl | ht
        · simp
        · have := H r hr t ht; simp at this ⊢; omega
where
  cls_le4 : ∀ c : UInt8, clsB c = 0 ∨ (clsB c = 1 ∨ clsB c = 2) ∨ clsB c = 3 ∨ clsB c = 4 := fun c => by
    unfold clsB; repeat' split
    all_goals simp
theorem tkL_text {l : Bs} {L : List Tk} (h : tkL l = some L) : ∀ t ∈ L, t.text.length ≤ l.length := fun t ht => by
  have := tk_text l none true L h t ht
  simpa using this
theorem tk_len : ∀ (l : Bs) (o : Option Tk) (g : Bool) (L : List Tk), tkGo o g l = some L → L.length ≤ (match o with | some _ => 1 | none => 0) + l.length
  | [], none, g, L, h => by simp [tkGo] at h; subst h; simp
  | [], some x, g, L, h => by simp [tkGo] at h; subst h; simp
  | c :: l, none, g, L, h => by
    rcases tk_text.cls_le4 c with h0 | h0 | h0 | h0
    · rw [tk_blank0 h0] at h; have := tk_len l none true L h; simp at this ⊢; omega
    · rw [tk_open h0] at h; have := tk_len l _ false L h; simp at this ⊢; omega
    · rw [tk_sign h0] at h
      cases hr : tkGo none false l with
      | none => rw [hr] at h; cases h
      | some r => rw [hr] at h; simp at h; subst h; have := tk_len l none false r hr; simp at this ⊢; omega
    · rw [tk_bad h0] at h; cases h
  | c :: l, some x, g, L, h => by
    cases hk : okC c with
    | true => rw [tk_ext hk] at h; have := tk_len l _ false L h; simp at this ⊢; omega
    | false =>
      rw [tk_close x g (c :: l) (Or.inr ⟨c, l, rfl, hk⟩)] at h
      cases hr : tkGo none false (c :: l) with
      | none => rw [hr] at h; cases h
      | some r =>
        rw [hr] at h; simp at h; subst h
        rcases tk_text.cls_le4 c with h0 | h0 | h0 | h0
        · rw [tk_blank0 h0] at hr; have := tk_len l none true r hr; simp at this ⊢; omega
        · rw [tk_open h0] at hr; have := tk_len l _ false r hr; simp at this ⊢; omega
        · rw [tk_sign h0] at hr
          cases hq : tkGo none false l with
          | none => rw [hq] at hr; cases hr
          | some q => rw [hq] at hr; simp at hr; subst hr; have := tk_len l none false q hq; simp at this ⊢; omega
        · rw [tk_bad h0] at hr; cases hr
end Go.Proofs.YthghbcjaokpilaaDoor

namespace Go.Proofs.YthghbcjaokpilaaDoor
set_option linter.unusedVariables false
set_option linter.unusedSimpArgs false
open Go.ChangeShapes Go.WideShapes Go.ChangeAt Go.RowKit Go.Proofs.YthghbcjaokpilaaDoor.Num Go.Proofs.YthghbcjaokpilaaDoor.Isa Go.Proofs.YthghbcjaokpilaaDoor.Mem Go.Proofs.YthghbcjaokpilaaDoor.Asm
/-- What the cut loop knows. -/
def CutAt (l q : Bs) (k : Nat) : Prop := l.takeWhile (· != 59) = q.take k ++ (q.drop k).takeWhile (· != 59) ∧ q.length ≤ l.length
theorem cut_start (l : Bs) : CutAt l l 0 := ⟨by simp, Nat.le_refl _⟩
theorem cut_on {l q : Bs} {k : Nat} (h : CutAt l q k) (hk : k < q.length) (hc : q[k] ≠ 59) : CutAt l q (k + 1) := by
  have e : q.take (k + 1) = q.take k ++ [q[k]] := by rw [List.take_add_one, List.getElem?_eq_getElem hk]; rfl
  refine ⟨?_, h.2⟩
  rw [h.1, List.drop_eq_getElem_cons hk, List.takeWhile_cons_of_pos (by simpa using hc), e, List.append_assoc]
  rfl
theorem cut_off {l q : Bs} {k : Nat} (h : CutAt l q k) (hk : k < q.length) (hc : q[k] = 59) : CutAt l (q.take k) (k + 1) := by
  refine ⟨?_, by rw [List.length_take]; have := h.2; omega⟩
  rw [h.1, List.drop_eq_getElem_cons hk, List.takeWhile_cons_of_neg (by simp [hc])]
  have e1 : (q.take k).length ≤ k + 1 := by rw [List.length_take]; omega
  rw [List.drop_eq_nil_of_le e1, List.take_of_length_le e1]
  simp
theorem cut_end {l q : Bs} {k : Nat} (h : CutAt l q k) (hk : q.length ≤ k) : l.takeWhile (· != 59) = q := by
  rw [h.1, List.drop_eq_nil_of_le hk, List.take_of_length_le hk]; simp
theorem slice_head (q : Bs) (k : Nat) (h : k ≤ q.length) (wx : World) : (Instr.slice 9 (.string (S q)) none (some (.int .i64 (k : Int))) none).run Tryd.prog wx = .ok (.string (S (q.take k))) wx := by
  rw [run_slice_string_to_if wx 9 (S q) .i64 (k : Int) Tryd.underlying9, if_pos ⟨by omega, by rw [S_size]; omega⟩, Int.toNat_natCast, extract_piece]
  simp [piece]
theorem box6z {w w' : World} {T : TypeId} {v0 v1 v2 v3 v4 v5 : Value} (hb : Below (w.alloc (Obj.cells #[v0, v1, v2, v3, v4, v5] T)).heap.size (w.alloc (Obj.cells #[v0, v1, v2, v3, v4, v5] T)) w') (i : Nat) : w'.frozen? ⟨w.heap.size, i, none⟩ = false := by
  have hs : w.heap.size < (w.alloc (Obj.cells #[v0, v1, v2, v3, v4, v5] T)).heap.size := by simp
  rw [hb.frozen (p := ⟨w.heap.size, i, none⟩) hs]
  exact free_blk (heap_alloc_new w _) i
theorem set6 {w w' : World} (hb : Below w.heap.size w w') (v0 v1 v2 v3 v4 v5 : Value) : Below w.heap.size w ((((((w'.setCell ⟨w.heap.size, 0, none⟩ v0).setCell ⟨w.heap.size, 1, none⟩ v1).setCell ⟨w.heap.size, 2, none⟩ v2).setCell ⟨w.heap.size, 3, none⟩ v3).setCell ⟨w.heap.size, 4, none⟩ v4).setCell ⟨w.heap.size, 5, none⟩ v5) := by
  have h0 : w.heap.size ≤ w.heap.size := Nat.le_refl _
  exact (((((hb.setCell h0 _).setCell h0 _).setCell h0 _).setCell h0 _).setCell h0 _).setCell h0 _
theorem own_set6 {w W : World} {base : Nat} {e : TypeId} {size : Nat} {v : Value} {n : Nat} {xs : List Value} (h : W.ownsRow base e size v n xs) (hlt : w.heap.size < base) (v0 v1 v2 v3 v4 v5 : Value) : ((((((W.setCell ⟨w.heap.size, 0, none⟩ v0).setCell ⟨w.heap.size, 1, none⟩ v1).setCell ⟨w.heap.size, 2, none⟩ v2).setCell ⟨w.heap.size, 3, none⟩ v3).setCell ⟨w.heap.size, 4, none⟩ v4).setCell ⟨w.heap.size, 5, none⟩ v5).ownsRow w.heap.size e size v n xs := by
  have n0 := own_low h (k := w.heap.size) hlt
  exact own_base (ownsRow_setCell_other (ownsRow_setCell_other (ownsRow_setCell_other (ownsRow_setCell_other (ownsRow_setCell_other (ownsRow_setCell_other h n0 _) n0 _) n0 _) n0 _) n0 _) n0 _) (Nat.le_of_lt hlt)
theorem end_p0 {lab : Bs} {T : List Tk} {wt : Bs} {rs : List Tk} (hT : T ≠ []) (hw : whatR T = (wt, rs)) (hp : patR wt = none) : endR (lab, T) = none := by
  unfold endR stR; rw [if_neg hT]; simp only [hw, hp]; rfl
theorem end_gap {lab : Bs} {T : List Tk} {wt : Bs} {rs : List Tk} {p : Bs} (hT : T ≠ []) (hw : whatR T = (wt, rs)) (hp : patR wt = some p) (hg : gapB rs = false) : endR (lab, T) = none := by
  unfold endR stR; rw [if_neg hT]; simp only [hw, hp, Option.bind_some, hg, if_true]; rfl
theorem end_m0 {lab : Bs} {T : List Tk} {wt : Bs} {rs : List Tk} {p : Bs} (hT : T ≠ []) (hw : whatR T = (wt, rs)) (hp : patR wt = some p) (hg : gapB rs = true) (hm : mtL rs p = none) : endR (lab, T) = none := by
  unfold endR stR; rw [if_neg hT]; simp only [hw, hp, Option.bind_some, hg, hm]; rfl
theorem end_z0 {lab : Bs} {T : List Tk} {wt : Bs} {rs : List Tk} {p : Bs} {a : List Arg} (hT : T ≠ []) (hw : whatR T = (wt, rs)) (hp : patR wt = some p) (hg : gapB rs = true) (hm : mtL rs p = some a) (hz : sizeR wt a = none) : endR (lab, T) = none := by
  unfold endR stR; rw [if_neg hT]; simp only [hw, hp, Option.bind_some, hg, hm, hz]; rfl
theorem end_z {lab : Bs} {T : List Tk} {wt : Bs} {rs : List Tk} {p : Bs} {a : List Arg} {z : Int} (hT : T ≠ []) (hw : whatR T = (wt, rs)) (hp : patR wt = some p) (hg : gapB rs = true) (hm : mtL rs p = some a) (hz : sizeR wt a = some z) : endR (lab, T) = some (lab, some ⟨wt, opR wt, a, z⟩) := by
  unfold endR stR; rw [if_neg hT]; simp only [hw, hp, Option.bind_some, hg, hm, hz]; rfl
theorem S_cons46 (l : Bs) : { data := #[46] } ++ S l = S (46 :: l) := by
  apply ba_ext; rw [ByteArray.data_append]; simp [S]
theorem lit_eq (l k : Bs) : ((S l).toList == k) = decide (l = k) := by
  rw [toL, S_list]
  by_cases h : l = k
  · rw [h]; simp
  · rw [decide_eq_false h]; simpa using h
/-- What .space has read. -/
theorem mt_space {ts : List Tk} {a : List Arg} (h : mtL ts [110] = some a) : ∃ n : Int, a = [⟨0, n, []⟩] ∧ -2147483648 ≤ n ∧ n ≤ 4294967295 := by
  unfold mtL at h
  match ts, h with
  | [], h => simp at h
  | [t], h =>
    rw [if_pos (show [t].length = ([110] : Bs).length from rfl)] at h
    simp only [mtGo] at h
    cases hs : mtStep 110 t with
    | none => rw [hs] at h; cases h
    | some o =>
      rw [hs] at h
      simp at h
      subst h
      unfold mtStep at hs
      rw [if_neg (by decide), if_pos (Or.inl rfl), if_neg (fun h => absurd h.1 (by decide))] at hs
      cases hn : numL t.text with
      | none => rw [hn] at hs; cases hs
      | some n =>
        rw [hn] at hs
        simp only at hs
        split at hs
        · injection hs with hs; subst hs; exact ⟨n, rfl, numL_bd hn⟩
        · cases hs
  | _ :: _ :: _, h => simp at h
theorem mt_len : ∀ (ts : List Tk) (ps : Bs) (a : List Arg), mtGo ts ps = some a → a.length ≤ ps.length
  | [], ps, a, h => by cases ps <;> (simp [mtGo] at h; subst h; simp)
  | t :: ts, [], a, h => by simp [mtGo] at h; subst h; simp
  | t :: ts, p :: ps, a, h => by
    simp only [mtGo] at h
    cases hs : mtStep p t with
    | none => rw [hs] at h; cases h
    | some o =>
      rw [hs] at h
      simp only [Option.bind_some] at h
      cases hg : mtGo ts ps with
      | none => rw [hg] at h; cases h
      | some b =>
        rw [hg] at h
        simp at h; subst h
        have := mt_len ts ps b hg
        cases o <;> simp <;> omega
theorem patR_len {s p : Bs} (h : patR s = some p) : p.length ≤ 6 := by
  unfold patR at h
  repeat' split at h
  all_goals first
    | (cases h; done)
    | (injection h with h; subst h; first | decide | (unfold patF; (repeat' split) <;> decide))
theorem tokens_row (q : Bs) (L : List Tk) (n : Nat) (hz : q.length ≤ 100000) (h : tkL q = some L) (hn : L.length = n) (W : World) :
    Calls Tryd.prog 32 #[.string (S q)] W fun e w' => (∃ oa cap, e = .returned (.tuple #[.slice oa n cap, .bool true]) ∧ n ≤ cap ∧ RowT w' oa L) ∧ Below W.heap.size W w' := by
  have := tokens_ref (S q) W (by rw [S_size]; exact hz)
  rw [S_list, h] at this
  refine this.mono fun e w' ⟨⟨v, he, hv⟩, hb⟩ => ⟨?_, hb⟩
  obtain ⟨oa, cap, rfl, hc, hr⟩ := rowT_own hv rfl
  subst hn
  exact ⟨oa, cap, he, hc, hr⟩
theorem matched_row (rs : List Tk) (p : Bs) (m : Nat) (hm : rs.length = m) (hts : ∀ t ∈ rs, t.text.length ≤ 100000) (hp : p.length ≤ 6) (W : World) (oa : Option Addr) (cap : Nat) (hr : RowT W oa rs) :
    Calls Tryd.prog 35 #[.slice oa m cap, .string (S p)] W (MtPost (mtL rs p) W) := by
  have := matched_ref oa cap rs (S p) W hr hts (by rw [S_size]; omega)
  rw [S_list, hm] at this
  exact this
theorem arg_own {w : World} {base : Nat} {e : TypeId} {v : Value} {n : Int} (h : w.ownsRow base e 3 v 1 (flatA [⟨0, n, []⟩])) : ∃ g cap, v = .slice (some ⟨g, 0, none⟩) 1 cap ∧ g < w.heap.size ∧ w.cell? ⟨g, 1, none⟩ = some (.int .i64 n) := by
  have h' := h
  rcases h.2 with ⟨_, h1⟩ | ⟨g, cap, cur, rfl, _, hg, _⟩
  · cases h1
  · exact ⟨g, cap, rfl, lt_of_block hg, (h'.cellAt 1 (by omega)).trans rfl⟩
end Go.Proofs.YthghbcjaokpilaaDoor

namespace Go.Proofs.YthghbcjaokpilaaDoor
set_option linter.unusedVariables false
set_option linter.unusedSimpArgs false
open Go.ChangeShapes Go.WideShapes Go.ChangeAt Go.RowKit Go.Proofs.YthghbcjaokpilaaDoor.Num Go.Proofs.YthghbcjaokpilaaDoor.Isa Go.Proofs.YthghbcjaokpilaaDoor.Mem Go.Proofs.YthghbcjaokpilaaDoor.Asm
/-- A colon behind the first token. -/
def colB : List Tk → Bool
  | _ :: u :: _ => decide (u.text = [58])
  | _ => false
/-- A dot, and a word right behind it. -/
def dotB : List Tk → Bool
  | t :: u :: _ => decide (t.text = [46]) && !u.gap
  | _ => false
/-- The result's box, and what lay before the call. -/
structure Box (w W : World) : Prop where
  blk : W.heap[w.heap.size]? = some (.cells #[.string { data := #[] }, .int .i64 0, .slice none 0 0, .int .i64 0, .int .i64 0, .int .i64 0] 49 (0, 0))
  bel : Below w.heap.size w W
theorem Box.lt {w W : World} (h : Box w W) : w.heap.size < W.heap.size := lt_of_block h.blk
theorem Box.on {w W W' : World} (h : Box w W) (hb : Below W.heap.size W W') : Box w W' := ⟨heap_below h.blk hb, below_step h.bel hb⟩
theorem Box.cells {w W : World} (h : Box w W) : (W.cell? ⟨w.heap.size, 0, none⟩ = some (.string { data := #[] }) ∧ W.cell? ⟨w.heap.size, 1, none⟩ = some (.int .i64 0) ∧ W.cell? ⟨w.heap.size, 2, none⟩ = some (.slice none 0 0) ∧ W.cell? ⟨w.heap.size, 3, none⟩ = some (.int .i64 0) ∧ W.cell? ⟨w.heap.size, 4, none⟩ = some (.int .i64 0) ∧ W.cell? ⟨w.heap.size, 5, none⟩ = some (.int .i64 0)) ∧ ∀ i, W.frozen? ⟨w.heap.size, i, none⟩ = false :=
  ⟨⟨cell_blk h.blk 0 rfl, cell_blk h.blk 1 rfl, cell_blk h.blk 2 rfl, cell_blk h.blk 3 rfl, cell_blk h.blk 4 rfl, cell_blk h.blk 5 rfl⟩, fun i => free_blk h.blk i⟩
/-- Behind the label: the rest of the tokens. -/
def CutA (w : World) (L : List Tk) (s6 s8 : Value) (W : World) : Prop := ∃ (lab : Bs) (T : List Tk) (oa : Option Addr) (n cap : Nat), s6 = .slice oa n cap ∧ s8 = .string (S lab) ∧ Hid (T.length = n) ∧ n ≤ cap ∧ Hid (labR L = some (lab, T)) ∧ Hid (RowT W oa T) ∧ Hid (Box w W) ∧ Hid (∀ t ∈ T, t.text.length ≤ 100000)
/-- The mnemonic, and the operands' tokens. -/
def CutB (T : List Tk) (W : World) (s9 s10 : Value) (wx : World) : Prop := ∃ (wt : Bs) (R : List Tk) (oa : Option Addr) (n cap : Nat), s9 = .string (S wt) ∧ s10 = .slice oa n cap ∧ Hid (R.length = n) ∧ n ≤ cap ∧ Hid (whatR T = (wt, R)) ∧ Hid (RowT W oa R) ∧ wx = W
theorem colB_true {L : List Tk} (h : colB L = true) : ∃ t u r, L = t :: u :: r ∧ u.text = [58] := by
  match L, h with
  | t :: u :: r, h => exact ⟨t, u, r, rfl, of_decide_eq_true h⟩
theorem labR_no {L : List Tk} (h : colB L = false) : labR L = some ([], L) := by
  match L, h with
  | [], _ => rfl
  | [t], _ => rfl
  | t :: u :: r, h =>
    have hu : ¬ u.text = [58] := of_decide_eq_false h
    simp [labR, hu]
theorem labR_bad {t u : Tk} {r : List Tk} (hu : u.text = [58]) (h : ¬ (t.kind = 1 ∧ nameR t.text = true)) : labR (t :: u :: r) = none := by
  simp only [labR]; rw [if_pos hu, if_neg h]
theorem labR_yes {t u : Tk} {r : List Tk} (hu : u.text = [58]) (h : t.kind = 1 ∧ nameR t.text = true) : labR (t :: u :: r) = some (t.text, r) := by
  simp only [labR]; rw [if_pos hu, if_pos h]
theorem dotB_true {T : List Tk} (h : dotB T = true) : ∃ t u r, T = t :: u :: r ∧ t.text = [46] ∧ u.gap = false := by
  match T, h with
  | t :: u :: r, h =>
    unfold dotB at h
    rw [Bool.and_eq_true] at h
    exact ⟨t, u, r, rfl, of_decide_eq_true h.1, by simpa using h.2⟩
theorem whatR_yes {t u : Tk} {r : List Tk} (h : t.text = [46]) (hg : u.gap = false) : whatR (t :: u :: r) = (46 :: u.text, r) := by
  simp only [whatR]; rw [if_pos ⟨h, hg⟩]
theorem whatR_no {t : Tk} {r : List Tk} (h : dotB (t :: r) = false) : whatR (t :: r) = (t.text, r) := by
  match r, h with
  | [], _ => rfl
  | u :: r, h =>
    have h' : ¬ (t.text = [46] ∧ u.gap = false) := fun hh => by
      have h2 : (decide (t.text = [46]) && !u.gap) = false := h
      rw [hh.2, decide_eq_true hh.1] at h2
      cases h2
    simp only [whatR]; rw [if_neg h']
theorem whatR_mem {T : List Tk} {wt : Bs} {rs : List Tk} (h : whatR T = (wt, rs)) : ∀ t ∈ rs, t ∈ T := by
  match T, h with
  | [], h =>
    injection h with _ h2
    subst h2
    exact fun t ht => ht
  | [t], h =>
    injection h with _ h2
    subst h2
    exact fun t ht => by cases ht
  | t :: u :: r, h =>
    simp only [whatR] at h
    split at h
    · injection h with _ h2
      subst h2
      exact fun t ht => by simp [ht]
    · injection h with _ h2
      subst h2
      exact fun t ht => List.mem_cons_of_mem _ ht
end Go.Proofs.YthghbcjaokpilaaDoor
