import Derived.Test.YthghbcjaokpilaaDoorRefP
import Derived.Test.YthghbcjaokpilaaDoorRefG
import Derived.Test.YthghbcjaokpilaaDoorRefGc
namespace Go.Proofs.YthghbcjaokpilaaDoor
set_option linter.unusedVariables false
set_option linter.unusedSimpArgs false
open Go.ChangeShapes Go.WideShapes Go.ChangeAt Go.RowKit Go.Proofs.YthghbcjaokpilaaDoor.Num Go.Proofs.YthghbcjaokpilaaDoor.Isa Go.Proofs.YthghbcjaokpilaaDoor.Mem Go.Proofs.YthghbcjaokpilaaDoor.Asm
/- The reference's tokens of one piece. -/
/-- A word; a number. -/
def isW (t : Bs) : Bool := letB ((t.headD 0).toNat : Int) && t.all okC
def isN (t : Bs) : Bool := (digB ((t.headD 0).toNat : Int) || decide (t.headD 0 = 45)) && t.tail.all okC
theorem byte_all {P : UInt8 → Prop} (h : ∀ c : Fin 256, P (UInt8.ofNat c.val)) (c : UInt8) : P c := by
  have := h ⟨c.toNat, c.toNat_lt⟩
  simpa using this
theorem cls_let : ∀ c : Fin 256, letB ((UInt8.ofNat c.val).toNat : Int) = true → clsB (UInt8.ofNat c.val) = 1 ∧ okC (UInt8.ofNat c.val) = true := by decide +kernel
theorem cls_num : ∀ c : Fin 256, (digB ((UInt8.ofNat c.val).toNat : Int) || decide (UInt8.ofNat c.val = 45)) = true → clsB (UInt8.ofNat c.val) = 2 := by decide +kernel
theorem cls_1i : ∀ c : Fin 256, clsB (UInt8.ofNat c.val) = 1 → letB ((UInt8.ofNat c.val).toNat : Int) = true := by decide +kernel
theorem cls_2i : ∀ c : Fin 256, clsB (UInt8.ofNat c.val) = 2 → (digB ((UInt8.ofNat c.val).toNat : Int) || decide (UInt8.ofNat c.val = 45)) = true := by decide +kernel
theorem cls_3i : ∀ c : Fin 256, clsB (UInt8.ofNat c.val) = 3 → sepB (UInt8.ofNat c.val) = false → UInt8.ofNat c.val = 46 := by decide +kernel
theorem tk_run : ∀ (l : Bs) (x : Tk) (g : Bool), l.all okC = true → tkGo (some x) g l = some [{ x with text := x.text ++ l }]
  | [], x, g, _ => by simp [tkGo]
  | c :: l, x, g, h => by
    rw [List.all_cons, Bool.and_eq_true] at h
    rw [tk_ext h.1, tk_run l _ _ h.2]
    simp
theorem tk_W {t : Bs} (g : Bool) (h : isW t = true) : tkGo none g t = some [⟨1, t, g⟩] := by
  unfold isW at h
  rw [Bool.and_eq_true] at h
  cases t with
  | nil => exact absurd h.1 (by decide)
  | cons c l =>
    have hc := byte_all (P := fun c => letB (c.toNat : Int) = true → clsB c = 1 ∧ okC c = true) cls_let c h.1
    have hl := h.2
    rw [List.all_cons, Bool.and_eq_true] at hl
    rw [tk_open (.inl hc.1), tk_run l _ _ hl.2, hc.1]
    rfl
theorem tk_N {t : Bs} (g : Bool) (h : isN t = true) : tkGo none g t = some [⟨2, t, g⟩] := by
  unfold isN at h
  rw [Bool.and_eq_true] at h
  cases t with
  | nil => exact absurd h.1 (by decide)
  | cons c l =>
    have hc := byte_all (P := fun c => (digB (c.toNat : Int) || decide (c = 45)) = true → clsB c = 2) cls_num c h.1
    rw [tk_open (.inr hc), tk_run l _ _ h.2, hc]
    rfl
def WfT (x : Tk) : Prop := (x.kind = 1 ∧ isW x.text = true) ∨ (x.kind = 2 ∧ isN x.text = true) ∨ (x.kind = 3 ∧ x.text = [46])
theorem headD_app {p : Bs} (hp : p ≠ []) (q : Bs) : (p ++ q).headD 0 = p.headD 0 := by
  cases p with
  | nil => exact absurd rfl hp
  | cons => rfl
theorem isW_ne {t : Bs} (h : isW t = true) : t ≠ [] := by rintro rfl; exact absurd h (by decide)
theorem isN_ne {t : Bs} (h : isN t = true) : t ≠ [] := by rintro rfl; exact absurd h (by decide)
theorem isW_app {t : Bs} {c : UInt8} (h : isW t = true) (hc : okC c = true) : isW (t ++ [c]) = true := by
  have hn := isW_ne h
  unfold isW at *
  rw [Bool.and_eq_true] at *
  rw [headD_app hn, List.all_append, h.2]
  exact ⟨h.1, by simp [hc]⟩
theorem isN_app {t : Bs} {c : UInt8} (h : isN t = true) (hc : okC c = true) : isN (t ++ [c]) = true := by
  have hn := isN_ne h
  unfold isN at *
  rw [Bool.and_eq_true] at *
  rw [headD_app hn]
  refine ⟨h.1, ?_⟩
  cases t with
  | nil => exact absurd rfl hn
  | cons d t => simpa [hc] using h.2
def oText : Option Tk → Bs
  | some x => x.text
  | none => []
/-- The first token has the gap g, the others none. -/
def Gaps (g : Bool) : List Tk → Prop
  | [] => True
  | y :: r => y.gap = g ∧ ∀ z ∈ r, z.gap = false
theorem gaps_all {L : List Tk} (h : Gaps false L) : ∀ z ∈ L, z.gap = false := by
  cases L with
  | nil => intro z hz; cases hz
  | cons y r =>
    intro z hz
    rcases List.mem_cons.1 hz with rfl | hz
    · exact h.1
    · exact h.2 z hz
theorem tk_parts : ∀ (l : Bs) (o : Option Tk) (g : Bool) (L : List Tk), (∀ d ∈ l, sepB d = false) → (∀ x, o = some x → ¬ x.kind = 3 ∧ WfT x) → tkGo o g l = some L →
    (L.map Tk.text).flatten = oText o ++ l ∧ (∀ y ∈ L, WfT y) ∧ Gaps (match o with | some x => x.gap | none => g) L ∧ (L = [] → o = none ∧ l = []) := by
  intro l
  induction l with
  | nil =>
    intro o g L _ ho h
    cases o with
    | none =>
      obtain rfl : [] = L := Option.some.inj h
      exact ⟨rfl, fun y hy => (by cases hy), trivial, fun _ => ⟨rfl, rfl⟩⟩
    | some x =>
      obtain rfl : [x] = L := Option.some.inj h
      refine ⟨by simp [oText], fun y hy => ?_, ⟨rfl, fun z hz => (by cases hz)⟩, fun h => (by cases h)⟩
      rw [List.mem_singleton] at hy
      subst hy
      exact (ho _ rfl).2
  | cons c l IH =>
    have N : ∀ (g : Bool) (L : List Tk), (∀ d ∈ c :: l, sepB d = false) → tkGo none g (c :: l) = some L → (L.map Tk.text).flatten = c :: l ∧ (∀ y ∈ L, WfT y) ∧ Gaps g L ∧ L ≠ [] := by
      intro g L hs h
      have hs' : ∀ d ∈ l, sepB d = false := fun d hd => hs d (List.mem_cons_of_mem _ hd)
      have hc := hs c (by simp)
      rcases cls_cases c with h0 | h0 | h0 | h0 | h0
      · rw [(cls0_iff c).1 h0] at hc
        exact absurd hc (by decide)
      · rw [tk_open (.inl h0)] at h
        have hl := byte_all (P := fun c => clsB c = 1 → letB (c.toNat : Int) = true) cls_1i c h0
        have ho := (byte_all (P := fun c => letB (c.toNat : Int) = true → clsB c = 1 ∧ okC c = true) cls_let c hl).2
        have hw : isW [c] = true := by unfold isW; simp [hl, ho]
        obtain ⟨h1, h2, h3, h4⟩ := IH _ _ _ hs' (fun x hx => by obtain rfl := (Option.some.inj hx).symm; exact ⟨by show ¬ clsB c = 3; omega, .inl ⟨h0, hw⟩⟩) h
        exact ⟨by rw [h1]; rfl, h2, h3, fun e => by cases (h4 e).1⟩
      · rw [tk_open (.inr h0)] at h
        have hl := byte_all (P := fun c => clsB c = 2 → (digB (c.toNat : Int) || decide (c = 45)) = true) cls_2i c h0
        have hw : isN [c] = true := by unfold isN; simpa using hl
        obtain ⟨h1, h2, h3, h4⟩ := IH _ _ _ hs' (fun x hx => by obtain rfl := (Option.some.inj hx).symm; exact ⟨by show ¬ clsB c = 3; omega, .inr (.inl ⟨h0, hw⟩)⟩) h
        exact ⟨by rw [h1]; rfl, h2, h3, fun e => by cases (h4 e).1⟩
      · rw [tk_sign h0] at h
        have h46 := byte_all (P := fun c => clsB c = 3 → sepB c = false → c = 46) cls_3i c h0 hc
        subst h46
        cases hr : tkGo none false l with
        | none => rw [hr] at h; cases h
        | some r =>
          rw [hr] at h
          obtain rfl : _ = L := Option.some.inj h
          obtain ⟨h1, h2, h3, h4⟩ := IH none false r hs' (fun x hx => by cases hx) hr
          refine ⟨by simp only [List.map_cons, List.flatten_cons, h1]; rfl, fun y hy => ?_, ⟨rfl, gaps_all h3⟩, by simp⟩
          rcases List.mem_cons.1 hy with rfl | hy
          · exact .inr (.inr ⟨rfl, rfl⟩)
          · exact h2 y hy
      · rw [tk_bad h0] at h; cases h
    intro o g L hs ho h
    cases o with
    | none =>
      obtain ⟨h1, h2, h3, h4⟩ := N g L hs h
      exact ⟨h1, h2, h3, fun e => absurd e h4⟩
    | some x =>
      obtain ⟨hk, hw⟩ := ho x rfl
      cases hok : okC c with
      | true =>
        rw [tk_ext hok] at h
        obtain ⟨h1, h2, h3, h4⟩ := IH _ _ _ (fun d hd => hs d (List.mem_cons_of_mem _ hd)) (fun y hy => by
          obtain rfl := (Option.some.inj hy).symm
          refine ⟨hk, ?_⟩
          rcases hw with ⟨e, hw⟩ | ⟨e, hw⟩ | ⟨e, _⟩
          · exact .inl ⟨e, isW_app hw hok⟩
          · exact .inr (.inl ⟨e, isN_app hw hok⟩)
          · exact absurd e hk) h
        exact ⟨by rw [h1]; simp [oText], h2, h3, fun e => by cases (h4 e).1⟩
      | false =>
        rw [tk_close x g (c :: l) (.inr ⟨c, l, rfl, hok⟩)] at h
        cases hr : tkGo none false (c :: l) with
        | none => rw [hr] at h; cases h
        | some r =>
          rw [hr] at h
          obtain rfl : _ = L := Option.some.inj h
          obtain ⟨h1, h2, h3, h4⟩ := N false r hs hr
          refine ⟨by simp only [List.map_cons, List.flatten_cons, h1]; rfl, fun y hy => ?_, ⟨rfl, gaps_all h3⟩, fun e => by cases e⟩
          rcases List.mem_cons.1 hy with rfl | hy
          · exact hw
          · exact h2 y hy
/-- What a piece without separators can be. -/
theorem piece_toks {t : Bs} (g : Bool) (ht : t ≠ []) (hs : ∀ d ∈ t, sepB d = false) :
    (isW t = true ∧ tkGo none g t = some [⟨1, t, g⟩]) ∨ (isN t = true ∧ tkGo none g t = some [⟨2, t, g⟩]) ∨
    (isW t = false ∧ isN t = false ∧ (tkGo none g t = none ∨ (t = [46] ∧ tkGo none g t = some [⟨3, [46], g⟩]) ∨ ∃ a b r, tkGo none g t = some (a :: b :: r) ∧ WfT a ∧ WfT b ∧ b.gap = false ∧ (∀ z ∈ r, z.gap = false) ∧ a.text ++ b.text ++ (r.map Tk.text).flatten = t)) := by
  cases hw : isW t with
  | true => exact .inl ⟨rfl, tk_W g hw⟩
  | false =>
    cases hn : isN t with
    | true => exact .inr (.inl ⟨rfl, tk_N g hn⟩)
    | false =>
      refine .inr (.inr ⟨rfl, rfl, ?_⟩)
      cases hk : tkGo none g t with
      | none => exact .inl rfl
      | some L =>
        obtain ⟨h1, h2, h3, h4⟩ := tk_parts t none g L hs (fun x hx => by cases hx) hk
        match L, h1, h2, h3, h4 with
        | [], _, _, _, h4 => exact absurd (h4 rfl).2 ht
        | [a], h1, h2, h3, _ =>
          have h1' : a.text = t := by simpa [oText] using h1
          rcases h2 a (by simp) with ⟨_, h⟩ | ⟨_, h⟩ | ⟨e, h⟩
          · rw [h1', hw] at h; cases h
          · rw [h1', hn] at h; cases h
          · refine .inr (.inl ⟨by rw [← h1', h], ?_⟩)
            have hg := h3.1
            obtain ⟨ak, at_, ag⟩ := a
            simp only at e h hg
            subst e h hg
            rfl
        | a :: b :: r, h1, h2, h3, _ =>
          refine .inr (.inr ⟨a, b, r, rfl, h2 a (by simp), h2 b (by simp), h3.2 b (by simp), fun z hz => h3.2 z (by simp [hz]), ?_⟩)
          have := h1
          simp only [List.map_cons, List.flatten_cons, oText, List.nil_append] at this
          rw [List.append_assoc]; exact this
theorem sep_toks {c : UInt8} (g : Bool) (hs : sepB c = true) (h32 : c ≠ 32) : tkGo none g [c] = some [⟨3, [c], g⟩] := by
  rcases (sep_cls c hs).2 with h | h
  · exact absurd h h32
  · rw [tk_sign h, tk_nil]; rfl
end Go.Proofs.YthghbcjaokpilaaDoor

namespace Go.Proofs.YthghbcjaokpilaaDoor
set_option linter.unusedVariables false
set_option linter.unusedSimpArgs false
open Go.ChangeShapes Go.WideShapes Go.ChangeAt Go.RowKit Go.Proofs.YthghbcjaokpilaaDoor.Num Go.Proofs.YthghbcjaokpilaaDoor.Isa Go.Proofs.YthghbcjaokpilaaDoor.Mem Go.Proofs.YthghbcjaokpilaaDoor.Asm
/- Registers, numbers and names are words or numbers. -/
theorem dec_ok10 : ∀ d : Fin 10, okC (UInt8.ofNat (48 + d.val)) = true := by decide +kernel
theorem dec_ok (u : Nat) : (Lib.decDigits u).all okC = true := by
  induction u using Nat.strongRecOn with
  | ind u IH =>
    rw [Lib.decDigits]
    split
    · rename_i h
      have := dec_ok10 ⟨u, h⟩
      simpa using this
    · rename_i h
      rw [List.all_append, IH (u / 10) (by omega)]
      have := dec_ok10 ⟨u % 10, Nat.mod_lt _ (by omega)⟩
      simpa using this
theorem regL_W {t : Bs} {r : Nat} (h : regL t = some r) : isW t = true := by
  unfold regL at h
  have := List.find?_some h
  obtain rfl : t = 114 :: Lib.decDigits r := by simpa using this
  unfold isW
  rw [List.all_cons, dec_ok r]
  rfl
theorem hex_ok : ∀ c : Fin 256, hexV (UInt8.ofNat c.val) < 16 → okC (UInt8.ofNat c.val) = true := by decide +kernel
theorem hex_dig : ∀ c : Fin 256, hexV (UInt8.ofNat c.val) < 10 → digB ((UInt8.ofNat c.val).toNat : Int) = true := by decide +kernel
theorem digs_ok16 {b : Nat} (hb : b ≤ 16) : ∀ (l : Bs) (n m : Nat), digs b l n = some m → l.all okC = true
  | [], _, _, _ => rfl
  | c :: l, n, m, h => by
    simp only [digs] at h
    split at h
    · rename_i hc
      rw [List.all_cons, digs_ok16 hb l _ m h, byte_all (P := fun c => hexV c < 16 → okC c = true) hex_ok c (by omega)]
      rfl
    · cases h
theorem digs_head {l : Bs} {m : Nat} (h : digs 10 l 0 = some m) (hl : l ≠ []) : digB ((l.headD 0).toNat : Int) = true := by
  cases l with
  | nil => exact absurd rfl hl
  | cons c l =>
    simp only [digs] at h
    split at h
    · rename_i hc
      exact byte_all (P := fun c => hexV c < 10 → digB (c.toNat : Int) = true) hex_dig c hc
    · cases h
theorem numL_N {t : Bs} {n : Int} (h : numL t = some n) : isN t = true := by
  unfold numL at h
  split at h
  · rename_i hp
    unfold Lib.hasPrefix at hp
    obtain ⟨q, rfl⟩ := List.isPrefixOf_iff_prefix.1 hp
    cases hd : digsR 16 8 (([48, 120] ++ q).drop 2) with
    | none => rw [hd] at h; cases h
    | some m =>
      have e : ([48, 120] ++ q).drop 2 = q := rfl
      rw [e] at hd
      unfold digsR at hd
      split at hd
      · cases hd
      · have := digs_ok16 (by decide) q 0 m hd
        unfold isN
        show (true && (okC 120 && q.all okC)) = true
        rw [this]; rfl
  · split at h
    · cases h
    · rename_i m hd
      unfold digsR at hd
      split at hd
      · cases hd
      · rename_i hq
        have hall := digs_ok16 (by decide) _ 0 m hd
        have hne : Lib.trimPrefix t [45] ≠ [] := fun e => hq (.inl e)
        have hhd := digs_head hd hne
        unfold Lib.trimPrefix at hall hne hhd
        split at hall
        · rename_i hp
          rw [if_pos hp] at hne hhd
          unfold Lib.hasPrefix at hp
          obtain ⟨q, rfl⟩ := List.isPrefixOf_iff_prefix.1 hp
          replace hall : q.all okC = true := hall
          unfold isN
          show (true && q.all okC) = true
          rw [hall]; rfl
        · rename_i hp
          rw [if_neg hp] at hne hhd
          unfold isN
          rw [hhd]
          cases t with
          | nil => exact absurd rfl hne
          | cons c l =>
            rw [List.all_cons, Bool.and_eq_true] at hall
            simpa using hall.2
theorem nameB_W {t : Bs} (h : nameB t = true) : isW t = true := by
  unfold nameB at h
  simp only [Bool.and_eq_true] at h
  unfold isW
  rw [Bool.and_eq_true]
  exact ⟨h.1.2, h.2⟩
theorem name_same {t : Bs} (h : isW t = true) : nameR t = nameB t := by
  have hn := isW_ne h
  have hl : 1 ≤ t.length := by cases t with | nil => exact absurd rfl hn | cons => simp
  unfold isW at h
  rw [Bool.and_eq_true] at h
  have h2 : t.all (fun c => okB c.toNat) = true := h.2
  unfold nameR nameB
  rw [h.1, h2, decide_eq_true hl]
  cases regL t <;> simp
theorem W_not_N {t : Bs} (h : isW t = true) : isN t = false := by
  have hc : ∀ c : Fin 256, letB ((UInt8.ofNat c.val).toNat : Int) = true → (digB ((UInt8.ofNat c.val).toNat : Int) || decide (UInt8.ofNat c.val = 45)) = false := by decide +kernel
  unfold isW at h
  rw [Bool.and_eq_true] at h
  unfold isN
  rw [byte_all (P := fun c => letB (c.toNat : Int) = true → (digB (c.toNat : Int) || decide (c = 45)) = false) hc _ h.1]
  rfl
theorem num_W {t : Bs} (h : isW t = true) : numL t = none := by
  cases hn : numL t with
  | none => rfl
  | some n => have := numL_N hn; rw [W_not_N h] at this; cases this
theorem reg_noW {t : Bs} (h : isW t = false) : regL t = none := by
  cases hn : regL t with
  | none => rfl
  | some n => have := regL_W hn; rw [h] at this; cases this
theorem num_noN {t : Bs} (h : isN t = false) : numL t = none := by
  cases hn : numL t with
  | none => rfl
  | some n => have := numL_N hn; rw [h] at this; cases this
theorem name_noW {t : Bs} (h : isW t = false) : nameB t = false := by
  cases hn : nameB t with
  | false => rfl
  | true => have := nameB_W hn; rw [h] at this; cases this
theorem sep_noW : ∀ c : Fin 256, sepB (UInt8.ofNat c.val) = true → isW [UInt8.ofNat c.val] = false ∧ isN [UInt8.ofNat c.val] = false := by decide +kernel
theorem sep_no {c : UInt8} (h : sepB c = true) : isW [c] = false ∧ isN [c] = false := byte_all (P := fun c => sepB c = true → isW [c] = false ∧ isN [c] = false) sep_noW c h
/-- The patterns: the program's letters al the reference's. -/
def isL (p : UInt8) : Bool := p == 65 || p == 66 || p == 67 || p == 78 || p == 88
def conv (p : UInt8) : UInt8 := if p = 65 ∨ p = 66 ∨ p = 67 then 114 else if p = 78 then 110 else if p = 88 then 120 else p
def PatOk : Bs → Bool
  | [] => true
  | p :: ps => (isL p || p == 44 || p == 40 || p == 41) && (match ps with | q :: _ => !(isL p && isL q) | [] => true) && PatOk ps
def putA (p : UInt8) (x : Arg) (o : Opds) : Opds :=
  if p = 65 then { o with a := x.reg } else if p = 66 then { o with b := x.reg } else if p = 67 then { o with c := x.reg } else if p = 78 then { o with n := x.num } else { o with n := x.num, l := x.lab }
def putL : Bs → List Arg → Opds → Opds
  | p :: ps, al, o => if isL p then (match al with | x :: al => putL ps al (putA p x o) | [] => o) else putL ps al o
  | [], _, o => o
theorem letters {p : UInt8} (h : isL p = true) : p = 65 ∨ p = 66 ∨ p = 67 ∨ p = 78 ∨ p = 88 := by
  unfold isL at h
  simpa [or_assoc] using h
theorem signs {p : UInt8} (h : isL p = false) (h2 : (isL p || p == 44 || p == 40 || p == 41) = true) : p = 44 ∨ p = 40 ∨ p = 41 := by
  rw [h] at h2
  simpa [or_assoc] using h2
/-- A letter against a word or a number. -/
theorem step_one {p : UInt8} (hp : isL p = true) {t : Bs} {k : Int} {g : Bool} (hk : (k = 1 ∧ isW t = true) ∨ (k = 2 ∧ isN t = true)) :
    (∃ x, mtStep (conv p) ⟨k, t, g⟩ = some (some x) ∧ ∀ o, opStep p t o = some (putA p x o)) ∨ (mtStep (conv p) ⟨k, t, g⟩ = none ∧ ∀ o, opStep p t o = none) := by
  have R : ∀ q : UInt8, (q = 65 ∨ q = 66 ∨ q = 67) → mtStep (conv q) ⟨k, t, g⟩ = (match regL t with | some r => some (some ⟨r, 0, []⟩) | none => none) := by
    intro q hq
    have hc : conv q = 114 := by unfold conv; rw [if_pos hq]
    rw [hc]
    unfold mtStep
    rw [if_pos rfl]
    rcases hk with ⟨rfl, hw⟩ | ⟨rfl, hn⟩
    · cases regL t <;> rfl
    · have : isW t = false := by
        cases h : isW t with
        | false => rfl
        | true => have := W_not_N h; rw [hn] at this; cases this
      rw [reg_noW this]
  have N : ∀ q : UInt8, q = 110 ∨ (q = 120 ∧ ¬ (k = 1 ∧ nameR t = true)) → mtStep q ⟨k, t, g⟩ = (match numL t with | some n => some (some ⟨0, n, []⟩) | none => none) := by
    intro q hq
    unfold mtStep
    have h1 : ¬ q = 114 := by rcases hq with rfl | ⟨rfl, _⟩ <;> decide
    have h2 : q = 110 ∨ q = 120 := by rcases hq with rfl | ⟨rfl, _⟩ <;> simp
    have h3 : ¬ (q = 120 ∧ k = 1 ∧ nameR t = true) := by
      rcases hq with rfl | ⟨rfl, hh⟩
      · exact fun h => absurd h.1 (by decide)
      · exact fun h => hh h.2
    rw [if_neg h1, if_pos h2, if_neg h3]
    rcases hk with ⟨rfl, hw⟩ | ⟨rfl, hn⟩
    · rw [num_W hw]
    · cases numL t <;> rfl
  rcases letters hp with rfl | rfl | rfl | rfl | rfl
  · rw [R 65 (by simp)]
    cases hr : regL t with
    | none => exact .inr ⟨rfl, fun o => by unfold opStep; rw [if_pos rfl, hr]⟩
    | some r => exact .inl ⟨_, rfl, fun o => by unfold opStep; rw [if_pos rfl, hr]; rfl⟩
  · rw [R 66 (by simp)]
    cases hr : regL t with
    | none => exact .inr ⟨rfl, fun o => by unfold opStep; rw [if_neg (by decide), if_pos rfl, hr]⟩
    | some r => exact .inl ⟨_, rfl, fun o => by unfold opStep; rw [if_neg (by decide), if_pos rfl, hr]; rfl⟩
  · rw [R 67 (by simp)]
    cases hr : regL t with
    | none => exact .inr ⟨rfl, fun o => by unfold opStep; rw [if_neg (by decide), if_neg (by decide), if_pos rfl, hr]⟩
    | some r => exact .inl ⟨_, rfl, fun o => by unfold opStep; rw [if_neg (by decide), if_neg (by decide), if_pos rfl, hr]; rfl⟩
  · rw [show conv 78 = 110 from rfl, N 110 (.inl rfl)]
    cases hr : numL t with
    | none => exact .inr ⟨rfl, fun o => by unfold opStep; rw [if_neg (by decide), if_neg (by decide), if_neg (by decide), if_pos rfl, hr]⟩
    | some r => exact .inl ⟨_, rfl, fun o => by unfold opStep; rw [if_neg (by decide), if_neg (by decide), if_neg (by decide), if_pos rfl, hr]; rfl⟩
  · rw [show conv 88 = 120 from rfl]
    by_cases hx : k = 1 ∧ nameR t = true
    · have hw : isW t = true := by
        rcases hk with ⟨_, hw⟩ | ⟨e, _⟩
        · exact hw
        · omega
      have hb : nameB t = true := by rw [← name_same hw]; exact hx.2
      refine .inl ⟨⟨0, 0, t⟩, ?_, fun o => ?_⟩
      · unfold mtStep; rw [if_neg (by decide), if_pos (.inr rfl), if_pos ⟨rfl, hx⟩]
      · unfold opStep valL; rw [if_neg (by decide), if_neg (by decide), if_neg (by decide), if_neg (by decide), if_pos rfl, if_pos hb]; rfl
    · rw [N 120 (.inr ⟨rfl, hx⟩)]
      have hb : nameB t = false := by
        cases hn : nameB t with
        | false => rfl
        | true =>
          have hw := nameB_W hn
          rcases hk with ⟨rfl, _⟩ | ⟨_, h2⟩
          · exact absurd ⟨rfl, by rw [name_same hw]; exact hn⟩ hx
          · rw [W_not_N hw] at h2; cases h2
      cases hr : numL t with
      | none => exact .inr ⟨rfl, fun o => by unfold opStep valL; rw [if_neg (by decide), if_neg (by decide), if_neg (by decide), if_neg (by decide), if_pos rfl, if_neg (by rw [hb]; decide), hr]; rfl⟩
      | some r => exact .inl ⟨_, rfl, fun o => by unfold opStep valL; rw [if_neg (by decide), if_neg (by decide), if_neg (by decide), if_neg (by decide), if_pos rfl, if_neg (by rw [hb]; decide), hr]; rfl⟩
/-- A letter against what is no word and no number. -/
theorem op_no {p : UInt8} (hp : isL p = true) {t : Bs} (hw : isW t = false) (hn : isN t = false) (o : Opds) : opStep p t o = none := by
  unfold opStep valL
  rw [reg_noW hw, num_noN hn, name_noW hw]
  rcases letters hp with rfl | rfl | rfl | rfl | rfl <;> rfl
theorem mt_sep {p : UInt8} (hp : isL p = true) (c : UInt8) (g : Bool) : mtStep (conv p) ⟨3, [c], g⟩ = none := by
  have e : ∀ x : Option Int, (match x with | some n => if (3 : Int) = 2 then some (some (⟨0, n, []⟩ : Arg)) else none | none => none) = none := fun x => by cases x <;> rfl
  have e2 : ∀ x : Option Nat, (match x with | some r => if (3 : Int) = 1 then some (some (⟨r, 0, []⟩ : Arg)) else none | none => none) = none := fun x => by cases x <;> rfl
  rcases letters hp with rfl | rfl | rfl | rfl | rfl
  · exact e2 _
  · exact e2 _
  · exact e2 _
  · exact e _
  · unfold mtStep
    rw [if_neg (by decide), if_pos (.inr rfl), if_neg (fun h => absurd h.2.1 (by show ¬ (3 : Int) = 1; decide))]
    exact e _
theorem mt_sign {p : UInt8} (hp : p = 44 ∨ p = 40 ∨ p = 41) (t : Tk) : mtStep p t = if t.kind = 3 ∧ t.text = [p] then some none else none := by
  unfold mtStep
  rw [if_neg (by rcases hp with rfl | rfl | rfl <;> decide), if_neg (by rcases hp with rfl | rfl | rfl <;> decide)]
theorem op_sign {p : UInt8} (hp : p = 44 ∨ p = 40 ∨ p = 41) (t : Bs) (o : Opds) : opStep p t o = if t = [p] then some o else none := by
  unfold opStep
  rw [if_neg (by rcases hp with rfl | rfl | rfl <;> decide), if_neg (by rcases hp with rfl | rfl | rfl <;> decide), if_neg (by rcases hp with rfl | rfl | rfl <;> decide), if_neg (by rcases hp with rfl | rfl | rfl <;> decide), if_neg (by rcases hp with rfl | rfl | rfl <;> decide)]
theorem conv_sign {p : UInt8} (hp : p = 44 ∨ p = 40 ∨ p = 41) : conv p = p := by rcases hp with rfl | rfl | rfl <;> rfl
theorem sep_sign {p : UInt8} (hp : p = 44 ∨ p = 40 ∨ p = 41) : sepB p = true := by rcases hp with rfl | rfl | rfl <;> rfl
/-- What pieces are. -/
def PcOk (x : Bool × Bs) : Prop := (∃ c, x.2 = [c] ∧ sepB c = true ∧ c ≠ 32) ∨ (x.2 ≠ [] ∧ ∀ d ∈ x.2, sepB d = false)
def refOps (ps : Bs) (X : List (Bool × Bs)) : Option (List Arg) := (cat X).bind fun L => mtL L (ps.map conv)
def prgOps (ps : Bs) (X : List (Bool × Bs)) (o : Opds) : Option Opds := if X.length = ps.length then opsGo ps (X.map Prod.snd) o else none
theorem cat_ne {x : Bool × Bs} {r : List (Bool × Bs)} {L : List Tk} (hx : PcOk x) (h : cat (x :: r) = some L) : L ≠ [] := by
  simp only [cat] at h
  obtain ⟨g, t⟩ := x
  have : ∀ a, tkGo none g t = some a → a ≠ [] := by
    intro a ha
    rcases hx with ⟨c, hc, hs, h32⟩ | ⟨hn, hs⟩
    · simp only at hc
      subst hc
      rw [sep_toks g hs h32] at ha
      obtain rfl := Option.some.inj ha
      simp
    · rcases piece_toks g hn hs with ⟨_, h1⟩ | ⟨_, h1⟩ | ⟨_, _, h1 | ⟨_, h1⟩ | ⟨y, z, q, h1, _⟩⟩
      all_goals (rw [h1] at ha)
      all_goals first | (cases ha; done) | (obtain rfl := Option.some.inj ha; simp)
  cases ha : tkGo none g t with
  | none => simp only [ha] at h; cases h
  | some a =>
    simp only [ha, Option.bind_some] at h
    cases hr : cat r with
    | none => rw [hr] at h; cases h
    | some b =>
      rw [hr] at h
      obtain rfl := Option.some.inj h
      have := this a ha
      simp [this]
theorem mtL_cons (t : Tk) (L : List Tk) (p : UInt8) (ps : Bs) : mtL (t :: L) (p :: ps) = (mtStep p t).bind fun o => (mtL L ps).map (o.toList ++ ·) := by
  unfold mtL
  simp only [List.length_cons, Nat.add_right_cancel_iff, mtGo]
  by_cases h : L.length = ps.length
  · simp only [h, if_true]
  · simp only [if_neg h]
    cases mtStep p t <;> rfl
theorem mtL_nil (t : Tk) (L : List Tk) : mtL (t :: L) [] = none := by unfold mtL; rw [if_neg (by simp)]
/-- Operands are read alike. -/
theorem ops_same : ∀ (ps : Bs) (X : List (Bool × Bs)) (o : Opds), PatOk ps = true → (∀ x ∈ X, PcOk x) → (refOps ps X).map (fun al => putL ps al o) = prgOps ps X o
  | [], [], o, _, _ => rfl
  | [], x :: X, o, _, hX => by
    have e : prgOps [] (x :: X) o = none := by unfold prgOps; rw [if_neg (by simp)]
    rw [e]
    unfold refOps
    cases hc : cat (x :: X) with
    | none => rfl
    | some L =>
      have hn := cat_ne (hX x (by simp)) hc
      cases L with
      | nil => exact absurd rfl hn
      | cons t L => simp only [Option.bind_some, List.map_nil, mtL_nil]; rfl
  | p :: ps, [], o, _, _ => by
    unfold refOps prgOps
    rw [if_neg (by simp)]
    rfl
  | p :: ps, (g, t) :: X, o, hp, hX => by
    have hpp := hp
    simp only [PatOk, Bool.and_eq_true] at hp
    obtain ⟨⟨h1, h2⟩, h3⟩ := hp
    have hX' : ∀ x ∈ X, PcOk x := fun x hx => hX x (List.mem_cons_of_mem _ hx)
    have IH := fun o => ops_same ps X o h3 hX'
    have hP : prgOps (p :: ps) ((g, t) :: X) o = (opStep p t o).bind fun o' => prgOps ps X o' := by
      unfold prgOps
      simp only [List.length_cons, Nat.add_right_cancel_iff, List.map_cons, opsGo]
      by_cases h : X.length = ps.length
      · simp only [h, if_true]
      · simp only [if_neg h]
        cases opStep p t o <;> rfl
    have one : ∀ tk : Tk, tkGo none g t = some [tk] → refOps (p :: ps) ((g, t) :: X) = (mtStep (conv p) tk).bind fun a => (refOps ps X).map (a.toList ++ ·) := by
      intro tk htk
      unfold refOps
      simp only [cat, htk, Option.bind_some]
      cases cat X with
      | none => cases mtStep (conv p) tk <;> rfl
      | some L => simp only [Option.map_some, Option.bind_some, List.singleton_append, List.map_cons, mtL_cons]
    rw [hP]
    have sgl : ∀ k, (k = 1 ∧ isW t = true ∨ k = 2 ∧ isN t = true) → (∀ d ∈ t, sepB d = false) → tkGo none g t = some [⟨k, t, g⟩] → (refOps (p :: ps) ((g, t) :: X)).map (fun al => putL (p :: ps) al o) = (opStep p t o).bind fun o' => prgOps ps X o' := by
      intro k hk hs htk
      rw [one _ htk]
      cases hl : isL p with
      | true =>
        rcases step_one (g := g) hl hk with ⟨x, hx, ho⟩ | ⟨hx, ho⟩
        · rw [hx, ho o]
          simp only [Option.bind_some, Option.map_map]
          rw [← IH (putA p x o)]
          congr 1
          funext al
          simp [Function.comp, putL, hl]
        · rw [hx, ho o]; rfl
      | false =>
        have hsg := signs hl h1
        rw [conv_sign hsg, mt_sign hsg, op_sign hsg, if_neg (fun h => by rcases hk with ⟨rfl, _⟩ | ⟨rfl, _⟩; exact absurd (show (1 : Int) = 3 from h.1) (by decide); exact absurd (show (2 : Int) = 3 from h.1) (by decide)), if_neg (fun h => by have := hs p (by rw [h]; simp); rw [sep_sign hsg] at this; cases this)]
        rfl
    rcases hX (g, t) (by simp) with ⟨c, hc, hs, h32⟩ | ⟨hn, hs⟩
    · simp only at hc
      subst hc
      rw [one _ (sep_toks g hs h32)]
      cases hl : isL p with
      | true =>
        rw [mt_sep hl, op_no hl (sep_no hs).1 (sep_no hs).2]
        rfl
      | false =>
        have hsg := signs hl h1
        rw [conv_sign hsg, mt_sign hsg, op_sign hsg]
        by_cases hcp : [c] = [p]
        · rw [if_pos ⟨rfl, hcp⟩, if_pos hcp]
          simp only [Option.bind_some]
          rw [← IH o]
          cases refOps ps X with
          | none => rfl
          | some al => simp [putL, hl]
        · rw [if_neg (fun h => hcp h.2), if_neg hcp]; rfl
    · simp only at hn hs
      rcases piece_toks g hn hs with ⟨hw, htk⟩ | ⟨hN, htk⟩ | ⟨hw, hN, hrest⟩
      · exact sgl 1 (.inl ⟨rfl, hw⟩) hs htk
      · exact sgl 2 (.inr ⟨rfl, hN⟩) hs htk
      · have hR : (opStep p t o).bind (fun o' => prgOps ps X o') = none := by
          cases hl : isL p with
          | true => rw [op_no hl hw hN]; rfl
          | false =>
            have hsg := signs hl h1
            rw [op_sign hsg, if_neg (fun h => by have := hs p (by rw [h]; simp); rw [sep_sign hsg] at this; cases this)]
            rfl
        rw [hR]
        have dot : ∀ (q : UInt8) (y : Tk), (isL q || q == 44 || q == 40 || q == 41) = true → isL q = false → WfT y → mtStep (conv q) y = none := by
          intro q y hq hl hy
          have hsg := signs hl hq
          rw [conv_sign hsg, mt_sign hsg, if_neg]
          rintro ⟨e, e2⟩
          rcases hy with ⟨e1, _⟩ | ⟨e1, _⟩ | ⟨_, e1⟩
          · omega
          · omega
          · rw [e2] at e1
            injection e1 with e1
            rcases hsg with rfl | rfl | rfl <;> exact absurd e1 (by decide)
        rcases hrest with h | ⟨rfl, h⟩ | ⟨a, b, r, h, ha, hb, _⟩
        · unfold refOps
          simp only [cat, h]
          rfl
        · rw [one _ h]
          cases hl : isL p with
          | true => rw [mt_sep hl]; rfl
          | false => rw [dot p ⟨3, [46], g⟩ h1 hl (.inr (.inr ⟨rfl, rfl⟩))]; rfl
        · unfold refOps
          simp only [cat, h, Option.bind_some]
          cases cat X with
          | none => rfl
          | some L =>
            simp only [Option.map_some, Option.bind_some, List.cons_append, List.map_cons, mtL_cons]
            cases hl : isL p with
            | false => rw [dot p a h1 hl ha]; rfl
            | true =>
              cases ps with
              | nil =>
                simp only [List.map_nil, mtL_nil]
                cases mtStep (conv p) a <;> rfl
              | cons q ps =>
                have hq : isL q = false := by simpa [hl] using h2
                have h1q : (isL q || q == 44 || q == 40 || q == 41) = true := by
                  simp only [PatOk, Bool.and_eq_true] at h3
                  exact h3.1.1
                simp only [List.map_cons, mtL_cons, dot q b h1q hq hb]
                cases mtStep (conv p) a <;> rfl
end Go.Proofs.YthghbcjaokpilaaDoor

namespace Go.Proofs.YthghbcjaokpilaaDoor
set_option linter.unusedVariables false
set_option linter.unusedSimpArgs false
open Go.ChangeShapes Go.WideShapes Go.ChangeAt Go.RowKit Go.Proofs.YthghbcjaokpilaaDoor.Num Go.Proofs.YthghbcjaokpilaaDoor.Isa Go.Proofs.YthghbcjaokpilaaDoor.Mem Go.Proofs.YthghbcjaokpilaaDoor.Asm
/- A line is read alike. -/
theorem stm_row {t : Bs} {q : Stm} (h : stmOf t = some q) : q ∈ rows ∧ q.name = t := by
  unfold stmOf at h
  exact ⟨List.mem_of_find?_eq_some h, by simpa using List.find?_some h⟩
theorem row_facts : ∀ q ∈ rows, PatOk q.pat = true ∧ (q.pat = [] ∨ isL (q.pat.headD 0) = true) ∧ (isW q.name = true ∨ q.name = wWord ∨ q.name = wSpace) := by decide +kernel
theorem row_pat : ∀ q ∈ rows, patR q.name = some (q.pat.map conv) := by decide +kernel
theorem row_ops : ∀ r : Nat, r < 65 → 0 < frm (r : Int) → rows.any (fun q => q.name == mn r) = true := by decide +kernel
theorem row_kind : ∀ q ∈ rows, (q.kind = 38 → ¬ q.name = wLi ∧ ¬ q.name = wSpace) ∧ (q.kind = 40 → ¬ q.name = wLi ∧ ¬ q.name = wSpace) ∧ (q.kind = 39 → q.name = wLi) ∧ (q.kind = 41 → q.name = wSpace ∧ q.pat = [78]) := by decide +kernel
theorem row_in : ∀ t : Bs, stmOf t = none → ∀ q ∈ rows, ¬ q.name = t := by
  intro t h q hq e
  unfold stmOf at h
  have := List.find?_eq_none.1 h q hq
  exact this (by simp [e])
theorem pat_same (t : Bs) : patR t = (stmOf t).map fun q => q.pat.map conv := by
  cases h : stmOf t with
  | some q =>
    obtain ⟨h1, h2⟩ := stm_row h
    rw [← h2, row_pat q h1]; rfl
  | none =>
    have hn := row_in t h
    have H : ∀ n : Bs, rows.any (fun q => q.name == n) = true → ¬ t = n := by
      intro n hh e
      obtain ⟨q, hq, hqe⟩ := List.any_eq_true.1 hh
      exact hn q hq (by rw [e]; simpa using hqe)
    have hop : opR t = 0 := opR_none fun r hr hh => H (mn r) (row_ops r hr hh.1) hh.2.symm
    unfold patR
    rw [if_neg (H _ (by decide +kernel)), if_neg (H _ (by decide +kernel)), if_neg (H _ (by decide +kernel)), if_neg (H _ (by decide +kernel)), if_neg (H _ (by decide +kernel)), if_pos hop]
    rfl
theorem stR_pat {T : List Tk} (h : patR (whatR T).1 = none) : stR T = none := by unfold stR; rw [h]; rfl
theorem stR_gap {T : List Tk} (h : gapB (whatR T).2 = false) : stR T = none := by
  unfold stR
  cases patR (whatR T).1 with
  | none => rfl
  | some p => rw [Option.bind_some, if_pos h]
theorem endR_ne {lab : Bs} {T : List Tk} (h : T ≠ []) : endR (lab, T) = (stR T).map fun st => (lab, some st) := by unfold endR; rw [if_neg h]
theorem cat_cons (g : Bool) (t : Bs) (X : List (Bool × Bs)) : cat ((g, t) :: X) = (tkGo none g t).bind fun a => (cat X).map (a ++ ·) := rfl
/-- The first token of pieces. -/
theorem cat_first {y : Bool × Bs} {X : List (Bool × Bs)} {L : List Tk} (hy : PcOk y) (h : cat (y :: X) = some L) : ∃ u r, L = u :: r ∧ u.gap = y.1 ∧ ((∃ c, y.2 = [c] ∧ sepB c = true ∧ c ≠ 32 ∧ u.text = [c] ∧ u.kind = 3) ∨ (WfT u ∧ ∀ d ∈ y.2, sepB d = false)) := by
  obtain ⟨g, t⟩ := y
  rw [cat_cons] at h
  cases ha : tkGo none g t with
  | none => rw [ha] at h; cases h
  | some a =>
    rw [ha, Option.bind_some] at h
    cases hb : cat X with
    | none => rw [hb] at h; cases h
    | some b =>
      rw [hb] at h
      obtain rfl := Option.some.inj h
      rcases hy with ⟨c, hc, hs, h32⟩ | ⟨hn, hs⟩
      · simp only at hc
        subst hc
        rw [sep_toks g hs h32] at ha
        obtain rfl := Option.some.inj ha
        exact ⟨_, _, rfl, rfl, .inl ⟨c, rfl, hs, h32, rfl, rfl⟩⟩
      · obtain ⟨h1, h2, h3, h4⟩ := tk_parts t none g a hs (fun x hx => by cases hx) ha
        cases a with
        | nil => exact absurd (h4 rfl).2 hn
        | cons u r => exact ⟨u, r ++ b, rfl, h3.1, .inr ⟨h2 u (by simp), hs⟩⟩
def LineX (X : List (Bool × Bs)) : Prop := (∀ x ∈ X, PcOk x) ∧ GapOk X
theorem LineX.tail {x : Bool × Bs} {X : List (Bool × Bs)} (h : LineX (x :: X)) : LineX X := by
  refine ⟨fun y hy => h.1 y (List.mem_cons_of_mem _ hy), ?_⟩
  cases X with
  | nil => trivial
  | cons y r => exact h.2.2
/-- What both sides make of a statement. -/
def StOk (st : StR) (ds : List Draft) : Prop := ∃ q L, stmOf st.what = some q ∧ st.op = opR st.what ∧ mtL L (q.pat.map conv) = some st.l ∧ wordsL q.kind q.op (putL q.pat st.l .zero) = some ds ∧ st.size = ds.length
def SameSt (lab : Bs) (r : Option (Bs × Option StR)) (p : Option (List Draft)) : Prop :=
  match r, p with
  | none, none => True
  | some (lab', none), some ds => lab' = lab ∧ ds = []
  | some (lab', some st), some ds => lab' = lab ∧ StOk st ds
  | _, _ => False
theorem prg_first {q : Stm} (hq : q ∈ rows) {c : UInt8} (hc : sepB c = true) (g : Bool) (X : List (Bool × Bs)) (o : Opds) : prgOps q.pat ((g, [c]) :: X) o = none := by
  obtain ⟨h1, h2, h3⟩ := row_facts q hq
  unfold prgOps
  cases hp : q.pat with
  | nil => rw [if_neg (by simp)]
  | cons p ps =>
    rw [hp] at h2
    have hl : isL p = true := by
      rcases h2 with h2 | h2
      · cases h2
      · exact h2
    split
    · simp only [List.map_cons, opsGo]
      rw [op_no hl (sep_no hc).1 (sep_no hc).2]; rfl
    · rfl
theorem opsL_prg (ps : Bs) (X : List (Bool × Bs)) : opsL ps (X.map Prod.snd) = prgOps ps X .zero := by unfold opsL prgOps; rw [List.length_map]
/-- The words and the size. -/
theorem size_same {q : Stm} {m : Bs} (h : stmOf m = some q) {L : List Tk} {al : List Arg} (hm : mtL L (q.pat.map conv) = some al) :
    (sizeR m al = none ∧ wordsL q.kind q.op (putL q.pat al .zero) = none) ∨ ∃ z ds, sizeR m al = some z ∧ wordsL q.kind q.op (putL q.pat al .zero) = some ds ∧ z = (ds.length : Int) := by
  obtain ⟨hq, rfl⟩ := stm_row h
  obtain ⟨k1, k2, k3, k4⟩ := row_kind q hq
  rcases (kind_cases h).1 with hk | hk | hk | hk
  · have hw : wordsL q.kind q.op (putL q.pat al .zero) = some [⟨0, 0, q.op, (putL q.pat al .zero).a, (putL q.pat al .zero).b, (putL q.pat al .zero).c, (putL q.pat al .zero).n, (putL q.pat al .zero).l⟩] := by unfold wordsL; rw [if_pos hk]
    exact .inr ⟨1, _, by unfold sizeR; rw [if_neg (k1 hk).1, if_neg (k1 hk).2], hw, rfl⟩
  · have hw : wordsL q.kind q.op (putL q.pat al .zero) = some [⟨0, 2, q.op, (putL q.pat al .zero).a, 0, 0, (putL q.pat al .zero).n, (putL q.pat al .zero).l⟩, ⟨0, 3, 18, (putL q.pat al .zero).a, (putL q.pat al .zero).a, 0, (putL q.pat al .zero).n, (putL q.pat al .zero).l⟩] := by unfold wordsL; rw [if_neg (by rw [hk]; decide), if_pos hk]
    exact .inr ⟨2, _, by unfold sizeR; rw [if_pos (k3 hk)], hw, rfl⟩
  · have hw : wordsL q.kind q.op (putL q.pat al .zero) = some [⟨0, 1, 0, 0, 0, 0, (putL q.pat al .zero).n, (putL q.pat al .zero).l⟩] := by unfold wordsL; rw [if_neg (by rw [hk]; decide), if_neg (by rw [hk]; decide), if_pos hk]
    exact .inr ⟨1, _, by unfold sizeR; rw [if_neg (k2 hk).1, if_neg (k2 hk).2], hw, rfl⟩
  · obtain ⟨e1, e2⟩ := k4 hk
    rw [e2] at hm ⊢
    obtain ⟨z, rfl, _, _⟩ := mt_space hm
    have hz : sizeR q.name [⟨0, z, []⟩] = if z < 0 ∨ 1024 < z then none else some z := by
      unfold sizeR
      rw [e1, if_neg (by decide), if_pos rfl]
    have hw : wordsL q.kind q.op (putL [78] [⟨0, z, []⟩] .zero) = if z < 0 ∨ 1024 < z then none else some (List.replicate z.toNat ⟨0, 1, 0, 0, 0, 0, 0, []⟩) := by
      unfold wordsL
      rw [if_neg (by rw [hk]; decide), if_neg (by rw [hk]; decide), if_neg (by rw [hk]; decide), if_pos hk]
      rfl
    rw [hz, hw]
    by_cases hb : z < 0 ∨ 1024 < z
    · rw [if_pos hb, if_pos hb]; exact .inl ⟨rfl, rfl⟩
    · rw [if_neg hb, if_neg hb]
      exact .inr ⟨z, _, rfl, rfl, by rw [List.length_replicate]; omega⟩
/-- A statement whose mnemonic is one of the table's. -/
theorem st_known {g : Bool} {m : Bs} {X : List (Bool × Bs)} {q : Stm} (lab : Bs) (hX : LineX ((g, m) :: X)) (hq : stmOf m = some q) (hs : ∀ d ∈ m, sepB d = false) (a : List Tk)
    (hw : ∀ L, whatR (a ++ L) = (m, L)) (ha : a ≠ []) :
    SameSt lab ((cat X).bind fun L => endR (lab, a ++ L)) (stmtL (m :: X.map Prod.snd)) := by
  obtain ⟨hr, hne⟩ := stm_row hq
  obtain ⟨f1, f2, f3⟩ := row_facts q hr
  have hops := ops_same q.pat X .zero f1 hX.tail.1
  have hP : stmtL (m :: X.map Prod.snd) = (prgOps q.pat X .zero).bind fun o => wordsL q.kind q.op o := by
    simp only [stmtL, hq, Option.bind_some, opsL_prg]
  rw [hP]
  cases hc : cat X with
  | none =>
    have : refOps q.pat X = none := by unfold refOps; rw [hc]; rfl
    rw [this] at hops
    rw [← hops]
    trivial
  | some L =>
    have hne2 : a ++ L ≠ [] := by simp [ha]
    rw [Option.bind_some, endR_ne hne2]
    have hro : refOps q.pat X = mtL L (q.pat.map conv) := by unfold refOps; rw [hc]; rfl
    rw [hro] at hops
    cases hg : gapB L with
    | false =>
      rw [stR_gap (by rw [hw]; exact hg)]
      have : prgOps q.pat X .zero = none := by
        cases X with
        | nil => obtain rfl := Option.some.inj hc; exact absurd hg (by decide)
        | cons y X =>
          obtain ⟨u, r, rfl, hu, hk⟩ := cat_first (hX.1 y (by simp)) hc
          have hy : y.1 = false := by rw [← hu]; exact hg
          obtain ⟨c, hy2, hsc, _⟩ := hX.2.1 hs hy
          obtain ⟨yg, yt⟩ := y
          simp only at hy2
          subst hy2
          exact prg_first hr hsc yg X _
      rw [this]
      trivial
    | true =>
      have hst : stR (a ++ L) = (mtL L (q.pat.map conv)).bind fun al => (sizeR m al).map fun z => ⟨m, opR m, al, z⟩ := by
        unfold stR
        rw [hw]
        simp only
        rw [pat_same, hq, Option.map_some, Option.bind_some, if_neg (by rw [hg]; decide)]
      rw [hst]
      cases hm : mtL L (q.pat.map conv) with
      | none =>
        rw [hm] at hops
        rw [← hops]
        trivial
      | some al =>
        rw [hm] at hops
        rw [← hops]
        simp only [Option.map_some, Option.bind_some]
        rcases size_same hq hm with ⟨h1, h2⟩ | ⟨z, ds, h1, h2, h3⟩
        · rw [h1, h2]; trivial
        · rw [h1, h2]
          exact ⟨rfl, q, L, hq, rfl, hm, h2, h3⟩
theorem isW_46 {t : Bs} (h : isW t = true ∨ isN t = true) : ¬ t = [46] := by
  rintro rfl
  rcases h with h | h <;> exact absurd h (by decide)
theorem what_plain {k : Int} {m : Bs} {g : Bool} (hm : ¬ m = [46]) (L : List Tk) : whatR ([⟨k, m, g⟩] ++ L) = (m, L) := by
  cases L with
  | nil => rfl
  | cons u r =>
    show (if m = [46] ∧ u.gap = false then _ else _) = _
    rw [if_neg (fun h => hm h.1)]
theorem dot_no : ∀ c : Fin 256, sepB (UInt8.ofNat c.val) = true → stmOf [46, UInt8.ofNat c.val] = none := by decide +kernel
/-- A statement is read alike. -/
theorem st_same (lab : Bs) : ∀ X : List (Bool × Bs), LineX X → SameSt lab ((cat X).bind fun T => endR (lab, T)) (stmtL (X.map Prod.snd))
  | [], _ => ⟨rfl, rfl⟩
  | (g, m) :: X, hX => by
    have none_of : stmOf m = none → (∀ L, cat ((g, m) :: X) = some L → stR L = none) → SameSt lab ((cat ((g, m) :: X)).bind fun T => endR (lab, T)) (stmtL (((g, m) :: X).map Prod.snd)) := by
      intro h1 h2
      have hp : stmtL (((g, m) :: X).map Prod.snd) = none := by simp only [List.map_cons, stmtL, h1]; rfl
      rw [hp]
      cases hc : cat ((g, m) :: X) with
      | none => trivial
      | some L =>
        rw [Option.bind_some, endR_ne (cat_ne (hX.1 _ (by simp)) hc), h2 L hc]
        trivial
    have pn : stmOf m = none → patR m = none := fun h => by rw [pat_same, h]; rfl
    have plain : ∀ k, tkGo none g m = some [⟨k, m, g⟩] → ¬ m = [46] → stmOf m = none → SameSt lab ((cat ((g, m) :: X)).bind fun T => endR (lab, T)) (stmtL (((g, m) :: X).map Prod.snd)) := by
      intro k hk h46 hn
      refine none_of hn fun L hL => ?_
      rw [cat_cons, hk, Option.bind_some] at hL
      cases hc : cat X with
      | none => rw [hc] at hL; cases hL
      | some L' =>
        rw [hc] at hL
        obtain rfl := Option.some.inj hL
        exact stR_pat (by rw [what_plain h46]; exact pn hn)
    rcases hX.1 (g, m) (by simp) with ⟨c, hc, hs, h32⟩ | ⟨hn, hs⟩
    · simp only at hc
      subst hc
      have h46 : ¬ [c] = [46] := by intro h; injection h with h; rw [h] at hs; exact absurd hs (by decide)
      refine plain 3 (sep_toks g hs h32) h46 ?_
      cases hq : stmOf [c] with
      | none => rfl
      | some q =>
        obtain ⟨h1, h2⟩ := stm_row hq
        rcases (row_facts q h1).2.2 with h | h | h
        · rw [h2, (sep_no hs).1] at h; cases h
        · rw [h2] at h; exact absurd h (by simp [wWord])
        · rw [h2] at h; exact absurd h (by simp [wSpace])
    · simp only at hn hs
      have known : ∀ q, stmOf m = some q → ∀ a, tkGo none g m = some a → a ≠ [] → (∀ L, whatR (a ++ L) = (m, L)) → SameSt lab ((cat ((g, m) :: X)).bind fun T => endR (lab, T)) (stmtL (((g, m) :: X).map Prod.snd)) := by
        intro q hq a ha hne hw
        have := st_known lab hX hq hs a hw hne
        have e : (cat ((g, m) :: X)).bind (fun T => endR (lab, T)) = (cat X).bind fun L => endR (lab, a ++ L) := by
          rw [cat_cons, ha, Option.bind_some]
          cases cat X <;> rfl
        rw [e]
        exact this
      rcases piece_toks g hn hs with ⟨hw, htk⟩ | ⟨hN, htk⟩ | ⟨hw, hN, hrest⟩
      · cases hq : stmOf m with
        | none => exact plain 1 htk (isW_46 (.inl hw)) hq
        | some q => exact known q hq _ htk (by simp) (what_plain (isW_46 (.inl hw)))
      · cases hq : stmOf m with
        | none => exact plain 2 htk (isW_46 (.inr hN)) hq
        | some q => exact known q hq _ htk (by simp) (what_plain (isW_46 (.inr hN)))
      · cases hq : stmOf m with
        | some q =>
          obtain ⟨h1, h2⟩ := stm_row hq
          rcases (row_facts q h1).2.2 with h | h | h
          · rw [h2, hw] at h; cases h
          · rw [h2] at h
            subst h
            exact known q hq [⟨3, [46], g⟩, ⟨1, [119, 111, 114, 100], false⟩] (by cases g <;> rfl) (by simp) (fun L => rfl)
          · rw [h2] at h
            subst h
            exact known q hq [⟨3, [46], g⟩, ⟨1, [115, 112, 97, 99, 101], false⟩] (by cases g <;> rfl) (by simp) (fun L => rfl)
        | none =>
          refine none_of hq fun L hL => ?_
          rw [cat_cons] at hL
          rcases hrest with h | ⟨rfl, h⟩ | ⟨a, b, r, h, ha, hb, hbg, hrg, htx⟩
          · rw [h] at hL; cases hL
          · rw [h, Option.bind_some] at hL
            cases X with
            | nil =>
              obtain rfl := Option.some.inj hL
              exact stR_pat (pn hq)
            | cons y X =>
              cases hc : cat (y :: X) with
              | none => rw [hc] at hL; cases hL
              | some L' =>
                rw [hc] at hL
                obtain rfl := Option.some.inj hL
                obtain ⟨u, r, rfl, hu, hk⟩ := cat_first (hX.1 y (by simp)) hc
                cases hug : u.gap with
                | true =>
                  refine stR_pat ?_
                  show patR (if [46] = [46] ∧ u.gap = false then _ else _ : Bs × List Tk).1 = none
                  rw [if_neg (by rw [hug]; simp)]
                  exact pn hq
                | false =>
                  refine stR_pat ?_
                  show patR (if [46] = [46] ∧ u.gap = false then _ else _ : Bs × List Tk).1 = none
                  rw [if_pos ⟨rfl, hug⟩]
                  obtain ⟨c, hy2, hsc, h32⟩ := hX.2.1 hs (by rw [← hu]; exact hug)
                  rcases hk with ⟨d, hd, hsd, _, hut, _⟩ | ⟨_, hd⟩
                  · rw [hut, pat_same, byte_all (P := fun c => sepB c = true → stmOf [46, c] = none) dot_no d hsd]; rfl
                  · exact absurd (hd c (by rw [hy2]; simp)) (by rw [hsc]; decide)
          · rw [h, Option.bind_some] at hL
            cases hc : cat X with
            | none => rw [hc] at hL; cases hL
            | some L' =>
              rw [hc] at hL
              obtain rfl := Option.some.inj hL
              by_cases h46 : a.text = [46]
              · have hwt : whatR (a :: b :: r ++ L') = (46 :: b.text, r ++ L') := by
                  show (if a.text = [46] ∧ b.gap = false then _ else _) = _
                  rw [if_pos ⟨h46, hbg⟩]; rfl
                cases r with
                | nil =>
                  refine stR_pat ?_
                  rw [hwt]
                  have : m = 46 :: b.text := by rw [← htx, h46]; simp
                  rw [← this]
                  exact pn hq
                | cons z r =>
                  refine stR_gap ?_
                  rw [hwt]
                  exact hrg z (by simp)
              · refine stR_gap ?_
                have hwt : whatR (a :: b :: r ++ L') = (a.text, b :: r ++ L') := by
                  show (if a.text = [46] ∧ b.gap = false then _ else _) = _
                  rw [if_neg (fun h => h46 h.1)]; rfl
                rw [hwt]
                exact hbg
end Go.Proofs.YthghbcjaokpilaaDoor

namespace Go.Proofs.YthghbcjaokpilaaDoor
set_option linter.unusedVariables false
set_option linter.unusedSimpArgs false
open Go.ChangeShapes Go.WideShapes Go.ChangeAt Go.RowKit Go.Proofs.YthghbcjaokpilaaDoor.Num Go.Proofs.YthghbcjaokpilaaDoor.Isa Go.Proofs.YthghbcjaokpilaaDoor.Mem Go.Proofs.YthghbcjaokpilaaDoor.Asm
/- A line with its label is read alike. -/
theorem wf_58 {x : Tk} (h : WfT x) : ¬ x.text = [58] := by
  intro e
  rcases h with ⟨_, h⟩ | ⟨_, h⟩ | ⟨_, h⟩
  · rw [e] at h; exact absurd h (by decide)
  · rw [e] at h; exact absurd h (by decide)
  · rw [e] at h; exact absurd h (by decide)
theorem lab_none {L : List Tk} (h : ∀ t u r, L = t :: u :: r → ¬ u.text = [58]) : labR L = some ([], L) := by
  match L, h with
  | [], _ => rfl
  | [t], _ => rfl
  | t :: u :: r, h =>
    show (if u.text = [58] then _ else _) = _
    rw [if_neg (h t u r rfl)]
theorem stm_colon (t : Bs) (ts : List Bs) : stmtL (t :: [58] :: ts) = none := by
  cases hq : stmOf t with
  | none => simp only [stmtL, hq]; rfl
  | some q =>
    obtain ⟨h1, h2⟩ := stm_row hq
    have := prg_first h1 (c := 58) (by decide) true (ts.map fun x => (true, x)) .zero
    rw [← opsL_prg] at this
    have e0 : (ts.map fun x => (true, x)).map Prod.snd = ts := by rw [List.map_map]; exact List.map_id ts
    have e : ((true, ([58] : Bs)) :: ts.map fun x => (true, x)).map Prod.snd = [58] :: ts := by rw [List.map_cons, e0]
    rw [e] at this
    simp only [stmtL, hq, Option.bind_some, this]; rfl
theorem lab_first {X : List (Bool × Bs)} {L : List Tk} (h : LineX X) (hc : cat X = some L) (hn : ∀ x y r, X = x :: y :: r → (isW x.2 = true ∨ isN x.2 = true ∨ x.2 = [46] ∨ ∃ c, x.2 = [c] ∧ sepB c = true ∧ c ≠ 32) → ¬ y.2 = [58]) : labR L = some ([], L) := by
  refine lab_none fun t u r e => ?_
  subst e
  cases X with
  | nil => cases hc
  | cons x X =>
    obtain ⟨g, m⟩ := x
    rw [cat_cons] at hc
    have one : ∀ k : Tk, tkGo none g m = some [k] → (isW m = true ∨ isN m = true ∨ m = [46] ∨ ∃ c, m = [c] ∧ sepB c = true ∧ c ≠ 32) → ¬ u.text = [58] := by
      intro k hk hm
      rw [hk, Option.bind_some] at hc
      cases X with
      | nil =>
        have e := Option.some.inj hc
        simp [cat] at e
      | cons y X =>
        cases hd : cat (y :: X) with
        | none => rw [hd] at hc; cases hc
        | some L' =>
          rw [hd] at hc
          obtain ⟨v, r', rfl, hv, hk'⟩ := cat_first (h.1 y (by simp)) hd
          have e := Option.some.inj hc
          simp only [List.singleton_append] at e
          injection e with e1 e2
          injection e2 with e2 e3
          subst e2
          rcases hk' with ⟨c, hc1, hc2, _, ht, _⟩ | ⟨hw, _⟩
          · rw [ht, ← hc1]
            exact hn _ _ _ rfl hm
          · exact wf_58 hw
    rcases h.1 (g, m) (by simp) with ⟨c, hc', hs, h32⟩ | ⟨hn', hs⟩
    · simp only at hc'
      subst hc'
      exact one _ (sep_toks g hs h32) (.inr (.inr (.inr ⟨c, rfl, hs, h32⟩)))
    · simp only at hn' hs
      rcases piece_toks g hn' hs with ⟨hw, htk⟩ | ⟨hN, htk⟩ | ⟨hw, hN, h1 | ⟨h0, h1⟩ | ⟨a, b, q, h1, ha, hb, _⟩⟩
      · exact one _ htk (.inl hw)
      · exact one _ htk (.inr (.inl hN))
      · rw [h1] at hc; cases hc
      · exact one _ h1 (.inr (.inr (.inl h0)))
      · rw [h1, Option.bind_some] at hc
        cases hd : cat X with
        | none => rw [hd] at hc; cases hc
        | some L' =>
          rw [hd] at hc
          have e := Option.some.inj hc
          simp only [List.cons_append] at e
          injection e with e1 e2
          injection e2 with e2 e3
          subst e2
          exact wf_58 hb
def SameLine (r : Option (Bs × Option StR)) (p : Option (Bs × List Draft)) : Prop :=
  match r, p with
  | none, none => True
  | some (lab', none), some (lab, ds) => lab' = lab ∧ ds = []
  | some (lab', some st), some (lab, ds) => lab' = lab ∧ StOk st ds
  | _, _ => False
theorem same_line {lab : Bs} {r : Option (Bs × Option StR)} {p : Option (List Draft)} (h : SameSt lab r p) : SameLine r (p.map fun ds => (lab, ds)) := by
  match r, p, h with
  | none, none, _ => trivial
  | some (_, none), some _, h => exact h
  | some (_, some _), some _, h => exact h
theorem pieces_same (X : List (Bool × Bs)) (h : LineX X) : SameLine ((cat X).bind fun L => (labR L).bind endR) ((labelL (X.map Prod.snd)).bind fun x => (stmtL x.2).map fun ds => (x.1, ds)) := by
  have plain : (∀ L, cat X = some L → labR L = some ([], L)) → labelL (X.map Prod.snd) = some ([], X.map Prod.snd) → SameLine ((cat X).bind fun L => (labR L).bind endR) ((labelL (X.map Prod.snd)).bind fun x => (stmtL x.2).map fun ds => (x.1, ds)) := by
    intro h1 h2
    have e : (cat X).bind (fun L => (labR L).bind endR) = (cat X).bind fun T => endR ([], T) := by
      cases hc : cat X with
      | none => rfl
      | some L => rw [Option.bind_some, Option.bind_some, h1 L hc]; rfl
    rw [e, h2]
    exact same_line (st_same [] X h)
  match X, h, plain with
  | [], h, plain => exact plain (fun L hc => lab_first h hc fun x y r e => by cases e) rfl
  | [x], h, plain => exact plain (fun L hc => lab_first h hc fun x y r e => by cases e) rfl
  | x :: y :: X, h, plain =>
    by_cases hy : y.2 = [58]
    · obtain ⟨g, m⟩ := x
      obtain ⟨yg, yt⟩ := y
      simp only at hy
      subst hy
      have hlab : labelL (((g, m) :: (yg, [58]) :: X).map Prod.snd) = if nameB m = true then some (m, X.map Prod.snd) else none := by
        show (if ([58] : Bs) = [58] then (if nameB m = true then some (m, X.map Prod.snd) else none) else some ([], m :: [58] :: X.map Prod.snd)) = _
        rw [if_pos rfl]
      have hcol : cat ((yg, ([58] : Bs)) :: X) = (cat X).map (⟨3, [58], yg⟩ :: ·) := by
        rw [cat_cons, sep_toks yg (by decide) (by decide), Option.bind_some]
        cases cat X <;> rfl
      have single : ∀ k : Tk, tkGo none g m = some [k] → (k.kind = 1 → isW k.text = true ∧ k.text = m) → (isW m = true → k.kind = 1) → SameLine ((cat ((g, m) :: (yg, [58]) :: X)).bind fun L => (labR L).bind endR) ((labelL (((g, m) :: (yg, [58]) :: X).map Prod.snd)).bind fun x => (stmtL x.2).map fun ds => (x.1, ds)) := by
        intro k hk h1 h2
        have e : (cat ((g, m) :: (yg, [58]) :: X)).bind (fun L => (labR L).bind endR) = if k.kind = 1 ∧ nameR k.text = true then (cat X).bind fun T => endR (k.text, T) else none := by
          rw [cat_cons, hk, Option.bind_some, hcol]
          cases cat X with
          | none => split <;> rfl
          | some L =>
            simp only [Option.map_some, Option.bind_some, List.singleton_append]
            by_cases hh : k.kind = 1 ∧ nameR k.text = true
            · rw [labR_yes (t := k) (u := ⟨3, [58], yg⟩) rfl hh, if_pos hh]; rfl
            · rw [labR_bad (t := k) (u := ⟨3, [58], yg⟩) rfl hh, if_neg hh]; rfl
        rw [e, hlab]
        by_cases hh : k.kind = 1 ∧ nameR k.text = true
        · obtain ⟨hw, ht⟩ := h1 hh.1
          have hb : nameB m = true := by rw [← ht, ← name_same hw]; exact hh.2
          rw [if_pos hh, if_pos hb, ht]
          exact same_line (st_same m X h.tail.tail)
        · have hb : ¬ nameB m = true := by
            intro hb
            have hw := nameB_W hb
            have hk1 := h2 hw
            have := (h1 hk1).2
            exact hh ⟨hk1, by rw [this, name_same hw]; exact hb⟩
          rw [if_neg hh, if_neg hb]
          trivial
      rcases h.1 (g, m) (by simp) with ⟨c, hc', hs, h32⟩ | ⟨hn', hs⟩
      · simp only at hc'
        subst hc'
        exact single _ (sep_toks g hs h32) (fun h => absurd (show (3 : Int) = 1 from h) (by decide)) (fun h => by rw [(sep_no hs).1] at h; cases h)
      · simp only at hn' hs
        rcases piece_toks g hn' hs with ⟨hw, htk⟩ | ⟨hN, htk⟩ | ⟨hw, hN, hrest⟩
        · exact single _ htk (fun _ => ⟨hw, rfl⟩) (fun _ => rfl)
        · exact single _ htk (fun h => absurd (show (2 : Int) = 1 from h) (by decide)) (fun h => by rw [W_not_N h] at hN; cases hN)
        · have hb : ¬ nameB m = true := by rw [name_noW hw]; decide
          by_cases h46 : m = [46]
          · subst h46
            exact single ⟨3, [46], g⟩ (by cases g <;> rfl) (fun h => absurd (show (3 : Int) = 1 from h) (by decide)) (fun h => by rw [hw] at h; cases h)
          · have hst := st_same [] ((g, m) :: (yg, [58]) :: X) h
            have hsn : stmtL (((g, m) :: (yg, [58]) :: X).map Prod.snd) = none := stm_colon m (X.map Prod.snd)
            rw [hsn] at hst
            have e : (cat ((g, m) :: (yg, [58]) :: X)).bind (fun L => (labR L).bind endR) = (cat ((g, m) :: (yg, [58]) :: X)).bind fun T => endR ([], T) := by
              cases hc : cat ((g, m) :: (yg, [58]) :: X) with
              | none => rfl
              | some L =>
                rw [Option.bind_some, Option.bind_some, lab_first h hc (fun x y r e hh => ?_)]
                · rfl
                · injection e with e1 e2
                  subst e1
                  rcases hh with hh | hh | hh | ⟨c, hh, hs'⟩
                  · rw [hw] at hh; cases hh
                  · rw [hN] at hh; cases hh
                  · exact absurd hh h46
                  · simp only at hh
                    subst hh
                    exact absurd (hs c (by simp)) (by rw [hs'.1]; decide)
            rw [e, hlab, if_neg hb]
            match (cat ((g, m) :: (yg, [58]) :: X)).bind (fun T => endR ([], T)), hst with
            | none, _ => trivial
    · refine plain (fun L hc => lab_first h hc fun x' y' r e _ => ?_) ?_
      · injection e with e1 e2
        injection e2 with e2 e3
        subst e2
        exact hy
      · show (if y.2 = [58] then (if nameB x.2 = true then some (x.2, X.map Prod.snd) else none) else some ([], x.2 :: y.2 :: X.map Prod.snd)) = _
        rw [if_neg hy]; rfl
/-- A line is read alike. -/
theorem line_same (l : Bs) : SameLine (parR l) (lineR l) := by
  have h : LineX (tgGo [] true (l.takeWhile (· != 59))) := ⟨tg_form _ _ _ (fun d hd => by cases hd), tg_gap _ _ _ (fun d hd => by cases hd)⟩
  have := pieces_same _ h
  rw [tg_snd] at this
  unfold parR lineR toksL
  rw [tkL_cat]
  exact this
end Go.Proofs.YthghbcjaokpilaaDoor
