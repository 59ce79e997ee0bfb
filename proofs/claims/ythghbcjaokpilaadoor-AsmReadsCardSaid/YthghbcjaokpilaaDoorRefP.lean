import Derived.Test.YthghbcjaokpilaaDoorRefC
import Derived.Test.YthghbcjaokpilaaDoorAsmNum2
namespace Go.Proofs.YthghbcjaokpilaaDoor
set_option linter.unusedVariables false
set_option linter.unusedSimpArgs false
open Go.ChangeShapes Go.WideShapes Go.ChangeAt Go.RowKit Go.Proofs.YthghbcjaokpilaaDoor.Num Go.Proofs.YthghbcjaokpilaaDoor.Isa Go.Proofs.YthghbcjaokpilaaDoor.Mem Go.Proofs.YthghbcjaokpilaaDoor.Asm
/-- What lies between separators and blanks, with whether a blank stands before it. -/
def tgGo (p : Bs) (g : Bool) : Bs → List (Bool × Bs)
  | [] => if p = [] then [] else [(g, p)]
  | c :: l => if sepB c = true then (if p = [] then [] else [(g, p)]) ++ (if c = 32 then [] else [(if p = [] then g else false, [c])]) ++ tgGo [] (decide (c = 32)) l
    else tgGo (p ++ [c]) g l
theorem tg_snd : ∀ (l p : Bs) (g : Bool), (tgGo p g l).map Prod.snd = tokGo p l
  | [], p, g => by unfold tgGo tokGo; split <;> rfl
  | c :: l, p, g => by
    unfold tgGo tokGo
    split
    · rw [List.map_append, List.map_append, tg_snd l [] _]
      congr 1
      congr 1
      · split <;> rfl
      · split <;> rfl
    · exact tg_snd l _ g
/-- The reference's tokens of the pieces. -/
def cat : List (Bool × Bs) → Option (List Tk)
  | [] => some []
  | x :: r => (tkGo none x.1 x.2).bind fun a => (cat r).map (a ++ ·)
theorem cat_one (x : Bool × Bs) : cat [x] = tkGo none x.1 x.2 := by
  simp only [cat]
  cases tkGo none x.1 x.2 <;> simp
theorem cat_app (a b : List (Bool × Bs)) : cat (a ++ b) = (cat a).bind fun x => (cat b).map (x ++ ·) := by
  induction a with
  | nil => simp [cat]
  | cons x a ih =>
    simp only [List.cons_append, cat, ih]
    cases tkGo none x.1 x.2 with
    | none => rfl
    | some y =>
      cases cat a with
      | none => rfl
      | some z => cases cat b <;> simp
theorem cls_cases (c : UInt8) : clsB c = 0 ∨ clsB c = 1 ∨ clsB c = 2 ∨ clsB c = 3 ∨ clsB c = 4 := by
  unfold clsB; repeat' split
  all_goals simp
theorem cls0_iff (c : UInt8) : clsB c = 0 ↔ c = 32 := by
  unfold clsB
  constructor
  · intro h
    by_cases h1 : c = 32
    · exact h1
    · rw [if_neg h1] at h
      repeat' split at h
      all_goals omega
  · intro h; rw [if_pos h]
theorem tk_cut (c : UInt8) (l : Bs) (hc : okC c = false) : ∀ (p : Bs), (∀ d ∈ p, d ≠ 32) →
    (∀ g, tkGo none g (p ++ c :: l) = (tkGo none g p).bind fun a => (tkGo none (if p = [] then g else false) (c :: l)).map (a ++ ·)) ∧
    (∀ t g, tkGo (some t) g (p ++ c :: l) = (tkGo (some t) g p).bind fun a => (tkGo none false (c :: l)).map (a ++ ·))
  | [], _ => by
    refine ⟨fun g => ?_, fun t g => ?_⟩
    · simp [tk_nil]
    · rw [List.nil_append, tk_close t g (c :: l) (Or.inr ⟨c, l, rfl, hc⟩)]
      simp [tkGo]
  | d :: p, hp => by
    obtain ⟨h0, h1⟩ := tk_cut c l hc p (fun x hx => hp x (by simp [hx]))
    have hd : d ≠ 32 := hp d (by simp)
    have hfin : ∀ g, (if (d :: p : Bs) = [] then g else false) = false := fun g => if_neg (by simp)
    have H0 : ∀ g, tkGo none g (d :: p ++ c :: l) = (tkGo none g (d :: p)).bind fun a => (tkGo none (if (d :: p : Bs) = [] then g else false) (c :: l)).map (a ++ ·) := by
      intro g
      rw [hfin, List.cons_append]
      rcases cls_cases d with h | h | h | h | h
      · exact absurd ((cls0_iff d).1 h) hd
      · rw [tk_open (Or.inl h), tk_open (Or.inl h), h1]
      · rw [tk_open (Or.inr h), tk_open (Or.inr h), h1]
      · rw [tk_sign h, tk_sign h, h0]
        have e : (if p = [] then false else false) = false := by split <;> rfl
        rw [e]
        cases tkGo none false p with
        | none => rfl
        | some y => cases tkGo none false (c :: l) <;> simp
      · rw [tk_bad h, tk_bad h]; rfl
    refine ⟨H0, fun t g => ?_⟩
    cases hk : okC d with
    | true => rw [List.cons_append, tk_ext hk, tk_ext hk, h1]
    | false =>
      rw [tk_close t g (d :: p ++ c :: l) (Or.inr ⟨d, p ++ c :: l, rfl, hk⟩), tk_close t g (d :: p) (Or.inr ⟨d, p, rfl, hk⟩), H0]
      rw [hfin]
      cases tkGo none false (d :: p) with
      | none => rfl
      | some y => cases tkGo none false (c :: l) <;> simp
theorem sep_ok : ∀ c : Fin 256, sepB (UInt8.ofNat c.val) = true → okC (UInt8.ofNat c.val) = false ∧ (UInt8.ofNat c.val = 32 ∨ clsB (UInt8.ofNat c.val) = 3) := by decide +kernel
theorem sep_cls (c : UInt8) (h : sepB c = true) : okC c = false ∧ (c = 32 ∨ clsB c = 3) := by
  have := sep_ok ⟨c.toNat, c.toNat_lt⟩
  simp only [UInt8.ofNat_toNat] at this
  exact this h
theorem sep_32 : sepB 32 = true := rfl
/-- The reference's tokens are those of the pieces. -/
theorem tk_pieces : ∀ (l p : Bs) (g : Bool), (∀ d ∈ p, sepB d = false) → tkGo none g (p ++ l) = cat (tgGo p g l)
  | [], p, g, hp => by
    unfold tgGo
    rw [List.append_nil]
    split
    · rename_i h; subst h; rfl
    · rw [cat_one]
  | c :: l, p, g, hp => by
    unfold tgGo
    cases hs : sepB c with
    | false =>
      rw [if_neg (by decide), ← tk_pieces l (p ++ [c]) g (fun d hd => by
        rcases List.mem_append.1 hd with h | h
        · exact hp d h
        · rw [List.mem_singleton] at h; subst h; exact hs)]
      simp
    | true =>
      rw [if_pos rfl]
      obtain ⟨hk, hc⟩ := sep_cls c hs
      have hnb : ∀ d ∈ p, d ≠ 32 := fun d hd h => by have := hp d hd; rw [h, sep_32] at this; cases this
      have IH := tk_pieces l [] (decide (c = 32)) (fun _ h => by cases h)
      rw [List.nil_append] at IH
      rw [(tk_cut c l hk p hnb).1 g, List.append_assoc, cat_app]
      have e1 : cat (if p = [] then [] else [(g, p)]) = tkGo none g p := by
        split
        · rename_i h; subst h; rfl
        · rw [cat_one]
      rw [e1]
      congr 1
      funext a
      congr 1
      rw [cat_app, ← IH]
      rcases hc with rfl | h3
      · rw [if_pos rfl, tk_blank0 ((cls0_iff 32).2 rfl)]
        simp [cat]
      · have hn : c ≠ 32 := fun h => by rw [(cls0_iff c).2 h] at h3; cases h3
        rw [if_neg hn, tk_sign h3, decide_eq_false hn, cat_one]
        show _ = (tkGo none _ [c]).bind _
        rw [tk_sign h3, tk_nil]
        cases tkGo none false l <;> simp
theorem tkL_cat (l : Bs) : tkL l = cat (tgGo [] true l) := by
  have := tk_pieces l [] true (fun _ h => by cases h)
  rwa [List.nil_append] at this
/-- A piece is a separator, or free of separators. -/
theorem tg_form : ∀ (l p : Bs) (g : Bool), (∀ d ∈ p, sepB d = false) → ∀ x ∈ tgGo p g l, (∃ c, x.2 = [c] ∧ sepB c = true ∧ c ≠ 32) ∨ (x.2 ≠ [] ∧ ∀ d ∈ x.2, sepB d = false)
  | [], p, g, hp, x, hx => by
    unfold tgGo at hx
    split at hx
    · cases hx
    · rw [List.mem_singleton] at hx; subst hx; exact Or.inr ⟨by assumption, hp⟩
  | c :: l, p, g, hp, x, hx => by
    unfold tgGo at hx
    cases hs : sepB c with
    | false =>
      rw [if_neg (by rw [hs]; decide)] at hx
      exact tg_form l (p ++ [c]) g (fun d hd => by
        rcases List.mem_append.1 hd with h | h
        · exact hp d h
        · rw [List.mem_singleton] at h; subst h; exact hs) x hx
    | true =>
      rw [if_pos hs] at hx
      rcases List.mem_append.1 hx with hx | hx
      · rcases List.mem_append.1 hx with hx | hx
        · split at hx
          · cases hx
          · rw [List.mem_singleton] at hx; subst hx; exact Or.inr ⟨by assumption, hp⟩
        · split at hx
          · cases hx
          · rw [List.mem_singleton] at hx; subst hx; exact Or.inl ⟨c, rfl, hs, by assumption⟩
      · exact tg_form l [] _ (fun _ h => by cases h) x hx
/-- Behind a piece without separators, a piece without a blank before it is a separator. -/
def GapOk : List (Bool × Bs) → Prop
  | x :: y :: r => ((∀ d ∈ x.2, sepB d = false) → y.1 = false → ∃ c, y.2 = [c] ∧ sepB c = true ∧ c ≠ 32) ∧ GapOk (y :: r)
  | _ => True
theorem gap_cons {x : Bool × Bs} {l : List (Bool × Bs)} (h : ∀ y r, l = y :: r → (∀ d ∈ x.2, sepB d = false) → y.1 = false → ∃ c, y.2 = [c] ∧ sepB c = true ∧ c ≠ 32) (hl : GapOk l) : GapOk (x :: l) := by
  cases l with
  | nil => trivial
  | cons y r => exact ⟨h y r rfl, hl⟩
theorem tg_gap : ∀ (l p : Bs) (g : Bool), (∀ d ∈ p, sepB d = false) → GapOk (tgGo p g l)
  | [], p, g, hp => by unfold tgGo; split <;> trivial
  | c :: l, p, g, hp => by
    unfold tgGo
    cases hs : sepB c with
    | false =>
      rw [if_neg (by decide)]
      exact tg_gap l (p ++ [c]) g (fun d hd => by
        rcases List.mem_append.1 hd with h | h
        · exact hp d h
        · rw [List.mem_singleton] at h; subst h; exact hs)
    | true =>
      rw [if_pos rfl]
      have IH := tg_gap l [] (decide (c = 32)) (fun _ h => by cases h)
      by_cases h32 : c = 32
      · subst h32
        rw [if_pos rfl, List.append_nil]
        split
        · exact IH
        · refine gap_cons (fun y r hl _ hy => ?_) IH
          exact absurd hy (by rw [tg_first l true y r (by simpa using hl) rfl]; decide)
      · rw [if_neg h32]
        have H : ∀ g', GapOk ((g', [c]) :: tgGo [] (decide (c = 32)) l) := fun g' => gap_cons (fun y r _ hx _ => absurd (hx c (by simp)) (by rw [hs]; decide)) IH
        split
        · simpa using H g
        · simp only [List.cons_append, List.nil_append]
          refine gap_cons (fun y r hl _ _ => ?_) (H _)
          injection hl with h1 h2
          subst h1
          exact ⟨c, rfl, hs, h32⟩
where
  tg_first : ∀ (l : Bs) (g : Bool) (y : Bool × Bs) (r : List (Bool × Bs)), tgGo [] g l = y :: r → g = true → y.1 = true
    | [], g, y, r, h, _ => by simp [tgGo] at h
    | c :: l, g, y, r, h, hg => by
      unfold tgGo at h
      split at h
      · by_cases h32 : c = 32
        · subst h32; simp at h; exact tg_first l true y r h rfl
        · simp [h32] at h; rw [← h.1]; exact hg
      · rw [tg_firstP l _ g y r h (by simp)]; exact hg
  tg_firstP : ∀ (l p : Bs) (g : Bool) (y : Bool × Bs) (r : List (Bool × Bs)), tgGo p g l = y :: r → p ≠ [] → y.1 = g
    | [], p, g, y, r, h, hp => by unfold tgGo at h; rw [if_neg hp] at h; injection h with h1; rw [← h1]
    | c :: l, p, g, y, r, h, hp => by
      unfold tgGo at h
      split at h
      · first
          | (rw [if_neg hp] at h; injection h with h1; rw [← h1])
          | (simp only [List.cons_append, List.nil_append] at h; injection h with h1; rw [← h1])
      · exact tg_firstP l _ g y r h (by simp)
end Go.Proofs.YthghbcjaokpilaaDoor
