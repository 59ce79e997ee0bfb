import Derived.Test.YthghbcjaokpilaaDoorRefB
import Derived.Test.YthghbcjaokpilaaDoorAsmFn4
namespace Go.Proofs.YthghbcjaokpilaaDoor
set_option linter.unusedVariables false
set_option linter.unusedSimpArgs false
open Go.ChangeShapes Go.WideShapes Go.ChangeAt Go.RowKit Go.Proofs.YthghbcjaokpilaaDoor.Num Go.Proofs.YthghbcjaokpilaaDoor.Isa Go.Proofs.YthghbcjaokpilaaDoor.Mem Go.Proofs.YthghbcjaokpilaaDoor.Asm
/-- A token of the reference: its kind, its text, whether a blank stands before it. -/
structure Tk where
  kind : Int
  text : Bs
  gap : Bool
/-- What a byte begins: a blank, a word, a number, a sign, nothing. -/
def clsB (c : UInt8) : Int := if c = 32 then 0 else if letB (c.toNat : Int) = true then 1 else if (digB (c.toNat : Int) || decide (c = 45)) = true then 2 else if c = 44 ∨ c = 58 ∨ c = 40 ∨ c = 41 ∨ c = 46 then 3 else 4
def okC (c : UInt8) : Bool := okB (c.toNat : Int)
/-- The tokens of a line, as the reference splits it; o is the token that is open. -/
def tkGo : Option Tk → Bool → Bs → Option (List Tk)
  | o, _, [] => some o.toList
  | some t, _, c :: l =>
    if okC c = true then tkGo (some { t with text := t.text ++ [c] }) false l
    else if clsB c = 0 then (tkGo none true l).map (t :: ·)
    else if clsB c = 1 ∨ clsB c = 2 then (tkGo (some ⟨clsB c, [c], false⟩) false l).map (t :: ·)
    else if clsB c = 3 then (tkGo none false l).map (fun r => t :: ⟨3, [c], false⟩ :: r)
    else none
  | none, g, c :: l =>
    if clsB c = 0 then tkGo none true l
    else if clsB c = 1 ∨ clsB c = 2 then tkGo (some ⟨clsB c, [c], g⟩) false l
    else if clsB c = 3 then (tkGo none false l).map (⟨3, [c], g⟩ :: ·)
    else none
def tkL (l : Bs) : Option (List Tk) := tkGo none true l
theorem tk_close (t : Tk) (g : Bool) (l : Bs) (h : l = [] ∨ ∃ c r, l = c :: r ∧ okC c = false) : tkGo (some t) g l = (tkGo none false l).map (t :: ·) := by
  rcases h with rfl | ⟨c, r, rfl, hc⟩
  · rfl
  · unfold tkGo
    rw [if_neg (by rw [hc]; decide)]
    split
    · rfl
    · split
      · rfl
      · split
        · simp [Option.map_map]; rfl
        · rfl
theorem tk_ext {t : Tk} {g : Bool} {c : UInt8} {l : Bs} (h : okC c = true) : tkGo (some t) g (c :: l) = tkGo (some { t with text := t.text ++ [c] }) false l := by
  conv => lhs; unfold tkGo
  rw [if_pos h]
theorem tk_blank0 {g : Bool} {c : UInt8} {l : Bs} (h : clsB c = 0) : tkGo none g (c :: l) = tkGo none true l := by
  conv => lhs; unfold tkGo
  rw [if_pos h]
theorem tk_open {g : Bool} {c : UInt8} {l : Bs} (h : clsB c = 1 ∨ clsB c = 2) : tkGo none g (c :: l) = tkGo (some ⟨clsB c, [c], g⟩) false l := by
  conv => lhs; unfold tkGo
  rw [if_neg (by omega), if_pos h]
theorem tk_sign {g : Bool} {c : UInt8} {l : Bs} (h : clsB c = 3) : tkGo none g (c :: l) = (tkGo none false l).map (⟨3, [c], g⟩ :: ·) := by
  conv => lhs; unfold tkGo
  rw [if_neg (by omega), if_neg (by omega), if_pos h]
theorem clsB_le (c : UInt8) : clsB c ≤ 4 := by unfold clsB; repeat' split
                                               all_goals omega
theorem tk_bad {g : Bool} {c : UInt8} {l : Bs} (h : clsB c = 4) : tkGo none g (c :: l) = none := by
  conv => lhs; unfold tkGo
  rw [if_neg (by omega), if_neg (by omega), if_neg (by omega)]
theorem tk_nil (g : Bool) : tkGo none g [] = some [] := rfl
def tkV (t : Tk) : List Value := [.int .i64 t.kind, .string (S t.text), .bool t.gap]
def flatT (l : List Tk) : List Value := (l.map tkV).flatten
theorem flatT_snoc (l : List Tk) (t : Tk) : flatT (l ++ [t]) = flatT l ++ tkV t := by simp [flatT]
theorem flatT_len (l : List Tk) : (flatT l).length = l.length * 3 := by
  induction l with
  | nil => rfl
  | cons t l ih =>
    have e : flatT (t :: l) = tkV t ++ flatT l := rfl
    rw [e, List.length_append, ih]
    simp [tkV]; omega
theorem info_tok : (Tryd.prog.info? 90).map (fun i => (i.zero, i.size, i.bytes)) = some (some (.agg #[.int .i64 0, .string { data := #[] }, .bool false]), 3, 32) := by kernel_rfl
theorem new_cellsA (w : World) (xs : List Value) (T : TypeId) : ∀ j u, xs[j]? = some u → (w.alloc (.cells xs.toArray T)).cell? ((⟨w.heap.size, 0, none⟩ : Addr).add j) = some u := by
  intro j u h
  rw [add_plain, World.cell?_alloc_at _ _ _ _ rfl]
  simpa using h
theorem one_tok (t : Tk) : ∀ u ∈ tkV t, u.oneCell' = true := by simp [tkV, Value.oneCell']
/-- What the walk knows: the tokens so far, and the rest. -/
def TkAt (s : ByteArray) (L : List Tk) (o : Option Tk) (g : Bool) (k : Nat) : Prop := tkL s.data.toList = (tkGo o g (s.data.toList.drop k)).map (L ++ ·)
theorem tkat_start (s : ByteArray) : TkAt s [] none true 0 := by
  unfold TkAt tkL
  simp
theorem tkat_blank {s : ByteArray} {L : List Tk} {g : Bool} {k : Nat} (h : TkAt s L none g k) (hk : k < s.size) (hc : clsB s[k] = 0) : TkAt s L none true (k + 1) := by
  unfold TkAt at h ⊢
  rw [h, drop_get hk, tk_blank0 hc]
theorem tkat_open {s : ByteArray} {L : List Tk} {g : Bool} {k : Nat} (h : TkAt s L none g k) (hk : k < s.size) (hc : clsB s[k] = 1 ∨ clsB s[k] = 2) : TkAt s L (some ⟨clsB s[k], piece s.data.toList k (k + 1), g⟩) false (k + 1) := by
  unfold TkAt at h ⊢
  rw [h, drop_get hk, tk_open hc, piece_one _ _ _ (Nat.le_refl _) (by rw [len_size]; exact hk), piece_self, getL s k hk]
  rfl
theorem tkat_ext {s : ByteArray} {L : List Tk} {q : Int} {f k : Nat} {g0 g : Bool} (h : TkAt s L (some ⟨q, piece s.data.toList f k, g0⟩) g k) (hf : f ≤ k) (hk : k < s.size) (hc : okC s[k] = true) : TkAt s L (some ⟨q, piece s.data.toList f (k + 1), g0⟩) false (k + 1) := by
  unfold TkAt at h ⊢
  rw [h, drop_get hk, tk_ext hc, piece_one _ _ _ hf (by rw [len_size]; exact hk), getL s k hk]
theorem tkat_close {s : ByteArray} {L : List Tk} {t : Tk} {g : Bool} {k : Nat} (h : TkAt s L (some t) g k) (hc : s.size ≤ k ∨ ∃ hk : k < s.size, okC s[k] = false) : TkAt s (L ++ [t]) none false k := by
  unfold TkAt at h ⊢
  rw [h, tk_close]
  · rw [Option.map_map]
    congr 1
    funext r
    simp
  · rcases hc with hc | ⟨hk, hc⟩
    · left; apply List.eq_nil_of_length_eq_zero; simp; omega
    · right; exact ⟨_, _, drop_get hk, hc⟩
theorem tkat_sign {s : ByteArray} {L : List Tk} {g : Bool} {k : Nat} (h : TkAt s L none g k) (hk : k < s.size) (hc : clsB s[k] = 3) : TkAt s (L ++ [⟨3, piece s.data.toList k (k + 1), g⟩]) none false (k + 1) := by
  unfold TkAt at h ⊢
  rw [h, drop_get hk, tk_sign hc, Option.map_map, piece_one _ _ _ (Nat.le_refl _) (by rw [len_size]; exact hk), piece_self, getL s k hk]
  congr 1
  funext r
  simp
theorem tkat_bad {s : ByteArray} {L : List Tk} {g : Bool} {k : Nat} (h : TkAt s L none g k) (hk : k < s.size) (hc : clsB s[k] = 4) : tkL s.data.toList = none := by
  unfold TkAt at h
  rw [h, drop_get hk, tk_bad hc]; rfl
theorem tkat_end {s : ByteArray} {L : List Tk} {g : Bool} (h : TkAt s L none g s.size) : tkL s.data.toList = some L := by
  unfold TkAt at h
  rw [h, show s.data.toList.drop s.size = [] by apply List.eq_nil_of_length_eq_zero; simp]
  simp [tkGo]
theorem ok_split (c : UInt8) : okC c = (letB (c.toNat : Int) || digB (c.toNat : Int) || decide ((c.toNat : Int) = 95)) := rfl
theorem u8_eq (c : UInt8) (n : Nat) (hn : n < 256) : (c = UInt8.ofNat n) ↔ (c.toNat : Int) = n := by
  constructor
  · rintro rfl; simp; omega
  · intro h; apply UInt8.toNat_inj.1; simp; omega
theorem cls_0 {c : UInt8} (h : (c.toNat : Int) = 32) : clsB c = 0 := by
  have : c = 32 := UInt8.toNat_inj.1 (show c.toNat = 32 by omega)
  unfold clsB; rw [if_pos this]
theorem cls_1 {c : UInt8} (h0 : ¬ (c.toNat : Int) = 32) (h : letB (c.toNat : Int) = true) : clsB c = 1 := by
  unfold clsB; rw [if_neg (fun e => h0 (by rw [e]; rfl)), if_pos h]
theorem cls_2 {c : UInt8} (h0 : ¬ (c.toNat : Int) = 32) (h1 : letB (c.toNat : Int) = false) (h : digB (c.toNat : Int) = true ∨ (c.toNat : Int) = 45) : clsB c = 2 := by
  unfold clsB
  rw [if_neg (fun e => h0 (by rw [e]; rfl)), if_neg (by rw [h1]; decide), if_pos]
  rcases h with h | h
  · rw [h]; rfl
  · have : c = 45 := UInt8.toNat_inj.1 (show c.toNat = 45 by omega)
    subst this; rfl
theorem cls_3 {c : UInt8} (h : (c.toNat : Int) = 44 ∨ (c.toNat : Int) = 58 ∨ (c.toNat : Int) = 40 ∨ (c.toNat : Int) = 41 ∨ (c.toNat : Int) = 46) : clsB c = 3 := by
  have : c = 44 ∨ c = 58 ∨ c = 40 ∨ c = 41 ∨ c = 46 := by
    rcases h with h | h | h | h | h
    · exact Or.inl (UInt8.toNat_inj.1 (show c.toNat = 44 by omega))
    · exact Or.inr (Or.inl (UInt8.toNat_inj.1 (show c.toNat = 58 by omega)))
    · exact Or.inr (Or.inr (Or.inl (UInt8.toNat_inj.1 (show c.toNat = 40 by omega))))
    · exact Or.inr (Or.inr (Or.inr (Or.inl (UInt8.toNat_inj.1 (show c.toNat = 41 by omega)))))
    · exact Or.inr (Or.inr (Or.inr (Or.inr (UInt8.toNat_inj.1 (show c.toNat = 46 by omega)))))
  rcases this with rfl | rfl | rfl | rfl | rfl <;> rfl
theorem cls_4 {c : UInt8} (h0 : ¬ (c.toNat : Int) = 32) (h1 : letB (c.toNat : Int) = false) (h2 : digB (c.toNat : Int) = false) (h3 : ¬ (c.toNat : Int) = 45) (h44 : ¬ (c.toNat : Int) = 44) (h58 : ¬ (c.toNat : Int) = 58) (h40 : ¬ (c.toNat : Int) = 40) (h41 : ¬ (c.toNat : Int) = 41) (h46 : ¬ (c.toNat : Int) = 46) : clsB c = 4 := by
  unfold clsB
  rw [if_neg (fun e => h0 (by rw [e]; rfl)), if_neg (by rw [h1]; decide), if_neg, if_neg]
  · rintro (e | e | e | e | e)
    · exact h44 (by rw [e]; rfl)
    · exact h58 (by rw [e]; rfl)
    · exact h40 (by rw [e]; rfl)
    · exact h41 (by rw [e]; rfl)
    · exact h46 (by rw [e]; rfl)
  · rw [h2]
    simp only [Bool.false_or, decide_eq_true_eq]
    intro e; exact h3 (by rw [e]; rfl)
end Go.Proofs.YthghbcjaokpilaaDoor
