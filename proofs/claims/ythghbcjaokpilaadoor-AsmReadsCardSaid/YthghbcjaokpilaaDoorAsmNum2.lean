/- Lines and tokens in plain terms, and what a rune of a string is made of. No program is named here. -/
import Derived.Test.YthghbcjaokpilaaDoorAsmNum
import Derived.Laws.RangeAny
namespace Go.Proofs.YthghbcjaokpilaaDoor.Asm
set_option linter.unusedVariables false
set_option linter.unusedSimpArgs false
/-- The bytes from a to b. -/
def piece (l : Bs) (a b : Nat) : Bs := (l.drop a).take (b - a)
theorem piece_self (l : Bs) (a : Nat) : piece l a a = [] := by simp [piece]
theorem piece_add (l : Bs) (a b n : Nat) (h : a ≤ b) : piece l a (b + n) = piece l a b ++ (l.drop b).take n := by
  unfold piece
  rw [show b + n - a = (b - a) + n by omega, List.take_add, List.drop_drop, show a + (b - a) = b by omega]
theorem piece_one (l : Bs) (a b : Nat) (h : a ≤ b) (hb : b < l.length) : piece l a (b + 1) = piece l a b ++ [l[b]] := by
  rw [piece_add l a b 1 h, List.drop_eq_getElem_cons hb]; rfl
theorem piece_nil {l : Bs} {a b : Nat} (h : a ≤ b) (hb : b ≤ l.length) : piece l a b = [] ↔ ¬ a < b := by
  unfold piece
  constructor
  · intro he hlt
    have := congrArg List.length he
    simp at this; omega
  · intro h; simp; omega
theorem piece_all (l : Bs) (a : Nat) : piece l a l.length = l.drop a := by
  unfold piece; rw [List.take_of_length_le (by simp)]
theorem extract_piece (s : ByteArray) (a b : Nat) : s.extract a b = S (piece s.data.toList a b) := by
  apply ba_ext
  rw [S_list, ByteArray.data_extract, Array.toList_extract, List.extract_eq_take_drop]; rfl
/-- The lines. -/
def lineGo (p : Bs) : Bs → List Bs
  | [] => [p]
  | c :: l => if c = 10 then p :: lineGo [] l else lineGo (p ++ [c]) l
theorem lineGo_skip : ∀ (q p r : Bs), (∀ c ∈ q, c ≠ 10) → lineGo p (q ++ r) = lineGo (p ++ q) r
  | [], p, r, _ => by simp
  | c :: q, p, r, h => by
    simp only [List.cons_append, lineGo]
    rw [if_neg (h c (by simp)), lineGo_skip q _ r (fun d hd => h d (by simp [hd]))]
    simp
def linesL (l : Bs) : List Bs := lineGo [] l
def sepB (c : UInt8) : Bool := c == 32 || c == 44 || c == 58 || c == 40 || c == 41
def tokGo (p : Bs) : Bs → List Bs
  | [] => if p = [] then [] else [p]
  | c :: l => if sepB c = true then (if p = [] then [] else [p]) ++ (if c = 32 then [] else [[c]]) ++ tokGo [] l else tokGo (p ++ [c]) l
theorem tokGo_skip : ∀ (q p r : Bs), (∀ c ∈ q, sepB c = false) → tokGo p (q ++ r) = tokGo (p ++ q) r
  | [], p, r, _ => by simp
  | c :: q, p, r, h => by
    simp only [List.cons_append, tokGo]
    rw [if_neg (by rw [h c (by simp)]; decide), tokGo_skip q _ r (fun d hd => h d (by simp [hd]))]
    simp
/-- The tokens of a line. -/
def toksL (l : Bs) : List Bs := tokGo [] (l.takeWhile (· != 59))
theorem tokGo_ne : ∀ (l p : Bs), ∀ t ∈ tokGo p l, t ≠ []
  | [], p, t, h => by
    unfold tokGo at h
    split at h
    · simp at h
    · simp at h; subst h; assumption
  | c :: l, p, t, h => by
    unfold tokGo at h
    split at h
    · simp only [List.mem_append] at h
      rcases h with (h | h) | h
      · split at h
        · simp at h
        · simp at h; subst h; assumption
      · split at h
        · simp at h
        · simp at h; subst h; simp
      · exact tokGo_ne l [] t h
    · exact tokGo_ne l _ t h
theorem tokGo_len : ∀ (l p : Bs), (tokGo p l).length ≤ 1 + 2 * l.length
  | [], p => by unfold tokGo; split <;> simp
  | c :: l, p => by
    unfold tokGo
    split
    · simp only [List.length_append, List.length_cons]
      have := tokGo_len l []
      have h1 : (if p = [] then ([] : List Bs) else [p]).length ≤ 1 := by split <;> simp
      have h2 : (if c = 32 then ([] : List Bs) else [[c]]).length ≤ 1 := by split <;> simp
      by_cases hl : l = []
      · subst hl
        have h3 : (tokGo [] []).length = 0 := rfl
        simp only [List.length_nil]
        omega
      · have : (tokGo [] l).length ≤ 2 * l.length := tokGo_len' l
        omega
    · have := tokGo_len l (p ++ [c])
      simp only [List.length_cons]; omega
where
  tokGo_len' : ∀ l : Bs, (tokGo [] l).length ≤ 2 * l.length
    | [] => by simp [tokGo]
    | c :: l => by
      unfold tokGo
      split
      · simp only [List.length_append, List.length_cons, if_true, List.length_nil]
        have := tokGo_len' l
        have h2 : (if c = 32 then ([] : List Bs) else [[c]]).length ≤ 1 := by split <;> simp
        omega
      · have := tokGo_len l ([] ++ [c])
        simp only [List.length_cons]; omega
theorem toksL_ne (l : Bs) : ∀ t ∈ toksL l, t ≠ [] := tokGo_ne _ _
theorem lineGo_len : ∀ (l p : Bs), (lineGo p l).length ≤ 1 + l.length
  | [], p => by simp [lineGo]
  | c :: l, p => by
    unfold lineGo
    split
    · have := lineGo_len l []
      simp only [List.length_cons]; omega
    · have := lineGo_len l (p ++ [c])
      simp only [List.length_cons]; omega
theorem lineGo_sum : ∀ (l p : Bs), ∀ x ∈ lineGo p l, x.length ≤ p.length + l.length
  | [], p, x, h => by simp [lineGo] at h; subst h; simp
  | c :: l, p, x, h => by
    unfold lineGo at h
    split at h
    · rcases List.mem_cons.1 h with h | h
      · subst h; simp
      · have := lineGo_sum l [] x h
        simp at this ⊢; omega
    · have := lineGo_sum l _ x h
      simp at this ⊢; omega
/-- A rune that is no single byte: its bytes are all 128 or more. -/
theorem decode_span (s : ByteArray) (pos : Nat) (h : pos < s.size) (ha : 128 ≤ (s[pos]'h).toNat) :
    pos + (Utf8.decode s pos).2 ≤ s.size ∧ 1 ≤ (Utf8.decode s pos).2 ∧ ∀ j, j < (Utf8.decode s pos).2 → 128 ≤ (s.get! (pos + j)).toNat := by
  have h0 : 128 ≤ (s.get! (pos + 0)).toNat := by rw [get_at s pos h]; exact ha
  have key : ∀ n, n = (Utf8.decode s pos).2 → n = 1 ∨ (n = 2 ∧ pos + 1 < s.size ∧ (s.get! (pos + 1)).toNat / 64 = 2) ∨ (n = 3 ∧ pos + 2 < s.size ∧ (s.get! (pos + 1)).toNat / 64 = 2 ∧ (s.get! (pos + 2)).toNat / 64 = 2) ∨ (n = 4 ∧ pos + 3 < s.size ∧ (s.get! (pos + 1)).toNat / 64 = 2 ∧ (s.get! (pos + 2)).toNat / 64 = 2 ∧ (s.get! (pos + 3)).toNat / 64 = 2) := by
    intro n hn
    subst hn
    simp only [Utf8.decode]
    repeat' split
    all_goals simp_all
  generalize (Utf8.decode s pos).2 = n at *
  have k := key n rfl
  refine ⟨by omega, by omega, fun j hj => ?_⟩
  rcases k with k | ⟨k, _, k1⟩ | ⟨k, _, k1, k2⟩ | ⟨k, _, k1, k2, k3⟩
  · obtain rfl : j = 0 := by omega
    exact h0
  · rcases (show j = 0 ∨ j = 1 by omega) with rfl | rfl
    · exact h0
    · omega
  · rcases (show j = 0 ∨ j = 1 ∨ j = 2 by omega) with rfl | rfl | rfl
    · exact h0
    · omega
    · omega
  · rcases (show j = 0 ∨ j = 1 ∨ j = 2 ∨ j = 3 by omega) with rfl | rfl | rfl | rfl
    · exact h0
    · omega
    · omega
    · omega
theorem get_bang (s : ByteArray) (i : Nat) (h : i < s.size) : s.get! i = s.data.toList[i]'(by simpa using h) := by
  have := get_at s i h
  rw [Nat.add_zero] at this
  rw [this]; rfl
theorem span_mem (s : ByteArray) (pos : Nat) (h : pos < s.size) (ha : 128 ≤ (s[pos]'h).toNat) : ∀ c ∈ (s.data.toList.drop pos).take (Utf8.decode s pos).2, 128 ≤ c.toNat := by
  obtain ⟨h1, h2, h3⟩ := decode_span s pos h ha
  intro c hc
  obtain ⟨j, hj, rfl⟩ := List.getElem_of_mem hc
  simp only [List.length_take, List.length_drop] at hj
  have := h3 j (by omega)
  rw [get_bang s (pos + j) (by omega)] at this
  simpa using this
end Go.Proofs.YthghbcjaokpilaaDoor.Asm
