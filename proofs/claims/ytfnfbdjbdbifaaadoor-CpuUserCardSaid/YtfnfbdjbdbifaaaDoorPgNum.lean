import Derived.Test.YtfnfbdjbdbifaaaDoorPmFn5
namespace Go.Proofs.YtfnfbdjbdbifaaaDoor
set_option linter.unusedVariables false
set_option linter.unusedSimpArgs false
open Go.RowKit Go.Proofs.YtfnfbdjbdbifaaaDoor.Num
/- Plain mathematics of page table entries. -/
theorem nat_and (X m : Nat) (hm : m < 8) : X &&& m = X % 8 &&& m := by
  apply Nat.eq_of_testBit_eq
  intro i
  rw [Nat.testBit_and, Nat.testBit_and, show (8 : Nat) = 2 ^ 3 from rfl, Nat.testBit_mod_two_pow]
  by_cases h : i < 3
  · simp [h]
  · have : m.testBit i = false := Nat.testBit_lt_two_pow (Nat.lt_of_lt_of_le hm (by
      have := Nat.pow_le_pow_right (n := 2) (by decide) (show 3 ≤ i by omega)
      omega))
    simp [this]
theorem and_small (x : Int) (m : Nat) (hm : m < 8) (h0 : 0 ≤ x) (h1 : x ≤ 4294967295) : bits .and .u32 x (m : Int) = (((x % 8).toNat &&& m : Nat) : Int) := by
  obtain ⟨X, rfl⟩ : ∃ X : Nat, x = X := ⟨x.toNat, by omega⟩
  rw [u32_and_nat X m (by omega) (by omega), nat_and X m hm]
  congr 2
theorem and_tab : ∀ r : Fin 8, (r.1 &&& 1 = r.1 % 2) ∧ (r.1 &&& 2 = r.1 / 2 % 2 * 2) ∧ (r.1 &&& 4 = r.1 / 4 % 2 * 4) ∧ (r.1 &&& 3 = r.1 % 4) ∧ (r.1 &&& 5 = r.1 % 2 + r.1 / 4 % 2 * 4) := by decide
theorem and_1 (x : Int) (h0 : 0 ≤ x) (h1 : x ≤ 4294967295) : bits .and .u32 x 1 = x % 2 := by
  have h := and_small x 1 (by omega) h0 h1
  have t := (and_tab ⟨(x % 8).toNat, by omega⟩).1
  simp only [] at t
  rw [t] at h
  refine h.trans ?_
  omega
theorem and_2 (x : Int) (h0 : 0 ≤ x) (h1 : x ≤ 4294967295) : bits .and .u32 x 2 = x / 2 % 2 * 2 := by
  have h := and_small x 2 (by omega) h0 h1
  have t := (and_tab ⟨(x % 8).toNat, by omega⟩).2.1
  simp only [] at t
  rw [t] at h
  refine h.trans ?_
  omega
theorem and_4 (x : Int) (h0 : 0 ≤ x) (h1 : x ≤ 4294967295) : bits .and .u32 x 4 = x / 4 % 2 * 4 := by
  have h := and_small x 4 (by omega) h0 h1
  have t := (and_tab ⟨(x % 8).toNat, by omega⟩).2.2.1
  simp only [] at t
  rw [t] at h
  refine h.trans ?_
  omega
theorem and_3 (x : Int) (h0 : 0 ≤ x) (h1 : x ≤ 4294967295) : bits .and .u32 x 3 = x % 4 := by
  have h := and_small x 3 (by omega) h0 h1
  have t := (and_tab ⟨(x % 8).toNat, by omega⟩).2.2.2.1
  simp only [] at t
  rw [t] at h
  refine h.trans ?_
  omega
theorem and_5 (x : Int) (h0 : 0 ≤ x) (h1 : x ≤ 4294967295) : bits .and .u32 x 5 = x % 2 + x / 4 % 2 * 4 := by
  have h := and_small x 5 (by omega) h0 h1
  have t := (and_tab ⟨(x % 8).toNat, by omega⟩).2.2.2.2
  simp only [] at t
  rw [t] at h
  refine h.trans ?_
  omega
theorem and_31 (x : Int) (h0 : 0 ≤ x) (h1 : x ≤ 4294967295) : bits .and .u32 x 31 = x % 32 := by
  obtain ⟨X, rfl⟩ : ∃ X : Nat, x = X := ⟨x.toNat, by omega⟩
  have h := u32_and_nat X 31 (by omega) (by omega)
  rw [show (31 : Nat) = 2 ^ 5 - 1 from rfl, Nat.and_two_pow_sub_one_eq_mod] at h
  exact h.trans (by omega)
theorem and_ff (x : Int) (h0 : 0 ≤ x) (h1 : x ≤ 4294967295) : bits .and .u32 x 255 = x % 256 := by
  obtain ⟨X, rfl⟩ : ∃ X : Nat, x = X := ⟨x.toNat, by omega⟩
  have h := u32_and_nat X 255 (by omega) (by omega)
  rw [show (255 : Nat) = 2 ^ 8 - 1 from rfl, Nat.and_two_pow_sub_one_eq_mod] at h
  exact h.trans (by omega)
/-- A word with bits set. -/
def orW (x : Int) (f : Nat) : Int := ((x.toNat ||| f : Nat) : Int)
theorem or_is (x : Int) (f : Nat) (h0 : 0 ≤ x) (h1 : x ≤ 4294967295) (hf : f < 32) : bits .or .u32 x (f : Int) = orW x f := by
  obtain ⟨X, rfl⟩ : ∃ X : Nat, x = X := ⟨x.toNat, by omega⟩
  rw [u32_or_nat X f (by omega) (by omega)]; rfl
theorem orW_bd (x : Int) (f : Nat) (h0 : 0 ≤ x) (h1 : x ≤ 4294967295) (hf : f < 32) : 0 ≤ orW x f ∧ orW x f ≤ 4294967295 := by
  have := Nat.or_lt_two_pow (x := x.toNat) (y := f) (n := 32) (by omega) (by omega)
  unfold orW; omega
theorem orW_twice (x : Int) (f g : Nat) : orW (orW x f) g = orW x (f ||| g) := by
  unfold orW; rw [Int.toNat_natCast, Nat.or_assoc]
theorem orW_8_16 (x : Int) : orW (orW x 8) 16 = orW x 24 := orW_twice x 8 16
theorem orW_same (x : Int) (f : Nat) : orW (orW x f) f = orW x f := by rw [orW_twice, Nat.or_self]
theorem orW_low (x : Int) (f : Nat) (h0 : 0 ≤ x) (hf : f = 8 ∨ f = 24) : orW x f % 8 = x % 8 := by
  obtain ⟨X, rfl⟩ : ∃ X : Nat, x = X := ⟨x.toNat, by omega⟩
  have h : (X ||| f) % 2 ^ 3 = X % 2 ^ 3 := by
    rw [Nat.or_mod_two_pow]
    rcases hf with rfl | rfl <;> simp
  unfold orW; rw [Int.toNat_natCast]; omega
theorem orW_high (x : Int) (f : Nat) (h0 : 0 ≤ x) (hf : f = 8 ∨ f = 24) : orW x f / 256 = x / 256 := by
  obtain ⟨X, rfl⟩ : ∃ X : Nat, x = X := ⟨x.toNat, by omega⟩
  have h : (X ||| f) / 2 ^ 8 = X / 2 ^ 8 := by
    rw [Nat.or_div_two_pow]
    rcases hf with rfl | rfl <;> simp
  unfold orW; rw [Int.toNat_natCast]; omega
theorem pte_tab : ∀ f g : Fin 32, setR (f.1 : Int) 8 8 (g.1 : Int) = (g.1 : Int) * 256 + f.1 := by decide +kernel
theorem pte_set (f g : Int) (hf : 0 ≤ f) (hf' : f ≤ 31) (hg : 0 ≤ g) (hg' : g ≤ 31) : setR f 8 8 g = g * 256 + f := by
  obtain ⟨F, rfl⟩ : ∃ F : Nat, f = F := ⟨f.toNat, by omega⟩
  obtain ⟨G, rfl⟩ : ∃ G : Nat, g = G := ⟨g.toNat, by omega⟩
  exact pte_tab ⟨F, by omega⟩ ⟨G, by omega⟩
theorem pte_tab2 : ∀ f g : Fin 32, bits .or .u32 ((g.1 : Int) * 256) (f.1 : Int) = (g.1 : Int) * 256 + f.1 := by decide +kernel
theorem pte_or (f g : Int) (hf : 0 ≤ f) (hf' : f ≤ 31) (hg : 0 ≤ g) (hg' : g ≤ 31) : bits .or .u32 (g * 256) f = g * 256 + f := by
  obtain ⟨F, rfl⟩ : ∃ F : Nat, f = F := ⟨f.toNat, by omega⟩
  obtain ⟨G, rfl⟩ : ∃ G : Nat, g = G := ⟨g.toNat, by omega⟩
  exact pte_tab2 ⟨F, by omega⟩ ⟨G, by omega⟩
theorem field_fr (x : Int) (h0 : 0 ≤ x) (h1 : x ≤ 4294967295) : fieldR x 8 8 = x / 256 % 256 := by
  have h := field_byte x 1 h0 h1 (by omega)
  simpa using h
theorem field_fl (x : Int) (h0 : 0 ≤ x) (h1 : x ≤ 4294967295) : fieldR x 0 5 = x % 32 := by
  rw [fieldR_yes (by omega) (by omega) (by omega), field_eq x _ _ h0 h1 (by omega)]
  simp
  omega
/-- The entry of a virtual address, the frame in it, what an access needs, and whether an entry permits it. -/
def pteW (l : List Int) (root va : Int) : Int := wd l (32 * root + va / 128).toNat
def frW (x : Int) : Int := x / 256 % 256
def mayB (x a : Int) : Bool := decide (x % 2 = 1 ∧ (a = 3 → x / 2 % 2 = 1) ∧ (a = 1 → x / 4 % 2 = 1))
def cauN (a : Int) : Int := if a = 1 then 4 else if a = 3 then 6 else 5
def wkB (n : Nat) (l : List Int) (root va a : Int) : Bool := decide ((a = 1 ∨ a = 2 ∨ a = 3) ∧ va < 4096 ∧ root < pagesN n ∧ mayB (pteW l root va) a = true ∧ frW (pteW l root va) < pagesN n)
def wkA (n : Nat) (l : List Int) (root va a : Int) : Int := if wkB n l root va a = true then frW (pteW l root va) * 128 + va % 128 else 0
def wkE (n : Nat) (l : List Int) (root va a : Int) : Int := if wkB n l root va a = true then root * 128 + va / 128 * 4 else 0
def wkC (n : Nat) (l : List Int) (root va a : Int) : Int := if wkB n l root va a = true then 0 else cauN a
/-- What an access needs, and its cause. -/
def Needs (a d c : Int) : Prop := (a = 1 ∧ d = 5 ∧ c = 4) ∨ (a = 2 ∧ d = 1 ∧ c = 5) ∨ (a = 3 ∧ d = 3 ∧ c = 6)
theorem needs_of {a : Int} (h : a = 1 ∨ a = 2 ∨ a = 3) : ∃ d c, Needs a d c ∧ 0 ≤ d ∧ d ≤ 5 ∧ c = cauN a := by
  rcases h with rfl | rfl | rfl
  · exact ⟨5, 4, .inl ⟨rfl, rfl, rfl⟩, by omega, by omega, rfl⟩
  · exact ⟨1, 5, .inr (.inl ⟨rfl, rfl, rfl⟩), by omega, by omega, rfl⟩
  · exact ⟨3, 6, .inr (.inr ⟨rfl, rfl, rfl⟩), by omega, by omega, rfl⟩
theorem needs_may {a d c x : Int} (h : Needs a d c) (h0 : 0 ≤ x) (h1 : x ≤ 4294967295) : (bits .and .u32 x d != d) = !(mayB x a) := by
  rcases h with ⟨rfl, rfl, rfl⟩ | ⟨rfl, rfl, rfl⟩ | ⟨rfl, rfl, rfl⟩
  · rw [and_5 x h0 h1, Bool.eq_iff_iff]; simp [mayB]; omega
  · rw [and_1 x h0 h1, Bool.eq_iff_iff]; simp [mayB]
  · rw [and_3 x h0 h1, Bool.eq_iff_iff]; simp [mayB]; omega
theorem wkB_false_a {n : Nat} {l : List Int} {root va a : Int} (h : ¬ (a = 1 ∨ a = 2 ∨ a = 3)) : wkB n l root va a = false := decide_eq_false fun hh => h hh.1
end Go.Proofs.YtfnfbdjbdbifaaaDoor
