import Derived.Test.YtfnfbdjbdbifaaaDoorCpGf
namespace Go.Proofs.YtfnfbdjbdbifaaaDoor
set_option linter.unusedVariables false
set_option linter.unusedSimpArgs false
open Go.ChangeShapes Go.WideShapes Go.ChangeAt Go.RowKit Go.Proofs.YtfnfbdjbdbifaaaDoor.Num Go.Proofs.YtfnfbdjbdbifaaaDoor.Mem Go.Proofs.YtfnfbdjbdbifaaaDoor.Isa
/- What an instruction in user mode may change. -/
/-- A page table in page 0 of which entries 2 and 3 alone may be valid. -/
def UsT (l : List Int) : Prop := ∀ i : Nat, i < 32 → i ≠ 2 → i ≠ 3 → wd l i % 2 = 0
theorem tcL_wd {n : Nat} {l : List Int} (e a : Int) (i : Nat) (hl : l.length = n) (e0 : 0 ≤ e) : wd (tcL n l e a) i = if okB n e 4 = true ∧ (e / 4).toNat = i then orW (wd l i) (tcF a) else wd l i := by
  unfold tcL
  by_cases ho : okB n e 4 = true
  · obtain ⟨hs, ha, hp, hi⟩ := okB_true ho
    rw [if_pos ho, wd_set _ _ _ _ (by omega)]
    by_cases h : (e / 4).toNat = i
    · rw [if_pos h, if_pos ⟨ho, h⟩, h]
    · rw [if_neg h, if_neg (fun hh => h hh.2)]
  · rw [if_neg ho, if_neg (fun hh => ho hh.1)]
/-- Where a translated access lies in the table. -/
theorem us_at {n : Nat} {l L : List Int} {va size a : Int} (v0 : 0 ≤ va) (hr : wd L 23 = 0) (hp : pgB L = true) (hT : UsT l) (h : rsC n l L va size a = 0) :
    (va / 128 = 2 ∨ va / 128 = 3) ∧ wkE n l (wd L 23) va a = va / 128 * 4 ∧ wkB n l (wd L 23) va a = true ∧ (a = 1 ∨ a = 2 ∨ a = 3) := by
  obtain ⟨h1, h2, h3, h4, h5⟩ := rsC_zero h
  have hw := h4 hp
  have hq := of_decide_eq_true hw
  obtain ⟨g1, g2, g3, g4, g5⟩ := hq
  have hm := of_decide_eq_true g4
  refine ⟨?_, ?_, hw, h1⟩
  · by_cases hv : va / 128 = 2 ∨ va / 128 = 3
    · exact hv
    · have := hT (va / 128).toNat (by omega) (by omega) (by omega)
      have h0 := hm.1
      unfold pteW at h0
      rw [hr, show (32 * 0 + va / 128).toNat = (va / 128).toNat by omega] at h0
      omega
  · unfold wkE
    rw [if_pos hw, hr]; omega
theorem us_rsL {n : Nat} {l L : List Int} {va size a : Int} (hl : l.length = n) (v0 : 0 ≤ va) (hr : wd L 23 = 0) (hp : pgB L = true) (hT : UsT l) (i : Nat) (h2 : i ≠ 2) (h3 : i ≠ 3) : wd (rsL n l L va size a) i = wd l i := by
  unfold rsL
  by_cases h : rsC n l L va size a = 0
  · obtain ⟨g1, g2, -, -⟩ := us_at v0 hr hp hT h
    rw [if_pos ⟨h, hp⟩, tcL_wd _ _ _ hl (by rw [g2]; omega)]
    rw [if_neg (fun hh => by have := hh.2; rw [g2] at this; omega)]
  · rw [if_neg (fun hh => h hh.1)]
theorem us_bits {n : Nat} {l L : List Int} {va size a : Int} (hl : l.length = n) (hu : U32 l) (v0 : 0 ≤ va) (hr : wd L 23 = 0) (i : Nat) : wd (rsL n l L va size a) i % 8 = wd l i % 8 ∧ wd (rsL n l L va size a) i / 256 = wd l i / 256 := by
  unfold rsL
  by_cases h : rsC n l L va size a = 0 ∧ pgB L = true
  · rw [if_pos h, tcL_wd _ _ _ hl (wkE_bd n l (wd L 23) va a (by omega) v0).1]
    by_cases g : okB n (wkE n l (wd L 23) va a) 4 = true ∧ (wkE n l (wd L 23) va a / 4).toNat = i
    · rw [if_pos g]
      have hf : tcF a = 8 ∨ tcF a = 24 := by unfold tcF; split <;> simp
      exact ⟨orW_low _ _ (wd_bd hu i).1 hf, orW_high _ _ (wd_bd hu i).1 hf⟩
    · rw [if_neg g]; exact ⟨rfl, rfl⟩
  · rw [if_neg h]; exact ⟨rfl, rfl⟩
theorem UsT.rsL {n : Nat} {l L : List Int} {va size a : Int} (hT : UsT l) (hl : l.length = n) (hu : U32 l) (v0 : 0 ≤ va) (hr : wd L 23 = 0) : UsT (rsL n l L va size a) := fun i h1 h2 h3 => by
  have := (us_bits (n := n) (l := l) (L := L) (va := va) (size := size) (a := a) hl hu v0 hr i).1
  have h0 := hT i h1 h2 h3
  omega
/-- In user mode an instruction changes the table's two entries, and what it may write. -/
theorem user_safe {l L : List Int} {f : Int} (hl : l.length = 128) (hu : U32 l) (hC : C25 L) (h17 : wd L 17 = 4) (hr : wd L 23 = 0) (hT : UsT l) (e3 : wd l 3 % 8 = 5) (e2 : wd l 2 % 8 = f % 8) (e2' : wd l 2 / 256 = 2)
    (i : Nat) (i2 : i ≠ 2) (i3 : i ≠ 3) (hd : ¬ (64 ≤ i ∧ i < 96 ∧ f % 4 = 3)) : wd (exM 128 l L) i = wd l i := by
  have hp : pgB L = true := by unfold pgB; rw [h17]; decide
  have h16 := hC.bd 16
  have hl' : (ftL 128 l L).length = 128 := by rw [show (ftL 128 l L).length = l.length from rsL_len _ _ _ _ _ _]; exact hl
  have hu' : U32 (ftL 128 l L) := ftL_u32 hu L
  have hT' : UsT (ftL 128 l L) := hT.rsL hl hu h16.1 hr
  have hA : wd (ftL 128 l L) i = wd l i := us_rsL hl h16.1 hr hp hT i i2 i3
  have b2 : wd (ftL 128 l L) 2 % 8 = wd l 2 % 8 ∧ wd (ftL 128 l L) 2 / 256 = wd l 2 / 256 := us_bits hl hu h16.1 hr 2
  have b3 : wd (ftL 128 l L) 3 % 8 = wd l 3 % 8 ∧ wd (ftL 128 l L) 3 / 256 = wd l 3 / 256 := us_bits hl hu h16.1 hr 3
  unfold exM
  by_cases hB : exB 128 l L = true
  · rw [if_pos hB]
    generalize ftL 128 l L = l' at *
    generalize ftW 128 l L = X at *
    by_cases h1 : 32 ≤ dOp X ∧ dOp X ≤ 34
    · rw [if_pos h1]
      unfold ldM
      rw [us_rsL hl' (opVa_bd _ _ _).1 hr hp hT' i i2 i3]
      exact hA
    rw [if_neg h1]
    by_cases h2 : 35 ≤ dOp X ∧ dOp X ≤ 36
    · rw [if_pos h2]
      unfold stM
      have hv := opVa_bd L (dB X) (dM X)
      generalize opVa L (dB X) (dM X) = va at *
      generalize opSz (dOp X) = sz at *
      by_cases hc : rsC 128 l' L va sz 3 = 0
      · rw [if_pos hc]
        obtain ⟨g1, g2, g3, g4⟩ := us_at hv.1 hr hp hT' hc
        have hq := of_decide_eq_true g3
        obtain ⟨-, -, -, q4, -⟩ := hq
        have hm := of_decide_eq_true q4
        have hm1 := hm.1
        have hm2 := hm.2.1 rfl
        have eA : rsA 128 l' L va sz 3 = frW (pteW l' (wd L 23) va) * 128 + va % 128 := by
          unfold rsA wkA; rw [if_pos hc, if_pos hp, if_pos g3]
        unfold pteW at hm1 hm2 eA
        rw [hr, show (32 * 0 + va / 128).toNat = (va / 128).toNat by omega] at hm1 hm2
        rw [hr, show (32 * 0 + va / 128).toNat = (va / 128).toNat by omega] at eA
        rcases g1 with g1 | g1
        · rw [g1] at hm1 hm2 eA
          have hf : f % 4 = 3 := by
            have : wd l' (2 : Int).toNat = wd l' 2 := rfl
            rw [this] at hm1 hm2
            omega
          have eF : frW (wd l' (2 : Int).toNat) = 2 := by
            unfold frW
            have : wd l' (2 : Int).toNat = wd l' 2 := rfl
            rw [this]; omega
          rw [eF] at eA
          unfold stV
          rw [wd_set _ _ _ _ (by rw [rsL_len, hl', eA]; omega), if_neg (by rw [eA]; omega)]
          rw [us_rsL hl' hv.1 hr hp hT' i i2 i3]
          exact hA
        · exfalso
          rw [g1] at hm2
          have : wd l' (3 : Int).toNat = wd l' 3 := rfl
          rw [this] at hm2
          omega
      · rw [if_neg hc, us_rsL hl' hv.1 hr hp hT' i i2 i3]
        exact hA
    · rw [if_neg h2]; exact hA
  · rw [if_neg hB]; exact hA
end Go.Proofs.YtfnfbdjbdbifaaaDoor
