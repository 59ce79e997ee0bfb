import Derived.Test.YtamjfbcjenocpaaGreatDoorIsaFn6
namespace Go.Proofs.YtamjfbcjenocpaaGreatDoor
set_option linter.unusedVariables false
set_option linter.unusedSimpArgs false
open Go.Proofs.YtamjfbcjenocpaaGreatDoor.Isa
theorem split_at (s : UInt8) : ∀ (xs xs' ys ys' : List UInt8), s ∉ xs → s ∉ xs' → xs ++ s :: ys = xs' ++ s :: ys' → xs = xs' ∧ ys = ys'
  | [], [], ys, ys', _, _, h => by simpa using h
  | [], x' :: xs', ys, ys', _, h2, h => by
    simp only [List.nil_append, List.cons_append, List.cons.injEq] at h
    exact absurd (h.1 ▸ List.mem_cons_self) h2
  | x :: xs, [], ys, ys', h1, _, h => by
    simp only [List.nil_append, List.cons_append, List.cons.injEq] at h
    exact absurd (h.1 ▸ List.mem_cons_self) h1
  | x :: xs, x' :: xs', ys, ys', h1, h2, h => by
    simp only [List.cons_append, List.cons.injEq] at h
    have := split_at s xs xs' ys ys' (fun e => h1 (List.mem_cons_of_mem _ e)) (fun e => h2 (List.mem_cons_of_mem _ e)) h.2
    exact ⟨by rw [h.1, this.1], this.2⟩
theorem dec_form (n : Nat) : Lib.decDigits n = (if n < 10 then [] else Lib.decDigits (n / 10)) ++ [UInt8.ofNat (48 + n % 10)] := by
  conv => lhs; unfold Lib.decDigits
  split
  · rename_i h; rw [Nat.mod_eq_of_lt h]; rfl
  · rfl
theorem dec_ne (n : Nat) : Lib.decDigits n ≠ [] := by rw [dec_form]; simp
theorem dig_inj (a b : Nat) (ha : a < 10) (hb : b < 10) (h : UInt8.ofNat (48 + a) = UInt8.ofNat (48 + b)) : a = b := by
  have := congrArg UInt8.toNat h
  simp at this
  omega
theorem dec_inj (n : Nat) : ∀ m, Lib.decDigits n = Lib.decDigits m → n = m := by
  induction n using Nat.strongRecOn with
  | _ n ih =>
    intro m h
    rw [dec_form n, dec_form m] at h
    obtain ⟨h1, h2⟩ := List.append_inj' h rfl
    have hd : n % 10 = m % 10 := dig_inj _ _ (Nat.mod_lt _ (by decide)) (Nat.mod_lt _ (by decide)) (by simpa using h2)
    by_cases hn : n < 10
    · by_cases hm : m < 10
      · omega
      · rw [if_pos hn, if_neg hm] at h1
        exact absurd h1.symm (dec_ne _)
    · by_cases hm : m < 10
      · rw [if_neg hn, if_pos hm] at h1
        exact absurd h1 (dec_ne _)
      · rw [if_neg hn, if_neg hm] at h1
        have := ih (n / 10) (by omega) (m / 10) h1
        omega
theorem dec_mem (n : Nat) : ∀ d ∈ Lib.decDigits n, 48 ≤ d.toNat ∧ d.toNat ≤ 57 := by
  induction n using Nat.strongRecOn with
  | _ n ih =>
    intro d hd
    rw [dec_form n, List.mem_append] at hd
    rcases hd with hd | hd
    · by_cases hn : n < 10
      · rw [if_pos hn] at hd; simp at hd
      · rw [if_neg hn] at hd; exact ih (n / 10) (by omega) d hd
    · simp at hd
      subst hd
      have : n % 10 < 10 := Nat.mod_lt _ (by decide)
      simp; omega
theorem itoa_inj (a b : Int) (h : Lib.itoa a = Lib.itoa b) : a = b := by
  unfold Lib.itoa at h
  by_cases ha : a < 0
  · by_cases hb : b < 0
    · rw [if_pos ha, if_pos hb] at h
      have := dec_inj _ _ (List.cons.inj h).2
      omega
    · rw [if_pos ha, if_neg hb] at h
      have := dec_mem b.toNat 45 (by rw [← h]; exact List.mem_cons_self)
      simp at this
  · by_cases hb : b < 0
    · rw [if_neg ha, if_pos hb] at h
      have := dec_mem a.toNat 45 (by rw [h]; exact List.mem_cons_self)
      simp at this
    · rw [if_neg ha, if_neg hb] at h
      have := dec_inj _ _ h
      omega
theorem itoa_mem (a : Int) : ∀ d ∈ Lib.itoa a, d = 45 ∨ 48 ≤ d.toNat ∧ d.toNat ≤ 57 := by
  intro d hd
  unfold Lib.itoa at hd
  split at hd
  · rcases List.mem_cons.1 hd with h | h
    · exact Or.inl h
    · exact Or.inr (dec_mem _ d h)
  · exact Or.inr (dec_mem _ d hd)
theorem itoa_no (a : Int) : (44 : UInt8) ∉ Lib.itoa a ∧ (40 : UInt8) ∉ Lib.itoa a := by
  constructor <;> (intro h; have := itoa_mem a _ h; simp at this)
theorem mn_blank : ∀ k : Fin 65, (32 : UInt8) ∉ mn k.val := by decide +kernel
set_option maxRecDepth 100000 in
theorem mn_inj : ∀ k k' : Fin 65, lay (k.val : Int) ≠ 0 → lay (k'.val : Int) ≠ 0 → mn k.val = mn k'.val → k = k' := by decide +kernel
theorem mn_some : ∀ k : Fin 65, lay (k.val : Int) ≠ 0 → mn k.val ≠ [] := by decide +kernel
/-- What stands behind the name. -/
def tailL (o a b c m : Int) : List UInt8 :=
  if lay o = 1 then 32 :: 114 :: (Lib.itoa a ++ 44 :: 32 :: 114 :: (Lib.itoa b ++ 44 :: 32 :: 114 :: Lib.itoa c))
  else if lay o = 2 then 32 :: 114 :: (Lib.itoa a ++ 44 :: 32 :: 114 :: (Lib.itoa b ++ 44 :: 32 :: Lib.itoa m))
  else if lay o = 3 then 32 :: 114 :: (Lib.itoa a ++ 44 :: 32 :: (Lib.itoa m ++ 40 :: 114 :: (Lib.itoa b ++ [41])))
  else if lay o = 4 then 32 :: 114 :: (Lib.itoa a ++ 44 :: 32 :: Lib.itoa m)
  else []
theorem fmt_list {o a b c m : Int} (h : Ok o a b c m) : (fmtS o a b c m).data.toList = mn o.toNat ++ tailL o a b c m := by
  unfold fmtS tailL
  rw [if_neg (by simpa using h)]
  rcases kind_lay o with k | k | k | k | k | k
  · exact absurd k h.1
  all_goals simp [k, mnS, regS, itoaS]
theorem tail_form {o a b c m : Int} (h : Ok o a b c m) : (lay o = 5 ∧ tailL o a b c m = []) ∨ (lay o ≠ 5 ∧ ∃ t, tailL o a b c m = 32 :: t) := by
  unfold tailL
  rcases kind_lay o with k | k | k | k | k | k
  · exact absurd k h.1
  all_goals simp [k]
theorem fmt_inj {o a b c m o' a' b' c' m' : Int} (h : Ok o a b c m) (h' : Ok o' a' b' c' m') (he : fmtS o a b c m = fmtS o' a' b' c' m') : o = o' ∧ a = a' ∧ b = b' ∧ c = c' ∧ m = m' := by
  have hb := ok_bound h
  have hb' := ok_bound h'
  have e := congrArg (fun s : ByteArray => s.data.toList) he
  simp only [fmt_list h, fmt_list h'] at e
  have n1 := mn_blank ⟨o.toNat, by omega⟩
  have n2 := mn_blank ⟨o'.toNat, by omega⟩
  have hop : mn o.toNat = mn o'.toNat ∧ tailL o a b c m = tailL o' a' b' c' m' := by
    rcases tail_form h with ⟨l1, t1⟩ | ⟨l1, t, t1⟩ <;> rcases tail_form h' with ⟨l2, t2⟩ | ⟨l2, t', t2⟩
    · rw [t1, t2] at e; exact ⟨by simpa using e, by rw [t1, t2]⟩
    · rw [t1, t2] at e; simp only [List.append_nil] at e; exact absurd (by rw [e]; simp) n1
    · rw [t1, t2] at e; simp only [List.append_nil] at e; exact absurd (by rw [← e]; simp) n2
    · rw [t1, t2] at e
      have := split_at 32 _ _ _ _ n1 n2 e
      exact ⟨this.1, by rw [t1, t2, this.2]⟩
  obtain ⟨hn, ht⟩ := hop
  have hoo : o = o' := by
    have l1 : lay ((o.toNat : Nat) : Int) ≠ 0 := by rw [Int.toNat_of_nonneg (by omega)]; exact h.1
    have l2 : lay ((o'.toNat : Nat) : Int) ≠ 0 := by rw [Int.toNat_of_nonneg (by omega)]; exact h'.1
    have := mn_inj ⟨o.toNat, by omega⟩ ⟨o'.toNat, by omega⟩ l1 l2 hn
    have := congrArg Fin.val this
    simp at this
    omega
  subst hoo
  refine ⟨rfl, ?_⟩
  obtain ⟨g0, g1, g2, g3, g4, g5, g6, g7, g8, g9, g10, g11⟩ := h
  obtain ⟨f0, f1, f2, f3, f4, f5, f6, f7, f8, f9, f10, f11⟩ := h'
  have hm1 : lay o = 1 ∨ lay o = 5 → m = 0 ∧ m' = 0 := by
    rcases kind o with k | k | k | k | k | k | k | k | k | k | k <;> obtain ⟨k1, k2, k3, k4, k5⟩ := k <;> omega
  unfold tailL at ht
  rcases kind_lay o with k | k | k | k | k | k
  · exact absurd k g0
  · simp only [k, if_pos, List.cons.injEq, true_and] at ht
    obtain ⟨e1, e2⟩ := split_at 44 _ _ _ _ (itoa_no a).1 (itoa_no a').1 ht
    simp only [List.cons.injEq, true_and] at e2
    obtain ⟨e3, e4⟩ := split_at 44 _ _ _ _ (itoa_no b).1 (itoa_no b').1 e2
    simp only [List.cons.injEq, true_and] at e4
    have := hm1 (Or.inl k)
    exact ⟨itoa_inj _ _ e1, itoa_inj _ _ e3, itoa_inj _ _ e4, by omega⟩
  · rw [if_neg (by omega), if_pos k, if_neg (by omega), if_pos k] at ht
    simp only [List.cons.injEq, true_and] at ht
    obtain ⟨e1, e2⟩ := split_at 44 _ _ _ _ (itoa_no a).1 (itoa_no a').1 ht
    simp only [List.cons.injEq, true_and] at e2
    obtain ⟨e3, e4⟩ := split_at 44 _ _ _ _ (itoa_no b).1 (itoa_no b').1 e2
    simp only [List.cons.injEq, true_and] at e4
    exact ⟨itoa_inj _ _ e1, itoa_inj _ _ e3, by omega, itoa_inj _ _ e4⟩
  · rw [if_neg (by omega), if_neg (by omega), if_pos k, if_neg (by omega), if_neg (by omega), if_pos k] at ht
    simp only [List.cons.injEq, true_and] at ht
    obtain ⟨e1, e2⟩ := split_at 44 _ _ _ _ (itoa_no a).1 (itoa_no a').1 ht
    simp only [List.cons.injEq, true_and] at e2
    obtain ⟨e3, e4⟩ := split_at 40 _ _ _ _ (itoa_no m).2 (itoa_no m').2 e2
    simp only [List.cons.injEq, true_and] at e4
    exact ⟨itoa_inj _ _ e1, itoa_inj _ _ (List.append_cancel_right e4), by omega, itoa_inj _ _ e3⟩
  · rw [if_neg (by omega), if_neg (by omega), if_neg (by omega), if_pos k, if_neg (by omega), if_neg (by omega), if_neg (by omega), if_pos k] at ht
    simp only [List.cons.injEq, true_and] at ht
    obtain ⟨e1, e2⟩ := split_at 44 _ _ _ _ (itoa_no a).1 (itoa_no a').1 ht
    simp only [List.cons.injEq, true_and] at e2
    exact ⟨itoa_inj _ _ e1, by omega, by omega, itoa_inj _ _ e2⟩
  · have := hm1 (Or.inr k)
    exact ⟨by omega, by omega, by omega, by omega⟩
theorem fmt_empty (o a b c m : Int) : fmtS o a b c m = { data := #[] } ↔ ¬ Ok o a b c m := by
  refine ⟨fun he h => ?_, fun h => by unfold fmtS; rw [if_pos h]⟩
  have hb := ok_bound h
  have e := congrArg (fun s : ByteArray => s.data.toList) he
  simp only [fmt_list h] at e
  have hm : mn o.toNat = [] := (List.append_eq_nil_iff.1 (by simpa using e)).1
  have l1 : lay ((o.toNat : Nat) : Int) ≠ 0 := by rw [Int.toNat_of_nonneg (by omega)]; exact h.1
  exact mn_some ⟨o.toNat, by omega⟩ l1 hm
end Go.Proofs.YtamjfbcjenocpaaGreatDoor
