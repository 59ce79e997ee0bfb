import Derived.Test.YtleljcpljhpoaaaPgLawW
import Derived.Maps.OwnOps
import Derived.OneCell
namespace Go.Proofs.Ytleljcpljhpoaaa
set_option linter.unusedVariables false
set_option linter.unusedSimpArgs false
open Go.ChangeShapes Go.WideShapes Go.ChangeAt Go.RowKit Go.Proofs.Ytleljcpljhpoaaa.Num Go.Proofs.Ytleljcpljhpoaaa.Mem
/-- Mappings: the page, the frame, the flags. -/
abbrev Mp := Int × Int × Int
def mC (m : Mp) : List Value := [.int .u32 m.1, .int .u32 m.2.1, .int .u32 m.2.2]
def flatM (l : List Mp) : List Value := l.flatMap mC
theorem flatM_len (l : List Mp) : (flatM l).length = l.length * 3 := by
  induction l with
  | nil => rfl
  | cons d ds ih => simp only [flatM, List.flatMap_cons, List.length_append] at ih ⊢; rw [ih]; simp [mC]; omega
theorem flatM_snoc (l : List Mp) (d : Mp) : flatM (l ++ [d]) = flatM l ++ mC d := by simp [flatM]
def enM (x : Int) (p : Nat) : List Mp := if x % 2 = 1 then [((p : Int), frW x, x % 32)] else []
/-- The mappings of the first k pages. -/
def lsK (l : List Int) (r k : Nat) : List Mp := (List.range k).flatMap fun p => enM (wd l (32 * r + p)) p
theorem lsK_succ (l : List Int) (r k : Nat) : lsK l r (k + 1) = lsK l r k ++ enM (wd l (32 * r + k)) k := by
  unfold lsK; rw [List.range_succ, List.flatMap_append]; simp
theorem enM_len (x : Int) (p : Nat) : (enM x p).length ≤ 1 := by unfold enM; split <;> simp
theorem lsK_len (l : List Int) (r k : Nat) : (lsK l r k).length ≤ k := by
  induction k with
  | zero => simp [lsK]
  | succ k ih => rw [lsK_succ, List.length_append]; have := enM_len (wd l (32 * r + k)) k; omega
/-- What a page table lists. -/
def lsL (n : Nat) (l : List Int) (root : Int) : List Mp := if root < pagesN n then lsK l root.toNat 32 else []
theorem info_map : (Try.prog.info? 45).map (fun i => (i.zero, i.size, i.bytes)) = some (some (.agg #[.int .u32 0, .int .u32 0, .int .u32 0]), 3, 12) := by kernel_rfl
theorem new_cells9 (w : World) (xs : List Value) (T : TypeId) : ∀ j u, xs[j]? = some u → (w.alloc (.cells xs.toArray T)).cell? ((⟨w.heap.size, 0, none⟩ : Addr).add j) = some u := by
  intro j u h
  rw [add_plain, World.cell?_alloc_at _ _ _ _ rfl]
  simpa using h
theorem new_cells (w : World) (xs : List Value) (T : TypeId) (g : Nat) (hg : g = w.heap.size) : ∀ j u, xs[j]? = some u → (w.alloc (.cells xs.toArray T)).cell? ((⟨g, 0, none⟩ : Addr).add j) = some u := by
  subst hg; exact new_cells9 w xs T
theorem one_mp (s : Mp) : ∀ u ∈ mC s, u.oneCell' = true := by simp [mC, Value.oneCell']
theorem own_row_eq {w : World} {base : Nat} {e : TypeId} {size : Nat} {v : Value} {n n' : Nat} {xs xs' : List Value} (h : w.ownsRow base e size v n xs) (hn : n = n') (hx : xs = xs') : w.ownsRow base e size v n' xs' := by subst hn; subst hx; exact h
theorem own_below {w w' : World} {base : Nat} {e : TypeId} {size : Nat} {v : Value} {n : Nat} {xs : List Value} (h : w.ownsRow base e size v n xs) (hb : Below w.heap.size w w') : w'.ownsRow base e size v n xs := by
  refine ⟨h.1, ?_⟩
  rcases h.2 with h | ⟨g, cap, cur, h1, h2, h3, h4⟩
  · exact Or.inl h
  · exact Or.inr ⟨g, cap, cur, h1, h2, by rw [hb.block g (Array.getElem?_eq_some_iff.1 h3).1]; exact h3, h4⟩
theorem own_drewN {w : World} {base : Nat} {e : TypeId} {size : Nat} {v : Value} {n : Nat} {xs : List Value} (h : w.ownsRow base e size v n xs) (m : Nat) : (w.drewN m).ownsRow base e size v n xs := h
theorem own_base {w : World} {base base' : Nat} {e : TypeId} {size : Nat} {v : Value} {n : Nat} {xs : List Value} (h : w.ownsRow base e size v n xs) (hb : base' ≤ base) : w.ownsRow base' e size v n xs := by
  refine ⟨h.1, ?_⟩
  rcases h.2 with h | ⟨g, cap, cur, h1, h2, h3⟩
  · exact Or.inl h
  · exact Or.inr ⟨g, cap, cur, h1, by omega, h3⟩
/-- A slice of mappings of the call's own. -/
abbrev Maps (w w' : World) (v : Value) (ms : List Mp) : Prop := w'.ownsRow w.heap.size 45 3 v ms.length (flatM ms)
def Lists (ms : List Mp) (w : World) (e : Ending) (w' : World) : Prop := (∃ v, e = .returned v ∧ Maps w w' v ms) ∧ Below w.heap.size w w'
set_option maxRecDepth 100000 in
set_option maxHeartbeats 2000000 in
theorem listr_near (A : Option Addr) (n c r : Nat) (l : List Int) (w : World) (hm : Mem w A n c l) (hr : r < pagesN n) :
    Calls Try.prog 22 #[.slice A n c, .int .u32 r] w (Lists (lsK l r 32) w) := by
  have hn := hm.2.2.1
  have hp := pagesN_le n
  have hu := hm.2.2.2.1
  have hd : decide (pagesN n ≤ r) = false := decide_eq_false (by omega)
  obtain ⟨i0, hi, hz0, hz1, hz2⟩ := info_parts info_map
  have HM := Lib.hid hm
  have HU := Lib.hid hu
  clear hm hu
  go_enter Try.func22, Try.ntmps22
  go_wp2_with (go_at_call 24; refine (pages_ref _ _ _ _ (by omega)).mono ?_; rintro e w2 ⟨rfl, m2, rfl⟩)
  go_loopw [5, 6] (fun v p wr => ∃ k : Nat, k ≤ 32 ∧ p = .int .u32 k ∧ Maps w wr v (lsK l r k) ∧ Below w.heap.size w wr) (fun _ p _ => 32 - (intOf p).toNat)
  case atStart => exact ⟨0, by omega, rfl, World.ownsRow_nil _ _ _ _, below_drewN (Below.refl _ _) _⟩
  case round =>
    obtain ⟨k, hk, rfl, hown, hbw⟩ := hrel
    have HBW := Lib.hid hbw
    have HO := Lib.hid hown
    clear hbw hown
    by_cases hlt : k < 32
    · obtain ⟨b, off, hA, hcell, x0, x1⟩ := (HM.out.on HBW.out).at_ (k := 32 * r + k) (by omega)
      subst hA
      have hdv : (r : Int) * 32 + (k : Int) = ((32 * r + k : Nat) : Int) := by omega
      have hbl := block_of hcell
      have HLS := Lib.hid (lsK_succ l r k)
      have hlk := lsK_len l r k
      generalize wd l (32 * r + k) = x at *
      have q1 := and_1 x x0 x1
      have q3 := and_31 x x0 x1
      have q8 : bits .and .u32 (x / 256) 255 = frW x := (and_ff (x / 256) (by omega) (by omega)).trans rfl
      have hfr : 0 ≤ frW x ∧ frW x ≤ 255 := by unfold frW; omega
      by_cases hv : x % 2 = 1
      · have he : Hid (enM x k = [((k : Int), frW x, x % 32)]) := by show _ = _; unfold enM; rw [if_pos hv]
        have q1' : (bits .and .u32 x 1 != 0) = true := by rw [q1]; simp; omega
        clear q1
        go_wp2_with (at_builtin; refine wpList_append_own _ rfl _ _ 37 rfl w.heap.size 45 i0 _ 3 12 Try.underlying37 hi hz0 hz1 hz2 rfl (by decide) _ _ _ rfl (HO.out.alloc _) ⟨_, 0, none⟩ 1 1 (mC ((k : Int), frW x, x % 32)) rfl rfl (new_cells _ _ _ _ rfl) (one_mp _) (by unfold maxLen; omega) (by omega) (by have := HBW.out.size; simp; omega) ?_)
        intro v4 w4 hown4 hgrow4 _
        have HO4 : Hid (Maps w w4 v4 (lsK l r (k + 1))) := by
          show Maps _ _ _ _
          rw [HLS.out, he.out]
          exact own_row_eq hown4 (by simp) (flatM_snoc _ _).symm
        have HB4 := Lib.hid (show Below w.heap.size w w4 from (HBW.out.alloc HBW.out.size _).grown hgrow4 (by have := HBW.out.size; simp; omega) (fun k hk => (HO.out.lt k hk).1))
        clear hown4 hgrow4
        go_wp2
        go_roundw
        case rel => exact ⟨k + 1, by omega, by go_num, HO4.out, HB4.out⟩
        case measure => simp [intOf]; omega
      · have he : Hid (enM x k = []) := by show _ = _; unfold enM; rw [if_neg hv]
        have q1' : (bits .and .u32 x 1 != 0) = false := by rw [q1]; simp; omega
        clear q1
        go_wp2
        go_roundw
        case rel => exact ⟨k + 1, by omega, by go_num, by rw [HLS.out, he.out, List.append_nil]; exact HO.out, HBW.out⟩
        case measure => simp [intOf]; omega
    · obtain rfl : k = 32 := by omega
      go_wp2
      go_ret
      exact ⟨⟨_, rfl, HO.out⟩, HBW.out⟩
theorem list_ref (A : Option Addr) (n c : Nat) (l : List Int) (root : Int) (w : World) (hm : Mem w A n c l) (r0 : 0 ≤ root) :
    Calls Try.prog 22 #[.slice A n c, .int .u32 root] w (Lists (lsL n l root) w) := by
  by_cases h : root < pagesN n
  · obtain ⟨r, rfl⟩ := nat_of r0
    have e : lsL n l r = lsK l r 32 := by unfold lsL; rw [if_pos h]; rfl
    rw [e]
    exact listr_near A n c r l w hm (by omega)
  · have e : lsL n l root = [] := by unfold lsL; rw [if_neg h]
    have hn := hm.2.2.1
    have hp := pagesN_le n
    rw [e]
    clear hm
    go_enter Try.func22, Try.ntmps22
    go_wp2_with (go_at_call 24; refine (pages_ref _ _ _ _ (by omega)).mono ?_; rintro e w2 ⟨rfl, m2, rfl⟩)
    go_ret
    exact ⟨⟨_, rfl, World.ownsRow_nil _ _ _ _⟩, below_drewN (Below.refl _ _) _⟩
end Go.Proofs.Ytleljcpljhpoaaa
