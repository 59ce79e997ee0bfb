import Derived.Test.YtackgjmmeojpiaaPmFn4
import Derived.Deep.QuietTactic
import Derived.BigQuiet
namespace Go.Proofs.Ytackgjmmeojpiaa
set_option linter.unusedVariables false
set_option linter.unusedSimpArgs false
open Go.ChangeShapes Go.WideShapes Go.ChangeAt Go.RowKit Go.Proofs.Ytackgjmmeojpiaa.Num Go.Proofs.Ytackgjmmeojpiaa.Mem
/-- The first k words are alike. -/
def Alike (l r : List Int) (k : Nat) : Prop := ∀ j, j < k → wd l j = wd r j
theorem alike_all {l r : List Int} (h : l.length = r.length) (ha : Alike l r l.length) : l = r := by
  apply List.ext_getElem h
  intro i h1 h2
  have := ha i h1
  simpa [wd, List.getD, h1, h2] using this
theorem same_no (A B : Option Addr) (n m c d : Nat) (w : World) (h : ¬ n = m) (hn : n ≤ 1024) (hm : m ≤ 1024) :
    Calls Try.prog 10 #[.slice A n c, .slice B m d] w fun e w' => e = .returned (.bool false) ∧ ∃ q, w' = w.drewN q := by
  have h' : ¬ (n : Int) = m := by omega
  go_enter Try.func10, Try.ntmps10
  go_wp2
  all_goals go_ret
  exact ⟨rfl, 0, rfl⟩
theorem same_yes (A B : Option Addr) (n c d : Nat) (l r : List Int) (w : World) (hl : Mem w A n c l) (hr : Mem w B n d r) :
    Calls Try.prog 10 #[.slice A n c, .slice B n d] w fun e w' => e = .returned (.bool (decide (l = r))) ∧ ∃ q, w' = w.drewN q := by
  have hn := hl.2.2.1
  have HL := Lib.hid hl
  have HR := Lib.hid hr
  obtain ⟨bb, hbb⟩ : ∃ bb, Hid (decide (l = r) = bb) := ⟨_, rfl⟩
  rw [hbb.out]
  clear hl hr
  go_enter Try.func10, Try.ntmps10
  go_wp2
  go_loopw [5] (fun i wr => ∃ k q : Nat, k ≤ n ∧ i = .int .i64 k ∧ wr = w.drewN q ∧ Hid (Alike l r k)) (fun i _ => n - (intOf i).toNat)
  case atStart => exact ⟨0, 0, Nat.zero_le _, rfl, rfl, (fun j hj => absurd hj (Nat.not_lt_zero _) : Alike l r 0)⟩
  case round =>
    obtain ⟨k, q, hk, rfl, rfl, ha⟩ := hrel
    by_cases hlt : k < n
    · obtain ⟨b, off, rfl, hc1, x0, x1⟩ := HL.out.at_ hlt
      obtain ⟨b2, off2, rfl, hc2, y0, y1⟩ := HR.out.at_ hlt
      have HA : ∀ x y, wd l k = x → wd r k = y → Hid (wd l k = x ∧ wd r k = y) := fun x y h1 h2 => ⟨h1, h2⟩
      generalize hx : wd l k = x at hc1 x0 x1
      generalize hy : wd r k = y at hc2 y0 y1
      replace HA := HA x y hx hy
      clear hx hy
      by_cases hxy : x = y
      · subst hxy
        go_wp2
        go_quiet (fail)
        go_wp2
        go_roundw
        case rel => exact ⟨k + 1, _, by omega, by go_num, rfl, (fun j hj => by
          by_cases e : j = k
          · subst e; rw [HA.out.1, HA.out.2]
          · exact ha.out j (by omega) : Alike l r (k + 1))⟩
        case measure => simp [intOf]; omega
      · have hne : decide (l = r) = false := by
          refine decide_eq_false fun e => hxy ?_
          rw [← HA.out.1, ← HA.out.2, e]
        have HNE := Lib.hid hne
        clear hne
        have hxy' : (x != y) = true := by simpa using hxy
        go_wp2
        go_quiet (fail)
        go_wp2
        go_ret
        exact ⟨ret_bool (by rw [← hbb.out]; exact HNE.out.symm), _, World.drewN_drewN _ _ _⟩
    · obtain rfl : n = k := by omega
      have he : decide (l = r) = true := decide_eq_true (alike_all (by rw [HL.out.1, HR.out.1]) (by rw [HL.out.1]; exact ha.out))
      have HE := Lib.hid he
      clear he
      go_wp2
      go_ret
      exact ⟨ret_bool (by rw [← hbb.out]; exact HE.out.symm), _, rfl⟩
theorem same_any (A B : Option Addr) (n m c d : Nat) (l r : List Int) (w : World) (hl : Mem w A n c l) (hr : Mem w B m d r) :
    Calls Try.prog 10 #[.slice A n c, .slice B m d] w fun e w' => e = .returned (.bool (decide (l = r))) ∧ ∃ q, w' = w.drewN q := by
  by_cases h : n = m
  · subst h; exact same_yes A B n c d l r w hl hr
  · have hne : decide (l = r) = false := decide_eq_false fun e => h (by rw [← hl.1, ← hr.1, e])
    rw [hne]
    exact same_no A B n m c d w h hl.2.2.1 hr.2.2.1
theorem awake_num : okB 32 5 1 = true ∧ okB 32 4 4 = true ∧ ldV (stV (zs 32) 5 1 511) 4 4 = 65280 ∧ pagesN 32 = 1 := by decide +kernel
/-- What a load gives, and what a made memory is. -/
def ldR (n : Nat) (l : List Int) (a size : Int) : Int := if okB n a size = true then ldV l a size else 0
def newL (p : Int) : List Int := if 1 ≤ p ∧ p ≤ 32 then zs (32 * p.toNat) else []
theorem same_refl (A B : Option Addr) (n c d : Nat) (l : List Int) (w : World) (hl : Mem w A n c l) (hr : Mem w B n d l) :
    Calls Try.prog 10 #[.slice A n c, .slice B n d] w fun e w' => e = .returned (.bool true) ∧ ∃ q, w' = w.drewN q :=
  (same_yes A B n c d l l w hl hr).mono fun e w' ⟨he, hw⟩ => ⟨by rw [he]; simp, hw⟩
theorem below_more {B m : Nat} {a w : World} (h : Below B a (w.drewN m)) (k : Nat) : Below B a (w.drewN (m + k)) := ⟨h.os, h.tape, h.output, h.size, h.block⟩
/-- A slice of words. -/
def Gives (n : Nat) (l : List Int) (w : World) (e : Ending) (w' : World) : Prop := (∃ A c, e = .returned (.slice A n c) ∧ Mem w' A n c l) ∧ Below w.heap.size w w'
theorem new_gives {p : Int} {w w' : World} {e : Ending} (h : NewPost p w e w') : Gives (newL p).length (newL p) w e w' := by
  obtain ⟨⟨A, c, l, he, hl, hm, _⟩, hb⟩ := h
  have e2 : l = newL p := hl
  subst e2
  exact ⟨⟨A, c, he, hm⟩, hb⟩
/-- A slice of words and a truth. -/
def Gives2 (n : Nat) (l : List Int) (b : Bool) (w : World) (e : Ending) (w' : World) : Prop := (∃ A c, e = .returned (.tuple #[.slice A n c, .bool b]) ∧ Mem w' A n c l) ∧ Below w.heap.size w w'
def stR (n : Nat) (l : List Int) (a size v : Int) : List Int := if okB n a size = true then stV l a size v else l
end Go.Proofs.Ytackgjmmeojpiaa
