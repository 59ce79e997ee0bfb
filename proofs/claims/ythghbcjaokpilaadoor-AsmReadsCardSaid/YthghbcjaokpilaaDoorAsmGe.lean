import Derived.Test.YthghbcjaokpilaaDoorAsmFn19
import Derived.Test.YthghbcjaokpilaaDoorAsmGg
import Derived.Lib.Hide
import Derived.Deep.QuietTactic
import Derived.BigQuiet
namespace Go.Proofs.YthghbcjaokpilaaDoor
set_option linter.unusedVariables false
set_option linter.unusedSimpArgs false
open Go.ChangeShapes Go.WideShapes Go.ChangeAt Go.RowKit Go.Proofs.YthghbcjaokpilaaDoor.Num Go.Proofs.YthghbcjaokpilaaDoor.Isa Go.Proofs.YthghbcjaokpilaaDoor.Mem Go.Proofs.YthghbcjaokpilaaDoor.Asm
/-- What a walk is told of a slice of words that came in. -/
def IsRowK (k : IntKind) (w : World) (a : Option Addr) (len cap : Nat) (zs : List Int) : Prop :=
  (a = none ∧ len = 0 ∧ cap = 0 ∧ zs = []) ∨
  ∃ x, a = some x ∧ len ≤ cap ∧ cap ≤ maxLen ∧ zs.length = cap ∧ (∀ i, i < zs.length → w.cell? (x.add i) = some (.int k (zs.getD i 0))) ∧ ∀ n ∈ zs, (Lit.int k n).wf = true
def IsRowI := IsRowK .i64
def IsRowW := IsRowK .u32
/-- The slice a, len reads as the numbers zs. -/
def Row (k : IntKind) (w : World) (a : Option Addr) (zs : List Int) : Prop := ∀ i, i < zs.length → ∃ b off, a = some ⟨b, off, none⟩ ∧ w.cell? ⟨b, off + i, none⟩ = some (.int k (zs.getD i 0))
theorem Row.on {k : IntKind} {w w' : World} {a : Option Addr} {zs : List Int} (h : Row k w a zs) (hb : Below w.heap.size w w') : Row k w' a zs := fun i hi => by
  obtain ⟨b, off, h1, h2⟩ := h i hi
  exact ⟨b, off, h1, still h2 hb⟩
theorem row_of {k : IntKind} {w : World} {a : Option Addr} {len cap : Nat} {zs : List Int} (h : IsRowK k w a len cap zs) : ∃ ws : List Int, ws.length = len ∧ len ≤ cap ∧ Row k w a ws ∧ ∀ n ∈ ws, (Lit.int k n).wf = true := by
  rcases h with ⟨rfl, rfl, rfl, rfl⟩ | ⟨x, rfl, hl, hm, hz, hc, hw⟩
  · exact ⟨[], rfl, Nat.le_refl _, fun i hi => absurd hi (by simp), by simp⟩
  · refine ⟨zs.take len, by rw [List.length_take]; omega, hl, fun i hi => ?_, fun n hn => hw n (List.mem_of_mem_take hn)⟩
    rw [List.length_take] at hi
    obtain ⟨b, off, spot⟩ := x
    have c0 := hc i (by omega)
    have hspot : spot = none := by
      have := World.cell?_spot (hc 0 (by omega))
      exact this
    subst hspot
    have e : (zs.take len).getD i 0 = zs.getD i 0 := by
      have h2 : i < len := by omega
      simp [List.getD, h2]
    exact ⟨b, off, rfl, by rw [e, ← Go.WideShapes.add_plain]; exact c0⟩
/-- The number that At gives. -/
def atZ (zs : List Int) (i : Nat) : Int := if zs.length = 0 then 0 else zs.getD (i % zs.length) 0
theorem round_nat (n k : Nat) (w : World) (hk : 1 ≤ k) (hk' : k ≤ 9223372036854775807) (h1 : n ≤ 1000000) :
    Calls Tryd.prog 8 #[.int .i64 n, .int .i64 k] w fun e w' => e = .returned (.int .i64 ((n % k : Nat) : Int)) ∧ ∃ m, w' = w.drewN m := by
  have hz : ¬ (k : Int) = 0 := by omega
  have e1 : (n : Int).tmod k = ((n % k : Nat) : Int) := by rw [← Int.ofNat_tmod]
  obtain ⟨q, hq⟩ : ∃ q, n % k = q := ⟨_, rfl⟩
  have hql : q < k := by rw [← hq]; exact Nat.mod_lt _ hk
  rw [hq] at e1 ⊢
  clear hq
  go_enter Tryd.func8, Tryd.ntmps8
  go_wp2
  go_ret
  exact ⟨rfl, 0, rfl⟩
end Go.Proofs.YthghbcjaokpilaaDoor

namespace Go.Proofs.YthghbcjaokpilaaDoor
set_option linter.unusedVariables false
set_option linter.unusedSimpArgs false
open Go.ChangeShapes Go.WideShapes Go.ChangeAt Go.RowKit Go.Proofs.YthghbcjaokpilaaDoor.Num Go.Proofs.YthghbcjaokpilaaDoor.Isa Go.Proofs.YthghbcjaokpilaaDoor.Mem Go.Proofs.YthghbcjaokpilaaDoor.Asm
def wd (l : List Int) (i : Nat) : Int := l.getD i 0
/-- The first k words are alike. -/
def Alike (l r : List Int) (k : Nat) : Prop := ∀ j, j < k → wd l j = wd r j
theorem alike_all {l r : List Int} (h : l.length = r.length) (ha : Alike l r l.length) : l = r := by
  apply List.ext_getElem h
  intro i h1 h2
  have := ha i h1
  simpa [wd, List.getD, h1, h2] using this
theorem same_no (A B : Option Addr) (n m c d : Nat) (w : World) (h : ¬ n = m) :
    Calls Tryd.prog 13 #[.slice A n c, .slice B m d] w fun e w' => e = .returned (.bool false) ∧ ∃ q, w' = w.drewN q := by
  have h' : ¬ (n : Int) = m := by omega
  go_enter Tryd.func13, Tryd.ntmps13
  go_wp2
  all_goals go_ret
  exact ⟨rfl, 0, rfl⟩
theorem same_yes (A B : Option Addr) (n c d : Nat) (l r : List Int) (w : World) (hn : n ≤ 9223372036854775806) (hl1 : l.length = n) (hr1 : r.length = n) (hl : Row .u32 w A l) (hr : Row .u32 w B r) :
    Calls Tryd.prog 13 #[.slice A n c, .slice B n d] w fun e w' => e = .returned (.bool (decide (l = r))) ∧ ∃ q, w' = w.drewN q := by
  have HL := Lib.hid hl
  have HR := Lib.hid hr
  have HLN := Lib.hid hl1
  have HRN := Lib.hid hr1
  obtain ⟨bb, hbb⟩ : ∃ bb, Hid (decide (l = r) = bb) := ⟨_, rfl⟩
  rw [hbb.out]
  clear hl hr hl1 hr1
  go_enter Tryd.func13, Tryd.ntmps13
  go_wp2
  go_loopw [5] (fun i wr => ∃ k q : Nat, k ≤ n ∧ i = .int .i64 k ∧ wr = w.drewN q ∧ Hid (Alike l r k)) (fun i _ => n - (intOf i).toNat)
  case atStart => exact ⟨0, 0, Nat.zero_le _, rfl, rfl, (fun j hj => absurd hj (Nat.not_lt_zero _) : Alike l r 0)⟩
  case round =>
    obtain ⟨k, q, hk, rfl, rfl, ha⟩ := hrel
    by_cases hlt : k < n
    · obtain ⟨b, off, rfl, hc1⟩ := HL.out k (by rw [HLN.out]; exact hlt)
      obtain ⟨b2, off2, rfl, hc2⟩ := HR.out k (by rw [HRN.out]; exact hlt)
      have HA : ∀ x y, l.getD k 0 = x → r.getD k 0 = y → Hid (wd l k = x ∧ wd r k = y) := fun x y h1 h2 => ⟨h1, h2⟩
      generalize hx : l.getD k 0 = x at hc1
      generalize hy : r.getD k 0 = y at hc2
      replace HA := HA x y hx hy
      clear hx hy
      by_cases hxy : x = y
      · subst hxy
        go_wp2
        go_quiet (fail)
        go_wp2
        go_roundw
        case rel => exact ⟨k + 1, _, by omega, by go_num, rfl, (fun j hj => by
          by_cases e : j = k
          · subst e; rw [HA.out.1, HA.out.2]
          · exact ha.out j (by omega) : Alike l r (k + 1))⟩
        case measure => simp [intOf]; omega
      · have hne : decide (l = r) = false := by
          refine decide_eq_false fun e => hxy ?_
          rw [← HA.out.1, ← HA.out.2, e]
        have HNE := Lib.hid hne
        clear hne
        have hxy' : (x != y) = true := by simpa using hxy
        go_wp2
        go_quiet (fail)
        go_wp2
        go_ret
        exact ⟨ret_bool (by rw [← hbb.out]; exact HNE.out.symm), _, World.drewN_drewN _ _ _⟩
    · obtain rfl : n = k := by omega
      have he : decide (l = r) = true := decide_eq_true (alike_all (by rw [HLN.out, HRN.out]) (by rw [HLN.out]; exact ha.out))
      have HE := Lib.hid he
      clear he
      go_wp2
      go_ret
      exact ⟨ret_bool (by rw [← hbb.out]; exact HE.out.symm), _, rfl⟩
theorem same_any (A B : Option Addr) (n m c d : Nat) (l r : List Int) (w : World) (hn : n ≤ 9223372036854775806) (hl1 : l.length = n) (hr1 : r.length = m) (hl : Row .u32 w A l) (hr : Row .u32 w B r) :
    Calls Tryd.prog 13 #[.slice A n c, .slice B m d] w fun e w' => e = .returned (.bool (decide (l = r))) ∧ ∃ q, w' = w.drewN q := by
  by_cases h : n = m
  · subst h; exact same_yes A B n c d l r w hn hl1 hr1 hl hr
  · have hne : decide (l = r) = false := decide_eq_false fun e => h (by rw [← hl1, ← hr1, e])
    rw [hne]
    exact same_no A B n m c d w h
/-- What the assembler gives reads as a row. -/
theorem row_own {w : World} {base : Nat} {A : Option Addr} {n cap : Nat} {l : List Int} (h : w.ownsRow base 34 1 (.slice A n cap) n (l.map u32V)) : Row .u32 w A l := by
  intro i hi
  have hl := h.1
  rw [List.length_map] at hl
  rcases h.2 with ⟨_, h0⟩ | ⟨g, cap', cur, h1, _⟩
  · omega
  · injection h1 with h1 _ _
    subst h1
    refine ⟨g, 0, rfl, ?_⟩
    have := h.cellAt i (by omega)
    rw [Nat.zero_add, this, List.getElem?_map]
    simp [u32V, List.getD, hi]
end Go.Proofs.YthghbcjaokpilaaDoor
