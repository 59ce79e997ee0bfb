import Derived.Test.YthghbcjaokpilaaDoorAsmFn5
import Derived.Test.YthghbcjaokpilaaDoorAsmTab
namespace Go.Proofs.YthghbcjaokpilaaDoor
set_option linter.unusedVariables false
set_option linter.unusedSimpArgs false
open Go.ChangeShapes Go.WideShapes Go.ChangeAt Go.RowKit Go.Proofs.YthghbcjaokpilaaDoor.Num Go.Proofs.YthghbcjaokpilaaDoor.Mem Go.Proofs.YthghbcjaokpilaaDoor.Asm
/-- The label of a line, and the tokens of its statement. -/
def labelL : List Bs → Option (Bs × List Bs)
  | t0 :: t1 :: rest => if t1 = [58] then (if nameB t0 = true then some (t0, rest) else none) else some ([], t0 :: t1 :: rest)
  | ts => some ([], ts)
/-- A slice that reads as tokens. -/
def Toks (w : World) (v : Value) (ts : List Bs) : Prop :=
  (ts = [] ∧ ∃ oa cap, v = .slice oa 0 cap) ∨ ∃ b off cap, v = .slice (some ⟨b, off, none⟩) ts.length cap ∧ ts.length ≤ cap ∧ ∀ j (h : j < ts.length), w.cell? ⟨b, off + j, none⟩ = some (.string (S ts[j]))
theorem Toks.on {w w' : World} {v : Value} {ts : List Bs} (h : Toks w v ts) (hb : Below w.heap.size w w') : Toks w' v ts := by
  rcases h with h | ⟨b, off, cap, h1, h3, h2⟩
  · exact Or.inl h
  · exact Or.inr ⟨b, off, cap, h1, h3, fun j hj => still (h2 j hj) hb⟩
theorem Toks.of {w : World} {base : Nat} {v : Value} {ts : List Bs} (h : w.ownsRow base 9 1 v ts.length (ts.map strV)) : Toks w v ts := by
  rcases h.2 with ⟨h1, h2⟩ | ⟨g, cap, cur, rfl, hg, hh, hcap, hc⟩
  · exact Or.inl ⟨List.eq_nil_of_length_eq_zero h2, none, 0, by rw [h1]⟩
  · refine Or.inr ⟨g, 0, cap, rfl, hcap, fun j hj => ?_⟩
    have := h.cellAt j (by omega)
    rw [Nat.zero_add, this, List.getElem?_map, List.getElem?_eq_getElem hj]; rfl
def LabelPost (r : Option (Bs × List Bs)) (w : World) (e : Ending) (w' : World) : Prop :=
  (match r with
  | none => e = .returned (.tuple #[.string { data := #[] }, .slice none 0 0, .bool false])
  | some (lab, rest) => ∃ v, e = .returned (.tuple #[.string (S lab), v, .bool true]) ∧ Toks w v rest) ∧ ∃ m, w' = w.drewN m
theorem label_some {lab : Bs} {rest : List Bs} {w w' : World} {m : Nat} {v : Value} {s : ByteArray} (hs : s = S lab) (hw : w' = w.drewN m) (h : Toks w v rest) : LabelPost (some (lab, rest)) w (.returned (.tuple #[.string s, v, .bool true])) w' :=
  ⟨⟨v, by rw [hs], h⟩, m, hw⟩
theorem sizeStr (w : World) : (sizeOf (Tryd.prog.elem 40)).run Tryd.prog w = .ok 1 w := by kernel_rfl
theorem elemStr : Tryd.prog.underlying 40 = some (.slice (Tryd.prog.elem 40)) := by kernel_rfl
theorem tail_slice (b off n cap k : Nat) (h : k ≤ n) (hcap : n ≤ cap) : ∃ oa : Addr, (k < n → oa = ⟨b, off + k, none⟩) ∧ ∀ W : World, (Instr.slice 40 (.slice (some ⟨b, off, none⟩) n cap) (some (.int .i64 (k : Int))) none none).run Tryd.prog W = .ok (.slice (some oa) (n - k) (cap - k)) W := by
  by_cases hk : k < cap
  · refine ⟨⟨b, off + k, none⟩, fun _ => rfl, fun W => ?_⟩
    rw [run_slice_l W 40 (some ⟨b, off, none⟩) n cap elemStr .i64 (k : Int) (by omega) (by omega), sizeStr]
    simp [Result.andThen, sliced, Addr.add]
    rw [if_neg (by omega)]
    by_cases h0 : k = 0
    · simp [h0]
    · rw [if_neg h0]
  · refine ⟨⟨b, off, none⟩, fun h => absurd h (by omega), fun W => ?_⟩
    rw [run_slice_l W 40 (some ⟨b, off, none⟩) n cap elemStr .i64 (k : Int) (by omega) (by omega), sizeStr]
    simp [Result.andThen, sliced]
    intro h'; omega
theorem label_asm (v : Value) (ts : List Bs) (w : World) (h : Toks w v ts) (hne : ∀ t ∈ ts, t ≠ []) (hl : ts.length ≤ 1000000) : Calls Tryd.prog 42 #[v] w (LabelPost (labelL ts) w) := by
  match ts, h with
  | [], h =>
    have h' := h
    rcases h with ⟨_, oa, cap, rfl⟩ | ⟨b, off, cap, rfl, hcap, hc⟩
    · go_enter Tryd.func42, Tryd.ntmps42
      go_wp2
      go_ret3
      exact label_some (m := 0) rfl rfl h'
    · go_enter Tryd.func42, Tryd.ntmps42
      go_wp2
      go_ret3
      exact label_some (m := 0) rfl rfl h'
  | [t0], h =>
    have h' := h
    rcases h with ⟨h, _⟩ | ⟨b, off, cap, rfl, hcap, hc⟩
    · cases h
    · go_enter Tryd.func42, Tryd.ntmps42
      go_wp2
      go_ret3
      exact label_some (m := 0) rfl rfl h'
  | t0 :: t1 :: rest, h =>
    have h' := h
    rcases h with ⟨h, _⟩ | ⟨b, off, cap, rfl, hcap, hc⟩
    · cases h
    · have c0 : w.cell? ⟨b, off, none⟩ = some (.string (S t0)) := hc 0 (by simp)
      have c1 : w.cell? ⟨b, off + 1, none⟩ = some (.string (S t1)) := hc 1 (by simp)
      have HN := Lib.hid hne
      have HC := Lib.hid hc
      have H' := Lib.hid h'
      clear hne hc h'
      have hq2 : 2 ≤ rest.length + 1 + 1 := by omega
      by_cases h1 : t1 = [58]
      · have hq : ((S t1).toList == [58]) = true := by rw [toL, S_list, h1]; rfl
        have h0 := HN.out t0 (by simp)
        have hname := fun W => name_asm (S t0) W (S_pos h0)
        cases hnm : nameB t0 with
        | true =>
          have hl2 : labelL (t0 :: t1 :: rest) = some (t0, rest) := by simp [labelL, h1, hnm]
          rw [hl2]
          clear hl2 h1 h
          rw [S_list, hnm] at hname
          go_enter Tryd.func42, Tryd.ntmps42
          go_wp2_with (go_at_call 53; (with_reducible refine (hname _).mono ?_); rintro e w' ⟨rfl, rfl⟩)
          go_quiet (fail)
          go_wp2
          all_goals go_ret3
          all_goals refine label_some rfl rfl ?_
          · cases hrs : rest with
            | nil => exact Or.inl ⟨rfl, _, _, rfl⟩
            | cons r0 rs =>
              exfalso
              have hc2 := hcap
              rw [hrs] at hc2
              have : cap = 2 := by assumption
              simp at hc2; omega
          · cases hrs : rest with
            | nil => exact Or.inl ⟨rfl, _, _, rfl⟩
            | cons r0 rs =>
              refine Or.inr ⟨b, off + 2, cap - 2, by rw [← hrs]; rfl, ?_, fun j hj => ?_⟩
              · have := hcap; rw [hrs] at this; simp at this ⊢; omega
              · have := HC.out (j + 2) (by rw [hrs]; simp at hj ⊢; omega)
                rw [show off + 2 + j = off + (j + 2) by omega, this]
                simp [hrs]
        | false =>
          have hl2 : labelL (t0 :: t1 :: rest) = none := by simp [labelL, h1, hnm]
          rw [hl2]
          clear hl2 h1 h
          rw [S_list, hnm] at hname
          go_enter Tryd.func42, Tryd.ntmps42
          go_wp2_with (go_at_call 53; (with_reducible refine (hname _).mono ?_); rintro e w' ⟨rfl, rfl⟩)
          go_ret3
          exact ⟨rfl, 0, rfl⟩
      · have hq : ((S t1).toList == [58]) = false := by rw [toL, S_list]; simpa using h1
        have hl2 : labelL (t0 :: t1 :: rest) = some ([], t0 :: t1 :: rest) := by simp [labelL, h1]
        rw [hl2]
        clear hl2 h1 h
        go_enter Tryd.func42, Tryd.ntmps42
        go_wp2
        go_ret3
        exact label_some (m := 0) rfl rfl H'.out
end Go.Proofs.YthghbcjaokpilaaDoor
