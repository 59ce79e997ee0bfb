import Derived.Test.YthghbcjaokpilaaDoorRefD
namespace Go.Proofs.YthghbcjaokpilaaDoor
set_option linter.unusedVariables false
set_option linter.unusedSimpArgs false
open Go.ChangeShapes Go.WideShapes Go.ChangeAt Go.RowKit Go.Proofs.YthghbcjaokpilaaDoor.Num Go.Proofs.YthghbcjaokpilaaDoor.Isa Go.Proofs.YthghbcjaokpilaaDoor.Mem Go.Proofs.YthghbcjaokpilaaDoor.Asm
/-- The operation of a mnemonic, or 0. -/
def opR (s : Bs) : Int := match (List.range 65).find? (fun k : Nat => decide (0 < frm (k : Int)) && (mn k == s)) with | some k => (k : Int) | none => 0
theorem opR_some {s : Bs} {k : Nat} (hk : k < 65) (h0 : 0 < frm (k : Int)) (hs : mn k = s) (hn : ∀ r : Nat, r < k → ¬ (0 < frm (r : Int) ∧ mn r = s)) : opR s = k := by
  unfold opR
  have : (List.range 65).find? (fun k : Nat => decide (0 < frm (k : Int)) && (mn k == s)) = some k := by
    rw [List.find?_eq_some_iff_append]
    refine ⟨by simp [h0, hs], List.range k, List.range' (k + 1) (64 - k), ?_, fun r hr => ?_⟩
    · have e1 : List.range 65 = List.range' 0 k ++ List.range' k (65 - k) := by
        rw [List.range_eq_range', show (List.range' 0 k ++ List.range' k (65 - k)) = List.range' 0 k ++ List.range' (0 + 1 * k) (65 - k) by simp, List.range'_append]
        congr 1; omega
      rw [e1, List.range_eq_range', show 65 - k = (64 - k) + 1 by omega, List.range'_succ]
    · have := hn r (List.mem_range.1 hr)
      by_cases h : 0 < frm (r : Int)
      · have h2 : ¬ mn r = s := fun e => this ⟨h, e⟩
        simp [h2]
      · simp [h]
  rw [this]
theorem opR_none {s : Bs} (hn : ∀ r : Nat, r < 65 → ¬ (0 < frm (r : Int) ∧ mn r = s)) : opR s = 0 := by
  unfold opR
  have : (List.range 65).find? (fun k : Nat => decide (0 < frm (k : Int)) && (mn k == s)) = none := by
    rw [List.find?_eq_none]
    intro r hr
    have := hn r (List.mem_range.1 hr)
    simpa using this
  rw [this]
theorem opR_bd (s : Bs) : opR s = 0 ∨ (1 ≤ opR s ∧ opR s ≤ 64 ∧ 0 < frm (opR s) ∧ mn (opR s).toNat = s) := by
  unfold opR
  cases h : (List.range 65).find? (fun k : Nat => decide (0 < frm (k : Int)) && (mn k == s)) with
  | none => exact Or.inl rfl
  | some k =>
    have h1 := List.find?_some h
    have h2 := List.mem_range.1 (List.mem_of_find?_eq_some h)
    simp only [Bool.and_eq_true, decide_eq_true_eq, beq_iff_eq] at h1
    right
    refine ⟨?_, by simp only; omega, h1.1, by simpa using h1.2⟩
    have : k ≠ 0 := by rintro rfl; have := h1.1; revert this; decide
    simp only; omega
theorem operation_ref (s : ByteArray) (w : World) : Calls Tryd.prog 36 #[.string s] w fun e w' => e = .returned (.int .i64 (opR s.data.toList)) ∧ Below w.heap.size w w' := by
  go_enter Tryd.func36, Tryd.ntmps36
  go_wp2
  go_loopw [3] (fun i wr => ∃ k : Nat, 1 ≤ k ∧ k ≤ 65 ∧ i = .int .i64 k ∧ Hid (∀ r : Nat, r < k → ¬ (0 < frm (r : Int) ∧ mn r = s.data.toList)) ∧ Below w.heap.size w wr) (fun i _ => 65 - (intOf i).toNat)
  case atStart =>
    refine ⟨1, by omega, by omega, rfl, Lib.hid (fun r hr => ?_), Below.refl _ _⟩
    obtain rfl : r = 0 := by omega
    rintro ⟨h, _⟩; revert h; decide
  case round =>
    obtain ⟨k, h1k, hk, rfl, hn, hbw⟩ := hrel
    have HBW := Lib.hid hbw
    clear hbw
    by_cases hlt : k < 65
    · have HF := Lib.hid (fun W => form_ref (k : Int) W)
      have HM := Lib.hid (fun W => mnemonic_ref k W)
      have hml : (mnS k).toList = mn k := by rw [toL]; unfold mnS; simp
      have hle : (k : Int) ≤ 64 := by omega
      by_cases hf : 0 < frm (k : Int)
      · by_cases hy : mn k = s.data.toList
        · have hb : ((mnS k).toList == s.toList) = true := by rw [hml, toL, hy]; simp
          have E := Lib.hid (opR_some hlt hf hy hn.out)
          generalize frm (k : Int) = fk at *
          clear hml hy
          generalize mnS k = ms at *
          go_wp2_with (first
            | (go_at_call 26; (with_reducible refine (HF.out _).mono ?_); rintro e w1 ⟨rfl, m1, rfl⟩)
            | (go_at_call 52; (with_reducible refine (HM.out _).mono ?_); rintro e w2 ⟨rfl, hb2⟩))
          go_ret
          rw [E.out]
          exact ⟨rfl, below_step (below_drewN HBW.out _) hb2⟩
        · have hb : ((mnS k).toList == s.toList) = false := by rw [hml, toL]; simpa using hy
          have HN := Lib.hid (fun (r : Nat) (hr : r < k + 1) => (show ¬ (0 < frm (r : Int) ∧ mn r = s.data.toList) from by
            by_cases e : r = k
            · subst e; exact fun h => hy h.2
            · exact hn.out r (by omega)))
          generalize frm (k : Int) = fk at *
          clear hml hy
          generalize mnS k = ms at *
          go_wp2_with (first
            | (go_at_call 26; (with_reducible refine (HF.out _).mono ?_); rintro e w1 ⟨rfl, m1, rfl⟩)
            | (go_at_call 52; (with_reducible refine (HM.out _).mono ?_); rintro e w2 ⟨rfl, hb2⟩))
          go_roundw
          case rel => exact ⟨k + 1, by omega, by omega, by go_num, HN, below_step (below_drewN HBW.out _) hb2⟩
          case measure => simp [intOf]; omega
      · have HN := Lib.hid (fun (r : Nat) (hr : r < k + 1) => (show ¬ (0 < frm (r : Int) ∧ mn r = s.data.toList) from by
          by_cases e : r = k
          · subst e; exact fun h => hf h.1
          · exact hn.out r (by omega)))
        generalize frm (k : Int) = fk at *
        clear hml
        go_wp2_with (first
          | (go_at_call 26; (with_reducible refine (HF.out _).mono ?_); rintro e w1 ⟨rfl, m1, rfl⟩))
        go_roundw
        case rel => exact ⟨k + 1, by omega, by omega, by go_num, HN, below_drewN HBW.out _⟩
        case measure => simp [intOf]; omega
    · obtain rfl : k = 65 := by omega
      have E := Lib.hid (opR_none hn.out)
      go_wp2
      go_ret
      rw [E.out]
      exact ⟨rfl, HBW.out⟩
end Go.Proofs.YthghbcjaokpilaaDoor

namespace Go.Proofs.YthghbcjaokpilaaDoor
set_option linter.unusedVariables false
set_option linter.unusedSimpArgs false
open Go.ChangeShapes Go.WideShapes Go.ChangeAt Go.RowKit Go.Proofs.YthghbcjaokpilaaDoor.Num Go.Proofs.YthghbcjaokpilaaDoor.Isa Go.Proofs.YthghbcjaokpilaaDoor.Mem Go.Proofs.YthghbcjaokpilaaDoor.Asm
/-- The operands of an operation. -/
def patF (op f : Int) : Bs :=
  if 32 ≤ op ∧ op ≤ 36 then [114, 44, 110, 40, 114, 41]
  else if 40 ≤ op ∧ op ≤ 45 then [114, 44, 114, 44, 120]
  else if op = 48 then [114, 44, 120]
  else if f = 1 then []
  else if f = 2 then [114, 44, 114, 44, 114]
  else if 6 ≤ f then [114, 44, 110]
  else [114, 44, 114, 44, 110]
def wWord : Bs := [46, 119, 111, 114, 100]
def wSpace : Bs := [46, 115, 112, 97, 99, 101]
def wLi : Bs := [108, 105]
def wMv : Bs := [109, 118]
def wNop : Bs := [110, 111, 112]
/-- The pattern of a statement. -/
def patR (s : Bs) : Option Bs :=
  if s = wWord then some [120]
  else if s = wSpace then some [110]
  else if s = wLi then some [114, 44, 120]
  else if s = wMv then some [114, 44, 114]
  else if s = wNop then some []
  else if opR s = 0 then none
  else some (patF (opR s) (frm (opR s)))
def patV : Option Bs → Value
  | some p => .tuple #[.string (S p), .bool true]
  | none => .tuple #[.string (S []), .bool false]
theorem pat_leaf {op f : Int} {p : Bs} (h : patF op f = p) : (Value.tuple #[.string (S p), .bool true]) = patV (some (patF op f)) := by rw [h]; rfl
set_option maxHeartbeats 4000000 in
theorem pattern_ref (s : ByteArray) (w : World) : Calls Tryd.prog 34 #[.string s] w fun e w' => e = .returned (patV (patR s.data.toList)) ∧ Below w.heap.size w w' := by
  have HO := Lib.hid (operation_ref s)
  have lit : ∀ l : Bs, (s.toList == l) = decide (s.data.toList = l) := fun l => by
    rw [toL]
    by_cases h : s.data.toList = l
    · rw [h]; simp
    · rw [decide_eq_false h]; simpa using h
  obtain ⟨o, ho⟩ : ∃ o, opR s.data.toList = o := ⟨_, rfl⟩
  rw [ho] at HO
  have l1 := lit wWord
  have l2 := lit wSpace
  have l3 := lit wLi
  have l4 := lit wMv
  have l5 := lit wNop
  have hd : (∃ p : Bs, (decide (s.data.toList = wWord) = true ∧ p = [120] ∨
      decide (s.data.toList = wWord) = false ∧ decide (s.data.toList = wSpace) = true ∧ p = [110] ∨
      decide (s.data.toList = wWord) = false ∧ decide (s.data.toList = wSpace) = false ∧ decide (s.data.toList = wLi) = true ∧ p = [114, 44, 120] ∨
      decide (s.data.toList = wWord) = false ∧ decide (s.data.toList = wSpace) = false ∧ decide (s.data.toList = wLi) = false ∧ decide (s.data.toList = wMv) = true ∧ p = [114, 44, 114] ∨
      decide (s.data.toList = wWord) = false ∧ decide (s.data.toList = wSpace) = false ∧ decide (s.data.toList = wLi) = false ∧ decide (s.data.toList = wMv) = false ∧ decide (s.data.toList = wNop) = true ∧ p = []) ∧ patR s.data.toList = some p) ∨
      (decide (s.data.toList = wWord) = false ∧ decide (s.data.toList = wSpace) = false ∧ decide (s.data.toList = wLi) = false ∧ decide (s.data.toList = wMv) = false ∧ decide (s.data.toList = wNop) = false ∧ (o = 0 ∧ patR s.data.toList = none ∨ ¬ o = 0 ∧ patR s.data.toList = some (patF o (frm o)))) := by
    unfold patR
    rw [ho]
    by_cases h1 : s.data.toList = wWord
    · left; exact ⟨[120], Or.inl ⟨by simp [h1], rfl⟩, by rw [if_pos h1]⟩
    · by_cases h2 : s.data.toList = wSpace
      · left; exact ⟨[110], Or.inr (Or.inl ⟨by simp [h1], by simp [h2], rfl⟩), by rw [if_neg h1, if_pos h2]⟩
      · by_cases h3 : s.data.toList = wLi
        · left; exact ⟨[114, 44, 120], Or.inr (Or.inr (Or.inl ⟨by simp [h1], by simp [h2], by simp [h3], rfl⟩)), by rw [if_neg h1, if_neg h2, if_pos h3]⟩
        · by_cases h4 : s.data.toList = wMv
          · left; exact ⟨[114, 44, 114], Or.inr (Or.inr (Or.inr (Or.inl ⟨by simp [h1], by simp [h2], by simp [h3], by simp [h4], rfl⟩))), by rw [if_neg h1, if_neg h2, if_neg h3, if_pos h4]⟩
          · by_cases h5 : s.data.toList = wNop
            · left; exact ⟨[], Or.inr (Or.inr (Or.inr (Or.inr ⟨by simp [h1], by simp [h2], by simp [h3], by simp [h4], by simp [h5], rfl⟩))), by rw [if_neg h1, if_neg h2, if_neg h3, if_neg h4, if_pos h5]⟩
            · right
              refine ⟨by simp [h1], by simp [h2], by simp [h3], by simp [h4], by simp [h5], ?_⟩
              rw [if_neg h1, if_neg h2, if_neg h3, if_neg h4, if_neg h5]
              by_cases h6 : o = 0
              · left; exact ⟨h6, by rw [if_pos h6]⟩
              · right; exact ⟨h6, by rw [if_neg h6]⟩
  have hfr : ¬ o = 0 → 1 ≤ frm o := fun h => by
    rcases opR_bd s.data.toList with h1 | h1
    · rw [ho] at h1; exact absurd h1 h
    · rw [ho] at h1; omega
  have HF := Lib.hid (fun W => form_ref o W)
  generalize hfv : frm o = f at *
  generalize patR s.data.toList = R at *
  clear ho lit
  generalize decide (s.data.toList = wWord) = q1 at *
  generalize decide (s.data.toList = wSpace) = q2 at *
  generalize decide (s.data.toList = wLi) = q3 at *
  generalize decide (s.data.toList = wMv) = q4 at *
  generalize decide (s.data.toList = wNop) = q5 at *
  simp only [wWord, wSpace, wLi, wMv, wNop] at l1 l2 l3 l4 l5
  rcases hd with ⟨p, hd, rfl⟩ | ⟨rfl, rfl, rfl, rfl, rfl, ⟨rfl, rfl⟩ | ⟨h0, rfl⟩⟩
  · rcases hd with ⟨rfl, rfl⟩ | ⟨rfl, rfl, rfl⟩ | ⟨rfl, rfl, rfl, rfl⟩ | ⟨rfl, rfl, rfl, rfl, rfl⟩ | ⟨rfl, rfl, rfl, rfl, rfl, rfl⟩
    all_goals
      go_enter Tryd.func34, Tryd.ntmps34
      go_wp2_with (go_at_call 36; (with_reducible refine (HO.out _).mono ?_); rintro e w1 ⟨rfl, hb1⟩)
      go_ret2
      exact ⟨rfl, hb1⟩
  · go_enter Tryd.func34, Tryd.ntmps34
    go_wp2_with (go_at_call 36; (with_reducible refine (HO.out _).mono ?_); rintro e w1 ⟨rfl, hb1⟩)
    go_ret2
    exact ⟨rfl, hb1⟩
  · have hd : (32 ≤ o ∧ o ≤ 36) ∨ (o < 32 ∧ ¬ o = 48) ∨ (40 ≤ o ∧ o ≤ 45) ∨ (36 < o ∧ o < 40 ∧ ¬ o = 48) ∨ (45 < o ∧ ¬ o = 48) ∨ o = 48 := by omega
    rcases hd with ⟨g1, g2⟩ | ⟨g1, g2⟩ | ⟨g1, g2⟩ | ⟨g1, g2, g3⟩ | ⟨g1, g2⟩ | g1
    all_goals
      go_enter Tryd.func34, Tryd.ntmps34
      go_wp2_with (first
        | (go_at_call 36; (with_reducible refine (HO.out _).mono ?_); rintro e w1 ⟨rfl, hb1⟩)
        | (go_at_call 26; (with_reducible refine (HF.out _).mono ?_); rintro e w2 ⟨rfl, m2, rfl⟩))
      all_goals
        go_ret2
        have hf1 := hfr h0
        clear HO HF hfv hfr l1 l2 l3 l4 l5
        refine ⟨congrArg Ending.returned (pat_leaf ?_), by first | exact hb1 | exact below_drewN hb1 _⟩
        clear hb1
        try simp only [beq_iff_eq, beq_eq_false_iff_ne, ne_eq, decide_eq_true_eq, decide_eq_false_iff_not] at *
        unfold patF
        repeat' split
        all_goals first | rfl | (exfalso; omega)
end Go.Proofs.YthghbcjaokpilaaDoor
