import Derived.Test.YtackgjmmeojpiaaPmFn
import Derived.Laws.CopyOwn
import Derived.OwnWalk
import Derived.Maps.AppendAt
import Derived.Lib.SliceRun
import Derived.Lib.Walk
namespace Go.Proofs.Ytackgjmmeojpiaa
set_option linter.unusedVariables false
set_option linter.unusedSimpArgs false
set_option maxRecDepth 20000
open Go.ChangeShapes Go.WideShapes Go.ChangeAt Go.RowKit Go.Proofs.Ytackgjmmeojpiaa.Num Go.Proofs.Ytackgjmmeojpiaa.Mem
def zs (n : Nat) : List Int := List.replicate n 0
theorem zs_u32 (n : Nat) : U32 (zs n) := fun x hx => by rw [List.eq_of_mem_replicate hx]; omega
theorem zs_wd (n i : Nat) : wd (zs n) i = 0 := by
  unfold wd zs
  by_cases h : i < n
  · simp [List.getD, h]
  · simp [List.getD, h]
theorem new_own (w : World) (n : Nat) : Own (w.alloc (.cells (Array.replicate n (.int .u32 0)) 22)) w.heap.size (zs n) := by
  refine ⟨_, heap_alloc_new w _, fun i hi => ?_⟩
  rw [zs_wd]
  have : i < n := by simpa [zs] using hi
  simp [this]
theorem info_u32 : (Try.prog.info? 22).map (fun i => (i.zero, i.size, i.bytes)) = some (some (.int .u32 0), 1, 4) := by kernel_rfl
theorem mk_words (N : Int) (n : Nat) (hN : N = (n : Int)) (hn : n ≤ 1024) (w : World) : (Instr.makeSlice 25 (.int .i64 N) (.int .i64 N)).run Try.prog w = .ok (.slice (some ⟨w.heap.size, 0, none⟩) n n) (w.alloc (.cells (Array.replicate n (.int .u32 0)) 22)) := by
  obtain ⟨i0, hi0, hz0, hz1, hz2⟩ := info_parts info_u32
  subst hN
  have h := run_make (P := Try.prog) w 25 22 i0 (.int .u32 0) Try.underlying25 hi0 hz0 .i64 .i64 n n (by omega) (by omega) (by rw [hz2]; omega) (by omega)
  rw [h, hz1]
  simp only [Int.toNat_natCast, Nat.mul_one]
  congr 3
  have e : (Value.int IntKind.u32 0).cells = #[Value.int .u32 0] := rfl
  rw [e]
  apply Array.toList_inj.1
  rw [toList_madeCells_one]
  simp
def NewPost (p : Int) (w : World) (e : Ending) (w' : World) : Prop := (∃ A c l, e = .returned (.slice A l.length c) ∧ l = (if 1 ≤ p ∧ p ≤ 32 then zs (32 * p.toNat) else []) ∧ Mem w' A l.length c l ∧ (0 < l.length → A = some ⟨w.heap.size, 0, none⟩ ∧ Own w' w.heap.size l)) ∧ Below w.heap.size w w'
theorem zs_len (n : Nat) : (zs n).length = n := by simp [zs]
theorem new_yes (k : Nat) (w : World) (h1 : 1 ≤ k) (h2 : k ≤ 32) (m : Nat) : NewPost k w (.returned (.slice (some ⟨w.heap.size, 0, none⟩) (32 * k) (32 * k))) ((w.drewN m).alloc (.cells (Array.replicate (32 * k) (.int .u32 0)) 22)) := by
  have ho := new_own (w.drewN m) (32 * k)
  have hl : (zs (32 * k)).length = 32 * k := zs_len _
  have e : zs (32 * k) = (if 1 ≤ (k : Int) ∧ (k : Int) ≤ 32 then zs (32 * (k : Int).toNat) else []) := by rw [if_pos ⟨by omega, by omega⟩]; rfl
  refine ⟨⟨some ⟨w.heap.size, 0, none⟩, 32 * k, zs (32 * k), by rw [hl], e, ho.mem rfl (by omega) (by omega) (zs_u32 _), fun _ => ⟨rfl, ho⟩⟩, ?_⟩
  exact (below_drewN (Below.refl _ _) m).alloc (Nat.le_refl _) _
theorem new_no (p : Int) (w : World) (h : ¬ (1 ≤ p ∧ p ≤ 32)) (m : Nat) : NewPost p w (.returned (.slice none 0 0)) (w.drewN m) :=
  ⟨⟨none, 0, [], rfl, by rw [if_neg h], Mem.nil _ _ _, fun h => absurd h (by simp)⟩, below_drewN (Below.refl _ _) m⟩
theorem new_ref (p : Int) (w : World) : Calls Try.prog 23 #[.int .i64 p] w (NewPost p w) := by
  by_cases h : 1 ≤ p ∧ p ≤ 32
  · obtain ⟨h1, h2⟩ := h
    obtain ⟨k, rfl⟩ : ∃ k : Nat, p = k := ⟨p.toNat, by omega⟩
    have hmk := mk_words ((k : Int) * 32) (32 * k) (by omega) (by omega)
    go_enter Try.func23, Try.ntmps23
    go_wp2
    all_goals first | (exfalso; omega) | go_ret
    exact new_yes k w (by omega) (by omega) 0
  · have HN := Lib.hid h
    go_enter Try.func23, Try.ntmps23
    go_wp2
    all_goals first | (exfalso; omega) | go_ret
    all_goals exact new_no p w HN.out 0
theorem clone_some (b off n c : Nat) (l : List Int) (w : World) (hn : 0 < n) (hm : Mem w (some ⟨b, off, none⟩) n c l) :
    Calls Try.prog 27 #[.slice (some ⟨b, off, none⟩) n c] w fun e w' => (∃ g cap, e = .returned (.slice (some ⟨g, 0, none⟩) n cap) ∧ n ≤ cap ∧ w.heap.size ≤ g ∧ Own w' g l) ∧ Below w.heap.size w w' := by
  obtain ⟨i0, hi0, hz0, hz1, hz2⟩ := info_parts info_u32
  obtain ⟨hl, hc, hn2, hu, hr⟩ := hm
  have hcells : ∀ j u, (l.map (Value.int .u32))[j]? = some u → w.cell? ⟨b, off + j, none⟩ = some u := fun j u hj => by
    obtain ⟨b', off', hA, hcc⟩ := hr (by omega)
    injection hA with hA
    injection hA with hA1 hA2
    subst hA1 hA2
    have hj' : j < l.length := by
      have := (List.getElem?_eq_some_iff.1 hj).1
      simpa using this
    rw [List.getElem?_map, List.getElem?_eq_getElem hj'] at hj
    rw [hcc j hj']
    simpa [wd, List.getD, hj'] using hj
  have HC := Lib.hid hcells
  have HL := Lib.hid (show (l.map (Value.int .u32)).length = n by rw [List.length_map]; exact hl)
  have H1 := Lib.hid (show ∀ u ∈ l.map (Value.int .u32), u.oneCell' = true from fun u hu => by obtain ⟨x, _, rfl⟩ := List.mem_map.1 hu; rfl)
  obtain ⟨news, HE⟩ : ∃ news, Hid (news = l.map (Value.int .u32)) := ⟨_, rfl⟩
  rw [← HE.out] at HC HL H1
  clear hcells hl hr
  have q22 : ∀ (w : World) (a : Option Addr) (n c n' c' : Nat), (binOp .eql 25 (.slice a n c) (.slice none n' c')).run Try.prog w = .ok (.bool a.isNone) w := fun w a n c n' c' => Lib.run_eql_slice_nil w _ _ a n c n' c' Try.underlying25
  go_enter Try.func27, Try.ntmps27
  go_wp2_with (at_builtin; refine wpList_append_own _ rfl _ _ 25 rfl w.heap.size 22 i0 _ 1 4 Try.underlying25 hi0 hz0 hz1 hz2 rfl (by decide) _ _ _ rfl (World.ownsRow_made w #[] 0 (Nat.le_refl _) (Nat.zero_le _) (by simp)) ⟨b, off, none⟩ n c news rfl ?qc1 ?qc2 ?qc3 ?qc4 ?qc5 ?qc6 ?_)
  case qc1 => rw [Nat.mul_one]; exact HL.out
  case qc2 =>
    intro j u hj
    rw [Addr.add_lit]
    exact Lib.cell?_alloc_some _ (HC.out j u hj)
  case qc3 => exact H1.out
  case qc4 => rw [Nat.zero_add]; unfold maxLen; omega
  case qc5 => rw [Nat.zero_add]; omega
  case qc6 => simp
  intro v' w1 hown hgrow hnil
  go_wp2
  go_ret
  have hown' : w1.ownsRow w.heap.size 22 1 v' n (l.map (Value.int .u32)) := by rw [← HE.out]; exact hown
  obtain ⟨g, cap, rfl, h1, h2, h3⟩ := Own.ofRow hown' hn
  exact ⟨⟨g, cap, rfl, h1, h2, h3⟩, ((Below.refl _ w).alloc (Nat.le_refl _) _).grown hgrow (by simp) (by intro k hk; simp [Value.ownBlock] at hk; omega)⟩
theorem clone_nil (c : Nat) (w : World) :
    Calls Try.prog 27 #[.slice none 0 c] w fun e w' => e = .returned (.slice none 0 0) ∧ w = w' := by
  have q22 : ∀ (w : World) (a : Option Addr) (n c n' c' : Nat), (binOp .eql 25 (.slice a n c) (.slice none n' c')).run Try.prog w = .ok (.bool a.isNone) w := fun w a n c n' c' => Lib.run_eql_slice_nil w _ _ a n c n' c' Try.underlying25
  go_enter Try.func27, Try.ntmps27
  go_wp2
  go_ret
  exact ⟨rfl, rfl⟩
/-- An empty slice with an address: its clone is some empty slice. -/
theorem clone_empty (a : Addr) (c : Nat) (w : World) :
    Calls Try.prog 27 #[.slice (some a) 0 c] w fun e w' => (∃ A cap, e = .returned (.slice A 0 cap)) ∧ Below w.heap.size w w' := by
  obtain ⟨i0, hi0, hz0, hz1, hz2⟩ := info_parts info_u32
  have q22 : ∀ (w : World) (a : Option Addr) (n c n' c' : Nat), (binOp .eql 25 (.slice a n c) (.slice none n' c')).run Try.prog w = .ok (.bool a.isNone) w := fun w a n c n' c' => Lib.run_eql_slice_nil w _ _ a n c n' c' Try.underlying25
  go_enter Try.func27, Try.ntmps27
  go_wp2_with (at_builtin; refine wpList_append_own _ rfl _ _ 25 rfl w.heap.size 22 i0 _ 1 4 Try.underlying25 hi0 hz0 hz1 hz2 rfl (by decide) _ _ _ rfl (World.ownsRow_made w #[] 0 (Nat.le_refl _) (Nat.zero_le _) (by simp)) a 0 c [] rfl ?qc1 ?qc2 ?qc3 ?qc4 ?qc5 ?qc6 ?_)
  case qc1 => rfl
  case qc2 => intro j u hj; simp at hj
  case qc3 => intro u hu; simp at hu
  case qc4 => decide
  case qc5 => decide
  case qc6 => simp
  intro v' w1 hown hgrow hnil
  go_wp2
  go_ret
  have hs : ∃ A cap, v' = .slice A 0 cap := by
    rcases hown.2 with ⟨rfl, _⟩ | ⟨g, cap, cur, rfl, _⟩
    · exact ⟨none, 0, rfl⟩
    · exact ⟨_, cap, rfl⟩
  obtain ⟨A, cap, rfl⟩ := hs
  exact ⟨⟨A, cap, rfl⟩, ((Below.refl _ w).alloc (Nat.le_refl _) _).grown hgrow (by simp) (by intro k hk; simp [Value.ownBlock] at hk; omega)⟩
/-- A slice of words of the call's own. -/
def ClonePost (n : Nat) (l : List Int) (w : World) (e : Ending) (w' : World) : Prop := (∃ A c, e = .returned (.slice A n c) ∧ Mem w' A n c l ∧ (0 < n → ∃ g, A = some ⟨g, 0, none⟩ ∧ w.heap.size ≤ g ∧ Own w' g l)) ∧ Below w.heap.size w w'
theorem clone_any (A : Option Addr) (n c : Nat) (l : List Int) (w : World) (hm : Mem w A n c l) :
    Calls Try.prog 27 #[.slice A n c] w (ClonePost n l w) := by
  have hl := hm.1
  rcases Nat.eq_zero_or_pos n with h0 | h0
  · subst h0
    have e : l = [] := List.eq_nil_of_length_eq_zero hl
    subst e
    cases A with
    | none => exact (clone_nil c w).mono fun e w' ⟨he, hw⟩ => ⟨⟨none, 0, he, Mem.nil _ _ _, fun h => absurd h (Nat.lt_irrefl 0)⟩, by rw [← hw]; exact Below.refl _ _⟩
    | some a => exact (clone_empty a c w).mono fun e w' ⟨⟨A, cap, he⟩, hb⟩ => ⟨⟨A, cap, he, Mem.nil _ _ _, fun h => absurd h (Nat.lt_irrefl 0)⟩, hb⟩
  · obtain ⟨b, off, rfl, _⟩ := hm.at_ h0
    refine (clone_some b off n c l w h0 hm).mono fun e w' ⟨⟨g, cap, he, h1, h2, h3⟩, hb⟩ => ⟨⟨_, cap, he, h3.mem hl (by omega) (by have := hm.2.2.1; omega) hm.2.2.2.1, fun _ => ⟨g, rfl, h2, h3⟩⟩, hb⟩
theorem rd_cell {w : World} {b off : Nat} {l : List Int} (hcc : ∀ i, i < l.length → w.cell? ⟨b, off + i, none⟩ = some (.int .u32 (wd l i))) {j : Nat} {v : Value} (hj : (l.map (Value.int .u32))[j]? = some v) : w.cell? ⟨b, off + j, none⟩ = some v := by
  have hj' : j < l.length := by
    have := (List.getElem?_eq_some_iff.1 hj).1
    simpa using this
  rw [List.getElem?_map, List.getElem?_eq_getElem hj'] at hj
  rw [hcc j hj']
  simpa [wd, List.getD, hj'] using hj
theorem copy_any (A : Option Addr) (n c : Nat) (l : List Int) (w : World) (hm : Mem w A n c l) :
    Calls Try.prog 28 #[.slice A n c] w (ClonePost n l w) := by
  obtain ⟨hl, hc, hn, hu, hr⟩ := hm
  have hmk := mk_words (n : Int) n rfl hn
  have HL := Lib.hid hl
  have HR := Lib.hid hr
  obtain ⟨cs, HE⟩ : ∃ cs, Hid (cs = l.map (Value.int .u32)) := ⟨_, rfl⟩
  have HCL : Hid (cs.length = n) := by rw [HE.out, List.length_map]; exact hl
  clear hl hr
  go_enter Try.func28, Try.ntmps28
  go_wp2_with (refine wpList_copy_splice (o := ⟨some 9, _, _, _, _, _⟩) rfl (.tmp 7) (.tmp 8) 25 25 rfl 22 Try.underlying25 (by kernel_rfl) (some ⟨w.heap.size, 0, none⟩) A n n n c rfl rfl w.heap.size 0 (List.replicate n (.int .u32 0)) 22 ?c1 cs ?c2 ?c3 ?c4 ?c5 w.heap.size w ?c6 (Nat.le_refl _) ?_)
  case c1 => rw [heap_alloc_new]; simp
  case c2 => rw [HCL.out]; simp
  case c3 =>
    intro h0
    obtain ⟨b, off, hA, hcc⟩ := HR.out (by rw [HL.out, ← HCL.out]; exact h0)
    refine ⟨_, hA, fun j v hj => ?_⟩
    rw [add_plain]
    exact Lib.cell?_alloc_some _ (rd_cell hcc (by rw [← HE.out]; exact hj))
  case c4 => rw [HCL.out]; simp
  case c5 => rw [HE.out]; intro u hu; obtain ⟨x, _, rfl⟩ := List.mem_map.1 hu; rfl
  case c6 => exact (Below.refl _ _).alloc (Nat.le_refl _) _
  intro w' HG hb
  have ho : Own w' w.heap.size l := by
    refine ⟨_, HG.out, fun i hi => ?_⟩
    have hcs : cs.length = n := HCL.out
    have hll : l.length = n := HL.out
    have e : splice (List.replicate n (Value.int IntKind.u32 0)) 0 cs = cs := by
      unfold splice
      simp [hcs]
    rw [e, HE.out]
    simp [wd, List.getD, hi]
  have hm' := ho.mem (n := n) (c := n) HL.out (Nat.le_refl _) hn hu
  have hbb := Lib.hid hb
  clear HG hb
  go_wp2
  go_ret
  exact ⟨⟨some ⟨w.heap.size, 0, none⟩, n, rfl, hm', fun _ => ⟨_, rfl, Nat.le_refl _, ho⟩⟩, hbb.out⟩
end Go.Proofs.Ytackgjmmeojpiaa
