import Derived.Test.YthghbcjaokpilaaDoorRefV
import Derived.RegionTactic
import Derived.BigRegion
import Derived.Test.YthghbcjaokpilaaDoorRefGh
import Derived.Test.YthghbcjaokpilaaDoorAsmGb
import Derived.Test.YthghbcjaokpilaaDoorAsmGe
import Derived.Test.YthghbcjaokpilaaDoorAsmGg
import Derived.Test.YthghbcjaokpilaaDoorAsmFn19
namespace Go.Proofs.YthghbcjaokpilaaDoor
set_option linter.unusedVariables false
set_option linter.unusedSimpArgs false
open Go.ChangeShapes Go.WideShapes Go.ChangeAt Go.RowKit Go.Proofs.YthghbcjaokpilaaDoor.Num Go.Proofs.YthghbcjaokpilaaDoor.Isa Go.Proofs.YthghbcjaokpilaaDoor.Mem Go.Proofs.YthghbcjaokpilaaDoor.Asm
set_option maxHeartbeats 1000000 in
theorem sameSym_any (a b : Option Addr) (n c d : Nat) (l : List (Bs × Nat)) (w : World) (hn : l.length = n) (hb : n ≤ 100000) (ha : RowS w a l) (hb' : RowS w b l) :
    Calls Tryd.prog 14 #[.slice a n c, .slice b n d] w fun e w' => e = .returned (.bool true) ∧ ∃ m, w' = w.drewN m := by
  have HA := Lib.hid ha
  have HB := Lib.hid hb'
  have HN := Lib.hid hn
  clear ha hb' hn
  go_enter Tryd.func14, Tryd.ntmps14
  go_wp2
  go_loopw [5] (fun i wr => ∃ (k : Nat) (m : Nat), k ≤ n ∧ i = .int .i64 k ∧ wr = w.drewN m) (fun i _ => n - (intOf i).toNat)
  case atStart => exact ⟨0, 0, Nat.zero_le _, rfl, rfl⟩
  case round =>
    obtain ⟨k, m, hk, rfl, rfl⟩ := hrel
    by_cases hlt : k < n
    · have hkl : k < l.length := by rw [HN.out]; exact hlt
      obtain ⟨ba, oa, rfl, a0, a1⟩ := HA.out k (by rw [HN.out]; exact hlt)
      obtain ⟨bb, ob, rfl, b0, b1⟩ := HB.out k (by rw [HN.out]; exact hlt)
      generalize l[k] = p at *
      obtain ⟨t, u⟩ := p
      dsimp only at a0 a1 b0 b1
      go_wp2
      go_region
      all_goals go_wp2
      go_roundw
      case rel => exact ⟨k + 1, _, by omega, by go_num, rfl⟩
      case measure => simp [intOf]; omega
    · go_wp2
      go_ret
      exact ⟨rfl, m, rfl⟩
end Go.Proofs.YthghbcjaokpilaaDoor

namespace Go.Proofs.YthghbcjaokpilaaDoor
set_option linter.unusedVariables false
set_option linter.unusedSimpArgs false
open Go.ChangeShapes Go.WideShapes Go.ChangeAt Go.RowKit Go.Proofs.YthghbcjaokpilaaDoor.Num Go.Proofs.YthghbcjaokpilaaDoor.Isa Go.Proofs.YthghbcjaokpilaaDoor.Mem Go.Proofs.YthghbcjaokpilaaDoor.Asm
theorem stW_err {syms : List (Bs × Nat)} {x : StL} {e : Int} (h : stW syms x = .inl e) : e ≠ 0 := by
  unfold stW at h
  repeat' split at h
  all_goals first | (cases h; done) | (injection h with h; omega)
theorem cdR_err {syms : List (Bs × Nat)} : ∀ (sts : List StL) (acc : List Int) (e n : Int), cdR syms sts acc = .inl (e, n) → e ≠ 0
  | [], acc, e, n, h => by rw [cdR] at h; cases h
  | x :: r, acc, e, n, h => by
    rw [cdR] at h
    split at h
    · rename_i e' he
      injection h with h
      injection h with h1 h2
      subst h1
      exact stW_err he
    · exact cdR_err r _ e n h
/-- The three ways of a source. -/
theorem asm_ways (l : Bs) : (∃ e n : Nat, rdF l = .inl (e, n) ∧ transL l = .inl ((e : Int), (n : Int)) ∧ cdF l = .inl ((e : Int), (n : Int)) ∧ e ≠ 0) ∨
    (∃ syms sts, rdF l = .inr (syms, sts) ∧ ((∃ e n : Int, cdF l = .inl (e, n) ∧ transL l = .inl (e, n) ∧ e ≠ 0) ∨ (∃ ws, cdF l = .inr ws ∧ transL l = .inr (ws, syms)))) := by
  rw [← asm_same l]
  have hd : asmR l = match rdF l with | .inl r => .inl ((r.1 : Int), (r.2 : Int)) | .inr r => transR r.1 (cdR r.1 r.2 []) := by
    unfold asmR rdF
    split
    · rfl
    · rfl
  cases h : rdF l with
  | inl r =>
    obtain ⟨e, n⟩ := r
    refine .inl ⟨e, n, rfl, ?_, ?_, rdF_err h⟩
    · rw [hd, h]
    · unfold cdF; rw [h]
  | inr r =>
    obtain ⟨syms, sts⟩ := r
    refine .inr ⟨syms, sts, rfl, ?_⟩
    have hc : cdF l = cdR syms sts [] := by unfold cdF; rw [h]
    rw [hd, h, hc]
    simp only
    cases hcd : cdR syms sts [] with
    | inl x =>
      obtain ⟨e, n⟩ := x
      exact .inl ⟨e, n, rfl, rfl, cdR_err _ _ _ _ hcd⟩
    | inr ws => exact .inr ⟨ws, rfl, rfl⟩
theorem assemble_all (s : ByteArray) (w : World) (hs : s.size ≤ 100000) : Calls Tryd.prog 10 #[.string s] w (AsmPost (transL s.data.toList) w) := by
  refine (assemble_ref s w hs).mono fun e w' h => ?_
  rcases asm_ways s.data.toList with ⟨a, n, _, ht, hc, _⟩ | ⟨syms, sts, _, ⟨a, n, hc, ht, _⟩ | ⟨ws, hc, ht⟩⟩
  all_goals
    rw [hc] at h
    rw [ht]
    exact h
set_option maxHeartbeats 4000000 in
theorem symbols_all (s : ByteArray) (w : World) (hs : s.size ≤ 100000) : Calls Tryd.prog 12 #[.string s] w (SymPost (transL s.data.toList) w) := by
  have HAS := Lib.hid (fun W => assemble_all s W hs)
  unfold AsmPost at HAS
  unfold SymPost
  have HERR : ∀ (a n : Int), a ≠ 0 → Hid (∀ W, Calls Tryd.prog 10 #[.string s] W fun e w' => e = .returned (.tuple #[.slice none 0 0, .agg #[.int .i64 a, .int .i64 n]]) ∧ Below W.heap.size W w') →
      Calls Tryd.prog 12 #[.string s] w fun e w' => e = .returned (.tuple #[.slice none 0 0, .agg #[.int .i64 a, .int .i64 n]]) ∧ Below w.heap.size w w' := by
    intro a n ha HA
    have herr : (a != 0) = true := by simpa using ha
    clear ha HAS
    go_enter Tryd.func12, Tryd.ntmps12
    go_wp2_with (go_at_call 10; (with_reducible refine (HA.out _).mono ?_); rintro e w1 ⟨rfl, hb1⟩; have E1 := (InE.new w 0 0 31).on hb1; have b1 : Below w.heap.size w w1 := Below.trans (by (repeat' (first | with_reducible exact Below.refl _ _ | with_reducible assumption | with_reducible apply below_drewN | with_reducible apply Below.drew | with_reducible apply Below.setCell | with_reducible apply Below.alloc | (simp; done) | omega | (simp; omega)))) (hb1.mono (by simp <;> omega)); have E2 := fun o => E1.on ((Below.refl _ w1).alloc (Nat.le_refl _) o); have f0 := fun o => (E2 o).c0; have f1 := fun o => (E2 o).c1; have f2 := fun o => (E2 o).z; have l1 := lt_E E1; obtain ⟨e0, e1, ez⟩ := E1; clear E2 hb1)
    go_region
    all_goals go_wp2
    all_goals refine bodyPost_ret (v := .tuple #[.slice none 0 0, .agg #[.int .i64 a, .int .i64 n]]) (by rw [results_slot_cell rfl]; go_simp) rfl ⟨rfl, ?_⟩
    all_goals (repeat' (first | with_reducible exact b1 | with_reducible apply Below.drew | with_reducible apply Below.setCell | with_reducible apply Below.alloc | (simp; done) | (simp; omega)))
  rcases asm_ways s.data.toList with ⟨a, n, _, ht, hc, he⟩ | ⟨syms, sts, hr, ⟨a, n, hc, ht, he⟩ | ⟨ws, hc, ht⟩⟩
  · rw [ht] at HAS ⊢
    exact HERR a n (by omega) HAS
  · rw [ht] at HAS ⊢
    exact HERR a n he HAS
  · rw [ht] at HAS ⊢
    simp only at HAS ⊢
    clear HERR
    have HRD := Lib.hid (fun W => read_ref (Lib.hid fun l W h => by
      have := parsed_ref (S l) W (by rw [S_size]; exact h)
      rw [S_list] at this
      exact this) s W hs)
    unfold ReadPost at HRD
    rw [hr] at HRD
    simp only at HRD
    clear hr hc ht
    go_enter Tryd.func12, Tryd.ntmps12
    go_wp2_with (first
      | (go_at_call 10; (with_reducible refine (HAS.out _).mono ?_); rintro e w1 ⟨⟨v1, rfl, hv1⟩, hb1⟩; have E1 := Lib.hid ((InE.new w 0 0 31).on hb1); have b1 : Below w.heap.size w w1 := Below.trans (by (repeat' (first | with_reducible exact Below.refl _ _ | with_reducible assumption | with_reducible apply below_drewN | with_reducible apply Below.drew | with_reducible apply Below.setCell | with_reducible apply Below.alloc | (simp; done) | omega | (simp; omega)))) (hb1.mono (by simp <;> omega)); have l1 := lt_E E1.out; clear hb1 hv1)
      | (go_at_call 17; (with_reducible refine (HRD.out _).mono ?_); rintro e w2 ⟨⟨vs, vd, Y, rfl, hvs, hvd, hY, hA⟩, hb2⟩; have HVS := Lib.hid hvs; have E2 := (E1.out.on ((Below.refl _ w1).alloc (Nat.le_refl _) (.cells #[.int .i64 0, .int .i64 0] 31))).on hb2; have b2 : Below w.heap.size w w2 := below_stepZ (b1.alloc b1.size (.cells #[.int .i64 0, .int .i64 0] 31)) hb2 (by have := b1.size; simp; omega); have l2 := lt_E E2; have l3 : w.heap.size < (w1.alloc (.cells #[.int .i64 0, .int .i64 0] 31)).heap.size := (by simp; omega); obtain ⟨f0, f1, fz⟩ := E2; clear hvs hvd hY hA hb2))
    refine bodyPost_ret (v := .tuple #[vs, .agg #[.int .i64 0, .int .i64 0]]) (by rw [results_slot_cell rfl]; go_simp) rfl ⟨⟨_, rfl, ?_⟩, ?_⟩
    · have n0 := own_low HVS.out (k := w.heap.size) l3
      exact World.ownsRow.alloc (own_base (ownsRow_setCell_other (ownsRow_setCell_other HVS.out n0 _) n0 _) (Nat.le_of_lt l3)) _
    · repeat' (first | with_reducible exact b2 | with_reducible apply Below.drew | with_reducible apply Below.setCell | with_reducible apply Below.alloc | (simp; done) | exact b2.size | (simp; omega))
/-- The parts of a result. -/
def rW : Sum (Int × Int) (List Int × List (Bs × Nat)) → List Int | .inl _ => [] | .inr r => r.1
def rS : Sum (Int × Int) (List Int × List (Bs × Nat)) → List (Bs × Nat) | .inl _ => [] | .inr r => r.2
def rE : Sum (Int × Int) (List Int × List (Bs × Nat)) → Int | .inl r => r.1 | .inr _ => 0
def rL : Sum (Int × Int) (List Int × List (Bs × Nat)) → Int | .inl r => r.2 | .inr _ => 0
theorem asm_one {r : Sum (Int × Int) (List Int × List (Bs × Nat))} {w w' : World} {e : Ending} (h : AsmPost r w e w') : ∃ oa c, e = .returned (.tuple #[.slice oa (rW r).length c, .agg #[.int .i64 (rE r), .int .i64 (rL r)]]) ∧ Row .u32 w' oa (rW r) ∧ Below w.heap.size w w' := by
  obtain ⟨h, hb⟩ := h
  match r, h with
  | .inl (a, l), h => exact ⟨none, 0, h, row_own (cap := 0) (World.ownsRow_nil _ 0 _ _), hb⟩
  | .inr (ws, syms), h =>
    obtain ⟨v, he, ho⟩ := h
    obtain ⟨oa, c, rfl⟩ := own_shape ho
    exact ⟨oa, c, he, row_own ho, hb⟩
theorem sym_one {r : Sum (Int × Int) (List Int × List (Bs × Nat))} {w w' : World} {e : Ending} (h : SymPost r w e w') : ∃ oa c, e = .returned (.tuple #[.slice oa (rS r).length c, .agg #[.int .i64 (rE r), .int .i64 (rL r)]]) ∧ RowS w' oa (rS r) ∧ Below w.heap.size w w' := by
  obtain ⟨h, hb⟩ := h
  match r, h with
  | .inl (a, l), h => exact ⟨none, 0, h, fun i hi => absurd hi (Nat.not_lt_zero _), hb⟩
  | .inr (ws, syms), h =>
    obtain ⟨v, he, ho⟩ := h
    obtain ⟨oa, c, rfl, hr⟩ := rowS_own ho
    exact ⟨oa, c, he, hr, hb⟩
theorem rW_len (l : Bs) : (rW (transL l)).length ≤ 100000 ∧ (rS (transL l)).length ≤ 100000 := by
  rcases asm_ways l with ⟨a, n, _, ht, hc, _⟩ | ⟨syms, sts, hr, ⟨a, n, hc, ht, _⟩ | ⟨ws, hc, ht⟩⟩
  · rw [ht]; exact ⟨Nat.zero_le _, Nat.zero_le _⟩
  · rw [ht]; exact ⟨Nat.zero_le _, Nat.zero_le _⟩
  · rw [ht]
    obtain ⟨ds, hE, hd, _, hmod⟩ := rdF_exp hr
    refine ⟨?_, rdF_syms hr⟩
    have h1 : cdR syms sts [] = .inr ws := by rw [← hc]; unfold cdF; rw [hr]
    rw [code_same hmod sts ds [] hE (fun _ _ _ => trivial)] at h1
    have := code_len syms ds [] ws h1
    show ws.length ≤ 100000
    simp at this
    omega
theorem bl_alloc {w w1 : World} (h : Below w.heap.size w w1) (o : Obj) : Below w.heap.size w (w1.alloc o) := h.alloc h.size o
set_option maxHeartbeats 4000000 in
theorem agrees_any (s : ByteArray) (w : World) (hs : s.size ≤ 100000) (hW : (rW (transL s.data.toList)).length ≤ 100000) (hS : (rS (transL s.data.toList)).length ≤ 100000) :
    Calls Tryd.prog 6 #[.string s] w fun e w' => e = .returned (.bool true) ∧ Below w.heap.size w w' := by
  have HA := Lib.hid (fun W => (assemble_asm s W (by omega)).mono (R' := fun e w' => _) fun _ _ h => asm_one h)
  have HB := Lib.hid (fun W => (assemble_all s W hs).mono (R' := fun e w' => _) fun _ _ h => asm_one h)
  have HC := Lib.hid (fun W => (symbols_asm s W (by omega)).mono (R' := fun e w' => _) fun _ _ h => sym_one h)
  have HD := Lib.hid (fun W => (symbols_all s W hs).mono (R' := fun e w' => _) fun _ _ h => sym_one h)
  generalize transL s.data.toList = R at *
  have HSW := Lib.hid (fun A B c d W (h1 : Row .u32 W A (rW R)) (h2 : Row .u32 W B (rW R)) => same_yes A B (rW R).length c d (rW R) (rW R) W (by omega) rfl rfl h1 h2)
  have HSS := Lib.hid (fun A B c d W (h1 : RowS W A (rS R)) (h2 : RowS W B (rS R)) => sameSym_any A B (rS R).length c d (rS R) W rfl hS h1 h2)
  generalize (rW R).length = nW at *
  generalize (rS R).length = nS at *
  generalize rW R = ws at *
  generalize rS R = ss at *
  generalize rE R = E at *
  generalize rL R = L at *
  clear hW hS
  go_enter Tryd.func6, Tryd.ntmps6
  go_wp2_with (first
    | go_skip
    | (go_at_call 9; (with_reducible refine (HA.out _).mono ?_); rintro e w1 ⟨o1, c1, rfl, r1, b1⟩; have R1 := Lib.hid r1; have B1 := Lib.hid b1; have I1 := Lib.hid (InE.new w1 E L 31); clear r1 b1)
    | (go_at_call 10; (with_reducible refine (HB.out _).mono ?_); rintro e w2 ⟨o2, c2, rfl, r2, b2⟩; have R1' := Lib.hid ((R1.out.on ((Below.refl _ _).alloc (Nat.le_refl _) (.cells #[.int .i64 E, .int .i64 L] 31))).on b2); have R2 := Lib.hid r2; have I1' := Lib.hid (I1.out.on b2); have B2 := Lib.hid (below_stepZ (bl_alloc B1.out (.cells #[.int .i64 E, .int .i64 L] 31)) b2 (by have := B1.out.size; simp; omega)); have I2 := Lib.hid (InE.new w2 E L 31); clear r2 b2)
    | (go_at_call 11; (with_reducible refine (HC.out _).mono ?_); rintro e w3 ⟨o3, c3, rfl, r3, b3⟩; have R1a := Lib.hid ((R1'.out.on ((Below.refl _ _).alloc (Nat.le_refl _) (.cells #[.int .i64 E, .int .i64 L] 31))).on b3); have R2a := Lib.hid ((R2.out.on ((Below.refl _ _).alloc (Nat.le_refl _) (.cells #[.int .i64 E, .int .i64 L] 31))).on b3); have I1a := Lib.hid ((I1'.out.on ((Below.refl _ _).alloc (Nat.le_refl _) (.cells #[.int .i64 E, .int .i64 L] 31))).on b3); have I2a := Lib.hid (I2.out.on b3); have R3 := Lib.hid r3; have B3 := Lib.hid (below_stepZ (bl_alloc B2.out (.cells #[.int .i64 E, .int .i64 L] 31)) b3 (by have := B2.out.size; simp; omega)); have I3 := Lib.hid (InE.new w3 E L 31); clear r3 b3)
    | (go_at_call 12; (with_reducible refine (HD.out _).mono ?_); rintro e w4 ⟨o4, c4, rfl, r4, b4⟩; have R1b := Lib.hid (((R1a.out.on ((Below.refl _ _).alloc (Nat.le_refl _) (.cells #[.int .i64 E, .int .i64 L] 31))).on b4).on ((Below.refl _ _).alloc (Nat.le_refl _) (.cells #[.int .i64 E, .int .i64 L] 31))); have R2b := Lib.hid (((R2a.out.on ((Below.refl _ _).alloc (Nat.le_refl _) (.cells #[.int .i64 E, .int .i64 L] 31))).on b4).on ((Below.refl _ _).alloc (Nat.le_refl _) (.cells #[.int .i64 E, .int .i64 L] 31))); have I1b := Lib.hid ((I1a.out.on ((Below.refl _ _).alloc (Nat.le_refl _) (.cells #[.int .i64 E, .int .i64 L] 31))).on b4); have I2b := Lib.hid ((I2a.out.on ((Below.refl _ _).alloc (Nat.le_refl _) (.cells #[.int .i64 E, .int .i64 L] 31))).on b4); have I3b := Lib.hid (I3.out.on b4); have R3b := Lib.hid (((R3.out.on ((Below.refl _ _).alloc (Nat.le_refl _) (.cells #[.int .i64 E, .int .i64 L] 31))).on b4).on ((Below.refl _ _).alloc (Nat.le_refl _) (.cells #[.int .i64 E, .int .i64 L] 31))); have R4b := Lib.hid (r4.on ((Below.refl _ _).alloc (Nat.le_refl _) (.cells #[.int .i64 E, .int .i64 L] 31))); have B4 := Lib.hid (bl_alloc (below_stepZ (bl_alloc B3.out (.cells #[.int .i64 E, .int .i64 L] 31)) b4 (by have := B3.out.size; simp; omega)) (.cells #[.int .i64 E, .int .i64 L] 31)); have J1 := I1b.out.on ((Below.refl _ _).alloc (Nat.le_refl _) (.cells #[.int .i64 E, .int .i64 L] 31)); have J2 := I2b.out.on ((Below.refl _ _).alloc (Nat.le_refl _) (.cells #[.int .i64 E, .int .i64 L] 31)); have J3 := I3b.out.on ((Below.refl _ _).alloc (Nat.le_refl _) (.cells #[.int .i64 E, .int .i64 L] 31)); have J4 := InE.new w4 E L 31; obtain ⟨p0, p1, pz⟩ := J1; obtain ⟨q0, q1, qz⟩ := J2; obtain ⟨s0, s1, sz⟩ := J3; obtain ⟨t0, t1, tz⟩ := J4; clear r4 b4)
    | (go_at_call 13; (with_reducible refine (HSW.out _ _ _ _ _ R1b.out R2b.out).mono ?_); rintro e w5 ⟨rfl, m5, rfl⟩)
    | (go_at_call 14; (with_reducible refine (HSS.out _ _ _ _ _ (R3b.out.on (below_drewN (Below.refl _ _) _)) (R4b.out.on (below_drewN (Below.refl _ _) _))).mono ?_); rintro e w6 ⟨rfl, m6, rfl⟩))
  go_ret
  exact ⟨ret_bool (by simp), below_drewN B4.out _⟩
end Go.Proofs.YthghbcjaokpilaaDoor

namespace Go.Proofs.YthghbcjaokpilaaDoor
set_option linter.unusedVariables false
set_option linter.unusedSimpArgs false
open Go.ChangeShapes Go.WideShapes Go.ChangeAt Go.RowKit Go.Proofs.YthghbcjaokpilaaDoor.Num Go.Proofs.YthghbcjaokpilaaDoor.Isa Go.Proofs.YthghbcjaokpilaaDoor.Mem Go.Proofs.YthghbcjaokpilaaDoor.Asm
theorem reads_walk (s : ByteArray) (w : World) :
    Calls Tryd.prog 3 #[.string s] w fun e w' => e = .returned (.bool true) ∧ Below w.heap.size w w' := by
  have HW := Lib.hid awake3
  by_cases hb : s.size ≤ 600
  · obtain ⟨h1, h2⟩ := rW_len s.data.toList
    have HG := Lib.hid (fun W => agrees_any s W (by omega) h1 h2)
    clear h1 h2
    have hbI : ¬ (600 : Int) < s.size := by omega
    have hbN : ¬ 600 < s.size := by omega
    go_enter Tryd.func3, Tryd.ntmps3
    go_wp2_with (first
      | go_skip
      | (go_at_call 6; (with_reducible refine (HG.out _).mono ?_); rintro e w1 ⟨rfl, hb1⟩)
      | (go_at_call 5; (with_reducible refine (HW.out _).mono ?_); rintro e w2 ⟨rfl, hb2⟩))
    go_ret
    exact ⟨rfl, below_stepZ hb1 hb2 hb1.size⟩
  · have hbI : (600 : Int) < s.size := by omega
    have hbN : 600 < s.size := by omega
    go_enter Tryd.func3, Tryd.ntmps3
    go_wp2_with (first
      | go_skip
      | (go_at_call 5; (with_reducible refine (HW.out _).mono ?_); rintro e w2 ⟨rfl, hb2⟩))
    go_ret
    exact ⟨rfl, hb2⟩
end Go.Proofs.YthghbcjaokpilaaDoor
