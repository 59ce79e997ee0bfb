import Derived.Test.YtfnfbdjbdbifaaaDoorCpEx
namespace Go.Proofs.YtfnfbdjbdbifaaaDoor
set_option linter.unusedVariables false
set_option linter.unusedSimpArgs false
set_option maxRecDepth 20000
open Go.ChangeShapes Go.WideShapes Go.ChangeAt Go.RowKit Go.Proofs.YtfnfbdjbdbifaaaDoor.Num Go.Proofs.YtfnfbdjbdbifaaaDoor.Mem Go.Proofs.YtfnfbdjbdbifaaaDoor.Isa
theorem wpList_load_look_g {ops : Array Oper} {rest : List Oper} {o : Oper} {a : Act} {w : World} {Q : Exit → Act → World → Prop} (hw : Region.wanted o (yielded ops a.tmps) = true) (x : Operand) (ho : o.op = .load 32 x) (g : Nat) (hx : a.eval x = .pointer (some ⟨g, 0, none⟩))
    (h : ∀ ob, lk w g = ob → ∃ L, ob = some (.cells (cw L).toArray 32 (0, 0)) ∧ L.length = 25 ∧ wpList Tryd.prog ops Q rest (a.put o.dst (cpV L)) w) : wpList Tryd.prog ops Q (o :: rest) a w := by
  obtain ⟨fs, hu⟩ := undCpu
  obtain ⟨L, hg, hL, h⟩ := h _ rfl
  refine wpList_step fun K hK => ?_
  rw [if_pos hw]
  exact wp_load_row 32 x ho g hx _ (cw L).toArray _ _ hg hu rfl (by rw [List.size_toArray, cw_len hL]; exact infCpu) (hK _ _ h)
set_option maxHeartbeats 1000000 in
theorem exec_prv (L : List Int) (S : Option Addr) (n c : Nat) (l : List Int) (w : World) (hL : C25 L) (hm : Mem w S n c l) (h0 : ftC n l L = 0) (hd : dOk (ftW n l L)) (hp : prvB (dOp (ftW n l L)) = true) (hk : kerB L = false) (hX : 0 ≤ ftW n l L ∧ ftW n l L ≤ 4294967295) :
    Calls Tryd.prog 8 #[cpV L, .slice S n c] w (ExPost n (trapL L 2 (ftW n l L)) (ftL n l L) (efV 0 0 0 0) w) := by
  have HF := Lib.hid (fun W (hM : Mem W S n c l) => fetch_any L S n c l W hL hM)
  rw [h0] at HF
  have hLL := hL.1
  generalize ftL n l L = l' at *
  generalize ftW n l L = X at *
  have HD := Lib.hid (fun W => decode_any X W hX.1 hX.2)
  rw [decide_eq_true hd] at HD
  have ez : zOp X = dOp X := by unfold zOp; rw [if_pos hd]
  rw [← ez] at hp
  clear ez
  have HP := Lib.hid (fun W => priv_any (zOp X) W)
  rw [show decide (57 ≤ zOp X ∧ zOp X ≤ 64) = true from hp] at HP
  have HK := Lib.hid (fun W => kernel_any L W hL)
  rw [hk] at HK
  clear hp hk
  have HT := Lib.hid (fun W => trap_any L 2 X W hL)
  have HTL := (hL.trap 2 hX.1 hX.2).1
  generalize zOp X = zo at *
  generalize zA X = za at *
  generalize zB X = zb at *
  generalize zC X = zc at *
  generalize zM X = zm at *
  generalize trapL L 2 X = L' at *
  clear hd h0
  obtain ⟨F1, F2, F3, -⟩ := cw_facts
  go_enter Tryd.func8, Tryd.ntmps8
  go_wp2_with (first
    | (refine wpList_box_box rfl _ rfl rfl ?_; simp only [Act.put, List.setIfInBounds_toArray, List.set_cons_zero, List.set_cons_succ])
    | (refine wpList_alloc_box rfl rfl ?_; simp only [Act.put, List.setIfInBounds_toArray, List.set_cons_zero, List.set_cons_succ])
    | (refine wpList_load_look rfl _ rfl _ rfl (fun ob hob => ?_); simp [look_alloc, look_setRow, look_drew, look_drewN, look_setCell, Nat.add_assoc] at hob; subst hob; refine ⟨_, rfl, by (first | with_reducible assumption | (simp only [List.length_set]; with_reducible assumption) | exact Z25_len), ?_⟩; simp only [Act.put, List.setIfInBounds_toArray, List.set_cons_zero, List.set_cons_succ]))
  (refine (HF.out _ (hm.on (by (repeat' (first | with_reducible exact Below.refl _ _ | with_reducible assumption | with_reducible apply below_drewN | with_reducible apply Below.drew | with_reducible apply Below.setCell | with_reducible apply Below.alloc | (simp; done) | omega | (simp; omega)))))).mono ?_; rintro e w1 ⟨⟨S1, c1, rfl, hm1, hf1⟩, hb1⟩; replace hf1 : Fresh (w.heap.size + 3) S1 n := hf1.le (by simp <;> omega); have hs1 : w.heap.size + 2 < w1.heap.size := Nat.lt_of_lt_of_le (by simp <;> omega) hb1.size; have bel : Below w.heap.size w w1 := Below.trans (by (repeat' (first | with_reducible exact Below.refl _ _ | with_reducible assumption | with_reducible apply below_drewN | with_reducible apply Below.drew | with_reducible apply Below.setCell | with_reducible apply Below.alloc | (simp; done) | omega | (simp; omega)))) (hb1.mono (by simp <;> omega)); have X2 := look_on (g := w.heap.size) (o := .cells (cw L).toArray 32 (0, 0)) (by simp [look_alloc, look_setRow, look_drew, look_drewN, look_setCell, Nat.add_assoc]) hb1 (by simp <;> omega); have X4 := look_on (g := w.heap.size + 1) (o := .cells (cw Z25).toArray 32 (0, 0)) (by simp [look_alloc, look_setRow, look_drew, look_drewN, look_setCell, Nat.add_assoc]) hb1 (by simp <;> omega); have X6 := look_on (g := w.heap.size + 2) (o := .cells #[.int .i64 0, .int .i64 0, .int .i64 0, .int .u32 0] 37 (0, 0)) (by simp [look_alloc, look_setRow, look_drew, look_drewN, look_setCell, Nat.add_assoc]) hb1 (by simp <;> omega); clear hb1; have N0 : ¬ w.heap.size = w1.heap.size := (by omega); have N1 : ¬ w.heap.size + 1 = w1.heap.size := (by omega); have N2 : ¬ w.heap.size + 2 = w1.heap.size := (by omega))
  go_wp2_with (first
    | (refine wpList_load_look rfl _ rfl _ rfl (fun ob hob => ?_); simp [look_alloc, look_setRow, look_drew, look_drewN, look_setCell, Nat.add_assoc, X2, X4, X6, N0, N1, N2] at hob; subst hob; refine ⟨_, rfl, by (first | with_reducible assumption | (simp only [List.length_set]; with_reducible assumption) | exact Z25_len), ?_⟩; simp only [Act.put, List.setIfInBounds_toArray, List.set_cons_zero, List.set_cons_succ])
    | (refine wpList_store_look rfl _ _ rfl _ rfl rfl (by (first | with_reducible assumption | (simp only [List.length_set]; with_reducible assumption) | exact Z25_len)) (fun ob hob => by (simp [look_alloc, look_setRow, look_drew, look_drewN, look_setCell, Nat.add_assoc, X2, X4, X6, N0, N1, N2] at hob; subst hob; exact ⟨_, rfl, by (first | with_reducible assumption | (simp only [List.length_set]; with_reducible assumption) | exact Z25_len)⟩)) (fun w2 hw2 => ?_); subst hw2; simp only [Act.put, List.setIfInBounds_toArray, List.set_cons_zero, List.set_cons_succ]))
  (refine (HD.out _).mono ?_; rintro e w2 ⟨rfl, hb2⟩; replace bel := below_step bel hb2; replace X2 := look_on X2 hb2 (by omega); replace X4 := look_on X4 hb2 (by omega); replace X6 := look_on X6 hb2 (by omega); replace hm1 := hm1.on hb2; replace hs1 : w.heap.size + 2 < w2.heap.size := Nat.lt_of_lt_of_le hs1 hb2.size; clear hb2 N0 N1 N2; have N0 : ¬ w.heap.size = w2.heap.size := (by omega); have N1 : ¬ w.heap.size + 1 = w2.heap.size := (by omega); have N2 : ¬ w.heap.size + 2 = w2.heap.size := (by omega))
  go_wp2_with fail
  refine (HP.out _).mono ?_
  rintro e w3 ⟨rfl, m3, rfl⟩
  go_wp2_with (first
    | (refine wpList_load_look_g rfl _ rfl _ rfl (fun ob hob => ?_); simp [look_alloc, look_setRow, look_drew, look_drewN, look_setCell, Nat.add_assoc, X2, X4, X6, N0, N1, N2] at hob; subst hob; refine ⟨_, rfl, by (first | with_reducible assumption | (simp only [List.length_set]; with_reducible assumption) | exact Z25_len), ?_⟩; simp only [Act.put, List.setIfInBounds_toArray, List.set_cons_zero, List.set_cons_succ]))
  refine (HK.out _).mono ?_
  rintro e w4 ⟨rfl, hb4⟩
  have hbB : Below w2.heap.size w2 w4 := Below.trans (by (repeat' (first | with_reducible exact Below.refl _ _ | with_reducible assumption | with_reducible apply below_drewN | with_reducible apply Below.drew | with_reducible apply Below.setCell | with_reducible apply Below.alloc | (simp; done) | omega | (simp; omega)))) (hb4.mono (by simp))
  clear hb4
  replace bel := below_step bel hbB
  replace X2 := look_on X2 hbB (by omega)
  replace X4 := look_on X4 hbB (by omega)
  replace X6 := look_on X6 hbB (by omega)
  replace hm1 := hm1.on hbB
  replace hs1 : w.heap.size + 2 < w4.heap.size := Nat.lt_of_lt_of_le hs1 hbB.size
  clear hbB N0 N1 N2
  have N0 : ¬ w.heap.size = w4.heap.size := by omega
  have N1 : ¬ w.heap.size + 1 = w4.heap.size := by omega
  have N2 : ¬ w.heap.size + 2 = w4.heap.size := by omega
  go_wp2_with (first
    | (refine wpList_load_look rfl _ rfl _ rfl (fun ob hob => ?_); simp [look_alloc, look_setRow, look_drew, look_drewN, look_setCell, Nat.add_assoc, X2, X4, X6, N0, N1, N2] at hob; subst hob; refine ⟨_, rfl, by (first | with_reducible assumption | (simp only [List.length_set]; with_reducible assumption) | exact Z25_len), ?_⟩; simp only [Act.put, List.setIfInBounds_toArray, List.set_cons_zero, List.set_cons_succ])
    | (refine wpList_store_look rfl _ _ rfl _ rfl rfl (by (first | with_reducible assumption | (simp only [List.length_set]; with_reducible assumption) | exact Z25_len)) (fun ob hob => by (simp [look_alloc, look_setRow, look_drew, look_drewN, look_setCell, Nat.add_assoc, X2, X4, X6, N0, N1, N2] at hob; subst hob; exact ⟨_, rfl, by (first | with_reducible assumption | (simp only [List.length_set]; with_reducible assumption) | exact Z25_len)⟩)) (fun w2 hw2 => ?_); subst hw2; simp only [Act.put, List.setIfInBounds_toArray, List.set_cons_zero, List.set_cons_succ]))
  (refine (HT.out _).mono ?_; rintro e w3 ⟨rfl, hbB⟩; replace bel := below_step bel hbB; replace X2 := look_on X2 hbB (by omega); replace X4 := look_on X4 hbB (by omega); replace X6 := look_on X6 hbB (by omega); replace hm1 := hm1.on hbB; have Y6 : ∀ cs k, (w3.setRow (w.heap.size + 1) cs).cell? ⟨w.heap.size + 1 + 1, k, none⟩ = (#[.int .i64 0, .int .i64 0, .int .i64 0, .int .u32 0] : Array Value)[k]? := (fun cs k => cell_lk (by rw [look_setRow, if_neg (by omega)]; exact X6) k); have Z6 : ∀ cs k, (w3.setRow (w.heap.size + 1) cs).frozen? ⟨w.heap.size + 1 + 1, k, none⟩ = false := (fun cs k => frozen_lk (by rw [look_setRow, if_neg (by omega)]; exact X6) k))
  go_wp2_with (first
    | (refine wpList_store_look rfl _ _ rfl _ rfl rfl (by (first | with_reducible assumption | (simp only [List.length_set]; with_reducible assumption) | exact Z25_len)) (fun ob hob => by (simp [look_alloc, look_setRow, look_drew, look_drewN, look_setCell, Nat.add_assoc, X2, X4, X6, N0, N1, N2] at hob; subst hob; exact ⟨_, rfl, by (first | with_reducible assumption | (simp only [List.length_set]; with_reducible assumption) | exact Z25_len)⟩)) (fun w2 hw2 => ?_); subst hw2; simp only [Act.put, List.setIfInBounds_toArray, List.set_cons_zero, List.set_cons_succ]))
  refine bodyPost_ret (v := .tuple #[cpV L', .slice S1 n c1, efV 0 0 0 0]) ?_ rfl ⟨⟨S1, c1, rfl, ?_, hf1.le (by omega)⟩, ?_⟩
  · exact (results_exec (p := 4) (q := 5) (r := 6) rfl _ _ (w.heap.size + 1) (w.heap.size + 1 + 1) rfl rfl (by assumption) (by simp [look_alloc, look_setRow, look_drew, look_drewN, look_setCell, Nat.add_assoc, X4] <;> rfl) (by simp [look_alloc, look_setRow, look_drew, look_drewN, look_setCell, Nat.add_assoc, X6] <;> rfl))
  · exact hm1.fresh hf1 (fun g hg => (by show lk _ g = lk _ g; simp only [look_setCell, look_setRow]; simp only [show ¬ (w.heap.size + 1 + 1 = g) by omega, show ¬ (w.heap.size + 1 = g) by omega, if_false]))
  · exact bel.trans (by (repeat' (first | with_reducible exact Below.refl _ _ | with_reducible apply Below.setCell | with_reducible apply below_setRow | (simp; done) | (simp; omega))))
end Go.Proofs.YtfnfbdjbdbifaaaDoor
