import Derived.Test.YtfnfbdjbdbifaaaDoorIsaFn2
import Derived.Laws.ResultCell
namespace Go.Proofs.YtfnfbdjbdbifaaaDoor
set_option linter.unusedVariables false
set_option linter.unusedSimpArgs false
open Go.ChangeShapes Go.WideShapes Go.ChangeAt Go.RowKit Go.Proofs.YtfnfbdjbdbifaaaDoor.Num Go.Proofs.YtfnfbdjbdbifaaaDoor.Isa Go.Proofs.YtfnfbdjbdbifaaaDoor.Mem
theorem ret_dec {op a b c m op' a' b' c' m' : Int} {k k' : Bool} (h0 : op = op') (h1 : a = a') (h2 : b = b') (h3 : c = c') (h4 : m = m') (h5 : k = k') :
    Ending.returned (.tuple #[.agg #[.int .i64 op, .int .i64 a, .int .i64 b, .int .i64 c, .int .i32 m], .bool k]) = .returned (.tuple #[.agg #[.int .i64 op', .int .i64 a', .int .i64 b', .int .i64 c', .int .i32 m'], .bool k']) := by
  rw [h0, h1, h2, h3, h4, h5]
theorem immOf_bd (op x : Int) (h0 : 0 ≤ x) (h1 : x ≤ 65535) : -2147483648 ≤ immOf op x ∧ immOf op x ≤ 2147483647 := by
  unfold immOf; split <;> omega
/-- What a call leaves where it was. -/
theorem still {w w' : World} {p : Addr} {v : Value} (h : w.cell? p = some v) (hb : Below w.heap.size w w') : w'.cell? p = some v := (hb.cell (block_lt_of_cell h)).trans h
set_option maxHeartbeats 4000000 in
theorem decode_any (x : Int) (w : World) (h0 : 0 ≤ x) (h1 : x ≤ 4294967295) :
    Calls Tryd.prog 22 #[.int .u32 x] w fun e w' => e = .returned (.tuple #[.agg #[.int .i64 (zOp x), .int .i64 (zA x), .int .i64 (zB x), .int .i64 (zC x), .int .i32 (zM x)], .bool (decide (dOk x))]) ∧ Below w.heap.size w w' := by
  obtain ⟨eo, ea, eb, el⟩ := d_wrap x h0 h1
  have hl := dL_bd x
  have q1 := f24 x h0 h1
  have q2 := f20 x h0 h1
  have q3 := f16 x h0 h1
  have q4 := f0 x h0 h1
  go_enter Tryd.func22, Tryd.ntmps22
  go_wp2_with (first
    | (go_at_call 40; refine (field_any _ _ _ _ h0 h1).mono ?_; rintro e w' ⟨rfl, m1, rfl⟩)
    | (go_at_call 41; refine (layout_any _ _).mono ?_; rintro e w' ⟨rfl, m2, rfl⟩)
    | (go_at_call 42; refine (dimm_any _ _ _ hl.1 hl.2).mono ?_; rintro e w' ⟨rfl, m3, rfl⟩))
  · have hlay : lay (dOp x) = 1 := by simpa using ‹(lay (dOp x) == 1) = true›
    have eC : dC x = dL x := by unfold dC; rw [if_pos hlay]
    have eM : dM x = 0 := by unfold dM; rw [if_pos hlay]
    refine (valid_any _ _ _ _ _ _ (by decide) (by decide)).mono ?_
    rintro e w' ⟨rfl, hb1⟩
    have c0 := still (p := ⟨w.heap.size + 1, 0, none⟩) (v := .int .i64 (dOp x)) (by simp [go_sem]) hb1
    have c1 := still (p := ⟨w.heap.size + 1, 1, none⟩) (v := .int .i64 (dA x)) (by simp [go_sem]) hb1
    have c2 := still (p := ⟨w.heap.size + 1, 2, none⟩) (v := .int .i64 (dB x)) (by simp [go_sem]) hb1
    have c3 := still (p := ⟨w.heap.size + 1, 3, none⟩) (v := .int .i64 (dL x)) (by simp [go_sem]) hb1
    have c4 := still (p := ⟨w.heap.size + 1, 4, none⟩) (v := .int .i32 0) (by simp [go_sem]) hb1
    have r0 := still (p := ⟨w.heap.size, 0, none⟩) (v := .int .i64 0) (by simp [go_sem]) hb1
    have r1 := still (p := ⟨w.heap.size, 1, none⟩) (v := .int .i64 0) (by simp [go_sem]) hb1
    have r2 := still (p := ⟨w.heap.size, 2, none⟩) (v := .int .i64 0) (by simp [go_sem]) hb1
    have r3 := still (p := ⟨w.heap.size, 3, none⟩) (v := .int .i64 0) (by simp [go_sem]) hb1
    have r4 := still (p := ⟨w.heap.size, 4, none⟩) (v := .int .i32 0) (by simp [go_sem]) hb1
    have z0 := hb1.frozen (p := ⟨w.heap.size, 0, none⟩) (by simp; try omega)
    have z1 := hb1.frozen (p := ⟨w.heap.size, 1, none⟩) (by simp; try omega)
    have z2 := hb1.frozen (p := ⟨w.heap.size, 2, none⟩) (by simp; try omega)
    have z3 := hb1.frozen (p := ⟨w.heap.size, 3, none⟩) (by simp; try omega)
    have z4 := hb1.frozen (p := ⟨w.heap.size, 4, none⟩) (by simp; try omega)
    simp [go_sem] at z0 z1 z2 z3 z4
    have bel : Below w.heap.size w w' := by
      refine Below.trans ?_ (hb1.mono (by simp; try omega))
      repeat (first | exact Below.refl _ _ | refine below_drewN ?_ _ | refine Below.drew ?_ | refine Below.setCell ?_ (by simp) _ | refine Below.alloc ?_ (by simp) _)
    clear hb1
    go_wp2
    all_goals (try simp only [Exit.inBlock, Exit.then])
    · rename_i hq
      have h : ¬ Ok (dOp x) (dA x) (dB x) (dL x) 0 := by simpa using hq
      have hd : ¬ dOk x := by unfold dOk; rw [eC, eM]; exact h
      refine bodyPost_ret (v := .tuple #[.agg #[.int .i64 0, .int .i64 0, .int .i64 0, .int .i64 0, .int .i32 0], .bool false]) ?_ rfl ⟨ret_dec ?_ ?_ ?_ ?_ ?_ ?_, ?_⟩
      · rw [results_cell_tmp rfl]; go_simp
      · unfold zOp; rw [if_neg hd]
      · unfold zA; rw [if_neg hd]
      · unfold zB; rw [if_neg hd]
      · unfold zC; rw [if_neg hd]
      · unfold zM; rw [if_neg hd]
      · simpa using hd
      · repeat (first | exact bel | refine Below.setCell ?_ (by simp) _)
    · rename_i hq
      have h : Ok (dOp x) (dA x) (dB x) (dL x) 0 := by simpa using hq
      have hd : dOk x := by unfold dOk; rw [eC, eM]; exact h
      refine bodyPost_ret (v := .tuple #[.agg #[.int .i64 (dOp x), .int .i64 (dA x), .int .i64 (dB x), .int .i64 (dL x), .int .i32 0], .bool true]) ?_ rfl ⟨ret_dec ?_ ?_ ?_ ?_ ?_ ?_, ?_⟩
      · rw [results_cell_tmp rfl]; go_simp
      · unfold zOp; rw [if_pos hd]
      · unfold zA; rw [if_pos hd]
      · unfold zB; rw [if_pos hd]
      · unfold zC; rw [if_pos hd, eC]
      · unfold zM; rw [if_pos hd, eM]
      · simpa using hd
      · repeat (first | exact bel | refine Below.setCell ?_ (by simp) _)
  · have hlay : ¬ lay (dOp x) = 1 := by simpa using ‹(lay (dOp x) == 1) = false›
    have eC : dC x = 0 := by unfold dC; rw [if_neg hlay]
    have eM : dM x = immOf (dOp x) (dL x) := by unfold dM immOf; rw [if_neg hlay]
    have hi := immOf_bd (dOp x) (dL x) hl.1 hl.2
    refine (valid_any _ _ _ _ _ _ hi.1 hi.2).mono ?_
    rintro e w' ⟨rfl, hb1⟩
    have c0 := still (p := ⟨w.heap.size + 1, 0, none⟩) (v := .int .i64 (dOp x)) (by simp [go_sem]) hb1
    have c1 := still (p := ⟨w.heap.size + 1, 1, none⟩) (v := .int .i64 (dA x)) (by simp [go_sem]) hb1
    have c2 := still (p := ⟨w.heap.size + 1, 2, none⟩) (v := .int .i64 (dB x)) (by simp [go_sem]) hb1
    have c3 := still (p := ⟨w.heap.size + 1, 3, none⟩) (v := .int .i64 0) (by simp [go_sem]) hb1
    have c4 := still (p := ⟨w.heap.size + 1, 4, none⟩) (v := .int .i32 (immOf (dOp x) (dL x))) (by simp [go_sem]) hb1
    have r0 := still (p := ⟨w.heap.size, 0, none⟩) (v := .int .i64 0) (by simp [go_sem]) hb1
    have r1 := still (p := ⟨w.heap.size, 1, none⟩) (v := .int .i64 0) (by simp [go_sem]) hb1
    have r2 := still (p := ⟨w.heap.size, 2, none⟩) (v := .int .i64 0) (by simp [go_sem]) hb1
    have r3 := still (p := ⟨w.heap.size, 3, none⟩) (v := .int .i64 0) (by simp [go_sem]) hb1
    have r4 := still (p := ⟨w.heap.size, 4, none⟩) (v := .int .i32 0) (by simp [go_sem]) hb1
    have z0 := hb1.frozen (p := ⟨w.heap.size, 0, none⟩) (by simp; try omega)
    have z1 := hb1.frozen (p := ⟨w.heap.size, 1, none⟩) (by simp; try omega)
    have z2 := hb1.frozen (p := ⟨w.heap.size, 2, none⟩) (by simp; try omega)
    have z3 := hb1.frozen (p := ⟨w.heap.size, 3, none⟩) (by simp; try omega)
    have z4 := hb1.frozen (p := ⟨w.heap.size, 4, none⟩) (by simp; try omega)
    simp [go_sem] at z0 z1 z2 z3 z4
    have bel : Below w.heap.size w w' := by
      refine Below.trans ?_ (hb1.mono (by simp; try omega))
      repeat (first | exact Below.refl _ _ | refine below_drewN ?_ _ | refine Below.drew ?_ | refine Below.setCell ?_ (by simp) _ | refine Below.alloc ?_ (by simp) _)
    clear hb1
    go_wp2
    all_goals (try simp only [Exit.inBlock, Exit.then])
    · rename_i hq
      have h : ¬ Ok (dOp x) (dA x) (dB x) 0 (immOf (dOp x) (dL x)) := by simpa using hq
      have hd : ¬ dOk x := by unfold dOk; rw [eC, eM]; exact h
      refine bodyPost_ret (v := .tuple #[.agg #[.int .i64 0, .int .i64 0, .int .i64 0, .int .i64 0, .int .i32 0], .bool false]) ?_ rfl ⟨ret_dec ?_ ?_ ?_ ?_ ?_ ?_, ?_⟩
      · rw [results_cell_tmp rfl]; go_simp
      · unfold zOp; rw [if_neg hd]
      · unfold zA; rw [if_neg hd]
      · unfold zB; rw [if_neg hd]
      · unfold zC; rw [if_neg hd]
      · unfold zM; rw [if_neg hd]
      · simpa using hd
      · repeat (first | exact bel | refine Below.setCell ?_ (by simp) _)
    · rename_i hq
      have h : Ok (dOp x) (dA x) (dB x) 0 (immOf (dOp x) (dL x)) := by simpa using hq
      have hd : dOk x := by unfold dOk; rw [eC, eM]; exact h
      refine bodyPost_ret (v := .tuple #[.agg #[.int .i64 (dOp x), .int .i64 (dA x), .int .i64 (dB x), .int .i64 0, .int .i32 (immOf (dOp x) (dL x))], .bool true]) ?_ rfl ⟨ret_dec ?_ ?_ ?_ ?_ ?_ ?_, ?_⟩
      · rw [results_cell_tmp rfl]; go_simp
      · unfold zOp; rw [if_pos hd]
      · unfold zA; rw [if_pos hd]
      · unfold zB; rw [if_pos hd]
      · unfold zC; rw [if_pos hd, eC]
      · unfold zM; rw [if_pos hd, eM]
      · simpa using hd
      · repeat (first | exact bel | refine Below.setCell ?_ (by simp) _)
end Go.Proofs.YtfnfbdjbdbifaaaDoor
