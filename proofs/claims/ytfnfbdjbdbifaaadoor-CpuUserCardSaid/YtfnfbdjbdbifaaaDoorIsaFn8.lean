import Derived.Test.YtfnfbdjbdbifaaaDoorIsaFn3
import Derived.Deep.RegionWith
import Derived.Lib.QuietBelow
import Derived.Laws.ResultCell
namespace Go.Proofs.YtfnfbdjbdbifaaaDoor
set_option linter.unusedVariables false
set_option linter.unusedSimpArgs false
open Go.ChangeShapes Go.WideShapes Go.ChangeAt Go.RowKit Go.Proofs.YtfnfbdjbdbifaaaDoor.Num Go.Proofs.YtfnfbdjbdbifaaaDoor.Isa Go.Proofs.YtfnfbdjbdbifaaaDoor.Mem
theorem and_lo (x k : Int) (j : Nat) (h0 : 0 ≤ x) (h1 : x ≤ 4294967295) (hj : j ≤ 31) (hk : k = (2 ^ j - 1) % 4294967296) : bits .and .u32 x k = x % 2 ^ j := by
  rw [hk]; exact and_low x j h0 h1 hj
theorem wrap_i16 (n : Int) : IntKind.i16.wrap n = (n + 32768) % 65536 - 32768 := by
  simp [IntKind.wrap, IntKind.bits, IntKind.signed]
  omega
theorem sext_i16 (x : Int) (h0 : 0 ≤ x) (h1 : x ≤ 65535) : wrap32 (IntKind.i16.wrap x) = if 32768 ≤ x then x - 65536 else x := by
  rw [wrap_i16]
  unfold wrap32
  split <;> omega
theorem two3 {w w' : World} {T : TypeId} {o0 o1 o2 o3 o4 i0 i1 i2 i3 i4 v : Value} {m : Nat}
    (hb1 : Below ((((w.alloc (Obj.cells #[o0, o1, o2, o3, o4] T)).alloc (Obj.cells #[i0, i1, i2, i3, i4] T)).drewN m).setCell ⟨w.heap.size + 1, 3, none⟩ v).heap.size ((((w.alloc (Obj.cells #[o0, o1, o2, o3, o4] T)).alloc (Obj.cells #[i0, i1, i2, i3, i4] T)).drewN m).setCell ⟨w.heap.size + 1, 3, none⟩ v) w') :
    (w'.cell? ⟨w.heap.size + 1, 0, none⟩ = some i0 ∧ w'.cell? ⟨w.heap.size + 1, 1, none⟩ = some i1 ∧ w'.cell? ⟨w.heap.size + 1, 2, none⟩ = some i2 ∧ w'.cell? ⟨w.heap.size + 1, 3, none⟩ = some v ∧ w'.cell? ⟨w.heap.size + 1, 4, none⟩ = some i4) ∧
    (w'.cell? ⟨w.heap.size, 0, none⟩ = some o0 ∧ w'.cell? ⟨w.heap.size, 1, none⟩ = some o1 ∧ w'.cell? ⟨w.heap.size, 2, none⟩ = some o2 ∧ w'.cell? ⟨w.heap.size, 3, none⟩ = some o3 ∧ w'.cell? ⟨w.heap.size, 4, none⟩ = some o4) ∧
    (w'.frozen? ⟨w.heap.size, 0, none⟩ = false ∧ w'.frozen? ⟨w.heap.size, 1, none⟩ = false ∧ w'.frozen? ⟨w.heap.size, 2, none⟩ = false ∧ w'.frozen? ⟨w.heap.size, 3, none⟩ = false ∧ w'.frozen? ⟨w.heap.size, 4, none⟩ = false) ∧ Below w.heap.size w w' := by
  have hs : ((((w.alloc (Obj.cells #[o0, o1, o2, o3, o4] T)).alloc (Obj.cells #[i0, i1, i2, i3, i4] T)).drewN m).setCell ⟨w.heap.size + 1, 3, none⟩ v).heap.size = w.heap.size + 2 := by simp
  refine ⟨⟨?_, ?_, ?_, ?_, ?_⟩, ⟨?_, ?_, ?_, ?_, ?_⟩, ⟨?_, ?_, ?_, ?_, ?_⟩, ?_⟩
  iterate 10 exact still (by simp [go_sem]) hb1
  iterate 5 (rw [hb1.frozen (by rw [hs]; show w.heap.size < _; omega)]; simp [go_sem])
  refine Below.trans ?_ (hb1.mono (by rw [hs]; omega))
  repeat (first | exact Below.refl _ _ | refine below_drewN ?_ _ | refine Below.drew ?_ | refine Below.setCell ?_ (by simp) _ | refine Below.alloc ?_ (by simp) _)
theorem two4 {w w' : World} {T : TypeId} {o0 o1 o2 o3 o4 i0 i1 i2 i3 i4 v : Value} {m : Nat}
    (hb1 : Below ((((w.alloc (Obj.cells #[o0, o1, o2, o3, o4] T)).alloc (Obj.cells #[i0, i1, i2, i3, i4] T)).drewN m).setCell ⟨w.heap.size + 1, 4, none⟩ v).heap.size ((((w.alloc (Obj.cells #[o0, o1, o2, o3, o4] T)).alloc (Obj.cells #[i0, i1, i2, i3, i4] T)).drewN m).setCell ⟨w.heap.size + 1, 4, none⟩ v) w') :
    (w'.cell? ⟨w.heap.size + 1, 0, none⟩ = some i0 ∧ w'.cell? ⟨w.heap.size + 1, 1, none⟩ = some i1 ∧ w'.cell? ⟨w.heap.size + 1, 2, none⟩ = some i2 ∧ w'.cell? ⟨w.heap.size + 1, 3, none⟩ = some i3 ∧ w'.cell? ⟨w.heap.size + 1, 4, none⟩ = some v) ∧
    (w'.cell? ⟨w.heap.size, 0, none⟩ = some o0 ∧ w'.cell? ⟨w.heap.size, 1, none⟩ = some o1 ∧ w'.cell? ⟨w.heap.size, 2, none⟩ = some o2 ∧ w'.cell? ⟨w.heap.size, 3, none⟩ = some o3 ∧ w'.cell? ⟨w.heap.size, 4, none⟩ = some o4) ∧
    (w'.frozen? ⟨w.heap.size, 0, none⟩ = false ∧ w'.frozen? ⟨w.heap.size, 1, none⟩ = false ∧ w'.frozen? ⟨w.heap.size, 2, none⟩ = false ∧ w'.frozen? ⟨w.heap.size, 3, none⟩ = false ∧ w'.frozen? ⟨w.heap.size, 4, none⟩ = false) ∧ Below w.heap.size w w' := by
  have hs : ((((w.alloc (Obj.cells #[o0, o1, o2, o3, o4] T)).alloc (Obj.cells #[i0, i1, i2, i3, i4] T)).drewN m).setCell ⟨w.heap.size + 1, 4, none⟩ v).heap.size = w.heap.size + 2 := by simp
  refine ⟨⟨?_, ?_, ?_, ?_, ?_⟩, ⟨?_, ?_, ?_, ?_, ?_⟩, ⟨?_, ?_, ?_, ?_, ?_⟩, ?_⟩
  iterate 10 exact still (by simp [go_sem]) hb1
  iterate 5 (rw [hb1.frozen (by rw [hs]; show w.heap.size < _; omega)]; simp [go_sem])
  refine Below.trans ?_ (hb1.mono (by rw [hs]; omega))
  repeat (first | exact Below.refl _ _ | refine below_drewN ?_ _ | refine Below.drew ?_ | refine Below.setCell ?_ (by simp) _ | refine Below.alloc ?_ (by simp) _)
theorem lay_of_frm0 {op : Int} (h : frm op = 0) : lay op = 0 := by
  rcases kind op with k | k | k | k | k | k | k | k | k | k | k <;> obtain ⟨k1, k2, k3, k4, k5⟩ := k <;> omega
theorem lay_of_frm2 {op : Int} (h : frm op = 2) : lay op = 1 := by
  rcases kind op with k | k | k | k | k | k | k | k | k | k | k <;> obtain ⟨k1, k2, k3, k4, k5⟩ := k <;> omega
theorem frm_signed {op : Int} (h : frm op = 3 ∨ frm op = 7) : ¬ lay op = 1 ∧ lo op = -32768 := by
  rcases kind op with k | k | k | k | k | k | k | k | k | k | k <;> obtain ⟨k1, k2, k3, k4, k5⟩ := k <;> omega
theorem frm_unsigned {op : Int} (h2 : ¬ frm op = 2) (h3 : ¬ frm op = 3) (h7 : ¬ frm op = 7) : ¬ lay op = 1 ∧ lo op = 0 := by
  rcases kind op with k | k | k | k | k | k | k | k | k | k | k <;> obtain ⟨k1, k2, k3, k4, k5⟩ := k <;> omega
theorem ret_none {x : Int} (h : ¬ dOk x) : Ending.returned (.tuple #[.agg #[.int .i64 0, .int .i64 0, .int .i64 0, .int .i64 0, .int .i32 0], .bool false]) =
    .returned (.tuple #[.agg #[.int .i64 (zOp x), .int .i64 (zA x), .int .i64 (zB x), .int .i64 (zC x), .int .i32 (zM x)], .bool (decide (dOk x))]) := by
  simp [zOp, zA, zB, zC, zM, h]
theorem ret_some {x c m : Int} (h : dOk x) (eC : dC x = c) (eM : dM x = m) : Ending.returned (.tuple #[.agg #[.int .i64 (dOp x), .int .i64 (dA x), .int .i64 (dB x), .int .i64 c, .int .i32 m], .bool true]) =
    .returned (.tuple #[.agg #[.int .i64 (zOp x), .int .i64 (zA x), .int .i64 (zB x), .int .i64 (zC x), .int .i32 (zM x)], .bool (decide (dOk x))]) := by
  simp [zOp, zA, zB, zC, zM, h, eC, eM]
set_option maxHeartbeats 4000000 in
theorem decode_ref (x : Int) (w : World) (h0 : 0 ≤ x) (h1 : x ≤ 4294967295) :
    Calls Tryd.prog 56 #[.int .u32 x] w fun e w' => e = .returned (.tuple #[.agg #[.int .i64 (zOp x), .int .i64 (zA x), .int .i64 (zB x), .int .i64 (zC x), .int .i32 (zM x)], .bool (decide (dOk x))]) ∧ Below w.heap.size w w' := by
  obtain ⟨eo, ea, eb, el⟩ := d_wrap x h0 h1
  have hl := dL_bd x
  have q1 : x / 16777216 = dOp x := rfl
  have q2 : bits .and .u32 (x / 1048576) 15 = dA x := by rw [and_lo _ 15 4 (by omega) (by omega) (by decide) (by decide)]; rfl
  have q3 : bits .and .u32 (x / 65536) 15 = dB x := by rw [and_lo _ 15 4 (by omega) (by omega) (by decide) (by decide)]; rfl
  have q4 : bits .and .u32 x 65535 = dL x := by rw [and_lo _ 65535 16 (by omega) (by omega) (by decide) (by decide)]; rfl
  go_enter Tryd.func56, Tryd.ntmps56
  go_wp2_with (go_at_call 33; refine (form_ref _ _).mono ?_; rintro e w' ⟨rfl, m2, rfl⟩)
  all_goals (try simp only [Exit.inBlock, Exit.then])
  · have hz : frm (dOp x) = 0 := by simpa using ‹(frm (dOp x) == 0) = true›
    have hd : ¬ dOk x := fun h => h.1 (lay_of_frm0 hz)
    refine bodyPost_ret (v := .tuple #[.agg #[.int .i64 0, .int .i64 0, .int .i64 0, .int .i64 0, .int .i32 0], .bool false]) ?_ rfl ⟨ret_none hd, ?_⟩
    · rw [results_cell_tmp rfl]; go_simp
    · repeat (first | exact Below.refl _ _ | refine below_drewN ?_ _ | refine Below.drew ?_ | refine Below.setCell ?_ (by simp) _ | refine Below.alloc ?_ (by simp) _)
  · have hlay : lay (dOp x) = 1 := lay_of_frm2 (by simpa using ‹(frm (dOp x) == 2) = true›)
    have eC : dC x = dL x := by unfold dC; rw [if_pos hlay]
    have eM : dM x = 0 := by unfold dM; rw [if_pos hlay]
    have hm1 : (-2147483648 : Int) ≤ 0 ∧ 0 ≤ (2147483647 : Int) := by decide
    refine (valid_ref _ _ _ _ _ _ hm1.1 hm1.2).mono ?_
    rintro e w' ⟨rfl, hb1⟩
    obtain ⟨⟨c0, c1, c2, c3, c4⟩, ⟨r0, r1, r2, r3, r4⟩, ⟨z0, z1, z2, z3, z4⟩, bel⟩ := two3 hb1
    clear hb1
    go_wp2
    all_goals (try simp only [Exit.inBlock, Exit.then])
    · rename_i hq
      have h : ¬ Ok (dOp x) (dA x) (dB x) (dL x) 0 := by simpa using hq
      have hd : ¬ dOk x := by unfold dOk; rw [eC, eM]; exact h
      refine bodyPost_ret (v := .tuple #[.agg #[.int .i64 0, .int .i64 0, .int .i64 0, .int .i64 0, .int .i32 0], .bool false]) ?_ rfl ⟨ret_none hd, ?_⟩
      · rw [results_cell_tmp rfl]; go_simp
      · repeat (first | exact bel | refine Below.setCell ?_ (by simp) _)
    · rename_i hq
      have h : Ok (dOp x) (dA x) (dB x) (dL x) 0 := by simpa using hq
      have hd : dOk x := by unfold dOk; rw [eC, eM]; exact h
      refine bodyPost_ret (v := .tuple #[.agg #[.int .i64 (dOp x), .int .i64 (dA x), .int .i64 (dB x), .int .i64 (dL x), .int .i32 0], .bool true]) ?_ rfl ⟨ret_some hd eC eM, ?_⟩
      · rw [results_cell_tmp rfl]; go_simp
      · repeat (first | exact bel | refine Below.setCell ?_ (by simp) _)
  · have hf := frm_signed (op := dOp x) (Or.inl (by simpa using ‹(frm (dOp x) == 3) = true›))
    have eC : dC x = 0 := by unfold dC; rw [if_neg hf.1]
    have eM : dM x = wrap32 (IntKind.i16.wrap (dL x)) := by rw [sext_i16 _ hl.1 hl.2]; unfold dM; rw [if_neg hf.1]; simp [hf.2]
    have hm1 : (-2147483648 : Int) ≤ (wrap32 (IntKind.i16.wrap (dL x))) ∧ (wrap32 (IntKind.i16.wrap (dL x))) ≤ (2147483647 : Int) := by rw [sext_i16 _ hl.1 hl.2]; split <;> omega
    refine (valid_ref _ _ _ _ _ _ hm1.1 hm1.2).mono ?_
    rintro e w' ⟨rfl, hb1⟩
    obtain ⟨⟨c0, c1, c2, c3, c4⟩, ⟨r0, r1, r2, r3, r4⟩, ⟨z0, z1, z2, z3, z4⟩, bel⟩ := two4 hb1
    clear hb1
    go_wp2
    all_goals (try simp only [Exit.inBlock, Exit.then])
    · rename_i hq
      have h : ¬ Ok (dOp x) (dA x) (dB x) 0 (wrap32 (IntKind.i16.wrap (dL x))) := by simpa using hq
      have hd : ¬ dOk x := by unfold dOk; rw [eC, eM]; exact h
      refine bodyPost_ret (v := .tuple #[.agg #[.int .i64 0, .int .i64 0, .int .i64 0, .int .i64 0, .int .i32 0], .bool false]) ?_ rfl ⟨ret_none hd, ?_⟩
      · rw [results_cell_tmp rfl]; go_simp
      · repeat (first | exact bel | refine Below.setCell ?_ (by simp) _)
    · rename_i hq
      have h : Ok (dOp x) (dA x) (dB x) 0 (wrap32 (IntKind.i16.wrap (dL x))) := by simpa using hq
      have hd : dOk x := by unfold dOk; rw [eC, eM]; exact h
      refine bodyPost_ret (v := .tuple #[.agg #[.int .i64 (dOp x), .int .i64 (dA x), .int .i64 (dB x), .int .i64 0, .int .i32 (wrap32 (IntKind.i16.wrap (dL x)))], .bool true]) ?_ rfl ⟨ret_some hd eC eM, ?_⟩
      · rw [results_cell_tmp rfl]; go_simp
      · repeat (first | exact bel | refine Below.setCell ?_ (by simp) _)
  · have hf := frm_signed (op := dOp x) (Or.inr (by simpa using ‹(frm (dOp x) == 7) = true›))
    have eC : dC x = 0 := by unfold dC; rw [if_neg hf.1]
    have eM : dM x = wrap32 (IntKind.i16.wrap (dL x)) := by rw [sext_i16 _ hl.1 hl.2]; unfold dM; rw [if_neg hf.1]; simp [hf.2]
    have hm1 : (-2147483648 : Int) ≤ (wrap32 (IntKind.i16.wrap (dL x))) ∧ (wrap32 (IntKind.i16.wrap (dL x))) ≤ (2147483647 : Int) := by rw [sext_i16 _ hl.1 hl.2]; split <;> omega
    refine (valid_ref _ _ _ _ _ _ hm1.1 hm1.2).mono ?_
    rintro e w' ⟨rfl, hb1⟩
    obtain ⟨⟨c0, c1, c2, c3, c4⟩, ⟨r0, r1, r2, r3, r4⟩, ⟨z0, z1, z2, z3, z4⟩, bel⟩ := two4 hb1
    clear hb1
    go_wp2
    all_goals (try simp only [Exit.inBlock, Exit.then])
    · rename_i hq
      have h : ¬ Ok (dOp x) (dA x) (dB x) 0 (wrap32 (IntKind.i16.wrap (dL x))) := by simpa using hq
      have hd : ¬ dOk x := by unfold dOk; rw [eC, eM]; exact h
      refine bodyPost_ret (v := .tuple #[.agg #[.int .i64 0, .int .i64 0, .int .i64 0, .int .i64 0, .int .i32 0], .bool false]) ?_ rfl ⟨ret_none hd, ?_⟩
      · rw [results_cell_tmp rfl]; go_simp
      · repeat (first | exact bel | refine Below.setCell ?_ (by simp) _)
    · rename_i hq
      have h : Ok (dOp x) (dA x) (dB x) 0 (wrap32 (IntKind.i16.wrap (dL x))) := by simpa using hq
      have hd : dOk x := by unfold dOk; rw [eC, eM]; exact h
      refine bodyPost_ret (v := .tuple #[.agg #[.int .i64 (dOp x), .int .i64 (dA x), .int .i64 (dB x), .int .i64 0, .int .i32 (wrap32 (IntKind.i16.wrap (dL x)))], .bool true]) ?_ rfl ⟨ret_some hd eC eM, ?_⟩
      · rw [results_cell_tmp rfl]; go_simp
      · repeat (first | exact bel | refine Below.setCell ?_ (by simp) _)
  · have hf := frm_unsigned (op := dOp x) (by simpa using ‹(frm (dOp x) == 2) = false›) (by simpa using ‹(frm (dOp x) == 3) = false›) (by simpa using ‹(frm (dOp x) == 7) = false›)
    have eC : dC x = 0 := by unfold dC; rw [if_neg hf.1]
    have eM : dM x = dL x := by unfold dM; rw [if_neg hf.1, if_neg (by omega)]
    have hm1 : (-2147483648 : Int) ≤ (dL x) ∧ (dL x) ≤ (2147483647 : Int) := by omega
    refine (valid_ref _ _ _ _ _ _ hm1.1 hm1.2).mono ?_
    rintro e w' ⟨rfl, hb1⟩
    obtain ⟨⟨c0, c1, c2, c3, c4⟩, ⟨r0, r1, r2, r3, r4⟩, ⟨z0, z1, z2, z3, z4⟩, bel⟩ := two4 hb1
    clear hb1
    go_wp2
    all_goals (try simp only [Exit.inBlock, Exit.then])
    · rename_i hq
      have h : ¬ Ok (dOp x) (dA x) (dB x) 0 (dL x) := by simpa using hq
      have hd : ¬ dOk x := by unfold dOk; rw [eC, eM]; exact h
      refine bodyPost_ret (v := .tuple #[.agg #[.int .i64 0, .int .i64 0, .int .i64 0, .int .i64 0, .int .i32 0], .bool false]) ?_ rfl ⟨ret_none hd, ?_⟩
      · rw [results_cell_tmp rfl]; go_simp
      · repeat (first | exact bel | refine Below.setCell ?_ (by simp) _)
    · rename_i hq
      have h : Ok (dOp x) (dA x) (dB x) 0 (dL x) := by simpa using hq
      have hd : dOk x := by unfold dOk; rw [eC, eM]; exact h
      refine bodyPost_ret (v := .tuple #[.agg #[.int .i64 (dOp x), .int .i64 (dA x), .int .i64 (dB x), .int .i64 0, .int .i32 (dL x)], .bool true]) ?_ rfl ⟨ret_some hd eC eM, ?_⟩
      · rw [results_cell_tmp rfl]; go_simp
      · repeat (first | exact bel | refine Below.setCell ?_ (by simp) _)
end Go.Proofs.YtfnfbdjbdbifaaaDoor
