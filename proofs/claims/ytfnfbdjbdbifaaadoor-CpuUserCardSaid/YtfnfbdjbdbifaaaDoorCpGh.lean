import Derived.Test.YtfnfbdjbdbifaaaDoorCpGf
import Derived.Test.YtfnfbdjbdbifaaaDoorCpGb
import Derived.Test.YtfnfbdjbdbifaaaDoorCpGg
import Derived.Test.YtfnfbdjbdbifaaaDoorCpFn3
import Derived.StillTailTactics
import Derived.Test.YtfnfbdjbdbifaaaDoorIsaFn8
namespace Go.Proofs.YtfnfbdjbdbifaaaDoor
set_option linter.unusedVariables false
set_option linter.unusedSimpArgs false
set_option maxRecDepth 20000
open Go.ChangeShapes Go.WideShapes Go.ChangeAt Go.RowKit Go.Proofs.YtfnfbdjbdbifaaaDoor.Num Go.Proofs.YtfnfbdjbdbifaaaDoor.Mem Go.Proofs.YtfnfbdjbdbifaaaDoor.Isa
/- The reference: system instructions. -/
theorem results_ce {fn : Func} {p r : Tmp} (h : fn.results = #[.cell p 32, .cell r 37]) (tmps : Array Value) (w : World) (g g' : Nat) (hp : tmps.getD p undef = .pointer (some ⟨g, 0, none⟩)) (hr : tmps.getD r undef = .pointer (some ⟨g', 0, none⟩))
    {L : List Int} {K P R V : Int} (hL : L.length = 25) (hb : lk w g = some (.cells (cw L).toArray 32 (0, 0))) (he : lk w g' = some (.cells #[.int .i64 K, .int .i64 P, .int .i64 R, .int .u32 V] 37 (0, 0))) :
    (results fn tmps).run Tryd.prog w = .ok (.tuple #[cpV L, efV K P R V]) w := by
  obtain ⟨fs, hu⟩ := undCpu
  have e1 := run_loadVar_row (P := Tryd.prog) w g _ 32 _ (0, 0) _ hb hu rfl (by rw [List.size_toArray, cw_len hL]; exact infCpu)
  have e2 := run_effect w g' K P R V he
  have hp' : tmps[p]?.getD undef = .pointer (some ⟨g, 0, none⟩) := by simpa using hp
  have hr' : tmps[r]?.getD undef = .pointer (some ⟨g', 0, none⟩) := by simpa using hr
  simp [results, h, hp', hr', asAddr, e1, e2, cpV, Sem.run_bind]
theorem undEff : ∃ fs, Tryd.prog.underlying 37 = some (.struct fs) := ⟨_, Tryd.underlying37⟩
/-- What a system instruction gives. -/
def SyPost (L' : List Int) (K P R V : Int) (w : World) (e : Ending) (w' : World) : Prop := e = .returned (.tuple #[cpV L', efV K P R V]) ∧ Below w.heap.size w w'
set_option maxHeartbeats 1000000 in
theorem sys_wfi (L : List Int) (A b c m : Int) (w : World) (hL : C25 L) :
    Calls Tryd.prog 58 #[cpV L, instV 62 A b c m] w (SyPost (L.set 16 ((wd L 16 + 4) % 4294967296)) 3 0 0 0 w) := by
  have hLL := hL.1
  have e16 := cw_at hLL (show 16 < 25 by omega)
  have hRT : (L.set 16 ((wd L 16 + 4) % 4294967296)).length = 25 := by rw [List.length_set]; exact hLL
  unfold instV
  obtain ⟨F1, F2, F3, -⟩ := cw_facts
  go_enter Tryd.func58, Tryd.ntmps58
  repeat' (first
    | (with_reducible refine then_normal ?_) | (with_reducible refine wp_exit ?_) | (with_reducible refine wp_ret ?_) | (with_reducible refine then_exit ?_) | (with_reducible refine blk_hit ?_) | (with_reducible refine blk_pass (by decide) ?_) | (with_reducible refine then_ret ?_) | (with_reducible refine blk_ret ?_) | (with_reducible refine blk_normal ?_)
    | (refine wpList_box_box rfl _ rfl rfl ?_; simp only [Act.put, List.setIfInBounds_toArray, List.set_cons_zero, List.set_cons_succ])
    | (refine wpList_alloc_box rfl rfl ?_; simp only [Act.put, List.setIfInBounds_toArray, List.set_cons_zero, List.set_cons_succ])
    | go_values | go_skip | go_guarded | go_step | go_upon | (simp only [Int.not_lt, Int.not_le] at *; go_simp) | (go_values <;> (try go_simp)) | (go_ite <;> go_prune <;> (try go_simp)))
  simp only [World.size_alloc]
  generalize hW : (World.alloc (World.alloc (World.alloc (World.alloc (World.alloc w _) _) _) _) _) = W
  have X2 : lk W w.heap.size = some (.cells (cw (L.set 16 ((wd L 16 + 4) % 4294967296))).toArray 32 (0, 0)) := by rw [← hW]; simp [look_alloc, look_setRow, look_drew, look_drewN, look_setCell, Nat.add_assoc] <;> omega
  have X3 : lk W (w.heap.size + 1) = some (.cells #[.int .i64 62, .int .i64 A, .int .i64 b, .int .i64 c, .int .i32 m] 27 (0, 0)) := by rw [← hW]; simp [look_alloc, look_setRow, look_drew, look_drewN, look_setCell, Nat.add_assoc]
  have X4 : lk W (w.heap.size + 1 + 1) = some (.cells (cw Z25).toArray 32 (0, 0)) := by rw [← hW]; simp [look_alloc, look_setRow, look_drew, look_drewN, look_setCell, Nat.add_assoc]
  have X5 : lk W (w.heap.size + 1 + 1 + 1) = some (.cells #[.int .i64 0, .int .i64 0, .int .i64 0, .int .u32 0] 37 (0, 0)) := by rw [← hW]; simp [look_alloc, look_setRow, look_drew, look_drewN, look_setCell, Nat.add_assoc]
  have X6 : lk W (w.heap.size + 1 + 1 + 1 + 1) = some (.cells #[.int .i64 3, .int .i64 0, .int .i64 0, .int .u32 0] 37 (0, 0)) := by rw [← hW]; simp [look_alloc, look_setRow, look_drew, look_drewN, look_setCell, Nat.add_assoc]
  have bel : Below w.heap.size w W := by rw [← hW]; (repeat' (first | with_reducible exact Below.refl _ _ | with_reducible assumption | with_reducible apply below_drewN | with_reducible apply Below.drew | with_reducible apply Below.setCell | with_reducible apply Below.alloc | (simp; done) | omega | (simp; omega)))
  have hsz : w.heap.size + 4 < W.heap.size := by rw [← hW]; simp
  clear hW
  obtain ⟨fs, hu⟩ := undCpu
  obtain ⟨fE, huE⟩ := undEff
  have hiR : (Tryd.prog.info? 32).map (·.size) = some (cw (L.set 16 ((wd L 16 + 4) % 4294967296))).length := by rw [cw_len hRT]; exact infCpu
  have hiE : (Tryd.prog.info? 37).map (·.size) = some ([.int .i64 3, .int .i64 0, .int .i64 0, .int .u32 0] : List Value).length := infEff
  have q4 : ¬ w.heap.size + 1 + 1 = w.heap.size := by omega
  have q46 : ¬ w.heap.size + 1 + 1 = w.heap.size + 1 + 1 + 1 + 1 := by omega
  have q45 : ¬ w.heap.size + 1 + 1 = w.heap.size + 1 + 1 + 1 := by omega
  have q54 : ¬ w.heap.size + 1 + 1 + 1 = w.heap.size + 1 + 1 := by omega
  have q5 : ¬ w.heap.size + 1 + 1 + 1 = w.heap.size := by omega
  have q56 : ¬ w.heap.size + 1 + 1 + 1 = w.heap.size + 1 + 1 + 1 + 1 := by omega
  refine wp_region_held_drew (S := fun w' => lk w' w.heap.size = some (.cells (cw (L.set 16 ((wd L 16 + 4) % 4294967296))).toArray 32 (0, 0)) ∧ lk w' (w.heap.size + 1 + 1 + 1 + 1) = some (.cells #[.int .i64 3, .int .i64 0, .int .i64 0, .int .u32 0] 37 (0, 0))) (by kernel_rfl) ⟨X2, X6⟩ (fun hHeld => ?_)
  replace hsz : w.heap.size + 4 < W.drew.heap.size := hsz
  have Z2 : lk W.drew w.heap.size = _ := X2
  have Z4 : lk W.drew (w.heap.size + 1 + 1) = _ := X4
  have Z5 : lk W.drew (w.heap.size + 1 + 1 + 1) = _ := X5
  have Z6 : lk W.drew (w.heap.size + 1 + 1 + 1 + 1) = _ := X6
  replace bel : Below w.heap.size w W.drew := bel.drew
  clear X2 X4 X5 X6
  (refine' wpAnyH_take (i := 0) (oi := _) (v := _) rfl (by kernel_rfl) (by kernel_rfl) (by kernel_rfl) (fun _ _ _ h => h) (yieldsIf_load_mid (by rfl) _ _ rfl _ 0 rfl (cw (L.set 16 ((wd L 16 + 4) % 4294967296))) _ (fun w hw => range_lk hw.1) hu rfl hiR) (by assumption) ?_; (try simp only [List.getElem_toArray, List.getElem_cons_succ, List.getElem_cons_zero, Act.put, List.setIfInBounds_toArray, List.set_cons_zero, List.set_cons_succ]))
  (refine' wpAnyH_take (i := 1) (oi := _) (v := _) rfl (by kernel_rfl) (by kernel_rfl) (by kernel_rfl) (fun _ _ _ h => h) (yieldsIf_load_mid (by rfl) _ _ rfl _ 0 rfl [.int .i64 3, .int .i64 0, .int .i64 0, .int .u32 0] _ (fun w hw => range_lk hw.2) huE rfl hiE) (by assumption) ?_; (try simp only [List.getElem_toArray, List.getElem_cons_succ, List.getElem_cons_zero, Act.put, List.setIfInBounds_toArray, List.set_cons_zero, List.set_cons_succ]))
  generalize W.drew = W9 at *
  have V2 : lk (W9.setRow (w.heap.size + 1 + 1) (cw (L.set 16 ((wd L 16 + 4) % 4294967296))).toArray) w.heap.size = _ := lk_rowN Z2 q4
  have V4 := lk_row (M := (L.set 16 ((wd L 16 + 4) % 4294967296))) Z4
  have V5 : lk (W9.setRow (w.heap.size + 1 + 1) (cw (L.set 16 ((wd L 16 + 4) % 4294967296))).toArray) (w.heap.size + 1 + 1 + 1) = _ := lk_rowN Z5 q45
  have V6 : lk (W9.setRow (w.heap.size + 1 + 1) (cw (L.set 16 ((wd L 16 + 4) % 4294967296))).toArray) (w.heap.size + 1 + 1 + 1 + 1) = _ := lk_rowN Z6 q46
  (refine wpAnyH_ready (rs := [2]) (by kernel_rfl) (by simp) ?_; refine AllReadyH.cons (o := _) rfl (fun K hK => ?_) AllReadyH.nil; rw [if_pos (by rfl)])
  refine wp_store_cpu _ _ rfl _ rfl rfl hRT Z4 Z25_len ?_
  (try dsimp only); refine hK.out _ _ (by exact ⟨V2, V6⟩) (fun hHeld => ?_); clear hK K; (try simp only [List.getElem_toArray, List.getElem_cons_succ, List.getElem_cons_zero, Act.put, List.setIfInBounds_toArray, List.set_cons_zero, List.set_cons_succ])
  have U5 : lk ((W9.setRow (w.heap.size + 1 + 1) (cw (L.set 16 ((wd L 16 + 4) % 4294967296))).toArray).setRow (w.heap.size + 1 + 1 + 1) #[.int .i64 3, .int .i64 0, .int .i64 0, .int .u32 0]) (w.heap.size + 1 + 1 + 1) = some (.cells #[.int .i64 3, .int .i64 0, .int .i64 0, .int .u32 0] 37 (0, 0)) := by rw [look_setRow, if_pos rfl, V5]; rfl
  (refine wpAnyH_ready (rs := [3]) (by kernel_rfl) (by simp) ?_; refine AllReadyH.cons (o := _) rfl (fun K hK => ?_) AllReadyH.nil; rw [if_pos (by rfl)])
  refine wp_store_row 37 _ _ rfl (w.heap.size + 1 + 1 + 1) #[.int .i64 3, .int .i64 0, .int .i64 0, .int .u32 0] rfl rfl _ _ V5 infEff rfl (by simp [Value.oneCell']) ?_
  (try dsimp only); refine hK.out _ _ (by exact ⟨lk_rowN V2 q5, lk_rowN V6 q56⟩) (fun hHeld => ?_); clear hK K; (try simp only [List.getElem_toArray, List.getElem_cons_succ, List.getElem_cons_zero, Act.put, List.setIfInBounds_toArray, List.set_cons_zero, List.set_cons_succ])
  refine wpAnyH_done (by kernel_rfl) ?_ _
  (try simp only [List.getElem_toArray, List.getElem_cons_succ, List.getElem_cons_zero, Act.put, List.setIfInBounds_toArray, List.set_cons_zero, List.set_cons_succ])
  go_wp2_with fail
  exact bodyPost_ret (v := .tuple #[cpV (L.set 16 ((wd L 16 + 4) % 4294967296)), .agg #[.int .i64 3, .int .i64 0, .int .i64 0, .int .u32 0]]) (results_ce (p := 4) (r := 5) rfl _ _ (w.heap.size + 1 + 1) (w.heap.size + 1 + 1 + 1) rfl rfl hRT (lk_rowN V4 q54) U5) rfl ⟨rfl, below_setRow (below_setRow bel _ (by omega) _) _ (by omega) _⟩
set_option maxHeartbeats 1000000 in
theorem sys_flush (L : List Int) (A b c m : Int) (w : World) (hL : C25 L) :
    Calls Tryd.prog 58 #[cpV L, instV 63 A b c m] w (SyPost (L.set 16 ((wd L 16 + 4) % 4294967296)) 5 0 0 0 w) := by
  have hLL := hL.1
  have e16 := cw_at hLL (show 16 < 25 by omega)
  have hRT : (L.set 16 ((wd L 16 + 4) % 4294967296)).length = 25 := by rw [List.length_set]; exact hLL
  unfold instV
  obtain ⟨F1, F2, F3, -⟩ := cw_facts
  go_enter Tryd.func58, Tryd.ntmps58
  repeat' (first
    | (with_reducible refine then_normal ?_) | (with_reducible refine wp_exit ?_) | (with_reducible refine wp_ret ?_) | (with_reducible refine then_exit ?_) | (with_reducible refine blk_hit ?_) | (with_reducible refine blk_pass (by decide) ?_) | (with_reducible refine then_ret ?_) | (with_reducible refine blk_ret ?_) | (with_reducible refine blk_normal ?_)
    | (refine wpList_box_box rfl _ rfl rfl ?_; simp only [Act.put, List.setIfInBounds_toArray, List.set_cons_zero, List.set_cons_succ])
    | (refine wpList_alloc_box rfl rfl ?_; simp only [Act.put, List.setIfInBounds_toArray, List.set_cons_zero, List.set_cons_succ])
    | go_values | go_skip | go_guarded | go_step | go_upon | (simp only [Int.not_lt, Int.not_le] at *; go_simp) | (go_values <;> (try go_simp)) | (go_ite <;> go_prune <;> (try go_simp)))
  simp only [World.size_alloc]
  generalize hW : (World.alloc (World.alloc (World.alloc (World.alloc (World.alloc w _) _) _) _) _) = W
  have X2 : lk W w.heap.size = some (.cells (cw (L.set 16 ((wd L 16 + 4) % 4294967296))).toArray 32 (0, 0)) := by rw [← hW]; simp [look_alloc, look_setRow, look_drew, look_drewN, look_setCell, Nat.add_assoc] <;> omega
  have X3 : lk W (w.heap.size + 1) = some (.cells #[.int .i64 63, .int .i64 A, .int .i64 b, .int .i64 c, .int .i32 m] 27 (0, 0)) := by rw [← hW]; simp [look_alloc, look_setRow, look_drew, look_drewN, look_setCell, Nat.add_assoc]
  have X4 : lk W (w.heap.size + 1 + 1) = some (.cells (cw Z25).toArray 32 (0, 0)) := by rw [← hW]; simp [look_alloc, look_setRow, look_drew, look_drewN, look_setCell, Nat.add_assoc]
  have X5 : lk W (w.heap.size + 1 + 1 + 1) = some (.cells #[.int .i64 0, .int .i64 0, .int .i64 0, .int .u32 0] 37 (0, 0)) := by rw [← hW]; simp [look_alloc, look_setRow, look_drew, look_drewN, look_setCell, Nat.add_assoc]
  have X6 : lk W (w.heap.size + 1 + 1 + 1 + 1) = some (.cells #[.int .i64 5, .int .i64 0, .int .i64 0, .int .u32 0] 37 (0, 0)) := by rw [← hW]; simp [look_alloc, look_setRow, look_drew, look_drewN, look_setCell, Nat.add_assoc]
  have bel : Below w.heap.size w W := by rw [← hW]; (repeat' (first | with_reducible exact Below.refl _ _ | with_reducible assumption | with_reducible apply below_drewN | with_reducible apply Below.drew | with_reducible apply Below.setCell | with_reducible apply Below.alloc | (simp; done) | omega | (simp; omega)))
  have hsz : w.heap.size + 4 < W.heap.size := by rw [← hW]; simp
  clear hW
  obtain ⟨fs, hu⟩ := undCpu
  obtain ⟨fE, huE⟩ := undEff
  have hiR : (Tryd.prog.info? 32).map (·.size) = some (cw (L.set 16 ((wd L 16 + 4) % 4294967296))).length := by rw [cw_len hRT]; exact infCpu
  have hiE : (Tryd.prog.info? 37).map (·.size) = some ([.int .i64 5, .int .i64 0, .int .i64 0, .int .u32 0] : List Value).length := infEff
  have q4 : ¬ w.heap.size + 1 + 1 = w.heap.size := by omega
  have q46 : ¬ w.heap.size + 1 + 1 = w.heap.size + 1 + 1 + 1 + 1 := by omega
  have q45 : ¬ w.heap.size + 1 + 1 = w.heap.size + 1 + 1 + 1 := by omega
  have q54 : ¬ w.heap.size + 1 + 1 + 1 = w.heap.size + 1 + 1 := by omega
  have q5 : ¬ w.heap.size + 1 + 1 + 1 = w.heap.size := by omega
  have q56 : ¬ w.heap.size + 1 + 1 + 1 = w.heap.size + 1 + 1 + 1 + 1 := by omega
  refine wp_region_held_drew (S := fun w' => lk w' w.heap.size = some (.cells (cw (L.set 16 ((wd L 16 + 4) % 4294967296))).toArray 32 (0, 0)) ∧ lk w' (w.heap.size + 1 + 1 + 1 + 1) = some (.cells #[.int .i64 5, .int .i64 0, .int .i64 0, .int .u32 0] 37 (0, 0))) (by kernel_rfl) ⟨X2, X6⟩ (fun hHeld => ?_)
  replace hsz : w.heap.size + 4 < W.drew.heap.size := hsz
  have Z2 : lk W.drew w.heap.size = _ := X2
  have Z4 : lk W.drew (w.heap.size + 1 + 1) = _ := X4
  have Z5 : lk W.drew (w.heap.size + 1 + 1 + 1) = _ := X5
  have Z6 : lk W.drew (w.heap.size + 1 + 1 + 1 + 1) = _ := X6
  replace bel : Below w.heap.size w W.drew := bel.drew
  clear X2 X4 X5 X6
  (refine' wpAnyH_take (i := 0) (oi := _) (v := _) rfl (by kernel_rfl) (by kernel_rfl) (by kernel_rfl) (fun _ _ _ h => h) (yieldsIf_load_mid (by rfl) _ _ rfl _ 0 rfl (cw (L.set 16 ((wd L 16 + 4) % 4294967296))) _ (fun w hw => range_lk hw.1) hu rfl hiR) (by assumption) ?_; (try simp only [List.getElem_toArray, List.getElem_cons_succ, List.getElem_cons_zero, Act.put, List.setIfInBounds_toArray, List.set_cons_zero, List.set_cons_succ]))
  (refine' wpAnyH_take (i := 1) (oi := _) (v := _) rfl (by kernel_rfl) (by kernel_rfl) (by kernel_rfl) (fun _ _ _ h => h) (yieldsIf_load_mid (by rfl) _ _ rfl _ 0 rfl [.int .i64 5, .int .i64 0, .int .i64 0, .int .u32 0] _ (fun w hw => range_lk hw.2) huE rfl hiE) (by assumption) ?_; (try simp only [List.getElem_toArray, List.getElem_cons_succ, List.getElem_cons_zero, Act.put, List.setIfInBounds_toArray, List.set_cons_zero, List.set_cons_succ]))
  generalize W.drew = W9 at *
  have V2 : lk (W9.setRow (w.heap.size + 1 + 1) (cw (L.set 16 ((wd L 16 + 4) % 4294967296))).toArray) w.heap.size = _ := lk_rowN Z2 q4
  have V4 := lk_row (M := (L.set 16 ((wd L 16 + 4) % 4294967296))) Z4
  have V5 : lk (W9.setRow (w.heap.size + 1 + 1) (cw (L.set 16 ((wd L 16 + 4) % 4294967296))).toArray) (w.heap.size + 1 + 1 + 1) = _ := lk_rowN Z5 q45
  have V6 : lk (W9.setRow (w.heap.size + 1 + 1) (cw (L.set 16 ((wd L 16 + 4) % 4294967296))).toArray) (w.heap.size + 1 + 1 + 1 + 1) = _ := lk_rowN Z6 q46
  (refine wpAnyH_ready (rs := [2]) (by kernel_rfl) (by simp) ?_; refine AllReadyH.cons (o := _) rfl (fun K hK => ?_) AllReadyH.nil; rw [if_pos (by rfl)])
  refine wp_store_cpu _ _ rfl _ rfl rfl hRT Z4 Z25_len ?_
  (try dsimp only); refine hK.out _ _ (by exact ⟨V2, V6⟩) (fun hHeld => ?_); clear hK K; (try simp only [List.getElem_toArray, List.getElem_cons_succ, List.getElem_cons_zero, Act.put, List.setIfInBounds_toArray, List.set_cons_zero, List.set_cons_succ])
  have U5 : lk ((W9.setRow (w.heap.size + 1 + 1) (cw (L.set 16 ((wd L 16 + 4) % 4294967296))).toArray).setRow (w.heap.size + 1 + 1 + 1) #[.int .i64 5, .int .i64 0, .int .i64 0, .int .u32 0]) (w.heap.size + 1 + 1 + 1) = some (.cells #[.int .i64 5, .int .i64 0, .int .i64 0, .int .u32 0] 37 (0, 0)) := by rw [look_setRow, if_pos rfl, V5]; rfl
  (refine wpAnyH_ready (rs := [3]) (by kernel_rfl) (by simp) ?_; refine AllReadyH.cons (o := _) rfl (fun K hK => ?_) AllReadyH.nil; rw [if_pos (by rfl)])
  refine wp_store_row 37 _ _ rfl (w.heap.size + 1 + 1 + 1) #[.int .i64 5, .int .i64 0, .int .i64 0, .int .u32 0] rfl rfl _ _ V5 infEff rfl (by simp [Value.oneCell']) ?_
  (try dsimp only); refine hK.out _ _ (by exact ⟨lk_rowN V2 q5, lk_rowN V6 q56⟩) (fun hHeld => ?_); clear hK K; (try simp only [List.getElem_toArray, List.getElem_cons_succ, List.getElem_cons_zero, Act.put, List.setIfInBounds_toArray, List.set_cons_zero, List.set_cons_succ])
  refine wpAnyH_done (by kernel_rfl) ?_ _
  (try simp only [List.getElem_toArray, List.getElem_cons_succ, List.getElem_cons_zero, Act.put, List.setIfInBounds_toArray, List.set_cons_zero, List.set_cons_succ])
  go_wp2_with fail
  exact bodyPost_ret (v := .tuple #[cpV (L.set 16 ((wd L 16 + 4) % 4294967296)), .agg #[.int .i64 5, .int .i64 0, .int .i64 0, .int .u32 0]]) (results_ce (p := 4) (r := 5) rfl _ _ (w.heap.size + 1 + 1) (w.heap.size + 1 + 1 + 1) rfl rfl hRT (lk_rowN V4 q54) U5) rfl ⟨rfl, below_setRow (below_setRow bel _ (by omega) _) _ (by omega) _⟩
set_option maxHeartbeats 1000000 in
theorem sys_halt (L : List Int) (A b c m : Int) (w : World) (hL : C25 L) :
    Calls Tryd.prog 58 #[cpV L, instV 64 A b c m] w (SyPost (L.set 16 ((wd L 16 + 4) % 4294967296)) 4 0 0 0 w) := by
  have hLL := hL.1
  have e16 := cw_at hLL (show 16 < 25 by omega)
  have hRT : (L.set 16 ((wd L 16 + 4) % 4294967296)).length = 25 := by rw [List.length_set]; exact hLL
  unfold instV
  obtain ⟨F1, F2, F3, -⟩ := cw_facts
  go_enter Tryd.func58, Tryd.ntmps58
  repeat' (first
    | (with_reducible refine then_normal ?_) | (with_reducible refine wp_exit ?_) | (with_reducible refine wp_ret ?_) | (with_reducible refine then_exit ?_) | (with_reducible refine blk_hit ?_) | (with_reducible refine blk_pass (by decide) ?_) | (with_reducible refine then_ret ?_) | (with_reducible refine blk_ret ?_) | (with_reducible refine blk_normal ?_)
    | (refine wpList_box_box rfl _ rfl rfl ?_; simp only [Act.put, List.setIfInBounds_toArray, List.set_cons_zero, List.set_cons_succ])
    | (refine wpList_alloc_box rfl rfl ?_; simp only [Act.put, List.setIfInBounds_toArray, List.set_cons_zero, List.set_cons_succ])
    | go_values | go_skip | go_guarded | go_step | go_upon | (simp only [Int.not_lt, Int.not_le] at *; go_simp) | (go_values <;> (try go_simp)) | (go_ite <;> go_prune <;> (try go_simp)))
  simp only [World.size_alloc]
  generalize hW : (World.alloc (World.alloc (World.alloc (World.alloc (World.alloc w _) _) _) _) _) = W
  have X2 : lk W w.heap.size = some (.cells (cw (L.set 16 ((wd L 16 + 4) % 4294967296))).toArray 32 (0, 0)) := by rw [← hW]; simp [look_alloc, look_setRow, look_drew, look_drewN, look_setCell, Nat.add_assoc] <;> omega
  have X3 : lk W (w.heap.size + 1) = some (.cells #[.int .i64 64, .int .i64 A, .int .i64 b, .int .i64 c, .int .i32 m] 27 (0, 0)) := by rw [← hW]; simp [look_alloc, look_setRow, look_drew, look_drewN, look_setCell, Nat.add_assoc]
  have X4 : lk W (w.heap.size + 1 + 1) = some (.cells (cw Z25).toArray 32 (0, 0)) := by rw [← hW]; simp [look_alloc, look_setRow, look_drew, look_drewN, look_setCell, Nat.add_assoc]
  have X5 : lk W (w.heap.size + 1 + 1 + 1) = some (.cells #[.int .i64 0, .int .i64 0, .int .i64 0, .int .u32 0] 37 (0, 0)) := by rw [← hW]; simp [look_alloc, look_setRow, look_drew, look_drewN, look_setCell, Nat.add_assoc]
  have X6 : lk W (w.heap.size + 1 + 1 + 1 + 1) = some (.cells #[.int .i64 4, .int .i64 0, .int .i64 0, .int .u32 0] 37 (0, 0)) := by rw [← hW]; simp [look_alloc, look_setRow, look_drew, look_drewN, look_setCell, Nat.add_assoc]
  have bel : Below w.heap.size w W := by rw [← hW]; (repeat' (first | with_reducible exact Below.refl _ _ | with_reducible assumption | with_reducible apply below_drewN | with_reducible apply Below.drew | with_reducible apply Below.setCell | with_reducible apply Below.alloc | (simp; done) | omega | (simp; omega)))
  have hsz : w.heap.size + 4 < W.heap.size := by rw [← hW]; simp
  clear hW
  obtain ⟨fs, hu⟩ := undCpu
  obtain ⟨fE, huE⟩ := undEff
  have hiR : (Tryd.prog.info? 32).map (·.size) = some (cw (L.set 16 ((wd L 16 + 4) % 4294967296))).length := by rw [cw_len hRT]; exact infCpu
  have hiE : (Tryd.prog.info? 37).map (·.size) = some ([.int .i64 4, .int .i64 0, .int .i64 0, .int .u32 0] : List Value).length := infEff
  have q4 : ¬ w.heap.size + 1 + 1 = w.heap.size := by omega
  have q46 : ¬ w.heap.size + 1 + 1 = w.heap.size + 1 + 1 + 1 + 1 := by omega
  have q45 : ¬ w.heap.size + 1 + 1 = w.heap.size + 1 + 1 + 1 := by omega
  have q54 : ¬ w.heap.size + 1 + 1 + 1 = w.heap.size + 1 + 1 := by omega
  have q5 : ¬ w.heap.size + 1 + 1 + 1 = w.heap.size := by omega
  have q56 : ¬ w.heap.size + 1 + 1 + 1 = w.heap.size + 1 + 1 + 1 + 1 := by omega
  refine wp_region_held_drew (S := fun w' => lk w' w.heap.size = some (.cells (cw (L.set 16 ((wd L 16 + 4) % 4294967296))).toArray 32 (0, 0)) ∧ lk w' (w.heap.size + 1 + 1 + 1 + 1) = some (.cells #[.int .i64 4, .int .i64 0, .int .i64 0, .int .u32 0] 37 (0, 0))) (by kernel_rfl) ⟨X2, X6⟩ (fun hHeld => ?_)
  replace hsz : w.heap.size + 4 < W.drew.heap.size := hsz
  have Z2 : lk W.drew w.heap.size = _ := X2
  have Z4 : lk W.drew (w.heap.size + 1 + 1) = _ := X4
  have Z5 : lk W.drew (w.heap.size + 1 + 1 + 1) = _ := X5
  have Z6 : lk W.drew (w.heap.size + 1 + 1 + 1 + 1) = _ := X6
  replace bel : Below w.heap.size w W.drew := bel.drew
  clear X2 X4 X5 X6
  (refine' wpAnyH_take (i := 0) (oi := _) (v := _) rfl (by kernel_rfl) (by kernel_rfl) (by kernel_rfl) (fun _ _ _ h => h) (yieldsIf_load_mid (by rfl) _ _ rfl _ 0 rfl (cw (L.set 16 ((wd L 16 + 4) % 4294967296))) _ (fun w hw => range_lk hw.1) hu rfl hiR) (by assumption) ?_; (try simp only [List.getElem_toArray, List.getElem_cons_succ, List.getElem_cons_zero, Act.put, List.setIfInBounds_toArray, List.set_cons_zero, List.set_cons_succ]))
  (refine' wpAnyH_take (i := 1) (oi := _) (v := _) rfl (by kernel_rfl) (by kernel_rfl) (by kernel_rfl) (fun _ _ _ h => h) (yieldsIf_load_mid (by rfl) _ _ rfl _ 0 rfl [.int .i64 4, .int .i64 0, .int .i64 0, .int .u32 0] _ (fun w hw => range_lk hw.2) huE rfl hiE) (by assumption) ?_; (try simp only [List.getElem_toArray, List.getElem_cons_succ, List.getElem_cons_zero, Act.put, List.setIfInBounds_toArray, List.set_cons_zero, List.set_cons_succ]))
  generalize W.drew = W9 at *
  have V2 : lk (W9.setRow (w.heap.size + 1 + 1) (cw (L.set 16 ((wd L 16 + 4) % 4294967296))).toArray) w.heap.size = _ := lk_rowN Z2 q4
  have V4 := lk_row (M := (L.set 16 ((wd L 16 + 4) % 4294967296))) Z4
  have V5 : lk (W9.setRow (w.heap.size + 1 + 1) (cw (L.set 16 ((wd L 16 + 4) % 4294967296))).toArray) (w.heap.size + 1 + 1 + 1) = _ := lk_rowN Z5 q45
  have V6 : lk (W9.setRow (w.heap.size + 1 + 1) (cw (L.set 16 ((wd L 16 + 4) % 4294967296))).toArray) (w.heap.size + 1 + 1 + 1 + 1) = _ := lk_rowN Z6 q46
  (refine wpAnyH_ready (rs := [2]) (by kernel_rfl) (by simp) ?_; refine AllReadyH.cons (o := _) rfl (fun K hK => ?_) AllReadyH.nil; rw [if_pos (by rfl)])
  refine wp_store_cpu _ _ rfl _ rfl rfl hRT Z4 Z25_len ?_
  (try dsimp only); refine hK.out _ _ (by exact ⟨V2, V6⟩) (fun hHeld => ?_); clear hK K; (try simp only [List.getElem_toArray, List.getElem_cons_succ, List.getElem_cons_zero, Act.put, List.setIfInBounds_toArray, List.set_cons_zero, List.set_cons_succ])
  have U5 : lk ((W9.setRow (w.heap.size + 1 + 1) (cw (L.set 16 ((wd L 16 + 4) % 4294967296))).toArray).setRow (w.heap.size + 1 + 1 + 1) #[.int .i64 4, .int .i64 0, .int .i64 0, .int .u32 0]) (w.heap.size + 1 + 1 + 1) = some (.cells #[.int .i64 4, .int .i64 0, .int .i64 0, .int .u32 0] 37 (0, 0)) := by rw [look_setRow, if_pos rfl, V5]; rfl
  (refine wpAnyH_ready (rs := [3]) (by kernel_rfl) (by simp) ?_; refine AllReadyH.cons (o := _) rfl (fun K hK => ?_) AllReadyH.nil; rw [if_pos (by rfl)])
  refine wp_store_row 37 _ _ rfl (w.heap.size + 1 + 1 + 1) #[.int .i64 4, .int .i64 0, .int .i64 0, .int .u32 0] rfl rfl _ _ V5 infEff rfl (by simp [Value.oneCell']) ?_
  (try dsimp only); refine hK.out _ _ (by exact ⟨lk_rowN V2 q5, lk_rowN V6 q56⟩) (fun hHeld => ?_); clear hK K; (try simp only [List.getElem_toArray, List.getElem_cons_succ, List.getElem_cons_zero, Act.put, List.setIfInBounds_toArray, List.set_cons_zero, List.set_cons_succ])
  refine wpAnyH_done (by kernel_rfl) ?_ _
  (try simp only [List.getElem_toArray, List.getElem_cons_succ, List.getElem_cons_zero, Act.put, List.setIfInBounds_toArray, List.set_cons_zero, List.set_cons_succ])
  go_wp2_with fail
  exact bodyPost_ret (v := .tuple #[cpV (L.set 16 ((wd L 16 + 4) % 4294967296)), .agg #[.int .i64 4, .int .i64 0, .int .i64 0, .int .u32 0]]) (results_ce (p := 4) (r := 5) rfl _ _ (w.heap.size + 1 + 1) (w.heap.size + 1 + 1 + 1) rfl rfl hRT (lk_rowN V4 q54) U5) rfl ⟨rfl, below_setRow (below_setRow bel _ (by omega) _) _ (by omega) _⟩
set_option maxHeartbeats 1000000 in
theorem sys_in (L : List Int) (A b c m : Int) (w : World) (hL : C25 L) (m0 : -32768 ≤ m) (m1 : m ≤ 65535) :
    Calls Tryd.prog 58 #[cpV L, instV 60 A b c m] w (SyPost (L.set 16 ((wd L 16 + 4) % 4294967296)) 1 m A 0 w) := by
  have hLL := hL.1
  have e16 := cw_at hLL (show 16 < 25 by omega)
  have hRT : (L.set 16 ((wd L 16 + 4) % 4294967296)).length = 25 := by rw [List.length_set]; exact hLL
  unfold instV
  obtain ⟨F1, F2, F3, -⟩ := cw_facts
  go_enter Tryd.func58, Tryd.ntmps58
  repeat' (first
    | (with_reducible refine then_normal ?_) | (with_reducible refine wp_exit ?_) | (with_reducible refine wp_ret ?_) | (with_reducible refine then_exit ?_) | (with_reducible refine blk_hit ?_) | (with_reducible refine blk_pass (by decide) ?_) | (with_reducible refine then_ret ?_) | (with_reducible refine blk_ret ?_) | (with_reducible refine blk_normal ?_)
    | (refine wpList_box_box rfl _ rfl rfl ?_; simp only [Act.put, List.setIfInBounds_toArray, List.set_cons_zero, List.set_cons_succ])
    | (refine wpList_alloc_box rfl rfl ?_; simp only [Act.put, List.setIfInBounds_toArray, List.set_cons_zero, List.set_cons_succ])
    | go_values | go_skip | go_guarded | go_step | go_upon | (simp only [Int.not_lt, Int.not_le] at *; go_simp) | (go_values <;> (try go_simp)) | (go_ite <;> go_prune <;> (try go_simp)))
  simp only [World.size_alloc]
  generalize hW : (World.alloc (World.alloc (World.alloc (World.alloc (World.alloc w _) _) _) _) _) = W
  have X2 : lk W w.heap.size = some (.cells (cw (L.set 16 ((wd L 16 + 4) % 4294967296))).toArray 32 (0, 0)) := by rw [← hW]; simp [look_alloc, look_setRow, look_drew, look_drewN, look_setCell, Nat.add_assoc] <;> omega
  have X3 : lk W (w.heap.size + 1) = some (.cells #[.int .i64 60, .int .i64 A, .int .i64 b, .int .i64 c, .int .i32 m] 27 (0, 0)) := by rw [← hW]; simp [look_alloc, look_setRow, look_drew, look_drewN, look_setCell, Nat.add_assoc]
  have X4 : lk W (w.heap.size + 1 + 1) = some (.cells (cw Z25).toArray 32 (0, 0)) := by rw [← hW]; simp [look_alloc, look_setRow, look_drew, look_drewN, look_setCell, Nat.add_assoc]
  have X5 : lk W (w.heap.size + 1 + 1 + 1) = some (.cells #[.int .i64 0, .int .i64 0, .int .i64 0, .int .u32 0] 37 (0, 0)) := by rw [← hW]; simp [look_alloc, look_setRow, look_drew, look_drewN, look_setCell, Nat.add_assoc]
  have X6 : lk W (w.heap.size + 1 + 1 + 1 + 1) = some (.cells #[.int .i64 1, .int .i64 m, .int .i64 A, .int .u32 0] 37 (0, 0)) := by rw [← hW]; simp [look_alloc, look_setRow, look_drew, look_drewN, look_setCell, Nat.add_assoc]
  have bel : Below w.heap.size w W := by rw [← hW]; (repeat' (first | with_reducible exact Below.refl _ _ | with_reducible assumption | with_reducible apply below_drewN | with_reducible apply Below.drew | with_reducible apply Below.setCell | with_reducible apply Below.alloc | (simp; done) | omega | (simp; omega)))
  have hsz : w.heap.size + 4 < W.heap.size := by rw [← hW]; simp
  clear hW
  obtain ⟨fs, hu⟩ := undCpu
  obtain ⟨fE, huE⟩ := undEff
  have hiR : (Tryd.prog.info? 32).map (·.size) = some (cw (L.set 16 ((wd L 16 + 4) % 4294967296))).length := by rw [cw_len hRT]; exact infCpu
  have hiE : (Tryd.prog.info? 37).map (·.size) = some ([.int .i64 1, .int .i64 m, .int .i64 A, .int .u32 0] : List Value).length := infEff
  have q4 : ¬ w.heap.size + 1 + 1 = w.heap.size := by omega
  have q46 : ¬ w.heap.size + 1 + 1 = w.heap.size + 1 + 1 + 1 + 1 := by omega
  have q45 : ¬ w.heap.size + 1 + 1 = w.heap.size + 1 + 1 + 1 := by omega
  have q54 : ¬ w.heap.size + 1 + 1 + 1 = w.heap.size + 1 + 1 := by omega
  have q5 : ¬ w.heap.size + 1 + 1 + 1 = w.heap.size := by omega
  have q56 : ¬ w.heap.size + 1 + 1 + 1 = w.heap.size + 1 + 1 + 1 + 1 := by omega
  refine wp_region_held_drew (S := fun w' => lk w' w.heap.size = some (.cells (cw (L.set 16 ((wd L 16 + 4) % 4294967296))).toArray 32 (0, 0)) ∧ lk w' (w.heap.size + 1 + 1 + 1 + 1) = some (.cells #[.int .i64 1, .int .i64 m, .int .i64 A, .int .u32 0] 37 (0, 0))) (by kernel_rfl) ⟨X2, X6⟩ (fun hHeld => ?_)
  replace hsz : w.heap.size + 4 < W.drew.heap.size := hsz
  have Z2 : lk W.drew w.heap.size = _ := X2
  have Z4 : lk W.drew (w.heap.size + 1 + 1) = _ := X4
  have Z5 : lk W.drew (w.heap.size + 1 + 1 + 1) = _ := X5
  have Z6 : lk W.drew (w.heap.size + 1 + 1 + 1 + 1) = _ := X6
  replace bel : Below w.heap.size w W.drew := bel.drew
  clear X2 X4 X5 X6
  (refine' wpAnyH_take (i := 0) (oi := _) (v := _) rfl (by kernel_rfl) (by kernel_rfl) (by kernel_rfl) (fun _ _ _ h => h) (yieldsIf_load_mid (by rfl) _ _ rfl _ 0 rfl (cw (L.set 16 ((wd L 16 + 4) % 4294967296))) _ (fun w hw => range_lk hw.1) hu rfl hiR) (by assumption) ?_; (try simp only [List.getElem_toArray, List.getElem_cons_succ, List.getElem_cons_zero, Act.put, List.setIfInBounds_toArray, List.set_cons_zero, List.set_cons_succ]))
  (refine' wpAnyH_take (i := 1) (oi := _) (v := _) rfl (by kernel_rfl) (by kernel_rfl) (by kernel_rfl) (fun _ _ _ h => h) (yieldsIf_load_mid (by rfl) _ _ rfl _ 0 rfl [.int .i64 1, .int .i64 m, .int .i64 A, .int .u32 0] _ (fun w hw => range_lk hw.2) huE rfl hiE) (by assumption) ?_; (try simp only [List.getElem_toArray, List.getElem_cons_succ, List.getElem_cons_zero, Act.put, List.setIfInBounds_toArray, List.set_cons_zero, List.set_cons_succ]))
  generalize W.drew = W9 at *
  have V2 : lk (W9.setRow (w.heap.size + 1 + 1) (cw (L.set 16 ((wd L 16 + 4) % 4294967296))).toArray) w.heap.size = _ := lk_rowN Z2 q4
  have V4 := lk_row (M := (L.set 16 ((wd L 16 + 4) % 4294967296))) Z4
  have V5 : lk (W9.setRow (w.heap.size + 1 + 1) (cw (L.set 16 ((wd L 16 + 4) % 4294967296))).toArray) (w.heap.size + 1 + 1 + 1) = _ := lk_rowN Z5 q45
  have V6 : lk (W9.setRow (w.heap.size + 1 + 1) (cw (L.set 16 ((wd L 16 + 4) % 4294967296))).toArray) (w.heap.size + 1 + 1 + 1 + 1) = _ := lk_rowN Z6 q46
  (refine wpAnyH_ready (rs := [2]) (by kernel_rfl) (by simp) ?_; refine AllReadyH.cons (o := _) rfl (fun K hK => ?_) AllReadyH.nil; rw [if_pos (by rfl)])
  refine wp_store_cpu _ _ rfl _ rfl rfl hRT Z4 Z25_len ?_
  (try dsimp only); refine hK.out _ _ (by exact ⟨V2, V6⟩) (fun hHeld => ?_); clear hK K; (try simp only [List.getElem_toArray, List.getElem_cons_succ, List.getElem_cons_zero, Act.put, List.setIfInBounds_toArray, List.set_cons_zero, List.set_cons_succ])
  have U5 : lk ((W9.setRow (w.heap.size + 1 + 1) (cw (L.set 16 ((wd L 16 + 4) % 4294967296))).toArray).setRow (w.heap.size + 1 + 1 + 1) #[.int .i64 1, .int .i64 m, .int .i64 A, .int .u32 0]) (w.heap.size + 1 + 1 + 1) = some (.cells #[.int .i64 1, .int .i64 m, .int .i64 A, .int .u32 0] 37 (0, 0)) := by rw [look_setRow, if_pos rfl, V5]; rfl
  (refine wpAnyH_ready (rs := [3]) (by kernel_rfl) (by simp) ?_; refine AllReadyH.cons (o := _) rfl (fun K hK => ?_) AllReadyH.nil; rw [if_pos (by rfl)])
  refine wp_store_row 37 _ _ rfl (w.heap.size + 1 + 1 + 1) #[.int .i64 1, .int .i64 m, .int .i64 A, .int .u32 0] rfl rfl _ _ V5 infEff rfl (by simp [Value.oneCell']) ?_
  (try dsimp only); refine hK.out _ _ (by exact ⟨lk_rowN V2 q5, lk_rowN V6 q56⟩) (fun hHeld => ?_); clear hK K; (try simp only [List.getElem_toArray, List.getElem_cons_succ, List.getElem_cons_zero, Act.put, List.setIfInBounds_toArray, List.set_cons_zero, List.set_cons_succ])
  refine wpAnyH_done (by kernel_rfl) ?_ _
  (try simp only [List.getElem_toArray, List.getElem_cons_succ, List.getElem_cons_zero, Act.put, List.setIfInBounds_toArray, List.set_cons_zero, List.set_cons_succ])
  go_wp2_with fail
  exact bodyPost_ret (v := .tuple #[cpV (L.set 16 ((wd L 16 + 4) % 4294967296)), .agg #[.int .i64 1, .int .i64 m, .int .i64 A, .int .u32 0]]) (results_ce (p := 4) (r := 5) rfl _ _ (w.heap.size + 1 + 1) (w.heap.size + 1 + 1 + 1) rfl rfl hRT (lk_rowN V4 q54) U5) rfl ⟨rfl, below_setRow (below_setRow bel _ (by omega) _) _ (by omega) _⟩
set_option maxHeartbeats 1000000 in
theorem sys_out (L : List Int) (b c m : Int) (a : Nat) (w : World) (hL : C25 L) (a1 : a < 16) (m0 : -32768 ≤ m) (m1 : m ≤ 65535) :
    Calls Tryd.prog 58 #[cpV L, instV 61 (a : Int) b c m] w (SyPost (L.set 16 ((wd L 16 + 4) % 4294967296)) 2 m 0 (wd L a) w) := by
  have hLL := hL.1
  have e16 := cw_at hLL (show 16 < 25 by omega)
  have ha0 : (0 : Int) ≤ a := by omega
  have ha1 : (a : Int) < 16 := by omega
  have ha25 : a < 25 := by omega
  have eA := cw_at hLL ha25
  have hRT : (L.set 16 ((wd L 16 + 4) % 4294967296)).length = 25 := by rw [List.length_set]; exact hLL
  unfold instV
  obtain ⟨F1, F2, F3, -⟩ := cw_facts
  go_enter Tryd.func58, Tryd.ntmps58
  repeat' (first
    | (with_reducible refine then_normal ?_) | (with_reducible refine wp_exit ?_) | (with_reducible refine wp_ret ?_) | (with_reducible refine then_exit ?_) | (with_reducible refine blk_hit ?_) | (with_reducible refine blk_pass (by decide) ?_) | (with_reducible refine then_ret ?_) | (with_reducible refine blk_ret ?_) | (with_reducible refine blk_normal ?_)
    | (refine wpList_box_box rfl _ rfl rfl ?_; simp only [Act.put, List.setIfInBounds_toArray, List.set_cons_zero, List.set_cons_succ])
    | (refine wpList_alloc_box rfl rfl ?_; simp only [Act.put, List.setIfInBounds_toArray, List.set_cons_zero, List.set_cons_succ])
    | go_values | go_skip | go_guarded | go_step | go_upon | (simp only [Int.not_lt, Int.not_le] at *; go_simp) | (go_values <;> (try go_simp)) | (go_ite <;> go_prune <;> (try go_simp)))
  all_goals (try go_region)
  repeat' (first
    | (with_reducible refine then_normal ?_) | (with_reducible refine wp_exit ?_) | (with_reducible refine wp_ret ?_) | (with_reducible refine then_exit ?_) | (with_reducible refine blk_hit ?_) | (with_reducible refine blk_pass (by decide) ?_) | (with_reducible refine then_ret ?_) | (with_reducible refine blk_ret ?_) | (with_reducible refine blk_normal ?_)
    | (refine wpList_box_box rfl _ rfl rfl ?_; simp only [Act.put, List.setIfInBounds_toArray, List.set_cons_zero, List.set_cons_succ])
    | (refine wpList_alloc_box rfl rfl ?_; simp only [Act.put, List.setIfInBounds_toArray, List.set_cons_zero, List.set_cons_succ])
    | go_values | go_skip | go_guarded | go_step | go_upon | (simp only [Int.not_lt, Int.not_le] at *; go_simp) | (go_values <;> (try go_simp)) | (go_ite <;> go_prune <;> (try go_simp)))
  simp only [World.size_alloc]
  generalize hW : World.drew (World.alloc (World.alloc (World.alloc (World.alloc (World.alloc w _) _) _) _) _) = W
  have X2 : lk W w.heap.size = some (.cells (cw (L.set 16 ((wd L 16 + 4) % 4294967296))).toArray 32 (0, 0)) := by rw [← hW]; simp [look_alloc, look_setRow, look_drew, look_drewN, look_setCell, Nat.add_assoc] <;> omega
  have X3 : lk W (w.heap.size + 1) = some (.cells #[.int .i64 61, .int .i64 (a : Int), .int .i64 b, .int .i64 c, .int .i32 m] 27 (0, 0)) := by rw [← hW]; simp [look_alloc, look_setRow, look_drew, look_drewN, look_setCell, Nat.add_assoc]
  have X4 : lk W (w.heap.size + 1 + 1) = some (.cells (cw Z25).toArray 32 (0, 0)) := by rw [← hW]; simp [look_alloc, look_setRow, look_drew, look_drewN, look_setCell, Nat.add_assoc]
  have X5 : lk W (w.heap.size + 1 + 1 + 1) = some (.cells #[.int .i64 0, .int .i64 0, .int .i64 0, .int .u32 0] 37 (0, 0)) := by rw [← hW]; simp [look_alloc, look_setRow, look_drew, look_drewN, look_setCell, Nat.add_assoc]
  have X6 : lk W (w.heap.size + 1 + 1 + 1 + 1) = some (.cells #[.int .i64 2, .int .i64 m, .int .i64 0, .int .u32 (wd L a)] 37 (0, 0)) := by rw [← hW]; simp [look_alloc, look_setRow, look_drew, look_drewN, look_setCell, Nat.add_assoc]
  have bel : Below w.heap.size w W := by rw [← hW]; (repeat' (first | with_reducible exact Below.refl _ _ | with_reducible assumption | with_reducible apply below_drewN | with_reducible apply Below.drew | with_reducible apply Below.setCell | with_reducible apply Below.alloc | (simp; done) | omega | (simp; omega)))
  have hsz : w.heap.size + 4 < W.heap.size := by rw [← hW]; simp
  clear hW
  obtain ⟨fs, hu⟩ := undCpu
  obtain ⟨fE, huE⟩ := undEff
  have hiR : (Tryd.prog.info? 32).map (·.size) = some (cw (L.set 16 ((wd L 16 + 4) % 4294967296))).length := by rw [cw_len hRT]; exact infCpu
  have hiE : (Tryd.prog.info? 37).map (·.size) = some ([.int .i64 2, .int .i64 m, .int .i64 0, .int .u32 (wd L a)] : List Value).length := infEff
  have q4 : ¬ w.heap.size + 1 + 1 = w.heap.size := by omega
  have q46 : ¬ w.heap.size + 1 + 1 = w.heap.size + 1 + 1 + 1 + 1 := by omega
  have q45 : ¬ w.heap.size + 1 + 1 = w.heap.size + 1 + 1 + 1 := by omega
  have q54 : ¬ w.heap.size + 1 + 1 + 1 = w.heap.size + 1 + 1 := by omega
  have q5 : ¬ w.heap.size + 1 + 1 + 1 = w.heap.size := by omega
  have q56 : ¬ w.heap.size + 1 + 1 + 1 = w.heap.size + 1 + 1 + 1 + 1 := by omega
  refine wp_region_held_drew (S := fun w' => lk w' w.heap.size = some (.cells (cw (L.set 16 ((wd L 16 + 4) % 4294967296))).toArray 32 (0, 0)) ∧ lk w' (w.heap.size + 1 + 1 + 1 + 1) = some (.cells #[.int .i64 2, .int .i64 m, .int .i64 0, .int .u32 (wd L a)] 37 (0, 0))) (by kernel_rfl) ⟨X2, X6⟩ (fun hHeld => ?_)
  replace hsz : w.heap.size + 4 < W.drew.heap.size := hsz
  have Z2 : lk W.drew w.heap.size = _ := X2
  have Z4 : lk W.drew (w.heap.size + 1 + 1) = _ := X4
  have Z5 : lk W.drew (w.heap.size + 1 + 1 + 1) = _ := X5
  have Z6 : lk W.drew (w.heap.size + 1 + 1 + 1 + 1) = _ := X6
  replace bel : Below w.heap.size w W.drew := bel.drew
  clear X2 X4 X5 X6
  (refine' wpAnyH_take (i := 0) (oi := _) (v := _) rfl (by kernel_rfl) (by kernel_rfl) (by kernel_rfl) (fun _ _ _ h => h) (yieldsIf_load_mid (by rfl) _ _ rfl _ 0 rfl (cw (L.set 16 ((wd L 16 + 4) % 4294967296))) _ (fun w hw => range_lk hw.1) hu rfl hiR) (by assumption) ?_; (try simp only [List.getElem_toArray, List.getElem_cons_succ, List.getElem_cons_zero, Act.put, List.setIfInBounds_toArray, List.set_cons_zero, List.set_cons_succ]))
  (refine' wpAnyH_take (i := 1) (oi := _) (v := _) rfl (by kernel_rfl) (by kernel_rfl) (by kernel_rfl) (fun _ _ _ h => h) (yieldsIf_load_mid (by rfl) _ _ rfl _ 0 rfl [.int .i64 2, .int .i64 m, .int .i64 0, .int .u32 (wd L a)] _ (fun w hw => range_lk hw.2) huE rfl hiE) (by assumption) ?_; (try simp only [List.getElem_toArray, List.getElem_cons_succ, List.getElem_cons_zero, Act.put, List.setIfInBounds_toArray, List.set_cons_zero, List.set_cons_succ]))
  generalize W.drew = W9 at *
  have V2 : lk (W9.setRow (w.heap.size + 1 + 1) (cw (L.set 16 ((wd L 16 + 4) % 4294967296))).toArray) w.heap.size = _ := lk_rowN Z2 q4
  have V4 := lk_row (M := (L.set 16 ((wd L 16 + 4) % 4294967296))) Z4
  have V5 : lk (W9.setRow (w.heap.size + 1 + 1) (cw (L.set 16 ((wd L 16 + 4) % 4294967296))).toArray) (w.heap.size + 1 + 1 + 1) = _ := lk_rowN Z5 q45
  have V6 : lk (W9.setRow (w.heap.size + 1 + 1) (cw (L.set 16 ((wd L 16 + 4) % 4294967296))).toArray) (w.heap.size + 1 + 1 + 1 + 1) = _ := lk_rowN Z6 q46
  (refine wpAnyH_ready (rs := [2]) (by kernel_rfl) (by simp) ?_; refine AllReadyH.cons (o := _) rfl (fun K hK => ?_) AllReadyH.nil; rw [if_pos (by rfl)])
  refine wp_store_cpu _ _ rfl _ rfl rfl hRT Z4 Z25_len ?_
  (try dsimp only); refine hK.out _ _ (by exact ⟨V2, V6⟩) (fun hHeld => ?_); clear hK K; (try simp only [List.getElem_toArray, List.getElem_cons_succ, List.getElem_cons_zero, Act.put, List.setIfInBounds_toArray, List.set_cons_zero, List.set_cons_succ])
  have U5 : lk ((W9.setRow (w.heap.size + 1 + 1) (cw (L.set 16 ((wd L 16 + 4) % 4294967296))).toArray).setRow (w.heap.size + 1 + 1 + 1) #[.int .i64 2, .int .i64 m, .int .i64 0, .int .u32 (wd L a)]) (w.heap.size + 1 + 1 + 1) = some (.cells #[.int .i64 2, .int .i64 m, .int .i64 0, .int .u32 (wd L a)] 37 (0, 0)) := by rw [look_setRow, if_pos rfl, V5]; rfl
  (refine wpAnyH_ready (rs := [3]) (by kernel_rfl) (by simp) ?_; refine AllReadyH.cons (o := _) rfl (fun K hK => ?_) AllReadyH.nil; rw [if_pos (by rfl)])
  refine wp_store_row 37 _ _ rfl (w.heap.size + 1 + 1 + 1) #[.int .i64 2, .int .i64 m, .int .i64 0, .int .u32 (wd L a)] rfl rfl _ _ V5 infEff rfl (by simp [Value.oneCell']) ?_
  (try dsimp only); refine hK.out _ _ (by exact ⟨lk_rowN V2 q5, lk_rowN V6 q56⟩) (fun hHeld => ?_); clear hK K; (try simp only [List.getElem_toArray, List.getElem_cons_succ, List.getElem_cons_zero, Act.put, List.setIfInBounds_toArray, List.set_cons_zero, List.set_cons_succ])
  refine wpAnyH_done (by kernel_rfl) ?_ _
  (try simp only [List.getElem_toArray, List.getElem_cons_succ, List.getElem_cons_zero, Act.put, List.setIfInBounds_toArray, List.set_cons_zero, List.set_cons_succ])
  go_wp2_with fail
  exact bodyPost_ret (v := .tuple #[cpV (L.set 16 ((wd L 16 + 4) % 4294967296)), .agg #[.int .i64 2, .int .i64 m, .int .i64 0, .int .u32 (wd L a)]]) (results_ce (p := 4) (r := 5) rfl _ _ (w.heap.size + 1 + 1) (w.heap.size + 1 + 1 + 1) rfl rfl hRT (lk_rowN V4 q54) U5) rfl ⟨rfl, below_setRow (below_setRow bel _ (by omega) _) _ (by omega) _⟩
set_option maxHeartbeats 1000000 in
theorem sys_ecall (L : List Int) (A b c m : Int) (w : World) (hL : C25 L) :
    Calls Tryd.prog 58 #[cpV L, instV 56 A b c m] w (SyPost (trapL L 7 0) 0 0 0 0 w) := by
  have hLL := hL.1
  have HT := Lib.hid (fun W => trap_ref L 7 0 W hL)
  have hRL := (hL.trap 7 (b := 0) (by omega) (by omega)).1
  unfold instV
  obtain ⟨F1, F2, F3, -⟩ := cw_facts
  go_enter Tryd.func58, Tryd.ntmps58
  repeat' (first
    | (with_reducible refine then_normal ?_) | (with_reducible refine wp_exit ?_) | (with_reducible refine wp_ret ?_) | (with_reducible refine then_exit ?_) | (with_reducible refine blk_hit ?_) | (with_reducible refine blk_pass (by decide) ?_) | (with_reducible refine then_ret ?_) | (with_reducible refine blk_ret ?_) | (with_reducible refine blk_normal ?_)
    | (refine wpList_box_box rfl _ rfl rfl ?_; simp only [Act.put, List.setIfInBounds_toArray, List.set_cons_zero, List.set_cons_succ])
    | (refine wpList_alloc_box rfl rfl ?_; simp only [Act.put, List.setIfInBounds_toArray, List.set_cons_zero, List.set_cons_succ])
    | go_values | go_skip | go_guarded | go_step | go_upon | (simp only [Int.not_lt, Int.not_le] at *; go_simp) | (go_values <;> (try go_simp)) | (go_ite <;> go_prune <;> (try go_simp)))
  simp only [World.size_alloc]
  generalize hW : (World.alloc (World.alloc (World.alloc (World.alloc (World.alloc w _) _) _) _) _) = W
  have X2 : lk W w.heap.size = some (.cells (cw (L)).toArray 32 (0, 0)) := by rw [← hW]; simp [look_alloc, look_setRow, look_drew, look_drewN, look_setCell, Nat.add_assoc] <;> omega
  have X3 : lk W (w.heap.size + 1) = some (.cells #[.int .i64 56, .int .i64 A, .int .i64 b, .int .i64 c, .int .i32 m] 27 (0, 0)) := by rw [← hW]; simp [look_alloc, look_setRow, look_drew, look_drewN, look_setCell, Nat.add_assoc]
  have X4 : lk W (w.heap.size + 1 + 1) = some (.cells (cw Z25).toArray 32 (0, 0)) := by rw [← hW]; simp [look_alloc, look_setRow, look_drew, look_drewN, look_setCell, Nat.add_assoc]
  have X5 : lk W (w.heap.size + 1 + 1 + 1) = some (.cells #[.int .i64 0, .int .i64 0, .int .i64 0, .int .u32 0] 37 (0, 0)) := by rw [← hW]; simp [look_alloc, look_setRow, look_drew, look_drewN, look_setCell, Nat.add_assoc]
  have X6 : lk W (w.heap.size + 1 + 1 + 1 + 1) = some (.cells #[.int .i64 0, .int .i64 0, .int .i64 0, .int .u32 0] 37 (0, 0)) := by rw [← hW]; simp [look_alloc, look_setRow, look_drew, look_drewN, look_setCell, Nat.add_assoc]
  have bel : Below w.heap.size w W := by rw [← hW]; (repeat' (first | with_reducible exact Below.refl _ _ | with_reducible assumption | with_reducible apply below_drewN | with_reducible apply Below.drew | with_reducible apply Below.setCell | with_reducible apply Below.alloc | (simp; done) | omega | (simp; omega)))
  have hsz : w.heap.size + 4 < W.heap.size := by rw [← hW]; simp
  clear hW
  unfold cpV at HT
  obtain ⟨fs, hu⟩ := undCpu
  obtain ⟨fE, huE⟩ := undEff
  have hiR : (Tryd.prog.info? 32).map (·.size) = some (cw (L)).length := by rw [cw_len hLL]; exact infCpu
  have hiE : (Tryd.prog.info? 37).map (·.size) = some ([.int .i64 0, .int .i64 0, .int .i64 0, .int .u32 0] : List Value).length := infEff
  have q4 : ¬ w.heap.size + 1 + 1 = w.heap.size := by omega
  have q46 : ¬ w.heap.size + 1 + 1 = w.heap.size + 1 + 1 + 1 + 1 := by omega
  have q45 : ¬ w.heap.size + 1 + 1 = w.heap.size + 1 + 1 + 1 := by omega
  have q54 : ¬ w.heap.size + 1 + 1 + 1 = w.heap.size + 1 + 1 := by omega
  have q5 : ¬ w.heap.size + 1 + 1 + 1 = w.heap.size := by omega
  have q56 : ¬ w.heap.size + 1 + 1 + 1 = w.heap.size + 1 + 1 + 1 + 1 := by omega
  refine wp_region_held_drew (S := fun w' => lk w' w.heap.size = some (.cells (cw (L)).toArray 32 (0, 0)) ∧ lk w' (w.heap.size + 1 + 1 + 1 + 1) = some (.cells #[.int .i64 0, .int .i64 0, .int .i64 0, .int .u32 0] 37 (0, 0))) (by kernel_rfl) ⟨X2, X6⟩ (fun hHeld => ?_)
  replace hsz : w.heap.size + 4 < W.drew.heap.size := hsz
  have Z2 : lk W.drew w.heap.size = _ := X2
  have Z4 : lk W.drew (w.heap.size + 1 + 1) = _ := X4
  have Z5 : lk W.drew (w.heap.size + 1 + 1 + 1) = _ := X5
  have Z6 : lk W.drew (w.heap.size + 1 + 1 + 1 + 1) = _ := X6
  replace bel : Below w.heap.size w W.drew := bel.drew
  clear X2 X4 X5 X6
  (refine' wpAnyH_take (i := 0) (oi := _) (v := _) rfl (by kernel_rfl) (by kernel_rfl) (by kernel_rfl) (fun _ _ _ h => h) (yieldsIf_load_mid (by rfl) _ _ rfl _ 0 rfl (cw (L)) _ (fun w hw => range_lk hw.1) hu rfl hiR) (by assumption) ?_; (try simp only [List.getElem_toArray, List.getElem_cons_succ, List.getElem_cons_zero, Act.put, List.setIfInBounds_toArray, List.set_cons_zero, List.set_cons_succ]))
  (refine' wpAnyH_take (i := 2) (oi := _) (v := _) rfl (by kernel_rfl) (by kernel_rfl) (by kernel_rfl) (fun _ _ _ h => h) (yieldsIf_load_mid (by rfl) _ _ rfl _ 0 rfl [.int .i64 0, .int .i64 0, .int .i64 0, .int .u32 0] _ (fun w hw => range_lk hw.2) huE rfl hiE) (by assumption) ?_; (try simp only [List.getElem_toArray, List.getElem_cons_succ, List.getElem_cons_zero, Act.put, List.setIfInBounds_toArray, List.set_cons_zero, List.set_cons_succ]))
  generalize W.drew = W9 at *
  (refine wpAnyH_ready (rs := [1]) (by kernel_rfl) (by simp) ?_; refine AllReadyH.cons (o := _) rfl (fun K hK => ?_) AllReadyH.nil; rw [if_pos (by rfl)])
  go_simp
  refine (HT.out _).mono ?_
  rintro e w6 ⟨rfl, hb6⟩
  replace Z2 := look_on Z2 hb6 (by omega)
  replace Z4 := look_on Z4 hb6 (by omega)
  replace Z5 := look_on Z5 hb6 (by omega)
  replace Z6 := look_on Z6 hb6 (by omega)
  replace bel := below_step bel hb6
  (try dsimp only); refine hK.out _ _ (by exact ⟨Z2, Z6⟩) (fun hHeld => ?_); clear hK K; (try simp only [List.getElem_toArray, List.getElem_cons_succ, List.getElem_cons_zero, Act.put, List.setIfInBounds_toArray, List.set_cons_zero, List.set_cons_succ])
  generalize hR : trapL L 7 0 = R at *
  have V2 : lk (w6.setRow (w.heap.size + 1 + 1) (cw R).toArray) w.heap.size = _ := lk_rowN Z2 q4
  have V4 := lk_row (M := R) Z4
  have V5 : lk (w6.setRow (w.heap.size + 1 + 1) (cw R).toArray) (w.heap.size + 1 + 1 + 1) = _ := lk_rowN Z5 q45
  have V6 : lk (w6.setRow (w.heap.size + 1 + 1) (cw R).toArray) (w.heap.size + 1 + 1 + 1 + 1) = _ := lk_rowN Z6 q46
  (refine wpAnyH_ready (rs := [3]) (by kernel_rfl) (by simp) ?_; refine AllReadyH.cons (o := _) rfl (fun K hK => ?_) AllReadyH.nil; rw [if_pos (by rfl)])
  refine wp_store_cpu _ _ rfl _ rfl rfl hRL Z4 Z25_len ?_
  (try dsimp only); refine hK.out _ _ (by exact ⟨V2, V6⟩) (fun hHeld => ?_); clear hK K; (try simp only [List.getElem_toArray, List.getElem_cons_succ, List.getElem_cons_zero, Act.put, List.setIfInBounds_toArray, List.set_cons_zero, List.set_cons_succ])
  have U5 : lk ((w6.setRow (w.heap.size + 1 + 1) (cw R).toArray).setRow (w.heap.size + 1 + 1 + 1) #[.int .i64 0, .int .i64 0, .int .i64 0, .int .u32 0]) (w.heap.size + 1 + 1 + 1) = some (.cells #[.int .i64 0, .int .i64 0, .int .i64 0, .int .u32 0] 37 (0, 0)) := by rw [look_setRow, if_pos rfl, V5]; rfl
  (refine wpAnyH_ready (rs := [4]) (by kernel_rfl) (by simp) ?_; refine AllReadyH.cons (o := _) rfl (fun K hK => ?_) AllReadyH.nil; rw [if_pos (by rfl)])
  refine wp_store_row 37 _ _ rfl (w.heap.size + 1 + 1 + 1) #[.int .i64 0, .int .i64 0, .int .i64 0, .int .u32 0] rfl rfl _ _ V5 infEff rfl (by simp [Value.oneCell']) ?_
  (try dsimp only); refine hK.out _ _ (by exact ⟨lk_rowN V2 q5, lk_rowN V6 q56⟩) (fun hHeld => ?_); clear hK K; (try simp only [List.getElem_toArray, List.getElem_cons_succ, List.getElem_cons_zero, Act.put, List.setIfInBounds_toArray, List.set_cons_zero, List.set_cons_succ])
  refine wpAnyH_done (by kernel_rfl) ?_ _
  (try simp only [List.getElem_toArray, List.getElem_cons_succ, List.getElem_cons_zero, Act.put, List.setIfInBounds_toArray, List.set_cons_zero, List.set_cons_succ])
  go_wp2_with fail
  exact bodyPost_ret (v := .tuple #[cpV R, .agg #[.int .i64 0, .int .i64 0, .int .i64 0, .int .u32 0]]) (results_ce (p := 4) (r := 5) rfl _ _ (w.heap.size + 1 + 1) (w.heap.size + 1 + 1 + 1) rfl rfl hRL (lk_rowN V4 q54) U5) rfl ⟨rfl, below_setRow (below_setRow bel _ (by omega) _) _ (by omega) _⟩
set_option maxHeartbeats 1000000 in
theorem sys_eret (L : List Int) (A b c m : Int) (w : World) (hL : C25 L) :
    Calls Tryd.prog 58 #[cpV L, instV 57 A b c m] w (SyPost (retL L) 0 0 0 0 w) := by
  have hLL := hL.1
  have HT := Lib.hid (fun W => return_ref L W hL)
  have hRL := (hL.ret).1
  unfold instV
  obtain ⟨F1, F2, F3, -⟩ := cw_facts
  go_enter Tryd.func58, Tryd.ntmps58
  repeat' (first
    | (with_reducible refine then_normal ?_) | (with_reducible refine wp_exit ?_) | (with_reducible refine wp_ret ?_) | (with_reducible refine then_exit ?_) | (with_reducible refine blk_hit ?_) | (with_reducible refine blk_pass (by decide) ?_) | (with_reducible refine then_ret ?_) | (with_reducible refine blk_ret ?_) | (with_reducible refine blk_normal ?_)
    | (refine wpList_box_box rfl _ rfl rfl ?_; simp only [Act.put, List.setIfInBounds_toArray, List.set_cons_zero, List.set_cons_succ])
    | (refine wpList_alloc_box rfl rfl ?_; simp only [Act.put, List.setIfInBounds_toArray, List.set_cons_zero, List.set_cons_succ])
    | go_values | go_skip | go_guarded | go_step | go_upon | (simp only [Int.not_lt, Int.not_le] at *; go_simp) | (go_values <;> (try go_simp)) | (go_ite <;> go_prune <;> (try go_simp)))
  simp only [World.size_alloc]
  generalize hW : (World.alloc (World.alloc (World.alloc (World.alloc (World.alloc w _) _) _) _) _) = W
  have X2 : lk W w.heap.size = some (.cells (cw (L)).toArray 32 (0, 0)) := by rw [← hW]; simp [look_alloc, look_setRow, look_drew, look_drewN, look_setCell, Nat.add_assoc] <;> omega
  have X3 : lk W (w.heap.size + 1) = some (.cells #[.int .i64 57, .int .i64 A, .int .i64 b, .int .i64 c, .int .i32 m] 27 (0, 0)) := by rw [← hW]; simp [look_alloc, look_setRow, look_drew, look_drewN, look_setCell, Nat.add_assoc]
  have X4 : lk W (w.heap.size + 1 + 1) = some (.cells (cw Z25).toArray 32 (0, 0)) := by rw [← hW]; simp [look_alloc, look_setRow, look_drew, look_drewN, look_setCell, Nat.add_assoc]
  have X5 : lk W (w.heap.size + 1 + 1 + 1) = some (.cells #[.int .i64 0, .int .i64 0, .int .i64 0, .int .u32 0] 37 (0, 0)) := by rw [← hW]; simp [look_alloc, look_setRow, look_drew, look_drewN, look_setCell, Nat.add_assoc]
  have X6 : lk W (w.heap.size + 1 + 1 + 1 + 1) = some (.cells #[.int .i64 0, .int .i64 0, .int .i64 0, .int .u32 0] 37 (0, 0)) := by rw [← hW]; simp [look_alloc, look_setRow, look_drew, look_drewN, look_setCell, Nat.add_assoc]
  have bel : Below w.heap.size w W := by rw [← hW]; (repeat' (first | with_reducible exact Below.refl _ _ | with_reducible assumption | with_reducible apply below_drewN | with_reducible apply Below.drew | with_reducible apply Below.setCell | with_reducible apply Below.alloc | (simp; done) | omega | (simp; omega)))
  have hsz : w.heap.size + 4 < W.heap.size := by rw [← hW]; simp
  clear hW
  unfold cpV at HT
  obtain ⟨fs, hu⟩ := undCpu
  obtain ⟨fE, huE⟩ := undEff
  have hiR : (Tryd.prog.info? 32).map (·.size) = some (cw (L)).length := by rw [cw_len hLL]; exact infCpu
  have hiE : (Tryd.prog.info? 37).map (·.size) = some ([.int .i64 0, .int .i64 0, .int .i64 0, .int .u32 0] : List Value).length := infEff
  have q4 : ¬ w.heap.size + 1 + 1 = w.heap.size := by omega
  have q46 : ¬ w.heap.size + 1 + 1 = w.heap.size + 1 + 1 + 1 + 1 := by omega
  have q45 : ¬ w.heap.size + 1 + 1 = w.heap.size + 1 + 1 + 1 := by omega
  have q54 : ¬ w.heap.size + 1 + 1 + 1 = w.heap.size + 1 + 1 := by omega
  have q5 : ¬ w.heap.size + 1 + 1 + 1 = w.heap.size := by omega
  have q56 : ¬ w.heap.size + 1 + 1 + 1 = w.heap.size + 1 + 1 + 1 + 1 := by omega
  refine wp_region_held_drew (S := fun w' => lk w' w.heap.size = some (.cells (cw (L)).toArray 32 (0, 0)) ∧ lk w' (w.heap.size + 1 + 1 + 1 + 1) = some (.cells #[.int .i64 0, .int .i64 0, .int .i64 0, .int .u32 0] 37 (0, 0))) (by kernel_rfl) ⟨X2, X6⟩ (fun hHeld => ?_)
  replace hsz : w.heap.size + 4 < W.drew.heap.size := hsz
  have Z2 : lk W.drew w.heap.size = _ := X2
  have Z4 : lk W.drew (w.heap.size + 1 + 1) = _ := X4
  have Z5 : lk W.drew (w.heap.size + 1 + 1 + 1) = _ := X5
  have Z6 : lk W.drew (w.heap.size + 1 + 1 + 1 + 1) = _ := X6
  replace bel : Below w.heap.size w W.drew := bel.drew
  clear X2 X4 X5 X6
  (refine' wpAnyH_take (i := 0) (oi := _) (v := _) rfl (by kernel_rfl) (by kernel_rfl) (by kernel_rfl) (fun _ _ _ h => h) (yieldsIf_load_mid (by rfl) _ _ rfl _ 0 rfl (cw (L)) _ (fun w hw => range_lk hw.1) hu rfl hiR) (by assumption) ?_; (try simp only [List.getElem_toArray, List.getElem_cons_succ, List.getElem_cons_zero, Act.put, List.setIfInBounds_toArray, List.set_cons_zero, List.set_cons_succ]))
  (refine' wpAnyH_take (i := 2) (oi := _) (v := _) rfl (by kernel_rfl) (by kernel_rfl) (by kernel_rfl) (fun _ _ _ h => h) (yieldsIf_load_mid (by rfl) _ _ rfl _ 0 rfl [.int .i64 0, .int .i64 0, .int .i64 0, .int .u32 0] _ (fun w hw => range_lk hw.2) huE rfl hiE) (by assumption) ?_; (try simp only [List.getElem_toArray, List.getElem_cons_succ, List.getElem_cons_zero, Act.put, List.setIfInBounds_toArray, List.set_cons_zero, List.set_cons_succ]))
  generalize W.drew = W9 at *
  (refine wpAnyH_ready (rs := [1]) (by kernel_rfl) (by simp) ?_; refine AllReadyH.cons (o := _) rfl (fun K hK => ?_) AllReadyH.nil; rw [if_pos (by rfl)])
  go_simp
  refine (HT.out _).mono ?_
  rintro e w6 ⟨rfl, hb6⟩
  replace Z2 := look_on Z2 hb6 (by omega)
  replace Z4 := look_on Z4 hb6 (by omega)
  replace Z5 := look_on Z5 hb6 (by omega)
  replace Z6 := look_on Z6 hb6 (by omega)
  replace bel := below_step bel hb6
  (try dsimp only); refine hK.out _ _ (by exact ⟨Z2, Z6⟩) (fun hHeld => ?_); clear hK K; (try simp only [List.getElem_toArray, List.getElem_cons_succ, List.getElem_cons_zero, Act.put, List.setIfInBounds_toArray, List.set_cons_zero, List.set_cons_succ])
  generalize hR : retL L = R at *
  have V2 : lk (w6.setRow (w.heap.size + 1 + 1) (cw R).toArray) w.heap.size = _ := lk_rowN Z2 q4
  have V4 := lk_row (M := R) Z4
  have V5 : lk (w6.setRow (w.heap.size + 1 + 1) (cw R).toArray) (w.heap.size + 1 + 1 + 1) = _ := lk_rowN Z5 q45
  have V6 : lk (w6.setRow (w.heap.size + 1 + 1) (cw R).toArray) (w.heap.size + 1 + 1 + 1 + 1) = _ := lk_rowN Z6 q46
  (refine wpAnyH_ready (rs := [3]) (by kernel_rfl) (by simp) ?_; refine AllReadyH.cons (o := _) rfl (fun K hK => ?_) AllReadyH.nil; rw [if_pos (by rfl)])
  refine wp_store_cpu _ _ rfl _ rfl rfl hRL Z4 Z25_len ?_
  (try dsimp only); refine hK.out _ _ (by exact ⟨V2, V6⟩) (fun hHeld => ?_); clear hK K; (try simp only [List.getElem_toArray, List.getElem_cons_succ, List.getElem_cons_zero, Act.put, List.setIfInBounds_toArray, List.set_cons_zero, List.set_cons_succ])
  have U5 : lk ((w6.setRow (w.heap.size + 1 + 1) (cw R).toArray).setRow (w.heap.size + 1 + 1 + 1) #[.int .i64 0, .int .i64 0, .int .i64 0, .int .u32 0]) (w.heap.size + 1 + 1 + 1) = some (.cells #[.int .i64 0, .int .i64 0, .int .i64 0, .int .u32 0] 37 (0, 0)) := by rw [look_setRow, if_pos rfl, V5]; rfl
  (refine wpAnyH_ready (rs := [4]) (by kernel_rfl) (by simp) ?_; refine AllReadyH.cons (o := _) rfl (fun K hK => ?_) AllReadyH.nil; rw [if_pos (by rfl)])
  refine wp_store_row 37 _ _ rfl (w.heap.size + 1 + 1 + 1) #[.int .i64 0, .int .i64 0, .int .i64 0, .int .u32 0] rfl rfl _ _ V5 infEff rfl (by simp [Value.oneCell']) ?_
  (try dsimp only); refine hK.out _ _ (by exact ⟨lk_rowN V2 q5, lk_rowN V6 q56⟩) (fun hHeld => ?_); clear hK K; (try simp only [List.getElem_toArray, List.getElem_cons_succ, List.getElem_cons_zero, Act.put, List.setIfInBounds_toArray, List.set_cons_zero, List.set_cons_succ])
  refine wpAnyH_done (by kernel_rfl) ?_ _
  (try simp only [List.getElem_toArray, List.getElem_cons_succ, List.getElem_cons_zero, Act.put, List.setIfInBounds_toArray, List.set_cons_zero, List.set_cons_succ])
  go_wp2_with fail
  exact bodyPost_ret (v := .tuple #[cpV R, .agg #[.int .i64 0, .int .i64 0, .int .i64 0, .int .u32 0]]) (results_ce (p := 4) (r := 5) rfl _ _ (w.heap.size + 1 + 1) (w.heap.size + 1 + 1 + 1) rfl rfl hRL (lk_rowN V4 q54) U5) rfl ⟨rfl, below_setRow (below_setRow bel _ (by omega) _) _ (by omega) _⟩
end Go.Proofs.YtfnfbdjbdbifaaaDoor

namespace Go.Proofs.YtfnfbdjbdbifaaaDoor
set_option linter.unusedVariables false
set_option linter.unusedSimpArgs false
set_option maxRecDepth 20000
open Go.ChangeShapes Go.WideShapes Go.ChangeAt Go.RowKit Go.Proofs.YtfnfbdjbdbifaaaDoor.Num Go.Proofs.YtfnfbdjbdbifaaaDoor.Mem Go.Proofs.YtfnfbdjbdbifaaaDoor.Isa
/- The reference: control registers. -/
theorem wpStill_load_cpu {ops : Array Oper} {rest : List Oper} {o : Oper} {a : Act} {w : World} {Q : Act → Prop} (x : Operand) (ho : o.op = .load 32 x) (g : Nat) (hx : a.eval x = .pointer (some ⟨g, 0, none⟩)) {L : List Int} (hg : lk w g = some (.cells (cw L).toArray 32 (0, 0))) (hL : L.length = 25)
    (hw : Region.wanted o (yielded ops a.tmps) = true) (h : wpStill Tryd.prog ops w Q rest (a.put o.dst (.agg (cw L).toArray))) : wpStill Tryd.prog ops w Q (o :: rest) a := by
  obtain ⟨fs, hu⟩ := undCpu
  have hi : (Tryd.prog.info? 32).map (·.size) = some (cw L).toArray.size := by rw [List.size_toArray, cw_len hL]; exact infCpu
  rw [wpStill, if_pos hw]
  unfold Oper.still execOp
  simp only [ho, hx, Instr.loadAt, Instr.sureAddr, Sem.run_bind, Sem.run_pure, Result.andThen_ok, run_loadVar_row w g _ _ _ _ _ hg hu rfl hi]
  exact ⟨rfl, h⟩
set_option maxHeartbeats 1000000 in
theorem sys_csrr (L : List Int) (b c m : Int) (a k : Nat) (w : World) (hL : C25 L) (a1 : a < 16) (hk : m = k) (k1 : k < 8) :
    Calls Tryd.prog 58 #[cpV L, instV 58 a b c m] w (SyPost (advL (setL L a (wd L (17 + k)))) 0 0 0 0 w) := by
  have hLL := hL.1
  have HS := Lib.hid (fun v W => set_ref L a v W hL a1)
  have hRL := (hL.setL a (v := wd L (17 + m.toNat)) (hL.bd _).1 (hL.bd _).2).1
  have m0 : (0 : Int) ≤ m := by omega
  have m1 : m < 8 := by omega
  have mn : 17 + m.toNat < 25 := by omega
  have hmk : Hid (m.toNat = k) := by rw [hk]; exact Lib.hid (by simp)
  clear hk
  unfold instV
  obtain ⟨F1, F2, F3, -⟩ := cw_facts
  go_enter Tryd.func58, Tryd.ntmps58
  repeat' (first
    | (with_reducible refine then_normal ?_) | (with_reducible refine wp_exit ?_) | (with_reducible refine wp_ret ?_) | (with_reducible refine then_exit ?_) | (with_reducible refine blk_hit ?_) | (with_reducible refine blk_pass (by decide) ?_) | (with_reducible refine then_ret ?_) | (with_reducible refine blk_ret ?_) | (with_reducible refine blk_normal ?_)
    | (refine wpList_box_box rfl _ rfl rfl ?_; simp only [Act.put, List.setIfInBounds_toArray, List.set_cons_zero, List.set_cons_succ])
    | (refine wpList_alloc_box rfl rfl ?_; simp only [Act.put, List.setIfInBounds_toArray, List.set_cons_zero, List.set_cons_succ])
    | go_values | go_skip | go_guarded | go_step | go_upon | (simp only [Int.not_lt, Int.not_le] at *; go_simp) | (go_values <;> (try go_simp)) | (go_ite <;> go_prune <;> (try go_simp)))
  simp only [World.size_alloc]
  generalize hW : (World.alloc (World.alloc (World.alloc (World.alloc (World.alloc w _) _) _) _) _) = W
  have X2 : lk W w.heap.size = some (.cells (cw (L)).toArray 32 (0, 0)) := by rw [← hW]; simp [look_alloc, look_setRow, look_drew, look_drewN, look_setCell, Nat.add_assoc] <;> omega
  have X3 : lk W (w.heap.size + 1) = some (.cells #[.int .i64 58, .int .i64 (a : Int), .int .i64 b, .int .i64 c, .int .i32 m] 27 (0, 0)) := by rw [← hW]; simp [look_alloc, look_setRow, look_drew, look_drewN, look_setCell, Nat.add_assoc]
  have X4 : lk W (w.heap.size + 1 + 1) = some (.cells (cw Z25).toArray 32 (0, 0)) := by rw [← hW]; simp [look_alloc, look_setRow, look_drew, look_drewN, look_setCell, Nat.add_assoc]
  have X5 : lk W (w.heap.size + 1 + 1 + 1) = some (.cells #[.int .i64 0, .int .i64 0, .int .i64 0, .int .u32 0] 37 (0, 0)) := by rw [← hW]; simp [look_alloc, look_setRow, look_drew, look_drewN, look_setCell, Nat.add_assoc]
  have X6 : lk W (w.heap.size + 1 + 1 + 1 + 1) = some (.cells #[.int .i64 0, .int .i64 0, .int .i64 0, .int .u32 0] 37 (0, 0)) := by rw [← hW]; simp [look_alloc, look_setRow, look_drew, look_drewN, look_setCell, Nat.add_assoc]
  have bel : Below w.heap.size w W := by rw [← hW]; (repeat' (first | with_reducible exact Below.refl _ _ | with_reducible assumption | with_reducible apply below_drewN | with_reducible apply Below.drew | with_reducible apply Below.setCell | with_reducible apply Below.alloc | (simp; done) | omega | (simp; omega)))
  have hsz : w.heap.size + 4 < W.heap.size := by rw [← hW]; simp
  clear hW
  replace hsz : w.heap.size + 4 < W.drew.heap.size := hsz
  replace X2 : lk W.drew w.heap.size = _ := X2
  replace X4 : lk W.drew (w.heap.size + 1 + 1) = _ := X4
  replace X5 : lk W.drew (w.heap.size + 1 + 1 + 1) = _ := X5
  replace X6 : lk W.drew (w.heap.size + 1 + 1 + 1 + 1) = _ := X6
  have c1 : W.drew.cell? ⟨w.heap.size + 1, 1, none⟩ = some (.int .i64 (a : Int)) := cell_lk X3 1
  have c4 : W.drew.cell? ⟨w.heap.size + 1, 4, none⟩ = some (.int .i32 m) := cell_lk X3 4
  have cm : W.drew.cell? ⟨w.heap.size, 17 + m.toNat, none⟩ = some (.int .u32 (wd L (17 + m.toNat))) := (cell_lk X2 _).trans (by simpa using cw_at hLL (show 17 + m.toNat < 25 by omega))
  replace bel : Below w.heap.size w W.drew := bel.drew
  refine wp_region_still_tail 8 (by kernel_rfl) (by kernel_rfl) ?_
  simp only [List.take_succ_cons, List.take_zero, List.drop_succ_cons, List.drop_zero]
  change wpStill _ _ W.drew (fun a' => wpList _ _ _ _ a' W.drew) _ _
  generalize W.drew = W at *
  refine wpStill_load_cpu _ rfl _ rfl X2 hLL rfl ?_
  simp only [Act.put, List.setIfInBounds_toArray, List.set_cons_zero, List.set_cons_succ]
  repeat still_step
  refine wpStill_nil ?_
  go_wp2_with fail
  refine (HS.out _ _).mono ?_
  rintro e w6 ⟨rfl, hb6⟩
  have Z2 := look_on X2 hb6 (by omega)
  have Z4 := look_on X4 hb6 (by omega)
  have Z5 := look_on X5 hb6 (by omega)
  have Z6 := look_on X6 hb6 (by omega)
  have HB6 := below_step bel hb6
  have hsz6 : w.heap.size + 4 < w6.heap.size := Nat.lt_of_lt_of_le hsz hb6.size
  clear hb6 X2 X3 X4 X5 X6 bel hsz c1 c4 cm
  generalize hR : (setL L (a : Int) (wd L (17 + m.toNat))) = R at *
  have V2 := lk_row (M := R) Z2
  have V4 : lk (w6.setRow w.heap.size (cw R).toArray) (w.heap.size + 1 + 1) = _ := lk_rowN Z4 (by omega)
  have V5 : lk (w6.setRow w.heap.size (cw R).toArray) (w.heap.size + 1 + 1 + 1) = _ := lk_rowN Z5 (by omega)
  have V6 : lk (w6.setRow w.heap.size (cw R).toArray) (w.heap.size + 1 + 1 + 1 + 1) = _ := lk_rowN Z6 (by omega)
  have HB7 := below_setRow HB6 w.heap.size (Nat.le_refl _) (cw R).toArray
  have hsz7 : w.heap.size + 4 < (w6.setRow w.heap.size (cw R).toArray).heap.size := by rw [size_setRow]; exact hsz6
  have cp : (w6.setRow w.heap.size (cw R).toArray).cell? ⟨w.heap.size, 16, none⟩ = some (.int .u32 (wd R 16)) := (cell_lk V2 16).trans (by simpa using cw_at hRL (show 16 < 25 by omega))
  have fp : (w6.setRow w.heap.size (cw R).toArray).frozen? ⟨w.heap.size, 16, none⟩ = false := frozen_lk V2 16
  obtain ⟨T, hT⟩ : ∃ T, Hid ((wd R 16 + 4) % 4294967296 = T) := ⟨_, rfl⟩
  have X2 := lk_set V2 16 T
  have X4 := lk_setN (k := 16) (v := .int .u32 T) V4 (show ¬ w.heap.size = w.heap.size + 1 + 1 by omega)
  have X5 := lk_setN (k := 16) (v := .int .u32 T) V5 (show ¬ w.heap.size = w.heap.size + 1 + 1 + 1 by omega)
  have X6 := lk_setN (k := 16) (v := .int .u32 T) V6 (show ¬ w.heap.size = w.heap.size + 1 + 1 + 1 + 1 by omega)
  have bel := HB7.setCell (p := ⟨w.heap.size, 16, none⟩) (Nat.le_refl _) (.int .u32 T)
  have hsz : w.heap.size + 4 < ((w6.setRow w.heap.size (cw R).toArray).setCell ⟨w.heap.size, 16, none⟩ (.int .u32 T)).heap.size := by rw [World.size_setCell]; exact hsz7
  have hRT : (R.set 16 T).length = 25 := by rw [List.length_set]; exact hRL
  repeat' (first
    | (with_reducible refine then_normal ?_) | (with_reducible refine wp_exit ?_) | (with_reducible refine wp_ret ?_) | (with_reducible refine then_exit ?_) | (with_reducible refine blk_hit ?_) | (with_reducible refine blk_pass (by decide) ?_) | (with_reducible refine then_ret ?_) | (with_reducible refine blk_ret ?_) | (with_reducible refine blk_normal ?_)
    | (rw [hT.out])
    | (refine wpList_store_look rfl _ _ rfl _ rfl rfl hRL (fun ob hob => by (rw [Z2] at hob; subst hob; exact ⟨_, rfl, hLL⟩)) (fun w4 hw4 => ?_); subst hw4; simp only [Act.put, List.setIfInBounds_toArray, List.set_cons_zero, List.set_cons_succ])
    | go_values | go_skip | go_guarded | go_step | go_upon | (simp only [Int.not_lt, Int.not_le] at *; go_simp) | (go_values <;> (try go_simp)) | (go_ite <;> go_prune <;> (try go_simp)))
  clear Z2 Z4 Z5 Z6 V2 V4 V5 V6 HB6 HB7 cp fp hsz6 hsz7
  generalize World.setCell (World.setRow w6 _ _) _ _ = W at *
  obtain ⟨fs, hu⟩ := undCpu
  obtain ⟨fE, huE⟩ := undEff
  have hiR : (Tryd.prog.info? 32).map (·.size) = some (cw (R.set 16 T)).length := by rw [cw_len hRT]; exact infCpu
  have hiE : (Tryd.prog.info? 37).map (·.size) = some ([.int .i64 0, .int .i64 0, .int .i64 0, .int .u32 0] : List Value).length := infEff
  have q4 : ¬ w.heap.size + 1 + 1 = w.heap.size := by omega
  have q46 : ¬ w.heap.size + 1 + 1 = w.heap.size + 1 + 1 + 1 + 1 := by omega
  have q45 : ¬ w.heap.size + 1 + 1 = w.heap.size + 1 + 1 + 1 := by omega
  have q54 : ¬ w.heap.size + 1 + 1 + 1 = w.heap.size + 1 + 1 := by omega
  have q5 : ¬ w.heap.size + 1 + 1 + 1 = w.heap.size := by omega
  have q56 : ¬ w.heap.size + 1 + 1 + 1 = w.heap.size + 1 + 1 + 1 + 1 := by omega
  refine wp_region_held_drew (S := fun w' => lk w' w.heap.size = some (.cells (cw (R.set 16 T)).toArray 32 (0, 0)) ∧ lk w' (w.heap.size + 1 + 1 + 1 + 1) = some (.cells #[.int .i64 0, .int .i64 0, .int .i64 0, .int .u32 0] 37 (0, 0))) (by kernel_rfl) ⟨X2, X6⟩ (fun hHeld => ?_)
  replace hsz : w.heap.size + 4 < W.drew.heap.size := hsz
  have Z2 : lk W.drew w.heap.size = _ := X2
  have Z4 : lk W.drew (w.heap.size + 1 + 1) = _ := X4
  have Z5 : lk W.drew (w.heap.size + 1 + 1 + 1) = _ := X5
  have Z6 : lk W.drew (w.heap.size + 1 + 1 + 1 + 1) = _ := X6
  replace bel : Below w.heap.size w W.drew := bel.drew
  clear X2 X4 X5 X6
  (refine' wpAnyH_take (i := 0) (oi := _) (v := _) rfl (by kernel_rfl) (by kernel_rfl) (by kernel_rfl) (fun _ _ _ h => h) (yieldsIf_load_mid (by rfl) _ _ rfl _ 0 rfl (cw (R.set 16 T)) _ (fun w hw => range_lk hw.1) hu rfl hiR) (by assumption) ?_; (try simp only [List.getElem_toArray, List.getElem_cons_succ, List.getElem_cons_zero, Act.put, List.setIfInBounds_toArray, List.set_cons_zero, List.set_cons_succ]))
  (refine' wpAnyH_take (i := 1) (oi := _) (v := _) rfl (by kernel_rfl) (by kernel_rfl) (by kernel_rfl) (fun _ _ _ h => h) (yieldsIf_load_mid (by rfl) _ _ rfl _ 0 rfl [.int .i64 0, .int .i64 0, .int .i64 0, .int .u32 0] _ (fun w hw => range_lk hw.2) huE rfl hiE) (by assumption) ?_; (try simp only [List.getElem_toArray, List.getElem_cons_succ, List.getElem_cons_zero, Act.put, List.setIfInBounds_toArray, List.set_cons_zero, List.set_cons_succ]))
  generalize W.drew = W9 at *
  have V2 : lk (W9.setRow (w.heap.size + 1 + 1) (cw (R.set 16 T)).toArray) w.heap.size = _ := lk_rowN Z2 q4
  have V4 := lk_row (M := (R.set 16 T)) Z4
  have V5 : lk (W9.setRow (w.heap.size + 1 + 1) (cw (R.set 16 T)).toArray) (w.heap.size + 1 + 1 + 1) = _ := lk_rowN Z5 q45
  have V6 : lk (W9.setRow (w.heap.size + 1 + 1) (cw (R.set 16 T)).toArray) (w.heap.size + 1 + 1 + 1 + 1) = _ := lk_rowN Z6 q46
  (refine wpAnyH_ready (rs := [2]) (by kernel_rfl) (by simp) ?_; refine AllReadyH.cons (o := _) rfl (fun K hK => ?_) AllReadyH.nil; rw [if_pos (by rfl)])
  refine wp_store_cpu _ _ rfl _ rfl rfl hRT Z4 Z25_len ?_
  (try dsimp only); refine hK.out _ _ (by exact ⟨V2, V6⟩) (fun hHeld => ?_); clear hK K; (try simp only [List.getElem_toArray, List.getElem_cons_succ, List.getElem_cons_zero, Act.put, List.setIfInBounds_toArray, List.set_cons_zero, List.set_cons_succ])
  have U5 : lk ((W9.setRow (w.heap.size + 1 + 1) (cw (R.set 16 T)).toArray).setRow (w.heap.size + 1 + 1 + 1) #[.int .i64 0, .int .i64 0, .int .i64 0, .int .u32 0]) (w.heap.size + 1 + 1 + 1) = some (.cells #[.int .i64 0, .int .i64 0, .int .i64 0, .int .u32 0] 37 (0, 0)) := by rw [look_setRow, if_pos rfl, V5]; rfl
  (refine wpAnyH_ready (rs := [3]) (by kernel_rfl) (by simp) ?_; refine AllReadyH.cons (o := _) rfl (fun K hK => ?_) AllReadyH.nil; rw [if_pos (by rfl)])
  refine wp_store_row 37 _ _ rfl (w.heap.size + 1 + 1 + 1) #[.int .i64 0, .int .i64 0, .int .i64 0, .int .u32 0] rfl rfl _ _ V5 infEff rfl (by simp [Value.oneCell']) ?_
  (try dsimp only); refine hK.out _ _ (by exact ⟨lk_rowN V2 q5, lk_rowN V6 q56⟩) (fun hHeld => ?_); clear hK K; (try simp only [List.getElem_toArray, List.getElem_cons_succ, List.getElem_cons_zero, Act.put, List.setIfInBounds_toArray, List.set_cons_zero, List.set_cons_succ])
  refine wpAnyH_done (by kernel_rfl) ?_ _
  (try simp only [List.getElem_toArray, List.getElem_cons_succ, List.getElem_cons_zero, Act.put, List.setIfInBounds_toArray, List.set_cons_zero, List.set_cons_succ])
  go_wp2_with fail
  exact bodyPost_ret (v := .tuple #[cpV (R.set 16 T), .agg #[.int .i64 0, .int .i64 0, .int .i64 0, .int .u32 0]]) (results_ce (p := 4) (r := 5) rfl _ _ (w.heap.size + 1 + 1) (w.heap.size + 1 + 1 + 1) rfl rfl hRT (lk_rowN V4 q54) U5) rfl ⟨(by rw [← hT.out, ← hR, hmk.out]; rfl), below_setRow (below_setRow bel _ (by omega) _) _ (by omega) _⟩
set_option maxHeartbeats 1000000 in
theorem sys_csrw (L : List Int) (b c m : Int) (a : Nat) (w : World) (hL : C25 L) (a1 : a < 16) (m0 : -32768 ≤ m) (m1 : m ≤ 65535) :
    Calls Tryd.prog 58 #[cpV L, instV 59 a b c m] w (SyPost (advL (wrL L m (wd L a))) 0 0 0 0 w) := by
  have hLL := hL.1
  have ha0 : (0 : Int) ≤ a := by omega
  have ha1 : (a : Int) < 16 := by omega
  have ha25 : a < 25 := by omega
  have HS := Lib.hid (fun W => write_ref L m (wd L a) W hL (hL.bd a).1 (hL.bd a).2)
  have hRL := (hL.wr m (hL.bd a).1 (hL.bd a).2).1
  unfold instV
  obtain ⟨F1, F2, F3, -⟩ := cw_facts
  go_enter Tryd.func58, Tryd.ntmps58
  repeat' (first
    | (with_reducible refine then_normal ?_) | (with_reducible refine wp_exit ?_) | (with_reducible refine wp_ret ?_) | (with_reducible refine then_exit ?_) | (with_reducible refine blk_hit ?_) | (with_reducible refine blk_pass (by decide) ?_) | (with_reducible refine then_ret ?_) | (with_reducible refine blk_ret ?_) | (with_reducible refine blk_normal ?_)
    | (refine wpList_box_box rfl _ rfl rfl ?_; simp only [Act.put, List.setIfInBounds_toArray, List.set_cons_zero, List.set_cons_succ])
    | (refine wpList_alloc_box rfl rfl ?_; simp only [Act.put, List.setIfInBounds_toArray, List.set_cons_zero, List.set_cons_succ])
    | go_values | go_skip | go_guarded | go_step | go_upon | (simp only [Int.not_lt, Int.not_le] at *; go_simp) | (go_values <;> (try go_simp)) | (go_ite <;> go_prune <;> (try go_simp)))
  simp only [World.size_alloc]
  generalize hW : (World.alloc (World.alloc (World.alloc (World.alloc (World.alloc w _) _) _) _) _) = W
  have X2 : lk W w.heap.size = some (.cells (cw (L)).toArray 32 (0, 0)) := by rw [← hW]; simp [look_alloc, look_setRow, look_drew, look_drewN, look_setCell, Nat.add_assoc] <;> omega
  have X3 : lk W (w.heap.size + 1) = some (.cells #[.int .i64 59, .int .i64 (a : Int), .int .i64 b, .int .i64 c, .int .i32 m] 27 (0, 0)) := by rw [← hW]; simp [look_alloc, look_setRow, look_drew, look_drewN, look_setCell, Nat.add_assoc]
  have X4 : lk W (w.heap.size + 1 + 1) = some (.cells (cw Z25).toArray 32 (0, 0)) := by rw [← hW]; simp [look_alloc, look_setRow, look_drew, look_drewN, look_setCell, Nat.add_assoc]
  have X5 : lk W (w.heap.size + 1 + 1 + 1) = some (.cells #[.int .i64 0, .int .i64 0, .int .i64 0, .int .u32 0] 37 (0, 0)) := by rw [← hW]; simp [look_alloc, look_setRow, look_drew, look_drewN, look_setCell, Nat.add_assoc]
  have X6 : lk W (w.heap.size + 1 + 1 + 1 + 1) = some (.cells #[.int .i64 0, .int .i64 0, .int .i64 0, .int .u32 0] 37 (0, 0)) := by rw [← hW]; simp [look_alloc, look_setRow, look_drew, look_drewN, look_setCell, Nat.add_assoc]
  have bel : Below w.heap.size w W := by rw [← hW]; (repeat' (first | with_reducible exact Below.refl _ _ | with_reducible assumption | with_reducible apply below_drewN | with_reducible apply Below.drew | with_reducible apply Below.setCell | with_reducible apply Below.alloc | (simp; done) | omega | (simp; omega)))
  have hsz : w.heap.size + 4 < W.heap.size := by rw [← hW]; simp
  clear hW
  replace hsz : w.heap.size + 4 < W.drew.heap.size := hsz
  replace X2 : lk W.drew w.heap.size = _ := X2
  replace X4 : lk W.drew (w.heap.size + 1 + 1) = _ := X4
  replace X5 : lk W.drew (w.heap.size + 1 + 1 + 1) = _ := X5
  replace X6 : lk W.drew (w.heap.size + 1 + 1 + 1 + 1) = _ := X6
  have c1 : W.drew.cell? ⟨w.heap.size + 1, 1, none⟩ = some (.int .i64 (a : Int)) := cell_lk X3 1
  have c4 : W.drew.cell? ⟨w.heap.size + 1, 4, none⟩ = some (.int .i32 m) := cell_lk X3 4
  have cm : W.drew.cell? ⟨w.heap.size, a, none⟩ = some (.int .u32 (wd L (a))) := (cell_lk X2 _).trans (by simpa using cw_at hLL (show a < 25 by omega))
  replace bel : Below w.heap.size w W.drew := bel.drew
  refine wp_region_still_tail 9 (by kernel_rfl) (by kernel_rfl) ?_
  simp only [List.take_succ_cons, List.take_zero, List.drop_succ_cons, List.drop_zero]
  change wpStill _ _ W.drew (fun a' => wpList _ _ _ _ a' W.drew) _ _
  generalize W.drew = W at *
  refine wpStill_load_cpu _ rfl _ rfl X2 hLL rfl ?_
  simp only [Act.put, List.setIfInBounds_toArray, List.set_cons_zero, List.set_cons_succ]
  repeat still_step
  refine wpStill_nil ?_
  go_wp2_with fail
  refine (HS.out _).mono ?_
  rintro e w6 ⟨rfl, hb6⟩
  have Z2 := look_on X2 hb6 (by omega)
  have Z4 := look_on X4 hb6 (by omega)
  have Z5 := look_on X5 hb6 (by omega)
  have Z6 := look_on X6 hb6 (by omega)
  have HB6 := below_step bel hb6
  have hsz6 : w.heap.size + 4 < w6.heap.size := Nat.lt_of_lt_of_le hsz hb6.size
  clear hb6 X2 X3 X4 X5 X6 bel hsz c1 c4 cm
  generalize hR : (wrL L m (wd L a)) = R at *
  have V2 := lk_row (M := R) Z2
  have V4 : lk (w6.setRow w.heap.size (cw R).toArray) (w.heap.size + 1 + 1) = _ := lk_rowN Z4 (by omega)
  have V5 : lk (w6.setRow w.heap.size (cw R).toArray) (w.heap.size + 1 + 1 + 1) = _ := lk_rowN Z5 (by omega)
  have V6 : lk (w6.setRow w.heap.size (cw R).toArray) (w.heap.size + 1 + 1 + 1 + 1) = _ := lk_rowN Z6 (by omega)
  have HB7 := below_setRow HB6 w.heap.size (Nat.le_refl _) (cw R).toArray
  have hsz7 : w.heap.size + 4 < (w6.setRow w.heap.size (cw R).toArray).heap.size := by rw [size_setRow]; exact hsz6
  have cp : (w6.setRow w.heap.size (cw R).toArray).cell? ⟨w.heap.size, 16, none⟩ = some (.int .u32 (wd R 16)) := (cell_lk V2 16).trans (by simpa using cw_at hRL (show 16 < 25 by omega))
  have fp : (w6.setRow w.heap.size (cw R).toArray).frozen? ⟨w.heap.size, 16, none⟩ = false := frozen_lk V2 16
  obtain ⟨T, hT⟩ : ∃ T, Hid ((wd R 16 + 4) % 4294967296 = T) := ⟨_, rfl⟩
  have X2 := lk_set V2 16 T
  have X4 := lk_setN (k := 16) (v := .int .u32 T) V4 (show ¬ w.heap.size = w.heap.size + 1 + 1 by omega)
  have X5 := lk_setN (k := 16) (v := .int .u32 T) V5 (show ¬ w.heap.size = w.heap.size + 1 + 1 + 1 by omega)
  have X6 := lk_setN (k := 16) (v := .int .u32 T) V6 (show ¬ w.heap.size = w.heap.size + 1 + 1 + 1 + 1 by omega)
  have bel := HB7.setCell (p := ⟨w.heap.size, 16, none⟩) (Nat.le_refl _) (.int .u32 T)
  have hsz : w.heap.size + 4 < ((w6.setRow w.heap.size (cw R).toArray).setCell ⟨w.heap.size, 16, none⟩ (.int .u32 T)).heap.size := by rw [World.size_setCell]; exact hsz7
  have hRT : (R.set 16 T).length = 25 := by rw [List.length_set]; exact hRL
  repeat' (first
    | (with_reducible refine then_normal ?_) | (with_reducible refine wp_exit ?_) | (with_reducible refine wp_ret ?_) | (with_reducible refine then_exit ?_) | (with_reducible refine blk_hit ?_) | (with_reducible refine blk_pass (by decide) ?_) | (with_reducible refine then_ret ?_) | (with_reducible refine blk_ret ?_) | (with_reducible refine blk_normal ?_)
    | (rw [hT.out])
    | (refine wpList_store_look rfl _ _ rfl _ rfl rfl hRL (fun ob hob => by (rw [Z2] at hob; subst hob; exact ⟨_, rfl, hLL⟩)) (fun w4 hw4 => ?_); subst hw4; simp only [Act.put, List.setIfInBounds_toArray, List.set_cons_zero, List.set_cons_succ])
    | go_values | go_skip | go_guarded | go_step | go_upon | (simp only [Int.not_lt, Int.not_le] at *; go_simp) | (go_values <;> (try go_simp)) | (go_ite <;> go_prune <;> (try go_simp)))
  clear Z2 Z4 Z5 Z6 V2 V4 V5 V6 HB6 HB7 cp fp hsz6 hsz7
  generalize World.setCell (World.setRow w6 _ _) _ _ = W at *
  obtain ⟨fs, hu⟩ := undCpu
  obtain ⟨fE, huE⟩ := undEff
  have hiR : (Tryd.prog.info? 32).map (·.size) = some (cw (R.set 16 T)).length := by rw [cw_len hRT]; exact infCpu
  have hiE : (Tryd.prog.info? 37).map (·.size) = some ([.int .i64 0, .int .i64 0, .int .i64 0, .int .u32 0] : List Value).length := infEff
  have q4 : ¬ w.heap.size + 1 + 1 = w.heap.size := by omega
  have q46 : ¬ w.heap.size + 1 + 1 = w.heap.size + 1 + 1 + 1 + 1 := by omega
  have q45 : ¬ w.heap.size + 1 + 1 = w.heap.size + 1 + 1 + 1 := by omega
  have q54 : ¬ w.heap.size + 1 + 1 + 1 = w.heap.size + 1 + 1 := by omega
  have q5 : ¬ w.heap.size + 1 + 1 + 1 = w.heap.size := by omega
  have q56 : ¬ w.heap.size + 1 + 1 + 1 = w.heap.size + 1 + 1 + 1 + 1 := by omega
  refine wp_region_held_drew (S := fun w' => lk w' w.heap.size = some (.cells (cw (R.set 16 T)).toArray 32 (0, 0)) ∧ lk w' (w.heap.size + 1 + 1 + 1 + 1) = some (.cells #[.int .i64 0, .int .i64 0, .int .i64 0, .int .u32 0] 37 (0, 0))) (by kernel_rfl) ⟨X2, X6⟩ (fun hHeld => ?_)
  replace hsz : w.heap.size + 4 < W.drew.heap.size := hsz
  have Z2 : lk W.drew w.heap.size = _ := X2
  have Z4 : lk W.drew (w.heap.size + 1 + 1) = _ := X4
  have Z5 : lk W.drew (w.heap.size + 1 + 1 + 1) = _ := X5
  have Z6 : lk W.drew (w.heap.size + 1 + 1 + 1 + 1) = _ := X6
  replace bel : Below w.heap.size w W.drew := bel.drew
  clear X2 X4 X5 X6
  (refine' wpAnyH_take (i := 0) (oi := _) (v := _) rfl (by kernel_rfl) (by kernel_rfl) (by kernel_rfl) (fun _ _ _ h => h) (yieldsIf_load_mid (by rfl) _ _ rfl _ 0 rfl (cw (R.set 16 T)) _ (fun w hw => range_lk hw.1) hu rfl hiR) (by assumption) ?_; (try simp only [List.getElem_toArray, List.getElem_cons_succ, List.getElem_cons_zero, Act.put, List.setIfInBounds_toArray, List.set_cons_zero, List.set_cons_succ]))
  (refine' wpAnyH_take (i := 1) (oi := _) (v := _) rfl (by kernel_rfl) (by kernel_rfl) (by kernel_rfl) (fun _ _ _ h => h) (yieldsIf_load_mid (by rfl) _ _ rfl _ 0 rfl [.int .i64 0, .int .i64 0, .int .i64 0, .int .u32 0] _ (fun w hw => range_lk hw.2) huE rfl hiE) (by assumption) ?_; (try simp only [List.getElem_toArray, List.getElem_cons_succ, List.getElem_cons_zero, Act.put, List.setIfInBounds_toArray, List.set_cons_zero, List.set_cons_succ]))
  generalize W.drew = W9 at *
  have V2 : lk (W9.setRow (w.heap.size + 1 + 1) (cw (R.set 16 T)).toArray) w.heap.size = _ := lk_rowN Z2 q4
  have V4 := lk_row (M := (R.set 16 T)) Z4
  have V5 : lk (W9.setRow (w.heap.size + 1 + 1) (cw (R.set 16 T)).toArray) (w.heap.size + 1 + 1 + 1) = _ := lk_rowN Z5 q45
  have V6 : lk (W9.setRow (w.heap.size + 1 + 1) (cw (R.set 16 T)).toArray) (w.heap.size + 1 + 1 + 1 + 1) = _ := lk_rowN Z6 q46
  (refine wpAnyH_ready (rs := [2]) (by kernel_rfl) (by simp) ?_; refine AllReadyH.cons (o := _) rfl (fun K hK => ?_) AllReadyH.nil; rw [if_pos (by rfl)])
  refine wp_store_cpu _ _ rfl _ rfl rfl hRT Z4 Z25_len ?_
  (try dsimp only); refine hK.out _ _ (by exact ⟨V2, V6⟩) (fun hHeld => ?_); clear hK K; (try simp only [List.getElem_toArray, List.getElem_cons_succ, List.getElem_cons_zero, Act.put, List.setIfInBounds_toArray, List.set_cons_zero, List.set_cons_succ])
  have U5 : lk ((W9.setRow (w.heap.size + 1 + 1) (cw (R.set 16 T)).toArray).setRow (w.heap.size + 1 + 1 + 1) #[.int .i64 0, .int .i64 0, .int .i64 0, .int .u32 0]) (w.heap.size + 1 + 1 + 1) = some (.cells #[.int .i64 0, .int .i64 0, .int .i64 0, .int .u32 0] 37 (0, 0)) := by rw [look_setRow, if_pos rfl, V5]; rfl
  (refine wpAnyH_ready (rs := [3]) (by kernel_rfl) (by simp) ?_; refine AllReadyH.cons (o := _) rfl (fun K hK => ?_) AllReadyH.nil; rw [if_pos (by rfl)])
  refine wp_store_row 37 _ _ rfl (w.heap.size + 1 + 1 + 1) #[.int .i64 0, .int .i64 0, .int .i64 0, .int .u32 0] rfl rfl _ _ V5 infEff rfl (by simp [Value.oneCell']) ?_
  (try dsimp only); refine hK.out _ _ (by exact ⟨lk_rowN V2 q5, lk_rowN V6 q56⟩) (fun hHeld => ?_); clear hK K; (try simp only [List.getElem_toArray, List.getElem_cons_succ, List.getElem_cons_zero, Act.put, List.setIfInBounds_toArray, List.set_cons_zero, List.set_cons_succ])
  refine wpAnyH_done (by kernel_rfl) ?_ _
  (try simp only [List.getElem_toArray, List.getElem_cons_succ, List.getElem_cons_zero, Act.put, List.setIfInBounds_toArray, List.set_cons_zero, List.set_cons_succ])
  go_wp2_with fail
  exact bodyPost_ret (v := .tuple #[cpV (R.set 16 T), .agg #[.int .i64 0, .int .i64 0, .int .i64 0, .int .u32 0]]) (results_ce (p := 4) (r := 5) rfl _ _ (w.heap.size + 1 + 1) (w.heap.size + 1 + 1 + 1) rfl rfl hRT (lk_rowN V4 q54) U5) rfl ⟨(by rw [← hT.out, ← hR]; rfl), below_setRow (below_setRow bel _ (by omega) _) _ (by omega) _⟩
end Go.Proofs.YtfnfbdjbdbifaaaDoor

namespace Go.Proofs.YtfnfbdjbdbifaaaDoor
set_option linter.unusedVariables false
set_option linter.unusedSimpArgs false
set_option maxRecDepth 20000
open Go.ChangeShapes Go.WideShapes Go.ChangeAt Go.RowKit Go.Proofs.YtfnfbdjbdbifaaaDoor.Num Go.Proofs.YtfnfbdjbdbifaaaDoor.Mem Go.Proofs.YtfnfbdjbdbifaaaDoor.Isa
/- The reference: one instruction on a memory of the call's own. -/
theorem wpList_store_eff {ops : Array Oper} {rest : List Oper} {o : Oper} {a : Act} {w : World} {Q : Exit → Act → World → Prop} (hgd : o.guard = none) (x y : Operand) (ho : o.op = .store 37 x y) (g : Nat) (K P R V : Int) (hx : a.eval x = .pointer (some ⟨g, 0, none⟩)) (hy : a.eval y = .agg #[.int .i64 K, .int .i64 P, .int .i64 R, .int .u32 V])
    {K0 P0 R0 V0 : Int} (hg : lk w g = some (.cells #[.int .i64 K0, .int .i64 P0, .int .i64 R0, .int .u32 V0] 37 (0, 0))) (h : wpList Tryd.prog ops Q rest (a.put o.dst undef) (w.setRow g #[.int .i64 K, .int .i64 P, .int .i64 R, .int .u32 V])) : wpList Tryd.prog ops Q (o :: rest) a w :=
  wpList_plain hgd fun _ hK => wp_store_row 37 x y ho g #[.int .i64 K, .int .i64 P, .int .i64 R, .int .u32 V] hx hy _ _ hg infEff rfl (by simp [Value.oneCell']) (hK _ _ h)
/-- What Do gives. -/
def DoPost (A : Option Addr) (n c g : Nat) (L' l' : List Int) (V : Value) (w : World) (e : Ending) (w' : World) : Prop :=
  e = .returned (.tuple #[cpV L', V]) ∧ Out w' A n c l' g ∧ Keep (0 < n) g w w'
set_option maxHeartbeats 1000000 in
theorem do_flt (L : List Int) (A : Option Addr) (n c g : Nat) (l : List Int) (w : World) (hL : C25 L) (hm : Out w A n c l g) (h0 : ¬ ftC n l L = 0) :
    Calls Tryd.prog 30 #[cpV L, .slice A n c] w (DoPost A n c g (trapL L (ftC n l L) (wd L 16)) (ftL n l L) (efV 0 0 0 0) w) := by
  have hLL := hL.1
  have h16 := hL.bd 16
  have e16 := cw_at hLL (show 16 < 25 by omega)
  have HR := Lib.hid (fun W (hM : Out W A n c l g) => reach_any L A n c g l (wd L 16) 4 1 W hL hM h16.1 h16.2)
  have HT := Lib.hid (fun W => trap_ref L (ftC n l L) (wd L 16) W hL)
  have hRL := (hL.trap (ftC n l L) h16.1 h16.2).1
  unfold ftL ftC at *
  generalize rsL n l L (wd L 16) 4 1 = l' at *
  generalize rsA n l L (wd L 16) 4 1 = ad at *
  generalize rsC n l L (wd L 16) 4 1 = cs at *
  generalize trapL L cs (wd L 16) = R at *
  have HM := Lib.hid hm
  clear hm
  obtain ⟨F1, F2, F3, -⟩ := cw_facts
  go_enter Tryd.func30, Tryd.ntmps30
  go_wp2_with (first
    | (refine wpList_box_box rfl _ rfl rfl ?_; simp only [Act.put, List.setIfInBounds_toArray, List.set_cons_zero, List.set_cons_succ])
    | (refine wpList_alloc_box rfl rfl ?_; simp only [Act.put, List.setIfInBounds_toArray, List.set_cons_zero, List.set_cons_succ])
    | (refine wpList_load_look rfl _ rfl _ rfl (fun ob hob => ?_); simp [look_alloc, look_setRow, look_drew, look_drewN, look_setCell, Nat.add_assoc] at hob; subst hob; refine ⟨_, rfl, by (first | with_reducible assumption | (simp only [List.length_set]; with_reducible assumption) | exact Z25_len), ?_⟩; simp only [Act.put, List.setIfInBounds_toArray, List.set_cons_zero, List.set_cons_succ]))
  try simp only [World.size_alloc]
  generalize hW : World.alloc (World.alloc (World.alloc w _) _) _ = W
  have X2 : lk W w.heap.size = some (.cells (cw L).toArray 32 (0, 0)) := by rw [← hW]; simp [look_alloc, look_setRow, look_drew, look_drewN, look_setCell, Nat.add_assoc] <;> omega
  have X4 : lk W (w.heap.size + 1) = some (.cells (cw Z25).toArray 32 (0, 0)) := by rw [← hW]; simp [look_alloc, look_setRow, look_drew, look_drewN, look_setCell, Nat.add_assoc]
  have X5 : lk W (w.heap.size + 1 + 1) = some (.cells #[.int .i64 0, .int .i64 0, .int .i64 0, .int .u32 0] 37 (0, 0)) := by rw [← hW]; simp [look_alloc, look_setRow, look_drew, look_drewN, look_setCell, Nat.add_assoc]
  have bel : Below w.heap.size w W := by rw [← hW]; (repeat' (first | with_reducible exact Below.refl _ _ | with_reducible assumption | with_reducible apply below_drewN | with_reducible apply Below.drew | with_reducible apply Below.setCell | with_reducible apply Below.alloc | (simp; done) | omega | (simp; omega)))
  have hsz : w.heap.size + 2 < W.heap.size := by rw [← hW]; simp
  clear hW
  refine (HR.out _ (HM.out.on bel)).mono ?_
  rintro e w1 ⟨rfl, ho1, hk1⟩
  have hgl := HM.out.lt
  have Y2 := look_kp X2 hk1 (by omega)
  have Y4 := look_kp X4 hk1 (by omega)
  have Y5 := look_kp X5 hk1 (by omega)
  have hs1 : w.heap.size + 2 < w1.heap.size := Nat.lt_of_lt_of_le hsz hk1.size
  have HK1 := Keep.trans (Keep.of (p := 0 < n) (g := g) bel) hk1
  clear X2 X4 X5 bel hsz hk1
  have cp : w1.cell? ⟨w.heap.size, 16, none⟩ = some (.int .u32 (wd L 16)) := (cell_lk Y2 16).trans (by simpa using e16)
  go_wp2_with (first
    | (refine wpList_load_look rfl _ rfl _ rfl (fun ob hob => ?_); rw [Y2] at hob; subst hob; refine ⟨_, rfl, hLL, ?_⟩; simp only [Act.put, List.setIfInBounds_toArray, List.set_cons_zero, List.set_cons_succ]))
  refine (HT.out _).mono ?_
  rintro e w2 ⟨rfl, hb2⟩
  replace Y4 := look_on Y4 hb2 (by omega)
  replace Y5 := look_on Y5 hb2 (by omega)
  replace ho1 := ho1.on hb2
  replace HK1 := Keep.trans HK1 (Keep.of hb2)
  clear hb2 cp Y2
  have V4 := lk_row (M := R) Y4
  have V5 : lk (w2.setRow (w.heap.size + 1) (cw (R)).toArray) (w.heap.size + 1 + 1) = _ := lk_rowN Y5 (by omega)
  have U5 : lk ((w2.setRow (w.heap.size + 1) (cw (R)).toArray).setRow (w.heap.size + 1 + 1) #[.int .i64 0, .int .i64 0, .int .i64 0, .int .u32 0]) (w.heap.size + 1 + 1) = some (.cells #[.int .i64 0, .int .i64 0, .int .i64 0, .int .u32 0] 37 (0, 0)) := by rw [look_setRow, if_pos rfl, V5]; rfl
  have U4 : lk ((w2.setRow (w.heap.size + 1) (cw (R)).toArray).setRow (w.heap.size + 1 + 1) #[.int .i64 0, .int .i64 0, .int .i64 0, .int .u32 0]) (w.heap.size + 1) = _ := lk_rowN V4 (by omega)
  repeat' (first
    | (with_reducible refine then_normal ?_) | (with_reducible refine wp_exit ?_) | (with_reducible refine wp_ret ?_) | (with_reducible refine then_exit ?_) | (with_reducible refine blk_hit ?_) | (with_reducible refine blk_pass (by decide) ?_) | (with_reducible refine then_ret ?_) | (with_reducible refine blk_ret ?_) | (with_reducible refine blk_normal ?_)
    | fail
    | (refine wpList_store_look rfl _ _ rfl _ rfl rfl hRL (fun ob hob => by (rw [Y4] at hob; subst hob; exact ⟨_, rfl, Z25_len⟩)) (fun w4 hw4 => ?_); subst hw4; simp only [Act.put, List.setIfInBounds_toArray, List.set_cons_zero, List.set_cons_succ])
    | (refine wpList_store_eff rfl _ _ rfl (w.heap.size + 1 + 1) _ _ _ _ rfl rfl V5 ?_; simp only [Act.put, List.setIfInBounds_toArray, List.set_cons_zero, List.set_cons_succ])
    | go_values | go_skip | go_guarded | go_step | go_upon | (simp only [Int.not_lt, Int.not_le] at *; go_simp) | (go_values <;> (try go_simp)) | (go_ite <;> go_prune <;> (try go_simp)))
  exact bodyPost_ret (v := .tuple #[cpV (R), .agg #[.int .i64 0, .int .i64 0, .int .i64 0, .int .u32 0]]) (results_ce (p := 4) (r := 5) rfl _ _ (w.heap.size + 1) (w.heap.size + 1 + 1) rfl rfl hRL U4 U5) rfl ⟨rfl, (Out.setRow (Out.setRow ho1 (by omega)) (by omega)), Keep.setRow (Keep.setRow HK1 (by omega) _) (by omega) _⟩
set_option maxHeartbeats 1000000 in
theorem do_ill (L : List Int) (A : Option Addr) (n c g : Nat) (l : List Int) (w : World) (hL : C25 L) (hm : Out w A n c l g) (h0 : ftC n l L = 0) (hd : ¬ dOk (ftW n l L)) :
    Calls Tryd.prog 30 #[cpV L, .slice A n c] w (DoPost A n c g (trapL L 1 (ftW n l L)) (ftL n l L) (efV 0 0 0 0) w) := by
  have hLL := hL.1
  have h16 := hL.bd 16
  have e16 := cw_at hLL (show 16 < 25 by omega)
  have HR := Lib.hid (fun W (hM : Out W A n c l g) => reach_any L A n c g l (wd L 16) 4 1 W hL hM h16.1 h16.2)
  have hok := acc_ok (a := 1) h16.1 h16.2 (show rsC n l L (wd L 16) 4 1 = 0 from h0)
  have hX : 0 ≤ ftW n l L ∧ ftW n l L ≤ 4294967295 := ftW_bd (ftL_u32 hm.1.2.2.2.1 L)
  have eX : ldV (ftL n l L) (rsA n l L (wd L 16) 4 1) 4 = ftW n l L := by unfold ftW ldV; rw [if_pos h0, if_pos rfl]
  rw [show rsC n l L (wd L 16) 4 1 = 0 from h0] at HR
  generalize rsA n l L (wd L 16) 4 1 = ad at *
  have HLD := Lib.hid (fun W (hM : Mem W A n c (ftL n l L)) => load_refyes A n c (ftL n l L) ad 4 W hM hok.2.1 hok.2.2 hok.1)
  rw [eX] at HLD
  have hu' : U32 (ftL n l L) := ftL_u32 hm.1.2.2.2.1 L
  have HD := Lib.hid (fun W => decode_ref (ftW n l L) W hX.1 hX.2)
  rw [decide_eq_false hd] at HD
  have HT := Lib.hid (fun W => trap_ref L 1 (ftW n l L) W hL)
  have hRL := (hL.trap 1 hX.1 hX.2).1
  change Hid (∀ W, Out W A n c l g → Calls _ _ _ W (RchPost n A c ad 0 (ftL n l L) g W)) at HR
  generalize ftL n l L = l' at *
  generalize ftW n l L = X at *
  generalize trapL L 1 X = R at *
  generalize zOp X = o at *
  generalize zA X = dA' at *
  generalize zB X = dB' at *
  generalize zC X = dC' at *
  generalize zM X = dM' at *
  have HM := Lib.hid hm
  clear hm hd h0
  obtain ⟨F1, F2, F3, -⟩ := cw_facts
  go_enter Tryd.func30, Tryd.ntmps30
  go_wp2_with (first
    | (refine wpList_box_box rfl _ rfl rfl ?_; simp only [Act.put, List.setIfInBounds_toArray, List.set_cons_zero, List.set_cons_succ])
    | (refine wpList_alloc_box rfl rfl ?_; simp only [Act.put, List.setIfInBounds_toArray, List.set_cons_zero, List.set_cons_succ])
    | (refine wpList_load_look rfl _ rfl _ rfl (fun ob hob => ?_); simp [look_alloc, look_setRow, look_drew, look_drewN, look_setCell, Nat.add_assoc] at hob; subst hob; refine ⟨_, rfl, by (first | with_reducible assumption | (simp only [List.length_set]; with_reducible assumption) | exact Z25_len), ?_⟩; simp only [Act.put, List.setIfInBounds_toArray, List.set_cons_zero, List.set_cons_succ]))
  try simp only [World.size_alloc]
  generalize hW : World.alloc (World.alloc (World.alloc w _) _) _ = W
  have X2 : lk W w.heap.size = some (.cells (cw L).toArray 32 (0, 0)) := by rw [← hW]; simp [look_alloc, look_setRow, look_drew, look_drewN, look_setCell, Nat.add_assoc] <;> omega
  have X4 : lk W (w.heap.size + 1) = some (.cells (cw Z25).toArray 32 (0, 0)) := by rw [← hW]; simp [look_alloc, look_setRow, look_drew, look_drewN, look_setCell, Nat.add_assoc]
  have X5 : lk W (w.heap.size + 1 + 1) = some (.cells #[.int .i64 0, .int .i64 0, .int .i64 0, .int .u32 0] 37 (0, 0)) := by rw [← hW]; simp [look_alloc, look_setRow, look_drew, look_drewN, look_setCell, Nat.add_assoc]
  have bel : Below w.heap.size w W := by rw [← hW]; (repeat' (first | with_reducible exact Below.refl _ _ | with_reducible assumption | with_reducible apply below_drewN | with_reducible apply Below.drew | with_reducible apply Below.setCell | with_reducible apply Below.alloc | (simp; done) | omega | (simp; omega)))
  have hsz : w.heap.size + 2 < W.heap.size := by rw [← hW]; simp
  clear hW
  refine (HR.out _ (HM.out.on bel)).mono ?_
  rintro e w1 ⟨rfl, ho1, hk1⟩
  have hgl := HM.out.lt
  have Y2 := look_kp X2 hk1 (by omega)
  have Y4 := look_kp X4 hk1 (by omega)
  have Y5 := look_kp X5 hk1 (by omega)
  have hs1 : w.heap.size + 2 < w1.heap.size := Nat.lt_of_lt_of_le hsz hk1.size
  have HK1 := Keep.trans (Keep.of (p := 0 < n) (g := g) bel) hk1
  clear X2 X4 X5 bel hsz hk1
  have hm1 : Mem w1 A n c l' := ho1.1
  go_wp2_with (first
    | (go_at_call 55; (with_reducible refine (HLD.out _ hm1).mono ?_); rintro e w2 ⟨rfl, m2, rfl⟩))
  refine (HD.out _).mono ?_
  rintro e w3 ⟨rfl, hb3⟩
  replace Y2 : lk w3 w.heap.size = _ := look_on (w := w1.drewN m2) Y2 hb3 (show w.heap.size < w1.heap.size by omega)
  replace Y4 : lk w3 (w.heap.size + 1) = _ := look_on (w := w1.drewN m2) Y4 hb3 (show w.heap.size + 1 < w1.heap.size by omega)
  replace Y5 : lk w3 (w.heap.size + 1 + 1) = _ := look_on (w := w1.drewN m2) Y5 hb3 (show w.heap.size + 1 + 1 < w1.heap.size by omega)
  replace hs1 : w.heap.size + 2 < w3.heap.size := Nat.lt_of_lt_of_le hs1 hb3.size
  replace ho1 : Out w3 A n c l' g := Out.on (w := w1.drewN m2) (ho1.on (below_drewN (Below.refl _ _) m2)) hb3
  replace HK1 : Keep (0 < n) g w w3 := (HK1.trans (Keep.drewN _ _ _ m2)).trans (Keep.of hb3)
  clear hb3 hm1
  have N0 : ¬ w.heap.size = w3.heap.size := by omega
  have N1 : ¬ w.heap.size + 1 = w3.heap.size := by omega
  have N2 : ¬ w.heap.size + 1 + 1 = w3.heap.size := by omega
  go_wp2_with (first
    | (refine wpList_load_look rfl _ rfl _ rfl (fun ob hob => ?_); simp [look_alloc, look_setRow, look_drew, look_drewN, look_setCell, Nat.add_assoc, Y2, N0] at hob; subst hob; refine ⟨_, rfl, hLL, ?_⟩; simp only [Act.put, List.setIfInBounds_toArray, List.set_cons_zero, List.set_cons_succ]))
  refine (HT.out _).mono ?_
  rintro e w4 ⟨rfl, hb4⟩
  replace Y4 := look_on (w := w3.alloc _) (g := w.heap.size + 1) (by rw [look_alloc, if_neg N1]; exact Y4) hb4 (by simp; omega)
  replace Y5 := look_on (w := w3.alloc _) (g := w.heap.size + 1 + 1) (by rw [look_alloc, if_neg N2]; exact Y5) hb4 (by simp; omega)
  replace ho1 := (ho1.on ((Below.refl _ _).alloc (Nat.le_refl _) _)).on hb4
  replace HK1 := (HK1.trans (Keep.of ((Below.refl _ _).alloc (Nat.le_refl _) _))).trans (Keep.of hb4)
  clear hb4 Y2
  have V4 := lk_row (M := R) Y4
  have V5 : lk (w4.setRow (w.heap.size + 1) (cw (R)).toArray) (w.heap.size + 1 + 1) = _ := lk_rowN Y5 (by omega)
  have U5 : lk ((w4.setRow (w.heap.size + 1) (cw (R)).toArray).setRow (w.heap.size + 1 + 1) #[.int .i64 0, .int .i64 0, .int .i64 0, .int .u32 0]) (w.heap.size + 1 + 1) = some (.cells #[.int .i64 0, .int .i64 0, .int .i64 0, .int .u32 0] 37 (0, 0)) := by rw [look_setRow, if_pos rfl, V5]; rfl
  have U4 : lk ((w4.setRow (w.heap.size + 1) (cw (R)).toArray).setRow (w.heap.size + 1 + 1) #[.int .i64 0, .int .i64 0, .int .i64 0, .int .u32 0]) (w.heap.size + 1) = _ := lk_rowN V4 (by omega)
  repeat' (first
    | (with_reducible refine then_normal ?_) | (with_reducible refine wp_exit ?_) | (with_reducible refine wp_ret ?_) | (with_reducible refine then_exit ?_) | (with_reducible refine blk_hit ?_) | (with_reducible refine blk_pass (by decide) ?_) | (with_reducible refine then_ret ?_) | (with_reducible refine blk_ret ?_) | (with_reducible refine blk_normal ?_)
    | fail
    | (refine wpList_store_look rfl _ _ rfl _ rfl rfl hRL (fun ob hob => by (rw [Y4] at hob; subst hob; exact ⟨_, rfl, Z25_len⟩)) (fun w4 hw4 => ?_); subst hw4; simp only [Act.put, List.setIfInBounds_toArray, List.set_cons_zero, List.set_cons_succ])
    | (refine wpList_store_eff rfl _ _ rfl (w.heap.size + 1 + 1) _ _ _ _ rfl rfl V5 ?_; simp only [Act.put, List.setIfInBounds_toArray, List.set_cons_zero, List.set_cons_succ])
    | go_values | go_skip | go_guarded | go_step | go_upon | (simp only [Int.not_lt, Int.not_le] at *; go_simp) | (go_values <;> (try go_simp)) | (go_ite <;> go_prune <;> (try go_simp)))
  exact bodyPost_ret (v := .tuple #[cpV (R), .agg #[.int .i64 0, .int .i64 0, .int .i64 0, .int .u32 0]]) (results_ce (p := 4) (r := 5) rfl _ _ (w.heap.size + 1) (w.heap.size + 1 + 1) rfl rfl hRL U4 U5) rfl ⟨rfl, (Out.setRow (Out.setRow ho1 (by omega)) (by omega)), Keep.setRow (Keep.setRow HK1 (by omega) _) (by omega) _⟩
set_option maxHeartbeats 1000000 in
theorem do_prv (L : List Int) (A : Option Addr) (n c g : Nat) (l : List Int) (w : World) (hL : C25 L) (hm : Out w A n c l g) (h0 : ftC n l L = 0) (hd : dOk (ftW n l L)) (hp : prvB (dOp (ftW n l L)) = true) (hk : kerB L = false) :
    Calls Tryd.prog 30 #[cpV L, .slice A n c] w (DoPost A n c g (trapL L 2 (ftW n l L)) (ftL n l L) (efV 0 0 0 0) w) := by
  have hLL := hL.1
  have h16 := hL.bd 16
  have e16 := cw_at hLL (show 16 < 25 by omega)
  have HR := Lib.hid (fun W (hM : Out W A n c l g) => reach_any L A n c g l (wd L 16) 4 1 W hL hM h16.1 h16.2)
  have hok := acc_ok (a := 1) h16.1 h16.2 (show rsC n l L (wd L 16) 4 1 = 0 from h0)
  have hX : 0 ≤ ftW n l L ∧ ftW n l L ≤ 4294967295 := ftW_bd (ftL_u32 hm.1.2.2.2.1 L)
  have eX : ldV (ftL n l L) (rsA n l L (wd L 16) 4 1) 4 = ftW n l L := by unfold ftW ldV; rw [if_pos h0, if_pos rfl]
  rw [show rsC n l L (wd L 16) 4 1 = 0 from h0] at HR
  generalize rsA n l L (wd L 16) 4 1 = ad at *
  have HLD := Lib.hid (fun W (hM : Mem W A n c (ftL n l L)) => load_refyes A n c (ftL n l L) ad 4 W hM hok.2.1 hok.2.2 hok.1)
  rw [eX] at HLD
  have hu' : U32 (ftL n l L) := ftL_u32 hm.1.2.2.2.1 L
  have HT := Lib.hid (fun W => trap_ref L 2 (ftW n l L) W hL)
  have hRL := (hL.trap 2 hX.1 hX.2).1
  have HD := Lib.hid (fun W => decode_ref (ftW n l L) W hX.1 hX.2)
  rw [decide_eq_true hd, show zOp (ftW n l L) = dOp (ftW n l L) by unfold zOp; rw [if_pos hd], show zA (ftW n l L) = dA (ftW n l L) by unfold zA; rw [if_pos hd], show zB (ftW n l L) = dB (ftW n l L) by unfold zB; rw [if_pos hd], show zC (ftW n l L) = dC (ftW n l L) by unfold zC; rw [if_pos hd], show zM (ftW n l L) = dM (ftW n l L) by unfold zM; rw [if_pos hd]] at HD
  have HP := Lib.hid (fun W => priv_ref (dOp (ftW n l L)) W)
  have hs17 := hL.bd 17
  have hand := and_1 _ hs17.1 hs17.2
  change Hid (∀ W, Out W A n c l g → Calls _ _ _ W (RchPost n A c ad 0 (ftL n l L) g W)) at HR
  generalize ftL n l L = l' at *
  generalize ftW n l L = X at *
  clear h0 hd
  rw [show decide (57 ≤ dOp X ∧ dOp X ≤ 64) = true from hp] at HP
  have hz : wd L 17 % 2 = 0 := by have := of_decide_eq_false hk; omega
  rw [hz] at hand
  clear hp
  generalize trapL L 2 X = R at *
  generalize dOp X = o at *
  generalize dA X = dA' at *
  generalize dB X = dB' at *
  generalize dC X = dC' at *
  generalize dM X = dM' at *
  have HM := Lib.hid hm
  clear hm
  obtain ⟨F1, F2, F3, -⟩ := cw_facts
  go_enter Tryd.func30, Tryd.ntmps30
  go_wp2_with (first
    | (refine wpList_box_box rfl _ rfl rfl ?_; simp only [Act.put, List.setIfInBounds_toArray, List.set_cons_zero, List.set_cons_succ])
    | (refine wpList_alloc_box rfl rfl ?_; simp only [Act.put, List.setIfInBounds_toArray, List.set_cons_zero, List.set_cons_succ])
    | (refine wpList_load_look rfl _ rfl _ rfl (fun ob hob => ?_); simp [look_alloc, look_setRow, look_drew, look_drewN, look_setCell, Nat.add_assoc] at hob; subst hob; refine ⟨_, rfl, by (first | with_reducible assumption | (simp only [List.length_set]; with_reducible assumption) | exact Z25_len), ?_⟩; simp only [Act.put, List.setIfInBounds_toArray, List.set_cons_zero, List.set_cons_succ]))
  try simp only [World.size_alloc]
  generalize hW : World.alloc (World.alloc (World.alloc w _) _) _ = W
  have X2 : lk W w.heap.size = some (.cells (cw L).toArray 32 (0, 0)) := by rw [← hW]; simp [look_alloc, look_setRow, look_drew, look_drewN, look_setCell, Nat.add_assoc] <;> omega
  have X4 : lk W (w.heap.size + 1) = some (.cells (cw Z25).toArray 32 (0, 0)) := by rw [← hW]; simp [look_alloc, look_setRow, look_drew, look_drewN, look_setCell, Nat.add_assoc]
  have X5 : lk W (w.heap.size + 1 + 1) = some (.cells #[.int .i64 0, .int .i64 0, .int .i64 0, .int .u32 0] 37 (0, 0)) := by rw [← hW]; simp [look_alloc, look_setRow, look_drew, look_drewN, look_setCell, Nat.add_assoc]
  have bel : Below w.heap.size w W := by rw [← hW]; (repeat' (first | with_reducible exact Below.refl _ _ | with_reducible assumption | with_reducible apply below_drewN | with_reducible apply Below.drew | with_reducible apply Below.setCell | with_reducible apply Below.alloc | (simp; done) | omega | (simp; omega)))
  have hsz : w.heap.size + 2 < W.heap.size := by rw [← hW]; simp
  clear hW
  refine (HR.out _ (HM.out.on bel)).mono ?_
  rintro e w1 ⟨rfl, ho1, hk1⟩
  have hgl := HM.out.lt
  have Y2 := look_kp X2 hk1 (by omega)
  have Y4 := look_kp X4 hk1 (by omega)
  have Y5 := look_kp X5 hk1 (by omega)
  have hs1 : w.heap.size + 2 < w1.heap.size := Nat.lt_of_lt_of_le hsz hk1.size
  have HK1 := Keep.trans (Keep.of (p := 0 < n) (g := g) bel) hk1
  clear X2 X4 X5 bel hsz hk1
  have hm1 : Mem w1 A n c l' := ho1.1
  go_wp2_with (first
    | (go_at_call 55; (with_reducible refine (HLD.out _ hm1).mono ?_); rintro e w2 ⟨rfl, m2, rfl⟩))
  refine (HD.out _).mono ?_
  rintro e w3 ⟨rfl, hb3⟩
  replace Y2 : lk w3 w.heap.size = _ := look_on (w := w1.drewN m2) Y2 hb3 (show w.heap.size < w1.heap.size by omega)
  replace Y4 : lk w3 (w.heap.size + 1) = _ := look_on (w := w1.drewN m2) Y4 hb3 (show w.heap.size + 1 < w1.heap.size by omega)
  replace Y5 : lk w3 (w.heap.size + 1 + 1) = _ := look_on (w := w1.drewN m2) Y5 hb3 (show w.heap.size + 1 + 1 < w1.heap.size by omega)
  replace hs1 : w.heap.size + 2 < w3.heap.size := Nat.lt_of_lt_of_le hs1 hb3.size
  replace ho1 : Out w3 A n c l' g := Out.on (w := w1.drewN m2) (ho1.on (below_drewN (Below.refl _ _) m2)) hb3
  replace HK1 : Keep (0 < n) g w w3 := (HK1.trans (Keep.drewN _ _ _ m2)).trans (Keep.of hb3)
  clear hb3 hm1
  have N0 : ¬ w.heap.size = w3.heap.size := by omega
  have N1 : ¬ w.heap.size + 1 = w3.heap.size := by omega
  have N2 : ¬ w.heap.size + 1 + 1 = w3.heap.size := by omega
  go_wp2_with fail
  refine (HP.out _).mono ?_
  rintro e w4 ⟨rfl, m4, rfl⟩
  generalize hW : World.drewN _ _ = W
  replace Y2 : lk W w.heap.size = some (.cells (cw L).toArray 32 (0, 0)) := by rw [← hW, look_drewN, look_alloc, if_neg N0]; exact Y2
  replace Y4 : lk W (w.heap.size + 1) = some (.cells (cw Z25).toArray 32 (0, 0)) := by rw [← hW, look_drewN, look_alloc, if_neg N1]; exact Y4
  replace Y5 : lk W (w.heap.size + 1 + 1) = some (.cells #[.int .i64 0, .int .i64 0, .int .i64 0, .int .u32 0] 37 (0, 0)) := by rw [← hW, look_drewN, look_alloc, if_neg N2]; exact Y5
  have XI : lk W w3.heap.size = some (.cells #[.int .i64 o, .int .i64 dA', .int .i64 dB', .int .i64 dC', .int .i32 dM'] 27 (0, 0)) := by rw [← hW, look_drewN, look_alloc, if_pos rfl]
  have d0 : W.cell? ⟨w3.heap.size, 0, none⟩ = some (.int .i64 o) := cell_lk XI 0
  have d1 : W.cell? ⟨w3.heap.size, 1, none⟩ = some (.int .i64 dA') := cell_lk XI 1
  have d2 : W.cell? ⟨w3.heap.size, 2, none⟩ = some (.int .i64 dB') := cell_lk XI 2
  have d3 : W.cell? ⟨w3.heap.size, 3, none⟩ = some (.int .i64 dC') := cell_lk XI 3
  have d4 : W.cell? ⟨w3.heap.size, 4, none⟩ = some (.int .i32 dM') := cell_lk XI 4
  have cs : W.cell? ⟨w.heap.size, 17, none⟩ = some (.int .u32 (wd L 17)) := (cell_lk Y2 17).trans (by simpa using cw_at hLL (show 17 < 25 by omega))
  replace HK1 : Keep (0 < n) g w W := by rw [← hW]; exact (HK1.trans (Keep.of (by (repeat' (first | with_reducible exact Below.refl _ _ | with_reducible assumption | with_reducible apply below_drewN | with_reducible apply Below.drew | with_reducible apply Below.setCell | with_reducible apply Below.alloc | (simp; done) | omega | (simp; omega)))))).trans (Keep.drewN _ _ _ _)
  replace ho1 : Out W A n c l' g := by rw [← hW]; exact (ho1.on (by (repeat' (first | with_reducible exact Below.refl _ _ | with_reducible assumption | with_reducible apply below_drewN | with_reducible apply Below.drew | with_reducible apply Below.setCell | with_reducible apply Below.alloc | (simp; done) | omega | (simp; omega)))))
  have hsW : w3.heap.size < W.heap.size := by rw [← hW]; simp
  clear hW
  go_wp2_with (first
    | (refine wpList_load_look rfl _ rfl _ rfl (fun ob hob => ?_); rw [Y2] at hob; subst hob; refine ⟨_, rfl, hLL, ?_⟩; simp only [Act.put, List.setIfInBounds_toArray, List.set_cons_zero, List.set_cons_succ]))
  refine (HT.out _).mono ?_
  rintro e w5 ⟨rfl, hb5⟩
  replace Y4 := look_on Y4 hb5 (by omega)
  replace Y5 := look_on Y5 hb5 (by omega)
  replace ho1 := ho1.on hb5
  replace HK1 := HK1.trans (Keep.of hb5)
  clear hb5 Y2 XI d0 d1 d2 d3 d4 cs
  have V4 := lk_row (M := R) Y4
  have V5 : lk (w5.setRow (w.heap.size + 1) (cw (R)).toArray) (w.heap.size + 1 + 1) = _ := lk_rowN Y5 (by omega)
  have U5 : lk ((w5.setRow (w.heap.size + 1) (cw (R)).toArray).setRow (w.heap.size + 1 + 1) #[.int .i64 0, .int .i64 0, .int .i64 0, .int .u32 0]) (w.heap.size + 1 + 1) = some (.cells #[.int .i64 0, .int .i64 0, .int .i64 0, .int .u32 0] 37 (0, 0)) := by rw [look_setRow, if_pos rfl, V5]; rfl
  have U4 : lk ((w5.setRow (w.heap.size + 1) (cw (R)).toArray).setRow (w.heap.size + 1 + 1) #[.int .i64 0, .int .i64 0, .int .i64 0, .int .u32 0]) (w.heap.size + 1) = _ := lk_rowN V4 (by omega)
  repeat' (first
    | (with_reducible refine then_normal ?_) | (with_reducible refine wp_exit ?_) | (with_reducible refine wp_ret ?_) | (with_reducible refine then_exit ?_) | (with_reducible refine blk_hit ?_) | (with_reducible refine blk_pass (by decide) ?_) | (with_reducible refine then_ret ?_) | (with_reducible refine blk_ret ?_) | (with_reducible refine blk_normal ?_)
    | fail
    | (refine wpList_store_look rfl _ _ rfl _ rfl rfl hRL (fun ob hob => by (rw [Y4] at hob; subst hob; exact ⟨_, rfl, Z25_len⟩)) (fun w4 hw4 => ?_); subst hw4; simp only [Act.put, List.setIfInBounds_toArray, List.set_cons_zero, List.set_cons_succ])
    | (refine wpList_store_eff rfl _ _ rfl (w.heap.size + 1 + 1) _ _ _ _ rfl rfl V5 ?_; simp only [Act.put, List.setIfInBounds_toArray, List.set_cons_zero, List.set_cons_succ])
    | go_values | go_skip | go_guarded | go_step | go_upon | (simp only [Int.not_lt, Int.not_le] at *; go_simp) | (go_values <;> (try go_simp)) | (go_ite <;> go_prune <;> (try go_simp)))
  exact bodyPost_ret (v := .tuple #[cpV (R), .agg #[.int .i64 0, .int .i64 0, .int .i64 0, .int .u32 0]]) (results_ce (p := 4) (r := 5) rfl _ _ (w.heap.size + 1) (w.heap.size + 1 + 1) rfl rfl hRL U4 U5) rfl ⟨rfl, (Out.setRow (Out.setRow ho1 (by omega)) (by omega)), Keep.setRow (Keep.setRow HK1 (by omega) _) (by omega) _⟩
set_option maxHeartbeats 1000000 in
theorem do_sys (L : List Int) (A : Option Addr) (n c g : Nat) (l : List Int) (w : World) (hL : C25 L) (hm : Out w A n c l g) (h0 : ftC n l L = 0) (hd : dOk (ftW n l L)) (h56 : 56 ≤ dOp (ftW n l L)) (h64 : dOp (ftW n l L) ≤ 64) (hk : prvB (dOp (ftW n l L)) = true → kerB L = true) (R : List Int) (K P Rg V : Int) (hRL : R.length = 25)
    (HSY : ∀ W, Calls Tryd.prog 58 #[cpV L, instV (dOp (ftW n l L)) (dA (ftW n l L)) (dB (ftW n l L)) (dC (ftW n l L)) (dM (ftW n l L))] W (SyPost R K P Rg V W)) :
    Calls Tryd.prog 30 #[cpV L, .slice A n c] w (DoPost A n c g R (ftL n l L) (efV K P Rg V) w) := by
  have hLL := hL.1
  have h16 := hL.bd 16
  have e16 := cw_at hLL (show 16 < 25 by omega)
  have HR := Lib.hid (fun W (hM : Out W A n c l g) => reach_any L A n c g l (wd L 16) 4 1 W hL hM h16.1 h16.2)
  have hok := acc_ok (a := 1) h16.1 h16.2 (show rsC n l L (wd L 16) 4 1 = 0 from h0)
  have hX : 0 ≤ ftW n l L ∧ ftW n l L ≤ 4294967295 := ftW_bd (ftL_u32 hm.1.2.2.2.1 L)
  have eX : ldV (ftL n l L) (rsA n l L (wd L 16) 4 1) 4 = ftW n l L := by unfold ftW ldV; rw [if_pos h0, if_pos rfl]
  rw [show rsC n l L (wd L 16) 4 1 = 0 from h0] at HR
  generalize rsA n l L (wd L 16) 4 1 = ad at *
  have HLD := Lib.hid (fun W (hM : Mem W A n c (ftL n l L)) => load_refyes A n c (ftL n l L) ad 4 W hM hok.2.1 hok.2.2 hok.1)
  rw [eX] at HLD
  have hu' : U32 (ftL n l L) := ftL_u32 hm.1.2.2.2.1 L
  have HD := Lib.hid (fun W => decode_ref (ftW n l L) W hX.1 hX.2)
  rw [decide_eq_true hd, show zOp (ftW n l L) = dOp (ftW n l L) by unfold zOp; rw [if_pos hd], show zA (ftW n l L) = dA (ftW n l L) by unfold zA; rw [if_pos hd], show zB (ftW n l L) = dB (ftW n l L) by unfold zB; rw [if_pos hd], show zC (ftW n l L) = dC (ftW n l L) by unfold zC; rw [if_pos hd], show zM (ftW n l L) = dM (ftW n l L) by unfold zM; rw [if_pos hd]] at HD
  have HP := Lib.hid (fun W => priv_ref (dOp (ftW n l L)) W)
  have hs17 := hL.bd 17
  have hand := and_1 _ hs17.1 hs17.2
  change Hid (∀ W, Out W A n c l g → Calls _ _ _ W (RchPost n A c ad 0 (ftL n l L) g W)) at HR
  generalize ftL n l L = l' at *
  generalize ftW n l L = X at *
  clear h0 hd
  have hpk : Hid (decide (57 ≤ dOp X ∧ dOp X ≤ 64) = true → wd L 17 % 2 = 1) := fun h => of_decide_eq_true (hk h)
  clear hk
  replace HSY := Lib.hid HSY
  generalize dOp X = o at *
  generalize dA X = dA' at *
  generalize dB X = dB' at *
  generalize dC X = dC' at *
  generalize dM X = dM' at *
  unfold instV at HSY
  have d56 : decide (56 ≤ o) = true := decide_eq_true h56
  generalize decide (57 ≤ o ∧ o ≤ 64) = pb at *
  have HM := Lib.hid hm
  clear hm
  obtain ⟨F1, F2, F3, -⟩ := cw_facts
  cases pb
  all_goals
    (try (have hz := hpk.out rfl; rw [hz] at hand))
    go_enter Tryd.func30, Tryd.ntmps30
    go_wp2_with (first
      | (refine wpList_box_box rfl _ rfl rfl ?_; simp only [Act.put, List.setIfInBounds_toArray, List.set_cons_zero, List.set_cons_succ])
      | (refine wpList_alloc_box rfl rfl ?_; simp only [Act.put, List.setIfInBounds_toArray, List.set_cons_zero, List.set_cons_succ])
      | (refine wpList_load_look rfl _ rfl _ rfl (fun ob hob => ?_); simp [look_alloc, look_setRow, look_drew, look_drewN, look_setCell, Nat.add_assoc] at hob; subst hob; refine ⟨_, rfl, by (first | with_reducible assumption | (simp only [List.length_set]; with_reducible assumption) | exact Z25_len), ?_⟩; simp only [Act.put, List.setIfInBounds_toArray, List.set_cons_zero, List.set_cons_succ]))
    try simp only [World.size_alloc]
    generalize hW : World.alloc (World.alloc (World.alloc w _) _) _ = W
    have X2 : lk W w.heap.size = some (.cells (cw L).toArray 32 (0, 0)) := by rw [← hW]; simp [look_alloc, look_setRow, look_drew, look_drewN, look_setCell, Nat.add_assoc] <;> omega
    have X4 : lk W (w.heap.size + 1) = some (.cells (cw Z25).toArray 32 (0, 0)) := by rw [← hW]; simp [look_alloc, look_setRow, look_drew, look_drewN, look_setCell, Nat.add_assoc]
    have X5 : lk W (w.heap.size + 1 + 1) = some (.cells #[.int .i64 0, .int .i64 0, .int .i64 0, .int .u32 0] 37 (0, 0)) := by rw [← hW]; simp [look_alloc, look_setRow, look_drew, look_drewN, look_setCell, Nat.add_assoc]
    have bel : Below w.heap.size w W := by rw [← hW]; (repeat' (first | with_reducible exact Below.refl _ _ | with_reducible assumption | with_reducible apply below_drewN | with_reducible apply Below.drew | with_reducible apply Below.setCell | with_reducible apply Below.alloc | (simp; done) | omega | (simp; omega)))
    have hsz : w.heap.size + 2 < W.heap.size := by rw [← hW]; simp
    clear hW
    refine (HR.out _ (HM.out.on bel)).mono ?_
    rintro e w1 ⟨rfl, ho1, hk1⟩
    have hgl := HM.out.lt
    have Y2 := look_kp X2 hk1 (by omega)
    have Y4 := look_kp X4 hk1 (by omega)
    have Y5 := look_kp X5 hk1 (by omega)
    have hs1 : w.heap.size + 2 < w1.heap.size := Nat.lt_of_lt_of_le hsz hk1.size
    have HK1 := Keep.trans (Keep.of (p := 0 < n) (g := g) bel) hk1
    clear X2 X4 X5 bel hsz hk1
    have hm1 : Mem w1 A n c l' := ho1.1
    go_wp2_with (first
      | (go_at_call 55; (with_reducible refine (HLD.out _ hm1).mono ?_); rintro e w2 ⟨rfl, m2, rfl⟩))
    refine (HD.out _).mono ?_
    rintro e w3 ⟨rfl, hb3⟩
    replace Y2 : lk w3 w.heap.size = _ := look_on (w := w1.drewN m2) Y2 hb3 (show w.heap.size < w1.heap.size by omega)
    replace Y4 : lk w3 (w.heap.size + 1) = _ := look_on (w := w1.drewN m2) Y4 hb3 (show w.heap.size + 1 < w1.heap.size by omega)
    replace Y5 : lk w3 (w.heap.size + 1 + 1) = _ := look_on (w := w1.drewN m2) Y5 hb3 (show w.heap.size + 1 + 1 < w1.heap.size by omega)
    replace hs1 : w.heap.size + 2 < w3.heap.size := Nat.lt_of_lt_of_le hs1 hb3.size
    replace ho1 : Out w3 A n c l' g := Out.on (w := w1.drewN m2) (ho1.on (below_drewN (Below.refl _ _) m2)) hb3
    replace HK1 : Keep (0 < n) g w w3 := (HK1.trans (Keep.drewN _ _ _ m2)).trans (Keep.of hb3)
    clear hb3 hm1
    have N0 : ¬ w.heap.size = w3.heap.size := by omega
    have N1 : ¬ w.heap.size + 1 = w3.heap.size := by omega
    have N2 : ¬ w.heap.size + 1 + 1 = w3.heap.size := by omega
    go_wp2_with fail
    refine (HP.out _).mono ?_
    rintro e w4 ⟨rfl, m4, rfl⟩
    generalize hW : World.drewN _ _ = W
    replace Y2 : lk W w.heap.size = some (.cells (cw L).toArray 32 (0, 0)) := by rw [← hW, look_drewN, look_alloc, if_neg N0]; exact Y2
    replace Y4 : lk W (w.heap.size + 1) = some (.cells (cw Z25).toArray 32 (0, 0)) := by rw [← hW, look_drewN, look_alloc, if_neg N1]; exact Y4
    replace Y5 : lk W (w.heap.size + 1 + 1) = some (.cells #[.int .i64 0, .int .i64 0, .int .i64 0, .int .u32 0] 37 (0, 0)) := by rw [← hW, look_drewN, look_alloc, if_neg N2]; exact Y5
    have XI : lk W w3.heap.size = some (.cells #[.int .i64 o, .int .i64 dA', .int .i64 dB', .int .i64 dC', .int .i32 dM'] 27 (0, 0)) := by rw [← hW, look_drewN, look_alloc, if_pos rfl]
    have d0 : W.cell? ⟨w3.heap.size, 0, none⟩ = some (.int .i64 o) := cell_lk XI 0
    have d1 : W.cell? ⟨w3.heap.size, 1, none⟩ = some (.int .i64 dA') := cell_lk XI 1
    have d2 : W.cell? ⟨w3.heap.size, 2, none⟩ = some (.int .i64 dB') := cell_lk XI 2
    have d3 : W.cell? ⟨w3.heap.size, 3, none⟩ = some (.int .i64 dC') := cell_lk XI 3
    have d4 : W.cell? ⟨w3.heap.size, 4, none⟩ = some (.int .i32 dM') := cell_lk XI 4
    have cs : W.cell? ⟨w.heap.size, 17, none⟩ = some (.int .u32 (wd L 17)) := (cell_lk Y2 17).trans (by simpa using cw_at hLL (show 17 < 25 by omega))
    replace HK1 : Keep (0 < n) g w W := by rw [← hW]; exact (HK1.trans (Keep.of (by (repeat' (first | with_reducible exact Below.refl _ _ | with_reducible assumption | with_reducible apply below_drewN | with_reducible apply Below.drew | with_reducible apply Below.setCell | with_reducible apply Below.alloc | (simp; done) | omega | (simp; omega)))))).trans (Keep.drewN _ _ _ _)
    replace ho1 : Out W A n c l' g := by rw [← hW]; exact (ho1.on (by (repeat' (first | with_reducible exact Below.refl _ _ | with_reducible assumption | with_reducible apply below_drewN | with_reducible apply Below.drew | with_reducible apply Below.setCell | with_reducible apply Below.alloc | (simp; done) | omega | (simp; omega)))))
    have hsW : w3.heap.size < W.heap.size := by rw [← hW]; simp
    clear hW
    go_wp2_with (first
      | (refine wpList_load_look rfl _ rfl _ rfl (fun ob hob => ?_); rw [Y2] at hob; subst hob; refine ⟨_, rfl, hLL, ?_⟩; simp only [Act.put, List.setIfInBounds_toArray, List.set_cons_zero, List.set_cons_succ]))
    refine (HSY.out _).mono ?_
    rintro e w5 ⟨rfl, hb5⟩
    replace Y4 := look_on Y4 hb5 (by omega)
    replace Y5 := look_on Y5 hb5 (by omega)
    replace ho1 := ho1.on hb5
    replace HK1 := HK1.trans (Keep.of hb5)
    clear hb5 Y2 XI d0 d1 d2 d3 d4 cs
    have V4 := lk_row (M := R) Y4
    have V5 : lk (w5.setRow (w.heap.size + 1) (cw (R)).toArray) (w.heap.size + 1 + 1) = _ := lk_rowN Y5 (by omega)
    have U5 : lk ((w5.setRow (w.heap.size + 1) (cw (R)).toArray).setRow (w.heap.size + 1 + 1) #[.int .i64 K, .int .i64 P, .int .i64 Rg, .int .u32 V]) (w.heap.size + 1 + 1) = some (.cells #[.int .i64 K, .int .i64 P, .int .i64 Rg, .int .u32 V] 37 (0, 0)) := by rw [look_setRow, if_pos rfl, V5]; rfl
    have U4 : lk ((w5.setRow (w.heap.size + 1) (cw (R)).toArray).setRow (w.heap.size + 1 + 1) #[.int .i64 K, .int .i64 P, .int .i64 Rg, .int .u32 V]) (w.heap.size + 1) = _ := lk_rowN V4 (by omega)
    repeat' (first
      | (with_reducible refine then_normal ?_) | (with_reducible refine wp_exit ?_) | (with_reducible refine wp_ret ?_) | (with_reducible refine then_exit ?_) | (with_reducible refine blk_hit ?_) | (with_reducible refine blk_pass (by decide) ?_) | (with_reducible refine then_ret ?_) | (with_reducible refine blk_ret ?_) | (with_reducible refine blk_normal ?_)
      | fail
      | (refine wpList_store_look rfl _ _ rfl _ rfl rfl hRL (fun ob hob => by (rw [Y4] at hob; subst hob; exact ⟨_, rfl, Z25_len⟩)) (fun w4 hw4 => ?_); subst hw4; simp only [Act.put, List.setIfInBounds_toArray, List.set_cons_zero, List.set_cons_succ])
      | (refine wpList_store_eff rfl _ _ rfl (w.heap.size + 1 + 1) _ _ _ _ rfl rfl V5 ?_; simp only [Act.put, List.setIfInBounds_toArray, List.set_cons_zero, List.set_cons_succ])
      | go_values | go_skip | go_guarded | go_step | go_upon | (simp only [Int.not_lt, Int.not_le] at *; go_simp) | (go_values <;> (try go_simp)) | (go_ite <;> go_prune <;> (try go_simp)))
    exact bodyPost_ret (v := .tuple #[cpV (R), .agg #[.int .i64 K, .int .i64 P, .int .i64 Rg, .int .u32 V]]) (results_ce (p := 4) (r := 5) rfl _ _ (w.heap.size + 1) (w.heap.size + 1 + 1) rfl rfl hRL U4 U5) rfl ⟨rfl, (Out.setRow (Out.setRow ho1 (by omega)) (by omega)), Keep.setRow (Keep.setRow HK1 (by omega) _) (by omega) _⟩
set_option maxHeartbeats 1000000 in
theorem do_jmp (L : List Int) (A : Option Addr) (n c g : Nat) (l : List Int) (w : World) (hL : C25 L) (hm : Out w A n c l g) (h0 : ftC n l L = 0) (hd : dOk (ftW n l L)) (h40 : 40 ≤ dOp (ftW n l L)) (h56 : dOp (ftW n l L) < 56) (R : List Int) (hRL : R.length = 25)
    (HSY : ∀ W, Calls Tryd.prog 59 #[cpV L, instV (dOp (ftW n l L)) (dA (ftW n l L)) (dB (ftW n l L)) (dC (ftW n l L)) (dM (ftW n l L))] W fun e w' => e = .returned (cpV R) ∧ Below W.heap.size W w') :
    Calls Tryd.prog 30 #[cpV L, .slice A n c] w (DoPost A n c g R (ftL n l L) (efV 0 0 0 0) w) := by
  have hLL := hL.1
  have h16 := hL.bd 16
  have e16 := cw_at hLL (show 16 < 25 by omega)
  have HR := Lib.hid (fun W (hM : Out W A n c l g) => reach_any L A n c g l (wd L 16) 4 1 W hL hM h16.1 h16.2)
  have hok := acc_ok (a := 1) h16.1 h16.2 (show rsC n l L (wd L 16) 4 1 = 0 from h0)
  have hX : 0 ≤ ftW n l L ∧ ftW n l L ≤ 4294967295 := ftW_bd (ftL_u32 hm.1.2.2.2.1 L)
  have eX : ldV (ftL n l L) (rsA n l L (wd L 16) 4 1) 4 = ftW n l L := by unfold ftW ldV; rw [if_pos h0, if_pos rfl]
  rw [show rsC n l L (wd L 16) 4 1 = 0 from h0] at HR
  generalize rsA n l L (wd L 16) 4 1 = ad at *
  have HLD := Lib.hid (fun W (hM : Mem W A n c (ftL n l L)) => load_refyes A n c (ftL n l L) ad 4 W hM hok.2.1 hok.2.2 hok.1)
  rw [eX] at HLD
  have hu' : U32 (ftL n l L) := ftL_u32 hm.1.2.2.2.1 L
  have HD := Lib.hid (fun W => decode_ref (ftW n l L) W hX.1 hX.2)
  rw [decide_eq_true hd, show zOp (ftW n l L) = dOp (ftW n l L) by unfold zOp; rw [if_pos hd], show zA (ftW n l L) = dA (ftW n l L) by unfold zA; rw [if_pos hd], show zB (ftW n l L) = dB (ftW n l L) by unfold zB; rw [if_pos hd], show zC (ftW n l L) = dC (ftW n l L) by unfold zC; rw [if_pos hd], show zM (ftW n l L) = dM (ftW n l L) by unfold zM; rw [if_pos hd]] at HD
  have HP := Lib.hid (fun W => priv_ref (dOp (ftW n l L)) W)
  have hs17 := hL.bd 17
  have hand := and_1 _ hs17.1 hs17.2
  change Hid (∀ W, Out W A n c l g → Calls _ _ _ W (RchPost n A c ad 0 (ftL n l L) g W)) at HR
  generalize ftL n l L = l' at *
  generalize ftW n l L = X at *
  clear h0 hd
  replace HSY := Lib.hid HSY
  generalize dOp X = o at *
  generalize dA X = dA' at *
  generalize dB X = dB' at *
  generalize dC X = dC' at *
  generalize dM X = dM' at *
  unfold instV at HSY
  have d56 : decide (56 ≤ o) = false := decide_eq_false (by omega)
  have d40 : decide (40 ≤ o) = true := decide_eq_true h40
  rw [decide_eq_false (show ¬ (57 ≤ o ∧ o ≤ 64) by omega)] at HP
  have HM := Lib.hid hm
  clear hm
  obtain ⟨F1, F2, F3, -⟩ := cw_facts
  go_enter Tryd.func30, Tryd.ntmps30
  go_wp2_with (first
    | (refine wpList_box_box rfl _ rfl rfl ?_; simp only [Act.put, List.setIfInBounds_toArray, List.set_cons_zero, List.set_cons_succ])
    | (refine wpList_alloc_box rfl rfl ?_; simp only [Act.put, List.setIfInBounds_toArray, List.set_cons_zero, List.set_cons_succ])
    | (refine wpList_load_look rfl _ rfl _ rfl (fun ob hob => ?_); simp [look_alloc, look_setRow, look_drew, look_drewN, look_setCell, Nat.add_assoc] at hob; subst hob; refine ⟨_, rfl, by (first | with_reducible assumption | (simp only [List.length_set]; with_reducible assumption) | exact Z25_len), ?_⟩; simp only [Act.put, List.setIfInBounds_toArray, List.set_cons_zero, List.set_cons_succ]))
  try simp only [World.size_alloc]
  generalize hW : World.alloc (World.alloc (World.alloc w _) _) _ = W
  have X2 : lk W w.heap.size = some (.cells (cw L).toArray 32 (0, 0)) := by rw [← hW]; simp [look_alloc, look_setRow, look_drew, look_drewN, look_setCell, Nat.add_assoc] <;> omega
  have X4 : lk W (w.heap.size + 1) = some (.cells (cw Z25).toArray 32 (0, 0)) := by rw [← hW]; simp [look_alloc, look_setRow, look_drew, look_drewN, look_setCell, Nat.add_assoc]
  have X5 : lk W (w.heap.size + 1 + 1) = some (.cells #[.int .i64 0, .int .i64 0, .int .i64 0, .int .u32 0] 37 (0, 0)) := by rw [← hW]; simp [look_alloc, look_setRow, look_drew, look_drewN, look_setCell, Nat.add_assoc]
  have bel : Below w.heap.size w W := by rw [← hW]; (repeat' (first | with_reducible exact Below.refl _ _ | with_reducible assumption | with_reducible apply below_drewN | with_reducible apply Below.drew | with_reducible apply Below.setCell | with_reducible apply Below.alloc | (simp; done) | omega | (simp; omega)))
  have hsz : w.heap.size + 2 < W.heap.size := by rw [← hW]; simp
  clear hW
  refine (HR.out _ (HM.out.on bel)).mono ?_
  rintro e w1 ⟨rfl, ho1, hk1⟩
  have hgl := HM.out.lt
  have Y2 := look_kp X2 hk1 (by omega)
  have Y4 := look_kp X4 hk1 (by omega)
  have Y5 := look_kp X5 hk1 (by omega)
  have hs1 : w.heap.size + 2 < w1.heap.size := Nat.lt_of_lt_of_le hsz hk1.size
  have HK1 := Keep.trans (Keep.of (p := 0 < n) (g := g) bel) hk1
  clear X2 X4 X5 bel hsz hk1
  have hm1 : Mem w1 A n c l' := ho1.1
  go_wp2_with (first
    | (go_at_call 55; (with_reducible refine (HLD.out _ hm1).mono ?_); rintro e w2 ⟨rfl, m2, rfl⟩))
  refine (HD.out _).mono ?_
  rintro e w3 ⟨rfl, hb3⟩
  replace Y2 : lk w3 w.heap.size = _ := look_on (w := w1.drewN m2) Y2 hb3 (show w.heap.size < w1.heap.size by omega)
  replace Y4 : lk w3 (w.heap.size + 1) = _ := look_on (w := w1.drewN m2) Y4 hb3 (show w.heap.size + 1 < w1.heap.size by omega)
  replace Y5 : lk w3 (w.heap.size + 1 + 1) = _ := look_on (w := w1.drewN m2) Y5 hb3 (show w.heap.size + 1 + 1 < w1.heap.size by omega)
  replace hs1 : w.heap.size + 2 < w3.heap.size := Nat.lt_of_lt_of_le hs1 hb3.size
  replace ho1 : Out w3 A n c l' g := Out.on (w := w1.drewN m2) (ho1.on (below_drewN (Below.refl _ _) m2)) hb3
  replace HK1 : Keep (0 < n) g w w3 := (HK1.trans (Keep.drewN _ _ _ m2)).trans (Keep.of hb3)
  clear hb3 hm1
  have N0 : ¬ w.heap.size = w3.heap.size := by omega
  have N1 : ¬ w.heap.size + 1 = w3.heap.size := by omega
  have N2 : ¬ w.heap.size + 1 + 1 = w3.heap.size := by omega
  go_wp2_with fail
  refine (HP.out _).mono ?_
  rintro e w4 ⟨rfl, m4, rfl⟩
  generalize hW : World.drewN _ _ = W
  replace Y2 : lk W w.heap.size = some (.cells (cw L).toArray 32 (0, 0)) := by rw [← hW, look_drewN, look_alloc, if_neg N0]; exact Y2
  replace Y4 : lk W (w.heap.size + 1) = some (.cells (cw Z25).toArray 32 (0, 0)) := by rw [← hW, look_drewN, look_alloc, if_neg N1]; exact Y4
  replace Y5 : lk W (w.heap.size + 1 + 1) = some (.cells #[.int .i64 0, .int .i64 0, .int .i64 0, .int .u32 0] 37 (0, 0)) := by rw [← hW, look_drewN, look_alloc, if_neg N2]; exact Y5
  have XI : lk W w3.heap.size = some (.cells #[.int .i64 o, .int .i64 dA', .int .i64 dB', .int .i64 dC', .int .i32 dM'] 27 (0, 0)) := by rw [← hW, look_drewN, look_alloc, if_pos rfl]
  have d0 : W.cell? ⟨w3.heap.size, 0, none⟩ = some (.int .i64 o) := cell_lk XI 0
  have d1 : W.cell? ⟨w3.heap.size, 1, none⟩ = some (.int .i64 dA') := cell_lk XI 1
  have d2 : W.cell? ⟨w3.heap.size, 2, none⟩ = some (.int .i64 dB') := cell_lk XI 2
  have d3 : W.cell? ⟨w3.heap.size, 3, none⟩ = some (.int .i64 dC') := cell_lk XI 3
  have d4 : W.cell? ⟨w3.heap.size, 4, none⟩ = some (.int .i32 dM') := cell_lk XI 4
  have cs : W.cell? ⟨w.heap.size, 17, none⟩ = some (.int .u32 (wd L 17)) := (cell_lk Y2 17).trans (by simpa using cw_at hLL (show 17 < 25 by omega))
  replace HK1 : Keep (0 < n) g w W := by rw [← hW]; exact (HK1.trans (Keep.of (by (repeat' (first | with_reducible exact Below.refl _ _ | with_reducible assumption | with_reducible apply below_drewN | with_reducible apply Below.drew | with_reducible apply Below.setCell | with_reducible apply Below.alloc | (simp; done) | omega | (simp; omega)))))).trans (Keep.drewN _ _ _ _)
  replace ho1 : Out W A n c l' g := by rw [← hW]; exact (ho1.on (by (repeat' (first | with_reducible exact Below.refl _ _ | with_reducible assumption | with_reducible apply below_drewN | with_reducible apply Below.drew | with_reducible apply Below.setCell | with_reducible apply Below.alloc | (simp; done) | omega | (simp; omega)))))
  have hsW : w3.heap.size < W.heap.size := by rw [← hW]; simp
  clear hW
  go_wp2_with (first
    | (refine wpList_load_look rfl _ rfl _ rfl (fun ob hob => ?_); rw [Y2] at hob; subst hob; refine ⟨_, rfl, hLL, ?_⟩; simp only [Act.put, List.setIfInBounds_toArray, List.set_cons_zero, List.set_cons_succ]))
  refine (HSY.out _).mono ?_
  rintro e w5 ⟨rfl, hb5⟩
  replace Y4 := look_on Y4 hb5 (by omega)
  replace Y5 := look_on Y5 hb5 (by omega)
  replace ho1 := ho1.on hb5
  replace HK1 := HK1.trans (Keep.of hb5)
  clear hb5 Y2 XI d0 d1 d2 d3 d4 cs
  have V4 := lk_row (M := R) Y4
  have V5 : lk (w5.setRow (w.heap.size + 1) (cw (R)).toArray) (w.heap.size + 1 + 1) = _ := lk_rowN Y5 (by omega)
  have U5 : lk ((w5.setRow (w.heap.size + 1) (cw (R)).toArray).setRow (w.heap.size + 1 + 1) #[.int .i64 0, .int .i64 0, .int .i64 0, .int .u32 0]) (w.heap.size + 1 + 1) = some (.cells #[.int .i64 0, .int .i64 0, .int .i64 0, .int .u32 0] 37 (0, 0)) := by rw [look_setRow, if_pos rfl, V5]; rfl
  have U4 : lk ((w5.setRow (w.heap.size + 1) (cw (R)).toArray).setRow (w.heap.size + 1 + 1) #[.int .i64 0, .int .i64 0, .int .i64 0, .int .u32 0]) (w.heap.size + 1) = _ := lk_rowN V4 (by omega)
  repeat' (first
    | (with_reducible refine then_normal ?_) | (with_reducible refine wp_exit ?_) | (with_reducible refine wp_ret ?_) | (with_reducible refine then_exit ?_) | (with_reducible refine blk_hit ?_) | (with_reducible refine blk_pass (by decide) ?_) | (with_reducible refine then_ret ?_) | (with_reducible refine blk_ret ?_) | (with_reducible refine blk_normal ?_)
    | fail
    | (refine wpList_store_look rfl _ _ rfl _ rfl rfl hRL (fun ob hob => by (rw [Y4] at hob; subst hob; exact ⟨_, rfl, Z25_len⟩)) (fun w4 hw4 => ?_); subst hw4; simp only [Act.put, List.setIfInBounds_toArray, List.set_cons_zero, List.set_cons_succ])
    | (refine wpList_store_eff rfl _ _ rfl (w.heap.size + 1 + 1) _ _ _ _ rfl rfl V5 ?_; simp only [Act.put, List.setIfInBounds_toArray, List.set_cons_zero, List.set_cons_succ])
    | go_values | go_skip | go_guarded | go_step | go_upon | (simp only [Int.not_lt, Int.not_le] at *; go_simp) | (go_values <;> (try go_simp)) | (go_ite <;> go_prune <;> (try go_simp)))
  exact bodyPost_ret (v := .tuple #[cpV (R), .agg #[.int .i64 0, .int .i64 0, .int .i64 0, .int .u32 0]]) (results_ce (p := 4) (r := 5) rfl _ _ (w.heap.size + 1) (w.heap.size + 1 + 1) rfl rfl hRL U4 U5) rfl ⟨rfl, (Out.setRow (Out.setRow ho1 (by omega)) (by omega)), Keep.setRow (Keep.setRow HK1 (by omega) _) (by omega) _⟩
set_option maxHeartbeats 1000000 in
theorem do_tr (L : List Int) (A : Option Addr) (n c g : Nat) (l : List Int) (w : World) (hL : C25 L) (hm : Out w A n c l g) (h0 : ftC n l L = 0) (hd : dOk (ftW n l L)) (h32 : 32 ≤ dOp (ftW n l L)) (h40 : dOp (ftW n l L) < 40) (R l3 : List Int) (hRL : R.length = 25)
    (HSY : ∀ W, Out W A n c (ftL n l L) g → Calls Tryd.prog 60 #[cpV L, .slice A n c, instV (dOp (ftW n l L)) (dA (ftW n l L)) (dB (ftW n l L)) (dC (ftW n l L)) (dM (ftW n l L))] W fun e w' => e = .returned (cpV R) ∧ Out w' A n c l3 g ∧ Keep (0 < n) g W w') :
    Calls Tryd.prog 30 #[cpV L, .slice A n c] w (DoPost A n c g R l3 (efV 0 0 0 0) w) := by
  have hLL := hL.1
  have h16 := hL.bd 16
  have e16 := cw_at hLL (show 16 < 25 by omega)
  have HR := Lib.hid (fun W (hM : Out W A n c l g) => reach_any L A n c g l (wd L 16) 4 1 W hL hM h16.1 h16.2)
  have hok := acc_ok (a := 1) h16.1 h16.2 (show rsC n l L (wd L 16) 4 1 = 0 from h0)
  have hX : 0 ≤ ftW n l L ∧ ftW n l L ≤ 4294967295 := ftW_bd (ftL_u32 hm.1.2.2.2.1 L)
  have eX : ldV (ftL n l L) (rsA n l L (wd L 16) 4 1) 4 = ftW n l L := by unfold ftW ldV; rw [if_pos h0, if_pos rfl]
  rw [show rsC n l L (wd L 16) 4 1 = 0 from h0] at HR
  generalize rsA n l L (wd L 16) 4 1 = ad at *
  have HLD := Lib.hid (fun W (hM : Mem W A n c (ftL n l L)) => load_refyes A n c (ftL n l L) ad 4 W hM hok.2.1 hok.2.2 hok.1)
  rw [eX] at HLD
  have hu' : U32 (ftL n l L) := ftL_u32 hm.1.2.2.2.1 L
  have HD := Lib.hid (fun W => decode_ref (ftW n l L) W hX.1 hX.2)
  rw [decide_eq_true hd, show zOp (ftW n l L) = dOp (ftW n l L) by unfold zOp; rw [if_pos hd], show zA (ftW n l L) = dA (ftW n l L) by unfold zA; rw [if_pos hd], show zB (ftW n l L) = dB (ftW n l L) by unfold zB; rw [if_pos hd], show zC (ftW n l L) = dC (ftW n l L) by unfold zC; rw [if_pos hd], show zM (ftW n l L) = dM (ftW n l L) by unfold zM; rw [if_pos hd]] at HD
  have HP := Lib.hid (fun W => priv_ref (dOp (ftW n l L)) W)
  have hs17 := hL.bd 17
  have hand := and_1 _ hs17.1 hs17.2
  change Hid (∀ W, Out W A n c l g → Calls _ _ _ W (RchPost n A c ad 0 (ftL n l L) g W)) at HR
  generalize ftL n l L = l' at *
  generalize ftW n l L = X at *
  clear h0 hd
  replace HSY := Lib.hid HSY
  generalize dOp X = o at *
  generalize dA X = dA' at *
  generalize dB X = dB' at *
  generalize dC X = dC' at *
  generalize dM X = dM' at *
  unfold instV at HSY
  have d56 : decide (56 ≤ o) = false := decide_eq_false (by omega)
  have d40 : decide (40 ≤ o) = false := decide_eq_false (by omega)
  have d32 : decide (32 ≤ o) = true := decide_eq_true h32
  rw [decide_eq_false (show ¬ (57 ≤ o ∧ o ≤ 64) by omega)] at HP
  have HM := Lib.hid hm
  clear hm
  obtain ⟨F1, F2, F3, -⟩ := cw_facts
  go_enter Tryd.func30, Tryd.ntmps30
  go_wp2_with (first
    | (refine wpList_box_box rfl _ rfl rfl ?_; simp only [Act.put, List.setIfInBounds_toArray, List.set_cons_zero, List.set_cons_succ])
    | (refine wpList_alloc_box rfl rfl ?_; simp only [Act.put, List.setIfInBounds_toArray, List.set_cons_zero, List.set_cons_succ])
    | (refine wpList_load_look rfl _ rfl _ rfl (fun ob hob => ?_); simp [look_alloc, look_setRow, look_drew, look_drewN, look_setCell, Nat.add_assoc] at hob; subst hob; refine ⟨_, rfl, by (first | with_reducible assumption | (simp only [List.length_set]; with_reducible assumption) | exact Z25_len), ?_⟩; simp only [Act.put, List.setIfInBounds_toArray, List.set_cons_zero, List.set_cons_succ]))
  try simp only [World.size_alloc]
  generalize hW : World.alloc (World.alloc (World.alloc w _) _) _ = W
  have X2 : lk W w.heap.size = some (.cells (cw L).toArray 32 (0, 0)) := by rw [← hW]; simp [look_alloc, look_setRow, look_drew, look_drewN, look_setCell, Nat.add_assoc] <;> omega
  have X4 : lk W (w.heap.size + 1) = some (.cells (cw Z25).toArray 32 (0, 0)) := by rw [← hW]; simp [look_alloc, look_setRow, look_drew, look_drewN, look_setCell, Nat.add_assoc]
  have X5 : lk W (w.heap.size + 1 + 1) = some (.cells #[.int .i64 0, .int .i64 0, .int .i64 0, .int .u32 0] 37 (0, 0)) := by rw [← hW]; simp [look_alloc, look_setRow, look_drew, look_drewN, look_setCell, Nat.add_assoc]
  have bel : Below w.heap.size w W := by rw [← hW]; (repeat' (first | with_reducible exact Below.refl _ _ | with_reducible assumption | with_reducible apply below_drewN | with_reducible apply Below.drew | with_reducible apply Below.setCell | with_reducible apply Below.alloc | (simp; done) | omega | (simp; omega)))
  have hsz : w.heap.size + 2 < W.heap.size := by rw [← hW]; simp
  clear hW
  refine (HR.out _ (HM.out.on bel)).mono ?_
  rintro e w1 ⟨rfl, ho1, hk1⟩
  have hgl := HM.out.lt
  have Y2 := look_kp X2 hk1 (by omega)
  have Y4 := look_kp X4 hk1 (by omega)
  have Y5 := look_kp X5 hk1 (by omega)
  have hs1 : w.heap.size + 2 < w1.heap.size := Nat.lt_of_lt_of_le hsz hk1.size
  have HK1 := Keep.trans (Keep.of (p := 0 < n) (g := g) bel) hk1
  clear X2 X4 X5 bel hsz hk1
  have hm1 : Mem w1 A n c l' := ho1.1
  go_wp2_with (first
    | (go_at_call 55; (with_reducible refine (HLD.out _ hm1).mono ?_); rintro e w2 ⟨rfl, m2, rfl⟩))
  refine (HD.out _).mono ?_
  rintro e w3 ⟨rfl, hb3⟩
  replace Y2 : lk w3 w.heap.size = _ := look_on (w := w1.drewN m2) Y2 hb3 (show w.heap.size < w1.heap.size by omega)
  replace Y4 : lk w3 (w.heap.size + 1) = _ := look_on (w := w1.drewN m2) Y4 hb3 (show w.heap.size + 1 < w1.heap.size by omega)
  replace Y5 : lk w3 (w.heap.size + 1 + 1) = _ := look_on (w := w1.drewN m2) Y5 hb3 (show w.heap.size + 1 + 1 < w1.heap.size by omega)
  replace hs1 : w.heap.size + 2 < w3.heap.size := Nat.lt_of_lt_of_le hs1 hb3.size
  replace ho1 : Out w3 A n c l' g := Out.on (w := w1.drewN m2) (ho1.on (below_drewN (Below.refl _ _) m2)) hb3
  replace HK1 : Keep (0 < n) g w w3 := (HK1.trans (Keep.drewN _ _ _ m2)).trans (Keep.of hb3)
  clear hb3 hm1
  have N0 : ¬ w.heap.size = w3.heap.size := by omega
  have N1 : ¬ w.heap.size + 1 = w3.heap.size := by omega
  have N2 : ¬ w.heap.size + 1 + 1 = w3.heap.size := by omega
  go_wp2_with fail
  refine (HP.out _).mono ?_
  rintro e w4 ⟨rfl, m4, rfl⟩
  generalize hW : World.drewN _ _ = W
  replace Y2 : lk W w.heap.size = some (.cells (cw L).toArray 32 (0, 0)) := by rw [← hW, look_drewN, look_alloc, if_neg N0]; exact Y2
  replace Y4 : lk W (w.heap.size + 1) = some (.cells (cw Z25).toArray 32 (0, 0)) := by rw [← hW, look_drewN, look_alloc, if_neg N1]; exact Y4
  replace Y5 : lk W (w.heap.size + 1 + 1) = some (.cells #[.int .i64 0, .int .i64 0, .int .i64 0, .int .u32 0] 37 (0, 0)) := by rw [← hW, look_drewN, look_alloc, if_neg N2]; exact Y5
  have XI : lk W w3.heap.size = some (.cells #[.int .i64 o, .int .i64 dA', .int .i64 dB', .int .i64 dC', .int .i32 dM'] 27 (0, 0)) := by rw [← hW, look_drewN, look_alloc, if_pos rfl]
  have d0 : W.cell? ⟨w3.heap.size, 0, none⟩ = some (.int .i64 o) := cell_lk XI 0
  have d1 : W.cell? ⟨w3.heap.size, 1, none⟩ = some (.int .i64 dA') := cell_lk XI 1
  have d2 : W.cell? ⟨w3.heap.size, 2, none⟩ = some (.int .i64 dB') := cell_lk XI 2
  have d3 : W.cell? ⟨w3.heap.size, 3, none⟩ = some (.int .i64 dC') := cell_lk XI 3
  have d4 : W.cell? ⟨w3.heap.size, 4, none⟩ = some (.int .i32 dM') := cell_lk XI 4
  have cs : W.cell? ⟨w.heap.size, 17, none⟩ = some (.int .u32 (wd L 17)) := (cell_lk Y2 17).trans (by simpa using cw_at hLL (show 17 < 25 by omega))
  replace HK1 : Keep (0 < n) g w W := by rw [← hW]; exact (HK1.trans (Keep.of (by (repeat' (first | with_reducible exact Below.refl _ _ | with_reducible assumption | with_reducible apply below_drewN | with_reducible apply Below.drew | with_reducible apply Below.setCell | with_reducible apply Below.alloc | (simp; done) | omega | (simp; omega)))))).trans (Keep.drewN _ _ _ _)
  replace ho1 : Out W A n c l' g := by rw [← hW]; exact (ho1.on (by (repeat' (first | with_reducible exact Below.refl _ _ | with_reducible assumption | with_reducible apply below_drewN | with_reducible apply Below.drew | with_reducible apply Below.setCell | with_reducible apply Below.alloc | (simp; done) | omega | (simp; omega)))))
  have hsW : w3.heap.size < W.heap.size := by rw [← hW]; simp
  clear hW
  go_wp2_with (first
    | (refine wpList_load_look rfl _ rfl _ rfl (fun ob hob => ?_); rw [Y2] at hob; subst hob; refine ⟨_, rfl, hLL, ?_⟩; simp only [Act.put, List.setIfInBounds_toArray, List.set_cons_zero, List.set_cons_succ]))
  refine (HSY.out _ ho1).mono ?_
  rintro e w5 ⟨rfl, ho5, hk5⟩
  replace Y4 := look_kp Y4 hk5 (by omega)
  replace Y5 := look_kp Y5 hk5 (by omega)
  have HK5 := HK1.trans hk5
  clear hk5 ho1 HK1 Y2 XI d0 d1 d2 d3 d4 cs
  have V4 := lk_row (M := R) Y4
  have V5 : lk (w5.setRow (w.heap.size + 1) (cw (R)).toArray) (w.heap.size + 1 + 1) = _ := lk_rowN Y5 (by omega)
  have U5 : lk ((w5.setRow (w.heap.size + 1) (cw (R)).toArray).setRow (w.heap.size + 1 + 1) #[.int .i64 0, .int .i64 0, .int .i64 0, .int .u32 0]) (w.heap.size + 1 + 1) = some (.cells #[.int .i64 0, .int .i64 0, .int .i64 0, .int .u32 0] 37 (0, 0)) := by rw [look_setRow, if_pos rfl, V5]; rfl
  have U4 : lk ((w5.setRow (w.heap.size + 1) (cw (R)).toArray).setRow (w.heap.size + 1 + 1) #[.int .i64 0, .int .i64 0, .int .i64 0, .int .u32 0]) (w.heap.size + 1) = _ := lk_rowN V4 (by omega)
  repeat' (first
    | (with_reducible refine then_normal ?_) | (with_reducible refine wp_exit ?_) | (with_reducible refine wp_ret ?_) | (with_reducible refine then_exit ?_) | (with_reducible refine blk_hit ?_) | (with_reducible refine blk_pass (by decide) ?_) | (with_reducible refine then_ret ?_) | (with_reducible refine blk_ret ?_) | (with_reducible refine blk_normal ?_)
    | fail
    | (refine wpList_store_look rfl _ _ rfl _ rfl rfl hRL (fun ob hob => by (rw [Y4] at hob; subst hob; exact ⟨_, rfl, Z25_len⟩)) (fun w4 hw4 => ?_); subst hw4; simp only [Act.put, List.setIfInBounds_toArray, List.set_cons_zero, List.set_cons_succ])
    | (refine wpList_store_eff rfl _ _ rfl (w.heap.size + 1 + 1) _ _ _ _ rfl rfl V5 ?_; simp only [Act.put, List.setIfInBounds_toArray, List.set_cons_zero, List.set_cons_succ])
    | go_values | go_skip | go_guarded | go_step | go_upon | (simp only [Int.not_lt, Int.not_le] at *; go_simp) | (go_values <;> (try go_simp)) | (go_ite <;> go_prune <;> (try go_simp)))
  exact bodyPost_ret (v := .tuple #[cpV (R), .agg #[.int .i64 0, .int .i64 0, .int .i64 0, .int .u32 0]]) (results_ce (p := 4) (r := 5) rfl _ _ (w.heap.size + 1) (w.heap.size + 1 + 1) rfl rfl hRL U4 U5) rfl ⟨rfl, (Out.setRow (Out.setRow ho5 (by omega)) (by omega)), Keep.setRow (Keep.setRow HK5 (by omega) _) (by omega) _⟩
end Go.Proofs.YtfnfbdjbdbifaaaDoor

namespace Go.Proofs.YtfnfbdjbdbifaaaDoor
set_option linter.unusedVariables false
set_option linter.unusedSimpArgs false
set_option maxRecDepth 20000
open Go.ChangeShapes Go.WideShapes Go.ChangeAt Go.RowKit Go.Proofs.YtfnfbdjbdbifaaaDoor.Num Go.Proofs.YtfnfbdjbdbifaaaDoor.Mem Go.Proofs.YtfnfbdjbdbifaaaDoor.Isa
/- The reference: one instruction: operations. -/
set_option maxHeartbeats 1000000 in
theorem do_lui (L : List Int) (A : Option Addr) (n c g : Nat) (l : List Int) (a b' c' : Nat) (w : World) (hL : C25 L) (hm : Out w A n c l g) (h0 : ftC n l L = 0) (hd : dOk (ftW n l L)) (ha : dA (ftW n l L) = a) (a1 : a < 16) (hb : dB (ftW n l L) = b') (b1 : b' < 16) (hc : dC (ftW n l L) = c') (c1 : c' < 16) (m0 : -32768 ≤ dM (ftW n l L)) (m1 : dM (ftW n l L) ≤ 65535) (h24 : dOp (ftW n l L) = 24) (mz : 0 ≤ dM (ftW n l L)) :
    Calls Tryd.prog 30 #[cpV L, .slice A n c] w (DoPost A n c g (advL (setL L a (dM (ftW n l L) * 65536 % 4294967296))) (ftL n l L) (efV 0 0 0 0) w) := by
  have hLL := hL.1
  have h16 := hL.bd 16
  have e16 := cw_at hLL (show 16 < 25 by omega)
  have HR := Lib.hid (fun W (hM : Out W A n c l g) => reach_any L A n c g l (wd L 16) 4 1 W hL hM h16.1 h16.2)
  have hok := acc_ok (a := 1) h16.1 h16.2 (show rsC n l L (wd L 16) 4 1 = 0 from h0)
  have hX : 0 ≤ ftW n l L ∧ ftW n l L ≤ 4294967295 := ftW_bd (ftL_u32 hm.1.2.2.2.1 L)
  have eX : ldV (ftL n l L) (rsA n l L (wd L 16) 4 1) 4 = ftW n l L := by unfold ftW ldV; rw [if_pos h0, if_pos rfl]
  rw [show rsC n l L (wd L 16) 4 1 = 0 from h0] at HR
  generalize rsA n l L (wd L 16) 4 1 = ad at *
  have HLD := Lib.hid (fun W (hM : Mem W A n c (ftL n l L)) => load_refyes A n c (ftL n l L) ad 4 W hM hok.2.1 hok.2.2 hok.1)
  rw [eX] at HLD
  have hu' : U32 (ftL n l L) := ftL_u32 hm.1.2.2.2.1 L
  have HD := Lib.hid (fun W => decode_ref (ftW n l L) W hX.1 hX.2)
  rw [decide_eq_true hd, show zOp (ftW n l L) = dOp (ftW n l L) by unfold zOp; rw [if_pos hd], show zA (ftW n l L) = dA (ftW n l L) by unfold zA; rw [if_pos hd], show zB (ftW n l L) = dB (ftW n l L) by unfold zB; rw [if_pos hd], show zC (ftW n l L) = dC (ftW n l L) by unfold zC; rw [if_pos hd], show zM (ftW n l L) = dM (ftW n l L) by unfold zM; rw [if_pos hd]] at HD
  have HP := Lib.hid (fun W => priv_ref (dOp (ftW n l L)) W)
  have hs17 := hL.bd 17
  have hand := and_1 _ hs17.1 hs17.2
  change Hid (∀ W, Out W A n c l g → Calls _ _ _ W (RchPost n A c ad 0 (ftL n l L) g W)) at HR
  generalize ftL n l L = l' at *
  generalize ftW n l L = X at *
  clear h0 hd
  have HS := Lib.hid (fun v W => set_ref L a v W hL a1)
  have hRL0 : ∀ v, (setL L (a : Int) v).length = 25 := fun v => by rw [setL_len]; exact hLL
  have hb0 : (0 : Int) ≤ b' := by omega
  have hb1 : (b' : Int) < 16 := by omega
  have hb25 : b' < 25 := by omega
  have hc0 : (0 : Int) ≤ c' := by omega
  have hc1 : (c' : Int) < 16 := by omega
  have hc25 : c' < 25 := by omega
  generalize dOp X = o at *
  generalize dA X = dA' at *
  generalize dB X = dB' at *
  generalize dC X = dC' at *
  generalize dM X = dM' at *
  subst ha hb hc
  have n24 : (o == 24) = true := by simpa using h24
  have ho32 : o < 32 := by omega
  clear h24
  rw [show dM' * 65536 % 4294967296 = dM' * 65536 by omega]
  have d56 : decide (56 ≤ o) = false := decide_eq_false (by omega)
  have d40 : decide (40 ≤ o) = false := decide_eq_false (by omega)
  have d32 : decide (32 ≤ o) = false := decide_eq_false (by omega)
  rw [decide_eq_false (show ¬ (57 ≤ o ∧ o ≤ 64) by omega)] at HP
  have HM := Lib.hid hm
  clear hm
  obtain ⟨F1, F2, F3, -⟩ := cw_facts
  go_enter Tryd.func30, Tryd.ntmps30
  go_wp2_with (first
    | (refine wpList_box_box rfl _ rfl rfl ?_; simp only [Act.put, List.setIfInBounds_toArray, List.set_cons_zero, List.set_cons_succ])
    | (refine wpList_alloc_box rfl rfl ?_; simp only [Act.put, List.setIfInBounds_toArray, List.set_cons_zero, List.set_cons_succ])
    | (refine wpList_load_look rfl _ rfl _ rfl (fun ob hob => ?_); simp [look_alloc, look_setRow, look_drew, look_drewN, look_setCell, Nat.add_assoc] at hob; subst hob; refine ⟨_, rfl, by (first | with_reducible assumption | (simp only [List.length_set]; with_reducible assumption) | exact Z25_len), ?_⟩; simp only [Act.put, List.setIfInBounds_toArray, List.set_cons_zero, List.set_cons_succ]))
  try simp only [World.size_alloc]
  generalize hW : World.alloc (World.alloc (World.alloc w _) _) _ = W
  have X2 : lk W w.heap.size = some (.cells (cw L).toArray 32 (0, 0)) := by rw [← hW]; simp [look_alloc, look_setRow, look_drew, look_drewN, look_setCell, Nat.add_assoc] <;> omega
  have X4 : lk W (w.heap.size + 1) = some (.cells (cw Z25).toArray 32 (0, 0)) := by rw [← hW]; simp [look_alloc, look_setRow, look_drew, look_drewN, look_setCell, Nat.add_assoc]
  have X5 : lk W (w.heap.size + 1 + 1) = some (.cells #[.int .i64 0, .int .i64 0, .int .i64 0, .int .u32 0] 37 (0, 0)) := by rw [← hW]; simp [look_alloc, look_setRow, look_drew, look_drewN, look_setCell, Nat.add_assoc]
  have bel : Below w.heap.size w W := by rw [← hW]; (repeat' (first | with_reducible exact Below.refl _ _ | with_reducible assumption | with_reducible apply below_drewN | with_reducible apply Below.drew | with_reducible apply Below.setCell | with_reducible apply Below.alloc | (simp; done) | omega | (simp; omega)))
  have hsz : w.heap.size + 2 < W.heap.size := by rw [← hW]; simp
  clear hW
  refine (HR.out _ (HM.out.on bel)).mono ?_
  rintro e w1 ⟨rfl, ho1, hk1⟩
  have hgl := HM.out.lt
  have Y2 := look_kp X2 hk1 (by omega)
  have Y4 := look_kp X4 hk1 (by omega)
  have Y5 := look_kp X5 hk1 (by omega)
  have hs1 : w.heap.size + 2 < w1.heap.size := Nat.lt_of_lt_of_le hsz hk1.size
  have HK1 := Keep.trans (Keep.of (p := 0 < n) (g := g) bel) hk1
  clear X2 X4 X5 bel hsz hk1
  have hm1 : Mem w1 A n c l' := ho1.1
  go_wp2_with (first
    | (go_at_call 55; (with_reducible refine (HLD.out _ hm1).mono ?_); rintro e w2 ⟨rfl, m2, rfl⟩))
  refine (HD.out _).mono ?_
  rintro e w3 ⟨rfl, hb3⟩
  replace Y2 : lk w3 w.heap.size = _ := look_on (w := w1.drewN m2) Y2 hb3 (show w.heap.size < w1.heap.size by omega)
  replace Y4 : lk w3 (w.heap.size + 1) = _ := look_on (w := w1.drewN m2) Y4 hb3 (show w.heap.size + 1 < w1.heap.size by omega)
  replace Y5 : lk w3 (w.heap.size + 1 + 1) = _ := look_on (w := w1.drewN m2) Y5 hb3 (show w.heap.size + 1 + 1 < w1.heap.size by omega)
  replace hs1 : w.heap.size + 2 < w3.heap.size := Nat.lt_of_lt_of_le hs1 hb3.size
  replace ho1 : Out w3 A n c l' g := Out.on (w := w1.drewN m2) (ho1.on (below_drewN (Below.refl _ _) m2)) hb3
  replace HK1 : Keep (0 < n) g w w3 := (HK1.trans (Keep.drewN _ _ _ m2)).trans (Keep.of hb3)
  clear hb3 hm1
  have N0 : ¬ w.heap.size = w3.heap.size := by omega
  have N1 : ¬ w.heap.size + 1 = w3.heap.size := by omega
  have N2 : ¬ w.heap.size + 1 + 1 = w3.heap.size := by omega
  go_wp2_with fail
  refine (HP.out _).mono ?_
  rintro e w4 ⟨rfl, m4, rfl⟩
  generalize hW : World.drewN _ _ = W
  replace Y2 : lk W w.heap.size = some (.cells (cw L).toArray 32 (0, 0)) := by rw [← hW, look_drewN, look_alloc, if_neg N0]; exact Y2
  replace Y4 : lk W (w.heap.size + 1) = some (.cells (cw Z25).toArray 32 (0, 0)) := by rw [← hW, look_drewN, look_alloc, if_neg N1]; exact Y4
  replace Y5 : lk W (w.heap.size + 1 + 1) = some (.cells #[.int .i64 0, .int .i64 0, .int .i64 0, .int .u32 0] 37 (0, 0)) := by rw [← hW, look_drewN, look_alloc, if_neg N2]; exact Y5
  have XI : lk W w3.heap.size = some (.cells #[.int .i64 o, .int .i64 (a : Int), .int .i64 (b' : Int), .int .i64 (c' : Int), .int .i32 dM'] 27 (0, 0)) := by rw [← hW, look_drewN, look_alloc, if_pos rfl]
  have d0 : W.cell? ⟨w3.heap.size, 0, none⟩ = some (.int .i64 o) := cell_lk XI 0
  have d1 : W.cell? ⟨w3.heap.size, 1, none⟩ = some (.int .i64 (a : Int)) := cell_lk XI 1
  have d2 : W.cell? ⟨w3.heap.size, 2, none⟩ = some (.int .i64 (b' : Int)) := cell_lk XI 2
  have d3 : W.cell? ⟨w3.heap.size, 3, none⟩ = some (.int .i64 (c' : Int)) := cell_lk XI 3
  have d4 : W.cell? ⟨w3.heap.size, 4, none⟩ = some (.int .i32 dM') := cell_lk XI 4
  have cs : W.cell? ⟨w.heap.size, 17, none⟩ = some (.int .u32 (wd L 17)) := (cell_lk Y2 17).trans (by simpa using cw_at hLL (show 17 < 25 by omega))
  replace HK1 : Keep (0 < n) g w W := by rw [← hW]; exact (HK1.trans (Keep.of (by (repeat' (first | with_reducible exact Below.refl _ _ | with_reducible assumption | with_reducible apply below_drewN | with_reducible apply Below.drew | with_reducible apply Below.setCell | with_reducible apply Below.alloc | (simp; done) | omega | (simp; omega)))))).trans (Keep.drewN _ _ _ _)
  replace ho1 : Out W A n c l' g := by rw [← hW]; exact (ho1.on (by (repeat' (first | with_reducible exact Below.refl _ _ | with_reducible assumption | with_reducible apply below_drewN | with_reducible apply Below.drew | with_reducible apply Below.setCell | with_reducible apply Below.alloc | (simp; done) | omega | (simp; omega)))))
  have hsW : w3.heap.size < W.heap.size := by rw [← hW]; simp
  clear hW
  go_wp2_with (first
    | (refine wpList_load_look rfl _ rfl _ rfl (fun ob hob => ?_); rw [Y2] at hob; subst hob; refine ⟨_, rfl, hLL, ?_⟩; simp only [Act.put, List.setIfInBounds_toArray, List.set_cons_zero, List.set_cons_succ]))
  refine (HS.out _ _).mono ?_
  rintro e w6 ⟨rfl, hb6⟩
  replace Y2 := look_on Y2 hb6 (by omega)
  replace Y4 := look_on Y4 hb6 (by omega)
  replace Y5 := look_on Y5 hb6 (by omega)
  replace ho1 := ho1.on hb6
  replace HK1 := HK1.trans (Keep.of hb6)
  clear hb6 XI d0 d1 d2 d3 d4 cs
  have hRL := hRL0 ((dM' * 65536))
  clear hRL0
  generalize hR : setL L _ _ = R at *
  have V2 := lk_row (M := R) Y2
  have V4 : lk (w6.setRow w.heap.size (cw R).toArray) (w.heap.size + 1) = _ := lk_rowN Y4 (by omega)
  have V5 : lk (w6.setRow w.heap.size (cw R).toArray) (w.heap.size + 1 + 1) = _ := lk_rowN Y5 (by omega)
  have cp : (w6.setRow w.heap.size (cw R).toArray).cell? ⟨w.heap.size, 16, none⟩ = some (.int .u32 (wd R 16)) := (cell_lk V2 16).trans (by simpa using cw_at hRL (show 16 < 25 by omega))
  have fp : (w6.setRow w.heap.size (cw R).toArray).frozen? ⟨w.heap.size, 16, none⟩ = false := frozen_lk V2 16
  have U2 := lk_set V2 16 ((wd R 16 + 4) % 4294967296)
  have Q4 := lk_setN (k := 16) (v := .int .u32 ((wd R 16 + 4) % 4294967296)) V4 (show ¬ w.heap.size = w.heap.size + 1 by omega)
  have Q5 := lk_setN (k := 16) (v := .int .u32 ((wd R 16 + 4) % 4294967296)) V5 (show ¬ w.heap.size = w.heap.size + 1 + 1 by omega)
  have hRT : (R.set 16 ((wd R 16 + 4) % 4294967296)).length = 25 := by rw [List.length_set]; exact hRL
  have ho7 := Lib.hid ((ho1.setRow (k := w.heap.size) (cs := (cw R).toArray) (by omega)).setCellN (k := w.heap.size) (by omega) 16 (.int .u32 ((wd R 16 + 4) % 4294967296)))
  have hk7 := Lib.hid ((HK1.setRow (k := w.heap.size) (by omega) (cw R).toArray).setCellN (k := w.heap.size) (by omega) 16 (.int .u32 ((wd R 16 + 4) % 4294967296)))
  have P2 := Y2
  replace Y4 := Q4
  replace Y5 := Q5
  clear Q4 Q5 Y2 ho1 HK1 V4 V5
  have V4 := lk_row (M := R.set 16 ((wd R 16 + 4) % 4294967296)) Y4
  have V5 : lk (((w6.setRow w.heap.size (cw R).toArray).setCell ⟨w.heap.size, 16, none⟩ (.int .u32 ((wd R 16 + 4) % 4294967296))).setRow (w.heap.size + 1) (cw (R.set 16 ((wd R 16 + 4) % 4294967296))).toArray) (w.heap.size + 1 + 1) = _ := lk_rowN Y5 (by omega)
  have U5 : lk ((((w6.setRow w.heap.size (cw R).toArray).setCell ⟨w.heap.size, 16, none⟩ (.int .u32 ((wd R 16 + 4) % 4294967296))).setRow (w.heap.size + 1) (cw (R.set 16 ((wd R 16 + 4) % 4294967296))).toArray).setRow (w.heap.size + 1 + 1) #[.int .i64 0, .int .i64 0, .int .i64 0, .int .u32 0]) (w.heap.size + 1 + 1) = some (.cells #[.int .i64 0, .int .i64 0, .int .i64 0, .int .u32 0] 37 (0, 0)) := by rw [look_setRow, if_pos rfl, V5]; rfl
  have U4 : lk ((((w6.setRow w.heap.size (cw R).toArray).setCell ⟨w.heap.size, 16, none⟩ (.int .u32 ((wd R 16 + 4) % 4294967296))).setRow (w.heap.size + 1) (cw (R.set 16 ((wd R 16 + 4) % 4294967296))).toArray).setRow (w.heap.size + 1 + 1) #[.int .i64 0, .int .i64 0, .int .i64 0, .int .u32 0]) (w.heap.size + 1) = _ := lk_rowN V4 (by omega)
  go_wp2_with (first
    | (refine wpList_store_look rfl _ _ rfl _ rfl rfl hRL (fun ob hob => by (rw [P2] at hob; subst hob; exact ⟨_, rfl, hLL⟩)) (fun w4 hw4 => ?_); subst hw4; simp only [Act.put, List.setIfInBounds_toArray, List.set_cons_zero, List.set_cons_succ])
    | (refine wpList_load_look rfl _ rfl _ rfl (fun ob hob => ?_); rw [U2] at hob; subst hob; refine ⟨_, rfl, hRT, ?_⟩; simp only [Act.put, List.setIfInBounds_toArray, List.set_cons_zero, List.set_cons_succ]; refine Hid.out ?_))
  refine Lib.hid ?_
  clear P2 U2 hR cp fp
  repeat' (first
    | (with_reducible refine then_normal ?_) | (with_reducible refine wp_exit ?_) | (with_reducible refine wp_ret ?_) | (with_reducible refine then_exit ?_) | (with_reducible refine blk_hit ?_) | (with_reducible refine blk_pass (by decide) ?_) | (with_reducible refine then_ret ?_) | (with_reducible refine blk_ret ?_) | (with_reducible refine blk_normal ?_)
    | (refine wpList_store_look rfl _ _ rfl _ rfl rfl hRT (fun ob hob => by (rw [Y4] at hob; subst hob; exact ⟨_, rfl, Z25_len⟩)) (fun w4 hw4 => ?_); subst hw4; simp only [Act.put, List.setIfInBounds_toArray, List.set_cons_zero, List.set_cons_succ])
    | (refine wpList_store_eff rfl _ _ rfl (w.heap.size + 1 + 1) _ _ _ _ rfl rfl V5 ?_; simp only [Act.put, List.setIfInBounds_toArray, List.set_cons_zero, List.set_cons_succ])
    | go_values | go_skip | go_guarded | go_step | go_upon | (simp only [Int.not_lt, Int.not_le] at *; go_simp) | (go_values <;> (try go_simp)) | (go_ite <;> go_prune <;> (try go_simp)))
  exact bodyPost_ret (v := .tuple #[cpV (R.set 16 ((wd R 16 + 4) % 4294967296)), .agg #[.int .i64 0, .int .i64 0, .int .i64 0, .int .u32 0]]) (results_ce (p := 4) (r := 5) rfl _ _ (w.heap.size + 1) (w.heap.size + 1 + 1) rfl rfl hRT U4 U5) rfl ⟨rfl, (Out.setRow (Out.setRow ho7.out (by omega)) (by omega)), Keep.setRow (Keep.setRow hk7.out (by omega) _) (by omega) _⟩
set_option maxHeartbeats 1000000 in
theorem do_alu (L : List Int) (A : Option Addr) (n c g : Nat) (l : List Int) (a b' c' : Nat) (w : World) (hL : C25 L) (hm : Out w A n c l g) (h0 : ftC n l L = 0) (hd : dOk (ftW n l L)) (ha : dA (ftW n l L) = a) (a1 : a < 16) (hb : dB (ftW n l L) = b') (b1 : b' < 16) (hc : dC (ftW n l L) = c') (c1 : c' < 16) (m0 : -32768 ≤ dM (ftW n l L)) (m1 : dM (ftW n l L) ≤ 65535) (h32 : dOp (ftW n l L) < 32) (h24 : ¬ dOp (ftW n l L) = 24) :
    Calls Tryd.prog 30 #[cpV L, .slice A n c] w (DoPost A n c g (advL (setL L a (aluV (dOp (ftW n l L)) (wd L b') (if dOp (ftW n l L) ≤ 13 then wd L c' else dM (ftW n l L) % 4294967296)))) (ftL n l L) (efV 0 0 0 0) w) := by
  have hLL := hL.1
  have h16 := hL.bd 16
  have e16 := cw_at hLL (show 16 < 25 by omega)
  have HR := Lib.hid (fun W (hM : Out W A n c l g) => reach_any L A n c g l (wd L 16) 4 1 W hL hM h16.1 h16.2)
  have hok := acc_ok (a := 1) h16.1 h16.2 (show rsC n l L (wd L 16) 4 1 = 0 from h0)
  have hX : 0 ≤ ftW n l L ∧ ftW n l L ≤ 4294967295 := ftW_bd (ftL_u32 hm.1.2.2.2.1 L)
  have eX : ldV (ftL n l L) (rsA n l L (wd L 16) 4 1) 4 = ftW n l L := by unfold ftW ldV; rw [if_pos h0, if_pos rfl]
  rw [show rsC n l L (wd L 16) 4 1 = 0 from h0] at HR
  generalize rsA n l L (wd L 16) 4 1 = ad at *
  have HLD := Lib.hid (fun W (hM : Mem W A n c (ftL n l L)) => load_refyes A n c (ftL n l L) ad 4 W hM hok.2.1 hok.2.2 hok.1)
  rw [eX] at HLD
  have hu' : U32 (ftL n l L) := ftL_u32 hm.1.2.2.2.1 L
  have HD := Lib.hid (fun W => decode_ref (ftW n l L) W hX.1 hX.2)
  rw [decide_eq_true hd, show zOp (ftW n l L) = dOp (ftW n l L) by unfold zOp; rw [if_pos hd], show zA (ftW n l L) = dA (ftW n l L) by unfold zA; rw [if_pos hd], show zB (ftW n l L) = dB (ftW n l L) by unfold zB; rw [if_pos hd], show zC (ftW n l L) = dC (ftW n l L) by unfold zC; rw [if_pos hd], show zM (ftW n l L) = dM (ftW n l L) by unfold zM; rw [if_pos hd]] at HD
  have HP := Lib.hid (fun W => priv_ref (dOp (ftW n l L)) W)
  have hs17 := hL.bd 17
  have hand := and_1 _ hs17.1 hs17.2
  change Hid (∀ W, Out W A n c l g → Calls _ _ _ W (RchPost n A c ad 0 (ftL n l L) g W)) at HR
  generalize ftL n l L = l' at *
  generalize ftW n l L = X at *
  clear h0 hd
  have HS := Lib.hid (fun v W => set_ref L a v W hL a1)
  have hRL0 : ∀ v, (setL L (a : Int) v).length = 25 := fun v => by rw [setL_len]; exact hLL
  have hb0 : (0 : Int) ≤ b' := by omega
  have hb1 : (b' : Int) < 16 := by omega
  have hb25 : b' < 25 := by omega
  have hc0 : (0 : Int) ≤ c' := by omega
  have hc1 : (c' : Int) < 16 := by omega
  have hc25 : c' < 25 := by omega
  generalize dOp X = o at *
  generalize dA X = dA' at *
  generalize dB X = dB' at *
  generalize dC X = dC' at *
  generalize dM X = dM' at *
  subst ha hb hc
  have n24 : (o == 24) = false := by simpa using h24
  have ho32 : o < 32 := h32
  clear h24 h32
  have hlo : 0 ≤ (if o ≤ 13 then wd L c' else dM' % 4294967296) ∧ (if o ≤ 13 then wd L c' else dM' % 4294967296) ≤ 4294967295 := by
    split
    · exact hL.bd c'
    · omega
  have HAL := Lib.hid (fun W => alu_ref o (wd L b') (if o ≤ 13 then wd L c' else dM' % 4294967296) W (hL.bd b').1 (hL.bd b').2 hlo.1 hlo.2)
  unfold AluPost at HAL
  generalize hV : aluV o (wd L b') (if o ≤ 13 then wd L c' else dM' % 4294967296) = V at *
  generalize aluB o = ab at *
  clear hV
  have d56 : decide (56 ≤ o) = false := decide_eq_false (by omega)
  have d40 : decide (40 ≤ o) = false := decide_eq_false (by omega)
  have d32 : decide (32 ≤ o) = false := decide_eq_false (by omega)
  rw [decide_eq_false (show ¬ (57 ≤ o ∧ o ≤ 64) by omega)] at HP
  have HM := Lib.hid hm
  have eB := cw_at hLL hb25
  have eC := cw_at hLL hc25
  clear hm
  obtain ⟨F1, F2, F3, -⟩ := cw_facts
  by_cases h13 : o ≤ 13
  all_goals
    first | (rw [if_pos h13] at HAL) | (rw [if_neg h13] at HAL)
    go_enter Tryd.func30, Tryd.ntmps30
    go_wp2_with (first
      | (refine wpList_box_box rfl _ rfl rfl ?_; simp only [Act.put, List.setIfInBounds_toArray, List.set_cons_zero, List.set_cons_succ])
      | (refine wpList_alloc_box rfl rfl ?_; simp only [Act.put, List.setIfInBounds_toArray, List.set_cons_zero, List.set_cons_succ])
      | (refine wpList_load_look rfl _ rfl _ rfl (fun ob hob => ?_); simp [look_alloc, look_setRow, look_drew, look_drewN, look_setCell, Nat.add_assoc] at hob; subst hob; refine ⟨_, rfl, by (first | with_reducible assumption | (simp only [List.length_set]; with_reducible assumption) | exact Z25_len), ?_⟩; simp only [Act.put, List.setIfInBounds_toArray, List.set_cons_zero, List.set_cons_succ]))
    try simp only [World.size_alloc]
    generalize hW : World.alloc (World.alloc (World.alloc w _) _) _ = W
    have X2 : lk W w.heap.size = some (.cells (cw L).toArray 32 (0, 0)) := by rw [← hW]; simp [look_alloc, look_setRow, look_drew, look_drewN, look_setCell, Nat.add_assoc] <;> omega
    have X4 : lk W (w.heap.size + 1) = some (.cells (cw Z25).toArray 32 (0, 0)) := by rw [← hW]; simp [look_alloc, look_setRow, look_drew, look_drewN, look_setCell, Nat.add_assoc]
    have X5 : lk W (w.heap.size + 1 + 1) = some (.cells #[.int .i64 0, .int .i64 0, .int .i64 0, .int .u32 0] 37 (0, 0)) := by rw [← hW]; simp [look_alloc, look_setRow, look_drew, look_drewN, look_setCell, Nat.add_assoc]
    have bel : Below w.heap.size w W := by rw [← hW]; (repeat' (first | with_reducible exact Below.refl _ _ | with_reducible assumption | with_reducible apply below_drewN | with_reducible apply Below.drew | with_reducible apply Below.setCell | with_reducible apply Below.alloc | (simp; done) | omega | (simp; omega)))
    have hsz : w.heap.size + 2 < W.heap.size := by rw [← hW]; simp
    clear hW
    refine (HR.out _ (HM.out.on bel)).mono ?_
    rintro e w1 ⟨rfl, ho1, hk1⟩
    have hgl := HM.out.lt
    have Y2 := look_kp X2 hk1 (by omega)
    have Y4 := look_kp X4 hk1 (by omega)
    have Y5 := look_kp X5 hk1 (by omega)
    have hs1 : w.heap.size + 2 < w1.heap.size := Nat.lt_of_lt_of_le hsz hk1.size
    have HK1 := Keep.trans (Keep.of (p := 0 < n) (g := g) bel) hk1
    clear X2 X4 X5 bel hsz hk1
    have hm1 : Mem w1 A n c l' := ho1.1
    go_wp2_with (first
      | (go_at_call 55; (with_reducible refine (HLD.out _ hm1).mono ?_); rintro e w2 ⟨rfl, m2, rfl⟩))
    refine (HD.out _).mono ?_
    rintro e w3 ⟨rfl, hb3⟩
    replace Y2 : lk w3 w.heap.size = _ := look_on (w := w1.drewN m2) Y2 hb3 (show w.heap.size < w1.heap.size by omega)
    replace Y4 : lk w3 (w.heap.size + 1) = _ := look_on (w := w1.drewN m2) Y4 hb3 (show w.heap.size + 1 < w1.heap.size by omega)
    replace Y5 : lk w3 (w.heap.size + 1 + 1) = _ := look_on (w := w1.drewN m2) Y5 hb3 (show w.heap.size + 1 + 1 < w1.heap.size by omega)
    replace hs1 : w.heap.size + 2 < w3.heap.size := Nat.lt_of_lt_of_le hs1 hb3.size
    replace ho1 : Out w3 A n c l' g := Out.on (w := w1.drewN m2) (ho1.on (below_drewN (Below.refl _ _) m2)) hb3
    replace HK1 : Keep (0 < n) g w w3 := (HK1.trans (Keep.drewN _ _ _ m2)).trans (Keep.of hb3)
    clear hb3 hm1
    have N0 : ¬ w.heap.size = w3.heap.size := by omega
    have N1 : ¬ w.heap.size + 1 = w3.heap.size := by omega
    have N2 : ¬ w.heap.size + 1 + 1 = w3.heap.size := by omega
    go_wp2_with fail
    refine (HP.out _).mono ?_
    rintro e w4 ⟨rfl, m4, rfl⟩
    generalize hW : World.drewN _ _ = W
    replace Y2 : lk W w.heap.size = some (.cells (cw L).toArray 32 (0, 0)) := by rw [← hW, look_drewN, look_alloc, if_neg N0]; exact Y2
    replace Y4 : lk W (w.heap.size + 1) = some (.cells (cw Z25).toArray 32 (0, 0)) := by rw [← hW, look_drewN, look_alloc, if_neg N1]; exact Y4
    replace Y5 : lk W (w.heap.size + 1 + 1) = some (.cells #[.int .i64 0, .int .i64 0, .int .i64 0, .int .u32 0] 37 (0, 0)) := by rw [← hW, look_drewN, look_alloc, if_neg N2]; exact Y5
    have XI : lk W w3.heap.size = some (.cells #[.int .i64 o, .int .i64 (a : Int), .int .i64 (b' : Int), .int .i64 (c' : Int), .int .i32 dM'] 27 (0, 0)) := by rw [← hW, look_drewN, look_alloc, if_pos rfl]
    have d0 : W.cell? ⟨w3.heap.size, 0, none⟩ = some (.int .i64 o) := cell_lk XI 0
    have d1 : W.cell? ⟨w3.heap.size, 1, none⟩ = some (.int .i64 (a : Int)) := cell_lk XI 1
    have d2 : W.cell? ⟨w3.heap.size, 2, none⟩ = some (.int .i64 (b' : Int)) := cell_lk XI 2
    have d3 : W.cell? ⟨w3.heap.size, 3, none⟩ = some (.int .i64 (c' : Int)) := cell_lk XI 3
    have d4 : W.cell? ⟨w3.heap.size, 4, none⟩ = some (.int .i32 dM') := cell_lk XI 4
    have cs : W.cell? ⟨w.heap.size, 17, none⟩ = some (.int .u32 (wd L 17)) := (cell_lk Y2 17).trans (by simpa using cw_at hLL (show 17 < 25 by omega))
    replace HK1 : Keep (0 < n) g w W := by rw [← hW]; exact (HK1.trans (Keep.of (by (repeat' (first | with_reducible exact Below.refl _ _ | with_reducible assumption | with_reducible apply below_drewN | with_reducible apply Below.drew | with_reducible apply Below.setCell | with_reducible apply Below.alloc | (simp; done) | omega | (simp; omega)))))).trans (Keep.drewN _ _ _ _)
    replace ho1 : Out W A n c l' g := by rw [← hW]; exact (ho1.on (by (repeat' (first | with_reducible exact Below.refl _ _ | with_reducible assumption | with_reducible apply below_drewN | with_reducible apply Below.drew | with_reducible apply Below.setCell | with_reducible apply Below.alloc | (simp; done) | omega | (simp; omega)))))
    have hsW : w3.heap.size < W.heap.size := by rw [← hW]; simp
    clear hW
    have cb : W.cell? ⟨w.heap.size, b', none⟩ = some (.int .u32 (wd L b')) := (cell_lk Y2 b').trans (by simpa using eB)
    have cc : W.cell? ⟨w.heap.size, c', none⟩ = some (.int .u32 (wd L c')) := (cell_lk Y2 c').trans (by simpa using eC)
    go_wp2_with fail
    have s0 : W.drew.cell? ⟨w3.heap.size, 0, none⟩ = _ := d0
    have s2 : W.drew.cell? ⟨w3.heap.size, 2, none⟩ = _ := d2
    have sb : W.drew.cell? ⟨w.heap.size, b', none⟩ = _ := cb
    go_region_held3 (fun w' => w'.cell? ⟨w3.heap.size, 0, none⟩ = some (.int .i64 o) ∧ w'.cell? ⟨w3.heap.size, 2, none⟩ = some (.int .i64 (b' : Int)) ∧ w'.cell? ⟨w.heap.size, b', none⟩ = some (.int .u32 (wd L b'))) (first | exact ⟨s0, s2, sb⟩ | go_keep) (first | (go_at_call 62; refine (HAL.out _).mono ?_; rintro e w5 ⟨rfl, m5, rfl⟩))
    generalize hW5 : World.drewN W (1 + m5) = W5
    replace Y2 : lk W5 w.heap.size = some (.cells (cw L).toArray 32 (0, 0)) := by rw [← hW5]; exact Y2
    replace Y4 : lk W5 (w.heap.size + 1) = some (.cells (cw Z25).toArray 32 (0, 0)) := by rw [← hW5]; exact Y4
    replace Y5 : lk W5 (w.heap.size + 1 + 1) = some (.cells #[.int .i64 0, .int .i64 0, .int .i64 0, .int .u32 0] 37 (0, 0)) := by rw [← hW5]; exact Y5
    replace d1 : W5.cell? ⟨w3.heap.size, 1, none⟩ = some (.int .i64 (a : Int)) := by rw [← hW5]; exact d1
    replace HK1 : Keep (0 < n) g w W5 := by rw [← hW5]; exact HK1.trans (Keep.drewN _ _ _ _)
    replace ho1 : Out W5 A n c l' g := by rw [← hW5]; exact ho1.on (below_drewN (Below.refl _ _) _)
    replace hsW : w3.heap.size < W5.heap.size := by rw [← hW5]; exact hsW
    clear hW5 s0 s2 sb cb cc
    go_wp2_with (first
      | (refine wpList_load_look rfl _ rfl _ rfl (fun ob hob => ?_); rw [Y2] at hob; subst hob; refine ⟨_, rfl, hLL, ?_⟩; simp only [Act.put, List.setIfInBounds_toArray, List.set_cons_zero, List.set_cons_succ]))
    refine (HS.out _ _).mono ?_
    rintro e w6 ⟨rfl, hb6⟩
    replace Y2 := look_on Y2 hb6 (by omega)
    replace Y4 := look_on Y4 hb6 (by omega)
    replace Y5 := look_on Y5 hb6 (by omega)
    replace ho1 := ho1.on hb6
    replace HK1 := HK1.trans (Keep.of hb6)
    clear hb6 XI d0 d1 d2 d3 d4 cs
    have hRL := hRL0 (V)
    clear hRL0
    generalize hR : setL L _ _ = R at *
    have V2 := lk_row (M := R) Y2
    have V4 : lk (w6.setRow w.heap.size (cw R).toArray) (w.heap.size + 1) = _ := lk_rowN Y4 (by omega)
    have V5 : lk (w6.setRow w.heap.size (cw R).toArray) (w.heap.size + 1 + 1) = _ := lk_rowN Y5 (by omega)
    have cp : (w6.setRow w.heap.size (cw R).toArray).cell? ⟨w.heap.size, 16, none⟩ = some (.int .u32 (wd R 16)) := (cell_lk V2 16).trans (by simpa using cw_at hRL (show 16 < 25 by omega))
    have fp : (w6.setRow w.heap.size (cw R).toArray).frozen? ⟨w.heap.size, 16, none⟩ = false := frozen_lk V2 16
    have U2 := lk_set V2 16 ((wd R 16 + 4) % 4294967296)
    have Q4 := lk_setN (k := 16) (v := .int .u32 ((wd R 16 + 4) % 4294967296)) V4 (show ¬ w.heap.size = w.heap.size + 1 by omega)
    have Q5 := lk_setN (k := 16) (v := .int .u32 ((wd R 16 + 4) % 4294967296)) V5 (show ¬ w.heap.size = w.heap.size + 1 + 1 by omega)
    have hRT : (R.set 16 ((wd R 16 + 4) % 4294967296)).length = 25 := by rw [List.length_set]; exact hRL
    have ho7 := Lib.hid ((ho1.setRow (k := w.heap.size) (cs := (cw R).toArray) (by omega)).setCellN (k := w.heap.size) (by omega) 16 (.int .u32 ((wd R 16 + 4) % 4294967296)))
    have hk7 := Lib.hid ((HK1.setRow (k := w.heap.size) (by omega) (cw R).toArray).setCellN (k := w.heap.size) (by omega) 16 (.int .u32 ((wd R 16 + 4) % 4294967296)))
    have P2 := Y2
    replace Y4 := Q4
    replace Y5 := Q5
    clear Q4 Q5 Y2 ho1 HK1 V4 V5
    have V4 := lk_row (M := R.set 16 ((wd R 16 + 4) % 4294967296)) Y4
    have V5 : lk (((w6.setRow w.heap.size (cw R).toArray).setCell ⟨w.heap.size, 16, none⟩ (.int .u32 ((wd R 16 + 4) % 4294967296))).setRow (w.heap.size + 1) (cw (R.set 16 ((wd R 16 + 4) % 4294967296))).toArray) (w.heap.size + 1 + 1) = _ := lk_rowN Y5 (by omega)
    have U5 : lk ((((w6.setRow w.heap.size (cw R).toArray).setCell ⟨w.heap.size, 16, none⟩ (.int .u32 ((wd R 16 + 4) % 4294967296))).setRow (w.heap.size + 1) (cw (R.set 16 ((wd R 16 + 4) % 4294967296))).toArray).setRow (w.heap.size + 1 + 1) #[.int .i64 0, .int .i64 0, .int .i64 0, .int .u32 0]) (w.heap.size + 1 + 1) = some (.cells #[.int .i64 0, .int .i64 0, .int .i64 0, .int .u32 0] 37 (0, 0)) := by rw [look_setRow, if_pos rfl, V5]; rfl
    have U4 : lk ((((w6.setRow w.heap.size (cw R).toArray).setCell ⟨w.heap.size, 16, none⟩ (.int .u32 ((wd R 16 + 4) % 4294967296))).setRow (w.heap.size + 1) (cw (R.set 16 ((wd R 16 + 4) % 4294967296))).toArray).setRow (w.heap.size + 1 + 1) #[.int .i64 0, .int .i64 0, .int .i64 0, .int .u32 0]) (w.heap.size + 1) = _ := lk_rowN V4 (by omega)
    go_wp2_with (first
      | (refine wpList_store_look rfl _ _ rfl _ rfl rfl hRL (fun ob hob => by (rw [P2] at hob; subst hob; exact ⟨_, rfl, hLL⟩)) (fun w4 hw4 => ?_); subst hw4; simp only [Act.put, List.setIfInBounds_toArray, List.set_cons_zero, List.set_cons_succ])
      | (refine wpList_load_look rfl _ rfl _ rfl (fun ob hob => ?_); rw [U2] at hob; subst hob; refine ⟨_, rfl, hRT, ?_⟩; simp only [Act.put, List.setIfInBounds_toArray, List.set_cons_zero, List.set_cons_succ]; refine Hid.out ?_))
    refine Lib.hid ?_
    clear P2 U2 hR cp fp
    repeat' (first
      | (with_reducible refine then_normal ?_) | (with_reducible refine wp_exit ?_) | (with_reducible refine wp_ret ?_) | (with_reducible refine then_exit ?_) | (with_reducible refine blk_hit ?_) | (with_reducible refine blk_pass (by decide) ?_) | (with_reducible refine then_ret ?_) | (with_reducible refine blk_ret ?_) | (with_reducible refine blk_normal ?_)
      | (refine wpList_store_look rfl _ _ rfl _ rfl rfl hRT (fun ob hob => by (rw [Y4] at hob; subst hob; exact ⟨_, rfl, Z25_len⟩)) (fun w4 hw4 => ?_); subst hw4; simp only [Act.put, List.setIfInBounds_toArray, List.set_cons_zero, List.set_cons_succ])
      | (refine wpList_store_eff rfl _ _ rfl (w.heap.size + 1 + 1) _ _ _ _ rfl rfl V5 ?_; simp only [Act.put, List.setIfInBounds_toArray, List.set_cons_zero, List.set_cons_succ])
      | go_values | go_skip | go_guarded | go_step | go_upon | (simp only [Int.not_lt, Int.not_le] at *; go_simp) | (go_values <;> (try go_simp)) | (go_ite <;> go_prune <;> (try go_simp)))
    exact bodyPost_ret (v := .tuple #[cpV (R.set 16 ((wd R 16 + 4) % 4294967296)), .agg #[.int .i64 0, .int .i64 0, .int .i64 0, .int .u32 0]]) (results_ce (p := 4) (r := 5) rfl _ _ (w.heap.size + 1) (w.heap.size + 1 + 1) rfl rfl hRT U4 U5) rfl ⟨rfl, (Out.setRow (Out.setRow ho7.out (by omega)) (by omega)), Keep.setRow (Keep.setRow hk7.out (by omega) _) (by omega) _⟩
end Go.Proofs.YtfnfbdjbdbifaaaDoor

namespace Go.Proofs.YtfnfbdjbdbifaaaDoor
set_option linter.unusedVariables false
set_option linter.unusedSimpArgs false
set_option maxRecDepth 20000
open Go.ChangeShapes Go.WideShapes Go.ChangeAt Go.RowKit Go.Proofs.YtfnfbdjbdbifaaaDoor.Num Go.Proofs.YtfnfbdjbdbifaaaDoor.Mem Go.Proofs.YtfnfbdjbdbifaaaDoor.Isa
/- The reference: one instruction, whole. -/
theorem transfer_all (L : List Int) (S : Option Addr) (n c g : Nat) (l : List Int) (o A B C m : Int) (a b : Nat) (w : World) (hL : C25 L) (hm : Out w S n c l g) (ha : A = a) (a1 : a < 16) (hb : B = b) (b1 : b < 16) (m0 : -32768 ≤ m) (m1 : m ≤ 65535) (ho : 32 ≤ o ∧ o ≤ 36) :
    Calls Tryd.prog 60 #[cpV L, .slice S n c, instV o A B C m] w fun e w' => e = .returned (cpV (if o ≤ 34 then ldX n l L o A B m else stX n l L o B m)) ∧ Out w' S n c (if o ≤ 34 then ldM n l L o B m else stM n l L o A B m) g ∧ Keep (0 < n) g w w' := by
  by_cases h : o ≤ 34
  · rw [if_pos h, if_pos h]
    unfold ldX ldM
    by_cases hc : rsC n l L (opVa L B m) (opSz o) 2 = 0
    · rw [if_pos hc, ha, ← adv_setL hL.1 a1]
      rw [ha] at *
      exact trans_ld L S n c g l o a B C m a b w hL hm rfl a1 hb b1 m0 m1 (by omega) hc
    · rw [if_neg hc]
      exact trans_flt L S n c g l o A B C m 2 b w hL hm hb b1 m0 m1 ho (by rw [if_neg (by omega)]) hc
  · rw [if_neg h, if_neg h]
    unfold stX stM
    have e : wd L A.toNat = wd L a := by rw [ha, Int.toNat_natCast]
    rw [e]
    by_cases hc : rsC n l L (opVa L B m) (opSz o) 3 = 0
    · rw [if_pos hc, if_pos hc]
      exact trans_st L S n c g l o A B C m a b w hL hm ha a1 hb b1 m0 m1 (by omega) hc
    · rw [if_neg hc, if_neg hc]
      exact trans_flt L S n c g l o A B C m 3 b w hL hm hb b1 m0 m1 ho (by rw [if_pos (by omega)]) hc
theorem set16_adv {L : List Int} (hL : L.length = 25) {a : Nat} (a1 : a < 16) (v x : Int) : (setL (advL L) a v).set 16 x = (setL L a v).set 16 x := by
  rw [← adv_setL hL a1]
  unfold advL
  rw [List.set_set]
theorem jump_all (L : List Int) (o A B c m : Int) (a b : Nat) (w : World) (hL : C25 L) (ha : A = a) (a1 : a < 16) (hb : B = b) (b1 : b < 16) (m0 : -32768 ≤ m) (m1 : m ≤ 65535) (ho : (40 ≤ o ∧ o ≤ 45) ∨ o = 48 ∨ o = 49) :
    Calls Tryd.prog 59 #[cpV L, instV o A B c m] w fun e w' => e = .returned (cpV (stepL L o A B c m)) ∧ Below w.heap.size w w' := by
  unfold stepL
  rw [if_neg (show ¬ o = 24 by omega)]
  by_cases hbr : 40 ≤ o ∧ o ≤ 45
  · rw [if_pos hbr, ha, hb, Int.toNat_natCast, Int.toNat_natCast]
    rw [ha, hb] at *
    exact jump_br L o a b c m a b w hL rfl a1 rfl b1 m0 m1 hbr
  rw [if_neg hbr]
  by_cases h48 : o = 48
  · rw [if_pos h48, ha, set16_adv hL.1 a1, h48]
    exact jump_jal L a B c m a w hL rfl a1 m0 m1
  · have h49 : o = 49 := by omega
    rw [if_neg h48, if_pos h49, ha, set16_adv hL.1 a1, h49, hb, Int.toNat_natCast]
    exact jump_jalr L a b c m a b w hL rfl a1 rfl b1 m0 m1
theorem adv_wrL {L : List Int} (hL : L.length = 25) (m v : Int) : advL (wrL L m v) = wrL (advL L) m v := by
  unfold advL wrL
  by_cases h : 0 ≤ m ∧ m < 8
  · rw [if_pos h, if_pos h]
    have e : wd (L.set (17 + m.toNat) (wrK m v)) 16 = wd L 16 := by
      rw [wd_set L (17 + m.toNat) 16 _ (by omega), if_neg (by omega)]
    rw [e, List.set_comm _ _ (by omega)]
  · rw [if_neg h, if_neg h]
theorem system_all (L : List Int) (o A b c m : Int) (a : Nat) (w : World) (hL : C25 L) (ha : A = a) (a1 : a < 16) (m0 : -32768 ≤ m) (m1 : m ≤ 65535) (hm : o = 58 ∨ o = 59 → 0 ≤ m ∧ m < 8) (ho : 56 ≤ o ∧ o ≤ 64) :
    Calls Tryd.prog 58 #[cpV L, instV o A b c m] w (SyPost (stepL L o A b c m) (efK o) (efP o m) (efR o A) (efU L o A) w) := by
  subst ha
  have ho' : o = 56 ∨ o = 57 ∨ o = 58 ∨ o = 59 ∨ o = 60 ∨ o = 61 ∨ o = 62 ∨ o = 63 ∨ o = 64 := by omega
  rcases ho' with rfl | rfl | rfl | rfl | rfl | rfl | rfl | rfl | rfl
  · exact sys_ecall L a b c m w hL
  · exact sys_eret L a b c m w hL
  · have h := hm (.inl rfl)
    have h2 := sys_csrr L b c m a m.toNat w hL a1 (by omega) (by omega)
    rw [adv_setL hL.1 a1] at h2
    exact h2
  · have h2 := sys_csrw L b c m a w hL a1 m0 m1
    rw [adv_wrL hL.1] at h2
    exact h2
  · exact sys_in L a b c m w hL m0 m1
  · exact sys_out L b c m a w hL a1 m0 m1
  · exact sys_wfi L a b c m w hL
  · exact sys_flush L a b c m w hL
  · exact sys_halt L a b c m w hL
theorem ef_zero {o m A : Int} {L : List Int} (h : o < 60) : efV (efK o) (efP o m) (efR o A) (efU L o A) = efV 0 0 0 0 := by
  unfold efK efP efR efU
  rw [if_neg (by omega), if_neg (by omega), if_neg (by omega), if_neg (by omega), if_neg (by omega), if_neg (by omega), if_neg (by omega), if_neg (by omega)]
/-- The numbers of the operations that a valid word holds. -/
theorem kinds_of {x : Int} (h : dOk x) : (1 ≤ dOp x ∧ dOp x ≤ 13) ∨ (16 ≤ dOp x ∧ dOp x ≤ 24) ∨ (32 ≤ dOp x ∧ dOp x ≤ 36) ∨ (40 ≤ dOp x ∧ dOp x ≤ 45) ∨ dOp x = 48 ∨ dOp x = 49 ∨ (56 ≤ dOp x ∧ dOp x ≤ 64) := by
  unfold dOk at h
  generalize dOp x = o at *
  obtain ⟨h0, -⟩ := h
  rcases kind o with k | k | k | k | k | k | k | k | k | k | k <;> obtain ⟨k1, k2, k3, k4, k5⟩ := k <;> omega
/-- Do, whole. -/
theorem do_any (L : List Int) (A : Option Addr) (n c g : Nat) (l : List Int) (w : World) (hL : C25 L) (hm : Out w A n c l g) :
    Calls Tryd.prog 30 #[cpV L, .slice A n c] w (DoPost A n c g (exL n l L) (exM n l L) (exE n l L) w) := by
  have hX := ftW_bd (n := n) (l := l) (L := L) (ftL_u32 hm.1.2.2.2.1 L)
  unfold exL exM exE exB
  by_cases h0 : ftC n l L = 0
  · rw [if_neg (show ¬ ¬ ftC n l L = 0 from fun h => h h0)]
    by_cases hd : dOk (ftW n l L)
    · rw [if_neg (show ¬ ¬ dOk (ftW n l L) from fun h => h hd)]
      obtain ⟨⟨a, ha, a1⟩, ⟨b, hb, b1⟩, ⟨c', hc, c1⟩, m0, m1, hm8, hm24, o0, o1, hal⟩ := dOk_facts hd hX.1 hX.2
      have hkd := kinds_of hd
      by_cases hp : prvB (dOp (ftW n l L)) = true
      · have hp' := of_decide_eq_true hp
        cases hk : kerB L with
        | false =>
          rw [if_pos ⟨hp, rfl⟩, decide_eq_false (fun h => by have := h.2.2 hp; simp at this), if_neg (by decide), if_neg (by decide)]
          exact do_prv L A n c g l w hL hm h0 hd hp hk
        | true =>
          rw [if_neg (fun h => by have := h.2; simp at this), if_neg (by omega), if_neg (by omega), decide_eq_true ⟨h0, hd, fun _ => rfl⟩, if_pos rfl, if_pos rfl, if_neg (by omega), if_neg (by omega)]
          exact do_sys L A n c g l w hL hm h0 hd (by omega) o1 (fun _ => hk) _ _ _ _ _ (stepL_len hL.1 _ _ _ _ _) (fun W => system_all L _ _ _ _ _ a W hL ha a1 m0 m1 hm8 (by omega))
      · have hp' : ¬ (57 ≤ dOp (ftW n l L) ∧ dOp (ftW n l L) ≤ 64) := fun h => hp (decide_eq_true h)
        rw [if_neg (fun h => hp h.1), decide_eq_true ⟨h0, hd, fun h => absurd h hp⟩, if_pos rfl, if_pos rfl]
        by_cases h56 : 56 ≤ dOp (ftW n l L)
        · rw [if_neg (by omega), if_neg (by omega), if_neg (by omega), if_neg (by omega)]
          exact do_sys L A n c g l w hL hm h0 hd h56 o1 (fun h => absurd h hp) _ _ _ _ _ (stepL_len hL.1 _ _ _ _ _) (fun W => system_all L _ _ _ _ _ a W hL ha a1 m0 m1 hm8 (by omega))
        rw [ef_zero (by omega)]
        by_cases h40 : 40 ≤ dOp (ftW n l L)
        · rw [if_neg (by omega), if_neg (by omega), if_neg (by omega), if_neg (by omega)]
          exact do_jmp L A n c g l w hL hm h0 hd h40 (by omega) _ (stepL_len hL.1 _ _ _ _ _) (fun W => jump_all L _ _ _ _ _ a b W hL ha a1 hb b1 m0 m1 (by omega))
        by_cases h32 : 32 ≤ dOp (ftW n l L)
        · have hT := do_tr L A n c g l w hL hm h0 hd h32 (by omega) _ _ (by split; exact ldX_len hL.1; exact stX_len hL.1) (fun W hM => transfer_all L A n c g (ftL n l L) _ _ _ _ _ a b W hL hM ha a1 hb b1 m0 m1 (by omega))
          by_cases hl : dOp (ftW n l L) ≤ 34
          · rw [if_pos hl, if_pos hl] at hT
            rw [if_pos ⟨h32, hl⟩, if_pos ⟨h32, hl⟩]
            exact hT
          · rw [if_neg hl, if_neg hl] at hT
            have n1 : ¬ (32 ≤ dOp (ftW n l L) ∧ dOp (ftW n l L) ≤ 34) := fun h => hl h.2
            have p2 : 35 ≤ dOp (ftW n l L) ∧ dOp (ftW n l L) ≤ 36 := by omega
            rw [if_neg n1, if_neg n1, if_pos p2, if_pos p2]
            exact hT
        rw [if_neg (by omega), if_neg (by omega), if_neg (by omega), if_neg (by omega)]
        unfold stepL
        by_cases h24 : dOp (ftW n l L) = 24
        · have hz := do_lui L A n c g l a b c' w hL hm h0 hd ha a1 hb b1 hc c1 m0 m1 h24 (hm24 h24)
          rw [adv_setL hL.1 a1, ← ha] at hz
          rw [if_pos h24]
          exact hz
        · have hz := do_alu L A n c g l a b c' w hL hm h0 hd ha a1 hb b1 hc c1 m0 m1 (by omega) h24
          rw [adv_setL hL.1 a1, ← ha] at hz
          rw [if_neg h24, if_neg (by omega), if_neg (by omega), if_neg (by omega), if_neg (by omega), if_neg (by omega), if_neg (by omega), if_neg (by omega), if_pos (hal (by omega) h24), hb, hc, Int.toNat_natCast, Int.toNat_natCast]
          exact hz
    · rw [if_pos hd, decide_eq_false (fun h => hd h.2.1), if_neg (by decide), if_neg (by decide)]
      exact do_ill L A n c g l w hL hm h0 hd
  · rw [if_pos h0, decide_eq_false (fun h => h0 h.1), if_neg (by decide), if_neg (by decide)]
    exact do_flt L A n c g l w hL hm h0
end Go.Proofs.YtfnfbdjbdbifaaaDoor

namespace Go.Proofs.YtfnfbdjbdbifaaaDoor
set_option linter.unusedVariables false
set_option linter.unusedSimpArgs false
set_option maxRecDepth 20000
open Go.ChangeShapes Go.WideShapes Go.ChangeAt Go.RowKit Go.Proofs.YtfnfbdjbdbifaaaDoor.Num Go.Proofs.YtfnfbdjbdbifaaaDoor.Mem Go.Proofs.YtfnfbdjbdbifaaaDoor.Isa
/- The reference's Exec, whole. -/
theorem exM_len {n : Nat} {l L : List Int} : (exM n l L).length = l.length := by
  have h1 : (ftL n l L).length = l.length := rsL_len _ _ _ _ _ _
  unfold exM ldM stM
  repeat' split
  all_goals (try simp only [stV_len, rsL_len])
  all_goals exact h1
theorem exL_len {n : Nat} {l L : List Int} (hL : L.length = 25) : (exL n l L).length = 25 := by
  unfold exL
  repeat' split
  · unfold trapL; simpa using hL
  · unfold trapL; simpa using hL
  · unfold trapL; simpa using hL
  · exact ldX_len hL
  · exact stX_len hL
  · exact stepL_len hL _ _ _ _ _
theorem exE_is (n : Nat) (l L : List Int) : ∃ K P R V, exE n l L = efV K P R V := by
  unfold exE; split
  · exact ⟨_, _, _, _, rfl⟩
  · exact ⟨_, _, _, _, rfl⟩
set_option maxHeartbeats 1000000 in
theorem exec_ref (L : List Int) (S : Option Addr) (n c : Nat) (l : List Int) (w : World) (hL : C25 L) (hm : Mem w S n c l) :
    Calls Tryd.prog 9 #[cpV L, .slice S n c] w fun e w' => (∃ A c', e = .returned (.tuple #[cpV (exL n l L), .slice A n c', exE n l L]) ∧ Mem w' A n c' (exM n l L)) ∧ Below w.heap.size w w' := by
  have hLL := hL.1
  have HC := Lib.hid (fun W (hM : Mem W S n c l) => copy_any S n c l W hM)
  have HD := Lib.hid (fun A c g W (hM : Out W A n c l g) => do_any L A n c g l W hL hM)
  obtain ⟨eK, eP, eR, eV, hE⟩ := exE_is n l L
  have hRL := exL_len (n := n) (l := l) hLL
  rw [hE] at HD ⊢
  generalize exL n l L = R at *
  generalize exM n l L = l' at *
  clear hE
  unfold DoPost efV at HD
  have HM := Lib.hid hm
  clear hm
  obtain ⟨F1, F2, F3, -⟩ := cw_facts
  go_enter Tryd.func9, Tryd.ntmps9
  go_wp2_with (first
    | (refine wpList_box_box rfl _ rfl rfl ?_; simp only [Act.put, List.setIfInBounds_toArray, List.set_cons_zero, List.set_cons_succ])
    | (refine wpList_alloc_box rfl rfl ?_; simp only [Act.put, List.setIfInBounds_toArray, List.set_cons_zero, List.set_cons_succ]))
  try simp only [World.size_alloc]
  generalize hW : World.alloc (World.alloc (World.alloc w _) _) _ = W
  have X2 : lk W w.heap.size = some (.cells (cw L).toArray 32 (0, 0)) := by rw [← hW]; simp [look_alloc, look_setRow, look_drew, look_drewN, look_setCell, Nat.add_assoc] <;> omega
  have X4 : lk W (w.heap.size + 1) = some (.cells (cw Z25).toArray 32 (0, 0)) := by rw [← hW]; simp [look_alloc, look_setRow, look_drew, look_drewN, look_setCell, Nat.add_assoc]
  have X6 : lk W (w.heap.size + 1 + 1) = some (.cells #[.int .i64 0, .int .i64 0, .int .i64 0, .int .u32 0] 37 (0, 0)) := by rw [← hW]; simp [look_alloc, look_setRow, look_drew, look_drewN, look_setCell, Nat.add_assoc]
  have bel : Below w.heap.size w W := by rw [← hW]; (repeat' (first | with_reducible exact Below.refl _ _ | with_reducible assumption | with_reducible apply below_drewN | with_reducible apply Below.drew | with_reducible apply Below.setCell | with_reducible apply Below.alloc | (simp; done) | omega | (simp; omega)))
  have hsz : w.heap.size + 2 < W.heap.size := by rw [← hW]; simp
  clear hW
  refine (HC.out _ (HM.out.on bel)).mono ?_
  rintro e w1 ⟨⟨A1, c1, rfl, hm1, ho1⟩, hb1⟩
  have hg : ∃ g, Out w1 A1 n c1 l g ∧ (0 < n → W.heap.size ≤ g) := by
    by_cases hn : 0 < n
    · obtain ⟨g, hA, hg, ho⟩ := ho1 hn
      exact ⟨g, ⟨hm1, fun _ => ⟨hA, ho⟩⟩, fun _ => hg⟩
    · exact ⟨0, ⟨hm1, fun h => absurd h hn⟩, fun h => absurd h hn⟩
  obtain ⟨g, ho, hgW⟩ := hg
  have hA1 : ∀ b off, A1 = some ⟨b, off, none⟩ → 0 < n → w.heap.size + 2 < b := fun b off hA hn => by
    have h := (ho.2 hn).1
    rw [hA] at h; injection h with h; injection h with h _
    have := hgW hn; omega
  replace X2 := look_on X2 hb1 (by omega)
  replace X4 := look_on X4 hb1 (by omega)
  replace X6 := look_on X6 hb1 (by omega)
  replace bel := below_step bel hb1
  have hs1 : w.heap.size + 2 < w1.heap.size := Nat.lt_of_lt_of_le hsz hb1.size
  clear hb1 ho1 hm1 HC
  go_wp2_with (first
    | (refine wpList_load_look rfl _ rfl _ rfl (fun ob hob => ?_); rw [X2] at hob; subst hob; refine ⟨_, rfl, hLL, ?_⟩; simp only [Act.put, List.setIfInBounds_toArray, List.set_cons_zero, List.set_cons_succ]))
  refine (HD.out _ _ _ _ ho).mono ?_
  rintro e w2 ⟨rfl, ho2, hk2⟩
  have Y4 := look_kp X4 hk2 (by omega)
  have Y6 := look_kp X6 hk2 (by omega)
  have hs2 : w.heap.size + 2 < w2.heap.size := Nat.lt_of_lt_of_le hs1 hk2.size
  have HB2 : Below w.heap.size w w2 := bel.trans (hk2.below bel.size (fun h => by have := hgW h; omega))
  have HM2 := ho2.1
  clear ho2 hk2 X2 X4 X6 bel hsz ho HD
  go_wp2_with (first
    | (refine wpList_alloc_box rfl rfl ?_; simp only [Act.put, List.setIfInBounds_toArray, List.set_cons_zero, List.set_cons_succ])
    | (refine wpList_store_look rfl _ _ rfl _ rfl rfl hRL (fun ob hob => by (simp [look_alloc, look_setRow, look_drew, look_drewN, look_setCell, Nat.add_assoc] at hob; subst hob; exact ⟨_, rfl, Z25_len⟩)) (fun w4 hw4 => ?_); simp [row_alloc_same, row_alloc_old] at hw4; subst hw4; simp only [Act.put, List.setIfInBounds_toArray, List.set_cons_zero, List.set_cons_succ]))
  generalize hW : World.alloc (World.alloc w2 _) _ = W3
  have Z8 : lk W3.drew w2.heap.size = some (.cells (cw R).toArray 32 (0, 0)) := by rw [← hW]; simp [look_alloc, look_setRow, look_drew, look_drewN, look_setCell, Nat.add_assoc] <;> omega
  have Z9 : lk W3.drew (w2.heap.size + 1) = some (.cells #[.int .i64 eK, .int .i64 eP, .int .i64 eR, .int .u32 eV] 37 (0, 0)) := by rw [← hW]; simp [look_alloc, look_setRow, look_drew, look_drewN, look_setCell, Nat.add_assoc]
  have Z4 : lk W3.drew (w.heap.size + 1) = some (.cells (cw Z25).toArray 32 (0, 0)) := by rw [← hW, look_drew, look_alloc, if_neg (by simp; omega), look_alloc, if_neg (by omega)]; exact Y4
  have Z6 : lk W3.drew (w.heap.size + 1 + 1) = some (.cells #[.int .i64 0, .int .i64 0, .int .i64 0, .int .u32 0] 37 (0, 0)) := by rw [← hW, look_drew, look_alloc, if_neg (by simp; omega), look_alloc, if_neg (by omega)]; exact Y6
  have bel : Below w.heap.size w W3.drew := by rw [← hW]; exact ((HB2.alloc HB2.size _).alloc (by have := HB2.size; simp; omega) _).drew
  have hm3 : Mem W3.drew A1 n c1 l' := by rw [← hW]; exact HM2.on (((Below.refl _ _).alloc (Nat.le_refl _) _).alloc (by simp) _).drew
  have q4 : ¬ w.heap.size + 1 = w2.heap.size := by omega
  have q49 : ¬ w.heap.size + 1 = w2.heap.size + 1 := by omega
  have q46 : ¬ w.heap.size + 1 = w.heap.size + 1 + 1 := by omega
  have q64 : ¬ w.heap.size + 1 + 1 = w.heap.size + 1 := by omega
  have q68 : ¬ w.heap.size + 1 + 1 = w2.heap.size := by omega
  have q69 : ¬ w.heap.size + 1 + 1 = w2.heap.size + 1 := by omega
  clear hW Y4 Y6
  obtain ⟨fs, hu⟩ := undCpu
  obtain ⟨fE, huE⟩ := undEff
  have hiR : (Tryd.prog.info? 32).map (·.size) = some (cw R).length := by rw [cw_len hRL]; exact infCpu
  have hiE : (Tryd.prog.info? 37).map (·.size) = some ([.int .i64 eK, .int .i64 eP, .int .i64 eR, .int .u32 eV] : List Value).length := infEff
  refine wp_region_held_drew (S := fun w' => lk w' w2.heap.size = some (.cells (cw R).toArray 32 (0, 0)) ∧ lk w' (w2.heap.size + 1) = some (.cells #[.int .i64 eK, .int .i64 eP, .int .i64 eR, .int .u32 eV] 37 (0, 0))) (by kernel_rfl) ⟨Z8, Z9⟩ (fun hHeld => ?_)
  (refine' wpAnyH_take (i := 0) (oi := _) (v := _) rfl (by kernel_rfl) (by kernel_rfl) (by kernel_rfl) (fun _ _ _ h => h) (yieldsIf_load_mid (by rfl) _ _ rfl _ 0 rfl (cw R) _ (fun w hw => range_lk hw.1) hu rfl hiR) (by assumption) ?_; (try simp only [List.getElem_toArray, List.getElem_cons_succ, List.getElem_cons_zero, Act.put, List.setIfInBounds_toArray, List.set_cons_zero, List.set_cons_succ]))
  (refine' wpAnyH_take (i := 2) (oi := _) (v := _) rfl (by kernel_rfl) (by kernel_rfl) (by kernel_rfl) (fun _ _ _ h => h) (yieldsIf_load_mid (by rfl) _ _ rfl _ 0 rfl [.int .i64 eK, .int .i64 eP, .int .i64 eR, .int .u32 eV] _ (fun w hw => range_lk hw.2) huE rfl hiE) (by assumption) ?_; (try simp only [List.getElem_toArray, List.getElem_cons_succ, List.getElem_cons_zero, Act.put, List.setIfInBounds_toArray, List.set_cons_zero, List.set_cons_succ]))
  (refine wpAnyH_take (i := 1) (oi := _) (v := ?_) rfl (by kernel_rfl) (by kernel_rfl) (by kernel_rfl) (fun _ _ _ h => h) (Or.inl ⟨by rfl, ?_⟩) (by assumption) ?_; rotate_left 1; focus (intro w hSw; go_simp; try with_reducible rfl); (try simp only [List.getElem_toArray, List.getElem_cons_succ, List.getElem_cons_zero, Act.put, List.setIfInBounds_toArray, List.set_cons_zero, List.set_cons_succ]))
  generalize W3.drew = W9 at *
  have V8 := lk_rowN (b := w.heap.size + 1) (cs := (cw R).toArray) Z8 q4
  have V9 := lk_rowN (b := w.heap.size + 1) (cs := (cw R).toArray) Z9 q49
  have V4 := lk_row (M := R) Z4
  have V6 : lk (W9.setRow (w.heap.size + 1) (cw R).toArray) (w.heap.size + 1 + 1) = _ := lk_rowN Z6 q46
  (refine wpAnyH_ready (rs := [3]) (by kernel_rfl) (by simp) ?_; refine AllReadyH.cons (o := _) rfl (fun K hK => ?_) AllReadyH.nil; rw [if_pos (by rfl)])
  refine wp_store_cpu _ _ rfl _ rfl rfl hRL Z4 Z25_len ?_
  (try dsimp only); refine hK.out _ _ (by exact ⟨V8, V9⟩) (fun hHeld => ?_); clear hK K; (try simp only [List.getElem_toArray, List.getElem_cons_succ, List.getElem_cons_zero, Act.put, List.setIfInBounds_toArray, List.set_cons_zero, List.set_cons_succ])
  have U6 : lk ((W9.setRow (w.heap.size + 1) (cw R).toArray).setRow (w.heap.size + 1 + 1) #[.int .i64 eK, .int .i64 eP, .int .i64 eR, .int .u32 eV]) (w.heap.size + 1 + 1) = some (.cells #[.int .i64 eK, .int .i64 eP, .int .i64 eR, .int .u32 eV] 37 (0, 0)) := by rw [look_setRow, if_pos rfl, V6]; rfl
  (refine wpAnyH_take (i := 4) (oi := _) (v := ?_) rfl (by kernel_rfl) (by kernel_rfl) (by kernel_rfl) (fun _ _ _ h => h) (Or.inl ⟨by rfl, ?_⟩) (by assumption) ?_; rotate_left 1; focus (intro w hSw; go_simp; try with_reducible rfl); (try simp only [List.getElem_toArray, List.getElem_cons_succ, List.getElem_cons_zero, Act.put, List.setIfInBounds_toArray, List.set_cons_zero, List.set_cons_succ]))
  (refine wpAnyH_ready (rs := [5]) (by kernel_rfl) (by simp) ?_; refine AllReadyH.cons (o := _) rfl (fun K hK => ?_) AllReadyH.nil; rw [if_pos (by rfl)])
  refine wp_store_row 37 _ _ rfl (w.heap.size + 1 + 1) #[.int .i64 eK, .int .i64 eP, .int .i64 eR, .int .u32 eV] rfl rfl _ _ V6 infEff rfl (by simp [Value.oneCell']) ?_
  (try dsimp only); refine hK.out _ _ (by exact ⟨lk_rowN V8 q68, lk_rowN V9 q69⟩) (fun hHeld => ?_); clear hK K; (try simp only [List.getElem_toArray, List.getElem_cons_succ, List.getElem_cons_zero, Act.put, List.setIfInBounds_toArray, List.set_cons_zero, List.set_cons_succ])
  refine wpAnyH_done (by kernel_rfl) ?_ _
  (try simp only [List.getElem_toArray, List.getElem_cons_succ, List.getElem_cons_zero, Act.put, List.setIfInBounds_toArray, List.set_cons_zero, List.set_cons_succ])
  go_wp2_with fail
  refine bodyPost_ret (v := .tuple #[cpV R, .slice A1 n c1, efV eK eP eR eV]) (results_exec (p := 4) (q := 5) (r := 6) rfl _ _ (w.heap.size + 1) (w.heap.size + 1 + 1) rfl rfl hRL (lk_rowN V4 q64) U6) rfl ⟨⟨A1, c1, rfl, ?_⟩, below_setRow (below_setRow bel _ (by omega) _) _ (by omega) _⟩
  exact Mem.setRow (Mem.setRow hm3 (fun b off hb hn => by have := hA1 b off hb hn; omega)) (fun b off hb hn => by have := hA1 b off hb hn; omega)
end Go.Proofs.YtfnfbdjbdbifaaaDoor
