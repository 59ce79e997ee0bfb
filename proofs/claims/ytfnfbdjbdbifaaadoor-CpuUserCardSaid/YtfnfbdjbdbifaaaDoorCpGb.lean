import Derived.Test.YtfnfbdjbdbifaaaDoorCpGa
import Derived.Test.YtfnfbdjbdbifaaaDoorCpFn3
import Derived.Test.YtfnfbdjbdbifaaaDoorCpEx2
namespace Go.Proofs.YtfnfbdjbdbifaaaDoor
set_option linter.unusedVariables false
set_option linter.unusedSimpArgs false
set_option maxRecDepth 20000
open Go.ChangeShapes Go.WideShapes Go.ChangeAt Go.RowKit Go.Proofs.YtfnfbdjbdbifaaaDoor.Num Go.Proofs.YtfnfbdjbdbifaaaDoor.Mem Go.Proofs.YtfnfbdjbdbifaaaDoor.Isa
/- The step of an instruction that does not access the memory: branches, jumps. -/
theorem range_on {w w' : World} {g B : Nat} {cs : List Value} (h : w.rangeAt g 0 cs) (hb : Below B w w') (hg : g < B) : w'.rangeAt g 0 cs := fun j v hv => (hb.cell (p := ⟨g, 0 + j, none⟩) hg).trans (h j v hv)
/-- An instruction as a value. -/
def instV (o a b c m : Int) : Value := .agg #[.int .i64 o, .int .i64 a, .int .i64 b, .int .i64 c, .int .i32 m]
section
variable {o : Oper} {a : Act} {w : World} {K : Act → World → Prop} {Q : Exit → Act → World → Prop}
theorem wp_alloc_cpu (ho : o.op = .alloc 32) (h : K (a.put o.dst (.pointer (some ⟨w.heap.size, 0, none⟩))) (w.alloc (.cells (cw Z25).toArray 32))) : o.wp Tryd.prog a w K Q := by
  unfold Oper.wp execOp
  rw [ho]
  have hz := zeroCpu w
  simp [Sem.run_bind, hz, newVar, newRow, cpV, Value.cells, go_sem]
  exact h
theorem wp_store_cpu (x y : Operand) (ho : o.op = .store 32 x y) (g : Nat) {L L0 : List Int} (hx : a.eval x = .pointer (some ⟨g, 0, none⟩)) (hy : a.eval y = .agg (cw L).toArray) (hL : L.length = 25) (hg : lk w g = some (.cells (cw L0).toArray 32 (0, 0))) (hL0 : L0.length = 25)
    (h : K (a.put o.dst undef) (w.setRow g (cw L).toArray)) : o.wp Tryd.prog a w K Q :=
  wp_store_row 32 x y ho g (cw L).toArray hx hy _ _ hg (by rw [List.size_toArray, cw_len hL]; exact infCpu) (by rw [List.size_toArray, List.size_toArray, cw_len hL, cw_len hL0]) (all_oneCell_toArray (cw_one L)) h
end
theorem lk_row {w : World} {g : Nat} {L M : List Int} {T : TypeId} (h : lk w g = some (.cells (cw L).toArray T (0, 0))) : lk (w.setRow g (cw M).toArray) g = some (.cells (cw M).toArray T (0, 0)) := by
  rw [look_setRow, if_pos rfl, h]; rfl
theorem lk_rowN {w : World} {b g : Nat} {o : Option Obj} {cs : Array Value} (h : lk w g = o) (hne : ¬ b = g) : lk (w.setRow b cs) g = o := by
  rw [look_setRow, if_neg hne, h]
set_option maxHeartbeats 4000000 in
theorem step_lui (L : List Int) (A b c m : Int) (a : Nat) (w : World) (hL : C25 L) (ha : A = a) (a1 : a < 16) (m0 : 0 ≤ m) (m1 : m ≤ 65535) :
    Calls Tryd.prog 27 #[cpV L, instV 24 A b c m] w fun e w' => e = .returned (cpV (setL (advL L) A (m * 65536 % 4294967296))) ∧ Below w.heap.size w w' := by
  subst ha
  have hLL := hL.1
  have HA := Lib.hid (fun W => advance_any L W hL)
  have HS := Lib.hid (fun v W => setReg_any (advL L) a v W hL.adv a1)
  rw [show m * 65536 % 4294967296 = m * 65536 by omega]
  have hRL := (hL.adv.setL a (v := m * 65536) (by omega) (by omega)).1
  unfold instV
  obtain ⟨F1, F2, F3, -⟩ := cw_facts
  go_enter Tryd.func27, Tryd.ntmps27
  go_wp2_with (first
    | (refine wpList_box_box rfl _ rfl rfl ?_; simp only [Act.put, List.setIfInBounds_toArray, List.set_cons_zero, List.set_cons_succ])
    | (refine wpList_alloc_box rfl rfl ?_; simp only [Act.put, List.setIfInBounds_toArray, List.set_cons_zero, List.set_cons_succ]))
  generalize hW : World.alloc (World.alloc (World.alloc w _) _) _ = W
  have X2 : lk W w.heap.size = some (.cells (cw L).toArray 32 (0, 0)) := by rw [← hW]; simp [look_alloc] <;> omega
  have X3 : lk W (w.heap.size + 1) = some (.cells #[.int .i64 24, .int .i64 a, .int .i64 b, .int .i64 c, .int .i32 m] 27 (0, 0)) := by rw [← hW]; simp [look_alloc]
  have X4 : lk W (w.heap.size + 2) = some (.cells (cw Z25).toArray 32 (0, 0)) := by rw [← hW]; simp [look_alloc]
  have HB : Below w.heap.size w W := by rw [← hW]; (repeat' (first | with_reducible exact Below.refl _ _ | with_reducible assumption | with_reducible apply below_drewN | with_reducible apply Below.drew | with_reducible apply Below.setCell | with_reducible apply Below.alloc | (simp; done) | omega | (simp; omega)))
  have hsz : w.heap.size + 2 < W.heap.size := by rw [← hW]; simp
  clear hW
  obtain ⟨fs, hu⟩ := undCpu
  have hi : (Tryd.prog.info? 32).map (·.size) = some (cw L).length := by rw [cw_len hLL]; exact infCpu
  have hrg : W.rangeAt w.heap.size 0 (cw L) := fun j u hu => by rw [Nat.zero_add]; exact (cell_lk X2 j).trans (by simpa using hu)
  have hcm : W.cell? ⟨w.heap.size + 1, 4, none⟩ = some (.int .i32 m) := cell_lk X3 4
  have bb : Below W.heap.size W W.drew := (Below.refl _ _).drew
  unfold cpV at HA
  refine wp_region_held_drew (S := fun w' => w'.rangeAt w.heap.size 0 (cw L) ∧ w'.cell? ⟨w.heap.size + 1, 4, none⟩ = some (.int .i32 m)) (by kernel_rfl) ⟨range_on hrg bb (by omega), cell_on hcm bb⟩ (fun hHeld => ?_)
  (refine' wpAnyH_take (i := 0) (oi := _) (v := _) rfl (by kernel_rfl) (by kernel_rfl) (by kernel_rfl) (fun _ _ _ h => h) (yieldsIf_load_mid (by rfl) _ _ rfl _ 0 rfl (cw L) _ (fun w hw => hw.1) hu rfl hi) (by assumption) ?_; (try simp only [List.getElem_toArray, List.getElem_cons_succ, List.getElem_cons_zero, Act.put, List.setIfInBounds_toArray, List.set_cons_zero, List.set_cons_succ]))
  (refine wpAnyH_take (i := 2) (oi := _) (v := ?_) rfl (by kernel_rfl) (by kernel_rfl) (by kernel_rfl) (fun _ _ _ h => h) (Or.inl ⟨by rfl, ?_⟩) (by assumption) ?_; rotate_left 1; focus (intro w hSw; go_simp; try with_reducible rfl); (try simp only [List.getElem_toArray, List.getElem_cons_succ, List.getElem_cons_zero, Act.put, List.setIfInBounds_toArray, List.set_cons_zero, List.set_cons_succ]))
  (refine wpAnyH_take (i := 3) (oi := _) (v := ?_) rfl (by kernel_rfl) (by kernel_rfl) (by kernel_rfl) (fun _ _ _ h => h) (Or.inl ⟨by rfl, ?_⟩) (by assumption) ?_; rotate_left 1; focus (rintro w ⟨-, hSw⟩; go_simp; try with_reducible rfl); (try simp only [List.getElem_toArray, List.getElem_cons_succ, List.getElem_cons_zero, Act.put, List.setIfInBounds_toArray, List.set_cons_zero, List.set_cons_succ]))
  (refine wpAnyH_take (i := 4) (oi := _) (v := ?_) rfl (by kernel_rfl) (by kernel_rfl) (by kernel_rfl) (fun _ _ _ h => h) (Or.inl ⟨by rfl, ?_⟩) (by assumption) ?_; rotate_left 1; focus (intro w hSw; go_simp; try with_reducible rfl); (try simp only [List.getElem_toArray, List.getElem_cons_succ, List.getElem_cons_zero, Act.put, List.setIfInBounds_toArray, List.set_cons_zero, List.set_cons_succ]))
  have hAL := hL.adv.1
  refine (fun (key : Hid ?T) => ?main) ?kp
  case main =>
    refine wpAnyH_ready (rs := [1, 5]) (by kernel_rfl) (by simp) ?_
    refine AllReadyH.cons (o := _) rfl (fun K hK => ?_) (AllReadyH.cons (o := _) rfl (fun K hK => ?_) AllReadyH.nil)
    · rw [if_pos (by rfl)]
      go_simp
      refine (HA.out _).mono ?_
      rintro e w1 ⟨rfl, hb1⟩
      replace bb := below_step bb hb1
      (try dsimp only)
      refine hK.out _ _ ?_ (fun hHeld => ?_)
      · exact ⟨range_on hrg bb (by omega), cell_on hcm bb⟩
      clear hK K hb1
      (try simp only [List.getElem_toArray, List.getElem_cons_succ, List.getElem_cons_zero, Act.put, List.setIfInBounds_toArray, List.set_cons_zero, List.set_cons_succ])
      refine wpAnyH_ready (rs := [5]) (by kernel_rfl) (by simp) ?_
      refine AllReadyH.cons (o := _) rfl (fun K hK => ?_) AllReadyH.nil
      rw [if_pos (by rfl)]
      refine wp_alloc_cpu rfl ?_
      have hsz1 := bb.size
      replace bb := bb.alloc hsz1 (.cells (cw Z25).toArray 32)
      (try dsimp only)
      refine hK.out _ _ ?_ (fun hHeld => ?_)
      · exact ⟨range_on hrg bb (by omega), cell_on hcm bb⟩
      clear hK K
      (try simp only [List.getElem_toArray, List.getElem_cons_succ, List.getElem_cons_zero, Act.put, List.setIfInBounds_toArray, List.set_cons_zero, List.set_cons_succ])
      have Y5 : lk (w1.alloc (.cells (cw Z25).toArray 32)) w1.heap.size = some (.cells (cw Z25).toArray 32 (0, 0)) := by rw [look_alloc, if_pos rfl]
      have hg5 := hsz1
      refine wpAnyH_ready (rs := [6]) (by kernel_rfl) (by simp) ?_
      refine AllReadyH.cons (o := _) rfl (fun K hK => ?_) AllReadyH.nil
      rw [if_pos (by rfl)]
      refine wp_store_cpu _ _ rfl _ rfl rfl hAL Y5 Z25_len ?_
      replace Y5 := lk_row (M := advL L) Y5
      replace bb := below_setRow bb _ hg5 (cw (advL L)).toArray
      (try dsimp only)
      refine hK.out _ _ ?_ (fun hHeld => ?_)
      · exact ⟨range_on hrg bb (by omega), cell_on hcm bb⟩
      clear hK K
      (try simp only [List.getElem_toArray, List.getElem_cons_succ, List.getElem_cons_zero, Act.put, List.setIfInBounds_toArray, List.set_cons_zero, List.set_cons_succ])
      (refine wpAnyH_take (i := 7) (oi := _) (v := ?_) rfl (by kernel_rfl) (by kernel_rfl) (by kernel_rfl) (fun _ _ _ h => h) (Or.inl ⟨by rfl, ?_⟩) (by assumption) ?_; rotate_left 1; focus (intro w hSw; go_simp; try with_reducible rfl); (try simp only [List.getElem_toArray, List.getElem_cons_succ, List.getElem_cons_zero, Act.put, List.setIfInBounds_toArray, List.set_cons_zero, List.set_cons_succ]))
      refine wpAnyH_done (by kernel_rfl) ?_ _
      (try simp only [List.getElem_toArray, List.getElem_cons_succ, List.getElem_cons_zero, Act.put, List.setIfInBounds_toArray, List.set_cons_zero, List.set_cons_succ])
      have F : lk _ w1.heap.size = _ ∧ W.heap.size ≤ w1.heap.size ∧ Below W.heap.size W _ := ⟨Y5, hg5, bb⟩
      generalize World.setRow (World.alloc w1 _) _ _ = W5 at F ⊢
      generalize w1.heap.size = g5 at F ⊢
      revert F; revert g5 W5
      exact key.out
    · rw [if_pos (by rfl)]
      refine wp_alloc_cpu rfl ?_
      have Y5 : lk (W.drew.alloc (.cells (cw Z25).toArray 32)) W.heap.size = some (.cells (cw Z25).toArray 32 (0, 0)) := by rw [look_alloc]; exact if_pos rfl
      have hg5 : W.heap.size ≤ W.heap.size := Nat.le_refl _
      replace bb := bb.alloc hg5 (.cells (cw Z25).toArray 32)
      have hs5 : W.heap.size < (W.drew.alloc (.cells (cw Z25).toArray 32)).heap.size := by simp
      (try dsimp only)
      refine hK.out _ _ ?_ (fun hHeld => ?_)
      · exact ⟨range_on hrg bb (by omega), cell_on hcm bb⟩
      clear hK K
      (try simp only [List.getElem_toArray, List.getElem_cons_succ, List.getElem_cons_zero, Act.put, List.setIfInBounds_toArray, List.set_cons_zero, List.set_cons_succ])
      refine wpAnyH_ready (rs := [1]) (by kernel_rfl) (by simp) ?_
      refine AllReadyH.cons (o := _) rfl (fun K hK => ?_) AllReadyH.nil
      rw [if_pos (by rfl)]
      go_simp
      refine (HA.out _).mono ?_
      rintro e w1 ⟨rfl, hb1⟩
      replace Y5 := look_on Y5 hb1 hs5
      replace bb := below_step bb hb1
      (try dsimp only)
      refine hK.out _ _ ?_ (fun hHeld => ?_)
      · exact ⟨range_on hrg bb (by omega), cell_on hcm bb⟩
      clear hK K hb1 hs5
      (try simp only [List.getElem_toArray, List.getElem_cons_succ, List.getElem_cons_zero, Act.put, List.setIfInBounds_toArray, List.set_cons_zero, List.set_cons_succ])
      refine wpAnyH_ready (rs := [6]) (by kernel_rfl) (by simp) ?_
      refine AllReadyH.cons (o := _) rfl (fun K hK => ?_) AllReadyH.nil
      rw [if_pos (by rfl)]
      refine wp_store_cpu _ _ rfl _ rfl rfl hAL Y5 Z25_len ?_
      replace Y5 := lk_row (M := advL L) Y5
      replace bb := below_setRow bb _ hg5 (cw (advL L)).toArray
      (try dsimp only)
      refine hK.out _ _ ?_ (fun hHeld => ?_)
      · exact ⟨range_on hrg bb (by omega), cell_on hcm bb⟩
      clear hK K
      (try simp only [List.getElem_toArray, List.getElem_cons_succ, List.getElem_cons_zero, Act.put, List.setIfInBounds_toArray, List.set_cons_zero, List.set_cons_succ])
      (refine wpAnyH_take (i := 7) (oi := _) (v := ?_) rfl (by kernel_rfl) (by kernel_rfl) (by kernel_rfl) (fun _ _ _ h => h) (Or.inl ⟨by rfl, ?_⟩) (by assumption) ?_; rotate_left 1; focus (intro w hSw; go_simp; try with_reducible rfl); (try simp only [List.getElem_toArray, List.getElem_cons_succ, List.getElem_cons_zero, Act.put, List.setIfInBounds_toArray, List.set_cons_zero, List.set_cons_succ]))
      refine wpAnyH_done (by kernel_rfl) ?_ _
      (try simp only [List.getElem_toArray, List.getElem_cons_succ, List.getElem_cons_zero, Act.put, List.setIfInBounds_toArray, List.set_cons_zero, List.set_cons_succ])
      have F : lk _ W.heap.size = _ ∧ W.heap.size ≤ W.heap.size ∧ Below W.heap.size W _ := ⟨Y5, hg5, bb⟩
      generalize World.setRow w1 _ _ = W5 at F ⊢
      generalize hgg : W.heap.size = g5
      have F' : lk W5 g5 = some (.cells (cw (advL L)).toArray 32 (0, 0)) ∧ W.heap.size ≤ g5 ∧ Below W.heap.size W W5 := ⟨by rw [← hgg]; exact F.1, by rw [← hgg]; exact Nat.le_refl _, F.2.2⟩
      clear hgg F
      revert F'; revert g5 W5
      exact key.out
  case kp =>
    show ∀ (W5 : World) (g5 : Nat), _
    intro W5 g5 ⟨Y5, hg5, bW⟩
    have Y2 := look_on X2 bW (by omega)
    have Y3 := look_on X3 bW (by omega)
    have Y4 := look_on X4 bW (by omega)
    have hW5 : g5 < W5.heap.size := by
      have := Y5
      unfold lk at this
      exact (Array.getElem?_eq_some_iff.1 this).1
    have HB5 : Below w.heap.size w W5 := below_step HB bW
    clear X2 X3 X4 bW hrg hcm bb HA hHeld
    have C2 : ∀ k : Nat, k < 25 → W5.cell? ⟨w.heap.size, k, none⟩ = some (.int .u32 (wd L k)) := fun k hk => (cell_lk Y2 k).trans (by simpa using cw_at hLL hk)
    have C5 : ∀ k : Nat, k < 25 → W5.cell? ⟨g5, k, none⟩ = some (.int .u32 (wd (advL L) k)) := fun k hk => (cell_lk Y5 k).trans (by simpa using cw_at hAL hk)
    have c0 : W5.cell? ⟨w.heap.size + 1, 0, none⟩ = _ := cell_lk Y3 0
    have c1 : W5.cell? ⟨w.heap.size + 1, 1, none⟩ = _ := cell_lk Y3 1
    have c2 : W5.cell? ⟨w.heap.size + 1, 2, none⟩ = _ := cell_lk Y3 2
    have c3 : W5.cell? ⟨w.heap.size + 1, 3, none⟩ = _ := cell_lk Y3 3
    have c4 : W5.cell? ⟨w.heap.size + 1, 4, none⟩ = _ := cell_lk Y3 4
    simp at c0 c1 c2 c3 c4
    repeat' (first
      | (with_reducible refine then_normal ?_) | (with_reducible refine wp_exit ?_) | (with_reducible refine wp_ret ?_) | (with_reducible refine then_exit ?_) | (with_reducible refine blk_hit ?_) | (with_reducible refine blk_pass (by decide) ?_) | (with_reducible refine then_ret ?_) | (with_reducible refine blk_ret ?_) | (with_reducible refine blk_normal ?_)
      | (refine wpList_load_look rfl _ rfl _ rfl (fun ob hob => ?_); (first | rw [Y5] at hob | rw [Y2] at hob); subst hob; refine ⟨_, rfl, by assumption, ?_⟩; simp only [Act.put, List.setIfInBounds_toArray, List.set_cons_zero, List.set_cons_succ])
      | go_values | go_skip | go_guarded | go_step | go_upon | (simp only [Int.not_lt, Int.not_le] at *; go_simp) | (go_values <;> (try go_simp)) | (go_ite <;> go_prune <;> (try go_simp)))
    refine (HS.out _ _).mono ?_
    rintro e w6 ⟨rfl, hb6⟩
    have Z4 := look_on Y4 hb6 (by omega)
    have HB6 := below_step HB5 hb6
    clear hb6
    generalize hR : setL (advL L) _ _ = R at *
    repeat' (first
      | (with_reducible refine then_normal ?_) | (with_reducible refine wp_exit ?_) | (with_reducible refine wp_ret ?_) | (with_reducible refine then_exit ?_) | (with_reducible refine blk_hit ?_) | (with_reducible refine blk_pass (by decide) ?_) | (with_reducible refine then_ret ?_) | (with_reducible refine blk_ret ?_) | (with_reducible refine blk_normal ?_)
      | (refine wpList_store_look rfl _ _ rfl _ rfl rfl hRL (fun ob hob => by (rw [Z4] at hob; subst hob; exact ⟨_, rfl, Z25_len⟩)) (fun w2 hw2 => ?_); subst hw2; simp only [Act.put, List.setIfInBounds_toArray, List.set_cons_zero, List.set_cons_succ])
      | go_values | go_skip | go_guarded | go_step | go_upon | (simp only [Int.not_lt, Int.not_le] at *; go_simp) | (go_values <;> (try go_simp)) | (go_ite <;> go_prune <;> (try go_simp)))
    exact bodyPost_ret (v := cpV R) (results_cpu rfl _ _ (w.heap.size + 2) rfl hRL (lk_row Z4)) rfl ⟨by rw [hR], below_setRow HB6 _ (by omega) _⟩
set_option maxHeartbeats 4000000 in
theorem step_jal (L : List Int) (A b c m : Int) (a : Nat) (w : World) (hL : C25 L) (ha : A = a) (a1 : a < 16) (m0 : -32768 ≤ m) (m1 : m ≤ 65535) :
    Calls Tryd.prog 27 #[cpV L, instV 48 A b c m] w fun e w' => e = .returned (cpV ((setL (advL L) A ((wd L 16 + 4) % 4294967296)).set 16 ((wd L 16 + 4 * m) % 4294967296))) ∧ Below w.heap.size w w' := by
  subst ha
  have hLL := hL.1
  have HA := Lib.hid (fun W => advance_any L W hL)
  have HS := Lib.hid (fun v W => setReg_any (advL L) a v W hL.adv a1)
  have eA : wd (advL L) 16 = (wd L 16 + 4) % 4294967296 := by unfold advL; rw [wdset hL (by omega), if_pos rfl]
  have hRL := (hL.adv.setL a (v := (wd L 16 + 4) % 4294967296) (by omega) (by omega)).1
  unfold instV
  obtain ⟨F1, F2, F3, -⟩ := cw_facts
  go_enter Tryd.func27, Tryd.ntmps27
  go_wp2_with (first
    | (refine wpList_box_box rfl _ rfl rfl ?_; simp only [Act.put, List.setIfInBounds_toArray, List.set_cons_zero, List.set_cons_succ])
    | (refine wpList_alloc_box rfl rfl ?_; simp only [Act.put, List.setIfInBounds_toArray, List.set_cons_zero, List.set_cons_succ]))
  generalize hW : World.alloc (World.alloc (World.alloc w _) _) _ = W
  have X2 : lk W w.heap.size = some (.cells (cw L).toArray 32 (0, 0)) := by rw [← hW]; simp [look_alloc] <;> omega
  have X3 : lk W (w.heap.size + 1) = some (.cells #[.int .i64 48, .int .i64 a, .int .i64 b, .int .i64 c, .int .i32 m] 27 (0, 0)) := by rw [← hW]; simp [look_alloc]
  have X4 : lk W (w.heap.size + 2) = some (.cells (cw Z25).toArray 32 (0, 0)) := by rw [← hW]; simp [look_alloc]
  have HB : Below w.heap.size w W := by rw [← hW]; (repeat' (first | with_reducible exact Below.refl _ _ | with_reducible assumption | with_reducible apply below_drewN | with_reducible apply Below.drew | with_reducible apply Below.setCell | with_reducible apply Below.alloc | (simp; done) | omega | (simp; omega)))
  have hsz : w.heap.size + 2 < W.heap.size := by rw [← hW]; simp
  clear hW
  obtain ⟨fs, hu⟩ := undCpu
  have hi : (Tryd.prog.info? 32).map (·.size) = some (cw L).length := by rw [cw_len hLL]; exact infCpu
  have hrg : W.rangeAt w.heap.size 0 (cw L) := fun j u hu => by rw [Nat.zero_add]; exact (cell_lk X2 j).trans (by simpa using hu)
  have hcm : W.cell? ⟨w.heap.size + 1, 4, none⟩ = some (.int .i32 m) := cell_lk X3 4
  have bb : Below W.heap.size W W.drew := (Below.refl _ _).drew
  unfold cpV at HA
  refine wp_region_held_drew (S := fun w' => w'.rangeAt w.heap.size 0 (cw L) ∧ w'.cell? ⟨w.heap.size + 1, 4, none⟩ = some (.int .i32 m)) (by kernel_rfl) ⟨range_on hrg bb (by omega), cell_on hcm bb⟩ (fun hHeld => ?_)
  (refine' wpAnyH_take (i := 0) (oi := _) (v := _) rfl (by kernel_rfl) (by kernel_rfl) (by kernel_rfl) (fun _ _ _ h => h) (yieldsIf_load_mid (by rfl) _ _ rfl _ 0 rfl (cw L) _ (fun w hw => hw.1) hu rfl hi) (by assumption) ?_; (try simp only [List.getElem_toArray, List.getElem_cons_succ, List.getElem_cons_zero, Act.put, List.setIfInBounds_toArray, List.set_cons_zero, List.set_cons_succ]))
  (refine wpAnyH_take (i := 2) (oi := _) (v := ?_) rfl (by kernel_rfl) (by kernel_rfl) (by kernel_rfl) (fun _ _ _ h => h) (Or.inl ⟨by rfl, ?_⟩) (by assumption) ?_; rotate_left 1; focus (intro w hSw; go_simp; try with_reducible rfl); (try simp only [List.getElem_toArray, List.getElem_cons_succ, List.getElem_cons_zero, Act.put, List.setIfInBounds_toArray, List.set_cons_zero, List.set_cons_succ]))
  (refine wpAnyH_take (i := 3) (oi := _) (v := ?_) rfl (by kernel_rfl) (by kernel_rfl) (by kernel_rfl) (fun _ _ _ h => h) (Or.inl ⟨by rfl, ?_⟩) (by assumption) ?_; rotate_left 1; focus (rintro w ⟨-, hSw⟩; go_simp; try with_reducible rfl); (try simp only [List.getElem_toArray, List.getElem_cons_succ, List.getElem_cons_zero, Act.put, List.setIfInBounds_toArray, List.set_cons_zero, List.set_cons_succ]))
  (refine wpAnyH_take (i := 4) (oi := _) (v := ?_) rfl (by kernel_rfl) (by kernel_rfl) (by kernel_rfl) (fun _ _ _ h => h) (Or.inl ⟨by rfl, ?_⟩) (by assumption) ?_; rotate_left 1; focus (intro w hSw; go_simp; try with_reducible rfl); (try simp only [List.getElem_toArray, List.getElem_cons_succ, List.getElem_cons_zero, Act.put, List.setIfInBounds_toArray, List.set_cons_zero, List.set_cons_succ]))
  have hAL := hL.adv.1
  refine (fun (key : Hid ?T) => ?main) ?kp
  case main =>
    refine wpAnyH_ready (rs := [1, 5]) (by kernel_rfl) (by simp) ?_
    refine AllReadyH.cons (o := _) rfl (fun K hK => ?_) (AllReadyH.cons (o := _) rfl (fun K hK => ?_) AllReadyH.nil)
    · rw [if_pos (by rfl)]
      go_simp
      refine (HA.out _).mono ?_
      rintro e w1 ⟨rfl, hb1⟩
      replace bb := below_step bb hb1
      (try dsimp only)
      refine hK.out _ _ ?_ (fun hHeld => ?_)
      · exact ⟨range_on hrg bb (by omega), cell_on hcm bb⟩
      clear hK K hb1
      (try simp only [List.getElem_toArray, List.getElem_cons_succ, List.getElem_cons_zero, Act.put, List.setIfInBounds_toArray, List.set_cons_zero, List.set_cons_succ])
      refine wpAnyH_ready (rs := [5]) (by kernel_rfl) (by simp) ?_
      refine AllReadyH.cons (o := _) rfl (fun K hK => ?_) AllReadyH.nil
      rw [if_pos (by rfl)]
      refine wp_alloc_cpu rfl ?_
      have hsz1 := bb.size
      replace bb := bb.alloc hsz1 (.cells (cw Z25).toArray 32)
      (try dsimp only)
      refine hK.out _ _ ?_ (fun hHeld => ?_)
      · exact ⟨range_on hrg bb (by omega), cell_on hcm bb⟩
      clear hK K
      (try simp only [List.getElem_toArray, List.getElem_cons_succ, List.getElem_cons_zero, Act.put, List.setIfInBounds_toArray, List.set_cons_zero, List.set_cons_succ])
      have Y5 : lk (w1.alloc (.cells (cw Z25).toArray 32)) w1.heap.size = some (.cells (cw Z25).toArray 32 (0, 0)) := by rw [look_alloc, if_pos rfl]
      have hg5 := hsz1
      refine wpAnyH_ready (rs := [6]) (by kernel_rfl) (by simp) ?_
      refine AllReadyH.cons (o := _) rfl (fun K hK => ?_) AllReadyH.nil
      rw [if_pos (by rfl)]
      refine wp_store_cpu _ _ rfl _ rfl rfl hAL Y5 Z25_len ?_
      replace Y5 := lk_row (M := advL L) Y5
      replace bb := below_setRow bb _ hg5 (cw (advL L)).toArray
      (try dsimp only)
      refine hK.out _ _ ?_ (fun hHeld => ?_)
      · exact ⟨range_on hrg bb (by omega), cell_on hcm bb⟩
      clear hK K
      (try simp only [List.getElem_toArray, List.getElem_cons_succ, List.getElem_cons_zero, Act.put, List.setIfInBounds_toArray, List.set_cons_zero, List.set_cons_succ])
      (refine wpAnyH_take (i := 7) (oi := _) (v := ?_) rfl (by kernel_rfl) (by kernel_rfl) (by kernel_rfl) (fun _ _ _ h => h) (Or.inl ⟨by rfl, ?_⟩) (by assumption) ?_; rotate_left 1; focus (intro w hSw; go_simp; try with_reducible rfl); (try simp only [List.getElem_toArray, List.getElem_cons_succ, List.getElem_cons_zero, Act.put, List.setIfInBounds_toArray, List.set_cons_zero, List.set_cons_succ]))
      refine wpAnyH_done (by kernel_rfl) ?_ _
      (try simp only [List.getElem_toArray, List.getElem_cons_succ, List.getElem_cons_zero, Act.put, List.setIfInBounds_toArray, List.set_cons_zero, List.set_cons_succ])
      have F : lk _ w1.heap.size = _ ∧ W.heap.size ≤ w1.heap.size ∧ Below W.heap.size W _ := ⟨Y5, hg5, bb⟩
      generalize World.setRow (World.alloc w1 _) _ _ = W5 at F ⊢
      generalize w1.heap.size = g5 at F ⊢
      revert F; revert g5 W5
      exact key.out
    · rw [if_pos (by rfl)]
      refine wp_alloc_cpu rfl ?_
      have Y5 : lk (W.drew.alloc (.cells (cw Z25).toArray 32)) W.heap.size = some (.cells (cw Z25).toArray 32 (0, 0)) := by rw [look_alloc]; exact if_pos rfl
      have hg5 : W.heap.size ≤ W.heap.size := Nat.le_refl _
      replace bb := bb.alloc hg5 (.cells (cw Z25).toArray 32)
      have hs5 : W.heap.size < (W.drew.alloc (.cells (cw Z25).toArray 32)).heap.size := by simp
      (try dsimp only)
      refine hK.out _ _ ?_ (fun hHeld => ?_)
      · exact ⟨range_on hrg bb (by omega), cell_on hcm bb⟩
      clear hK K
      (try simp only [List.getElem_toArray, List.getElem_cons_succ, List.getElem_cons_zero, Act.put, List.setIfInBounds_toArray, List.set_cons_zero, List.set_cons_succ])
      refine wpAnyH_ready (rs := [1]) (by kernel_rfl) (by simp) ?_
      refine AllReadyH.cons (o := _) rfl (fun K hK => ?_) AllReadyH.nil
      rw [if_pos (by rfl)]
      go_simp
      refine (HA.out _).mono ?_
      rintro e w1 ⟨rfl, hb1⟩
      replace Y5 := look_on Y5 hb1 hs5
      replace bb := below_step bb hb1
      (try dsimp only)
      refine hK.out _ _ ?_ (fun hHeld => ?_)
      · exact ⟨range_on hrg bb (by omega), cell_on hcm bb⟩
      clear hK K hb1 hs5
      (try simp only [List.getElem_toArray, List.getElem_cons_succ, List.getElem_cons_zero, Act.put, List.setIfInBounds_toArray, List.set_cons_zero, List.set_cons_succ])
      refine wpAnyH_ready (rs := [6]) (by kernel_rfl) (by simp) ?_
      refine AllReadyH.cons (o := _) rfl (fun K hK => ?_) AllReadyH.nil
      rw [if_pos (by rfl)]
      refine wp_store_cpu _ _ rfl _ rfl rfl hAL Y5 Z25_len ?_
      replace Y5 := lk_row (M := advL L) Y5
      replace bb := below_setRow bb _ hg5 (cw (advL L)).toArray
      (try dsimp only)
      refine hK.out _ _ ?_ (fun hHeld => ?_)
      · exact ⟨range_on hrg bb (by omega), cell_on hcm bb⟩
      clear hK K
      (try simp only [List.getElem_toArray, List.getElem_cons_succ, List.getElem_cons_zero, Act.put, List.setIfInBounds_toArray, List.set_cons_zero, List.set_cons_succ])
      (refine wpAnyH_take (i := 7) (oi := _) (v := ?_) rfl (by kernel_rfl) (by kernel_rfl) (by kernel_rfl) (fun _ _ _ h => h) (Or.inl ⟨by rfl, ?_⟩) (by assumption) ?_; rotate_left 1; focus (intro w hSw; go_simp; try with_reducible rfl); (try simp only [List.getElem_toArray, List.getElem_cons_succ, List.getElem_cons_zero, Act.put, List.setIfInBounds_toArray, List.set_cons_zero, List.set_cons_succ]))
      refine wpAnyH_done (by kernel_rfl) ?_ _
      (try simp only [List.getElem_toArray, List.getElem_cons_succ, List.getElem_cons_zero, Act.put, List.setIfInBounds_toArray, List.set_cons_zero, List.set_cons_succ])
      have F : lk _ W.heap.size = _ ∧ W.heap.size ≤ W.heap.size ∧ Below W.heap.size W _ := ⟨Y5, hg5, bb⟩
      generalize World.setRow w1 _ _ = W5 at F ⊢
      generalize hgg : W.heap.size = g5
      have F' : lk W5 g5 = some (.cells (cw (advL L)).toArray 32 (0, 0)) ∧ W.heap.size ≤ g5 ∧ Below W.heap.size W W5 := ⟨by rw [← hgg]; exact F.1, by rw [← hgg]; exact Nat.le_refl _, F.2.2⟩
      clear hgg F
      revert F'; revert g5 W5
      exact key.out
  case kp =>
    show ∀ (W5 : World) (g5 : Nat), _
    intro W5 g5 ⟨Y5, hg5, bW⟩
    have Y2 := look_on X2 bW (by omega)
    have Y3 := look_on X3 bW (by omega)
    have Y4 := look_on X4 bW (by omega)
    have hW5 : g5 < W5.heap.size := by
      have := Y5
      unfold lk at this
      exact (Array.getElem?_eq_some_iff.1 this).1
    have HB5 : Below w.heap.size w W5 := below_step HB bW
    clear X2 X3 X4 bW hrg hcm bb HA hHeld
    have C2 : ∀ k : Nat, k < 25 → W5.cell? ⟨w.heap.size, k, none⟩ = some (.int .u32 (wd L k)) := fun k hk => (cell_lk Y2 k).trans (by simpa using cw_at hLL hk)
    have C5 : ∀ k : Nat, k < 25 → W5.cell? ⟨g5, k, none⟩ = some (.int .u32 (wd (advL L) k)) := fun k hk => (cell_lk Y5 k).trans (by simpa using cw_at hAL hk)
    have c0 : W5.cell? ⟨w.heap.size + 1, 0, none⟩ = _ := cell_lk Y3 0
    have c1 : W5.cell? ⟨w.heap.size + 1, 1, none⟩ = _ := cell_lk Y3 1
    have c2 : W5.cell? ⟨w.heap.size + 1, 2, none⟩ = _ := cell_lk Y3 2
    have c3 : W5.cell? ⟨w.heap.size + 1, 3, none⟩ = _ := cell_lk Y3 3
    have c4 : W5.cell? ⟨w.heap.size + 1, 4, none⟩ = _ := cell_lk Y3 4
    simp at c0 c1 c2 c3 c4
    repeat' (first
      | (with_reducible refine then_normal ?_) | (with_reducible refine wp_exit ?_) | (with_reducible refine wp_ret ?_) | (with_reducible refine then_exit ?_) | (with_reducible refine blk_hit ?_) | (with_reducible refine blk_pass (by decide) ?_) | (with_reducible refine then_ret ?_) | (with_reducible refine blk_ret ?_) | (with_reducible refine blk_normal ?_)
      | (refine wpList_load_look rfl _ rfl _ rfl (fun ob hob => ?_); (first | rw [Y5] at hob | rw [Y2] at hob); subst hob; refine ⟨_, rfl, by assumption, ?_⟩; simp only [Act.put, List.setIfInBounds_toArray, List.set_cons_zero, List.set_cons_succ])
      | go_values | go_skip | go_guarded | go_step | go_upon | (simp only [Int.not_lt, Int.not_le] at *; go_simp) | (go_values <;> (try go_simp)) | (go_ite <;> go_prune <;> (try go_simp)))
    refine (HS.out _ _).mono ?_
    rintro e w6 ⟨rfl, hb6⟩
    have Z4 := look_on Y4 hb6 (by omega)
    have Z5 := look_on Y5 hb6 hW5
    have HB6 := below_step HB5 hb6
    clear hb6
    generalize hR : setL (advL L) _ _ = R at *
    generalize hT : (wd L 16 + 4 * (m % 4294967296) % 4294967296) % 4294967296 = T at *
    have V5 := lk_row (M := R) Z5
    have V4 : lk (w6.setRow g5 (cw R).toArray) (w.heap.size + 2) = _ := lk_rowN Z4 (by omega)
    have d5 : (w6.setRow g5 (cw R).toArray).cell? ⟨g5, 16, none⟩ = some (.int .u32 (wd R 16)) := (cell_lk V5 16).trans (by simpa using cw_at hRL (show 16 < 25 by omega))
    have f5 : (w6.setRow g5 (cw R).toArray).frozen? ⟨g5, 16, none⟩ = false := frozen_lk V5 16
    have U5 := lk_set V5 16 T
    have U4 := lk_setN (k := 16) (v := .int .u32 T) V4 (show ¬ g5 = w.heap.size + 2 by omega)
    have hRT : (R.set 16 T).length = 25 := by rw [List.length_set]; exact hRL
    have HB7 : Below w.heap.size w ((w6.setRow g5 (cw R).toArray).setCell ⟨g5, 16, none⟩ (.int .u32 T)) := (below_setRow HB6 _ (by omega) _).setCell (by simpa using (show w.heap.size ≤ g5 by omega)) _
    repeat' (first
      | (with_reducible refine then_normal ?_) | (with_reducible refine wp_exit ?_) | (with_reducible refine wp_ret ?_) | (with_reducible refine then_exit ?_) | (with_reducible refine blk_hit ?_) | (with_reducible refine blk_pass (by decide) ?_) | (with_reducible refine then_ret ?_) | (with_reducible refine blk_ret ?_) | (with_reducible refine blk_normal ?_)
      | (refine wpList_store_look rfl _ _ rfl _ rfl rfl hRL (fun ob hob => by (rw [Z5] at hob; subst hob; exact ⟨_, rfl, hAL⟩)) (fun w2 hw2 => ?_); subst hw2; simp only [Act.put, List.setIfInBounds_toArray, List.set_cons_zero, List.set_cons_succ])
      | (refine wpList_load_look rfl _ rfl _ rfl (fun ob hob => ?_); rw [U5] at hob; subst hob; refine ⟨_, rfl, hRT, ?_⟩; simp only [Act.put, List.setIfInBounds_toArray, List.set_cons_zero, List.set_cons_succ])
      | (refine wpList_store_look rfl _ _ rfl _ rfl rfl hRT (fun ob hob => by (rw [U4] at hob; subst hob; exact ⟨_, rfl, Z25_len⟩)) (fun w2 hw2 => ?_); subst hw2; simp only [Act.put, List.setIfInBounds_toArray, List.set_cons_zero, List.set_cons_succ])
      | go_values | go_skip | go_guarded | go_step | go_upon | (simp only [Int.not_lt, Int.not_le] at *; go_simp) | (go_values <;> (try go_simp)) | (go_ite <;> go_prune <;> (try go_simp)))
    exact bodyPost_ret (v := cpV (R.set 16 T)) (results_cpu rfl _ _ (w.heap.size + 2) rfl hRT (lk_row U4)) rfl ⟨by rw [← hT, ← hR]; rw [show (wd L 16 + 4 * (m % 4294967296) % 4294967296) % 4294967296 = (wd L 16 + 4 * m) % 4294967296 by omega], below_setRow HB7 _ (by omega) _⟩
set_option maxHeartbeats 4000000 in
theorem step_jalr (L : List Int) (A B c m : Int) (a b : Nat) (w : World) (hL : C25 L) (ha : A = a) (a1 : a < 16) (hb : B = b) (b1 : b < 16) (m0 : -32768 ≤ m) (m1 : m ≤ 65535) :
    Calls Tryd.prog 27 #[cpV L, instV 49 A B c m] w fun e w' => e = .returned (cpV ((setL (advL L) A ((wd L 16 + 4) % 4294967296)).set 16 ((wd L b + m) % 4294967296))) ∧ Below w.heap.size w w' := by
  subst ha hb
  have hLL := hL.1
  have HA := Lib.hid (fun W => advance_any L W hL)
  have HS := Lib.hid (fun v W => setReg_any (advL L) a v W hL.adv a1)
  have eA : wd (advL L) 16 = (wd L 16 + 4) % 4294967296 := by unfold advL; rw [wdset hL (by omega), if_pos rfl]
  have hRL := (hL.adv.setL a (v := (wd L 16 + 4) % 4294967296) (by omega) (by omega)).1
  have hb0 : (0 : Int) ≤ b := by omega
  have hb1 : (b : Int) < 16 := by omega
  have hb25 : b < 25 := by omega
  unfold instV
  obtain ⟨F1, F2, F3, -⟩ := cw_facts
  go_enter Tryd.func27, Tryd.ntmps27
  go_wp2_with (first
    | (refine wpList_box_box rfl _ rfl rfl ?_; simp only [Act.put, List.setIfInBounds_toArray, List.set_cons_zero, List.set_cons_succ])
    | (refine wpList_alloc_box rfl rfl ?_; simp only [Act.put, List.setIfInBounds_toArray, List.set_cons_zero, List.set_cons_succ]))
  generalize hW : World.alloc (World.alloc (World.alloc w _) _) _ = W
  have X2 : lk W w.heap.size = some (.cells (cw L).toArray 32 (0, 0)) := by rw [← hW]; simp [look_alloc] <;> omega
  have X3 : lk W (w.heap.size + 1) = some (.cells #[.int .i64 49, .int .i64 a, .int .i64 b, .int .i64 c, .int .i32 m] 27 (0, 0)) := by rw [← hW]; simp [look_alloc]
  have X4 : lk W (w.heap.size + 2) = some (.cells (cw Z25).toArray 32 (0, 0)) := by rw [← hW]; simp [look_alloc]
  have HB : Below w.heap.size w W := by rw [← hW]; (repeat' (first | with_reducible exact Below.refl _ _ | with_reducible assumption | with_reducible apply below_drewN | with_reducible apply Below.drew | with_reducible apply Below.setCell | with_reducible apply Below.alloc | (simp; done) | omega | (simp; omega)))
  have hsz : w.heap.size + 2 < W.heap.size := by rw [← hW]; simp
  clear hW
  obtain ⟨fs, hu⟩ := undCpu
  have hi : (Tryd.prog.info? 32).map (·.size) = some (cw L).length := by rw [cw_len hLL]; exact infCpu
  have hrg : W.rangeAt w.heap.size 0 (cw L) := fun j u hu => by rw [Nat.zero_add]; exact (cell_lk X2 j).trans (by simpa using hu)
  have hcm : W.cell? ⟨w.heap.size + 1, 4, none⟩ = some (.int .i32 m) := cell_lk X3 4
  have bb : Below W.heap.size W W.drew := (Below.refl _ _).drew
  unfold cpV at HA
  refine wp_region_held_drew (S := fun w' => w'.rangeAt w.heap.size 0 (cw L) ∧ w'.cell? ⟨w.heap.size + 1, 4, none⟩ = some (.int .i32 m)) (by kernel_rfl) ⟨range_on hrg bb (by omega), cell_on hcm bb⟩ (fun hHeld => ?_)
  (refine' wpAnyH_take (i := 0) (oi := _) (v := _) rfl (by kernel_rfl) (by kernel_rfl) (by kernel_rfl) (fun _ _ _ h => h) (yieldsIf_load_mid (by rfl) _ _ rfl _ 0 rfl (cw L) _ (fun w hw => hw.1) hu rfl hi) (by assumption) ?_; (try simp only [List.getElem_toArray, List.getElem_cons_succ, List.getElem_cons_zero, Act.put, List.setIfInBounds_toArray, List.set_cons_zero, List.set_cons_succ]))
  (refine wpAnyH_take (i := 2) (oi := _) (v := ?_) rfl (by kernel_rfl) (by kernel_rfl) (by kernel_rfl) (fun _ _ _ h => h) (Or.inl ⟨by rfl, ?_⟩) (by assumption) ?_; rotate_left 1; focus (intro w hSw; go_simp; try with_reducible rfl); (try simp only [List.getElem_toArray, List.getElem_cons_succ, List.getElem_cons_zero, Act.put, List.setIfInBounds_toArray, List.set_cons_zero, List.set_cons_succ]))
  (refine wpAnyH_take (i := 3) (oi := _) (v := ?_) rfl (by kernel_rfl) (by kernel_rfl) (by kernel_rfl) (fun _ _ _ h => h) (Or.inl ⟨by rfl, ?_⟩) (by assumption) ?_; rotate_left 1; focus (rintro w ⟨-, hSw⟩; go_simp; try with_reducible rfl); (try simp only [List.getElem_toArray, List.getElem_cons_succ, List.getElem_cons_zero, Act.put, List.setIfInBounds_toArray, List.set_cons_zero, List.set_cons_succ]))
  (refine wpAnyH_take (i := 4) (oi := _) (v := ?_) rfl (by kernel_rfl) (by kernel_rfl) (by kernel_rfl) (fun _ _ _ h => h) (Or.inl ⟨by rfl, ?_⟩) (by assumption) ?_; rotate_left 1; focus (intro w hSw; go_simp; try with_reducible rfl); (try simp only [List.getElem_toArray, List.getElem_cons_succ, List.getElem_cons_zero, Act.put, List.setIfInBounds_toArray, List.set_cons_zero, List.set_cons_succ]))
  have hAL := hL.adv.1
  refine (fun (key : Hid ?T) => ?main) ?kp
  case main =>
    refine wpAnyH_ready (rs := [1, 5]) (by kernel_rfl) (by simp) ?_
    refine AllReadyH.cons (o := _) rfl (fun K hK => ?_) (AllReadyH.cons (o := _) rfl (fun K hK => ?_) AllReadyH.nil)
    · rw [if_pos (by rfl)]
      go_simp
      refine (HA.out _).mono ?_
      rintro e w1 ⟨rfl, hb1⟩
      replace bb := below_step bb hb1
      (try dsimp only)
      refine hK.out _ _ ?_ (fun hHeld => ?_)
      · exact ⟨range_on hrg bb (by omega), cell_on hcm bb⟩
      clear hK K hb1
      (try simp only [List.getElem_toArray, List.getElem_cons_succ, List.getElem_cons_zero, Act.put, List.setIfInBounds_toArray, List.set_cons_zero, List.set_cons_succ])
      refine wpAnyH_ready (rs := [5]) (by kernel_rfl) (by simp) ?_
      refine AllReadyH.cons (o := _) rfl (fun K hK => ?_) AllReadyH.nil
      rw [if_pos (by rfl)]
      refine wp_alloc_cpu rfl ?_
      have hsz1 := bb.size
      replace bb := bb.alloc hsz1 (.cells (cw Z25).toArray 32)
      (try dsimp only)
      refine hK.out _ _ ?_ (fun hHeld => ?_)
      · exact ⟨range_on hrg bb (by omega), cell_on hcm bb⟩
      clear hK K
      (try simp only [List.getElem_toArray, List.getElem_cons_succ, List.getElem_cons_zero, Act.put, List.setIfInBounds_toArray, List.set_cons_zero, List.set_cons_succ])
      have Y5 : lk (w1.alloc (.cells (cw Z25).toArray 32)) w1.heap.size = some (.cells (cw Z25).toArray 32 (0, 0)) := by rw [look_alloc, if_pos rfl]
      have hg5 := hsz1
      refine wpAnyH_ready (rs := [6]) (by kernel_rfl) (by simp) ?_
      refine AllReadyH.cons (o := _) rfl (fun K hK => ?_) AllReadyH.nil
      rw [if_pos (by rfl)]
      refine wp_store_cpu _ _ rfl _ rfl rfl hAL Y5 Z25_len ?_
      replace Y5 := lk_row (M := advL L) Y5
      replace bb := below_setRow bb _ hg5 (cw (advL L)).toArray
      (try dsimp only)
      refine hK.out _ _ ?_ (fun hHeld => ?_)
      · exact ⟨range_on hrg bb (by omega), cell_on hcm bb⟩
      clear hK K
      (try simp only [List.getElem_toArray, List.getElem_cons_succ, List.getElem_cons_zero, Act.put, List.setIfInBounds_toArray, List.set_cons_zero, List.set_cons_succ])
      (refine wpAnyH_take (i := 7) (oi := _) (v := ?_) rfl (by kernel_rfl) (by kernel_rfl) (by kernel_rfl) (fun _ _ _ h => h) (Or.inl ⟨by rfl, ?_⟩) (by assumption) ?_; rotate_left 1; focus (intro w hSw; go_simp; try with_reducible rfl); (try simp only [List.getElem_toArray, List.getElem_cons_succ, List.getElem_cons_zero, Act.put, List.setIfInBounds_toArray, List.set_cons_zero, List.set_cons_succ]))
      refine wpAnyH_done (by kernel_rfl) ?_ _
      (try simp only [List.getElem_toArray, List.getElem_cons_succ, List.getElem_cons_zero, Act.put, List.setIfInBounds_toArray, List.set_cons_zero, List.set_cons_succ])
      have F : lk _ w1.heap.size = _ ∧ W.heap.size ≤ w1.heap.size ∧ Below W.heap.size W _ := ⟨Y5, hg5, bb⟩
      generalize World.setRow (World.alloc w1 _) _ _ = W5 at F ⊢
      generalize w1.heap.size = g5 at F ⊢
      revert F; revert g5 W5
      exact key.out
    · rw [if_pos (by rfl)]
      refine wp_alloc_cpu rfl ?_
      have Y5 : lk (W.drew.alloc (.cells (cw Z25).toArray 32)) W.heap.size = some (.cells (cw Z25).toArray 32 (0, 0)) := by rw [look_alloc]; exact if_pos rfl
      have hg5 : W.heap.size ≤ W.heap.size := Nat.le_refl _
      replace bb := bb.alloc hg5 (.cells (cw Z25).toArray 32)
      have hs5 : W.heap.size < (W.drew.alloc (.cells (cw Z25).toArray 32)).heap.size := by simp
      (try dsimp only)
      refine hK.out _ _ ?_ (fun hHeld => ?_)
      · exact ⟨range_on hrg bb (by omega), cell_on hcm bb⟩
      clear hK K
      (try simp only [List.getElem_toArray, List.getElem_cons_succ, List.getElem_cons_zero, Act.put, List.setIfInBounds_toArray, List.set_cons_zero, List.set_cons_succ])
      refine wpAnyH_ready (rs := [1]) (by kernel_rfl) (by simp) ?_
      refine AllReadyH.cons (o := _) rfl (fun K hK => ?_) AllReadyH.nil
      rw [if_pos (by rfl)]
      go_simp
      refine (HA.out _).mono ?_
      rintro e w1 ⟨rfl, hb1⟩
      replace Y5 := look_on Y5 hb1 hs5
      replace bb := below_step bb hb1
      (try dsimp only)
      refine hK.out _ _ ?_ (fun hHeld => ?_)
      · exact ⟨range_on hrg bb (by omega), cell_on hcm bb⟩
      clear hK K hb1 hs5
      (try simp only [List.getElem_toArray, List.getElem_cons_succ, List.getElem_cons_zero, Act.put, List.setIfInBounds_toArray, List.set_cons_zero, List.set_cons_succ])
      refine wpAnyH_ready (rs := [6]) (by kernel_rfl) (by simp) ?_
      refine AllReadyH.cons (o := _) rfl (fun K hK => ?_) AllReadyH.nil
      rw [if_pos (by rfl)]
      refine wp_store_cpu _ _ rfl _ rfl rfl hAL Y5 Z25_len ?_
      replace Y5 := lk_row (M := advL L) Y5
      replace bb := below_setRow bb _ hg5 (cw (advL L)).toArray
      (try dsimp only)
      refine hK.out _ _ ?_ (fun hHeld => ?_)
      · exact ⟨range_on hrg bb (by omega), cell_on hcm bb⟩
      clear hK K
      (try simp only [List.getElem_toArray, List.getElem_cons_succ, List.getElem_cons_zero, Act.put, List.setIfInBounds_toArray, List.set_cons_zero, List.set_cons_succ])
      (refine wpAnyH_take (i := 7) (oi := _) (v := ?_) rfl (by kernel_rfl) (by kernel_rfl) (by kernel_rfl) (fun _ _ _ h => h) (Or.inl ⟨by rfl, ?_⟩) (by assumption) ?_; rotate_left 1; focus (intro w hSw; go_simp; try with_reducible rfl); (try simp only [List.getElem_toArray, List.getElem_cons_succ, List.getElem_cons_zero, Act.put, List.setIfInBounds_toArray, List.set_cons_zero, List.set_cons_succ]))
      refine wpAnyH_done (by kernel_rfl) ?_ _
      (try simp only [List.getElem_toArray, List.getElem_cons_succ, List.getElem_cons_zero, Act.put, List.setIfInBounds_toArray, List.set_cons_zero, List.set_cons_succ])
      have F : lk _ W.heap.size = _ ∧ W.heap.size ≤ W.heap.size ∧ Below W.heap.size W _ := ⟨Y5, hg5, bb⟩
      generalize World.setRow w1 _ _ = W5 at F ⊢
      generalize hgg : W.heap.size = g5
      have F' : lk W5 g5 = some (.cells (cw (advL L)).toArray 32 (0, 0)) ∧ W.heap.size ≤ g5 ∧ Below W.heap.size W W5 := ⟨by rw [← hgg]; exact F.1, by rw [← hgg]; exact Nat.le_refl _, F.2.2⟩
      clear hgg F
      revert F'; revert g5 W5
      exact key.out
  case kp =>
    show ∀ (W5 : World) (g5 : Nat), _
    intro W5 g5 ⟨Y5, hg5, bW⟩
    have Y2 := look_on X2 bW (by omega)
    have Y3 := look_on X3 bW (by omega)
    have Y4 := look_on X4 bW (by omega)
    have hW5 : g5 < W5.heap.size := by
      have := Y5
      unfold lk at this
      exact (Array.getElem?_eq_some_iff.1 this).1
    have HB5 : Below w.heap.size w W5 := below_step HB bW
    clear X2 X3 X4 bW hrg hcm bb HA hHeld
    have C2 : ∀ k : Nat, k < 25 → W5.cell? ⟨w.heap.size, k, none⟩ = some (.int .u32 (wd L k)) := fun k hk => (cell_lk Y2 k).trans (by simpa using cw_at hLL hk)
    have C5 : ∀ k : Nat, k < 25 → W5.cell? ⟨g5, k, none⟩ = some (.int .u32 (wd (advL L) k)) := fun k hk => (cell_lk Y5 k).trans (by simpa using cw_at hAL hk)
    have c0 : W5.cell? ⟨w.heap.size + 1, 0, none⟩ = _ := cell_lk Y3 0
    have c1 : W5.cell? ⟨w.heap.size + 1, 1, none⟩ = _ := cell_lk Y3 1
    have c2 : W5.cell? ⟨w.heap.size + 1, 2, none⟩ = _ := cell_lk Y3 2
    have c3 : W5.cell? ⟨w.heap.size + 1, 3, none⟩ = _ := cell_lk Y3 3
    have c4 : W5.cell? ⟨w.heap.size + 1, 4, none⟩ = _ := cell_lk Y3 4
    simp at c0 c1 c2 c3 c4
    have cb := C2 b hb25
    repeat' (first
      | (with_reducible refine then_normal ?_) | (with_reducible refine wp_exit ?_) | (with_reducible refine wp_ret ?_) | (with_reducible refine then_exit ?_) | (with_reducible refine blk_hit ?_) | (with_reducible refine blk_pass (by decide) ?_) | (with_reducible refine then_ret ?_) | (with_reducible refine blk_ret ?_) | (with_reducible refine blk_normal ?_)
      | (refine wpList_load_look rfl _ rfl _ rfl (fun ob hob => ?_); (first | rw [Y5] at hob | rw [Y2] at hob); subst hob; refine ⟨_, rfl, by assumption, ?_⟩; simp only [Act.put, List.setIfInBounds_toArray, List.set_cons_zero, List.set_cons_succ])
      | go_values | go_skip | go_guarded | go_step | go_upon | (simp only [Int.not_lt, Int.not_le] at *; go_simp) | (go_values <;> (try go_simp)) | (go_ite <;> go_prune <;> (try go_simp)))
    refine (HS.out _ _).mono ?_
    rintro e w6 ⟨rfl, hb6⟩
    have Z4 := look_on Y4 hb6 (by omega)
    have Z5 := look_on Y5 hb6 hW5
    have HB6 := below_step HB5 hb6
    clear hb6
    generalize hR : setL (advL L) _ _ = R at *
    generalize hT : (wd L b + m % 4294967296) % 4294967296 = T at *
    have V5 := lk_row (M := R) Z5
    have V4 : lk (w6.setRow g5 (cw R).toArray) (w.heap.size + 2) = _ := lk_rowN Z4 (by omega)
    have d5 : (w6.setRow g5 (cw R).toArray).cell? ⟨g5, 16, none⟩ = some (.int .u32 (wd R 16)) := (cell_lk V5 16).trans (by simpa using cw_at hRL (show 16 < 25 by omega))
    have f5 : (w6.setRow g5 (cw R).toArray).frozen? ⟨g5, 16, none⟩ = false := frozen_lk V5 16
    have U5 := lk_set V5 16 T
    have U4 := lk_setN (k := 16) (v := .int .u32 T) V4 (show ¬ g5 = w.heap.size + 2 by omega)
    have hRT : (R.set 16 T).length = 25 := by rw [List.length_set]; exact hRL
    have HB7 : Below w.heap.size w ((w6.setRow g5 (cw R).toArray).setCell ⟨g5, 16, none⟩ (.int .u32 T)) := (below_setRow HB6 _ (by omega) _).setCell (by simpa using (show w.heap.size ≤ g5 by omega)) _
    repeat' (first
      | (with_reducible refine then_normal ?_) | (with_reducible refine wp_exit ?_) | (with_reducible refine wp_ret ?_) | (with_reducible refine then_exit ?_) | (with_reducible refine blk_hit ?_) | (with_reducible refine blk_pass (by decide) ?_) | (with_reducible refine then_ret ?_) | (with_reducible refine blk_ret ?_) | (with_reducible refine blk_normal ?_)
      | (refine wpList_store_look rfl _ _ rfl _ rfl rfl hRL (fun ob hob => by (rw [Z5] at hob; subst hob; exact ⟨_, rfl, hAL⟩)) (fun w2 hw2 => ?_); subst hw2; simp only [Act.put, List.setIfInBounds_toArray, List.set_cons_zero, List.set_cons_succ])
      | (refine wpList_load_look rfl _ rfl _ rfl (fun ob hob => ?_); rw [U5] at hob; subst hob; refine ⟨_, rfl, hRT, ?_⟩; simp only [Act.put, List.setIfInBounds_toArray, List.set_cons_zero, List.set_cons_succ])
      | (refine wpList_store_look rfl _ _ rfl _ rfl rfl hRT (fun ob hob => by (rw [U4] at hob; subst hob; exact ⟨_, rfl, Z25_len⟩)) (fun w2 hw2 => ?_); subst hw2; simp only [Act.put, List.setIfInBounds_toArray, List.set_cons_zero, List.set_cons_succ])
      | go_values | go_skip | go_guarded | go_step | go_upon | (simp only [Int.not_lt, Int.not_le] at *; go_simp) | (go_values <;> (try go_simp)) | (go_ite <;> go_prune <;> (try go_simp)))
    exact bodyPost_ret (v := cpV (R.set 16 T)) (results_cpu rfl _ _ (w.heap.size + 2) rfl hRT (lk_row U4)) rfl ⟨by rw [← hT, ← hR]; rw [show (wd L b + m % 4294967296) % 4294967296 = (wd L b + m) % 4294967296 by omega], below_setRow HB7 _ (by omega) _⟩
end Go.Proofs.YtfnfbdjbdbifaaaDoor

namespace Go.Proofs.YtfnfbdjbdbifaaaDoor
set_option linter.unusedVariables false
set_option linter.unusedSimpArgs false
set_option maxRecDepth 20000
open Go.ChangeShapes Go.WideShapes Go.ChangeAt Go.RowKit Go.Proofs.YtfnfbdjbdbifaaaDoor.Num Go.Proofs.YtfnfbdjbdbifaaaDoor.Mem Go.Proofs.YtfnfbdjbdbifaaaDoor.Isa
/- What an instruction leaves to be done; the operand of a load or store; the last operand. -/
theorem results_eff {fn : Func} {r : Tmp} (h : fn.results = #[.cell r 37]) (tmps : Array Value) (w : World) (g' : Nat) (hr : tmps.getD r undef = .pointer (some ⟨g', 0, none⟩))
    {K P R V : Int} (he : lk w g' = some (.cells #[.int .i64 K, .int .i64 P, .int .i64 R, .int .u32 V] 37 (0, 0))) :
    (results fn tmps).run Tryd.prog w = .ok (efV K P R V) w := by
  have e2 := run_effect w g' K P R V he
  have hr' : tmps[r]?.getD undef = .pointer (some ⟨g', 0, none⟩) := by simpa using hr
  simp [results, h, hr', asAddr, e2, Sem.run_bind]
theorem ret_eff {K P R V K' P' R' V' : Int} (h1 : K = K') (h2 : P = P') (h3 : R = R') (h4 : V = V') : Ending.returned (efV K P R V) = .returned (efV K' P' R' V') := by rw [h1, h2, h3, h4]
set_option maxHeartbeats 4000000 in
theorem effect_any (L : List Int) (o A b c m : Int) (a : Nat) (w : World) (hL : C25 L) (ha : A = a) (a1 : a < 16) (m0 : -32768 ≤ m) (m1 : m ≤ 65535) :
    Calls Tryd.prog 28 #[cpV L, instV o A b c m] w fun e w' => e = .returned (efV (efK o) (efP o m) (efR o A) (efU L o A)) ∧ Below w.heap.size w w' := by
  subst ha
  have hLL := hL.1
  have ha0 : (0 : Int) ≤ a := by omega
  have ha1 : (a : Int) < 16 := by omega
  have ha25 : a < 25 := by omega
  have eA := cw_at hLL ha25
  unfold instV
  obtain ⟨F1, F2, F3, -⟩ := cw_facts
  go_enter Tryd.func28, Tryd.ntmps28
  go_wp2_with (first
    | (refine wpList_box_box rfl _ rfl rfl ?_; simp only [Act.put, List.setIfInBounds_toArray, List.set_cons_zero, List.set_cons_succ]))
  all_goals (try go_region)
  all_goals go_wp2_with fail
  · refine bodyPost_ret (v := efV 1 m a 0) (results_eff rfl _ _ (w.heap.size + 1 + 1) rfl (by simp [look_alloc, look_setRow, look_drew, look_drewN, look_setCell, Nat.add_assoc])) rfl ⟨ret_eff (by simp_all [efK]) (by simp_all [efP]) (by simp_all [efR]) (by simp_all [efU]), by (repeat' (first | with_reducible exact Below.refl _ _ | with_reducible assumption | with_reducible apply below_drewN | with_reducible apply Below.drew | with_reducible apply Below.setCell | with_reducible apply Below.alloc | (simp; done) | omega | (simp; omega)))⟩
  · refine bodyPost_ret (v := efV 2 m 0 (wd L a)) (results_eff rfl _ _ (w.heap.size + 1 + 1) rfl (by simp [look_alloc, look_setRow, look_drew, look_drewN, look_setCell, Nat.add_assoc])) rfl ⟨ret_eff (by simp_all [efK]) (by simp_all [efP]) (by simp_all [efR]) (by simp_all [efU]), by (repeat' (first | with_reducible exact Below.refl _ _ | with_reducible assumption | with_reducible apply below_drewN | with_reducible apply Below.drew | with_reducible apply Below.setCell | with_reducible apply Below.alloc | (simp; done) | omega | (simp; omega)))⟩
  · refine bodyPost_ret (v := efV 3 0 0 0) (results_eff rfl _ _ (w.heap.size + 1 + 1) rfl (by simp [look_alloc, look_setRow, look_drew, look_drewN, look_setCell, Nat.add_assoc])) rfl ⟨ret_eff (by simp_all [efK]) (by simp_all [efP]) (by simp_all [efR]) (by simp_all [efU]), by (repeat' (first | with_reducible exact Below.refl _ _ | with_reducible assumption | with_reducible apply below_drewN | with_reducible apply Below.drew | with_reducible apply Below.setCell | with_reducible apply Below.alloc | (simp; done) | omega | (simp; omega)))⟩
  · refine bodyPost_ret (v := efV 5 0 0 0) (results_eff rfl _ _ (w.heap.size + 1 + 1) rfl (by simp [look_alloc, look_setRow, look_drew, look_drewN, look_setCell, Nat.add_assoc])) rfl ⟨ret_eff (by simp_all [efK]) (by simp_all [efP]) (by simp_all [efR]) (by simp_all [efU]), by (repeat' (first | with_reducible exact Below.refl _ _ | with_reducible assumption | with_reducible apply below_drewN | with_reducible apply Below.drew | with_reducible apply Below.setCell | with_reducible apply Below.alloc | (simp; done) | omega | (simp; omega)))⟩
  · refine bodyPost_ret (v := efV 4 0 0 0) (results_eff rfl _ _ (w.heap.size + 1 + 1) rfl (by simp [look_alloc, look_setRow, look_drew, look_drewN, look_setCell, Nat.add_assoc])) rfl ⟨ret_eff (by simp_all [efK]) (by simp_all [efP]) (by simp_all [efR]) (by simp_all [efU]), by (repeat' (first | with_reducible exact Below.refl _ _ | with_reducible assumption | with_reducible apply below_drewN | with_reducible apply Below.drew | with_reducible apply Below.setCell | with_reducible apply Below.alloc | (simp; done) | omega | (simp; omega)))⟩
  · refine bodyPost_ret (v := efV 0 0 0 0) (results_eff rfl _ _ (w.heap.size + 1 + 1) rfl (by simp [look_alloc, look_setRow, look_drew, look_drewN, look_setCell, Nat.add_assoc])) rfl ⟨ret_eff (by simp_all [efK]) (by simp_all [efP]) (by simp_all [efR]) (by simp_all [efU]), by (repeat' (first | with_reducible exact Below.refl _ _ | with_reducible assumption | with_reducible apply below_drewN | with_reducible apply Below.drew | with_reducible apply Below.setCell | with_reducible apply Below.alloc | (simp; done) | omega | (simp; omega)))⟩
theorem ret_ui {a b c d : Int} (h : a = c) (h' : b = d) : Ending.returned (.tuple #[.int .u32 a, .int .i64 b]) = .returned (.tuple #[.int .u32 c, .int .i64 d]) := by rw [h, h']
set_option maxHeartbeats 4000000 in
theorem operand_any (L : List Int) (o A B c m : Int) (b : Nat) (w : World) (hL : C25 L) (hb : B = b) (b1 : b < 16) (m0 : -32768 ≤ m) (m1 : m ≤ 65535) :
    Calls Tryd.prog 44 #[cpV L, instV o A B c m] w fun e w' => e = .returned (.tuple #[.int .u32 (opVa L B m), .int .i64 (opSz o)]) ∧ Below w.heap.size w w' := by
  subst hb
  have hLL := hL.1
  have hb0 : (0 : Int) ≤ b := by omega
  have hb1 : (b : Int) < 16 := by omega
  have hb25 : b < 25 := by omega
  have eA := cw_at hLL hb25
  unfold instV
  obtain ⟨F1, F2, F3, -⟩ := cw_facts
  go_enter Tryd.func44, Tryd.ntmps44
  go_wp2_with (first
    | (refine wpList_box_box rfl _ rfl rfl ?_; simp only [Act.put, List.setIfInBounds_toArray, List.set_cons_zero, List.set_cons_succ]))
  all_goals (try go_region)
  all_goals go_wp2_with fail
  all_goals go_ret2
  all_goals exact ⟨ret_ui (by unfold opVa; rw [Int.toNat_natCast]) (by unfold opSz; simp_all), by (repeat' (first | with_reducible exact Below.refl _ _ | with_reducible assumption | with_reducible apply below_drewN | with_reducible apply Below.drew | with_reducible apply Below.setCell | with_reducible apply Below.alloc | (simp; done) | omega | (simp; omega)))⟩
set_option maxHeartbeats 4000000 in
theorem last_any (L : List Int) (o A B C m : Int) (c : Nat) (w : World) (hL : C25 L) (hc : C = c) (c1 : c < 16) (m0 : -32768 ≤ m) (m1 : m ≤ 65535) :
    Calls Tryd.prog 52 #[cpV L, instV o A B C m] w fun e w' => e = .returned (.int .u32 (if o ≤ 13 then wd L c else m % 4294967296)) ∧ Below w.heap.size w w' := by
  subst hc
  have hLL := hL.1
  have hb0 : (0 : Int) ≤ c := by omega
  have hb1 : (c : Int) < 16 := by omega
  have hb25 : c < 25 := by omega
  have eA := cw_at hLL hb25
  unfold instV
  obtain ⟨F1, F2, F3, -⟩ := cw_facts
  go_enter Tryd.func52, Tryd.ntmps52
  go_wp2_with (first
    | (refine wpList_box_box rfl _ rfl rfl ?_; simp only [Act.put, List.setIfInBounds_toArray, List.set_cons_zero, List.set_cons_succ]))
  all_goals go_ret
  all_goals exact ⟨ret_int (by first | rfl | (rw [if_pos (by assumption)]; done) | (rw [if_neg (by omega)])), by (repeat' (first | with_reducible exact Below.refl _ _ | with_reducible assumption | with_reducible apply below_drewN | with_reducible apply Below.drew | with_reducible apply Below.setCell | with_reducible apply Below.alloc | (simp; done) | omega | (simp; omega)))⟩
end Go.Proofs.YtfnfbdjbdbifaaaDoor

namespace Go.Proofs.YtfnfbdjbdbifaaaDoor
set_option linter.unusedVariables false
set_option linter.unusedSimpArgs false
set_option maxRecDepth 20000
open Go.ChangeShapes Go.WideShapes Go.ChangeAt Go.RowKit Go.Proofs.YtfnfbdjbdbifaaaDoor.Num Go.Proofs.YtfnfbdjbdbifaaaDoor.Mem Go.Proofs.YtfnfbdjbdbifaaaDoor.Isa
/- Loads and stores. -/
/-- What a load or a store gives. -/
def LsPost (n : Nat) (L' l' : List Int) (w : World) (e : Ending) (w' : World) : Prop := (∃ S c, e = .returned (.tuple #[cpV L', .slice S n c]) ∧ Mem w' S n c l' ∧ Fresh w.heap.size S n) ∧ Below w.heap.size w w'
theorem opVa_bd (L : List Int) (b m : Int) : 0 ≤ opVa L b m ∧ opVa L b m ≤ 4294967295 := by unfold opVa; omega
/-- A possible access lies within the memory. -/
theorem acc_ok {n : Nat} {l L : List Int} {va size a : Int} (v0 : 0 ≤ va) (v1 : va ≤ 4294967295) (h : rsC n l L va size a = 0) : okB n (rsA n l L va size a) size = true ∧ 0 ≤ rsA n l L va size a ∧ rsA n l L va size a ≤ 4294967295 := by
  rcases rsA_ok v0 h with h1 | ⟨hp, e, ho⟩
  · exact h1
  · rw [e]; exact ⟨ho, v0, v1⟩
set_option maxHeartbeats 4000000 in
theorem load_fault (L : List Int) (S : Option Addr) (n c : Nat) (l : List Int) (o A B C m : Int) (b : Nat) (w : World) (hL : C25 L) (hm : Mem w S n c l) (hb : B = b) (b1 : b < 16) (m0 : -32768 ≤ m) (m1 : m ≤ 65535)
    (hc : ¬ rsC n l L (opVa L B m) (opSz o) 2 = 0) :
    Calls Tryd.prog 25 #[cpV L, .slice S n c, instV o A B C m] w (LsPost n (trapL L (rsC n l L (opVa L B m) (opSz o) 2) (opVa L B m)) (rsL n l L (opVa L B m) (opSz o) 2) w) := by
  have hLL := hL.1
  have hv := opVa_bd L B m
  have HO := Lib.hid (fun W => operand_any L o A B C m b W hL hb b1 m0 m1)
  generalize opVa L B m = va at *
  have HR := Lib.hid (fun W (hM : Mem W S n c l) => resolve_any L S n c l va (opSz o) 2 W hL hM hv.1 hv.2)
  generalize opSz o = sz at *
  have HT := Lib.hid (fun W => trap_any L (rsC n l L va sz 2) va W hL)
  have hTL := (hL.trap (rsC n l L va sz 2) hv.1 hv.2).1
  generalize rsC n l L va sz 2 = cs at *
  generalize rsA n l L va sz 2 = ad at *
  generalize rsL n l L va sz 2 = l' at *
  generalize trapL L cs va = L' at *
  clear hb
  unfold instV at HO ⊢
  obtain ⟨F1, F2, F3, -⟩ := cw_facts
  go_enter Tryd.func25, Tryd.ntmps25
  go_wp2_with (first
    | (refine wpList_box_box rfl _ rfl rfl ?_; simp only [Act.put, List.setIfInBounds_toArray, List.set_cons_zero, List.set_cons_succ])
    | (refine wpList_alloc_box rfl rfl ?_; simp only [Act.put, List.setIfInBounds_toArray, List.set_cons_zero, List.set_cons_succ])
    | (refine wpList_load_look rfl _ rfl _ rfl (fun ob hob => ?_); simp [look_alloc, look_setRow, look_drew, look_drewN, look_setCell, Nat.add_assoc] at hob; subst hob; refine ⟨_, rfl, by (first | with_reducible assumption | (simp only [List.length_set]; with_reducible assumption) | exact Z25_len), ?_⟩; simp only [Act.put, List.setIfInBounds_toArray, List.set_cons_zero, List.set_cons_succ]))
  refine (HO.out _).mono ?_
  rintro e w1 ⟨rfl, hb1⟩
  have X3 := look_on (g := w.heap.size) (o := .cells (cw L).toArray 32 (0, 0)) (by simp [look_alloc] <;> omega) hb1 (by simp <;> omega)
  have X5 := look_on (g := w.heap.size + 1) (o := .cells #[.int .i64 o, .int .i64 A, .int .i64 B, .int .i64 C, .int .i32 m] 27 (0, 0)) (by simp [look_alloc]) hb1 (by simp <;> omega)
  have X6 := look_on (g := w.heap.size + 2) (o := .cells (cw Z25).toArray 32 (0, 0)) (by simp [look_alloc]) hb1 (by simp <;> omega)
  have bel : Below w.heap.size w w1 := Below.trans (by (repeat' (first | with_reducible exact Below.refl _ _ | with_reducible assumption | with_reducible apply below_drewN | with_reducible apply Below.drew | with_reducible apply Below.setCell | with_reducible apply Below.alloc | (simp; done) | omega | (simp; omega)))) (hb1.mono (by simp <;> omega))
  have hs1 : w.heap.size + 2 < w1.heap.size := Nat.lt_of_lt_of_le (by simp <;> omega) hb1.size
  clear hb1 HO
  go_wp2_with (first
    | (refine wpList_load_look rfl _ rfl _ rfl (fun ob hob => ?_); rw [X3] at hob; subst hob; refine ⟨_, rfl, hLL, ?_⟩; simp only [Act.put, List.setIfInBounds_toArray, List.set_cons_zero, List.set_cons_succ]))
  refine (HR.out _ (hm.on bel)).mono ?_
  rintro e w2 ⟨⟨S2, c2, rfl, hm2, hf2⟩, hb2⟩
  replace hf2 : Fresh (w.heap.size + 3) S2 n := hf2.le (by omega)
  replace X3 := look_on X3 hb2 (by omega)
  replace X5 := look_on X5 hb2 (by omega)
  replace X6 := look_on X6 hb2 (by omega)
  replace hs1 : w.heap.size + 2 < w2.heap.size := Nat.lt_of_lt_of_le hs1 hb2.size
  replace bel := below_step bel hb2
  clear hb2 HR
  go_wp2_with (first
    | (refine wpList_load_look rfl _ rfl _ rfl (fun ob hob => ?_); rw [X3] at hob; subst hob; refine ⟨_, rfl, hLL, ?_⟩; simp only [Act.put, List.setIfInBounds_toArray, List.set_cons_zero, List.set_cons_succ]))
  refine (HT.out _).mono ?_
  rintro e w3 ⟨rfl, hb3⟩
  replace X6 := look_on X6 hb3 hs1
  replace bel := below_step bel hb3
  replace hm2 := hm2.on hb3
  clear hb3
  go_wp2_with (first
    | (refine wpList_store_look rfl _ _ rfl _ rfl rfl hTL (fun ob hob => by (rw [X6] at hob; subst hob; exact ⟨_, rfl, Z25_len⟩)) (fun w4 hw4 => ?_); subst hw4; simp only [Act.put, List.setIfInBounds_toArray, List.set_cons_zero, List.set_cons_succ]))
  refine bodyPost_ret (v := .tuple #[cpV L', .slice S2 n c2]) (results_cpt (p := 6) (q := 7) rfl _ _ (w.heap.size + 2) rfl hTL (lk_row X6)) rfl ⟨⟨S2, c2, rfl, hm2.fresh hf2 (fun g hg => by show lk _ g = lk _ g; rw [look_setRow, if_neg (by omega)]), hf2.le (by omega)⟩, below_setRow bel _ (by omega) _⟩
set_option maxHeartbeats 4000000 in
theorem store_fault (L : List Int) (S : Option Addr) (n c : Nat) (l : List Int) (o A B C m : Int) (b : Nat) (w : World) (hL : C25 L) (hm : Mem w S n c l) (hb : B = b) (b1 : b < 16) (m0 : -32768 ≤ m) (m1 : m ≤ 65535)
    (hc : ¬ rsC n l L (opVa L B m) (opSz o) 3 = 0) :
    Calls Tryd.prog 26 #[cpV L, .slice S n c, instV o A B C m] w (LsPost n (trapL L (rsC n l L (opVa L B m) (opSz o) 3) (opVa L B m)) (rsL n l L (opVa L B m) (opSz o) 3) w) := by
  have hLL := hL.1
  have hv := opVa_bd L B m
  have HO := Lib.hid (fun W => operand_any L o A B C m b W hL hb b1 m0 m1)
  generalize opVa L B m = va at *
  have HR := Lib.hid (fun W (hM : Mem W S n c l) => resolve_any L S n c l va (opSz o) 3 W hL hM hv.1 hv.2)
  generalize opSz o = sz at *
  have HT := Lib.hid (fun W => trap_any L (rsC n l L va sz 3) va W hL)
  have hTL := (hL.trap (rsC n l L va sz 3) hv.1 hv.2).1
  generalize rsC n l L va sz 3 = cs at *
  generalize rsA n l L va sz 3 = ad at *
  generalize rsL n l L va sz 3 = l' at *
  generalize trapL L cs va = L' at *
  clear hb
  unfold instV at HO ⊢
  obtain ⟨F1, F2, F3, -⟩ := cw_facts
  go_enter Tryd.func26, Tryd.ntmps26
  go_wp2_with (first
    | (refine wpList_box_box rfl _ rfl rfl ?_; simp only [Act.put, List.setIfInBounds_toArray, List.set_cons_zero, List.set_cons_succ])
    | (refine wpList_alloc_box rfl rfl ?_; simp only [Act.put, List.setIfInBounds_toArray, List.set_cons_zero, List.set_cons_succ])
    | (refine wpList_load_look rfl _ rfl _ rfl (fun ob hob => ?_); simp [look_alloc, look_setRow, look_drew, look_drewN, look_setCell, Nat.add_assoc] at hob; subst hob; refine ⟨_, rfl, by (first | with_reducible assumption | (simp only [List.length_set]; with_reducible assumption) | exact Z25_len), ?_⟩; simp only [Act.put, List.setIfInBounds_toArray, List.set_cons_zero, List.set_cons_succ]))
  refine (HO.out _).mono ?_
  rintro e w1 ⟨rfl, hb1⟩
  have X3 := look_on (g := w.heap.size) (o := .cells (cw L).toArray 32 (0, 0)) (by simp [look_alloc] <;> omega) hb1 (by simp <;> omega)
  have X5 := look_on (g := w.heap.size + 1) (o := .cells #[.int .i64 o, .int .i64 A, .int .i64 B, .int .i64 C, .int .i32 m] 27 (0, 0)) (by simp [look_alloc]) hb1 (by simp <;> omega)
  have X6 := look_on (g := w.heap.size + 2) (o := .cells (cw Z25).toArray 32 (0, 0)) (by simp [look_alloc]) hb1 (by simp <;> omega)
  have bel : Below w.heap.size w w1 := Below.trans (by (repeat' (first | with_reducible exact Below.refl _ _ | with_reducible assumption | with_reducible apply below_drewN | with_reducible apply Below.drew | with_reducible apply Below.setCell | with_reducible apply Below.alloc | (simp; done) | omega | (simp; omega)))) (hb1.mono (by simp <;> omega))
  have hs1 : w.heap.size + 2 < w1.heap.size := Nat.lt_of_lt_of_le (by simp <;> omega) hb1.size
  clear hb1 HO
  go_wp2_with (first
    | (refine wpList_load_look rfl _ rfl _ rfl (fun ob hob => ?_); rw [X3] at hob; subst hob; refine ⟨_, rfl, hLL, ?_⟩; simp only [Act.put, List.setIfInBounds_toArray, List.set_cons_zero, List.set_cons_succ]))
  refine (HR.out _ (hm.on bel)).mono ?_
  rintro e w2 ⟨⟨S2, c2, rfl, hm2, hf2⟩, hb2⟩
  replace hf2 : Fresh (w.heap.size + 3) S2 n := hf2.le (by omega)
  replace X3 := look_on X3 hb2 (by omega)
  replace X5 := look_on X5 hb2 (by omega)
  replace X6 := look_on X6 hb2 (by omega)
  replace hs1 : w.heap.size + 2 < w2.heap.size := Nat.lt_of_lt_of_le hs1 hb2.size
  replace bel := below_step bel hb2
  clear hb2 HR
  go_wp2_with (first
    | (refine wpList_load_look rfl _ rfl _ rfl (fun ob hob => ?_); rw [X3] at hob; subst hob; refine ⟨_, rfl, hLL, ?_⟩; simp only [Act.put, List.setIfInBounds_toArray, List.set_cons_zero, List.set_cons_succ]))
  refine (HT.out _).mono ?_
  rintro e w3 ⟨rfl, hb3⟩
  replace X6 := look_on X6 hb3 hs1
  replace bel := below_step bel hb3
  replace hm2 := hm2.on hb3
  clear hb3
  go_wp2_with (first
    | (refine wpList_store_look rfl _ _ rfl _ rfl rfl hTL (fun ob hob => by (rw [X6] at hob; subst hob; exact ⟨_, rfl, Z25_len⟩)) (fun w4 hw4 => ?_); subst hw4; simp only [Act.put, List.setIfInBounds_toArray, List.set_cons_zero, List.set_cons_succ]))
  refine bodyPost_ret (v := .tuple #[cpV L', .slice S2 n c2]) (results_cpt (p := 6) (q := 7) rfl _ _ (w.heap.size + 2) rfl hTL (lk_row X6)) rfl ⟨⟨S2, c2, rfl, hm2.fresh hf2 (fun g hg => by show lk _ g = lk _ g; rw [look_setRow, if_neg (by omega)]), hf2.le (by omega)⟩, below_setRow bel _ (by omega) _⟩
set_option maxHeartbeats 4000000 in
theorem store_ok (L : List Int) (S : Option Addr) (n c : Nat) (l : List Int) (o A B C m : Int) (a b : Nat) (w : World) (hL : C25 L) (hm : Mem w S n c l) (ha : A = a) (a1 : a < 16) (hb : B = b) (b1 : b < 16) (m0 : -32768 ≤ m) (m1 : m ≤ 65535)
    (hc : rsC n l L (opVa L B m) (opSz o) 3 = 0) :
    Calls Tryd.prog 26 #[cpV L, .slice S n c, instV o A B C m] w (LsPost n (advL L) (stV (rsL n l L (opVa L B m) (opSz o) 3) (rsA n l L (opVa L B m) (opSz o) 3) (opSz o) (wd L a)) w) := by
  have hLL := hL.1
  have hv := opVa_bd L B m
  have HO := Lib.hid (fun W => operand_any L o A B C m b W hL hb b1 m0 m1)
  have HAE := Lib.hid ha
  clear ha
  have hok := acc_ok hv.1 hv.2 hc
  have hua := hL.bd a
  have HA := Lib.hid (fun W => advance_any L W hL)
  have hAL := hL.adv.1
  have ha0 : (0 : Int) ≤ a := by omega
  have ha1 : (a : Int) < 16 := by omega
  have ha25 : a < 25 := by omega
  generalize opVa L B m = va at *
  have HR := Lib.hid (fun W (hM : Mem W S n c l) => resolve_any L S n c l va (opSz o) 3 W hL hM hv.1 hv.2)
  generalize opSz o = sz at *
  rw [hc] at HR
  generalize rsA n l L va sz 3 = ad at *
  generalize rsL n l L va sz 3 = l' at *
  have HST := Lib.hid (fun W (S2 : Option Addr) (c2 : Nat) (hM : Mem W S2 n c2 l') => store_new S2 n c2 l' ad sz (wd L a) W hM hok.2.1 hok.2.2 hua.1 hua.2)
  unfold SnPost at HST
  rw [hok.1] at HST
  simp only [if_true] at HST
  clear hb hc
  generalize stV l' ad sz (wd L a) = l3 at *
  unfold instV at HO ⊢
  obtain ⟨F1, F2, F3, -⟩ := cw_facts
  go_enter Tryd.func26, Tryd.ntmps26
  go_wp2_with (first
    | (refine wpList_box_box rfl _ rfl rfl ?_; simp only [Act.put, List.setIfInBounds_toArray, List.set_cons_zero, List.set_cons_succ])
    | (refine wpList_alloc_box rfl rfl ?_; simp only [Act.put, List.setIfInBounds_toArray, List.set_cons_zero, List.set_cons_succ])
    | (refine wpList_load_look rfl _ rfl _ rfl (fun ob hob => ?_); simp [look_alloc, look_setRow, look_drew, look_drewN, look_setCell, Nat.add_assoc] at hob; subst hob; refine ⟨_, rfl, by (first | with_reducible assumption | (simp only [List.length_set]; with_reducible assumption) | exact Z25_len), ?_⟩; simp only [Act.put, List.setIfInBounds_toArray, List.set_cons_zero, List.set_cons_succ]))
  refine (HO.out _).mono ?_
  rintro e w1 ⟨rfl, hb1⟩
  have X3 := look_on (g := w.heap.size) (o := .cells (cw L).toArray 32 (0, 0)) (by simp [look_alloc] <;> omega) hb1 (by simp <;> omega)
  have X5 := look_on (g := w.heap.size + 1) (o := .cells #[.int .i64 o, .int .i64 A, .int .i64 B, .int .i64 C, .int .i32 m] 27 (0, 0)) (by simp [look_alloc]) hb1 (by simp <;> omega)
  have X6 := look_on (g := w.heap.size + 2) (o := .cells (cw Z25).toArray 32 (0, 0)) (by simp [look_alloc]) hb1 (by simp <;> omega)
  have bel : Below w.heap.size w w1 := Below.trans (by (repeat' (first | with_reducible exact Below.refl _ _ | with_reducible assumption | with_reducible apply below_drewN | with_reducible apply Below.drew | with_reducible apply Below.setCell | with_reducible apply Below.alloc | (simp; done) | omega | (simp; omega)))) (hb1.mono (by simp <;> omega))
  have hs1 : w.heap.size + 2 < w1.heap.size := Nat.lt_of_lt_of_le (by simp <;> omega) hb1.size
  clear hb1 HO
  go_wp2_with (first
    | (refine wpList_load_look rfl _ rfl _ rfl (fun ob hob => ?_); rw [X3] at hob; subst hob; refine ⟨_, rfl, hLL, ?_⟩; simp only [Act.put, List.setIfInBounds_toArray, List.set_cons_zero, List.set_cons_succ]))
  refine (HR.out _ (hm.on bel)).mono ?_
  rintro e w2 ⟨⟨S2, c2, rfl, hm2, hf2⟩, hb2⟩
  replace hf2 : Fresh (w.heap.size + 3) S2 n := hf2.le (by omega)
  replace X3 := look_on X3 hb2 (by omega)
  replace X5 := look_on X5 hb2 (by omega)
  replace X6 := look_on X6 hb2 (by omega)
  replace hs1 : w.heap.size + 2 < w2.heap.size := Nat.lt_of_lt_of_le hs1 hb2.size
  replace bel := below_step bel hb2
  clear hb2 HR
  have c1 : w2.cell? ⟨w.heap.size + 1, 1, none⟩ = some (.int .i64 (a : Int)) := by rw [← HAE.out]; exact cell_lk X5 1
  have cx : w2.cell? ⟨w.heap.size, a, none⟩ = some (.int .u32 (wd L a)) := (cell_lk X3 a).trans (by simpa using cw_at hLL ha25)
  go_wp2_with (first
    | (refine wpList_load_look rfl _ rfl _ rfl (fun ob hob => ?_); rw [X3] at hob; subst hob; refine ⟨_, rfl, hLL, ?_⟩; simp only [Act.put, List.setIfInBounds_toArray, List.set_cons_zero, List.set_cons_succ]))
  refine (HST.out _ _ _ hm2).mono ?_
  rintro e w3 ⟨⟨S3, c3, rfl, hm3, hf3⟩, hb3⟩
  replace hf3 : Fresh (w.heap.size + 3) S3 n := hf3.le (by omega)
  replace X3 := look_on X3 hb3 (by omega)
  replace X6 := look_on X6 hb3 (by omega)
  replace hs1 : w.heap.size + 2 < w3.heap.size := Nat.lt_of_lt_of_le hs1 hb3.size
  replace bel := below_step bel hb3
  clear hb3 HST c1 cx X5 hm2 hf2
  go_wp2_with (first
    | (refine wpList_load_look rfl _ rfl _ rfl (fun ob hob => ?_); rw [X3] at hob; subst hob; refine ⟨_, rfl, hLL, ?_⟩; simp only [Act.put, List.setIfInBounds_toArray, List.set_cons_zero, List.set_cons_succ]))
  refine (HA.out _).mono ?_
  rintro e w4 ⟨rfl, hb4⟩
  replace X6 := look_on X6 hb4 (by omega)
  replace bel := below_step bel hb4
  replace hm3 := hm3.on hb4
  clear hb4
  go_wp2_with (first
    | (refine wpList_store_look rfl _ _ rfl _ rfl rfl hAL (fun ob hob => by (rw [X6] at hob; subst hob; exact ⟨_, rfl, Z25_len⟩)) (fun w5 hw5 => ?_); subst hw5; simp only [Act.put, List.setIfInBounds_toArray, List.set_cons_zero, List.set_cons_succ]))
  refine bodyPost_ret (v := .tuple #[cpV (advL L), .slice S3 n c3]) (results_cpt (p := 6) (q := 7) rfl _ _ (w.heap.size + 2) rfl hAL (lk_row X6)) rfl ⟨⟨S3, c3, rfl, hm3.fresh hf3 (fun g hg => by show lk _ g = lk _ g; rw [look_setRow, if_neg (by omega)]), hf3.le (by omega)⟩, below_setRow bel _ (by omega) _⟩
theorem ldV_bd {l : List Int} (hu : U32 l) (a size : Int) : 0 ≤ ldV l a size ∧ ldV l a size ≤ 4294967295 := by
  unfold ldV; split
  · exact wd_bd hu _
  · generalize wd l (a / 4).toNat / 256 ^ (a % 4).toNat = q; omega
theorem setL_len (L : List Int) (r v : Int) : (setL L r v).length = L.length := by unfold setL; split <;> simp
set_option maxHeartbeats 4000000 in
theorem load_ok (L : List Int) (S : Option Addr) (n c : Nat) (l : List Int) (o A B C m : Int) (a b : Nat) (w : World) (hL : C25 L) (hm : Mem w S n c l) (ha : A = a) (a1 : a < 16) (hb : B = b) (b1 : b < 16) (m0 : -32768 ≤ m) (m1 : m ≤ 65535)
    (hc : rsC n l L (opVa L B m) (opSz o) 2 = 0) :
    Calls Tryd.prog 25 #[cpV L, .slice S n c, instV o A B C m] w (LsPost n (setL (advL L) A (ldE o (ldV (rsL n l L (opVa L B m) (opSz o) 2) (rsA n l L (opVa L B m) (opSz o) 2) (opSz o)))) (rsL n l L (opVa L B m) (opSz o) 2) w) := by
  have hLL := hL.1
  have hv := opVa_bd L B m
  have HO := Lib.hid (fun W => operand_any L o A B C m b W hL hb b1 m0 m1)
  have HAE := Lib.hid ha
  clear ha
  have hok := acc_ok hv.1 hv.2 hc
  have HA := Lib.hid (fun W => advance_any L W hL)
  have hAL := hL.adv.1
  have ha0 : (0 : Int) ≤ a := by omega
  have ha1 : (a : Int) < 16 := by omega
  have ha25 : a < 25 := by omega
  generalize opVa L B m = va at *
  have HR := Lib.hid (fun W (hM : Mem W S n c l) => resolve_any L S n c l va (opSz o) 2 W hL hM hv.1 hv.2)
  generalize opSz o = sz at *
  rw [hc] at HR
  generalize rsA n l L va sz 2 = ad at *
  generalize rsL n l L va sz 2 = l' at *
  have HLD := Lib.hid (fun W (S2 : Option Addr) (c2 : Nat) (hM : Mem W S2 n c2 l') => load_yes S2 n c2 l' ad sz W hM hok.2.1 hok.2.2 hok.1)
  have hx : ∀ {W : World} {S2 : Option Addr} {c2 : Nat}, Mem W S2 n c2 l' → 0 ≤ ldV l' ad sz ∧ ldV l' ad sz ≤ 4294967295 := fun hM => ldV_bd hM.2.2.2.1 ad sz
  generalize ldV l' ad sz = x at *
  have HS := Lib.hid (fun v W => setReg_any (advL L) a v W hL.adv a1)
  have hRL : (setL (advL L) (a : Int) (ldE o x)).length = 25 := by rw [setL_len]; exact hAL
  have HPA := Lib.hid (show LsPost n (setL (advL L) (a : Int) (ldE o x)) l' w = LsPost n (setL (advL L) A (ldE o x)) l' w by rw [HAE.out])
  rw [← HPA.out]
  clear hb hc HPA
  unfold instV at HO ⊢
  obtain ⟨F1, F2, F3, -⟩ := cw_facts
  by_cases ho : (o == 33) = true
  · have eo : o = 33 := by simpa using ho
    have eE : ldE o x = sext x 8 := by unfold ldE; rw [if_pos eo]
    rw [eE] at hRL ⊢
    clear eE eo
    go_enter Tryd.func25, Tryd.ntmps25
    go_wp2_with (first
      | (refine wpList_box_box rfl _ rfl rfl ?_; simp only [Act.put, List.setIfInBounds_toArray, List.set_cons_zero, List.set_cons_succ])
      | (refine wpList_alloc_box rfl rfl ?_; simp only [Act.put, List.setIfInBounds_toArray, List.set_cons_zero, List.set_cons_succ])
      | (refine wpList_load_look rfl _ rfl _ rfl (fun ob hob => ?_); simp [look_alloc, look_setRow, look_drew, look_drewN, look_setCell, Nat.add_assoc] at hob; subst hob; refine ⟨_, rfl, by (first | with_reducible assumption | (simp only [List.length_set]; with_reducible assumption) | exact Z25_len), ?_⟩; simp only [Act.put, List.setIfInBounds_toArray, List.set_cons_zero, List.set_cons_succ]))
    refine (HO.out _).mono ?_
    rintro e w1 ⟨rfl, hb1⟩
    have X3 := look_on (g := w.heap.size) (o := .cells (cw L).toArray 32 (0, 0)) (by simp [look_alloc] <;> omega) hb1 (by simp <;> omega)
    have X5 := look_on (g := w.heap.size + 1) (o := .cells #[.int .i64 o, .int .i64 A, .int .i64 B, .int .i64 C, .int .i32 m] 27 (0, 0)) (by simp [look_alloc]) hb1 (by simp <;> omega)
    have X6 := look_on (g := w.heap.size + 2) (o := .cells (cw Z25).toArray 32 (0, 0)) (by simp [look_alloc]) hb1 (by simp <;> omega)
    have bel : Below w.heap.size w w1 := Below.trans (by (repeat' (first | with_reducible exact Below.refl _ _ | with_reducible assumption | with_reducible apply below_drewN | with_reducible apply Below.drew | with_reducible apply Below.setCell | with_reducible apply Below.alloc | (simp; done) | omega | (simp; omega)))) (hb1.mono (by simp <;> omega))
    have hs1 : w.heap.size + 2 < w1.heap.size := Nat.lt_of_lt_of_le (by simp <;> omega) hb1.size
    clear hb1 HO
    go_wp2_with (first
      | (refine wpList_load_look rfl _ rfl _ rfl (fun ob hob => ?_); rw [X3] at hob; subst hob; refine ⟨_, rfl, hLL, ?_⟩; simp only [Act.put, List.setIfInBounds_toArray, List.set_cons_zero, List.set_cons_succ]))
    refine (HR.out _ (hm.on bel)).mono ?_
    rintro e w2 ⟨⟨S2, c2, rfl, hm2, hf2⟩, hb2⟩
    replace hf2 : Fresh (w.heap.size + 3) S2 n := hf2.le (by omega)
    replace X3 := look_on X3 hb2 (by omega)
    replace X5 := look_on X5 hb2 (by omega)
    replace X6 := look_on X6 hb2 (by omega)
    replace hs1 : w.heap.size + 2 < w2.heap.size := Nat.lt_of_lt_of_le hs1 hb2.size
    replace bel := below_step bel hb2
    clear hb2 HR
    have c0 : w2.cell? ⟨w.heap.size + 1, 0, none⟩ = some (.int .i64 o) := cell_lk X5 0
    have hxb := hx hm2
    go_wp2_with (first
      | (go_at_call 38; (with_reducible refine (HLD.out _ _ _ hm2).mono ?_); rintro e w3 ⟨rfl, m3, rfl⟩)
      | (go_at_call 45; refine (sext_any _ _ _ hxb.1 hxb.2).mono ?_; rintro e w4 ⟨rfl, m4, rfl⟩))
    obtain ⟨W, hW⟩ : ∃ W, w2.drewN (m3 + m4) = W := ⟨_, rfl⟩
    rw [hW]
    replace X3 : lk W w.heap.size = some (.cells (cw L).toArray 32 (0, 0)) := by rw [← hW]; exact X3
    replace X5 : lk W (w.heap.size + 1) = some (.cells #[.int .i64 o, .int .i64 A, .int .i64 B, .int .i64 C, .int .i32 m] 27 (0, 0)) := by rw [← hW]; exact X5
    replace X6 : lk W (w.heap.size + 2) = some (.cells (cw Z25).toArray 32 (0, 0)) := by rw [← hW]; exact X6
    replace hs1 : w.heap.size + 2 < W.heap.size := by rw [← hW]; exact hs1
    replace bel : Below w.heap.size w W := by rw [← hW]; exact below_drewN bel _
    replace hm2 : Mem W S2 n c2 l' := by rw [← hW]; exact hm2
    clear hW
    have bb : Below W.heap.size W W.drew := (Below.refl _ _).drew
    obtain ⟨fs, hu⟩ := undCpu
    have hi : (Tryd.prog.info? 32).map (·.size) = some (cw L).length := by rw [cw_len hLL]; exact infCpu
    have hrg : W.rangeAt w.heap.size 0 (cw L) := fun j u hu => by rw [Nat.zero_add]; exact (cell_lk X3 j).trans (by simpa using hu)
    have hcm : W.cell? ⟨w.heap.size + 1, 1, none⟩ = some (.int .i64 (a : Int)) := by rw [← HAE.out]; exact cell_lk X5 1
    unfold cpV at HA HS
    refine wp_region_held_drew (S := fun w' => w'.rangeAt w.heap.size 0 (cw L) ∧ w'.cell? ⟨w.heap.size + 1, 1, none⟩ = some (.int .i64 (a : Int))) (by kernel_rfl) ⟨range_on hrg bb (by omega), cell_on hcm bb⟩ (fun hHeld => ?_)
    (refine' wpAnyH_take (i := 0) (oi := _) (v := _) rfl (by kernel_rfl) (by kernel_rfl) (by kernel_rfl) (fun _ _ _ h => h) (yieldsIf_load_mid (by rfl) _ _ rfl _ 0 rfl (cw L) _ (fun w hw => hw.1) hu rfl hi) (by assumption) ?_; (try simp only [List.getElem_toArray, List.getElem_cons_succ, List.getElem_cons_zero, Act.put, List.setIfInBounds_toArray, List.set_cons_zero, List.set_cons_succ]))
    (refine wpAnyH_take (i := 2) (oi := _) (v := ?_) rfl (by kernel_rfl) (by kernel_rfl) (by kernel_rfl) (fun _ _ _ h => h) (Or.inl ⟨by rfl, ?_⟩) (by assumption) ?_; rotate_left 1; focus (intro w hSw; go_simp; try with_reducible rfl); (try simp only [List.getElem_toArray, List.getElem_cons_succ, List.getElem_cons_zero, Act.put, List.setIfInBounds_toArray, List.set_cons_zero, List.set_cons_succ]))
    (refine wpAnyH_take (i := 3) (oi := _) (v := ?_) rfl (by kernel_rfl) (by kernel_rfl) (by kernel_rfl) (fun _ _ _ h => h) (Or.inl ⟨by rfl, ?_⟩) (by assumption) ?_; rotate_left 1; focus (rintro w ⟨-, hSw⟩; go_simp; try with_reducible rfl); (try simp only [List.getElem_toArray, List.getElem_cons_succ, List.getElem_cons_zero, Act.put, List.setIfInBounds_toArray, List.set_cons_zero, List.set_cons_succ]))
    (refine wpAnyH_take (i := 4) (oi := _) (v := ?_) rfl (by kernel_rfl) (by kernel_rfl) (by kernel_rfl) (fun _ _ _ h => h) (Or.inl ⟨by rfl, ?_⟩) (by assumption) ?_; rotate_left 1; focus (intro w hSw; go_simp; try with_reducible rfl); (try simp only [List.getElem_toArray, List.getElem_cons_succ, List.getElem_cons_zero, Act.put, List.setIfInBounds_toArray, List.set_cons_zero, List.set_cons_succ]))
    (refine wpAnyH_take (i := 6) (oi := _) (v := ?_) rfl (by kernel_rfl) (by kernel_rfl) (by kernel_rfl) (fun _ _ _ h => h) (Or.inl ⟨by rfl, ?_⟩) (by assumption) ?_; rotate_left 1; focus (intro w hSw; go_simp; try with_reducible rfl); (try simp only [List.getElem_toArray, List.getElem_cons_succ, List.getElem_cons_zero, Act.put, List.setIfInBounds_toArray, List.set_cons_zero, List.set_cons_succ]))
    refine wpAnyH_ready (rs := [1]) (by kernel_rfl) (by simp) ?_
    refine AllReadyH.cons (o := _) rfl (fun K hK => ?_) AllReadyH.nil
    rw [if_pos (by rfl)]
    go_simp
    refine (HA.out _).mono ?_
    rintro e w5 ⟨rfl, hb5⟩
    replace bb := below_step bb hb5
    (try dsimp only)
    refine hK.out _ _ ?_ (fun hHeld => ?_)
    · exact ⟨range_on hrg bb (by omega), cell_on hcm bb⟩
    clear hK K hb5
    (try simp only [List.getElem_toArray, List.getElem_cons_succ, List.getElem_cons_zero, Act.put, List.setIfInBounds_toArray, List.set_cons_zero, List.set_cons_succ])
    refine wpAnyH_ready (rs := [5]) (by kernel_rfl) (by simp) ?_
    refine AllReadyH.cons (o := _) rfl (fun K hK => ?_) AllReadyH.nil
    rw [if_pos (by rfl)]
    go_simp
    refine (HS.out _ _).mono ?_
    rintro e w6 ⟨rfl, hb6⟩
    replace bb := below_step bb hb6
    (try dsimp only)
    refine hK.out _ _ ?_ (fun hHeld => ?_)
    · exact ⟨range_on hrg bb (by omega), cell_on hcm bb⟩
    clear hK K hb6
    (try simp only [List.getElem_toArray, List.getElem_cons_succ, List.getElem_cons_zero, Act.put, List.setIfInBounds_toArray, List.set_cons_zero, List.set_cons_succ])
    generalize setL (advL L) (a : Int) _ = R at *
    have Z6 := look_on X6 bb (by omega)
    have V3 : lk (w6.setRow (w.heap.size + 2) (cw R).toArray) w.heap.size = _ := lk_rowN (look_on X3 bb (by omega)) (by omega)
    have V5 : lk (w6.setRow (w.heap.size + 2) (cw R).toArray) (w.heap.size + 1) = _ := lk_rowN (look_on X5 bb (by omega)) (by omega)
    refine wpAnyH_ready (rs := [7]) (by kernel_rfl) (by simp) ?_
    refine AllReadyH.cons (o := _) rfl (fun K hK => ?_) AllReadyH.nil
    rw [if_pos (by rfl)]
    refine wp_store_cpu _ _ rfl _ rfl rfl hRL Z6 Z25_len ?_
    (try dsimp only)
    refine hK.out _ _ ?_ (fun hHeld => ?_)
    · exact ⟨fun j u hu => by rw [Nat.zero_add]; exact (cell_lk V3 j).trans (by simpa using hu), by rw [← HAE.out]; exact cell_lk V5 1⟩
    clear hK K
    (try simp only [List.getElem_toArray, List.getElem_cons_succ, List.getElem_cons_zero, Act.put, List.setIfInBounds_toArray, List.set_cons_zero, List.set_cons_succ])
    (refine wpAnyH_take (i := 8) (oi := _) (v := ?_) rfl (by kernel_rfl) (by kernel_rfl) (by kernel_rfl) (fun _ _ _ h => h) (Or.inl ⟨by rfl, ?_⟩) (by assumption) ?_; rotate_left 1; focus (intro w hSw; go_simp; try with_reducible rfl); (try simp only [List.getElem_toArray, List.getElem_cons_succ, List.getElem_cons_zero, Act.put, List.setIfInBounds_toArray, List.set_cons_zero, List.set_cons_succ]))
    refine wpAnyH_done (by kernel_rfl) ?_ _
    (try simp only [List.getElem_toArray, List.getElem_cons_succ, List.getElem_cons_zero, Act.put, List.setIfInBounds_toArray, List.set_cons_zero, List.set_cons_succ])
    go_wp2_with fail
    refine bodyPost_ret (v := .tuple #[cpV R, .slice S2 n c2]) (results_cpt (p := 6) (q := 7) rfl _ _ (w.heap.size + 2) rfl hRL (lk_row Z6)) rfl ⟨⟨S2, c2, rfl, (hm2.on bb).fresh hf2 (fun g hg => by show lk _ g = lk _ g; rw [look_setRow, if_neg (by omega)]), hf2.le (by omega)⟩, below_setRow (below_step bel bb) _ (by omega) _⟩
  · replace ho : (o == 33) = false := by simpa using ho
    have eo : ¬ o = 33 := by simpa using ho
    have eE : ldE o x = x := by unfold ldE; rw [if_neg eo]
    rw [eE] at hRL ⊢
    clear eE eo
    go_enter Tryd.func25, Tryd.ntmps25
    go_wp2_with (first
      | (refine wpList_box_box rfl _ rfl rfl ?_; simp only [Act.put, List.setIfInBounds_toArray, List.set_cons_zero, List.set_cons_succ])
      | (refine wpList_alloc_box rfl rfl ?_; simp only [Act.put, List.setIfInBounds_toArray, List.set_cons_zero, List.set_cons_succ])
      | (refine wpList_load_look rfl _ rfl _ rfl (fun ob hob => ?_); simp [look_alloc, look_setRow, look_drew, look_drewN, look_setCell, Nat.add_assoc] at hob; subst hob; refine ⟨_, rfl, by (first | with_reducible assumption | (simp only [List.length_set]; with_reducible assumption) | exact Z25_len), ?_⟩; simp only [Act.put, List.setIfInBounds_toArray, List.set_cons_zero, List.set_cons_succ]))
    refine (HO.out _).mono ?_
    rintro e w1 ⟨rfl, hb1⟩
    have X3 := look_on (g := w.heap.size) (o := .cells (cw L).toArray 32 (0, 0)) (by simp [look_alloc] <;> omega) hb1 (by simp <;> omega)
    have X5 := look_on (g := w.heap.size + 1) (o := .cells #[.int .i64 o, .int .i64 A, .int .i64 B, .int .i64 C, .int .i32 m] 27 (0, 0)) (by simp [look_alloc]) hb1 (by simp <;> omega)
    have X6 := look_on (g := w.heap.size + 2) (o := .cells (cw Z25).toArray 32 (0, 0)) (by simp [look_alloc]) hb1 (by simp <;> omega)
    have bel : Below w.heap.size w w1 := Below.trans (by (repeat' (first | with_reducible exact Below.refl _ _ | with_reducible assumption | with_reducible apply below_drewN | with_reducible apply Below.drew | with_reducible apply Below.setCell | with_reducible apply Below.alloc | (simp; done) | omega | (simp; omega)))) (hb1.mono (by simp <;> omega))
    have hs1 : w.heap.size + 2 < w1.heap.size := Nat.lt_of_lt_of_le (by simp <;> omega) hb1.size
    clear hb1 HO
    go_wp2_with (first
      | (refine wpList_load_look rfl _ rfl _ rfl (fun ob hob => ?_); rw [X3] at hob; subst hob; refine ⟨_, rfl, hLL, ?_⟩; simp only [Act.put, List.setIfInBounds_toArray, List.set_cons_zero, List.set_cons_succ]))
    refine (HR.out _ (hm.on bel)).mono ?_
    rintro e w2 ⟨⟨S2, c2, rfl, hm2, hf2⟩, hb2⟩
    replace hf2 : Fresh (w.heap.size + 3) S2 n := hf2.le (by omega)
    replace X3 := look_on X3 hb2 (by omega)
    replace X5 := look_on X5 hb2 (by omega)
    replace X6 := look_on X6 hb2 (by omega)
    replace hs1 : w.heap.size + 2 < w2.heap.size := Nat.lt_of_lt_of_le hs1 hb2.size
    replace bel := below_step bel hb2
    clear hb2 HR
    have c0 : w2.cell? ⟨w.heap.size + 1, 0, none⟩ = some (.int .i64 o) := cell_lk X5 0
    go_wp2_with (first
      | (go_at_call 38; (with_reducible refine (HLD.out _ _ _ hm2).mono ?_); rintro e w3 ⟨rfl, m3, rfl⟩))
    obtain ⟨W, hW⟩ : ∃ W, w2.drewN (m3) = W := ⟨_, rfl⟩
    rw [hW]
    replace X3 : lk W w.heap.size = some (.cells (cw L).toArray 32 (0, 0)) := by rw [← hW]; exact X3
    replace X5 : lk W (w.heap.size + 1) = some (.cells #[.int .i64 o, .int .i64 A, .int .i64 B, .int .i64 C, .int .i32 m] 27 (0, 0)) := by rw [← hW]; exact X5
    replace X6 : lk W (w.heap.size + 2) = some (.cells (cw Z25).toArray 32 (0, 0)) := by rw [← hW]; exact X6
    replace hs1 : w.heap.size + 2 < W.heap.size := by rw [← hW]; exact hs1
    replace bel : Below w.heap.size w W := by rw [← hW]; exact below_drewN bel _
    replace hm2 : Mem W S2 n c2 l' := by rw [← hW]; exact hm2
    clear hW
    have bb : Below W.heap.size W W.drew := (Below.refl _ _).drew
    obtain ⟨fs, hu⟩ := undCpu
    have hi : (Tryd.prog.info? 32).map (·.size) = some (cw L).length := by rw [cw_len hLL]; exact infCpu
    have hrg : W.rangeAt w.heap.size 0 (cw L) := fun j u hu => by rw [Nat.zero_add]; exact (cell_lk X3 j).trans (by simpa using hu)
    have hcm : W.cell? ⟨w.heap.size + 1, 1, none⟩ = some (.int .i64 (a : Int)) := by rw [← HAE.out]; exact cell_lk X5 1
    unfold cpV at HA HS
    refine wp_region_held_drew (S := fun w' => w'.rangeAt w.heap.size 0 (cw L) ∧ w'.cell? ⟨w.heap.size + 1, 1, none⟩ = some (.int .i64 (a : Int))) (by kernel_rfl) ⟨range_on hrg bb (by omega), cell_on hcm bb⟩ (fun hHeld => ?_)
    (refine' wpAnyH_take (i := 0) (oi := _) (v := _) rfl (by kernel_rfl) (by kernel_rfl) (by kernel_rfl) (fun _ _ _ h => h) (yieldsIf_load_mid (by rfl) _ _ rfl _ 0 rfl (cw L) _ (fun w hw => hw.1) hu rfl hi) (by assumption) ?_; (try simp only [List.getElem_toArray, List.getElem_cons_succ, List.getElem_cons_zero, Act.put, List.setIfInBounds_toArray, List.set_cons_zero, List.set_cons_succ]))
    (refine wpAnyH_take (i := 2) (oi := _) (v := ?_) rfl (by kernel_rfl) (by kernel_rfl) (by kernel_rfl) (fun _ _ _ h => h) (Or.inl ⟨by rfl, ?_⟩) (by assumption) ?_; rotate_left 1; focus (intro w hSw; go_simp; try with_reducible rfl); (try simp only [List.getElem_toArray, List.getElem_cons_succ, List.getElem_cons_zero, Act.put, List.setIfInBounds_toArray, List.set_cons_zero, List.set_cons_succ]))
    (refine wpAnyH_take (i := 3) (oi := _) (v := ?_) rfl (by kernel_rfl) (by kernel_rfl) (by kernel_rfl) (fun _ _ _ h => h) (Or.inl ⟨by rfl, ?_⟩) (by assumption) ?_; rotate_left 1; focus (rintro w ⟨-, hSw⟩; go_simp; try with_reducible rfl); (try simp only [List.getElem_toArray, List.getElem_cons_succ, List.getElem_cons_zero, Act.put, List.setIfInBounds_toArray, List.set_cons_zero, List.set_cons_succ]))
    (refine wpAnyH_take (i := 4) (oi := _) (v := ?_) rfl (by kernel_rfl) (by kernel_rfl) (by kernel_rfl) (fun _ _ _ h => h) (Or.inl ⟨by rfl, ?_⟩) (by assumption) ?_; rotate_left 1; focus (intro w hSw; go_simp; try with_reducible rfl); (try simp only [List.getElem_toArray, List.getElem_cons_succ, List.getElem_cons_zero, Act.put, List.setIfInBounds_toArray, List.set_cons_zero, List.set_cons_succ]))
    (refine wpAnyH_take (i := 6) (oi := _) (v := ?_) rfl (by kernel_rfl) (by kernel_rfl) (by kernel_rfl) (fun _ _ _ h => h) (Or.inl ⟨by rfl, ?_⟩) (by assumption) ?_; rotate_left 1; focus (intro w hSw; go_simp; try with_reducible rfl); (try simp only [List.getElem_toArray, List.getElem_cons_succ, List.getElem_cons_zero, Act.put, List.setIfInBounds_toArray, List.set_cons_zero, List.set_cons_succ]))
    refine wpAnyH_ready (rs := [1]) (by kernel_rfl) (by simp) ?_
    refine AllReadyH.cons (o := _) rfl (fun K hK => ?_) AllReadyH.nil
    rw [if_pos (by rfl)]
    go_simp
    refine (HA.out _).mono ?_
    rintro e w5 ⟨rfl, hb5⟩
    replace bb := below_step bb hb5
    (try dsimp only)
    refine hK.out _ _ ?_ (fun hHeld => ?_)
    · exact ⟨range_on hrg bb (by omega), cell_on hcm bb⟩
    clear hK K hb5
    (try simp only [List.getElem_toArray, List.getElem_cons_succ, List.getElem_cons_zero, Act.put, List.setIfInBounds_toArray, List.set_cons_zero, List.set_cons_succ])
    refine wpAnyH_ready (rs := [5]) (by kernel_rfl) (by simp) ?_
    refine AllReadyH.cons (o := _) rfl (fun K hK => ?_) AllReadyH.nil
    rw [if_pos (by rfl)]
    go_simp
    refine (HS.out _ _).mono ?_
    rintro e w6 ⟨rfl, hb6⟩
    replace bb := below_step bb hb6
    (try dsimp only)
    refine hK.out _ _ ?_ (fun hHeld => ?_)
    · exact ⟨range_on hrg bb (by omega), cell_on hcm bb⟩
    clear hK K hb6
    (try simp only [List.getElem_toArray, List.getElem_cons_succ, List.getElem_cons_zero, Act.put, List.setIfInBounds_toArray, List.set_cons_zero, List.set_cons_succ])
    generalize setL (advL L) (a : Int) _ = R at *
    have Z6 := look_on X6 bb (by omega)
    have V3 : lk (w6.setRow (w.heap.size + 2) (cw R).toArray) w.heap.size = _ := lk_rowN (look_on X3 bb (by omega)) (by omega)
    have V5 : lk (w6.setRow (w.heap.size + 2) (cw R).toArray) (w.heap.size + 1) = _ := lk_rowN (look_on X5 bb (by omega)) (by omega)
    refine wpAnyH_ready (rs := [7]) (by kernel_rfl) (by simp) ?_
    refine AllReadyH.cons (o := _) rfl (fun K hK => ?_) AllReadyH.nil
    rw [if_pos (by rfl)]
    refine wp_store_cpu _ _ rfl _ rfl rfl hRL Z6 Z25_len ?_
    (try dsimp only)
    refine hK.out _ _ ?_ (fun hHeld => ?_)
    · exact ⟨fun j u hu => by rw [Nat.zero_add]; exact (cell_lk V3 j).trans (by simpa using hu), by rw [← HAE.out]; exact cell_lk V5 1⟩
    clear hK K
    (try simp only [List.getElem_toArray, List.getElem_cons_succ, List.getElem_cons_zero, Act.put, List.setIfInBounds_toArray, List.set_cons_zero, List.set_cons_succ])
    (refine wpAnyH_take (i := 8) (oi := _) (v := ?_) rfl (by kernel_rfl) (by kernel_rfl) (by kernel_rfl) (fun _ _ _ h => h) (Or.inl ⟨by rfl, ?_⟩) (by assumption) ?_; rotate_left 1; focus (intro w hSw; go_simp; try with_reducible rfl); (try simp only [List.getElem_toArray, List.getElem_cons_succ, List.getElem_cons_zero, Act.put, List.setIfInBounds_toArray, List.set_cons_zero, List.set_cons_succ]))
    refine wpAnyH_done (by kernel_rfl) ?_ _
    (try simp only [List.getElem_toArray, List.getElem_cons_succ, List.getElem_cons_zero, Act.put, List.setIfInBounds_toArray, List.set_cons_zero, List.set_cons_succ])
    go_wp2_with fail
    refine bodyPost_ret (v := .tuple #[cpV R, .slice S2 n c2]) (results_cpt (p := 6) (q := 7) rfl _ _ (w.heap.size + 2) rfl hRL (lk_row Z6)) rfl ⟨⟨S2, c2, rfl, (hm2.on bb).fresh hf2 (fun g hg => by show lk _ g = lk _ g; rw [look_setRow, if_neg (by omega)]), hf2.le (by omega)⟩, below_setRow (below_step bel bb) _ (by omega) _⟩
theorem load_all (L : List Int) (S : Option Addr) (n c : Nat) (l : List Int) (o A B C m : Int) (a b : Nat) (w : World) (hL : C25 L) (hm : Mem w S n c l) (ha : A = a) (a1 : a < 16) (hb : B = b) (b1 : b < 16) (m0 : -32768 ≤ m) (m1 : m ≤ 65535) :
    Calls Tryd.prog 25 #[cpV L, .slice S n c, instV o A B C m] w (LsPost n (ldX n l L o A B m) (ldM n l L o B m) w) := by
  unfold ldX ldM
  by_cases h : rsC n l L (opVa L B m) (opSz o) 2 = 0
  · rw [if_pos h]; exact load_ok L S n c l o A B C m a b w hL hm ha a1 hb b1 m0 m1 h
  · rw [if_neg h]; exact load_fault L S n c l o A B C m b w hL hm hb b1 m0 m1 h
theorem store_all (L : List Int) (S : Option Addr) (n c : Nat) (l : List Int) (o A B C m : Int) (a b : Nat) (w : World) (hL : C25 L) (hm : Mem w S n c l) (ha : A = a) (a1 : a < 16) (hb : B = b) (b1 : b < 16) (m0 : -32768 ≤ m) (m1 : m ≤ 65535) :
    Calls Tryd.prog 26 #[cpV L, .slice S n c, instV o A B C m] w (LsPost n (stX n l L o B m) (stM n l L o A B m) w) := by
  unfold stX stM
  have e : wd L A.toNat = wd L a := by rw [ha, Int.toNat_natCast]
  rw [e]
  by_cases h : rsC n l L (opVa L B m) (opSz o) 3 = 0
  · rw [if_pos h, if_pos h]; exact store_ok L S n c l o A B C m a b w hL hm ha a1 hb b1 m0 m1 h
  · rw [if_neg h, if_neg h]; exact store_fault L S n c l o A B C m b w hL hm hb b1 m0 m1 h
theorem ldX_len {n : Nat} {l L : List Int} {o A B m : Int} (hL : L.length = 25) : (ldX n l L o A B m).length = 25 := by
  unfold ldX advL trapL; split
  · rw [setL_len]; simpa using hL
  · simpa using hL
theorem stX_len {n : Nat} {l L : List Int} {o B m : Int} (hL : L.length = 25) : (stX n l L o B m).length = 25 := by
  unfold stX advL trapL; split <;> simpa using hL
end Go.Proofs.YtfnfbdjbdbifaaaDoor

namespace Go.Proofs.YtfnfbdjbdbifaaaDoor
set_option linter.unusedVariables false
set_option linter.unusedSimpArgs false
set_option maxRecDepth 20000
open Go.ChangeShapes Go.WideShapes Go.ChangeAt Go.RowKit Go.Proofs.YtfnfbdjbdbifaaaDoor.Num Go.Proofs.YtfnfbdjbdbifaaaDoor.Mem Go.Proofs.YtfnfbdjbdbifaaaDoor.Isa
/- Exec: loads, stores, steps. -/
theorem range_lk {w : World} {g : Nat} {cs : List Value} {T : TypeId} (h : lk w g = some (.cells cs.toArray T (0, 0))) : w.rangeAt g 0 cs := fun j u hu => by
  rw [Nat.zero_add]
  exact (cell_lk h j).trans (by simpa using hu)
theorem Mem.lt {w : World} {S : Option Addr} {n c : Nat} {l : List Int} (h : Mem w S n c l) : ∀ b off, S = some ⟨b, off, none⟩ → 0 < n → b < w.heap.size := fun b off hS hn => by
  obtain ⟨h1, _, _, _, h5⟩ := h
  obtain ⟨b', off', hA, hc⟩ := h5 (by omega)
  rw [hS] at hA
  injection hA with hA; injection hA with hA _
  subst hA
  exact block_lt_of_cell (hc 0 (by omega))
theorem Mem.setRow {w : World} {S : Option Addr} {n c g : Nat} {l : List Int} {cs : Array Value} (h : Mem w S n c l) (hg : ∀ b off, S = some ⟨b, off, none⟩ → 0 < n → ¬ b = g) : Mem (w.setRow g cs) S n c l := by
  obtain ⟨h1, h2, h3, h4, h5⟩ := h
  refine ⟨h1, h2, h3, h4, fun h0 => ?_⟩
  obtain ⟨b, off, hA, hc⟩ := h5 h0
  refine ⟨b, off, hA, fun i hi => ?_⟩
  have := hc i hi
  unfold World.cell? at this ⊢
  simp only at this ⊢
  have e : (w.setRow g cs).heap[b]? = w.heap[b]? := by
    show lk _ b = lk _ b
    rw [look_setRow, if_neg (fun e => hg b off hA (by omega) e.symm)]
  rw [e]
  exact this
theorem undInst : ∃ fs, Tryd.prog.underlying 27 = some (.struct fs) := ⟨_, Tryd.underlying27⟩
theorem infEff : (Tryd.prog.info? 37).map (·.size) = some 4 := by kernel_rfl
theorem infInst : (Tryd.prog.info? 27).map (·.size) = some 5 := by kernel_rfl
set_option maxHeartbeats 4000000 in
theorem exec_ld (L : List Int) (S : Option Addr) (n c : Nat) (l : List Int) (o A B C m : Int) (a b : Nat) (w : World) (hL : C25 L) (hm : Mem w S n c l) (h0 : ftC n l L = 0) (hd : dOk (ftW n l L)) (hX : 0 ≤ ftW n l L ∧ ftW n l L ≤ 4294967295)
    (eo : dOp (ftW n l L) = o) (ea : dA (ftW n l L) = A) (eb : dB (ftW n l L) = B) (ec : dC (ftW n l L) = C) (em : dM (ftW n l L) = m) (ha : A = a) (a1 : a < 16) (hb : B = b) (b1 : b < 16) (m0 : -32768 ≤ m) (m1 : m ≤ 65535) (ho : 32 ≤ o ∧ o ≤ 34) :
    Calls Tryd.prog 8 #[cpV L, .slice S n c] w (ExPost n (ldX n (ftL n l L) L o A B m) (ldM n (ftL n l L) L o B m) (efV (efK o) (efP o m) (efR o A) (efU L o A)) w) := by
  have HF := Lib.hid (fun W (hM : Mem W S n c l) => fetch_any L S n c l W hL hM)
  rw [h0] at HF
  have hLL := hL.1
  generalize ftL n l L = l' at *
  generalize ftW n l L = X at *
  have HD := Lib.hid (fun W => decode_any X W hX.1 hX.2)
  rw [decide_eq_true hd, show zOp X = o by unfold zOp; rw [if_pos hd, eo], show zA X = A by unfold zA; rw [if_pos hd, ea], show zB X = B by unfold zB; rw [if_pos hd, eb], show zC X = C by unfold zC; rw [if_pos hd, ec], show zM X = m by unfold zM; rw [if_pos hd, em]] at HD
  have HP := Lib.hid (fun W => priv_any o W)
  rw [show decide (57 ≤ o ∧ o ≤ 64) = false from decide_eq_false (by omega)] at HP
  have HW := Lib.hid (fun W S2 c2 (hM : Mem W S2 n c2 l') => load_all L S2 n c2 l' o A B C m a b W hL hM ha a1 hb b1 m0 m1)
  have HEF := Lib.hid (fun W => effect_any L o A B C m a W hL ha a1 m0 m1)
  generalize efK o = eK at *
  generalize efP o m = eP at *
  generalize efR o A = eR at *
  generalize efU L o A = eU at *
  have hRL := ldX_len (n := n) (l := l') (o := o) (A := A) (B := B) (m := m) hLL
  generalize ldX n l' L o A B m = R at *
  generalize ldM n l' L o B m = l3 at *
  unfold instV at HW HEF
  clear hd h0 eo ea eb ec em ha hb
  obtain ⟨F1, F2, F3, -⟩ := cw_facts
  go_enter Tryd.func8, Tryd.ntmps8
  go_wp2_with (first
    | (refine wpList_box_box rfl _ rfl rfl ?_; simp only [Act.put, List.setIfInBounds_toArray, List.set_cons_zero, List.set_cons_succ])
    | (refine wpList_alloc_box rfl rfl ?_; simp only [Act.put, List.setIfInBounds_toArray, List.set_cons_zero, List.set_cons_succ])
    | (refine wpList_load_look rfl _ rfl _ rfl (fun ob hob => ?_); simp [look_alloc, look_setRow, look_drew, look_drewN, look_setCell, Nat.add_assoc] at hob; subst hob; refine ⟨_, rfl, by (first | with_reducible assumption | (simp only [List.length_set]; with_reducible assumption) | exact Z25_len), ?_⟩; simp only [Act.put, List.setIfInBounds_toArray, List.set_cons_zero, List.set_cons_succ]))
  (refine (HF.out _ (hm.on (by (repeat' (first | with_reducible exact Below.refl _ _ | with_reducible assumption | with_reducible apply below_drewN | with_reducible apply Below.drew | with_reducible apply Below.setCell | with_reducible apply Below.alloc | (simp; done) | omega | (simp; omega)))))).mono ?_; rintro e w1 ⟨⟨S1, c1, rfl, hm1, hf1⟩, hb1⟩; replace hf1 : Fresh (w.heap.size + 3) S1 n := hf1.le (by simp <;> omega); have hs1 : w.heap.size + 2 < w1.heap.size := Nat.lt_of_lt_of_le (by simp <;> omega) hb1.size; have bel : Below w.heap.size w w1 := Below.trans (by (repeat' (first | with_reducible exact Below.refl _ _ | with_reducible assumption | with_reducible apply below_drewN | with_reducible apply Below.drew | with_reducible apply Below.setCell | with_reducible apply Below.alloc | (simp; done) | omega | (simp; omega)))) (hb1.mono (by simp <;> omega)); have X2 := look_on (g := w.heap.size) (o := .cells (cw L).toArray 32 (0, 0)) (by simp [look_alloc, look_setRow, look_drew, look_drewN, look_setCell, Nat.add_assoc]) hb1 (by simp <;> omega); have X4 := look_on (g := w.heap.size + 1) (o := .cells (cw Z25).toArray 32 (0, 0)) (by simp [look_alloc, look_setRow, look_drew, look_drewN, look_setCell, Nat.add_assoc]) hb1 (by simp <;> omega); have X6 := look_on (g := w.heap.size + 2) (o := .cells #[.int .i64 0, .int .i64 0, .int .i64 0, .int .u32 0] 37 (0, 0)) (by simp [look_alloc, look_setRow, look_drew, look_drewN, look_setCell, Nat.add_assoc]) hb1 (by simp <;> omega); clear hb1; have N0 : ¬ w.heap.size = w1.heap.size := (by omega); have N1 : ¬ w.heap.size + 1 = w1.heap.size := (by omega); have N2 : ¬ w.heap.size + 2 = w1.heap.size := (by omega))
  go_wp2_with (first
    | (refine wpList_load_look rfl _ rfl _ rfl (fun ob hob => ?_); simp [look_alloc, look_setRow, look_drew, look_drewN, look_setCell, Nat.add_assoc, X2, X4, X6, N0, N1, N2] at hob; subst hob; refine ⟨_, rfl, by (first | with_reducible assumption | (simp only [List.length_set]; with_reducible assumption) | exact Z25_len), ?_⟩; simp only [Act.put, List.setIfInBounds_toArray, List.set_cons_zero, List.set_cons_succ])
    | (refine wpList_store_look rfl _ _ rfl _ rfl rfl (by (first | with_reducible assumption | (simp only [List.length_set]; with_reducible assumption) | exact Z25_len)) (fun ob hob => by (simp [look_alloc, look_setRow, look_drew, look_drewN, look_setCell, Nat.add_assoc, X2, X4, X6, N0, N1, N2] at hob; subst hob; exact ⟨_, rfl, by (first | with_reducible assumption | (simp only [List.length_set]; with_reducible assumption) | exact Z25_len)⟩)) (fun w2 hw2 => ?_); subst hw2; simp only [Act.put, List.setIfInBounds_toArray, List.set_cons_zero, List.set_cons_succ]))
  (refine (HD.out _).mono ?_; rintro e w2 ⟨rfl, hb2⟩; replace bel := below_step bel hb2; replace X2 := look_on X2 hb2 (by omega); replace X4 := look_on X4 hb2 (by omega); replace X6 := look_on X6 hb2 (by omega); replace hm1 := hm1.on hb2; replace hs1 : w.heap.size + 2 < w2.heap.size := Nat.lt_of_lt_of_le hs1 hb2.size; clear hb2 N0 N1 N2; have N0 : ¬ w.heap.size = w2.heap.size := (by omega); have N1 : ¬ w.heap.size + 1 = w2.heap.size := (by omega); have N2 : ¬ w.heap.size + 2 = w2.heap.size := (by omega))
  go_wp2_with fail
  refine (HP.out _).mono ?_
  rintro e w3 ⟨rfl, m3, rfl⟩
  go_wp2_with (first
    | (refine wpList_alloc_box rfl rfl ?_; simp only [Act.put, List.setIfInBounds_toArray, List.set_cons_zero, List.set_cons_succ])
    | (refine wpList_store_look rfl _ _ rfl _ rfl rfl (by (first | with_reducible assumption | (simp only [List.length_set]; with_reducible assumption) | exact Z25_len)) (fun ob hob => by (simp [look_alloc, look_setRow, look_drew, look_drewN, look_setCell, Nat.add_assoc] at hob; subst hob; exact ⟨_, rfl, by (first | with_reducible assumption | (simp only [List.length_set]; with_reducible assumption) | exact Z25_len)⟩)) (fun w2 hw2 => ?_); simp [row_alloc_same, row_alloc_old] at hw2; subst hw2; simp only [Act.put, List.setIfInBounds_toArray, List.set_cons_zero, List.set_cons_succ])
    | (refine wpList_load_look rfl _ rfl _ rfl (fun ob hob => ?_); simp [look_alloc, look_setRow, look_drew, look_drewN, look_setCell, Nat.add_assoc, X2, X4, X6, N0, N1, N2] at hob; subst hob; refine ⟨_, rfl, by (first | with_reducible assumption | (simp only [List.length_set]; with_reducible assumption) | exact Z25_len), ?_⟩; simp only [Act.put, List.setIfInBounds_toArray, List.set_cons_zero, List.set_cons_succ]))
  all_goals
    have hS1 : ∀ b off, S1 = some ⟨b, off, none⟩ → 0 < n → b < w2.heap.size := hm1.lt
    obtain ⟨gN, hgN⟩ : ∃ g, ((w2.alloc (.cells #[.int .i64 o, .int .i64 A, .int .i64 B, .int .i64 C, .int .i32 m] 27)).drewN m3).heap.size = g := ⟨_, rfl⟩
    have hgN' : w2.heap.size < gN := by rw [← hgN]; simp
    have hgI : w.heap.size + 2 < w2.heap.size := hs1
    have hbB : Below w.heap.size w ((w2.alloc (.cells #[.int .i64 o, .int .i64 A, .int .i64 B, .int .i64 C, .int .i32 m] 27)).drewN m3) := below_drewN (bel.alloc (by omega) _) _
    rw [hgN]
    generalize hW0 : World.alloc (World.drewN (World.alloc w2 _) m3) _ = W0
    replace bel : Below w.heap.size w W0 := by rw [← hW0]; exact hbB.alloc hbB.size _
    replace hs1 : gN < W0.heap.size := by rw [← hW0, ← hgN]; simp
    replace X2 : lk W0 w.heap.size = some (.cells (cw L).toArray 32 (0, 0)) := by rw [← hW0, look_alloc, if_neg (by simp; omega), look_drewN, look_alloc, if_neg (by omega)]; exact X2
    replace X4 : lk W0 (w.heap.size + 1) = some (.cells (cw Z25).toArray 32 (0, 0)) := by rw [← hW0, look_alloc, if_neg (by simp; omega), look_drewN, look_alloc, if_neg (by omega)]; exact X4
    replace X6 : lk W0 (w.heap.size + 2) = some (.cells #[.int .i64 0, .int .i64 0, .int .i64 0, .int .u32 0] 37 (0, 0)) := by rw [← hW0, look_alloc, if_neg (by simp; omega), look_drewN, look_alloc, if_neg (by omega)]; exact X6
    have XI : lk W0 w2.heap.size = some (.cells #[.int .i64 o, .int .i64 A, .int .i64 B, .int .i64 C, .int .i32 m] 27 (0, 0)) := by rw [← hW0, look_alloc, if_neg (by simp), look_drewN, look_alloc, if_pos rfl]
    have XN : lk W0 gN = some (.cells (cw L).toArray 32 (0, 0)) := by rw [← hW0, ← hgN, look_alloc, if_pos rfl]
    replace hm1 : Mem W0 S1 n c1 l' := by rw [← hW0]; exact hm1.on (by (repeat' (first | with_reducible exact Below.refl _ _ | with_reducible assumption | with_reducible apply below_drewN | with_reducible apply Below.drew | with_reducible apply Below.setCell | with_reducible apply Below.alloc | (simp; done) | omega | (simp; omega))))
    clear hW0 hbB hgN N0 N1 N2
    generalize w2.heap.size = gI at *
    refine (HW.out _ _ _ hm1).mono ?_
    rintro e w4 ⟨⟨S4, c4, rfl, hm4, hf4⟩, hb4⟩
    replace hf4 : Fresh (gN + 1) S4 n := hf4.le (by omega)
    have Y2 := look_on X2 hb4 (by omega)
    have Y4 := look_on X4 hb4 (by omega)
    have Y6 := look_on X6 hb4 (by omega)
    have YI := look_on XI hb4 (by omega)
    have YN := look_on XN hb4 (by omega)
    replace bel := below_step bel hb4
    replace hs1 : gN < w4.heap.size := Nat.lt_of_lt_of_le hs1 hb4.size
    clear hb4 X2 X4 X6 XI XN hm1
    go_wp2_with (first
      | (refine wpList_store_look rfl _ _ rfl _ rfl rfl hRL (fun ob hob => by (rw [YN] at hob; subst hob; exact ⟨_, rfl, hLL⟩)) (fun w5 hw5 => ?_); subst hw5; simp only [Act.put, List.setIfInBounds_toArray, List.set_cons_zero, List.set_cons_succ]))
    replace Y2 : lk (w4.setRow gN (cw R).toArray) w.heap.size = _ := lk_rowN Y2 (by omega)
    replace Y4 : lk (w4.setRow gN (cw R).toArray) (w.heap.size + 1) = _ := lk_rowN Y4 (by omega)
    replace Y6 : lk (w4.setRow gN (cw R).toArray) (w.heap.size + 2) = _ := lk_rowN Y6 (by omega)
    replace YI : lk (w4.setRow gN (cw R).toArray) gI = _ := lk_rowN YI (by omega)
    replace YN := lk_row (M := R) YN
    replace bel := below_setRow bel gN (by omega) (cw R).toArray
    have hm5 : Mem (w4.setRow gN (cw R).toArray) S4 n c4 l3 := hm4.fresh hf4 (fun g hg => by show lk _ g = lk _ g; rw [look_setRow, if_neg (by omega)])
    have hs5 : gN < (w4.setRow gN (cw R).toArray).heap.size := by rw [size_setRow]; exact hs1
    have hf5 : Fresh (w.heap.size + 3) S4 n := hf4.le (by omega)
    clear hm4 hf4
    generalize w4.setRow gN (cw R).toArray = W5 at *
    obtain ⟨fs, hu⟩ := undCpu
    have hi : (Tryd.prog.info? 32).map (·.size) = some (cw L).length := by rw [cw_len hLL]; exact infCpu
    have hiR : (Tryd.prog.info? 32).map (·.size) = some (cw R).length := by rw [cw_len hRL]; exact infCpu
    have hiI : (Tryd.prog.info? 27).map (·.size) = some ([.int .i64 o, .int .i64 A, .int .i64 B, .int .i64 C, .int .i32 m] : List Value).length := infInst
    obtain ⟨fI, huI⟩ := undInst
    unfold cpV at HEF
    refine wp_region_held_drew (S := fun w' => lk w' w.heap.size = some (.cells (cw L).toArray 32 (0, 0)) ∧ lk w' gN = some (.cells (cw R).toArray 32 (0, 0)) ∧ lk w' gI = some (.cells #[.int .i64 o, .int .i64 A, .int .i64 B, .int .i64 C, .int .i32 m] 27 (0, 0))) (by kernel_rfl) ⟨Y2, YN, YI⟩ (fun hHeld => ?_)
    (refine' wpAnyH_take (i := 0) (oi := _) (v := _) rfl (by kernel_rfl) (by kernel_rfl) (by kernel_rfl) (fun _ _ _ h => h) (yieldsIf_load_mid (by rfl) _ _ rfl _ 0 rfl (cw R) _ (fun w hw => range_lk hw.2.1) hu rfl hiR) (by assumption) ?_; (try simp only [List.getElem_toArray, List.getElem_cons_succ, List.getElem_cons_zero, Act.put, List.setIfInBounds_toArray, List.set_cons_zero, List.set_cons_succ]))
    (refine wpAnyH_take (i := 1) (oi := _) (v := ?_) rfl (by kernel_rfl) (by kernel_rfl) (by kernel_rfl) (fun _ _ _ h => h) (Or.inl ⟨by rfl, ?_⟩) (by assumption) ?_; rotate_left 1; focus (intro w hSw; go_simp; try with_reducible rfl); (try simp only [List.getElem_toArray, List.getElem_cons_succ, List.getElem_cons_zero, Act.put, List.setIfInBounds_toArray, List.set_cons_zero, List.set_cons_succ]))
    (refine' wpAnyH_take (i := 2) (oi := _) (v := _) rfl (by kernel_rfl) (by kernel_rfl) (by kernel_rfl) (fun _ _ _ h => h) (yieldsIf_load_mid (by rfl) _ _ rfl _ 0 rfl (cw L) _ (fun w hw => range_lk hw.1) hu rfl hi) (by assumption) ?_; (try simp only [List.getElem_toArray, List.getElem_cons_succ, List.getElem_cons_zero, Act.put, List.setIfInBounds_toArray, List.set_cons_zero, List.set_cons_succ]))
    (refine' wpAnyH_take (i := 3) (oi := _) (v := _) rfl (by kernel_rfl) (by kernel_rfl) (by kernel_rfl) (fun _ _ _ h => h) (yieldsIf_load_mid (by rfl) _ _ rfl _ 0 rfl [.int .i64 o, .int .i64 A, .int .i64 B, .int .i64 C, .int .i32 m] _ (fun w hw => range_lk hw.2.2) huI rfl hiI) (by assumption) ?_; (try simp only [List.getElem_toArray, List.getElem_cons_succ, List.getElem_cons_zero, Act.put, List.setIfInBounds_toArray, List.set_cons_zero, List.set_cons_succ]))
    have bb : Below W5.heap.size W5 W5.drew := (Below.refl _ _).drew
    refine wpAnyH_ready (rs := [4]) (by kernel_rfl) (by simp) ?_
    refine AllReadyH.cons (o := _) rfl (fun K hK => ?_) AllReadyH.nil
    rw [if_pos (by rfl)]
    go_simp
    refine (HEF.out _).mono ?_
    rintro e w6 ⟨rfl, hb6⟩
    replace bb := below_step bb hb6
    (try dsimp only)
    refine hK.out _ _ ?_ (fun hHeld => ?_)
    · exact ⟨look_on Y2 bb (by omega), look_on YN bb (by omega), look_on YI bb (by omega)⟩
    clear hK K hb6 hHeld
    (try simp only [List.getElem_toArray, List.getElem_cons_succ, List.getElem_cons_zero, Act.put, List.setIfInBounds_toArray, List.set_cons_zero, List.set_cons_succ])
    have Z2 := look_on Y2 bb (by omega)
    have Z4 := look_on Y4 bb (by omega)
    have Z6 := look_on Y6 bb (by omega)
    have ZI := look_on YI bb (by omega)
    have ZN := look_on YN bb (by omega)
    replace hm5 := hm5.on bb
    replace bel := below_step bel bb
    clear Y2 Y4 Y6 YI YN bb
    refine wpAnyH_ready (rs := [5]) (by kernel_rfl) (by simp) ?_
    refine AllReadyH.cons (o := _) rfl (fun K hK => ?_) AllReadyH.nil
    rw [if_pos (by rfl)]
    refine wp_store_cpu _ _ rfl _ rfl rfl hRL Z4 Z25_len ?_
    (try dsimp only)
    have V4 := lk_row (M := R) Z4
    have V6 : lk (w6.setRow (w.heap.size + 1) (cw R).toArray) (w.heap.size + 2) = _ := lk_rowN Z6 (by omega)
    have V2 : lk (w6.setRow (w.heap.size + 1) (cw R).toArray) w.heap.size = _ := lk_rowN Z2 (by omega)
    have VN : lk (w6.setRow (w.heap.size + 1) (cw R).toArray) gN = _ := lk_rowN ZN (by omega)
    have VI : lk (w6.setRow (w.heap.size + 1) (cw R).toArray) gI = _ := lk_rowN ZI (by omega)
    refine hK.out _ _ ?_ (fun hHeld => ?_)
    · exact ⟨V2, VN, VI⟩
    clear hK K
    (try simp only [List.getElem_toArray, List.getElem_cons_succ, List.getElem_cons_zero, Act.put, List.setIfInBounds_toArray, List.set_cons_zero, List.set_cons_succ])
    (refine wpAnyH_take (i := 6) (oi := _) (v := ?_) rfl (by kernel_rfl) (by kernel_rfl) (by kernel_rfl) (fun _ _ _ h => h) (Or.inl ⟨by rfl, ?_⟩) (by assumption) ?_; rotate_left 1; focus (intro w hSw; go_simp; try with_reducible rfl); (try simp only [List.getElem_toArray, List.getElem_cons_succ, List.getElem_cons_zero, Act.put, List.setIfInBounds_toArray, List.set_cons_zero, List.set_cons_succ]))
    refine wpAnyH_ready (rs := [7]) (by kernel_rfl) (by simp) ?_
    refine AllReadyH.cons (o := _) rfl (fun K hK => ?_) AllReadyH.nil
    rw [if_pos (by rfl)]
    refine wp_store_row 37 _ _ rfl (w.heap.size + 2) #[.int .i64 eK, .int .i64 eP, .int .i64 eR, .int .u32 eU] rfl rfl _ _ V6 infEff rfl (by simp [Value.oneCell']) ?_
    (try dsimp only)
    refine hK.out _ _ ?_ (fun hHeld => ?_)
    · exact ⟨lk_rowN V2 (by omega), lk_rowN VN (by omega), lk_rowN VI (by omega)⟩
    clear hK K
    (try simp only [List.getElem_toArray, List.getElem_cons_succ, List.getElem_cons_zero, Act.put, List.setIfInBounds_toArray, List.set_cons_zero, List.set_cons_succ])
    refine wpAnyH_done (by kernel_rfl) ?_ _
    (try simp only [List.getElem_toArray, List.getElem_cons_succ, List.getElem_cons_zero, Act.put, List.setIfInBounds_toArray, List.set_cons_zero, List.set_cons_succ])
    have U4 : lk ((w6.setRow (w.heap.size + 1) (cw R).toArray).setRow (w.heap.size + 2) #[.int .i64 eK, .int .i64 eP, .int .i64 eR, .int .u32 eU]) (w.heap.size + 1) = _ := lk_rowN V4 (by omega)
    have U6 : lk ((w6.setRow (w.heap.size + 1) (cw R).toArray).setRow (w.heap.size + 2) #[.int .i64 eK, .int .i64 eP, .int .i64 eR, .int .u32 eU]) (w.heap.size + 2) = some (.cells #[.int .i64 eK, .int .i64 eP, .int .i64 eR, .int .u32 eU] 37 (0, 0)) := by rw [look_setRow, if_pos rfl, V6]; rfl
    go_wp2_with fail
    refine bodyPost_ret (v := .tuple #[cpV R, .slice S4 n c4, efV eK eP eR eU]) (results_exec (p := 4) (q := 5) (r := 6) rfl _ _ (w.heap.size + 1) (w.heap.size + 2) rfl rfl hRL U4 U6) rfl ⟨⟨S4, c4, rfl, hm5.fresh hf5 (fun g hg => by show lk _ g = lk _ g; rw [look_setRow, if_neg (by omega), look_setRow, if_neg (by omega)]), hf5.le (by omega)⟩, below_setRow (below_setRow bel _ (by omega) _) _ (by omega) _⟩
set_option maxHeartbeats 4000000 in
theorem exec_st (L : List Int) (S : Option Addr) (n c : Nat) (l : List Int) (o A B C m : Int) (a b : Nat) (w : World) (hL : C25 L) (hm : Mem w S n c l) (h0 : ftC n l L = 0) (hd : dOk (ftW n l L)) (hX : 0 ≤ ftW n l L ∧ ftW n l L ≤ 4294967295)
    (eo : dOp (ftW n l L) = o) (ea : dA (ftW n l L) = A) (eb : dB (ftW n l L) = B) (ec : dC (ftW n l L) = C) (em : dM (ftW n l L) = m) (ha : A = a) (a1 : a < 16) (hb : B = b) (b1 : b < 16) (m0 : -32768 ≤ m) (m1 : m ≤ 65535) (ho : 35 ≤ o ∧ o ≤ 36) :
    Calls Tryd.prog 8 #[cpV L, .slice S n c] w (ExPost n (stX n (ftL n l L) L o B m) (stM n (ftL n l L) L o A B m) (efV (efK o) (efP o m) (efR o A) (efU L o A)) w) := by
  have HF := Lib.hid (fun W (hM : Mem W S n c l) => fetch_any L S n c l W hL hM)
  rw [h0] at HF
  have hLL := hL.1
  generalize ftL n l L = l' at *
  generalize ftW n l L = X at *
  have HD := Lib.hid (fun W => decode_any X W hX.1 hX.2)
  rw [decide_eq_true hd, show zOp X = o by unfold zOp; rw [if_pos hd, eo], show zA X = A by unfold zA; rw [if_pos hd, ea], show zB X = B by unfold zB; rw [if_pos hd, eb], show zC X = C by unfold zC; rw [if_pos hd, ec], show zM X = m by unfold zM; rw [if_pos hd, em]] at HD
  have HP := Lib.hid (fun W => priv_any o W)
  rw [show decide (57 ≤ o ∧ o ≤ 64) = false from decide_eq_false (by omega)] at HP
  have HW := Lib.hid (fun W S2 c2 (hM : Mem W S2 n c2 l') => store_all L S2 n c2 l' o A B C m a b W hL hM ha a1 hb b1 m0 m1)
  have HEF := Lib.hid (fun W => effect_any L o A B C m a W hL ha a1 m0 m1)
  generalize efK o = eK at *
  generalize efP o m = eP at *
  generalize efR o A = eR at *
  generalize efU L o A = eU at *
  have hRL := stX_len (n := n) (l := l') (o := o) (B := B) (m := m) hLL
  generalize stX n l' L o B m = R at *
  generalize stM n l' L o A B m = l3 at *
  unfold instV at HW HEF
  clear hd h0 eo ea eb ec em ha hb
  have n32 : (o == 32) = false := by rw [beq_eq_false_iff_ne]; omega
  have n33 : (o == 33) = false := by rw [beq_eq_false_iff_ne]; omega
  have n34 : (o == 34) = false := by rw [beq_eq_false_iff_ne]; omega
  obtain ⟨F1, F2, F3, -⟩ := cw_facts
  go_enter Tryd.func8, Tryd.ntmps8
  go_wp2_with (first
    | (refine wpList_box_box rfl _ rfl rfl ?_; simp only [Act.put, List.setIfInBounds_toArray, List.set_cons_zero, List.set_cons_succ])
    | (refine wpList_alloc_box rfl rfl ?_; simp only [Act.put, List.setIfInBounds_toArray, List.set_cons_zero, List.set_cons_succ])
    | (refine wpList_load_look rfl _ rfl _ rfl (fun ob hob => ?_); simp [look_alloc, look_setRow, look_drew, look_drewN, look_setCell, Nat.add_assoc] at hob; subst hob; refine ⟨_, rfl, by (first | with_reducible assumption | (simp only [List.length_set]; with_reducible assumption) | exact Z25_len), ?_⟩; simp only [Act.put, List.setIfInBounds_toArray, List.set_cons_zero, List.set_cons_succ]))
  (refine (HF.out _ (hm.on (by (repeat' (first | with_reducible exact Below.refl _ _ | with_reducible assumption | with_reducible apply below_drewN | with_reducible apply Below.drew | with_reducible apply Below.setCell | with_reducible apply Below.alloc | (simp; done) | omega | (simp; omega)))))).mono ?_; rintro e w1 ⟨⟨S1, c1, rfl, hm1, hf1⟩, hb1⟩; replace hf1 : Fresh (w.heap.size + 3) S1 n := hf1.le (by simp <;> omega); have hs1 : w.heap.size + 2 < w1.heap.size := Nat.lt_of_lt_of_le (by simp <;> omega) hb1.size; have bel : Below w.heap.size w w1 := Below.trans (by (repeat' (first | with_reducible exact Below.refl _ _ | with_reducible assumption | with_reducible apply below_drewN | with_reducible apply Below.drew | with_reducible apply Below.setCell | with_reducible apply Below.alloc | (simp; done) | omega | (simp; omega)))) (hb1.mono (by simp <;> omega)); have X2 := look_on (g := w.heap.size) (o := .cells (cw L).toArray 32 (0, 0)) (by simp [look_alloc, look_setRow, look_drew, look_drewN, look_setCell, Nat.add_assoc]) hb1 (by simp <;> omega); have X4 := look_on (g := w.heap.size + 1) (o := .cells (cw Z25).toArray 32 (0, 0)) (by simp [look_alloc, look_setRow, look_drew, look_drewN, look_setCell, Nat.add_assoc]) hb1 (by simp <;> omega); have X6 := look_on (g := w.heap.size + 2) (o := .cells #[.int .i64 0, .int .i64 0, .int .i64 0, .int .u32 0] 37 (0, 0)) (by simp [look_alloc, look_setRow, look_drew, look_drewN, look_setCell, Nat.add_assoc]) hb1 (by simp <;> omega); clear hb1; have N0 : ¬ w.heap.size = w1.heap.size := (by omega); have N1 : ¬ w.heap.size + 1 = w1.heap.size := (by omega); have N2 : ¬ w.heap.size + 2 = w1.heap.size := (by omega))
  go_wp2_with (first
    | (refine wpList_load_look rfl _ rfl _ rfl (fun ob hob => ?_); simp [look_alloc, look_setRow, look_drew, look_drewN, look_setCell, Nat.add_assoc, X2, X4, X6, N0, N1, N2] at hob; subst hob; refine ⟨_, rfl, by (first | with_reducible assumption | (simp only [List.length_set]; with_reducible assumption) | exact Z25_len), ?_⟩; simp only [Act.put, List.setIfInBounds_toArray, List.set_cons_zero, List.set_cons_succ])
    | (refine wpList_store_look rfl _ _ rfl _ rfl rfl (by (first | with_reducible assumption | (simp only [List.length_set]; with_reducible assumption) | exact Z25_len)) (fun ob hob => by (simp [look_alloc, look_setRow, look_drew, look_drewN, look_setCell, Nat.add_assoc, X2, X4, X6, N0, N1, N2] at hob; subst hob; exact ⟨_, rfl, by (first | with_reducible assumption | (simp only [List.length_set]; with_reducible assumption) | exact Z25_len)⟩)) (fun w2 hw2 => ?_); subst hw2; simp only [Act.put, List.setIfInBounds_toArray, List.set_cons_zero, List.set_cons_succ]))
  (refine (HD.out _).mono ?_; rintro e w2 ⟨rfl, hb2⟩; replace bel := below_step bel hb2; replace X2 := look_on X2 hb2 (by omega); replace X4 := look_on X4 hb2 (by omega); replace X6 := look_on X6 hb2 (by omega); replace hm1 := hm1.on hb2; replace hs1 : w.heap.size + 2 < w2.heap.size := Nat.lt_of_lt_of_le hs1 hb2.size; clear hb2 N0 N1 N2; have N0 : ¬ w.heap.size = w2.heap.size := (by omega); have N1 : ¬ w.heap.size + 1 = w2.heap.size := (by omega); have N2 : ¬ w.heap.size + 2 = w2.heap.size := (by omega))
  go_wp2_with fail
  refine (HP.out _).mono ?_
  rintro e w3 ⟨rfl, m3, rfl⟩
  go_wp2_with (first
    | (refine wpList_alloc_box rfl rfl ?_; simp only [Act.put, List.setIfInBounds_toArray, List.set_cons_zero, List.set_cons_succ])
    | (refine wpList_store_look rfl _ _ rfl _ rfl rfl (by (first | with_reducible assumption | (simp only [List.length_set]; with_reducible assumption) | exact Z25_len)) (fun ob hob => by (simp [look_alloc, look_setRow, look_drew, look_drewN, look_setCell, Nat.add_assoc] at hob; subst hob; exact ⟨_, rfl, by (first | with_reducible assumption | (simp only [List.length_set]; with_reducible assumption) | exact Z25_len)⟩)) (fun w2 hw2 => ?_); simp [row_alloc_same, row_alloc_old] at hw2; subst hw2; simp only [Act.put, List.setIfInBounds_toArray, List.set_cons_zero, List.set_cons_succ])
    | (refine wpList_load_look rfl _ rfl _ rfl (fun ob hob => ?_); simp [look_alloc, look_setRow, look_drew, look_drewN, look_setCell, Nat.add_assoc, X2, X4, X6, N0, N1, N2] at hob; subst hob; refine ⟨_, rfl, by (first | with_reducible assumption | (simp only [List.length_set]; with_reducible assumption) | exact Z25_len), ?_⟩; simp only [Act.put, List.setIfInBounds_toArray, List.set_cons_zero, List.set_cons_succ]))
  all_goals
    have hS1 : ∀ b off, S1 = some ⟨b, off, none⟩ → 0 < n → b < w2.heap.size := hm1.lt
    obtain ⟨gN, hgN⟩ : ∃ g, ((w2.alloc (.cells #[.int .i64 o, .int .i64 A, .int .i64 B, .int .i64 C, .int .i32 m] 27)).drewN m3).heap.size = g := ⟨_, rfl⟩
    have hgN' : w2.heap.size < gN := by rw [← hgN]; simp
    have hgI : w.heap.size + 2 < w2.heap.size := hs1
    have hbB : Below w.heap.size w ((w2.alloc (.cells #[.int .i64 o, .int .i64 A, .int .i64 B, .int .i64 C, .int .i32 m] 27)).drewN m3) := below_drewN (bel.alloc (by omega) _) _
    rw [hgN]
    generalize hW0 : World.alloc (World.drewN (World.alloc w2 _) m3) _ = W0
    replace bel : Below w.heap.size w W0 := by rw [← hW0]; exact hbB.alloc hbB.size _
    replace hs1 : gN < W0.heap.size := by rw [← hW0, ← hgN]; simp
    replace X2 : lk W0 w.heap.size = some (.cells (cw L).toArray 32 (0, 0)) := by rw [← hW0, look_alloc, if_neg (by simp; omega), look_drewN, look_alloc, if_neg (by omega)]; exact X2
    replace X4 : lk W0 (w.heap.size + 1) = some (.cells (cw Z25).toArray 32 (0, 0)) := by rw [← hW0, look_alloc, if_neg (by simp; omega), look_drewN, look_alloc, if_neg (by omega)]; exact X4
    replace X6 : lk W0 (w.heap.size + 2) = some (.cells #[.int .i64 0, .int .i64 0, .int .i64 0, .int .u32 0] 37 (0, 0)) := by rw [← hW0, look_alloc, if_neg (by simp; omega), look_drewN, look_alloc, if_neg (by omega)]; exact X6
    have XI : lk W0 w2.heap.size = some (.cells #[.int .i64 o, .int .i64 A, .int .i64 B, .int .i64 C, .int .i32 m] 27 (0, 0)) := by rw [← hW0, look_alloc, if_neg (by simp), look_drewN, look_alloc, if_pos rfl]
    have XN : lk W0 gN = some (.cells (cw L).toArray 32 (0, 0)) := by rw [← hW0, ← hgN, look_alloc, if_pos rfl]
    replace hm1 : Mem W0 S1 n c1 l' := by rw [← hW0]; exact hm1.on (by (repeat' (first | with_reducible exact Below.refl _ _ | with_reducible assumption | with_reducible apply below_drewN | with_reducible apply Below.drew | with_reducible apply Below.setCell | with_reducible apply Below.alloc | (simp; done) | omega | (simp; omega))))
    clear hW0 hbB hgN N0 N1 N2
    generalize w2.heap.size = gI at *
    refine (HW.out _ _ _ hm1).mono ?_
    rintro e w4 ⟨⟨S4, c4, rfl, hm4, hf4⟩, hb4⟩
    replace hf4 : Fresh (gN + 1) S4 n := hf4.le (by omega)
    have Y2 := look_on X2 hb4 (by omega)
    have Y4 := look_on X4 hb4 (by omega)
    have Y6 := look_on X6 hb4 (by omega)
    have YI := look_on XI hb4 (by omega)
    have YN := look_on XN hb4 (by omega)
    replace bel := below_step bel hb4
    replace hs1 : gN < w4.heap.size := Nat.lt_of_lt_of_le hs1 hb4.size
    clear hb4 X2 X4 X6 XI XN hm1
    go_wp2_with (first
      | (refine wpList_store_look rfl _ _ rfl _ rfl rfl hRL (fun ob hob => by (rw [YN] at hob; subst hob; exact ⟨_, rfl, hLL⟩)) (fun w5 hw5 => ?_); subst hw5; simp only [Act.put, List.setIfInBounds_toArray, List.set_cons_zero, List.set_cons_succ]))
    replace Y2 : lk (w4.setRow gN (cw R).toArray) w.heap.size = _ := lk_rowN Y2 (by omega)
    replace Y4 : lk (w4.setRow gN (cw R).toArray) (w.heap.size + 1) = _ := lk_rowN Y4 (by omega)
    replace Y6 : lk (w4.setRow gN (cw R).toArray) (w.heap.size + 2) = _ := lk_rowN Y6 (by omega)
    replace YI : lk (w4.setRow gN (cw R).toArray) gI = _ := lk_rowN YI (by omega)
    replace YN := lk_row (M := R) YN
    replace bel := below_setRow bel gN (by omega) (cw R).toArray
    have hm5 : Mem (w4.setRow gN (cw R).toArray) S4 n c4 l3 := hm4.fresh hf4 (fun g hg => by show lk _ g = lk _ g; rw [look_setRow, if_neg (by omega)])
    have hs5 : gN < (w4.setRow gN (cw R).toArray).heap.size := by rw [size_setRow]; exact hs1
    have hf5 : Fresh (w.heap.size + 3) S4 n := hf4.le (by omega)
    clear hm4 hf4
    generalize w4.setRow gN (cw R).toArray = W5 at *
    obtain ⟨fs, hu⟩ := undCpu
    have hi : (Tryd.prog.info? 32).map (·.size) = some (cw L).length := by rw [cw_len hLL]; exact infCpu
    have hiR : (Tryd.prog.info? 32).map (·.size) = some (cw R).length := by rw [cw_len hRL]; exact infCpu
    have hiI : (Tryd.prog.info? 27).map (·.size) = some ([.int .i64 o, .int .i64 A, .int .i64 B, .int .i64 C, .int .i32 m] : List Value).length := infInst
    obtain ⟨fI, huI⟩ := undInst
    unfold cpV at HEF
    refine wp_region_held_drew (S := fun w' => lk w' w.heap.size = some (.cells (cw L).toArray 32 (0, 0)) ∧ lk w' gN = some (.cells (cw R).toArray 32 (0, 0)) ∧ lk w' gI = some (.cells #[.int .i64 o, .int .i64 A, .int .i64 B, .int .i64 C, .int .i32 m] 27 (0, 0))) (by kernel_rfl) ⟨Y2, YN, YI⟩ (fun hHeld => ?_)
    (refine' wpAnyH_take (i := 0) (oi := _) (v := _) rfl (by kernel_rfl) (by kernel_rfl) (by kernel_rfl) (fun _ _ _ h => h) (yieldsIf_load_mid (by rfl) _ _ rfl _ 0 rfl (cw R) _ (fun w hw => range_lk hw.2.1) hu rfl hiR) (by assumption) ?_; (try simp only [List.getElem_toArray, List.getElem_cons_succ, List.getElem_cons_zero, Act.put, List.setIfInBounds_toArray, List.set_cons_zero, List.set_cons_succ]))
    (refine wpAnyH_take (i := 1) (oi := _) (v := ?_) rfl (by kernel_rfl) (by kernel_rfl) (by kernel_rfl) (fun _ _ _ h => h) (Or.inl ⟨by rfl, ?_⟩) (by assumption) ?_; rotate_left 1; focus (intro w hSw; go_simp; try with_reducible rfl); (try simp only [List.getElem_toArray, List.getElem_cons_succ, List.getElem_cons_zero, Act.put, List.setIfInBounds_toArray, List.set_cons_zero, List.set_cons_succ]))
    (refine' wpAnyH_take (i := 2) (oi := _) (v := _) rfl (by kernel_rfl) (by kernel_rfl) (by kernel_rfl) (fun _ _ _ h => h) (yieldsIf_load_mid (by rfl) _ _ rfl _ 0 rfl (cw L) _ (fun w hw => range_lk hw.1) hu rfl hi) (by assumption) ?_; (try simp only [List.getElem_toArray, List.getElem_cons_succ, List.getElem_cons_zero, Act.put, List.setIfInBounds_toArray, List.set_cons_zero, List.set_cons_succ]))
    (refine' wpAnyH_take (i := 3) (oi := _) (v := _) rfl (by kernel_rfl) (by kernel_rfl) (by kernel_rfl) (fun _ _ _ h => h) (yieldsIf_load_mid (by rfl) _ _ rfl _ 0 rfl [.int .i64 o, .int .i64 A, .int .i64 B, .int .i64 C, .int .i32 m] _ (fun w hw => range_lk hw.2.2) huI rfl hiI) (by assumption) ?_; (try simp only [List.getElem_toArray, List.getElem_cons_succ, List.getElem_cons_zero, Act.put, List.setIfInBounds_toArray, List.set_cons_zero, List.set_cons_succ]))
    have bb : Below W5.heap.size W5 W5.drew := (Below.refl _ _).drew
    refine wpAnyH_ready (rs := [4]) (by kernel_rfl) (by simp) ?_
    refine AllReadyH.cons (o := _) rfl (fun K hK => ?_) AllReadyH.nil
    rw [if_pos (by rfl)]
    go_simp
    refine (HEF.out _).mono ?_
    rintro e w6 ⟨rfl, hb6⟩
    replace bb := below_step bb hb6
    (try dsimp only)
    refine hK.out _ _ ?_ (fun hHeld => ?_)
    · exact ⟨look_on Y2 bb (by omega), look_on YN bb (by omega), look_on YI bb (by omega)⟩
    clear hK K hb6 hHeld
    (try simp only [List.getElem_toArray, List.getElem_cons_succ, List.getElem_cons_zero, Act.put, List.setIfInBounds_toArray, List.set_cons_zero, List.set_cons_succ])
    have Z2 := look_on Y2 bb (by omega)
    have Z4 := look_on Y4 bb (by omega)
    have Z6 := look_on Y6 bb (by omega)
    have ZI := look_on YI bb (by omega)
    have ZN := look_on YN bb (by omega)
    replace hm5 := hm5.on bb
    replace bel := below_step bel bb
    clear Y2 Y4 Y6 YI YN bb
    refine wpAnyH_ready (rs := [5]) (by kernel_rfl) (by simp) ?_
    refine AllReadyH.cons (o := _) rfl (fun K hK => ?_) AllReadyH.nil
    rw [if_pos (by rfl)]
    refine wp_store_cpu _ _ rfl _ rfl rfl hRL Z4 Z25_len ?_
    (try dsimp only)
    have V4 := lk_row (M := R) Z4
    have V6 : lk (w6.setRow (w.heap.size + 1) (cw R).toArray) (w.heap.size + 2) = _ := lk_rowN Z6 (by omega)
    have V2 : lk (w6.setRow (w.heap.size + 1) (cw R).toArray) w.heap.size = _ := lk_rowN Z2 (by omega)
    have VN : lk (w6.setRow (w.heap.size + 1) (cw R).toArray) gN = _ := lk_rowN ZN (by omega)
    have VI : lk (w6.setRow (w.heap.size + 1) (cw R).toArray) gI = _ := lk_rowN ZI (by omega)
    refine hK.out _ _ ?_ (fun hHeld => ?_)
    · exact ⟨V2, VN, VI⟩
    clear hK K
    (try simp only [List.getElem_toArray, List.getElem_cons_succ, List.getElem_cons_zero, Act.put, List.setIfInBounds_toArray, List.set_cons_zero, List.set_cons_succ])
    (refine wpAnyH_take (i := 6) (oi := _) (v := ?_) rfl (by kernel_rfl) (by kernel_rfl) (by kernel_rfl) (fun _ _ _ h => h) (Or.inl ⟨by rfl, ?_⟩) (by assumption) ?_; rotate_left 1; focus (intro w hSw; go_simp; try with_reducible rfl); (try simp only [List.getElem_toArray, List.getElem_cons_succ, List.getElem_cons_zero, Act.put, List.setIfInBounds_toArray, List.set_cons_zero, List.set_cons_succ]))
    refine wpAnyH_ready (rs := [7]) (by kernel_rfl) (by simp) ?_
    refine AllReadyH.cons (o := _) rfl (fun K hK => ?_) AllReadyH.nil
    rw [if_pos (by rfl)]
    refine wp_store_row 37 _ _ rfl (w.heap.size + 2) #[.int .i64 eK, .int .i64 eP, .int .i64 eR, .int .u32 eU] rfl rfl _ _ V6 infEff rfl (by simp [Value.oneCell']) ?_
    (try dsimp only)
    refine hK.out _ _ ?_ (fun hHeld => ?_)
    · exact ⟨lk_rowN V2 (by omega), lk_rowN VN (by omega), lk_rowN VI (by omega)⟩
    clear hK K
    (try simp only [List.getElem_toArray, List.getElem_cons_succ, List.getElem_cons_zero, Act.put, List.setIfInBounds_toArray, List.set_cons_zero, List.set_cons_succ])
    refine wpAnyH_done (by kernel_rfl) ?_ _
    (try simp only [List.getElem_toArray, List.getElem_cons_succ, List.getElem_cons_zero, Act.put, List.setIfInBounds_toArray, List.set_cons_zero, List.set_cons_succ])
    have U4 : lk ((w6.setRow (w.heap.size + 1) (cw R).toArray).setRow (w.heap.size + 2) #[.int .i64 eK, .int .i64 eP, .int .i64 eR, .int .u32 eU]) (w.heap.size + 1) = _ := lk_rowN V4 (by omega)
    have U6 : lk ((w6.setRow (w.heap.size + 1) (cw R).toArray).setRow (w.heap.size + 2) #[.int .i64 eK, .int .i64 eP, .int .i64 eR, .int .u32 eU]) (w.heap.size + 2) = some (.cells #[.int .i64 eK, .int .i64 eP, .int .i64 eR, .int .u32 eU] 37 (0, 0)) := by rw [look_setRow, if_pos rfl, V6]; rfl
    go_wp2_with fail
    refine bodyPost_ret (v := .tuple #[cpV R, .slice S4 n c4, efV eK eP eR eU]) (results_exec (p := 4) (q := 5) (r := 6) rfl _ _ (w.heap.size + 1) (w.heap.size + 2) rfl rfl hRL U4 U6) rfl ⟨⟨S4, c4, rfl, hm5.fresh hf5 (fun g hg => by show lk _ g = lk _ g; rw [look_setRow, if_neg (by omega), look_setRow, if_neg (by omega)]), hf5.le (by omega)⟩, below_setRow (below_setRow bel _ (by omega) _) _ (by omega) _⟩
set_option maxHeartbeats 4000000 in
theorem exec_sp0 (L : List Int) (S : Option Addr) (n c : Nat) (l : List Int) (o A B C m : Int) (a : Nat) (w : World) (hL : C25 L) (hm : Mem w S n c l) (h0 : ftC n l L = 0) (hd : dOk (ftW n l L)) (hX : 0 ≤ ftW n l L ∧ ftW n l L ≤ 4294967295)
    (eo : dOp (ftW n l L) = o) (ea : dA (ftW n l L) = A) (eb : dB (ftW n l L) = B) (ec : dC (ftW n l L) = C) (em : dM (ftW n l L) = m) (ha : A = a) (a1 : a < 16) (m0 : -32768 ≤ m) (m1 : m ≤ 65535) (ho : ¬ (32 ≤ o ∧ o ≤ 36)) (hp : ¬ (57 ≤ o ∧ o ≤ 64)) (R : List Int) (hRL : R.length = 25)
    (HST : ∀ W, Calls Tryd.prog 27 #[cpV L, instV o A B C m] W fun e w' => e = .returned (cpV R) ∧ Below W.heap.size W w') :
    Calls Tryd.prog 8 #[cpV L, .slice S n c] w (ExPost n R (ftL n l L) (efV (efK o) (efP o m) (efR o A) (efU L o A)) w) := by
  have HF := Lib.hid (fun W (hM : Mem W S n c l) => fetch_any L S n c l W hL hM)
  rw [h0] at HF
  have hLL := hL.1
  generalize ftL n l L = l' at *
  generalize ftW n l L = X at *
  have HD := Lib.hid (fun W => decode_any X W hX.1 hX.2)
  rw [decide_eq_true hd, show zOp X = o by unfold zOp; rw [if_pos hd, eo], show zA X = A by unfold zA; rw [if_pos hd, ea], show zB X = B by unfold zB; rw [if_pos hd, eb], show zC X = C by unfold zC; rw [if_pos hd, ec], show zM X = m by unfold zM; rw [if_pos hd, em]] at HD
  have HP := Lib.hid (fun W => priv_any o W)
  rw [show decide (57 ≤ o ∧ o ≤ 64) = false from decide_eq_false (by omega)] at HP
  have HW := Lib.hid HST
  clear HST
  have HEF := Lib.hid (fun W => effect_any L o A B C m a W hL ha a1 m0 m1)
  generalize efK o = eK at *
  generalize efP o m = eP at *
  generalize efR o A = eR at *
  generalize efU L o A = eU at *
  unfold instV at HW HEF
  clear hd h0 eo ea eb ec em ha
  have n32 : (o == 32) = false := by rw [beq_eq_false_iff_ne]; omega
  have n33 : (o == 33) = false := by rw [beq_eq_false_iff_ne]; omega
  have n34 : (o == 34) = false := by rw [beq_eq_false_iff_ne]; omega
  have n35 : (o == 35) = false := by rw [beq_eq_false_iff_ne]; omega
  have n36 : (o == 36) = false := by rw [beq_eq_false_iff_ne]; omega
  obtain ⟨F1, F2, F3, -⟩ := cw_facts
  go_enter Tryd.func8, Tryd.ntmps8
  go_wp2_with (first
    | (refine wpList_box_box rfl _ rfl rfl ?_; simp only [Act.put, List.setIfInBounds_toArray, List.set_cons_zero, List.set_cons_succ])
    | (refine wpList_alloc_box rfl rfl ?_; simp only [Act.put, List.setIfInBounds_toArray, List.set_cons_zero, List.set_cons_succ])
    | (refine wpList_load_look rfl _ rfl _ rfl (fun ob hob => ?_); simp [look_alloc, look_setRow, look_drew, look_drewN, look_setCell, Nat.add_assoc] at hob; subst hob; refine ⟨_, rfl, by (first | with_reducible assumption | (simp only [List.length_set]; with_reducible assumption) | exact Z25_len), ?_⟩; simp only [Act.put, List.setIfInBounds_toArray, List.set_cons_zero, List.set_cons_succ]))
  (refine (HF.out _ (hm.on (by (repeat' (first | with_reducible exact Below.refl _ _ | with_reducible assumption | with_reducible apply below_drewN | with_reducible apply Below.drew | with_reducible apply Below.setCell | with_reducible apply Below.alloc | (simp; done) | omega | (simp; omega)))))).mono ?_; rintro e w1 ⟨⟨S1, c1, rfl, hm1, hf1⟩, hb1⟩; replace hf1 : Fresh (w.heap.size + 3) S1 n := hf1.le (by simp <;> omega); have hs1 : w.heap.size + 2 < w1.heap.size := Nat.lt_of_lt_of_le (by simp <;> omega) hb1.size; have bel : Below w.heap.size w w1 := Below.trans (by (repeat' (first | with_reducible exact Below.refl _ _ | with_reducible assumption | with_reducible apply below_drewN | with_reducible apply Below.drew | with_reducible apply Below.setCell | with_reducible apply Below.alloc | (simp; done) | omega | (simp; omega)))) (hb1.mono (by simp <;> omega)); have X2 := look_on (g := w.heap.size) (o := .cells (cw L).toArray 32 (0, 0)) (by simp [look_alloc, look_setRow, look_drew, look_drewN, look_setCell, Nat.add_assoc]) hb1 (by simp <;> omega); have X4 := look_on (g := w.heap.size + 1) (o := .cells (cw Z25).toArray 32 (0, 0)) (by simp [look_alloc, look_setRow, look_drew, look_drewN, look_setCell, Nat.add_assoc]) hb1 (by simp <;> omega); have X6 := look_on (g := w.heap.size + 2) (o := .cells #[.int .i64 0, .int .i64 0, .int .i64 0, .int .u32 0] 37 (0, 0)) (by simp [look_alloc, look_setRow, look_drew, look_drewN, look_setCell, Nat.add_assoc]) hb1 (by simp <;> omega); clear hb1; have N0 : ¬ w.heap.size = w1.heap.size := (by omega); have N1 : ¬ w.heap.size + 1 = w1.heap.size := (by omega); have N2 : ¬ w.heap.size + 2 = w1.heap.size := (by omega))
  go_wp2_with (first
    | (refine wpList_load_look rfl _ rfl _ rfl (fun ob hob => ?_); simp [look_alloc, look_setRow, look_drew, look_drewN, look_setCell, Nat.add_assoc, X2, X4, X6, N0, N1, N2] at hob; subst hob; refine ⟨_, rfl, by (first | with_reducible assumption | (simp only [List.length_set]; with_reducible assumption) | exact Z25_len), ?_⟩; simp only [Act.put, List.setIfInBounds_toArray, List.set_cons_zero, List.set_cons_succ])
    | (refine wpList_store_look rfl _ _ rfl _ rfl rfl (by (first | with_reducible assumption | (simp only [List.length_set]; with_reducible assumption) | exact Z25_len)) (fun ob hob => by (simp [look_alloc, look_setRow, look_drew, look_drewN, look_setCell, Nat.add_assoc, X2, X4, X6, N0, N1, N2] at hob; subst hob; exact ⟨_, rfl, by (first | with_reducible assumption | (simp only [List.length_set]; with_reducible assumption) | exact Z25_len)⟩)) (fun w2 hw2 => ?_); subst hw2; simp only [Act.put, List.setIfInBounds_toArray, List.set_cons_zero, List.set_cons_succ]))
  (refine (HD.out _).mono ?_; rintro e w2 ⟨rfl, hb2⟩; replace bel := below_step bel hb2; replace X2 := look_on X2 hb2 (by omega); replace X4 := look_on X4 hb2 (by omega); replace X6 := look_on X6 hb2 (by omega); replace hm1 := hm1.on hb2; replace hs1 : w.heap.size + 2 < w2.heap.size := Nat.lt_of_lt_of_le hs1 hb2.size; clear hb2 N0 N1 N2; have N0 : ¬ w.heap.size = w2.heap.size := (by omega); have N1 : ¬ w.heap.size + 1 = w2.heap.size := (by omega); have N2 : ¬ w.heap.size + 2 = w2.heap.size := (by omega))
  go_wp2_with fail
  refine (HP.out _).mono ?_
  rintro e w3 ⟨rfl, m3, rfl⟩
  go_wp2_with (first
    | (refine wpList_alloc_box rfl rfl ?_; simp only [Act.put, List.setIfInBounds_toArray, List.set_cons_zero, List.set_cons_succ])
    | (refine wpList_store_look rfl _ _ rfl _ rfl rfl (by (first | with_reducible assumption | (simp only [List.length_set]; with_reducible assumption) | exact Z25_len)) (fun ob hob => by (simp [look_alloc, look_setRow, look_drew, look_drewN, look_setCell, Nat.add_assoc] at hob; subst hob; exact ⟨_, rfl, by (first | with_reducible assumption | (simp only [List.length_set]; with_reducible assumption) | exact Z25_len)⟩)) (fun w2 hw2 => ?_); simp [row_alloc_same, row_alloc_old] at hw2; subst hw2; simp only [Act.put, List.setIfInBounds_toArray, List.set_cons_zero, List.set_cons_succ])
    | (refine wpList_load_look rfl _ rfl _ rfl (fun ob hob => ?_); simp [look_alloc, look_setRow, look_drew, look_drewN, look_setCell, Nat.add_assoc, X2, X4, X6, N0, N1, N2] at hob; subst hob; refine ⟨_, rfl, by (first | with_reducible assumption | (simp only [List.length_set]; with_reducible assumption) | exact Z25_len), ?_⟩; simp only [Act.put, List.setIfInBounds_toArray, List.set_cons_zero, List.set_cons_succ]))
  all_goals
    have hS1 : ∀ b off, S1 = some ⟨b, off, none⟩ → 0 < n → b < w2.heap.size := hm1.lt
    obtain ⟨gN, hgN⟩ : ∃ g, ((w2.alloc (.cells #[.int .i64 o, .int .i64 A, .int .i64 B, .int .i64 C, .int .i32 m] 27)).drewN m3).heap.size = g := ⟨_, rfl⟩
    have hgN' : w2.heap.size < gN := by rw [← hgN]; simp
    have hgI : w.heap.size + 2 < w2.heap.size := hs1
    have hbB : Below w.heap.size w ((w2.alloc (.cells #[.int .i64 o, .int .i64 A, .int .i64 B, .int .i64 C, .int .i32 m] 27)).drewN m3) := below_drewN (bel.alloc (by omega) _) _
    rw [hgN]
    generalize hW0 : World.alloc (World.drewN (World.alloc w2 _) m3) _ = W0
    replace bel : Below w.heap.size w W0 := by rw [← hW0]; exact hbB.alloc hbB.size _
    replace hs1 : gN < W0.heap.size := by rw [← hW0, ← hgN]; simp
    replace X2 : lk W0 w.heap.size = some (.cells (cw L).toArray 32 (0, 0)) := by rw [← hW0, look_alloc, if_neg (by simp; omega), look_drewN, look_alloc, if_neg (by omega)]; exact X2
    replace X4 : lk W0 (w.heap.size + 1) = some (.cells (cw Z25).toArray 32 (0, 0)) := by rw [← hW0, look_alloc, if_neg (by simp; omega), look_drewN, look_alloc, if_neg (by omega)]; exact X4
    replace X6 : lk W0 (w.heap.size + 2) = some (.cells #[.int .i64 0, .int .i64 0, .int .i64 0, .int .u32 0] 37 (0, 0)) := by rw [← hW0, look_alloc, if_neg (by simp; omega), look_drewN, look_alloc, if_neg (by omega)]; exact X6
    have XI : lk W0 w2.heap.size = some (.cells #[.int .i64 o, .int .i64 A, .int .i64 B, .int .i64 C, .int .i32 m] 27 (0, 0)) := by rw [← hW0, look_alloc, if_neg (by simp), look_drewN, look_alloc, if_pos rfl]
    have XN : lk W0 gN = some (.cells (cw L).toArray 32 (0, 0)) := by rw [← hW0, ← hgN, look_alloc, if_pos rfl]
    replace hm1 : Mem W0 S1 n c1 l' := by rw [← hW0]; exact hm1.on (by (repeat' (first | with_reducible exact Below.refl _ _ | with_reducible assumption | with_reducible apply below_drewN | with_reducible apply Below.drew | with_reducible apply Below.setCell | with_reducible apply Below.alloc | (simp; done) | omega | (simp; omega))))
    clear hW0 hbB hgN N0 N1 N2
    generalize w2.heap.size = gI at *
    refine (HW.out _).mono ?_
    rintro e w4 ⟨rfl, hb4⟩
    have hm4 := hm1.on hb4
    have Y2 := look_on X2 hb4 (by omega)
    have Y4 := look_on X4 hb4 (by omega)
    have Y6 := look_on X6 hb4 (by omega)
    have YI := look_on XI hb4 (by omega)
    have YN := look_on XN hb4 (by omega)
    replace bel := below_step bel hb4
    replace hs1 : gN < w4.heap.size := Nat.lt_of_lt_of_le hs1 hb4.size
    clear hb4 X2 X4 X6 XI XN hm1
    go_wp2_with (first
      | (refine wpList_store_look rfl _ _ rfl _ rfl rfl hRL (fun ob hob => by (rw [YN] at hob; subst hob; exact ⟨_, rfl, hLL⟩)) (fun w5 hw5 => ?_); subst hw5; simp only [Act.put, List.setIfInBounds_toArray, List.set_cons_zero, List.set_cons_succ]))
    replace Y2 : lk (w4.setRow gN (cw R).toArray) w.heap.size = _ := lk_rowN Y2 (by omega)
    replace Y4 : lk (w4.setRow gN (cw R).toArray) (w.heap.size + 1) = _ := lk_rowN Y4 (by omega)
    replace Y6 : lk (w4.setRow gN (cw R).toArray) (w.heap.size + 2) = _ := lk_rowN Y6 (by omega)
    replace YI : lk (w4.setRow gN (cw R).toArray) gI = _ := lk_rowN YI (by omega)
    replace YN := lk_row (M := R) YN
    replace bel := below_setRow bel gN (by omega) (cw R).toArray
    have hm5 : Mem (w4.setRow gN (cw R).toArray) S1 n c1 l' := hm4.setRow (fun b off hb hn => by have := hS1 b off hb hn; omega)
    have hs5 : gN < (w4.setRow gN (cw R).toArray).heap.size := by rw [size_setRow]; exact hs1
    have hf5 : Fresh (w.heap.size + 3) S1 n := hf1
    clear hm4 hf1
    generalize w4.setRow gN (cw R).toArray = W5 at *
    obtain ⟨fs, hu⟩ := undCpu
    have hi : (Tryd.prog.info? 32).map (·.size) = some (cw L).length := by rw [cw_len hLL]; exact infCpu
    have hiR : (Tryd.prog.info? 32).map (·.size) = some (cw R).length := by rw [cw_len hRL]; exact infCpu
    have hiI : (Tryd.prog.info? 27).map (·.size) = some ([.int .i64 o, .int .i64 A, .int .i64 B, .int .i64 C, .int .i32 m] : List Value).length := infInst
    obtain ⟨fI, huI⟩ := undInst
    unfold cpV at HEF
    refine wp_region_held_drew (S := fun w' => lk w' w.heap.size = some (.cells (cw L).toArray 32 (0, 0)) ∧ lk w' gN = some (.cells (cw R).toArray 32 (0, 0)) ∧ lk w' gI = some (.cells #[.int .i64 o, .int .i64 A, .int .i64 B, .int .i64 C, .int .i32 m] 27 (0, 0))) (by kernel_rfl) ⟨Y2, YN, YI⟩ (fun hHeld => ?_)
    (refine' wpAnyH_take (i := 0) (oi := _) (v := _) rfl (by kernel_rfl) (by kernel_rfl) (by kernel_rfl) (fun _ _ _ h => h) (yieldsIf_load_mid (by rfl) _ _ rfl _ 0 rfl (cw R) _ (fun w hw => range_lk hw.2.1) hu rfl hiR) (by assumption) ?_; (try simp only [List.getElem_toArray, List.getElem_cons_succ, List.getElem_cons_zero, Act.put, List.setIfInBounds_toArray, List.set_cons_zero, List.set_cons_succ]))
    (refine wpAnyH_take (i := 1) (oi := _) (v := ?_) rfl (by kernel_rfl) (by kernel_rfl) (by kernel_rfl) (fun _ _ _ h => h) (Or.inl ⟨by rfl, ?_⟩) (by assumption) ?_; rotate_left 1; focus (intro w hSw; go_simp; try with_reducible rfl); (try simp only [List.getElem_toArray, List.getElem_cons_succ, List.getElem_cons_zero, Act.put, List.setIfInBounds_toArray, List.set_cons_zero, List.set_cons_succ]))
    (refine' wpAnyH_take (i := 2) (oi := _) (v := _) rfl (by kernel_rfl) (by kernel_rfl) (by kernel_rfl) (fun _ _ _ h => h) (yieldsIf_load_mid (by rfl) _ _ rfl _ 0 rfl (cw L) _ (fun w hw => range_lk hw.1) hu rfl hi) (by assumption) ?_; (try simp only [List.getElem_toArray, List.getElem_cons_succ, List.getElem_cons_zero, Act.put, List.setIfInBounds_toArray, List.set_cons_zero, List.set_cons_succ]))
    (refine' wpAnyH_take (i := 3) (oi := _) (v := _) rfl (by kernel_rfl) (by kernel_rfl) (by kernel_rfl) (fun _ _ _ h => h) (yieldsIf_load_mid (by rfl) _ _ rfl _ 0 rfl [.int .i64 o, .int .i64 A, .int .i64 B, .int .i64 C, .int .i32 m] _ (fun w hw => range_lk hw.2.2) huI rfl hiI) (by assumption) ?_; (try simp only [List.getElem_toArray, List.getElem_cons_succ, List.getElem_cons_zero, Act.put, List.setIfInBounds_toArray, List.set_cons_zero, List.set_cons_succ]))
    have bb : Below W5.heap.size W5 W5.drew := (Below.refl _ _).drew
    refine wpAnyH_ready (rs := [4]) (by kernel_rfl) (by simp) ?_
    refine AllReadyH.cons (o := _) rfl (fun K hK => ?_) AllReadyH.nil
    rw [if_pos (by rfl)]
    go_simp
    refine (HEF.out _).mono ?_
    rintro e w6 ⟨rfl, hb6⟩
    replace bb := below_step bb hb6
    (try dsimp only)
    refine hK.out _ _ ?_ (fun hHeld => ?_)
    · exact ⟨look_on Y2 bb (by omega), look_on YN bb (by omega), look_on YI bb (by omega)⟩
    clear hK K hb6 hHeld
    (try simp only [List.getElem_toArray, List.getElem_cons_succ, List.getElem_cons_zero, Act.put, List.setIfInBounds_toArray, List.set_cons_zero, List.set_cons_succ])
    have Z2 := look_on Y2 bb (by omega)
    have Z4 := look_on Y4 bb (by omega)
    have Z6 := look_on Y6 bb (by omega)
    have ZI := look_on YI bb (by omega)
    have ZN := look_on YN bb (by omega)
    replace hm5 := hm5.on bb
    replace bel := below_step bel bb
    clear Y2 Y4 Y6 YI YN bb
    refine wpAnyH_ready (rs := [5]) (by kernel_rfl) (by simp) ?_
    refine AllReadyH.cons (o := _) rfl (fun K hK => ?_) AllReadyH.nil
    rw [if_pos (by rfl)]
    refine wp_store_cpu _ _ rfl _ rfl rfl hRL Z4 Z25_len ?_
    (try dsimp only)
    have V4 := lk_row (M := R) Z4
    have V6 : lk (w6.setRow (w.heap.size + 1) (cw R).toArray) (w.heap.size + 2) = _ := lk_rowN Z6 (by omega)
    have V2 : lk (w6.setRow (w.heap.size + 1) (cw R).toArray) w.heap.size = _ := lk_rowN Z2 (by omega)
    have VN : lk (w6.setRow (w.heap.size + 1) (cw R).toArray) gN = _ := lk_rowN ZN (by omega)
    have VI : lk (w6.setRow (w.heap.size + 1) (cw R).toArray) gI = _ := lk_rowN ZI (by omega)
    refine hK.out _ _ ?_ (fun hHeld => ?_)
    · exact ⟨V2, VN, VI⟩
    clear hK K
    (try simp only [List.getElem_toArray, List.getElem_cons_succ, List.getElem_cons_zero, Act.put, List.setIfInBounds_toArray, List.set_cons_zero, List.set_cons_succ])
    (refine wpAnyH_take (i := 6) (oi := _) (v := ?_) rfl (by kernel_rfl) (by kernel_rfl) (by kernel_rfl) (fun _ _ _ h => h) (Or.inl ⟨by rfl, ?_⟩) (by assumption) ?_; rotate_left 1; focus (intro w hSw; go_simp; try with_reducible rfl); (try simp only [List.getElem_toArray, List.getElem_cons_succ, List.getElem_cons_zero, Act.put, List.setIfInBounds_toArray, List.set_cons_zero, List.set_cons_succ]))
    refine wpAnyH_ready (rs := [7]) (by kernel_rfl) (by simp) ?_
    refine AllReadyH.cons (o := _) rfl (fun K hK => ?_) AllReadyH.nil
    rw [if_pos (by rfl)]
    refine wp_store_row 37 _ _ rfl (w.heap.size + 2) #[.int .i64 eK, .int .i64 eP, .int .i64 eR, .int .u32 eU] rfl rfl _ _ V6 infEff rfl (by simp [Value.oneCell']) ?_
    (try dsimp only)
    refine hK.out _ _ ?_ (fun hHeld => ?_)
    · exact ⟨lk_rowN V2 (by omega), lk_rowN VN (by omega), lk_rowN VI (by omega)⟩
    clear hK K
    (try simp only [List.getElem_toArray, List.getElem_cons_succ, List.getElem_cons_zero, Act.put, List.setIfInBounds_toArray, List.set_cons_zero, List.set_cons_succ])
    refine wpAnyH_done (by kernel_rfl) ?_ _
    (try simp only [List.getElem_toArray, List.getElem_cons_succ, List.getElem_cons_zero, Act.put, List.setIfInBounds_toArray, List.set_cons_zero, List.set_cons_succ])
    have U4 : lk ((w6.setRow (w.heap.size + 1) (cw R).toArray).setRow (w.heap.size + 2) #[.int .i64 eK, .int .i64 eP, .int .i64 eR, .int .u32 eU]) (w.heap.size + 1) = _ := lk_rowN V4 (by omega)
    have U6 : lk ((w6.setRow (w.heap.size + 1) (cw R).toArray).setRow (w.heap.size + 2) #[.int .i64 eK, .int .i64 eP, .int .i64 eR, .int .u32 eU]) (w.heap.size + 2) = some (.cells #[.int .i64 eK, .int .i64 eP, .int .i64 eR, .int .u32 eU] 37 (0, 0)) := by rw [look_setRow, if_pos rfl, V6]; rfl
    go_wp2_with fail
    refine bodyPost_ret (v := .tuple #[cpV R, .slice S1 n c1, efV eK eP eR eU]) (results_exec (p := 4) (q := 5) (r := 6) rfl _ _ (w.heap.size + 1) (w.heap.size + 2) rfl rfl hRL U4 U6) rfl ⟨⟨S1, c1, rfl, hm5.fresh hf5 (fun g hg => by show lk _ g = lk _ g; rw [look_setRow, if_neg (by omega), look_setRow, if_neg (by omega)]), hf5.le (by omega)⟩, below_setRow (below_setRow bel _ (by omega) _) _ (by omega) _⟩
end Go.Proofs.YtfnfbdjbdbifaaaDoor

namespace Go.Proofs.YtfnfbdjbdbifaaaDoor
set_option linter.unusedVariables false
set_option linter.unusedSimpArgs false
set_option maxRecDepth 20000
open Go.ChangeShapes Go.WideShapes Go.ChangeAt Go.RowKit Go.Proofs.YtfnfbdjbdbifaaaDoor.Num Go.Proofs.YtfnfbdjbdbifaaaDoor.Mem Go.Proofs.YtfnfbdjbdbifaaaDoor.Isa
set_option maxHeartbeats 4000000 in
theorem exec_sp1 (L : List Int) (S : Option Addr) (n c : Nat) (l : List Int) (o A B C m : Int) (a : Nat) (w : World) (hL : C25 L) (hm : Mem w S n c l) (h0 : ftC n l L = 0) (hd : dOk (ftW n l L)) (hX : 0 ≤ ftW n l L ∧ ftW n l L ≤ 4294967295)
    (eo : dOp (ftW n l L) = o) (ea : dA (ftW n l L) = A) (eb : dB (ftW n l L) = B) (ec : dC (ftW n l L) = C) (em : dM (ftW n l L) = m) (ha : A = a) (a1 : a < 16) (m0 : -32768 ≤ m) (m1 : m ≤ 65535) (ho : ¬ (32 ≤ o ∧ o ≤ 36)) (hp : 57 ≤ o ∧ o ≤ 64) (hk : kerB L = true) (R : List Int) (hRL : R.length = 25)
    (HST : ∀ W, Calls Tryd.prog 27 #[cpV L, instV o A B C m] W fun e w' => e = .returned (cpV R) ∧ Below W.heap.size W w') :
    Calls Tryd.prog 8 #[cpV L, .slice S n c] w (ExPost n R (ftL n l L) (efV (efK o) (efP o m) (efR o A) (efU L o A)) w) := by
  have HF := Lib.hid (fun W (hM : Mem W S n c l) => fetch_any L S n c l W hL hM)
  rw [h0] at HF
  have hLL := hL.1
  generalize ftL n l L = l' at *
  generalize ftW n l L = X at *
  have HD := Lib.hid (fun W => decode_any X W hX.1 hX.2)
  rw [decide_eq_true hd, show zOp X = o by unfold zOp; rw [if_pos hd, eo], show zA X = A by unfold zA; rw [if_pos hd, ea], show zB X = B by unfold zB; rw [if_pos hd, eb], show zC X = C by unfold zC; rw [if_pos hd, ec], show zM X = m by unfold zM; rw [if_pos hd, em]] at HD
  have HP := Lib.hid (fun W => priv_any o W)
  rw [show decide (57 ≤ o ∧ o ≤ 64) = true from decide_eq_true hp] at HP
  have HK := Lib.hid (fun W => kernel_any L W hL)
  rw [hk] at HK
  have HW := Lib.hid HST
  clear HST
  have HEF := Lib.hid (fun W => effect_any L o A B C m a W hL ha a1 m0 m1)
  generalize efK o = eK at *
  generalize efP o m = eP at *
  generalize efR o A = eR at *
  generalize efU L o A = eU at *
  unfold instV at HW HEF
  clear hd h0 eo ea eb ec em ha
  have n32 : (o == 32) = false := by rw [beq_eq_false_iff_ne]; omega
  have n33 : (o == 33) = false := by rw [beq_eq_false_iff_ne]; omega
  have n34 : (o == 34) = false := by rw [beq_eq_false_iff_ne]; omega
  have n35 : (o == 35) = false := by rw [beq_eq_false_iff_ne]; omega
  have n36 : (o == 36) = false := by rw [beq_eq_false_iff_ne]; omega
  obtain ⟨F1, F2, F3, -⟩ := cw_facts
  go_enter Tryd.func8, Tryd.ntmps8
  go_wp2_with (first
    | (refine wpList_box_box rfl _ rfl rfl ?_; simp only [Act.put, List.setIfInBounds_toArray, List.set_cons_zero, List.set_cons_succ])
    | (refine wpList_alloc_box rfl rfl ?_; simp only [Act.put, List.setIfInBounds_toArray, List.set_cons_zero, List.set_cons_succ])
    | (refine wpList_load_look rfl _ rfl _ rfl (fun ob hob => ?_); simp [look_alloc, look_setRow, look_drew, look_drewN, look_setCell, Nat.add_assoc] at hob; subst hob; refine ⟨_, rfl, by (first | with_reducible assumption | (simp only [List.length_set]; with_reducible assumption) | exact Z25_len), ?_⟩; simp only [Act.put, List.setIfInBounds_toArray, List.set_cons_zero, List.set_cons_succ]))
  (refine (HF.out _ (hm.on (by (repeat' (first | with_reducible exact Below.refl _ _ | with_reducible assumption | with_reducible apply below_drewN | with_reducible apply Below.drew | with_reducible apply Below.setCell | with_reducible apply Below.alloc | (simp; done) | omega | (simp; omega)))))).mono ?_; rintro e w1 ⟨⟨S1, c1, rfl, hm1, hf1⟩, hb1⟩; replace hf1 : Fresh (w.heap.size + 3) S1 n := hf1.le (by simp <;> omega); have hs1 : w.heap.size + 2 < w1.heap.size := Nat.lt_of_lt_of_le (by simp <;> omega) hb1.size; have bel : Below w.heap.size w w1 := Below.trans (by (repeat' (first | with_reducible exact Below.refl _ _ | with_reducible assumption | with_reducible apply below_drewN | with_reducible apply Below.drew | with_reducible apply Below.setCell | with_reducible apply Below.alloc | (simp; done) | omega | (simp; omega)))) (hb1.mono (by simp <;> omega)); have X2 := look_on (g := w.heap.size) (o := .cells (cw L).toArray 32 (0, 0)) (by simp [look_alloc, look_setRow, look_drew, look_drewN, look_setCell, Nat.add_assoc]) hb1 (by simp <;> omega); have X4 := look_on (g := w.heap.size + 1) (o := .cells (cw Z25).toArray 32 (0, 0)) (by simp [look_alloc, look_setRow, look_drew, look_drewN, look_setCell, Nat.add_assoc]) hb1 (by simp <;> omega); have X6 := look_on (g := w.heap.size + 2) (o := .cells #[.int .i64 0, .int .i64 0, .int .i64 0, .int .u32 0] 37 (0, 0)) (by simp [look_alloc, look_setRow, look_drew, look_drewN, look_setCell, Nat.add_assoc]) hb1 (by simp <;> omega); clear hb1; have N0 : ¬ w.heap.size = w1.heap.size := (by omega); have N1 : ¬ w.heap.size + 1 = w1.heap.size := (by omega); have N2 : ¬ w.heap.size + 2 = w1.heap.size := (by omega))
  go_wp2_with (first
    | (refine wpList_load_look rfl _ rfl _ rfl (fun ob hob => ?_); simp [look_alloc, look_setRow, look_drew, look_drewN, look_setCell, Nat.add_assoc, X2, X4, X6, N0, N1, N2] at hob; subst hob; refine ⟨_, rfl, by (first | with_reducible assumption | (simp only [List.length_set]; with_reducible assumption) | exact Z25_len), ?_⟩; simp only [Act.put, List.setIfInBounds_toArray, List.set_cons_zero, List.set_cons_succ])
    | (refine wpList_store_look rfl _ _ rfl _ rfl rfl (by (first | with_reducible assumption | (simp only [List.length_set]; with_reducible assumption) | exact Z25_len)) (fun ob hob => by (simp [look_alloc, look_setRow, look_drew, look_drewN, look_setCell, Nat.add_assoc, X2, X4, X6, N0, N1, N2] at hob; subst hob; exact ⟨_, rfl, by (first | with_reducible assumption | (simp only [List.length_set]; with_reducible assumption) | exact Z25_len)⟩)) (fun w2 hw2 => ?_); subst hw2; simp only [Act.put, List.setIfInBounds_toArray, List.set_cons_zero, List.set_cons_succ]))
  (refine (HD.out _).mono ?_; rintro e w2 ⟨rfl, hb2⟩; replace bel := below_step bel hb2; replace X2 := look_on X2 hb2 (by omega); replace X4 := look_on X4 hb2 (by omega); replace X6 := look_on X6 hb2 (by omega); replace hm1 := hm1.on hb2; replace hs1 : w.heap.size + 2 < w2.heap.size := Nat.lt_of_lt_of_le hs1 hb2.size; clear hb2 N0 N1 N2; have N0 : ¬ w.heap.size = w2.heap.size := (by omega); have N1 : ¬ w.heap.size + 1 = w2.heap.size := (by omega); have N2 : ¬ w.heap.size + 2 = w2.heap.size := (by omega))
  go_wp2_with fail
  refine (HP.out _).mono ?_
  rintro e w3 ⟨rfl, m3, rfl⟩
  go_wp2_with (first
    | (refine wpList_load_look_g rfl _ rfl _ rfl (fun ob hob => ?_); simp [look_alloc, look_setRow, look_drew, look_drewN, look_setCell, Nat.add_assoc, X2, X4, X6, N0, N1, N2] at hob; subst hob; refine ⟨_, rfl, by (first | with_reducible assumption | (simp only [List.length_set]; with_reducible assumption) | exact Z25_len), ?_⟩; simp only [Act.put, List.setIfInBounds_toArray, List.set_cons_zero, List.set_cons_succ]))
  refine (HK.out _).mono ?_
  rintro e w4 ⟨rfl, hb4⟩
  have hbB : Below w2.heap.size w2 w4 := Below.trans (by (repeat' (first | with_reducible exact Below.refl _ _ | with_reducible assumption | with_reducible apply below_drewN | with_reducible apply Below.drew | with_reducible apply Below.setCell | with_reducible apply Below.alloc | (simp; done) | omega | (simp; omega)))) (hb4.mono (by simp))
  have XI := look_on (g := w2.heap.size) (o := .cells #[.int .i64 o, .int .i64 A, .int .i64 B, .int .i64 C, .int .i32 m] 27 (0, 0)) (by rw [look_drewN, look_alloc, if_pos rfl]) hb4 (by simp)
  have hlt4 : w2.heap.size < w4.heap.size := Nat.lt_of_lt_of_le (by simp) hb4.size
  have hS1 : ∀ b off, S1 = some ⟨b, off, none⟩ → 0 < n → b < w2.heap.size := hm1.lt
  have hgI : w.heap.size + 2 < w2.heap.size := hs1
  replace bel := below_step bel hbB
  replace X2 := look_on X2 hbB (by omega)
  replace X4 := look_on X4 hbB (by omega)
  replace X6 := look_on X6 hbB (by omega)
  replace hm1 := hm1.on hbB
  have d0 : w4.cell? ⟨w2.heap.size, 0, none⟩ = some (.int .i64 o) := cell_lk XI 0
  have d1 : w4.cell? ⟨w2.heap.size, 1, none⟩ = some (.int .i64 A) := cell_lk XI 1
  have d2 : w4.cell? ⟨w2.heap.size, 2, none⟩ = some (.int .i64 B) := cell_lk XI 2
  have d3 : w4.cell? ⟨w2.heap.size, 3, none⟩ = some (.int .i64 C) := cell_lk XI 3
  have d4 : w4.cell? ⟨w2.heap.size, 4, none⟩ = some (.int .i32 m) := cell_lk XI 4
  clear hb4 hbB N0 N1 N2 hs1
  have N0 : ¬ w.heap.size = w4.heap.size := by omega
  have N1 : ¬ w.heap.size + 1 = w4.heap.size := by omega
  have N2 : ¬ w.heap.size + 2 = w4.heap.size := by omega
  have NI : ¬ w2.heap.size = w4.heap.size := by omega
  go_wp2_with (first
    | (refine wpList_alloc_box rfl rfl ?_; simp only [Act.put, List.setIfInBounds_toArray, List.set_cons_zero, List.set_cons_succ])
    | (refine wpList_store_look rfl _ _ rfl _ rfl rfl (by (first | with_reducible assumption | (simp only [List.length_set]; with_reducible assumption) | exact Z25_len)) (fun ob hob => by (simp [look_alloc, look_setRow, look_drew, look_drewN, look_setCell, Nat.add_assoc] at hob; subst hob; exact ⟨_, rfl, by (first | with_reducible assumption | (simp only [List.length_set]; with_reducible assumption) | exact Z25_len)⟩)) (fun w2 hw2 => ?_); simp [row_alloc_same, row_alloc_old] at hw2; subst hw2; simp only [Act.put, List.setIfInBounds_toArray, List.set_cons_zero, List.set_cons_succ])
    | (refine wpList_load_look rfl _ rfl _ rfl (fun ob hob => ?_); simp [look_alloc, look_setRow, look_drew, look_drewN, look_setCell, Nat.add_assoc, X2, X4, X6, N0, N1, N2] at hob; subst hob; refine ⟨_, rfl, by (first | with_reducible assumption | (simp only [List.length_set]; with_reducible assumption) | exact Z25_len), ?_⟩; simp only [Act.put, List.setIfInBounds_toArray, List.set_cons_zero, List.set_cons_succ]))
  all_goals
    generalize hW0 : World.alloc w4 _ = W0
    replace bel : Below w.heap.size w W0 := by rw [← hW0]; exact bel.alloc bel.size _
    have hs1 : w4.heap.size < W0.heap.size := by rw [← hW0]; simp
    replace X2 : lk W0 w.heap.size = some (.cells (cw L).toArray 32 (0, 0)) := by rw [← hW0, look_alloc, if_neg (by omega)]; exact X2
    replace X4 : lk W0 (w.heap.size + 1) = some (.cells (cw Z25).toArray 32 (0, 0)) := by rw [← hW0, look_alloc, if_neg (by omega)]; exact X4
    replace X6 : lk W0 (w.heap.size + 2) = some (.cells #[.int .i64 0, .int .i64 0, .int .i64 0, .int .u32 0] 37 (0, 0)) := by rw [← hW0, look_alloc, if_neg (by omega)]; exact X6
    replace XI : lk W0 w2.heap.size = some (.cells #[.int .i64 o, .int .i64 A, .int .i64 B, .int .i64 C, .int .i32 m] 27 (0, 0)) := by rw [← hW0, look_alloc, if_neg (by omega)]; exact XI
    have XN : lk W0 w4.heap.size = some (.cells (cw L).toArray 32 (0, 0)) := by rw [← hW0, look_alloc, if_pos rfl]
    replace hm1 : Mem W0 S1 n c1 l' := by rw [← hW0]; exact hm1.on (by (repeat' (first | with_reducible exact Below.refl _ _ | with_reducible assumption | with_reducible apply below_drewN | with_reducible apply Below.drew | with_reducible apply Below.setCell | with_reducible apply Below.alloc | (simp; done) | omega | (simp; omega))))
    clear hW0 N0 N1 N2 NI d0 d1 d2 d3 d4
    generalize w4.heap.size = gN at *
    generalize w2.heap.size = gI at *
    refine (HW.out _).mono ?_
    rintro e w7 ⟨rfl, hb4⟩
    have hm4 := hm1.on hb4
    have Y2 := look_on X2 hb4 (by omega)
    have Y4 := look_on X4 hb4 (by omega)
    have Y6 := look_on X6 hb4 (by omega)
    have YI := look_on XI hb4 (by omega)
    have YN := look_on XN hb4 (by omega)
    replace bel := below_step bel hb4
    replace hs1 : gN < w7.heap.size := Nat.lt_of_lt_of_le hs1 hb4.size
    clear hb4 X2 X4 X6 XI XN hm1
    go_wp2_with (first
      | (refine wpList_store_look rfl _ _ rfl _ rfl rfl hRL (fun ob hob => by (rw [YN] at hob; subst hob; exact ⟨_, rfl, hLL⟩)) (fun w5 hw5 => ?_); subst hw5; simp only [Act.put, List.setIfInBounds_toArray, List.set_cons_zero, List.set_cons_succ]))
    replace Y2 : lk (w7.setRow gN (cw R).toArray) w.heap.size = _ := lk_rowN Y2 (by omega)
    replace Y4 : lk (w7.setRow gN (cw R).toArray) (w.heap.size + 1) = _ := lk_rowN Y4 (by omega)
    replace Y6 : lk (w7.setRow gN (cw R).toArray) (w.heap.size + 2) = _ := lk_rowN Y6 (by omega)
    replace YI : lk (w7.setRow gN (cw R).toArray) gI = _ := lk_rowN YI (by omega)
    replace YN := lk_row (M := R) YN
    replace bel := below_setRow bel gN (by omega) (cw R).toArray
    have hm5 : Mem (w7.setRow gN (cw R).toArray) S1 n c1 l' := hm4.setRow (fun b off hb hn => by have := hS1 b off hb hn; omega)
    have hs5 : gN < (w7.setRow gN (cw R).toArray).heap.size := by rw [size_setRow]; exact hs1
    have hf5 : Fresh (w.heap.size + 3) S1 n := hf1
    clear hm4 hf1
    generalize w7.setRow gN (cw R).toArray = W5 at *
    obtain ⟨fs, hu⟩ := undCpu
    have hi : (Tryd.prog.info? 32).map (·.size) = some (cw L).length := by rw [cw_len hLL]; exact infCpu
    have hiR : (Tryd.prog.info? 32).map (·.size) = some (cw R).length := by rw [cw_len hRL]; exact infCpu
    have hiI : (Tryd.prog.info? 27).map (·.size) = some ([.int .i64 o, .int .i64 A, .int .i64 B, .int .i64 C, .int .i32 m] : List Value).length := infInst
    obtain ⟨fI, huI⟩ := undInst
    unfold cpV at HEF
    refine wp_region_held_drew (S := fun w' => lk w' w.heap.size = some (.cells (cw L).toArray 32 (0, 0)) ∧ lk w' gN = some (.cells (cw R).toArray 32 (0, 0)) ∧ lk w' gI = some (.cells #[.int .i64 o, .int .i64 A, .int .i64 B, .int .i64 C, .int .i32 m] 27 (0, 0))) (by kernel_rfl) ⟨Y2, YN, YI⟩ (fun hHeld => ?_)
    (refine' wpAnyH_take (i := 0) (oi := _) (v := _) rfl (by kernel_rfl) (by kernel_rfl) (by kernel_rfl) (fun _ _ _ h => h) (yieldsIf_load_mid (by rfl) _ _ rfl _ 0 rfl (cw R) _ (fun w hw => range_lk hw.2.1) hu rfl hiR) (by assumption) ?_; (try simp only [List.getElem_toArray, List.getElem_cons_succ, List.getElem_cons_zero, Act.put, List.setIfInBounds_toArray, List.set_cons_zero, List.set_cons_succ]))
    (refine wpAnyH_take (i := 1) (oi := _) (v := ?_) rfl (by kernel_rfl) (by kernel_rfl) (by kernel_rfl) (fun _ _ _ h => h) (Or.inl ⟨by rfl, ?_⟩) (by assumption) ?_; rotate_left 1; focus (intro w hSw; go_simp; try with_reducible rfl); (try simp only [List.getElem_toArray, List.getElem_cons_succ, List.getElem_cons_zero, Act.put, List.setIfInBounds_toArray, List.set_cons_zero, List.set_cons_succ]))
    (refine' wpAnyH_take (i := 2) (oi := _) (v := _) rfl (by kernel_rfl) (by kernel_rfl) (by kernel_rfl) (fun _ _ _ h => h) (yieldsIf_load_mid (by rfl) _ _ rfl _ 0 rfl (cw L) _ (fun w hw => range_lk hw.1) hu rfl hi) (by assumption) ?_; (try simp only [List.getElem_toArray, List.getElem_cons_succ, List.getElem_cons_zero, Act.put, List.setIfInBounds_toArray, List.set_cons_zero, List.set_cons_succ]))
    (refine' wpAnyH_take (i := 3) (oi := _) (v := _) rfl (by kernel_rfl) (by kernel_rfl) (by kernel_rfl) (fun _ _ _ h => h) (yieldsIf_load_mid (by rfl) _ _ rfl _ 0 rfl [.int .i64 o, .int .i64 A, .int .i64 B, .int .i64 C, .int .i32 m] _ (fun w hw => range_lk hw.2.2) huI rfl hiI) (by assumption) ?_; (try simp only [List.getElem_toArray, List.getElem_cons_succ, List.getElem_cons_zero, Act.put, List.setIfInBounds_toArray, List.set_cons_zero, List.set_cons_succ]))
    have bb : Below W5.heap.size W5 W5.drew := (Below.refl _ _).drew
    refine wpAnyH_ready (rs := [4]) (by kernel_rfl) (by simp) ?_
    refine AllReadyH.cons (o := _) rfl (fun K hK => ?_) AllReadyH.nil
    rw [if_pos (by rfl)]
    go_simp
    refine (HEF.out _).mono ?_
    rintro e w6 ⟨rfl, hb6⟩
    replace bb := below_step bb hb6
    (try dsimp only)
    refine hK.out _ _ ?_ (fun hHeld => ?_)
    · exact ⟨look_on Y2 bb (by omega), look_on YN bb (by omega), look_on YI bb (by omega)⟩
    clear hK K hb6 hHeld
    (try simp only [List.getElem_toArray, List.getElem_cons_succ, List.getElem_cons_zero, Act.put, List.setIfInBounds_toArray, List.set_cons_zero, List.set_cons_succ])
    have Z2 := look_on Y2 bb (by omega)
    have Z4 := look_on Y4 bb (by omega)
    have Z6 := look_on Y6 bb (by omega)
    have ZI := look_on YI bb (by omega)
    have ZN := look_on YN bb (by omega)
    replace hm5 := hm5.on bb
    replace bel := below_step bel bb
    clear Y2 Y4 Y6 YI YN bb
    refine wpAnyH_ready (rs := [5]) (by kernel_rfl) (by simp) ?_
    refine AllReadyH.cons (o := _) rfl (fun K hK => ?_) AllReadyH.nil
    rw [if_pos (by rfl)]
    refine wp_store_cpu _ _ rfl _ rfl rfl hRL Z4 Z25_len ?_
    (try dsimp only)
    have V4 := lk_row (M := R) Z4
    have V6 : lk (w6.setRow (w.heap.size + 1) (cw R).toArray) (w.heap.size + 2) = _ := lk_rowN Z6 (by omega)
    have V2 : lk (w6.setRow (w.heap.size + 1) (cw R).toArray) w.heap.size = _ := lk_rowN Z2 (by omega)
    have VN : lk (w6.setRow (w.heap.size + 1) (cw R).toArray) gN = _ := lk_rowN ZN (by omega)
    have VI : lk (w6.setRow (w.heap.size + 1) (cw R).toArray) gI = _ := lk_rowN ZI (by omega)
    refine hK.out _ _ ?_ (fun hHeld => ?_)
    · exact ⟨V2, VN, VI⟩
    clear hK K
    (try simp only [List.getElem_toArray, List.getElem_cons_succ, List.getElem_cons_zero, Act.put, List.setIfInBounds_toArray, List.set_cons_zero, List.set_cons_succ])
    (refine wpAnyH_take (i := 6) (oi := _) (v := ?_) rfl (by kernel_rfl) (by kernel_rfl) (by kernel_rfl) (fun _ _ _ h => h) (Or.inl ⟨by rfl, ?_⟩) (by assumption) ?_; rotate_left 1; focus (intro w hSw; go_simp; try with_reducible rfl); (try simp only [List.getElem_toArray, List.getElem_cons_succ, List.getElem_cons_zero, Act.put, List.setIfInBounds_toArray, List.set_cons_zero, List.set_cons_succ]))
    refine wpAnyH_ready (rs := [7]) (by kernel_rfl) (by simp) ?_
    refine AllReadyH.cons (o := _) rfl (fun K hK => ?_) AllReadyH.nil
    rw [if_pos (by rfl)]
    refine wp_store_row 37 _ _ rfl (w.heap.size + 2) #[.int .i64 eK, .int .i64 eP, .int .i64 eR, .int .u32 eU] rfl rfl _ _ V6 infEff rfl (by simp [Value.oneCell']) ?_
    (try dsimp only)
    refine hK.out _ _ ?_ (fun hHeld => ?_)
    · exact ⟨lk_rowN V2 (by omega), lk_rowN VN (by omega), lk_rowN VI (by omega)⟩
    clear hK K
    (try simp only [List.getElem_toArray, List.getElem_cons_succ, List.getElem_cons_zero, Act.put, List.setIfInBounds_toArray, List.set_cons_zero, List.set_cons_succ])
    refine wpAnyH_done (by kernel_rfl) ?_ _
    (try simp only [List.getElem_toArray, List.getElem_cons_succ, List.getElem_cons_zero, Act.put, List.setIfInBounds_toArray, List.set_cons_zero, List.set_cons_succ])
    have U4 : lk ((w6.setRow (w.heap.size + 1) (cw R).toArray).setRow (w.heap.size + 2) #[.int .i64 eK, .int .i64 eP, .int .i64 eR, .int .u32 eU]) (w.heap.size + 1) = _ := lk_rowN V4 (by omega)
    have U6 : lk ((w6.setRow (w.heap.size + 1) (cw R).toArray).setRow (w.heap.size + 2) #[.int .i64 eK, .int .i64 eP, .int .i64 eR, .int .u32 eU]) (w.heap.size + 2) = some (.cells #[.int .i64 eK, .int .i64 eP, .int .i64 eR, .int .u32 eU] 37 (0, 0)) := by rw [look_setRow, if_pos rfl, V6]; rfl
    go_wp2_with fail
    refine bodyPost_ret (v := .tuple #[cpV R, .slice S1 n c1, efV eK eP eR eU]) (results_exec (p := 4) (q := 5) (r := 6) rfl _ _ (w.heap.size + 1) (w.heap.size + 2) rfl rfl hRL U4 U6) rfl ⟨⟨S1, c1, rfl, hm5.fresh hf5 (fun g hg => by show lk _ g = lk _ g; rw [look_setRow, if_neg (by omega), look_setRow, if_neg (by omega)]), hf5.le (by omega)⟩, below_setRow (below_setRow bel _ (by omega) _) _ (by omega) _⟩
set_option maxHeartbeats 1000000 in
theorem exec_flt (L : List Int) (S : Option Addr) (n c : Nat) (l : List Int) (w : World) (hL : C25 L) (hm : Mem w S n c l) (h0 : ¬ ftC n l L = 0) :
    Calls Tryd.prog 8 #[cpV L, .slice S n c] w (ExPost n (trapL L (ftC n l L) (wd L 16)) (ftL n l L) (efV 0 0 0 0) w) := by
  have HF := Lib.hid (fun W (hM : Mem W S n c l) => fetch_any L S n c l W hL hM)
  have hLL := hL.1
  have h16 := hL.bd 16
  have HT := Lib.hid (fun W => trap_any L (ftC n l L) (wd L 16) W hL)
  have HTL := (hL.trap (ftC n l L) h16.1 h16.2).1
  generalize ftL n l L = l' at *
  generalize ftW n l L = X at *
  generalize ftC n l L = cs at *
  generalize trapL L cs (wd L 16) = L' at *
  obtain ⟨F1, F2, F3, -⟩ := cw_facts
  go_enter Tryd.func8, Tryd.ntmps8
  go_wp2_with (first
    | (refine wpList_box_box rfl _ rfl rfl ?_; simp only [Act.put, List.setIfInBounds_toArray, List.set_cons_zero, List.set_cons_succ])
    | (refine wpList_alloc_box rfl rfl ?_; simp only [Act.put, List.setIfInBounds_toArray, List.set_cons_zero, List.set_cons_succ])
    | (refine wpList_load_look rfl _ rfl _ rfl (fun ob hob => ?_); simp [look_alloc, look_setRow, look_drew, look_drewN, look_setCell, Nat.add_assoc] at hob; subst hob; refine ⟨_, rfl, by (first | with_reducible assumption | (simp only [List.length_set]; with_reducible assumption) | exact Z25_len), ?_⟩; simp only [Act.put, List.setIfInBounds_toArray, List.set_cons_zero, List.set_cons_succ]))
  (refine (HF.out _ (hm.on (by (repeat' (first | with_reducible exact Below.refl _ _ | with_reducible assumption | with_reducible apply below_drewN | with_reducible apply Below.drew | with_reducible apply Below.setCell | with_reducible apply Below.alloc | (simp; done) | omega | (simp; omega)))))).mono ?_; rintro e w1 ⟨⟨S1, c1, rfl, hm1, hf1⟩, hb1⟩; replace hf1 : Fresh (w.heap.size + 3) S1 n := hf1.le (by simp <;> omega); have hs1 : w.heap.size + 2 < w1.heap.size := Nat.lt_of_lt_of_le (by simp <;> omega) hb1.size; have bel : Below w.heap.size w w1 := Below.trans (by (repeat' (first | with_reducible exact Below.refl _ _ | with_reducible assumption | with_reducible apply below_drewN | with_reducible apply Below.drew | with_reducible apply Below.setCell | with_reducible apply Below.alloc | (simp; done) | omega | (simp; omega)))) (hb1.mono (by simp <;> omega)); have X2 := look_on (g := w.heap.size) (o := .cells (cw L).toArray 32 (0, 0)) (by simp [look_alloc, look_setRow, look_drew, look_drewN, look_setCell, Nat.add_assoc]) hb1 (by simp <;> omega); have X4 := look_on (g := w.heap.size + 1) (o := .cells (cw Z25).toArray 32 (0, 0)) (by simp [look_alloc, look_setRow, look_drew, look_drewN, look_setCell, Nat.add_assoc]) hb1 (by simp <;> omega); have X6 := look_on (g := w.heap.size + 2) (o := .cells #[.int .i64 0, .int .i64 0, .int .i64 0, .int .u32 0] 37 (0, 0)) (by simp [look_alloc, look_setRow, look_drew, look_drewN, look_setCell, Nat.add_assoc]) hb1 (by simp <;> omega); clear hb1; have N0 : ¬ w.heap.size = w1.heap.size := (by omega); have N1 : ¬ w.heap.size + 1 = w1.heap.size := (by omega); have N2 : ¬ w.heap.size + 2 = w1.heap.size := (by omega))
  have c16 : w1.cell? ⟨w.heap.size, 16, none⟩ = some (.int .u32 (wd L 16)) := (cell_lk X2 16).trans (by simpa using cw_at hLL (show 16 < 25 by omega))
  go_wp2_with (first
    | (refine wpList_load_look rfl _ rfl _ rfl (fun ob hob => ?_); simp [look_alloc, look_setRow, look_drew, look_drewN, look_setCell, Nat.add_assoc, X2, X4, X6, N0, N1, N2] at hob; subst hob; refine ⟨_, rfl, by (first | with_reducible assumption | (simp only [List.length_set]; with_reducible assumption) | exact Z25_len), ?_⟩; simp only [Act.put, List.setIfInBounds_toArray, List.set_cons_zero, List.set_cons_succ])
    | (refine wpList_store_look rfl _ _ rfl _ rfl rfl (by (first | with_reducible assumption | (simp only [List.length_set]; with_reducible assumption) | exact Z25_len)) (fun ob hob => by (simp [look_alloc, look_setRow, look_drew, look_drewN, look_setCell, Nat.add_assoc, X2, X4, X6, N0, N1, N2] at hob; subst hob; exact ⟨_, rfl, by (first | with_reducible assumption | (simp only [List.length_set]; with_reducible assumption) | exact Z25_len)⟩)) (fun w2 hw2 => ?_); subst hw2; simp only [Act.put, List.setIfInBounds_toArray, List.set_cons_zero, List.set_cons_succ]))
  (refine (HT.out _).mono ?_; rintro e w3 ⟨rfl, hbB⟩; replace bel := below_step bel hbB; replace X2 := look_on X2 hbB (by omega); replace X4 := look_on X4 hbB (by omega); replace X6 := look_on X6 hbB (by omega); replace hm1 := hm1.on hbB; have Y6 : ∀ cs k, (w3.setRow (w.heap.size + 1) cs).cell? ⟨w.heap.size + 1 + 1, k, none⟩ = (#[.int .i64 0, .int .i64 0, .int .i64 0, .int .u32 0] : Array Value)[k]? := (fun cs k => cell_lk (by rw [look_setRow, if_neg (by omega)]; exact X6) k); have Z6 : ∀ cs k, (w3.setRow (w.heap.size + 1) cs).frozen? ⟨w.heap.size + 1 + 1, k, none⟩ = false := (fun cs k => frozen_lk (by rw [look_setRow, if_neg (by omega)]; exact X6) k))
  go_wp2_with (first
    | (refine wpList_store_look rfl _ _ rfl _ rfl rfl (by (first | with_reducible assumption | (simp only [List.length_set]; with_reducible assumption) | exact Z25_len)) (fun ob hob => by (simp [look_alloc, look_setRow, look_drew, look_drewN, look_setCell, Nat.add_assoc, X2, X4, X6, N0, N1, N2] at hob; subst hob; exact ⟨_, rfl, by (first | with_reducible assumption | (simp only [List.length_set]; with_reducible assumption) | exact Z25_len)⟩)) (fun w2 hw2 => ?_); subst hw2; simp only [Act.put, List.setIfInBounds_toArray, List.set_cons_zero, List.set_cons_succ]))
  refine bodyPost_ret (v := .tuple #[cpV L', .slice S1 n c1, efV 0 0 0 0]) ?_ rfl ⟨⟨S1, c1, rfl, ?_, hf1.le (by omega)⟩, ?_⟩
  · exact (results_exec (p := 4) (q := 5) (r := 6) rfl _ _ (w.heap.size + 1) (w.heap.size + 1 + 1) rfl rfl (by assumption) (by simp [look_alloc, look_setRow, look_drew, look_drewN, look_setCell, Nat.add_assoc, X4] <;> rfl) (by simp [look_alloc, look_setRow, look_drew, look_drewN, look_setCell, Nat.add_assoc, X6] <;> rfl))
  · exact hm1.fresh hf1 (fun g hg => (by show lk _ g = lk _ g; simp only [look_setCell, look_setRow]; simp only [show ¬ (w.heap.size + 1 + 1 = g) by omega, show ¬ (w.heap.size + 1 = g) by omega, if_false]))
  · exact bel.trans (by (repeat' (first | with_reducible exact Below.refl _ _ | with_reducible apply Below.setCell | with_reducible apply below_setRow | (simp; done) | (simp; omega))))
/-- An instruction that does not access the memory and is not privileged, where no page table stands in between. -/
theorem exec_np (L : List Int) (S : Option Addr) (n c : Nat) (l : List Int) (o A B C m X : Int) (a : Nat) (w : World) (hL : C25 L) (hm : Mem w S n c l) (hp : pgB L = false) (h4 : wd L 16 % 4 = 0) (hk : okB n (wd L 16) 4 = true) (hw : wd l (wd L 16 / 4).toNat = X) (X0 : 0 ≤ X) (X1 : X ≤ 4294967295)
    (hd : dOk X) (eo : dOp X = o) (ea : dA X = A) (eb : dB X = B) (ec : dC X = C) (em : dM X = m) (ha : A = a) (a1 : a < 16) (m0 : -32768 ≤ m) (m1 : m ≤ 65535) (ho : ¬ (32 ≤ o ∧ o ≤ 36)) (hv : ¬ (57 ≤ o ∧ o ≤ 64)) (R : List Int) (hRL : R.length = 25)
    (HST : ∀ W, Calls Tryd.prog 27 #[cpV L, instV o A B C m] W fun e w' => e = .returned (cpV R) ∧ Below W.heap.size W w') :
    Calls Tryd.prog 8 #[cpV L, .slice S n c] w (ExPost n R l (efV (efK o) (efP o m) (efR o A) (efU L o A)) w) := by
  obtain ⟨f1, f2, f3⟩ := ft_plain (n := n) (l := l) (L := L) hp h4 hk
  rw [hw] at f3
  have h := exec_sp0 L S n c l o A B C m a w hL hm f1 (by rw [f3]; exact hd) (by rw [f3]; exact ⟨X0, X1⟩) (by rw [f3]; exact eo) (by rw [f3]; exact ea) (by rw [f3]; exact eb) (by rw [f3]; exact ec) (by rw [f3]; exact em) ha a1 m0 m1 ho hv R hRL HST
  rw [f2] at h
  exact h
end Go.Proofs.YtfnfbdjbdbifaaaDoor
