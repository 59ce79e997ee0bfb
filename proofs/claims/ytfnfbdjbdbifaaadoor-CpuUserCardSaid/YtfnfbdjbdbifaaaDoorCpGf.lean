import Derived.Test.YtfnfbdjbdbifaaaDoorCpGb
import Derived.Test.YtfnfbdjbdbifaaaDoorCpAluX
namespace Go.Proofs.YtfnfbdjbdbifaaaDoor
set_option linter.unusedVariables false
set_option linter.unusedSimpArgs false
set_option maxRecDepth 20000
open Go.ChangeShapes Go.WideShapes Go.ChangeAt Go.RowKit Go.Proofs.YtfnfbdjbdbifaaaDoor.Num Go.Proofs.YtfnfbdjbdbifaaaDoor.Mem Go.Proofs.YtfnfbdjbdbifaaaDoor.Isa
/- Branches. -/
set_option maxHeartbeats 4000000 in
theorem step_br40 (L : List Int) (A B c m : Int) (a b : Nat) (w : World) (hL : C25 L) (ha : A = a) (a1 : a < 16) (hb : B = b) (b1 : b < 16) (m0 : -32768 ≤ m) (m1 : m ≤ 65535) :
    Calls Tryd.prog 27 #[cpV L, instV 40 A B c m] w fun e w' => e = .returned (cpV (if tkn 40 (wd L a) (wd L b) = true then L.set 16 ((wd L 16 + 4 * m) % 4294967296) else advL L)) ∧ Below w.heap.size w w' := by
  subst ha hb
  have hLL := hL.1
  have HA := Lib.hid (fun W => advance_any L W hL)
  have HBR := Lib.hid (fun W => branches_any 40 (wd L a) (wd L b) W (by decide))
  have hset : (advL L).set 16 ((wd L 16 + 4 * m) % 4294967296) = L.set 16 ((wd L 16 + 4 * m) % 4294967296) := by unfold advL; rw [List.set_set]
  have hb0 : (0 : Int) ≤ b := by omega
  have hb1 : (b : Int) < 16 := by omega
  have hb25 : b < 25 := by omega
  have ha0 : (0 : Int) ≤ a := by omega
  have ha1 : (a : Int) < 16 := by omega
  have ha25 : a < 25 := by omega
  generalize htk : tkn 40 (wd L a) (wd L b) = tk at *
  clear htk
  unfold instV
  obtain ⟨F1, F2, F3, -⟩ := cw_facts
  go_enter Tryd.func27, Tryd.ntmps27
  go_wp2_with (first
    | (refine wpList_box_box rfl _ rfl rfl ?_; simp only [Act.put, List.setIfInBounds_toArray, List.set_cons_zero, List.set_cons_succ])
    | (refine wpList_alloc_box rfl rfl ?_; simp only [Act.put, List.setIfInBounds_toArray, List.set_cons_zero, List.set_cons_succ]))
  generalize hW : World.alloc (World.alloc (World.alloc w _) _) _ = W
  have X2 : lk W w.heap.size = some (.cells (cw L).toArray 32 (0, 0)) := by rw [← hW]; simp [look_alloc] <;> omega
  have X3 : lk W (w.heap.size + 1) = some (.cells #[.int .i64 40, .int .i64 a, .int .i64 b, .int .i64 c, .int .i32 m] 27 (0, 0)) := by rw [← hW]; simp [look_alloc]
  have X4 : lk W (w.heap.size + 2) = some (.cells (cw Z25).toArray 32 (0, 0)) := by rw [← hW]; simp [look_alloc]
  have HB : Below w.heap.size w W := by rw [← hW]; (repeat' (first | with_reducible exact Below.refl _ _ | with_reducible assumption | with_reducible apply below_drewN | with_reducible apply Below.drew | with_reducible apply Below.setCell | with_reducible apply Below.alloc | (simp; done) | omega | (simp; omega)))
  have hsz : w.heap.size + 2 < W.heap.size := by rw [← hW]; simp
  clear hW
  obtain ⟨fs, hu⟩ := undCpu
  have hi : (Tryd.prog.info? 32).map (·.size) = some (cw L).length := by rw [cw_len hLL]; exact infCpu
  have hrg : W.rangeAt w.heap.size 0 (cw L) := fun j u hu => by rw [Nat.zero_add]; exact (cell_lk X2 j).trans (by simpa using hu)
  have hcm : W.cell? ⟨w.heap.size + 1, 4, none⟩ = some (.int .i32 m) := cell_lk X3 4
  have bb : Below W.heap.size W W.drew := (Below.refl _ _).drew
  unfold cpV at HA
  refine wp_region_held_drew (S := fun w' => w'.rangeAt w.heap.size 0 (cw L) ∧ w'.cell? ⟨w.heap.size + 1, 4, none⟩ = some (.int .i32 m)) (by kernel_rfl) ⟨range_on hrg bb (by omega), cell_on hcm bb⟩ (fun hHeld => ?_)
  (refine' wpAnyH_take (i := 0) (oi := _) (v := _) rfl (by kernel_rfl) (by kernel_rfl) (by kernel_rfl) (fun _ _ _ h => h) (yieldsIf_load_mid (by rfl) _ _ rfl _ 0 rfl (cw L) _ (fun w hw => hw.1) hu rfl hi) (by assumption) ?_; (try simp only [List.getElem_toArray, List.getElem_cons_succ, List.getElem_cons_zero, Act.put, List.setIfInBounds_toArray, List.set_cons_zero, List.set_cons_succ]))
  (refine wpAnyH_take (i := 2) (oi := _) (v := ?_) rfl (by kernel_rfl) (by kernel_rfl) (by kernel_rfl) (fun _ _ _ h => h) (Or.inl ⟨by rfl, ?_⟩) (by assumption) ?_; rotate_left 1; focus (intro w hSw; go_simp; try with_reducible rfl); (try simp only [List.getElem_toArray, List.getElem_cons_succ, List.getElem_cons_zero, Act.put, List.setIfInBounds_toArray, List.set_cons_zero, List.set_cons_succ]))
  (refine wpAnyH_take (i := 3) (oi := _) (v := ?_) rfl (by kernel_rfl) (by kernel_rfl) (by kernel_rfl) (fun _ _ _ h => h) (Or.inl ⟨by rfl, ?_⟩) (by assumption) ?_; rotate_left 1; focus (rintro w ⟨-, hSw⟩; go_simp; try with_reducible rfl); (try simp only [List.getElem_toArray, List.getElem_cons_succ, List.getElem_cons_zero, Act.put, List.setIfInBounds_toArray, List.set_cons_zero, List.set_cons_succ]))
  (refine wpAnyH_take (i := 4) (oi := _) (v := ?_) rfl (by kernel_rfl) (by kernel_rfl) (by kernel_rfl) (fun _ _ _ h => h) (Or.inl ⟨by rfl, ?_⟩) (by assumption) ?_; rotate_left 1; focus (intro w hSw; go_simp; try with_reducible rfl); (try simp only [List.getElem_toArray, List.getElem_cons_succ, List.getElem_cons_zero, Act.put, List.setIfInBounds_toArray, List.set_cons_zero, List.set_cons_succ]))
  have hAL := hL.adv.1
  refine (fun (key : Hid ?T) => ?main) ?kp
  case main =>
    refine wpAnyH_ready (rs := [1, 5]) (by kernel_rfl) (by simp) ?_
    refine AllReadyH.cons (o := _) rfl (fun K hK => ?_) (AllReadyH.cons (o := _) rfl (fun K hK => ?_) AllReadyH.nil)
    · rw [if_pos (by rfl)]
      go_simp
      refine (HA.out _).mono ?_
      rintro e w1 ⟨rfl, hb1⟩
      replace bb := below_step bb hb1
      (try dsimp only)
      refine hK.out _ _ ?_ (fun hHeld => ?_)
      · exact ⟨range_on hrg bb (by omega), cell_on hcm bb⟩
      clear hK K hb1
      (try simp only [List.getElem_toArray, List.getElem_cons_succ, List.getElem_cons_zero, Act.put, List.setIfInBounds_toArray, List.set_cons_zero, List.set_cons_succ])
      refine wpAnyH_ready (rs := [5]) (by kernel_rfl) (by simp) ?_
      refine AllReadyH.cons (o := _) rfl (fun K hK => ?_) AllReadyH.nil
      rw [if_pos (by rfl)]
      refine wp_alloc_cpu rfl ?_
      have hsz1 := bb.size
      replace bb := bb.alloc hsz1 (.cells (cw Z25).toArray 32)
      (try dsimp only)
      refine hK.out _ _ ?_ (fun hHeld => ?_)
      · exact ⟨range_on hrg bb (by omega), cell_on hcm bb⟩
      clear hK K
      (try simp only [List.getElem_toArray, List.getElem_cons_succ, List.getElem_cons_zero, Act.put, List.setIfInBounds_toArray, List.set_cons_zero, List.set_cons_succ])
      have Y5 : lk (w1.alloc (.cells (cw Z25).toArray 32)) w1.heap.size = some (.cells (cw Z25).toArray 32 (0, 0)) := by rw [look_alloc, if_pos rfl]
      have hg5 := hsz1
      refine wpAnyH_ready (rs := [6]) (by kernel_rfl) (by simp) ?_
      refine AllReadyH.cons (o := _) rfl (fun K hK => ?_) AllReadyH.nil
      rw [if_pos (by rfl)]
      refine wp_store_cpu _ _ rfl _ rfl rfl hAL Y5 Z25_len ?_
      replace Y5 := lk_row (M := advL L) Y5
      replace bb := below_setRow bb _ hg5 (cw (advL L)).toArray
      (try dsimp only)
      refine hK.out _ _ ?_ (fun hHeld => ?_)
      · exact ⟨range_on hrg bb (by omega), cell_on hcm bb⟩
      clear hK K
      (try simp only [List.getElem_toArray, List.getElem_cons_succ, List.getElem_cons_zero, Act.put, List.setIfInBounds_toArray, List.set_cons_zero, List.set_cons_succ])
      (refine wpAnyH_take (i := 7) (oi := _) (v := ?_) rfl (by kernel_rfl) (by kernel_rfl) (by kernel_rfl) (fun _ _ _ h => h) (Or.inl ⟨by rfl, ?_⟩) (by assumption) ?_; rotate_left 1; focus (intro w hSw; go_simp; try with_reducible rfl); (try simp only [List.getElem_toArray, List.getElem_cons_succ, List.getElem_cons_zero, Act.put, List.setIfInBounds_toArray, List.set_cons_zero, List.set_cons_succ]))
      refine wpAnyH_done (by kernel_rfl) ?_ _
      (try simp only [List.getElem_toArray, List.getElem_cons_succ, List.getElem_cons_zero, Act.put, List.setIfInBounds_toArray, List.set_cons_zero, List.set_cons_succ])
      have F : lk _ w1.heap.size = _ ∧ W.heap.size ≤ w1.heap.size ∧ Below W.heap.size W _ := ⟨Y5, hg5, bb⟩
      generalize World.setRow (World.alloc w1 _) _ _ = W5 at F ⊢
      generalize w1.heap.size = g5 at F ⊢
      revert F; revert g5 W5
      exact key.out
    · rw [if_pos (by rfl)]
      refine wp_alloc_cpu rfl ?_
      have Y5 : lk (W.drew.alloc (.cells (cw Z25).toArray 32)) W.heap.size = some (.cells (cw Z25).toArray 32 (0, 0)) := by rw [look_alloc]; exact if_pos rfl
      have hg5 : W.heap.size ≤ W.heap.size := Nat.le_refl _
      replace bb := bb.alloc hg5 (.cells (cw Z25).toArray 32)
      have hs5 : W.heap.size < (W.drew.alloc (.cells (cw Z25).toArray 32)).heap.size := by simp
      (try dsimp only)
      refine hK.out _ _ ?_ (fun hHeld => ?_)
      · exact ⟨range_on hrg bb (by omega), cell_on hcm bb⟩
      clear hK K
      (try simp only [List.getElem_toArray, List.getElem_cons_succ, List.getElem_cons_zero, Act.put, List.setIfInBounds_toArray, List.set_cons_zero, List.set_cons_succ])
      refine wpAnyH_ready (rs := [1]) (by kernel_rfl) (by simp) ?_
      refine AllReadyH.cons (o := _) rfl (fun K hK => ?_) AllReadyH.nil
      rw [if_pos (by rfl)]
      go_simp
      refine (HA.out _).mono ?_
      rintro e w1 ⟨rfl, hb1⟩
      replace Y5 := look_on Y5 hb1 hs5
      replace bb := below_step bb hb1
      (try dsimp only)
      refine hK.out _ _ ?_ (fun hHeld => ?_)
      · exact ⟨range_on hrg bb (by omega), cell_on hcm bb⟩
      clear hK K hb1 hs5
      (try simp only [List.getElem_toArray, List.getElem_cons_succ, List.getElem_cons_zero, Act.put, List.setIfInBounds_toArray, List.set_cons_zero, List.set_cons_succ])
      refine wpAnyH_ready (rs := [6]) (by kernel_rfl) (by simp) ?_
      refine AllReadyH.cons (o := _) rfl (fun K hK => ?_) AllReadyH.nil
      rw [if_pos (by rfl)]
      refine wp_store_cpu _ _ rfl _ rfl rfl hAL Y5 Z25_len ?_
      replace Y5 := lk_row (M := advL L) Y5
      replace bb := below_setRow bb _ hg5 (cw (advL L)).toArray
      (try dsimp only)
      refine hK.out _ _ ?_ (fun hHeld => ?_)
      · exact ⟨range_on hrg bb (by omega), cell_on hcm bb⟩
      clear hK K
      (try simp only [List.getElem_toArray, List.getElem_cons_succ, List.getElem_cons_zero, Act.put, List.setIfInBounds_toArray, List.set_cons_zero, List.set_cons_succ])
      (refine wpAnyH_take (i := 7) (oi := _) (v := ?_) rfl (by kernel_rfl) (by kernel_rfl) (by kernel_rfl) (fun _ _ _ h => h) (Or.inl ⟨by rfl, ?_⟩) (by assumption) ?_; rotate_left 1; focus (intro w hSw; go_simp; try with_reducible rfl); (try simp only [List.getElem_toArray, List.getElem_cons_succ, List.getElem_cons_zero, Act.put, List.setIfInBounds_toArray, List.set_cons_zero, List.set_cons_succ]))
      refine wpAnyH_done (by kernel_rfl) ?_ _
      (try simp only [List.getElem_toArray, List.getElem_cons_succ, List.getElem_cons_zero, Act.put, List.setIfInBounds_toArray, List.set_cons_zero, List.set_cons_succ])
      have F : lk _ W.heap.size = _ ∧ W.heap.size ≤ W.heap.size ∧ Below W.heap.size W _ := ⟨Y5, hg5, bb⟩
      generalize World.setRow w1 _ _ = W5 at F ⊢
      generalize hgg : W.heap.size = g5
      have F' : lk W5 g5 = some (.cells (cw (advL L)).toArray 32 (0, 0)) ∧ W.heap.size ≤ g5 ∧ Below W.heap.size W W5 := ⟨by rw [← hgg]; exact F.1, by rw [← hgg]; exact Nat.le_refl _, F.2.2⟩
      clear hgg F
      revert F'; revert g5 W5
      exact key.out
  case kp =>
    show ∀ (W5 : World) (g5 : Nat), _
    intro W5 g5 ⟨Y5, hg5, bW⟩
    have Y2 := look_on X2 bW (by omega)
    have Y3 := look_on X3 bW (by omega)
    have Y4 := look_on X4 bW (by omega)
    have hW5 : g5 < W5.heap.size := by
      have := Y5
      unfold lk at this
      exact (Array.getElem?_eq_some_iff.1 this).1
    have HB5 : Below w.heap.size w W5 := below_step HB bW
    clear X2 X3 X4 bW hrg hcm bb HA hHeld
    have C2 : ∀ k : Nat, k < 25 → W5.cell? ⟨w.heap.size, k, none⟩ = some (.int .u32 (wd L k)) := fun k hk => (cell_lk Y2 k).trans (by simpa using cw_at hLL hk)
    have C5 : ∀ k : Nat, k < 25 → W5.cell? ⟨g5, k, none⟩ = some (.int .u32 (wd (advL L) k)) := fun k hk => (cell_lk Y5 k).trans (by simpa using cw_at hAL hk)
    have c0 : W5.cell? ⟨w.heap.size + 1, 0, none⟩ = _ := cell_lk Y3 0
    have c1 : W5.cell? ⟨w.heap.size + 1, 1, none⟩ = _ := cell_lk Y3 1
    have c2 : W5.cell? ⟨w.heap.size + 1, 2, none⟩ = _ := cell_lk Y3 2
    have c3 : W5.cell? ⟨w.heap.size + 1, 3, none⟩ = _ := cell_lk Y3 3
    have c4 : W5.cell? ⟨w.heap.size + 1, 4, none⟩ = _ := cell_lk Y3 4
    simp at c0 c1 c2 c3 c4
    have ca := C2 a ha25
    have cb := C2 b hb25
    repeat' (first
      | (with_reducible refine then_normal ?_) | (with_reducible refine wp_exit ?_) | (with_reducible refine wp_ret ?_) | (with_reducible refine then_exit ?_) | (with_reducible refine blk_hit ?_) | (with_reducible refine blk_pass (by decide) ?_) | (with_reducible refine then_ret ?_) | (with_reducible refine blk_ret ?_) | (with_reducible refine blk_normal ?_)
      | (refine wpList_load_look rfl _ rfl _ rfl (fun ob hob => ?_); (first | rw [Y5] at hob | rw [Y2] at hob); subst hob; refine ⟨_, rfl, by assumption, ?_⟩; simp only [Act.put, List.setIfInBounds_toArray, List.set_cons_zero, List.set_cons_succ])
      | go_values | go_skip | go_guarded | go_step | go_upon | (simp only [Int.not_lt, Int.not_le] at *; go_simp) | (go_values <;> (try go_simp)) | (go_ite <;> go_prune <;> (try go_simp)))
    have s0 : W5.drew.cell? ⟨w.heap.size + 1, 0, none⟩ = _ := c0
    have s1 : W5.drew.cell? ⟨w.heap.size + 1, 1, none⟩ = _ := c1
    have s2 : W5.drew.cell? ⟨w.heap.size + 1, 2, none⟩ = _ := c2
    have s3 : W5.drew.cell? ⟨w.heap.size, a, none⟩ = _ := ca
    have s4 : W5.drew.cell? ⟨w.heap.size, b, none⟩ = _ := cb
    go_region_held3 (fun w' => w'.cell? ⟨w.heap.size + 1, 0, none⟩ = some (.int .i64 40) ∧ w'.cell? ⟨w.heap.size + 1, 1, none⟩ = some (.int .i64 a) ∧ w'.cell? ⟨w.heap.size + 1, 2, none⟩ = some (.int .i64 b) ∧ w'.cell? ⟨w.heap.size, a, none⟩ = some (.int .u32 (wd L a)) ∧ w'.cell? ⟨w.heap.size, b, none⟩ = some (.int .u32 (wd L b))) (first | exact ⟨s0, s1, s2, s3, s4⟩ | go_keep) (first | (go_at_call 49; refine (HBR.out _).mono ?_; rintro e w6 ⟨rfl, rfl⟩))
    have V5 : lk W5.drew g5 = _ := Y5
    have V4 : lk W5.drew (w.heap.size + 2) = _ := Y4
    have HB6 : Below w.heap.size w W5.drew := HB5.drew
    have hw6 : g5 < W5.drew.heap.size := hW5
    have d5 : W5.drew.cell? ⟨g5, 16, none⟩ = some (.int .u32 (wd (advL L) 16)) := C5 16 (by omega)
    have f5 : W5.drew.frozen? ⟨g5, 16, none⟩ = false := frozen_lk V5 16
    clear s0 s1 s2 s3 s4 ca cb c0 c1 c2 c3 c4 C2 C5 Y5 Y4 Y2 Y3 HB5
    generalize W5.drew = W6 at *
    cases tk
    · repeat' (first
        | (with_reducible refine then_normal ?_) | (with_reducible refine wp_exit ?_) | (with_reducible refine wp_ret ?_) | (with_reducible refine then_exit ?_) | (with_reducible refine blk_hit ?_) | (with_reducible refine blk_pass (by decide) ?_) | (with_reducible refine then_ret ?_) | (with_reducible refine blk_ret ?_) | (with_reducible refine blk_normal ?_)
        | (refine wpList_load_look rfl _ rfl _ rfl (fun ob hob => ?_); rw [V5] at hob; subst hob; refine ⟨_, rfl, hAL, ?_⟩; simp only [Act.put, List.setIfInBounds_toArray, List.set_cons_zero, List.set_cons_succ])
        | (refine wpList_store_look rfl _ _ rfl _ rfl rfl hAL (fun ob hob => by (rw [V4] at hob; subst hob; exact ⟨_, rfl, Z25_len⟩)) (fun w2 hw2 => ?_); subst hw2; simp only [Act.put, List.setIfInBounds_toArray, List.set_cons_zero, List.set_cons_succ])
        | go_values | go_skip | go_guarded | go_step | go_upon | (simp only [Int.not_lt, Int.not_le] at *; go_simp) | (go_values <;> (try go_simp)) | (go_ite <;> go_prune <;> (try go_simp)))
      exact bodyPost_ret (v := cpV (advL L)) (results_cpu rfl _ _ (w.heap.size + 2) rfl hAL (lk_row V4)) rfl ⟨rfl, below_setRow HB6 _ (by omega) _⟩
    · have eT := Lib.hid (show (wd L 16 + 4 * (m % 4294967296)) % 4294967296 = (wd L 16 + 4 * m) % 4294967296 by omega)
      generalize hT : (wd L 16 + 4 * (m % 4294967296)) % 4294967296 = T at *
      have U5 := lk_set V5 16 T
      have U4 := lk_setN (k := 16) (v := .int .u32 T) V4 (show ¬ g5 = w.heap.size + 2 by omega)
      have hRT : ((advL L).set 16 T).length = 25 := by rw [List.length_set]; exact hAL
      have HB7 : Below w.heap.size w (W6.setCell ⟨g5, 16, none⟩ (.int .u32 T)) := HB6.setCell (show w.heap.size ≤ g5 by omega) _
      repeat' (first
        | (with_reducible refine then_normal ?_) | (with_reducible refine wp_exit ?_) | (with_reducible refine wp_ret ?_) | (with_reducible refine then_exit ?_) | (with_reducible refine blk_hit ?_) | (with_reducible refine blk_pass (by decide) ?_) | (with_reducible refine then_ret ?_) | (with_reducible refine blk_ret ?_) | (with_reducible refine blk_normal ?_)
        | (refine wpList_load_look rfl _ rfl _ rfl (fun ob hob => ?_); rw [U5] at hob; subst hob; refine ⟨_, rfl, hRT, ?_⟩; simp only [Act.put, List.setIfInBounds_toArray, List.set_cons_zero, List.set_cons_succ])
        | (refine wpList_store_look rfl _ _ rfl _ rfl rfl hRT (fun ob hob => by (rw [U4] at hob; subst hob; exact ⟨_, rfl, Z25_len⟩)) (fun w2 hw2 => ?_); subst hw2; simp only [Act.put, List.setIfInBounds_toArray, List.set_cons_zero, List.set_cons_succ])
        | go_values | go_skip | go_guarded | go_step | go_upon | (simp only [Int.not_lt, Int.not_le] at *; go_simp) | (go_values <;> (try go_simp)) | (go_ite <;> go_prune <;> (try go_simp)))
      exact bodyPost_ret (v := cpV ((advL L).set 16 T)) (results_cpu rfl _ _ (w.heap.size + 2) rfl hRT (lk_row U4)) rfl ⟨by rw [eT.out, hset], below_setRow HB7 _ (by omega) _⟩
set_option maxHeartbeats 4000000 in
theorem step_br41 (L : List Int) (A B c m : Int) (a b : Nat) (w : World) (hL : C25 L) (ha : A = a) (a1 : a < 16) (hb : B = b) (b1 : b < 16) (m0 : -32768 ≤ m) (m1 : m ≤ 65535) :
    Calls Tryd.prog 27 #[cpV L, instV 41 A B c m] w fun e w' => e = .returned (cpV (if tkn 41 (wd L a) (wd L b) = true then L.set 16 ((wd L 16 + 4 * m) % 4294967296) else advL L)) ∧ Below w.heap.size w w' := by
  subst ha hb
  have hLL := hL.1
  have HA := Lib.hid (fun W => advance_any L W hL)
  have HBR := Lib.hid (fun W => branches_any 41 (wd L a) (wd L b) W (by decide))
  have hset : (advL L).set 16 ((wd L 16 + 4 * m) % 4294967296) = L.set 16 ((wd L 16 + 4 * m) % 4294967296) := by unfold advL; rw [List.set_set]
  have hb0 : (0 : Int) ≤ b := by omega
  have hb1 : (b : Int) < 16 := by omega
  have hb25 : b < 25 := by omega
  have ha0 : (0 : Int) ≤ a := by omega
  have ha1 : (a : Int) < 16 := by omega
  have ha25 : a < 25 := by omega
  generalize htk : tkn 41 (wd L a) (wd L b) = tk at *
  clear htk
  unfold instV
  obtain ⟨F1, F2, F3, -⟩ := cw_facts
  go_enter Tryd.func27, Tryd.ntmps27
  go_wp2_with (first
    | (refine wpList_box_box rfl _ rfl rfl ?_; simp only [Act.put, List.setIfInBounds_toArray, List.set_cons_zero, List.set_cons_succ])
    | (refine wpList_alloc_box rfl rfl ?_; simp only [Act.put, List.setIfInBounds_toArray, List.set_cons_zero, List.set_cons_succ]))
  generalize hW : World.alloc (World.alloc (World.alloc w _) _) _ = W
  have X2 : lk W w.heap.size = some (.cells (cw L).toArray 32 (0, 0)) := by rw [← hW]; simp [look_alloc] <;> omega
  have X3 : lk W (w.heap.size + 1) = some (.cells #[.int .i64 41, .int .i64 a, .int .i64 b, .int .i64 c, .int .i32 m] 27 (0, 0)) := by rw [← hW]; simp [look_alloc]
  have X4 : lk W (w.heap.size + 2) = some (.cells (cw Z25).toArray 32 (0, 0)) := by rw [← hW]; simp [look_alloc]
  have HB : Below w.heap.size w W := by rw [← hW]; (repeat' (first | with_reducible exact Below.refl _ _ | with_reducible assumption | with_reducible apply below_drewN | with_reducible apply Below.drew | with_reducible apply Below.setCell | with_reducible apply Below.alloc | (simp; done) | omega | (simp; omega)))
  have hsz : w.heap.size + 2 < W.heap.size := by rw [← hW]; simp
  clear hW
  obtain ⟨fs, hu⟩ := undCpu
  have hi : (Tryd.prog.info? 32).map (·.size) = some (cw L).length := by rw [cw_len hLL]; exact infCpu
  have hrg : W.rangeAt w.heap.size 0 (cw L) := fun j u hu => by rw [Nat.zero_add]; exact (cell_lk X2 j).trans (by simpa using hu)
  have hcm : W.cell? ⟨w.heap.size + 1, 4, none⟩ = some (.int .i32 m) := cell_lk X3 4
  have bb : Below W.heap.size W W.drew := (Below.refl _ _).drew
  unfold cpV at HA
  refine wp_region_held_drew (S := fun w' => w'.rangeAt w.heap.size 0 (cw L) ∧ w'.cell? ⟨w.heap.size + 1, 4, none⟩ = some (.int .i32 m)) (by kernel_rfl) ⟨range_on hrg bb (by omega), cell_on hcm bb⟩ (fun hHeld => ?_)
  (refine' wpAnyH_take (i := 0) (oi := _) (v := _) rfl (by kernel_rfl) (by kernel_rfl) (by kernel_rfl) (fun _ _ _ h => h) (yieldsIf_load_mid (by rfl) _ _ rfl _ 0 rfl (cw L) _ (fun w hw => hw.1) hu rfl hi) (by assumption) ?_; (try simp only [List.getElem_toArray, List.getElem_cons_succ, List.getElem_cons_zero, Act.put, List.setIfInBounds_toArray, List.set_cons_zero, List.set_cons_succ]))
  (refine wpAnyH_take (i := 2) (oi := _) (v := ?_) rfl (by kernel_rfl) (by kernel_rfl) (by kernel_rfl) (fun _ _ _ h => h) (Or.inl ⟨by rfl, ?_⟩) (by assumption) ?_; rotate_left 1; focus (intro w hSw; go_simp; try with_reducible rfl); (try simp only [List.getElem_toArray, List.getElem_cons_succ, List.getElem_cons_zero, Act.put, List.setIfInBounds_toArray, List.set_cons_zero, List.set_cons_succ]))
  (refine wpAnyH_take (i := 3) (oi := _) (v := ?_) rfl (by kernel_rfl) (by kernel_rfl) (by kernel_rfl) (fun _ _ _ h => h) (Or.inl ⟨by rfl, ?_⟩) (by assumption) ?_; rotate_left 1; focus (rintro w ⟨-, hSw⟩; go_simp; try with_reducible rfl); (try simp only [List.getElem_toArray, List.getElem_cons_succ, List.getElem_cons_zero, Act.put, List.setIfInBounds_toArray, List.set_cons_zero, List.set_cons_succ]))
  (refine wpAnyH_take (i := 4) (oi := _) (v := ?_) rfl (by kernel_rfl) (by kernel_rfl) (by kernel_rfl) (fun _ _ _ h => h) (Or.inl ⟨by rfl, ?_⟩) (by assumption) ?_; rotate_left 1; focus (intro w hSw; go_simp; try with_reducible rfl); (try simp only [List.getElem_toArray, List.getElem_cons_succ, List.getElem_cons_zero, Act.put, List.setIfInBounds_toArray, List.set_cons_zero, List.set_cons_succ]))
  have hAL := hL.adv.1
  refine (fun (key : Hid ?T) => ?main) ?kp
  case main =>
    refine wpAnyH_ready (rs := [1, 5]) (by kernel_rfl) (by simp) ?_
    refine AllReadyH.cons (o := _) rfl (fun K hK => ?_) (AllReadyH.cons (o := _) rfl (fun K hK => ?_) AllReadyH.nil)
    · rw [if_pos (by rfl)]
      go_simp
      refine (HA.out _).mono ?_
      rintro e w1 ⟨rfl, hb1⟩
      replace bb := below_step bb hb1
      (try dsimp only)
      refine hK.out _ _ ?_ (fun hHeld => ?_)
      · exact ⟨range_on hrg bb (by omega), cell_on hcm bb⟩
      clear hK K hb1
      (try simp only [List.getElem_toArray, List.getElem_cons_succ, List.getElem_cons_zero, Act.put, List.setIfInBounds_toArray, List.set_cons_zero, List.set_cons_succ])
      refine wpAnyH_ready (rs := [5]) (by kernel_rfl) (by simp) ?_
      refine AllReadyH.cons (o := _) rfl (fun K hK => ?_) AllReadyH.nil
      rw [if_pos (by rfl)]
      refine wp_alloc_cpu rfl ?_
      have hsz1 := bb.size
      replace bb := bb.alloc hsz1 (.cells (cw Z25).toArray 32)
      (try dsimp only)
      refine hK.out _ _ ?_ (fun hHeld => ?_)
      · exact ⟨range_on hrg bb (by omega), cell_on hcm bb⟩
      clear hK K
      (try simp only [List.getElem_toArray, List.getElem_cons_succ, List.getElem_cons_zero, Act.put, List.setIfInBounds_toArray, List.set_cons_zero, List.set_cons_succ])
      have Y5 : lk (w1.alloc (.cells (cw Z25).toArray 32)) w1.heap.size = some (.cells (cw Z25).toArray 32 (0, 0)) := by rw [look_alloc, if_pos rfl]
      have hg5 := hsz1
      refine wpAnyH_ready (rs := [6]) (by kernel_rfl) (by simp) ?_
      refine AllReadyH.cons (o := _) rfl (fun K hK => ?_) AllReadyH.nil
      rw [if_pos (by rfl)]
      refine wp_store_cpu _ _ rfl _ rfl rfl hAL Y5 Z25_len ?_
      replace Y5 := lk_row (M := advL L) Y5
      replace bb := below_setRow bb _ hg5 (cw (advL L)).toArray
      (try dsimp only)
      refine hK.out _ _ ?_ (fun hHeld => ?_)
      · exact ⟨range_on hrg bb (by omega), cell_on hcm bb⟩
      clear hK K
      (try simp only [List.getElem_toArray, List.getElem_cons_succ, List.getElem_cons_zero, Act.put, List.setIfInBounds_toArray, List.set_cons_zero, List.set_cons_succ])
      (refine wpAnyH_take (i := 7) (oi := _) (v := ?_) rfl (by kernel_rfl) (by kernel_rfl) (by kernel_rfl) (fun _ _ _ h => h) (Or.inl ⟨by rfl, ?_⟩) (by assumption) ?_; rotate_left 1; focus (intro w hSw; go_simp; try with_reducible rfl); (try simp only [List.getElem_toArray, List.getElem_cons_succ, List.getElem_cons_zero, Act.put, List.setIfInBounds_toArray, List.set_cons_zero, List.set_cons_succ]))
      refine wpAnyH_done (by kernel_rfl) ?_ _
      (try simp only [List.getElem_toArray, List.getElem_cons_succ, List.getElem_cons_zero, Act.put, List.setIfInBounds_toArray, List.set_cons_zero, List.set_cons_succ])
      have F : lk _ w1.heap.size = _ ∧ W.heap.size ≤ w1.heap.size ∧ Below W.heap.size W _ := ⟨Y5, hg5, bb⟩
      generalize World.setRow (World.alloc w1 _) _ _ = W5 at F ⊢
      generalize w1.heap.size = g5 at F ⊢
      revert F; revert g5 W5
      exact key.out
    · rw [if_pos (by rfl)]
      refine wp_alloc_cpu rfl ?_
      have Y5 : lk (W.drew.alloc (.cells (cw Z25).toArray 32)) W.heap.size = some (.cells (cw Z25).toArray 32 (0, 0)) := by rw [look_alloc]; exact if_pos rfl
      have hg5 : W.heap.size ≤ W.heap.size := Nat.le_refl _
      replace bb := bb.alloc hg5 (.cells (cw Z25).toArray 32)
      have hs5 : W.heap.size < (W.drew.alloc (.cells (cw Z25).toArray 32)).heap.size := by simp
      (try dsimp only)
      refine hK.out _ _ ?_ (fun hHeld => ?_)
      · exact ⟨range_on hrg bb (by omega), cell_on hcm bb⟩
      clear hK K
      (try simp only [List.getElem_toArray, List.getElem_cons_succ, List.getElem_cons_zero, Act.put, List.setIfInBounds_toArray, List.set_cons_zero, List.set_cons_succ])
      refine wpAnyH_ready (rs := [1]) (by kernel_rfl) (by simp) ?_
      refine AllReadyH.cons (o := _) rfl (fun K hK => ?_) AllReadyH.nil
      rw [if_pos (by rfl)]
      go_simp
      refine (HA.out _).mono ?_
      rintro e w1 ⟨rfl, hb1⟩
      replace Y5 := look_on Y5 hb1 hs5
      replace bb := below_step bb hb1
      (try dsimp only)
      refine hK.out _ _ ?_ (fun hHeld => ?_)
      · exact ⟨range_on hrg bb (by omega), cell_on hcm bb⟩
      clear hK K hb1 hs5
      (try simp only [List.getElem_toArray, List.getElem_cons_succ, List.getElem_cons_zero, Act.put, List.setIfInBounds_toArray, List.set_cons_zero, List.set_cons_succ])
      refine wpAnyH_ready (rs := [6]) (by kernel_rfl) (by simp) ?_
      refine AllReadyH.cons (o := _) rfl (fun K hK => ?_) AllReadyH.nil
      rw [if_pos (by rfl)]
      refine wp_store_cpu _ _ rfl _ rfl rfl hAL Y5 Z25_len ?_
      replace Y5 := lk_row (M := advL L) Y5
      replace bb := below_setRow bb _ hg5 (cw (advL L)).toArray
      (try dsimp only)
      refine hK.out _ _ ?_ (fun hHeld => ?_)
      · exact ⟨range_on hrg bb (by omega), cell_on hcm bb⟩
      clear hK K
      (try simp only [List.getElem_toArray, List.getElem_cons_succ, List.getElem_cons_zero, Act.put, List.setIfInBounds_toArray, List.set_cons_zero, List.set_cons_succ])
      (refine wpAnyH_take (i := 7) (oi := _) (v := ?_) rfl (by kernel_rfl) (by kernel_rfl) (by kernel_rfl) (fun _ _ _ h => h) (Or.inl ⟨by rfl, ?_⟩) (by assumption) ?_; rotate_left 1; focus (intro w hSw; go_simp; try with_reducible rfl); (try simp only [List.getElem_toArray, List.getElem_cons_succ, List.getElem_cons_zero, Act.put, List.setIfInBounds_toArray, List.set_cons_zero, List.set_cons_succ]))
      refine wpAnyH_done (by kernel_rfl) ?_ _
      (try simp only [List.getElem_toArray, List.getElem_cons_succ, List.getElem_cons_zero, Act.put, List.setIfInBounds_toArray, List.set_cons_zero, List.set_cons_succ])
      have F : lk _ W.heap.size = _ ∧ W.heap.size ≤ W.heap.size ∧ Below W.heap.size W _ := ⟨Y5, hg5, bb⟩
      generalize World.setRow w1 _ _ = W5 at F ⊢
      generalize hgg : W.heap.size = g5
      have F' : lk W5 g5 = some (.cells (cw (advL L)).toArray 32 (0, 0)) ∧ W.heap.size ≤ g5 ∧ Below W.heap.size W W5 := ⟨by rw [← hgg]; exact F.1, by rw [← hgg]; exact Nat.le_refl _, F.2.2⟩
      clear hgg F
      revert F'; revert g5 W5
      exact key.out
  case kp =>
    show ∀ (W5 : World) (g5 : Nat), _
    intro W5 g5 ⟨Y5, hg5, bW⟩
    have Y2 := look_on X2 bW (by omega)
    have Y3 := look_on X3 bW (by omega)
    have Y4 := look_on X4 bW (by omega)
    have hW5 : g5 < W5.heap.size := by
      have := Y5
      unfold lk at this
      exact (Array.getElem?_eq_some_iff.1 this).1
    have HB5 : Below w.heap.size w W5 := below_step HB bW
    clear X2 X3 X4 bW hrg hcm bb HA hHeld
    have C2 : ∀ k : Nat, k < 25 → W5.cell? ⟨w.heap.size, k, none⟩ = some (.int .u32 (wd L k)) := fun k hk => (cell_lk Y2 k).trans (by simpa using cw_at hLL hk)
    have C5 : ∀ k : Nat, k < 25 → W5.cell? ⟨g5, k, none⟩ = some (.int .u32 (wd (advL L) k)) := fun k hk => (cell_lk Y5 k).trans (by simpa using cw_at hAL hk)
    have c0 : W5.cell? ⟨w.heap.size + 1, 0, none⟩ = _ := cell_lk Y3 0
    have c1 : W5.cell? ⟨w.heap.size + 1, 1, none⟩ = _ := cell_lk Y3 1
    have c2 : W5.cell? ⟨w.heap.size + 1, 2, none⟩ = _ := cell_lk Y3 2
    have c3 : W5.cell? ⟨w.heap.size + 1, 3, none⟩ = _ := cell_lk Y3 3
    have c4 : W5.cell? ⟨w.heap.size + 1, 4, none⟩ = _ := cell_lk Y3 4
    simp at c0 c1 c2 c3 c4
    have ca := C2 a ha25
    have cb := C2 b hb25
    repeat' (first
      | (with_reducible refine then_normal ?_) | (with_reducible refine wp_exit ?_) | (with_reducible refine wp_ret ?_) | (with_reducible refine then_exit ?_) | (with_reducible refine blk_hit ?_) | (with_reducible refine blk_pass (by decide) ?_) | (with_reducible refine then_ret ?_) | (with_reducible refine blk_ret ?_) | (with_reducible refine blk_normal ?_)
      | (refine wpList_load_look rfl _ rfl _ rfl (fun ob hob => ?_); (first | rw [Y5] at hob | rw [Y2] at hob); subst hob; refine ⟨_, rfl, by assumption, ?_⟩; simp only [Act.put, List.setIfInBounds_toArray, List.set_cons_zero, List.set_cons_succ])
      | go_values | go_skip | go_guarded | go_step | go_upon | (simp only [Int.not_lt, Int.not_le] at *; go_simp) | (go_values <;> (try go_simp)) | (go_ite <;> go_prune <;> (try go_simp)))
    have s0 : W5.drew.cell? ⟨w.heap.size + 1, 0, none⟩ = _ := c0
    have s1 : W5.drew.cell? ⟨w.heap.size + 1, 1, none⟩ = _ := c1
    have s2 : W5.drew.cell? ⟨w.heap.size + 1, 2, none⟩ = _ := c2
    have s3 : W5.drew.cell? ⟨w.heap.size, a, none⟩ = _ := ca
    have s4 : W5.drew.cell? ⟨w.heap.size, b, none⟩ = _ := cb
    go_region_held3 (fun w' => w'.cell? ⟨w.heap.size + 1, 0, none⟩ = some (.int .i64 41) ∧ w'.cell? ⟨w.heap.size + 1, 1, none⟩ = some (.int .i64 a) ∧ w'.cell? ⟨w.heap.size + 1, 2, none⟩ = some (.int .i64 b) ∧ w'.cell? ⟨w.heap.size, a, none⟩ = some (.int .u32 (wd L a)) ∧ w'.cell? ⟨w.heap.size, b, none⟩ = some (.int .u32 (wd L b))) (first | exact ⟨s0, s1, s2, s3, s4⟩ | go_keep) (first | (go_at_call 49; refine (HBR.out _).mono ?_; rintro e w6 ⟨rfl, rfl⟩))
    have V5 : lk W5.drew g5 = _ := Y5
    have V4 : lk W5.drew (w.heap.size + 2) = _ := Y4
    have HB6 : Below w.heap.size w W5.drew := HB5.drew
    have hw6 : g5 < W5.drew.heap.size := hW5
    have d5 : W5.drew.cell? ⟨g5, 16, none⟩ = some (.int .u32 (wd (advL L) 16)) := C5 16 (by omega)
    have f5 : W5.drew.frozen? ⟨g5, 16, none⟩ = false := frozen_lk V5 16
    clear s0 s1 s2 s3 s4 ca cb c0 c1 c2 c3 c4 C2 C5 Y5 Y4 Y2 Y3 HB5
    generalize W5.drew = W6 at *
    cases tk
    · repeat' (first
        | (with_reducible refine then_normal ?_) | (with_reducible refine wp_exit ?_) | (with_reducible refine wp_ret ?_) | (with_reducible refine then_exit ?_) | (with_reducible refine blk_hit ?_) | (with_reducible refine blk_pass (by decide) ?_) | (with_reducible refine then_ret ?_) | (with_reducible refine blk_ret ?_) | (with_reducible refine blk_normal ?_)
        | (refine wpList_load_look rfl _ rfl _ rfl (fun ob hob => ?_); rw [V5] at hob; subst hob; refine ⟨_, rfl, hAL, ?_⟩; simp only [Act.put, List.setIfInBounds_toArray, List.set_cons_zero, List.set_cons_succ])
        | (refine wpList_store_look rfl _ _ rfl _ rfl rfl hAL (fun ob hob => by (rw [V4] at hob; subst hob; exact ⟨_, rfl, Z25_len⟩)) (fun w2 hw2 => ?_); subst hw2; simp only [Act.put, List.setIfInBounds_toArray, List.set_cons_zero, List.set_cons_succ])
        | go_values | go_skip | go_guarded | go_step | go_upon | (simp only [Int.not_lt, Int.not_le] at *; go_simp) | (go_values <;> (try go_simp)) | (go_ite <;> go_prune <;> (try go_simp)))
      exact bodyPost_ret (v := cpV (advL L)) (results_cpu rfl _ _ (w.heap.size + 2) rfl hAL (lk_row V4)) rfl ⟨rfl, below_setRow HB6 _ (by omega) _⟩
    · have eT := Lib.hid (show (wd L 16 + 4 * (m % 4294967296)) % 4294967296 = (wd L 16 + 4 * m) % 4294967296 by omega)
      generalize hT : (wd L 16 + 4 * (m % 4294967296)) % 4294967296 = T at *
      have U5 := lk_set V5 16 T
      have U4 := lk_setN (k := 16) (v := .int .u32 T) V4 (show ¬ g5 = w.heap.size + 2 by omega)
      have hRT : ((advL L).set 16 T).length = 25 := by rw [List.length_set]; exact hAL
      have HB7 : Below w.heap.size w (W6.setCell ⟨g5, 16, none⟩ (.int .u32 T)) := HB6.setCell (show w.heap.size ≤ g5 by omega) _
      repeat' (first
        | (with_reducible refine then_normal ?_) | (with_reducible refine wp_exit ?_) | (with_reducible refine wp_ret ?_) | (with_reducible refine then_exit ?_) | (with_reducible refine blk_hit ?_) | (with_reducible refine blk_pass (by decide) ?_) | (with_reducible refine then_ret ?_) | (with_reducible refine blk_ret ?_) | (with_reducible refine blk_normal ?_)
        | (refine wpList_load_look rfl _ rfl _ rfl (fun ob hob => ?_); rw [U5] at hob; subst hob; refine ⟨_, rfl, hRT, ?_⟩; simp only [Act.put, List.setIfInBounds_toArray, List.set_cons_zero, List.set_cons_succ])
        | (refine wpList_store_look rfl _ _ rfl _ rfl rfl hRT (fun ob hob => by (rw [U4] at hob; subst hob; exact ⟨_, rfl, Z25_len⟩)) (fun w2 hw2 => ?_); subst hw2; simp only [Act.put, List.setIfInBounds_toArray, List.set_cons_zero, List.set_cons_succ])
        | go_values | go_skip | go_guarded | go_step | go_upon | (simp only [Int.not_lt, Int.not_le] at *; go_simp) | (go_values <;> (try go_simp)) | (go_ite <;> go_prune <;> (try go_simp)))
      exact bodyPost_ret (v := cpV ((advL L).set 16 T)) (results_cpu rfl _ _ (w.heap.size + 2) rfl hRT (lk_row U4)) rfl ⟨by rw [eT.out, hset], below_setRow HB7 _ (by omega) _⟩
set_option maxHeartbeats 4000000 in
theorem step_br42 (L : List Int) (A B c m : Int) (a b : Nat) (w : World) (hL : C25 L) (ha : A = a) (a1 : a < 16) (hb : B = b) (b1 : b < 16) (m0 : -32768 ≤ m) (m1 : m ≤ 65535) :
    Calls Tryd.prog 27 #[cpV L, instV 42 A B c m] w fun e w' => e = .returned (cpV (if tkn 42 (wd L a) (wd L b) = true then L.set 16 ((wd L 16 + 4 * m) % 4294967296) else advL L)) ∧ Below w.heap.size w w' := by
  subst ha hb
  have hLL := hL.1
  have HA := Lib.hid (fun W => advance_any L W hL)
  have HBR := Lib.hid (fun W => branches_any 42 (wd L a) (wd L b) W (by decide))
  have hset : (advL L).set 16 ((wd L 16 + 4 * m) % 4294967296) = L.set 16 ((wd L 16 + 4 * m) % 4294967296) := by unfold advL; rw [List.set_set]
  have hb0 : (0 : Int) ≤ b := by omega
  have hb1 : (b : Int) < 16 := by omega
  have hb25 : b < 25 := by omega
  have ha0 : (0 : Int) ≤ a := by omega
  have ha1 : (a : Int) < 16 := by omega
  have ha25 : a < 25 := by omega
  generalize htk : tkn 42 (wd L a) (wd L b) = tk at *
  clear htk
  unfold instV
  obtain ⟨F1, F2, F3, -⟩ := cw_facts
  go_enter Tryd.func27, Tryd.ntmps27
  go_wp2_with (first
    | (refine wpList_box_box rfl _ rfl rfl ?_; simp only [Act.put, List.setIfInBounds_toArray, List.set_cons_zero, List.set_cons_succ])
    | (refine wpList_alloc_box rfl rfl ?_; simp only [Act.put, List.setIfInBounds_toArray, List.set_cons_zero, List.set_cons_succ]))
  generalize hW : World.alloc (World.alloc (World.alloc w _) _) _ = W
  have X2 : lk W w.heap.size = some (.cells (cw L).toArray 32 (0, 0)) := by rw [← hW]; simp [look_alloc] <;> omega
  have X3 : lk W (w.heap.size + 1) = some (.cells #[.int .i64 42, .int .i64 a, .int .i64 b, .int .i64 c, .int .i32 m] 27 (0, 0)) := by rw [← hW]; simp [look_alloc]
  have X4 : lk W (w.heap.size + 2) = some (.cells (cw Z25).toArray 32 (0, 0)) := by rw [← hW]; simp [look_alloc]
  have HB : Below w.heap.size w W := by rw [← hW]; (repeat' (first | with_reducible exact Below.refl _ _ | with_reducible assumption | with_reducible apply below_drewN | with_reducible apply Below.drew | with_reducible apply Below.setCell | with_reducible apply Below.alloc | (simp; done) | omega | (simp; omega)))
  have hsz : w.heap.size + 2 < W.heap.size := by rw [← hW]; simp
  clear hW
  obtain ⟨fs, hu⟩ := undCpu
  have hi : (Tryd.prog.info? 32).map (·.size) = some (cw L).length := by rw [cw_len hLL]; exact infCpu
  have hrg : W.rangeAt w.heap.size 0 (cw L) := fun j u hu => by rw [Nat.zero_add]; exact (cell_lk X2 j).trans (by simpa using hu)
  have hcm : W.cell? ⟨w.heap.size + 1, 4, none⟩ = some (.int .i32 m) := cell_lk X3 4
  have bb : Below W.heap.size W W.drew := (Below.refl _ _).drew
  unfold cpV at HA
  refine wp_region_held_drew (S := fun w' => w'.rangeAt w.heap.size 0 (cw L) ∧ w'.cell? ⟨w.heap.size + 1, 4, none⟩ = some (.int .i32 m)) (by kernel_rfl) ⟨range_on hrg bb (by omega), cell_on hcm bb⟩ (fun hHeld => ?_)
  (refine' wpAnyH_take (i := 0) (oi := _) (v := _) rfl (by kernel_rfl) (by kernel_rfl) (by kernel_rfl) (fun _ _ _ h => h) (yieldsIf_load_mid (by rfl) _ _ rfl _ 0 rfl (cw L) _ (fun w hw => hw.1) hu rfl hi) (by assumption) ?_; (try simp only [List.getElem_toArray, List.getElem_cons_succ, List.getElem_cons_zero, Act.put, List.setIfInBounds_toArray, List.set_cons_zero, List.set_cons_succ]))
  (refine wpAnyH_take (i := 2) (oi := _) (v := ?_) rfl (by kernel_rfl) (by kernel_rfl) (by kernel_rfl) (fun _ _ _ h => h) (Or.inl ⟨by rfl, ?_⟩) (by assumption) ?_; rotate_left 1; focus (intro w hSw; go_simp; try with_reducible rfl); (try simp only [List.getElem_toArray, List.getElem_cons_succ, List.getElem_cons_zero, Act.put, List.setIfInBounds_toArray, List.set_cons_zero, List.set_cons_succ]))
  (refine wpAnyH_take (i := 3) (oi := _) (v := ?_) rfl (by kernel_rfl) (by kernel_rfl) (by kernel_rfl) (fun _ _ _ h => h) (Or.inl ⟨by rfl, ?_⟩) (by assumption) ?_; rotate_left 1; focus (rintro w ⟨-, hSw⟩; go_simp; try with_reducible rfl); (try simp only [List.getElem_toArray, List.getElem_cons_succ, List.getElem_cons_zero, Act.put, List.setIfInBounds_toArray, List.set_cons_zero, List.set_cons_succ]))
  (refine wpAnyH_take (i := 4) (oi := _) (v := ?_) rfl (by kernel_rfl) (by kernel_rfl) (by kernel_rfl) (fun _ _ _ h => h) (Or.inl ⟨by rfl, ?_⟩) (by assumption) ?_; rotate_left 1; focus (intro w hSw; go_simp; try with_reducible rfl); (try simp only [List.getElem_toArray, List.getElem_cons_succ, List.getElem_cons_zero, Act.put, List.setIfInBounds_toArray, List.set_cons_zero, List.set_cons_succ]))
  have hAL := hL.adv.1
  refine (fun (key : Hid ?T) => ?main) ?kp
  case main =>
    refine wpAnyH_ready (rs := [1, 5]) (by kernel_rfl) (by simp) ?_
    refine AllReadyH.cons (o := _) rfl (fun K hK => ?_) (AllReadyH.cons (o := _) rfl (fun K hK => ?_) AllReadyH.nil)
    · rw [if_pos (by rfl)]
      go_simp
      refine (HA.out _).mono ?_
      rintro e w1 ⟨rfl, hb1⟩
      replace bb := below_step bb hb1
      (try dsimp only)
      refine hK.out _ _ ?_ (fun hHeld => ?_)
      · exact ⟨range_on hrg bb (by omega), cell_on hcm bb⟩
      clear hK K hb1
      (try simp only [List.getElem_toArray, List.getElem_cons_succ, List.getElem_cons_zero, Act.put, List.setIfInBounds_toArray, List.set_cons_zero, List.set_cons_succ])
      refine wpAnyH_ready (rs := [5]) (by kernel_rfl) (by simp) ?_
      refine AllReadyH.cons (o := _) rfl (fun K hK => ?_) AllReadyH.nil
      rw [if_pos (by rfl)]
      refine wp_alloc_cpu rfl ?_
      have hsz1 := bb.size
      replace bb := bb.alloc hsz1 (.cells (cw Z25).toArray 32)
      (try dsimp only)
      refine hK.out _ _ ?_ (fun hHeld => ?_)
      · exact ⟨range_on hrg bb (by omega), cell_on hcm bb⟩
      clear hK K
      (try simp only [List.getElem_toArray, List.getElem_cons_succ, List.getElem_cons_zero, Act.put, List.setIfInBounds_toArray, List.set_cons_zero, List.set_cons_succ])
      have Y5 : lk (w1.alloc (.cells (cw Z25).toArray 32)) w1.heap.size = some (.cells (cw Z25).toArray 32 (0, 0)) := by rw [look_alloc, if_pos rfl]
      have hg5 := hsz1
      refine wpAnyH_ready (rs := [6]) (by kernel_rfl) (by simp) ?_
      refine AllReadyH.cons (o := _) rfl (fun K hK => ?_) AllReadyH.nil
      rw [if_pos (by rfl)]
      refine wp_store_cpu _ _ rfl _ rfl rfl hAL Y5 Z25_len ?_
      replace Y5 := lk_row (M := advL L) Y5
      replace bb := below_setRow bb _ hg5 (cw (advL L)).toArray
      (try dsimp only)
      refine hK.out _ _ ?_ (fun hHeld => ?_)
      · exact ⟨range_on hrg bb (by omega), cell_on hcm bb⟩
      clear hK K
      (try simp only [List.getElem_toArray, List.getElem_cons_succ, List.getElem_cons_zero, Act.put, List.setIfInBounds_toArray, List.set_cons_zero, List.set_cons_succ])
      (refine wpAnyH_take (i := 7) (oi := _) (v := ?_) rfl (by kernel_rfl) (by kernel_rfl) (by kernel_rfl) (fun _ _ _ h => h) (Or.inl ⟨by rfl, ?_⟩) (by assumption) ?_; rotate_left 1; focus (intro w hSw; go_simp; try with_reducible rfl); (try simp only [List.getElem_toArray, List.getElem_cons_succ, List.getElem_cons_zero, Act.put, List.setIfInBounds_toArray, List.set_cons_zero, List.set_cons_succ]))
      refine wpAnyH_done (by kernel_rfl) ?_ _
      (try simp only [List.getElem_toArray, List.getElem_cons_succ, List.getElem_cons_zero, Act.put, List.setIfInBounds_toArray, List.set_cons_zero, List.set_cons_succ])
      have F : lk _ w1.heap.size = _ ∧ W.heap.size ≤ w1.heap.size ∧ Below W.heap.size W _ := ⟨Y5, hg5, bb⟩
      generalize World.setRow (World.alloc w1 _) _ _ = W5 at F ⊢
      generalize w1.heap.size = g5 at F ⊢
      revert F; revert g5 W5
      exact key.out
    · rw [if_pos (by rfl)]
      refine wp_alloc_cpu rfl ?_
      have Y5 : lk (W.drew.alloc (.cells (cw Z25).toArray 32)) W.heap.size = some (.cells (cw Z25).toArray 32 (0, 0)) := by rw [look_alloc]; exact if_pos rfl
      have hg5 : W.heap.size ≤ W.heap.size := Nat.le_refl _
      replace bb := bb.alloc hg5 (.cells (cw Z25).toArray 32)
      have hs5 : W.heap.size < (W.drew.alloc (.cells (cw Z25).toArray 32)).heap.size := by simp
      (try dsimp only)
      refine hK.out _ _ ?_ (fun hHeld => ?_)
      · exact ⟨range_on hrg bb (by omega), cell_on hcm bb⟩
      clear hK K
      (try simp only [List.getElem_toArray, List.getElem_cons_succ, List.getElem_cons_zero, Act.put, List.setIfInBounds_toArray, List.set_cons_zero, List.set_cons_succ])
      refine wpAnyH_ready (rs := [1]) (by kernel_rfl) (by simp) ?_
      refine AllReadyH.cons (o := _) rfl (fun K hK => ?_) AllReadyH.nil
      rw [if_pos (by rfl)]
      go_simp
      refine (HA.out _).mono ?_
      rintro e w1 ⟨rfl, hb1⟩
      replace Y5 := look_on Y5 hb1 hs5
      replace bb := below_step bb hb1
      (try dsimp only)
      refine hK.out _ _ ?_ (fun hHeld => ?_)
      · exact ⟨range_on hrg bb (by omega), cell_on hcm bb⟩
      clear hK K hb1 hs5
      (try simp only [List.getElem_toArray, List.getElem_cons_succ, List.getElem_cons_zero, Act.put, List.setIfInBounds_toArray, List.set_cons_zero, List.set_cons_succ])
      refine wpAnyH_ready (rs := [6]) (by kernel_rfl) (by simp) ?_
      refine AllReadyH.cons (o := _) rfl (fun K hK => ?_) AllReadyH.nil
      rw [if_pos (by rfl)]
      refine wp_store_cpu _ _ rfl _ rfl rfl hAL Y5 Z25_len ?_
      replace Y5 := lk_row (M := advL L) Y5
      replace bb := below_setRow bb _ hg5 (cw (advL L)).toArray
      (try dsimp only)
      refine hK.out _ _ ?_ (fun hHeld => ?_)
      · exact ⟨range_on hrg bb (by omega), cell_on hcm bb⟩
      clear hK K
      (try simp only [List.getElem_toArray, List.getElem_cons_succ, List.getElem_cons_zero, Act.put, List.setIfInBounds_toArray, List.set_cons_zero, List.set_cons_succ])
      (refine wpAnyH_take (i := 7) (oi := _) (v := ?_) rfl (by kernel_rfl) (by kernel_rfl) (by kernel_rfl) (fun _ _ _ h => h) (Or.inl ⟨by rfl, ?_⟩) (by assumption) ?_; rotate_left 1; focus (intro w hSw; go_simp; try with_reducible rfl); (try simp only [List.getElem_toArray, List.getElem_cons_succ, List.getElem_cons_zero, Act.put, List.setIfInBounds_toArray, List.set_cons_zero, List.set_cons_succ]))
      refine wpAnyH_done (by kernel_rfl) ?_ _
      (try simp only [List.getElem_toArray, List.getElem_cons_succ, List.getElem_cons_zero, Act.put, List.setIfInBounds_toArray, List.set_cons_zero, List.set_cons_succ])
      have F : lk _ W.heap.size = _ ∧ W.heap.size ≤ W.heap.size ∧ Below W.heap.size W _ := ⟨Y5, hg5, bb⟩
      generalize World.setRow w1 _ _ = W5 at F ⊢
      generalize hgg : W.heap.size = g5
      have F' : lk W5 g5 = some (.cells (cw (advL L)).toArray 32 (0, 0)) ∧ W.heap.size ≤ g5 ∧ Below W.heap.size W W5 := ⟨by rw [← hgg]; exact F.1, by rw [← hgg]; exact Nat.le_refl _, F.2.2⟩
      clear hgg F
      revert F'; revert g5 W5
      exact key.out
  case kp =>
    show ∀ (W5 : World) (g5 : Nat), _
    intro W5 g5 ⟨Y5, hg5, bW⟩
    have Y2 := look_on X2 bW (by omega)
    have Y3 := look_on X3 bW (by omega)
    have Y4 := look_on X4 bW (by omega)
    have hW5 : g5 < W5.heap.size := by
      have := Y5
      unfold lk at this
      exact (Array.getElem?_eq_some_iff.1 this).1
    have HB5 : Below w.heap.size w W5 := below_step HB bW
    clear X2 X3 X4 bW hrg hcm bb HA hHeld
    have C2 : ∀ k : Nat, k < 25 → W5.cell? ⟨w.heap.size, k, none⟩ = some (.int .u32 (wd L k)) := fun k hk => (cell_lk Y2 k).trans (by simpa using cw_at hLL hk)
    have C5 : ∀ k : Nat, k < 25 → W5.cell? ⟨g5, k, none⟩ = some (.int .u32 (wd (advL L) k)) := fun k hk => (cell_lk Y5 k).trans (by simpa using cw_at hAL hk)
    have c0 : W5.cell? ⟨w.heap.size + 1, 0, none⟩ = _ := cell_lk Y3 0
    have c1 : W5.cell? ⟨w.heap.size + 1, 1, none⟩ = _ := cell_lk Y3 1
    have c2 : W5.cell? ⟨w.heap.size + 1, 2, none⟩ = _ := cell_lk Y3 2
    have c3 : W5.cell? ⟨w.heap.size + 1, 3, none⟩ = _ := cell_lk Y3 3
    have c4 : W5.cell? ⟨w.heap.size + 1, 4, none⟩ = _ := cell_lk Y3 4
    simp at c0 c1 c2 c3 c4
    have ca := C2 a ha25
    have cb := C2 b hb25
    repeat' (first
      | (with_reducible refine then_normal ?_) | (with_reducible refine wp_exit ?_) | (with_reducible refine wp_ret ?_) | (with_reducible refine then_exit ?_) | (with_reducible refine blk_hit ?_) | (with_reducible refine blk_pass (by decide) ?_) | (with_reducible refine then_ret ?_) | (with_reducible refine blk_ret ?_) | (with_reducible refine blk_normal ?_)
      | (refine wpList_load_look rfl _ rfl _ rfl (fun ob hob => ?_); (first | rw [Y5] at hob | rw [Y2] at hob); subst hob; refine ⟨_, rfl, by assumption, ?_⟩; simp only [Act.put, List.setIfInBounds_toArray, List.set_cons_zero, List.set_cons_succ])
      | go_values | go_skip | go_guarded | go_step | go_upon | (simp only [Int.not_lt, Int.not_le] at *; go_simp) | (go_values <;> (try go_simp)) | (go_ite <;> go_prune <;> (try go_simp)))
    have s0 : W5.drew.cell? ⟨w.heap.size + 1, 0, none⟩ = _ := c0
    have s1 : W5.drew.cell? ⟨w.heap.size + 1, 1, none⟩ = _ := c1
    have s2 : W5.drew.cell? ⟨w.heap.size + 1, 2, none⟩ = _ := c2
    have s3 : W5.drew.cell? ⟨w.heap.size, a, none⟩ = _ := ca
    have s4 : W5.drew.cell? ⟨w.heap.size, b, none⟩ = _ := cb
    go_region_held3 (fun w' => w'.cell? ⟨w.heap.size + 1, 0, none⟩ = some (.int .i64 42) ∧ w'.cell? ⟨w.heap.size + 1, 1, none⟩ = some (.int .i64 a) ∧ w'.cell? ⟨w.heap.size + 1, 2, none⟩ = some (.int .i64 b) ∧ w'.cell? ⟨w.heap.size, a, none⟩ = some (.int .u32 (wd L a)) ∧ w'.cell? ⟨w.heap.size, b, none⟩ = some (.int .u32 (wd L b))) (first | exact ⟨s0, s1, s2, s3, s4⟩ | go_keep) (first | (go_at_call 49; refine (HBR.out _).mono ?_; rintro e w6 ⟨rfl, rfl⟩))
    have V5 : lk W5.drew g5 = _ := Y5
    have V4 : lk W5.drew (w.heap.size + 2) = _ := Y4
    have HB6 : Below w.heap.size w W5.drew := HB5.drew
    have hw6 : g5 < W5.drew.heap.size := hW5
    have d5 : W5.drew.cell? ⟨g5, 16, none⟩ = some (.int .u32 (wd (advL L) 16)) := C5 16 (by omega)
    have f5 : W5.drew.frozen? ⟨g5, 16, none⟩ = false := frozen_lk V5 16
    clear s0 s1 s2 s3 s4 ca cb c0 c1 c2 c3 c4 C2 C5 Y5 Y4 Y2 Y3 HB5
    generalize W5.drew = W6 at *
    cases tk
    · repeat' (first
        | (with_reducible refine then_normal ?_) | (with_reducible refine wp_exit ?_) | (with_reducible refine wp_ret ?_) | (with_reducible refine then_exit ?_) | (with_reducible refine blk_hit ?_) | (with_reducible refine blk_pass (by decide) ?_) | (with_reducible refine then_ret ?_) | (with_reducible refine blk_ret ?_) | (with_reducible refine blk_normal ?_)
        | (refine wpList_load_look rfl _ rfl _ rfl (fun ob hob => ?_); rw [V5] at hob; subst hob; refine ⟨_, rfl, hAL, ?_⟩; simp only [Act.put, List.setIfInBounds_toArray, List.set_cons_zero, List.set_cons_succ])
        | (refine wpList_store_look rfl _ _ rfl _ rfl rfl hAL (fun ob hob => by (rw [V4] at hob; subst hob; exact ⟨_, rfl, Z25_len⟩)) (fun w2 hw2 => ?_); subst hw2; simp only [Act.put, List.setIfInBounds_toArray, List.set_cons_zero, List.set_cons_succ])
        | go_values | go_skip | go_guarded | go_step | go_upon | (simp only [Int.not_lt, Int.not_le] at *; go_simp) | (go_values <;> (try go_simp)) | (go_ite <;> go_prune <;> (try go_simp)))
      exact bodyPost_ret (v := cpV (advL L)) (results_cpu rfl _ _ (w.heap.size + 2) rfl hAL (lk_row V4)) rfl ⟨rfl, below_setRow HB6 _ (by omega) _⟩
    · have eT := Lib.hid (show (wd L 16 + 4 * (m % 4294967296)) % 4294967296 = (wd L 16 + 4 * m) % 4294967296 by omega)
      generalize hT : (wd L 16 + 4 * (m % 4294967296)) % 4294967296 = T at *
      have U5 := lk_set V5 16 T
      have U4 := lk_setN (k := 16) (v := .int .u32 T) V4 (show ¬ g5 = w.heap.size + 2 by omega)
      have hRT : ((advL L).set 16 T).length = 25 := by rw [List.length_set]; exact hAL
      have HB7 : Below w.heap.size w (W6.setCell ⟨g5, 16, none⟩ (.int .u32 T)) := HB6.setCell (show w.heap.size ≤ g5 by omega) _
      repeat' (first
        | (with_reducible refine then_normal ?_) | (with_reducible refine wp_exit ?_) | (with_reducible refine wp_ret ?_) | (with_reducible refine then_exit ?_) | (with_reducible refine blk_hit ?_) | (with_reducible refine blk_pass (by decide) ?_) | (with_reducible refine then_ret ?_) | (with_reducible refine blk_ret ?_) | (with_reducible refine blk_normal ?_)
        | (refine wpList_load_look rfl _ rfl _ rfl (fun ob hob => ?_); rw [U5] at hob; subst hob; refine ⟨_, rfl, hRT, ?_⟩; simp only [Act.put, List.setIfInBounds_toArray, List.set_cons_zero, List.set_cons_succ])
        | (refine wpList_store_look rfl _ _ rfl _ rfl rfl hRT (fun ob hob => by (rw [U4] at hob; subst hob; exact ⟨_, rfl, Z25_len⟩)) (fun w2 hw2 => ?_); subst hw2; simp only [Act.put, List.setIfInBounds_toArray, List.set_cons_zero, List.set_cons_succ])
        | go_values | go_skip | go_guarded | go_step | go_upon | (simp only [Int.not_lt, Int.not_le] at *; go_simp) | (go_values <;> (try go_simp)) | (go_ite <;> go_prune <;> (try go_simp)))
      exact bodyPost_ret (v := cpV ((advL L).set 16 T)) (results_cpu rfl _ _ (w.heap.size + 2) rfl hRT (lk_row U4)) rfl ⟨by rw [eT.out, hset], below_setRow HB7 _ (by omega) _⟩
set_option maxHeartbeats 4000000 in
theorem step_br43 (L : List Int) (A B c m : Int) (a b : Nat) (w : World) (hL : C25 L) (ha : A = a) (a1 : a < 16) (hb : B = b) (b1 : b < 16) (m0 : -32768 ≤ m) (m1 : m ≤ 65535) :
    Calls Tryd.prog 27 #[cpV L, instV 43 A B c m] w fun e w' => e = .returned (cpV (if tkn 43 (wd L a) (wd L b) = true then L.set 16 ((wd L 16 + 4 * m) % 4294967296) else advL L)) ∧ Below w.heap.size w w' := by
  subst ha hb
  have hLL := hL.1
  have HA := Lib.hid (fun W => advance_any L W hL)
  have HBR := Lib.hid (fun W => branches_any 43 (wd L a) (wd L b) W (by decide))
  have hset : (advL L).set 16 ((wd L 16 + 4 * m) % 4294967296) = L.set 16 ((wd L 16 + 4 * m) % 4294967296) := by unfold advL; rw [List.set_set]
  have hb0 : (0 : Int) ≤ b := by omega
  have hb1 : (b : Int) < 16 := by omega
  have hb25 : b < 25 := by omega
  have ha0 : (0 : Int) ≤ a := by omega
  have ha1 : (a : Int) < 16 := by omega
  have ha25 : a < 25 := by omega
  generalize htk : tkn 43 (wd L a) (wd L b) = tk at *
  clear htk
  unfold instV
  obtain ⟨F1, F2, F3, -⟩ := cw_facts
  go_enter Tryd.func27, Tryd.ntmps27
  go_wp2_with (first
    | (refine wpList_box_box rfl _ rfl rfl ?_; simp only [Act.put, List.setIfInBounds_toArray, List.set_cons_zero, List.set_cons_succ])
    | (refine wpList_alloc_box rfl rfl ?_; simp only [Act.put, List.setIfInBounds_toArray, List.set_cons_zero, List.set_cons_succ]))
  generalize hW : World.alloc (World.alloc (World.alloc w _) _) _ = W
  have X2 : lk W w.heap.size = some (.cells (cw L).toArray 32 (0, 0)) := by rw [← hW]; simp [look_alloc] <;> omega
  have X3 : lk W (w.heap.size + 1) = some (.cells #[.int .i64 43, .int .i64 a, .int .i64 b, .int .i64 c, .int .i32 m] 27 (0, 0)) := by rw [← hW]; simp [look_alloc]
  have X4 : lk W (w.heap.size + 2) = some (.cells (cw Z25).toArray 32 (0, 0)) := by rw [← hW]; simp [look_alloc]
  have HB : Below w.heap.size w W := by rw [← hW]; (repeat' (first | with_reducible exact Below.refl _ _ | with_reducible assumption | with_reducible apply below_drewN | with_reducible apply Below.drew | with_reducible apply Below.setCell | with_reducible apply Below.alloc | (simp; done) | omega | (simp; omega)))
  have hsz : w.heap.size + 2 < W.heap.size := by rw [← hW]; simp
  clear hW
  obtain ⟨fs, hu⟩ := undCpu
  have hi : (Tryd.prog.info? 32).map (·.size) = some (cw L).length := by rw [cw_len hLL]; exact infCpu
  have hrg : W.rangeAt w.heap.size 0 (cw L) := fun j u hu => by rw [Nat.zero_add]; exact (cell_lk X2 j).trans (by simpa using hu)
  have hcm : W.cell? ⟨w.heap.size + 1, 4, none⟩ = some (.int .i32 m) := cell_lk X3 4
  have bb : Below W.heap.size W W.drew := (Below.refl _ _).drew
  unfold cpV at HA
  refine wp_region_held_drew (S := fun w' => w'.rangeAt w.heap.size 0 (cw L) ∧ w'.cell? ⟨w.heap.size + 1, 4, none⟩ = some (.int .i32 m)) (by kernel_rfl) ⟨range_on hrg bb (by omega), cell_on hcm bb⟩ (fun hHeld => ?_)
  (refine' wpAnyH_take (i := 0) (oi := _) (v := _) rfl (by kernel_rfl) (by kernel_rfl) (by kernel_rfl) (fun _ _ _ h => h) (yieldsIf_load_mid (by rfl) _ _ rfl _ 0 rfl (cw L) _ (fun w hw => hw.1) hu rfl hi) (by assumption) ?_; (try simp only [List.getElem_toArray, List.getElem_cons_succ, List.getElem_cons_zero, Act.put, List.setIfInBounds_toArray, List.set_cons_zero, List.set_cons_succ]))
  (refine wpAnyH_take (i := 2) (oi := _) (v := ?_) rfl (by kernel_rfl) (by kernel_rfl) (by kernel_rfl) (fun _ _ _ h => h) (Or.inl ⟨by rfl, ?_⟩) (by assumption) ?_; rotate_left 1; focus (intro w hSw; go_simp; try with_reducible rfl); (try simp only [List.getElem_toArray, List.getElem_cons_succ, List.getElem_cons_zero, Act.put, List.setIfInBounds_toArray, List.set_cons_zero, List.set_cons_succ]))
  (refine wpAnyH_take (i := 3) (oi := _) (v := ?_) rfl (by kernel_rfl) (by kernel_rfl) (by kernel_rfl) (fun _ _ _ h => h) (Or.inl ⟨by rfl, ?_⟩) (by assumption) ?_; rotate_left 1; focus (rintro w ⟨-, hSw⟩; go_simp; try with_reducible rfl); (try simp only [List.getElem_toArray, List.getElem_cons_succ, List.getElem_cons_zero, Act.put, List.setIfInBounds_toArray, List.set_cons_zero, List.set_cons_succ]))
  (refine wpAnyH_take (i := 4) (oi := _) (v := ?_) rfl (by kernel_rfl) (by kernel_rfl) (by kernel_rfl) (fun _ _ _ h => h) (Or.inl ⟨by rfl, ?_⟩) (by assumption) ?_; rotate_left 1; focus (intro w hSw; go_simp; try with_reducible rfl); (try simp only [List.getElem_toArray, List.getElem_cons_succ, List.getElem_cons_zero, Act.put, List.setIfInBounds_toArray, List.set_cons_zero, List.set_cons_succ]))
  have hAL := hL.adv.1
  refine (fun (key : Hid ?T) => ?main) ?kp
  case main =>
    refine wpAnyH_ready (rs := [1, 5]) (by kernel_rfl) (by simp) ?_
    refine AllReadyH.cons (o := _) rfl (fun K hK => ?_) (AllReadyH.cons (o := _) rfl (fun K hK => ?_) AllReadyH.nil)
    · rw [if_pos (by rfl)]
      go_simp
      refine (HA.out _).mono ?_
      rintro e w1 ⟨rfl, hb1⟩
      replace bb := below_step bb hb1
      (try dsimp only)
      refine hK.out _ _ ?_ (fun hHeld => ?_)
      · exact ⟨range_on hrg bb (by omega), cell_on hcm bb⟩
      clear hK K hb1
      (try simp only [List.getElem_toArray, List.getElem_cons_succ, List.getElem_cons_zero, Act.put, List.setIfInBounds_toArray, List.set_cons_zero, List.set_cons_succ])
      refine wpAnyH_ready (rs := [5]) (by kernel_rfl) (by simp) ?_
      refine AllReadyH.cons (o := _) rfl (fun K hK => ?_) AllReadyH.nil
      rw [if_pos (by rfl)]
      refine wp_alloc_cpu rfl ?_
      have hsz1 := bb.size
      replace bb := bb.alloc hsz1 (.cells (cw Z25).toArray 32)
      (try dsimp only)
      refine hK.out _ _ ?_ (fun hHeld => ?_)
      · exact ⟨range_on hrg bb (by omega), cell_on hcm bb⟩
      clear hK K
      (try simp only [List.getElem_toArray, List.getElem_cons_succ, List.getElem_cons_zero, Act.put, List.setIfInBounds_toArray, List.set_cons_zero, List.set_cons_succ])
      have Y5 : lk (w1.alloc (.cells (cw Z25).toArray 32)) w1.heap.size = some (.cells (cw Z25).toArray 32 (0, 0)) := by rw [look_alloc, if_pos rfl]
      have hg5 := hsz1
      refine wpAnyH_ready (rs := [6]) (by kernel_rfl) (by simp) ?_
      refine AllReadyH.cons (o := _) rfl (fun K hK => ?_) AllReadyH.nil
      rw [if_pos (by rfl)]
      refine wp_store_cpu _ _ rfl _ rfl rfl hAL Y5 Z25_len ?_
      replace Y5 := lk_row (M := advL L) Y5
      replace bb := below_setRow bb _ hg5 (cw (advL L)).toArray
      (try dsimp only)
      refine hK.out _ _ ?_ (fun hHeld => ?_)
      · exact ⟨range_on hrg bb (by omega), cell_on hcm bb⟩
      clear hK K
      (try simp only [List.getElem_toArray, List.getElem_cons_succ, List.getElem_cons_zero, Act.put, List.setIfInBounds_toArray, List.set_cons_zero, List.set_cons_succ])
      (refine wpAnyH_take (i := 7) (oi := _) (v := ?_) rfl (by kernel_rfl) (by kernel_rfl) (by kernel_rfl) (fun _ _ _ h => h) (Or.inl ⟨by rfl, ?_⟩) (by assumption) ?_; rotate_left 1; focus (intro w hSw; go_simp; try with_reducible rfl); (try simp only [List.getElem_toArray, List.getElem_cons_succ, List.getElem_cons_zero, Act.put, List.setIfInBounds_toArray, List.set_cons_zero, List.set_cons_succ]))
      refine wpAnyH_done (by kernel_rfl) ?_ _
      (try simp only [List.getElem_toArray, List.getElem_cons_succ, List.getElem_cons_zero, Act.put, List.setIfInBounds_toArray, List.set_cons_zero, List.set_cons_succ])
      have F : lk _ w1.heap.size = _ ∧ W.heap.size ≤ w1.heap.size ∧ Below W.heap.size W _ := ⟨Y5, hg5, bb⟩
      generalize World.setRow (World.alloc w1 _) _ _ = W5 at F ⊢
      generalize w1.heap.size = g5 at F ⊢
      revert F; revert g5 W5
      exact key.out
    · rw [if_pos (by rfl)]
      refine wp_alloc_cpu rfl ?_
      have Y5 : lk (W.drew.alloc (.cells (cw Z25).toArray 32)) W.heap.size = some (.cells (cw Z25).toArray 32 (0, 0)) := by rw [look_alloc]; exact if_pos rfl
      have hg5 : W.heap.size ≤ W.heap.size := Nat.le_refl _
      replace bb := bb.alloc hg5 (.cells (cw Z25).toArray 32)
      have hs5 : W.heap.size < (W.drew.alloc (.cells (cw Z25).toArray 32)).heap.size := by simp
      (try dsimp only)
      refine hK.out _ _ ?_ (fun hHeld => ?_)
      · exact ⟨range_on hrg bb (by omega), cell_on hcm bb⟩
      clear hK K
      (try simp only [List.getElem_toArray, List.getElem_cons_succ, List.getElem_cons_zero, Act.put, List.setIfInBounds_toArray, List.set_cons_zero, List.set_cons_succ])
      refine wpAnyH_ready (rs := [1]) (by kernel_rfl) (by simp) ?_
      refine AllReadyH.cons (o := _) rfl (fun K hK => ?_) AllReadyH.nil
      rw [if_pos (by rfl)]
      go_simp
      refine (HA.out _).mono ?_
      rintro e w1 ⟨rfl, hb1⟩
      replace Y5 := look_on Y5 hb1 hs5
      replace bb := below_step bb hb1
      (try dsimp only)
      refine hK.out _ _ ?_ (fun hHeld => ?_)
      · exact ⟨range_on hrg bb (by omega), cell_on hcm bb⟩
      clear hK K hb1 hs5
      (try simp only [List.getElem_toArray, List.getElem_cons_succ, List.getElem_cons_zero, Act.put, List.setIfInBounds_toArray, List.set_cons_zero, List.set_cons_succ])
      refine wpAnyH_ready (rs := [6]) (by kernel_rfl) (by simp) ?_
      refine AllReadyH.cons (o := _) rfl (fun K hK => ?_) AllReadyH.nil
      rw [if_pos (by rfl)]
      refine wp_store_cpu _ _ rfl _ rfl rfl hAL Y5 Z25_len ?_
      replace Y5 := lk_row (M := advL L) Y5
      replace bb := below_setRow bb _ hg5 (cw (advL L)).toArray
      (try dsimp only)
      refine hK.out _ _ ?_ (fun hHeld => ?_)
      · exact ⟨range_on hrg bb (by omega), cell_on hcm bb⟩
      clear hK K
      (try simp only [List.getElem_toArray, List.getElem_cons_succ, List.getElem_cons_zero, Act.put, List.setIfInBounds_toArray, List.set_cons_zero, List.set_cons_succ])
      (refine wpAnyH_take (i := 7) (oi := _) (v := ?_) rfl (by kernel_rfl) (by kernel_rfl) (by kernel_rfl) (fun _ _ _ h => h) (Or.inl ⟨by rfl, ?_⟩) (by assumption) ?_; rotate_left 1; focus (intro w hSw; go_simp; try with_reducible rfl); (try simp only [List.getElem_toArray, List.getElem_cons_succ, List.getElem_cons_zero, Act.put, List.setIfInBounds_toArray, List.set_cons_zero, List.set_cons_succ]))
      refine wpAnyH_done (by kernel_rfl) ?_ _
      (try simp only [List.getElem_toArray, List.getElem_cons_succ, List.getElem_cons_zero, Act.put, List.setIfInBounds_toArray, List.set_cons_zero, List.set_cons_succ])
      have F : lk _ W.heap.size = _ ∧ W.heap.size ≤ W.heap.size ∧ Below W.heap.size W _ := ⟨Y5, hg5, bb⟩
      generalize World.setRow w1 _ _ = W5 at F ⊢
      generalize hgg : W.heap.size = g5
      have F' : lk W5 g5 = some (.cells (cw (advL L)).toArray 32 (0, 0)) ∧ W.heap.size ≤ g5 ∧ Below W.heap.size W W5 := ⟨by rw [← hgg]; exact F.1, by rw [← hgg]; exact Nat.le_refl _, F.2.2⟩
      clear hgg F
      revert F'; revert g5 W5
      exact key.out
  case kp =>
    show ∀ (W5 : World) (g5 : Nat), _
    intro W5 g5 ⟨Y5, hg5, bW⟩
    have Y2 := look_on X2 bW (by omega)
    have Y3 := look_on X3 bW (by omega)
    have Y4 := look_on X4 bW (by omega)
    have hW5 : g5 < W5.heap.size := by
      have := Y5
      unfold lk at this
      exact (Array.getElem?_eq_some_iff.1 this).1
    have HB5 : Below w.heap.size w W5 := below_step HB bW
    clear X2 X3 X4 bW hrg hcm bb HA hHeld
    have C2 : ∀ k : Nat, k < 25 → W5.cell? ⟨w.heap.size, k, none⟩ = some (.int .u32 (wd L k)) := fun k hk => (cell_lk Y2 k).trans (by simpa using cw_at hLL hk)
    have C5 : ∀ k : Nat, k < 25 → W5.cell? ⟨g5, k, none⟩ = some (.int .u32 (wd (advL L) k)) := fun k hk => (cell_lk Y5 k).trans (by simpa using cw_at hAL hk)
    have c0 : W5.cell? ⟨w.heap.size + 1, 0, none⟩ = _ := cell_lk Y3 0
    have c1 : W5.cell? ⟨w.heap.size + 1, 1, none⟩ = _ := cell_lk Y3 1
    have c2 : W5.cell? ⟨w.heap.size + 1, 2, none⟩ = _ := cell_lk Y3 2
    have c3 : W5.cell? ⟨w.heap.size + 1, 3, none⟩ = _ := cell_lk Y3 3
    have c4 : W5.cell? ⟨w.heap.size + 1, 4, none⟩ = _ := cell_lk Y3 4
    simp at c0 c1 c2 c3 c4
    have ca := C2 a ha25
    have cb := C2 b hb25
    repeat' (first
      | (with_reducible refine then_normal ?_) | (with_reducible refine wp_exit ?_) | (with_reducible refine wp_ret ?_) | (with_reducible refine then_exit ?_) | (with_reducible refine blk_hit ?_) | (with_reducible refine blk_pass (by decide) ?_) | (with_reducible refine then_ret ?_) | (with_reducible refine blk_ret ?_) | (with_reducible refine blk_normal ?_)
      | (refine wpList_load_look rfl _ rfl _ rfl (fun ob hob => ?_); (first | rw [Y5] at hob | rw [Y2] at hob); subst hob; refine ⟨_, rfl, by assumption, ?_⟩; simp only [Act.put, List.setIfInBounds_toArray, List.set_cons_zero, List.set_cons_succ])
      | go_values | go_skip | go_guarded | go_step | go_upon | (simp only [Int.not_lt, Int.not_le] at *; go_simp) | (go_values <;> (try go_simp)) | (go_ite <;> go_prune <;> (try go_simp)))
    have s0 : W5.drew.cell? ⟨w.heap.size + 1, 0, none⟩ = _ := c0
    have s1 : W5.drew.cell? ⟨w.heap.size + 1, 1, none⟩ = _ := c1
    have s2 : W5.drew.cell? ⟨w.heap.size + 1, 2, none⟩ = _ := c2
    have s3 : W5.drew.cell? ⟨w.heap.size, a, none⟩ = _ := ca
    have s4 : W5.drew.cell? ⟨w.heap.size, b, none⟩ = _ := cb
    go_region_held3 (fun w' => w'.cell? ⟨w.heap.size + 1, 0, none⟩ = some (.int .i64 43) ∧ w'.cell? ⟨w.heap.size + 1, 1, none⟩ = some (.int .i64 a) ∧ w'.cell? ⟨w.heap.size + 1, 2, none⟩ = some (.int .i64 b) ∧ w'.cell? ⟨w.heap.size, a, none⟩ = some (.int .u32 (wd L a)) ∧ w'.cell? ⟨w.heap.size, b, none⟩ = some (.int .u32 (wd L b))) (first | exact ⟨s0, s1, s2, s3, s4⟩ | go_keep) (first | (go_at_call 49; refine (HBR.out _).mono ?_; rintro e w6 ⟨rfl, rfl⟩))
    have V5 : lk W5.drew g5 = _ := Y5
    have V4 : lk W5.drew (w.heap.size + 2) = _ := Y4
    have HB6 : Below w.heap.size w W5.drew := HB5.drew
    have hw6 : g5 < W5.drew.heap.size := hW5
    have d5 : W5.drew.cell? ⟨g5, 16, none⟩ = some (.int .u32 (wd (advL L) 16)) := C5 16 (by omega)
    have f5 : W5.drew.frozen? ⟨g5, 16, none⟩ = false := frozen_lk V5 16
    clear s0 s1 s2 s3 s4 ca cb c0 c1 c2 c3 c4 C2 C5 Y5 Y4 Y2 Y3 HB5
    generalize W5.drew = W6 at *
    cases tk
    · repeat' (first
        | (with_reducible refine then_normal ?_) | (with_reducible refine wp_exit ?_) | (with_reducible refine wp_ret ?_) | (with_reducible refine then_exit ?_) | (with_reducible refine blk_hit ?_) | (with_reducible refine blk_pass (by decide) ?_) | (with_reducible refine then_ret ?_) | (with_reducible refine blk_ret ?_) | (with_reducible refine blk_normal ?_)
        | (refine wpList_load_look rfl _ rfl _ rfl (fun ob hob => ?_); rw [V5] at hob; subst hob; refine ⟨_, rfl, hAL, ?_⟩; simp only [Act.put, List.setIfInBounds_toArray, List.set_cons_zero, List.set_cons_succ])
        | (refine wpList_store_look rfl _ _ rfl _ rfl rfl hAL (fun ob hob => by (rw [V4] at hob; subst hob; exact ⟨_, rfl, Z25_len⟩)) (fun w2 hw2 => ?_); subst hw2; simp only [Act.put, List.setIfInBounds_toArray, List.set_cons_zero, List.set_cons_succ])
        | go_values | go_skip | go_guarded | go_step | go_upon | (simp only [Int.not_lt, Int.not_le] at *; go_simp) | (go_values <;> (try go_simp)) | (go_ite <;> go_prune <;> (try go_simp)))
      exact bodyPost_ret (v := cpV (advL L)) (results_cpu rfl _ _ (w.heap.size + 2) rfl hAL (lk_row V4)) rfl ⟨rfl, below_setRow HB6 _ (by omega) _⟩
    · have eT := Lib.hid (show (wd L 16 + 4 * (m % 4294967296)) % 4294967296 = (wd L 16 + 4 * m) % 4294967296 by omega)
      generalize hT : (wd L 16 + 4 * (m % 4294967296)) % 4294967296 = T at *
      have U5 := lk_set V5 16 T
      have U4 := lk_setN (k := 16) (v := .int .u32 T) V4 (show ¬ g5 = w.heap.size + 2 by omega)
      have hRT : ((advL L).set 16 T).length = 25 := by rw [List.length_set]; exact hAL
      have HB7 : Below w.heap.size w (W6.setCell ⟨g5, 16, none⟩ (.int .u32 T)) := HB6.setCell (show w.heap.size ≤ g5 by omega) _
      repeat' (first
        | (with_reducible refine then_normal ?_) | (with_reducible refine wp_exit ?_) | (with_reducible refine wp_ret ?_) | (with_reducible refine then_exit ?_) | (with_reducible refine blk_hit ?_) | (with_reducible refine blk_pass (by decide) ?_) | (with_reducible refine then_ret ?_) | (with_reducible refine blk_ret ?_) | (with_reducible refine blk_normal ?_)
        | (refine wpList_load_look rfl _ rfl _ rfl (fun ob hob => ?_); rw [U5] at hob; subst hob; refine ⟨_, rfl, hRT, ?_⟩; simp only [Act.put, List.setIfInBounds_toArray, List.set_cons_zero, List.set_cons_succ])
        | (refine wpList_store_look rfl _ _ rfl _ rfl rfl hRT (fun ob hob => by (rw [U4] at hob; subst hob; exact ⟨_, rfl, Z25_len⟩)) (fun w2 hw2 => ?_); subst hw2; simp only [Act.put, List.setIfInBounds_toArray, List.set_cons_zero, List.set_cons_succ])
        | go_values | go_skip | go_guarded | go_step | go_upon | (simp only [Int.not_lt, Int.not_le] at *; go_simp) | (go_values <;> (try go_simp)) | (go_ite <;> go_prune <;> (try go_simp)))
      exact bodyPost_ret (v := cpV ((advL L).set 16 T)) (results_cpu rfl _ _ (w.heap.size + 2) rfl hRT (lk_row U4)) rfl ⟨by rw [eT.out, hset], below_setRow HB7 _ (by omega) _⟩
set_option maxHeartbeats 4000000 in
theorem step_br44 (L : List Int) (A B c m : Int) (a b : Nat) (w : World) (hL : C25 L) (ha : A = a) (a1 : a < 16) (hb : B = b) (b1 : b < 16) (m0 : -32768 ≤ m) (m1 : m ≤ 65535) :
    Calls Tryd.prog 27 #[cpV L, instV 44 A B c m] w fun e w' => e = .returned (cpV (if tkn 44 (wd L a) (wd L b) = true then L.set 16 ((wd L 16 + 4 * m) % 4294967296) else advL L)) ∧ Below w.heap.size w w' := by
  subst ha hb
  have hLL := hL.1
  have HA := Lib.hid (fun W => advance_any L W hL)
  have HBR := Lib.hid (fun W => branches_any 44 (wd L a) (wd L b) W (by decide))
  have hset : (advL L).set 16 ((wd L 16 + 4 * m) % 4294967296) = L.set 16 ((wd L 16 + 4 * m) % 4294967296) := by unfold advL; rw [List.set_set]
  have hb0 : (0 : Int) ≤ b := by omega
  have hb1 : (b : Int) < 16 := by omega
  have hb25 : b < 25 := by omega
  have ha0 : (0 : Int) ≤ a := by omega
  have ha1 : (a : Int) < 16 := by omega
  have ha25 : a < 25 := by omega
  generalize htk : tkn 44 (wd L a) (wd L b) = tk at *
  clear htk
  unfold instV
  obtain ⟨F1, F2, F3, -⟩ := cw_facts
  go_enter Tryd.func27, Tryd.ntmps27
  go_wp2_with (first
    | (refine wpList_box_box rfl _ rfl rfl ?_; simp only [Act.put, List.setIfInBounds_toArray, List.set_cons_zero, List.set_cons_succ])
    | (refine wpList_alloc_box rfl rfl ?_; simp only [Act.put, List.setIfInBounds_toArray, List.set_cons_zero, List.set_cons_succ]))
  generalize hW : World.alloc (World.alloc (World.alloc w _) _) _ = W
  have X2 : lk W w.heap.size = some (.cells (cw L).toArray 32 (0, 0)) := by rw [← hW]; simp [look_alloc] <;> omega
  have X3 : lk W (w.heap.size + 1) = some (.cells #[.int .i64 44, .int .i64 a, .int .i64 b, .int .i64 c, .int .i32 m] 27 (0, 0)) := by rw [← hW]; simp [look_alloc]
  have X4 : lk W (w.heap.size + 2) = some (.cells (cw Z25).toArray 32 (0, 0)) := by rw [← hW]; simp [look_alloc]
  have HB : Below w.heap.size w W := by rw [← hW]; (repeat' (first | with_reducible exact Below.refl _ _ | with_reducible assumption | with_reducible apply below_drewN | with_reducible apply Below.drew | with_reducible apply Below.setCell | with_reducible apply Below.alloc | (simp; done) | omega | (simp; omega)))
  have hsz : w.heap.size + 2 < W.heap.size := by rw [← hW]; simp
  clear hW
  obtain ⟨fs, hu⟩ := undCpu
  have hi : (Tryd.prog.info? 32).map (·.size) = some (cw L).length := by rw [cw_len hLL]; exact infCpu
  have hrg : W.rangeAt w.heap.size 0 (cw L) := fun j u hu => by rw [Nat.zero_add]; exact (cell_lk X2 j).trans (by simpa using hu)
  have hcm : W.cell? ⟨w.heap.size + 1, 4, none⟩ = some (.int .i32 m) := cell_lk X3 4
  have bb : Below W.heap.size W W.drew := (Below.refl _ _).drew
  unfold cpV at HA
  refine wp_region_held_drew (S := fun w' => w'.rangeAt w.heap.size 0 (cw L) ∧ w'.cell? ⟨w.heap.size + 1, 4, none⟩ = some (.int .i32 m)) (by kernel_rfl) ⟨range_on hrg bb (by omega), cell_on hcm bb⟩ (fun hHeld => ?_)
  (refine' wpAnyH_take (i := 0) (oi := _) (v := _) rfl (by kernel_rfl) (by kernel_rfl) (by kernel_rfl) (fun _ _ _ h => h) (yieldsIf_load_mid (by rfl) _ _ rfl _ 0 rfl (cw L) _ (fun w hw => hw.1) hu rfl hi) (by assumption) ?_; (try simp only [List.getElem_toArray, List.getElem_cons_succ, List.getElem_cons_zero, Act.put, List.setIfInBounds_toArray, List.set_cons_zero, List.set_cons_succ]))
  (refine wpAnyH_take (i := 2) (oi := _) (v := ?_) rfl (by kernel_rfl) (by kernel_rfl) (by kernel_rfl) (fun _ _ _ h => h) (Or.inl ⟨by rfl, ?_⟩) (by assumption) ?_; rotate_left 1; focus (intro w hSw; go_simp; try with_reducible rfl); (try simp only [List.getElem_toArray, List.getElem_cons_succ, List.getElem_cons_zero, Act.put, List.setIfInBounds_toArray, List.set_cons_zero, List.set_cons_succ]))
  (refine wpAnyH_take (i := 3) (oi := _) (v := ?_) rfl (by kernel_rfl) (by kernel_rfl) (by kernel_rfl) (fun _ _ _ h => h) (Or.inl ⟨by rfl, ?_⟩) (by assumption) ?_; rotate_left 1; focus (rintro w ⟨-, hSw⟩; go_simp; try with_reducible rfl); (try simp only [List.getElem_toArray, List.getElem_cons_succ, List.getElem_cons_zero, Act.put, List.setIfInBounds_toArray, List.set_cons_zero, List.set_cons_succ]))
  (refine wpAnyH_take (i := 4) (oi := _) (v := ?_) rfl (by kernel_rfl) (by kernel_rfl) (by kernel_rfl) (fun _ _ _ h => h) (Or.inl ⟨by rfl, ?_⟩) (by assumption) ?_; rotate_left 1; focus (intro w hSw; go_simp; try with_reducible rfl); (try simp only [List.getElem_toArray, List.getElem_cons_succ, List.getElem_cons_zero, Act.put, List.setIfInBounds_toArray, List.set_cons_zero, List.set_cons_succ]))
  have hAL := hL.adv.1
  refine (fun (key : Hid ?T) => ?main) ?kp
  case main =>
    refine wpAnyH_ready (rs := [1, 5]) (by kernel_rfl) (by simp) ?_
    refine AllReadyH.cons (o := _) rfl (fun K hK => ?_) (AllReadyH.cons (o := _) rfl (fun K hK => ?_) AllReadyH.nil)
    · rw [if_pos (by rfl)]
      go_simp
      refine (HA.out _).mono ?_
      rintro e w1 ⟨rfl, hb1⟩
      replace bb := below_step bb hb1
      (try dsimp only)
      refine hK.out _ _ ?_ (fun hHeld => ?_)
      · exact ⟨range_on hrg bb (by omega), cell_on hcm bb⟩
      clear hK K hb1
      (try simp only [List.getElem_toArray, List.getElem_cons_succ, List.getElem_cons_zero, Act.put, List.setIfInBounds_toArray, List.set_cons_zero, List.set_cons_succ])
      refine wpAnyH_ready (rs := [5]) (by kernel_rfl) (by simp) ?_
      refine AllReadyH.cons (o := _) rfl (fun K hK => ?_) AllReadyH.nil
      rw [if_pos (by rfl)]
      refine wp_alloc_cpu rfl ?_
      have hsz1 := bb.size
      replace bb := bb.alloc hsz1 (.cells (cw Z25).toArray 32)
      (try dsimp only)
      refine hK.out _ _ ?_ (fun hHeld => ?_)
      · exact ⟨range_on hrg bb (by omega), cell_on hcm bb⟩
      clear hK K
      (try simp only [List.getElem_toArray, List.getElem_cons_succ, List.getElem_cons_zero, Act.put, List.setIfInBounds_toArray, List.set_cons_zero, List.set_cons_succ])
      have Y5 : lk (w1.alloc (.cells (cw Z25).toArray 32)) w1.heap.size = some (.cells (cw Z25).toArray 32 (0, 0)) := by rw [look_alloc, if_pos rfl]
      have hg5 := hsz1
      refine wpAnyH_ready (rs := [6]) (by kernel_rfl) (by simp) ?_
      refine AllReadyH.cons (o := _) rfl (fun K hK => ?_) AllReadyH.nil
      rw [if_pos (by rfl)]
      refine wp_store_cpu _ _ rfl _ rfl rfl hAL Y5 Z25_len ?_
      replace Y5 := lk_row (M := advL L) Y5
      replace bb := below_setRow bb _ hg5 (cw (advL L)).toArray
      (try dsimp only)
      refine hK.out _ _ ?_ (fun hHeld => ?_)
      · exact ⟨range_on hrg bb (by omega), cell_on hcm bb⟩
      clear hK K
      (try simp only [List.getElem_toArray, List.getElem_cons_succ, List.getElem_cons_zero, Act.put, List.setIfInBounds_toArray, List.set_cons_zero, List.set_cons_succ])
      (refine wpAnyH_take (i := 7) (oi := _) (v := ?_) rfl (by kernel_rfl) (by kernel_rfl) (by kernel_rfl) (fun _ _ _ h => h) (Or.inl ⟨by rfl, ?_⟩) (by assumption) ?_; rotate_left 1; focus (intro w hSw; go_simp; try with_reducible rfl); (try simp only [List.getElem_toArray, List.getElem_cons_succ, List.getElem_cons_zero, Act.put, List.setIfInBounds_toArray, List.set_cons_zero, List.set_cons_succ]))
      refine wpAnyH_done (by kernel_rfl) ?_ _
      (try simp only [List.getElem_toArray, List.getElem_cons_succ, List.getElem_cons_zero, Act.put, List.setIfInBounds_toArray, List.set_cons_zero, List.set_cons_succ])
      have F : lk _ w1.heap.size = _ ∧ W.heap.size ≤ w1.heap.size ∧ Below W.heap.size W _ := ⟨Y5, hg5, bb⟩
      generalize World.setRow (World.alloc w1 _) _ _ = W5 at F ⊢
      generalize w1.heap.size = g5 at F ⊢
      revert F; revert g5 W5
      exact key.out
    · rw [if_pos (by rfl)]
      refine wp_alloc_cpu rfl ?_
      have Y5 : lk (W.drew.alloc (.cells (cw Z25).toArray 32)) W.heap.size = some (.cells (cw Z25).toArray 32 (0, 0)) := by rw [look_alloc]; exact if_pos rfl
      have hg5 : W.heap.size ≤ W.heap.size := Nat.le_refl _
      replace bb := bb.alloc hg5 (.cells (cw Z25).toArray 32)
      have hs5 : W.heap.size < (W.drew.alloc (.cells (cw Z25).toArray 32)).heap.size := by simp
      (try dsimp only)
      refine hK.out _ _ ?_ (fun hHeld => ?_)
      · exact ⟨range_on hrg bb (by omega), cell_on hcm bb⟩
      clear hK K
      (try simp only [List.getElem_toArray, List.getElem_cons_succ, List.getElem_cons_zero, Act.put, List.setIfInBounds_toArray, List.set_cons_zero, List.set_cons_succ])
      refine wpAnyH_ready (rs := [1]) (by kernel_rfl) (by simp) ?_
      refine AllReadyH.cons (o := _) rfl (fun K hK => ?_) AllReadyH.nil
      rw [if_pos (by rfl)]
      go_simp
      refine (HA.out _).mono ?_
      rintro e w1 ⟨rfl, hb1⟩
      replace Y5 := look_on Y5 hb1 hs5
      replace bb := below_step bb hb1
      (try dsimp only)
      refine hK.out _ _ ?_ (fun hHeld => ?_)
      · exact ⟨range_on hrg bb (by omega), cell_on hcm bb⟩
      clear hK K hb1 hs5
      (try simp only [List.getElem_toArray, List.getElem_cons_succ, List.getElem_cons_zero, Act.put, List.setIfInBounds_toArray, List.set_cons_zero, List.set_cons_succ])
      refine wpAnyH_ready (rs := [6]) (by kernel_rfl) (by simp) ?_
      refine AllReadyH.cons (o := _) rfl (fun K hK => ?_) AllReadyH.nil
      rw [if_pos (by rfl)]
      refine wp_store_cpu _ _ rfl _ rfl rfl hAL Y5 Z25_len ?_
      replace Y5 := lk_row (M := advL L) Y5
      replace bb := below_setRow bb _ hg5 (cw (advL L)).toArray
      (try dsimp only)
      refine hK.out _ _ ?_ (fun hHeld => ?_)
      · exact ⟨range_on hrg bb (by omega), cell_on hcm bb⟩
      clear hK K
      (try simp only [List.getElem_toArray, List.getElem_cons_succ, List.getElem_cons_zero, Act.put, List.setIfInBounds_toArray, List.set_cons_zero, List.set_cons_succ])
      (refine wpAnyH_take (i := 7) (oi := _) (v := ?_) rfl (by kernel_rfl) (by kernel_rfl) (by kernel_rfl) (fun _ _ _ h => h) (Or.inl ⟨by rfl, ?_⟩) (by assumption) ?_; rotate_left 1; focus (intro w hSw; go_simp; try with_reducible rfl); (try simp only [List.getElem_toArray, List.getElem_cons_succ, List.getElem_cons_zero, Act.put, List.setIfInBounds_toArray, List.set_cons_zero, List.set_cons_succ]))
      refine wpAnyH_done (by kernel_rfl) ?_ _
      (try simp only [List.getElem_toArray, List.getElem_cons_succ, List.getElem_cons_zero, Act.put, List.setIfInBounds_toArray, List.set_cons_zero, List.set_cons_succ])
      have F : lk _ W.heap.size = _ ∧ W.heap.size ≤ W.heap.size ∧ Below W.heap.size W _ := ⟨Y5, hg5, bb⟩
      generalize World.setRow w1 _ _ = W5 at F ⊢
      generalize hgg : W.heap.size = g5
      have F' : lk W5 g5 = some (.cells (cw (advL L)).toArray 32 (0, 0)) ∧ W.heap.size ≤ g5 ∧ Below W.heap.size W W5 := ⟨by rw [← hgg]; exact F.1, by rw [← hgg]; exact Nat.le_refl _, F.2.2⟩
      clear hgg F
      revert F'; revert g5 W5
      exact key.out
  case kp =>
    show ∀ (W5 : World) (g5 : Nat), _
    intro W5 g5 ⟨Y5, hg5, bW⟩
    have Y2 := look_on X2 bW (by omega)
    have Y3 := look_on X3 bW (by omega)
    have Y4 := look_on X4 bW (by omega)
    have hW5 : g5 < W5.heap.size := by
      have := Y5
      unfold lk at this
      exact (Array.getElem?_eq_some_iff.1 this).1
    have HB5 : Below w.heap.size w W5 := below_step HB bW
    clear X2 X3 X4 bW hrg hcm bb HA hHeld
    have C2 : ∀ k : Nat, k < 25 → W5.cell? ⟨w.heap.size, k, none⟩ = some (.int .u32 (wd L k)) := fun k hk => (cell_lk Y2 k).trans (by simpa using cw_at hLL hk)
    have C5 : ∀ k : Nat, k < 25 → W5.cell? ⟨g5, k, none⟩ = some (.int .u32 (wd (advL L) k)) := fun k hk => (cell_lk Y5 k).trans (by simpa using cw_at hAL hk)
    have c0 : W5.cell? ⟨w.heap.size + 1, 0, none⟩ = _ := cell_lk Y3 0
    have c1 : W5.cell? ⟨w.heap.size + 1, 1, none⟩ = _ := cell_lk Y3 1
    have c2 : W5.cell? ⟨w.heap.size + 1, 2, none⟩ = _ := cell_lk Y3 2
    have c3 : W5.cell? ⟨w.heap.size + 1, 3, none⟩ = _ := cell_lk Y3 3
    have c4 : W5.cell? ⟨w.heap.size + 1, 4, none⟩ = _ := cell_lk Y3 4
    simp at c0 c1 c2 c3 c4
    have ca := C2 a ha25
    have cb := C2 b hb25
    repeat' (first
      | (with_reducible refine then_normal ?_) | (with_reducible refine wp_exit ?_) | (with_reducible refine wp_ret ?_) | (with_reducible refine then_exit ?_) | (with_reducible refine blk_hit ?_) | (with_reducible refine blk_pass (by decide) ?_) | (with_reducible refine then_ret ?_) | (with_reducible refine blk_ret ?_) | (with_reducible refine blk_normal ?_)
      | (refine wpList_load_look rfl _ rfl _ rfl (fun ob hob => ?_); (first | rw [Y5] at hob | rw [Y2] at hob); subst hob; refine ⟨_, rfl, by assumption, ?_⟩; simp only [Act.put, List.setIfInBounds_toArray, List.set_cons_zero, List.set_cons_succ])
      | go_values | go_skip | go_guarded | go_step | go_upon | (simp only [Int.not_lt, Int.not_le] at *; go_simp) | (go_values <;> (try go_simp)) | (go_ite <;> go_prune <;> (try go_simp)))
    have s0 : W5.drew.cell? ⟨w.heap.size + 1, 0, none⟩ = _ := c0
    have s1 : W5.drew.cell? ⟨w.heap.size + 1, 1, none⟩ = _ := c1
    have s2 : W5.drew.cell? ⟨w.heap.size + 1, 2, none⟩ = _ := c2
    have s3 : W5.drew.cell? ⟨w.heap.size, a, none⟩ = _ := ca
    have s4 : W5.drew.cell? ⟨w.heap.size, b, none⟩ = _ := cb
    go_region_held3 (fun w' => w'.cell? ⟨w.heap.size + 1, 0, none⟩ = some (.int .i64 44) ∧ w'.cell? ⟨w.heap.size + 1, 1, none⟩ = some (.int .i64 a) ∧ w'.cell? ⟨w.heap.size + 1, 2, none⟩ = some (.int .i64 b) ∧ w'.cell? ⟨w.heap.size, a, none⟩ = some (.int .u32 (wd L a)) ∧ w'.cell? ⟨w.heap.size, b, none⟩ = some (.int .u32 (wd L b))) (first | exact ⟨s0, s1, s2, s3, s4⟩ | go_keep) (first | (go_at_call 49; refine (HBR.out _).mono ?_; rintro e w6 ⟨rfl, rfl⟩))
    have V5 : lk W5.drew g5 = _ := Y5
    have V4 : lk W5.drew (w.heap.size + 2) = _ := Y4
    have HB6 : Below w.heap.size w W5.drew := HB5.drew
    have hw6 : g5 < W5.drew.heap.size := hW5
    have d5 : W5.drew.cell? ⟨g5, 16, none⟩ = some (.int .u32 (wd (advL L) 16)) := C5 16 (by omega)
    have f5 : W5.drew.frozen? ⟨g5, 16, none⟩ = false := frozen_lk V5 16
    clear s0 s1 s2 s3 s4 ca cb c0 c1 c2 c3 c4 C2 C5 Y5 Y4 Y2 Y3 HB5
    generalize W5.drew = W6 at *
    cases tk
    · repeat' (first
        | (with_reducible refine then_normal ?_) | (with_reducible refine wp_exit ?_) | (with_reducible refine wp_ret ?_) | (with_reducible refine then_exit ?_) | (with_reducible refine blk_hit ?_) | (with_reducible refine blk_pass (by decide) ?_) | (with_reducible refine then_ret ?_) | (with_reducible refine blk_ret ?_) | (with_reducible refine blk_normal ?_)
        | (refine wpList_load_look rfl _ rfl _ rfl (fun ob hob => ?_); rw [V5] at hob; subst hob; refine ⟨_, rfl, hAL, ?_⟩; simp only [Act.put, List.setIfInBounds_toArray, List.set_cons_zero, List.set_cons_succ])
        | (refine wpList_store_look rfl _ _ rfl _ rfl rfl hAL (fun ob hob => by (rw [V4] at hob; subst hob; exact ⟨_, rfl, Z25_len⟩)) (fun w2 hw2 => ?_); subst hw2; simp only [Act.put, List.setIfInBounds_toArray, List.set_cons_zero, List.set_cons_succ])
        | go_values | go_skip | go_guarded | go_step | go_upon | (simp only [Int.not_lt, Int.not_le] at *; go_simp) | (go_values <;> (try go_simp)) | (go_ite <;> go_prune <;> (try go_simp)))
      exact bodyPost_ret (v := cpV (advL L)) (results_cpu rfl _ _ (w.heap.size + 2) rfl hAL (lk_row V4)) rfl ⟨rfl, below_setRow HB6 _ (by omega) _⟩
    · have eT := Lib.hid (show (wd L 16 + 4 * (m % 4294967296)) % 4294967296 = (wd L 16 + 4 * m) % 4294967296 by omega)
      generalize hT : (wd L 16 + 4 * (m % 4294967296)) % 4294967296 = T at *
      have U5 := lk_set V5 16 T
      have U4 := lk_setN (k := 16) (v := .int .u32 T) V4 (show ¬ g5 = w.heap.size + 2 by omega)
      have hRT : ((advL L).set 16 T).length = 25 := by rw [List.length_set]; exact hAL
      have HB7 : Below w.heap.size w (W6.setCell ⟨g5, 16, none⟩ (.int .u32 T)) := HB6.setCell (show w.heap.size ≤ g5 by omega) _
      repeat' (first
        | (with_reducible refine then_normal ?_) | (with_reducible refine wp_exit ?_) | (with_reducible refine wp_ret ?_) | (with_reducible refine then_exit ?_) | (with_reducible refine blk_hit ?_) | (with_reducible refine blk_pass (by decide) ?_) | (with_reducible refine then_ret ?_) | (with_reducible refine blk_ret ?_) | (with_reducible refine blk_normal ?_)
        | (refine wpList_load_look rfl _ rfl _ rfl (fun ob hob => ?_); rw [U5] at hob; subst hob; refine ⟨_, rfl, hRT, ?_⟩; simp only [Act.put, List.setIfInBounds_toArray, List.set_cons_zero, List.set_cons_succ])
        | (refine wpList_store_look rfl _ _ rfl _ rfl rfl hRT (fun ob hob => by (rw [U4] at hob; subst hob; exact ⟨_, rfl, Z25_len⟩)) (fun w2 hw2 => ?_); subst hw2; simp only [Act.put, List.setIfInBounds_toArray, List.set_cons_zero, List.set_cons_succ])
        | go_values | go_skip | go_guarded | go_step | go_upon | (simp only [Int.not_lt, Int.not_le] at *; go_simp) | (go_values <;> (try go_simp)) | (go_ite <;> go_prune <;> (try go_simp)))
      exact bodyPost_ret (v := cpV ((advL L).set 16 T)) (results_cpu rfl _ _ (w.heap.size + 2) rfl hRT (lk_row U4)) rfl ⟨by rw [eT.out, hset], below_setRow HB7 _ (by omega) _⟩
set_option maxHeartbeats 4000000 in
theorem step_br45 (L : List Int) (A B c m : Int) (a b : Nat) (w : World) (hL : C25 L) (ha : A = a) (a1 : a < 16) (hb : B = b) (b1 : b < 16) (m0 : -32768 ≤ m) (m1 : m ≤ 65535) :
    Calls Tryd.prog 27 #[cpV L, instV 45 A B c m] w fun e w' => e = .returned (cpV (if tkn 45 (wd L a) (wd L b) = true then L.set 16 ((wd L 16 + 4 * m) % 4294967296) else advL L)) ∧ Below w.heap.size w w' := by
  subst ha hb
  have hLL := hL.1
  have HA := Lib.hid (fun W => advance_any L W hL)
  have HBR := Lib.hid (fun W => branches_any 45 (wd L a) (wd L b) W (by decide))
  have hset : (advL L).set 16 ((wd L 16 + 4 * m) % 4294967296) = L.set 16 ((wd L 16 + 4 * m) % 4294967296) := by unfold advL; rw [List.set_set]
  have hb0 : (0 : Int) ≤ b := by omega
  have hb1 : (b : Int) < 16 := by omega
  have hb25 : b < 25 := by omega
  have ha0 : (0 : Int) ≤ a := by omega
  have ha1 : (a : Int) < 16 := by omega
  have ha25 : a < 25 := by omega
  generalize htk : tkn 45 (wd L a) (wd L b) = tk at *
  clear htk
  unfold instV
  obtain ⟨F1, F2, F3, -⟩ := cw_facts
  go_enter Tryd.func27, Tryd.ntmps27
  go_wp2_with (first
    | (refine wpList_box_box rfl _ rfl rfl ?_; simp only [Act.put, List.setIfInBounds_toArray, List.set_cons_zero, List.set_cons_succ])
    | (refine wpList_alloc_box rfl rfl ?_; simp only [Act.put, List.setIfInBounds_toArray, List.set_cons_zero, List.set_cons_succ]))
  generalize hW : World.alloc (World.alloc (World.alloc w _) _) _ = W
  have X2 : lk W w.heap.size = some (.cells (cw L).toArray 32 (0, 0)) := by rw [← hW]; simp [look_alloc] <;> omega
  have X3 : lk W (w.heap.size + 1) = some (.cells #[.int .i64 45, .int .i64 a, .int .i64 b, .int .i64 c, .int .i32 m] 27 (0, 0)) := by rw [← hW]; simp [look_alloc]
  have X4 : lk W (w.heap.size + 2) = some (.cells (cw Z25).toArray 32 (0, 0)) := by rw [← hW]; simp [look_alloc]
  have HB : Below w.heap.size w W := by rw [← hW]; (repeat' (first | with_reducible exact Below.refl _ _ | with_reducible assumption | with_reducible apply below_drewN | with_reducible apply Below.drew | with_reducible apply Below.setCell | with_reducible apply Below.alloc | (simp; done) | omega | (simp; omega)))
  have hsz : w.heap.size + 2 < W.heap.size := by rw [← hW]; simp
  clear hW
  obtain ⟨fs, hu⟩ := undCpu
  have hi : (Tryd.prog.info? 32).map (·.size) = some (cw L).length := by rw [cw_len hLL]; exact infCpu
  have hrg : W.rangeAt w.heap.size 0 (cw L) := fun j u hu => by rw [Nat.zero_add]; exact (cell_lk X2 j).trans (by simpa using hu)
  have hcm : W.cell? ⟨w.heap.size + 1, 4, none⟩ = some (.int .i32 m) := cell_lk X3 4
  have bb : Below W.heap.size W W.drew := (Below.refl _ _).drew
  unfold cpV at HA
  refine wp_region_held_drew (S := fun w' => w'.rangeAt w.heap.size 0 (cw L) ∧ w'.cell? ⟨w.heap.size + 1, 4, none⟩ = some (.int .i32 m)) (by kernel_rfl) ⟨range_on hrg bb (by omega), cell_on hcm bb⟩ (fun hHeld => ?_)
  (refine' wpAnyH_take (i := 0) (oi := _) (v := _) rfl (by kernel_rfl) (by kernel_rfl) (by kernel_rfl) (fun _ _ _ h => h) (yieldsIf_load_mid (by rfl) _ _ rfl _ 0 rfl (cw L) _ (fun w hw => hw.1) hu rfl hi) (by assumption) ?_; (try simp only [List.getElem_toArray, List.getElem_cons_succ, List.getElem_cons_zero, Act.put, List.setIfInBounds_toArray, List.set_cons_zero, List.set_cons_succ]))
  (refine wpAnyH_take (i := 2) (oi := _) (v := ?_) rfl (by kernel_rfl) (by kernel_rfl) (by kernel_rfl) (fun _ _ _ h => h) (Or.inl ⟨by rfl, ?_⟩) (by assumption) ?_; rotate_left 1; focus (intro w hSw; go_simp; try with_reducible rfl); (try simp only [List.getElem_toArray, List.getElem_cons_succ, List.getElem_cons_zero, Act.put, List.setIfInBounds_toArray, List.set_cons_zero, List.set_cons_succ]))
  (refine wpAnyH_take (i := 3) (oi := _) (v := ?_) rfl (by kernel_rfl) (by kernel_rfl) (by kernel_rfl) (fun _ _ _ h => h) (Or.inl ⟨by rfl, ?_⟩) (by assumption) ?_; rotate_left 1; focus (rintro w ⟨-, hSw⟩; go_simp; try with_reducible rfl); (try simp only [List.getElem_toArray, List.getElem_cons_succ, List.getElem_cons_zero, Act.put, List.setIfInBounds_toArray, List.set_cons_zero, List.set_cons_succ]))
  (refine wpAnyH_take (i := 4) (oi := _) (v := ?_) rfl (by kernel_rfl) (by kernel_rfl) (by kernel_rfl) (fun _ _ _ h => h) (Or.inl ⟨by rfl, ?_⟩) (by assumption) ?_; rotate_left 1; focus (intro w hSw; go_simp; try with_reducible rfl); (try simp only [List.getElem_toArray, List.getElem_cons_succ, List.getElem_cons_zero, Act.put, List.setIfInBounds_toArray, List.set_cons_zero, List.set_cons_succ]))
  have hAL := hL.adv.1
  refine (fun (key : Hid ?T) => ?main) ?kp
  case main =>
    refine wpAnyH_ready (rs := [1, 5]) (by kernel_rfl) (by simp) ?_
    refine AllReadyH.cons (o := _) rfl (fun K hK => ?_) (AllReadyH.cons (o := _) rfl (fun K hK => ?_) AllReadyH.nil)
    · rw [if_pos (by rfl)]
      go_simp
      refine (HA.out _).mono ?_
      rintro e w1 ⟨rfl, hb1⟩
      replace bb := below_step bb hb1
      (try dsimp only)
      refine hK.out _ _ ?_ (fun hHeld => ?_)
      · exact ⟨range_on hrg bb (by omega), cell_on hcm bb⟩
      clear hK K hb1
      (try simp only [List.getElem_toArray, List.getElem_cons_succ, List.getElem_cons_zero, Act.put, List.setIfInBounds_toArray, List.set_cons_zero, List.set_cons_succ])
      refine wpAnyH_ready (rs := [5]) (by kernel_rfl) (by simp) ?_
      refine AllReadyH.cons (o := _) rfl (fun K hK => ?_) AllReadyH.nil
      rw [if_pos (by rfl)]
      refine wp_alloc_cpu rfl ?_
      have hsz1 := bb.size
      replace bb := bb.alloc hsz1 (.cells (cw Z25).toArray 32)
      (try dsimp only)
      refine hK.out _ _ ?_ (fun hHeld => ?_)
      · exact ⟨range_on hrg bb (by omega), cell_on hcm bb⟩
      clear hK K
      (try simp only [List.getElem_toArray, List.getElem_cons_succ, List.getElem_cons_zero, Act.put, List.setIfInBounds_toArray, List.set_cons_zero, List.set_cons_succ])
      have Y5 : lk (w1.alloc (.cells (cw Z25).toArray 32)) w1.heap.size = some (.cells (cw Z25).toArray 32 (0, 0)) := by rw [look_alloc, if_pos rfl]
      have hg5 := hsz1
      refine wpAnyH_ready (rs := [6]) (by kernel_rfl) (by simp) ?_
      refine AllReadyH.cons (o := _) rfl (fun K hK => ?_) AllReadyH.nil
      rw [if_pos (by rfl)]
      refine wp_store_cpu _ _ rfl _ rfl rfl hAL Y5 Z25_len ?_
      replace Y5 := lk_row (M := advL L) Y5
      replace bb := below_setRow bb _ hg5 (cw (advL L)).toArray
      (try dsimp only)
      refine hK.out _ _ ?_ (fun hHeld => ?_)
      · exact ⟨range_on hrg bb (by omega), cell_on hcm bb⟩
      clear hK K
      (try simp only [List.getElem_toArray, List.getElem_cons_succ, List.getElem_cons_zero, Act.put, List.setIfInBounds_toArray, List.set_cons_zero, List.set_cons_succ])
      (refine wpAnyH_take (i := 7) (oi := _) (v := ?_) rfl (by kernel_rfl) (by kernel_rfl) (by kernel_rfl) (fun _ _ _ h => h) (Or.inl ⟨by rfl, ?_⟩) (by assumption) ?_; rotate_left 1; focus (intro w hSw; go_simp; try with_reducible rfl); (try simp only [List.getElem_toArray, List.getElem_cons_succ, List.getElem_cons_zero, Act.put, List.setIfInBounds_toArray, List.set_cons_zero, List.set_cons_succ]))
      refine wpAnyH_done (by kernel_rfl) ?_ _
      (try simp only [List.getElem_toArray, List.getElem_cons_succ, List.getElem_cons_zero, Act.put, List.setIfInBounds_toArray, List.set_cons_zero, List.set_cons_succ])
      have F : lk _ w1.heap.size = _ ∧ W.heap.size ≤ w1.heap.size ∧ Below W.heap.size W _ := ⟨Y5, hg5, bb⟩
      generalize World.setRow (World.alloc w1 _) _ _ = W5 at F ⊢
      generalize w1.heap.size = g5 at F ⊢
      revert F; revert g5 W5
      exact key.out
    · rw [if_pos (by rfl)]
      refine wp_alloc_cpu rfl ?_
      have Y5 : lk (W.drew.alloc (.cells (cw Z25).toArray 32)) W.heap.size = some (.cells (cw Z25).toArray 32 (0, 0)) := by rw [look_alloc]; exact if_pos rfl
      have hg5 : W.heap.size ≤ W.heap.size := Nat.le_refl _
      replace bb := bb.alloc hg5 (.cells (cw Z25).toArray 32)
      have hs5 : W.heap.size < (W.drew.alloc (.cells (cw Z25).toArray 32)).heap.size := by simp
      (try dsimp only)
      refine hK.out _ _ ?_ (fun hHeld => ?_)
      · exact ⟨range_on hrg bb (by omega), cell_on hcm bb⟩
      clear hK K
      (try simp only [List.getElem_toArray, List.getElem_cons_succ, List.getElem_cons_zero, Act.put, List.setIfInBounds_toArray, List.set_cons_zero, List.set_cons_succ])
      refine wpAnyH_ready (rs := [1]) (by kernel_rfl) (by simp) ?_
      refine AllReadyH.cons (o := _) rfl (fun K hK => ?_) AllReadyH.nil
      rw [if_pos (by rfl)]
      go_simp
      refine (HA.out _).mono ?_
      rintro e w1 ⟨rfl, hb1⟩
      replace Y5 := look_on Y5 hb1 hs5
      replace bb := below_step bb hb1
      (try dsimp only)
      refine hK.out _ _ ?_ (fun hHeld => ?_)
      · exact ⟨range_on hrg bb (by omega), cell_on hcm bb⟩
      clear hK K hb1 hs5
      (try simp only [List.getElem_toArray, List.getElem_cons_succ, List.getElem_cons_zero, Act.put, List.setIfInBounds_toArray, List.set_cons_zero, List.set_cons_succ])
      refine wpAnyH_ready (rs := [6]) (by kernel_rfl) (by simp) ?_
      refine AllReadyH.cons (o := _) rfl (fun K hK => ?_) AllReadyH.nil
      rw [if_pos (by rfl)]
      refine wp_store_cpu _ _ rfl _ rfl rfl hAL Y5 Z25_len ?_
      replace Y5 := lk_row (M := advL L) Y5
      replace bb := below_setRow bb _ hg5 (cw (advL L)).toArray
      (try dsimp only)
      refine hK.out _ _ ?_ (fun hHeld => ?_)
      · exact ⟨range_on hrg bb (by omega), cell_on hcm bb⟩
      clear hK K
      (try simp only [List.getElem_toArray, List.getElem_cons_succ, List.getElem_cons_zero, Act.put, List.setIfInBounds_toArray, List.set_cons_zero, List.set_cons_succ])
      (refine wpAnyH_take (i := 7) (oi := _) (v := ?_) rfl (by kernel_rfl) (by kernel_rfl) (by kernel_rfl) (fun _ _ _ h => h) (Or.inl ⟨by rfl, ?_⟩) (by assumption) ?_; rotate_left 1; focus (intro w hSw; go_simp; try with_reducible rfl); (try simp only [List.getElem_toArray, List.getElem_cons_succ, List.getElem_cons_zero, Act.put, List.setIfInBounds_toArray, List.set_cons_zero, List.set_cons_succ]))
      refine wpAnyH_done (by kernel_rfl) ?_ _
      (try simp only [List.getElem_toArray, List.getElem_cons_succ, List.getElem_cons_zero, Act.put, List.setIfInBounds_toArray, List.set_cons_zero, List.set_cons_succ])
      have F : lk _ W.heap.size = _ ∧ W.heap.size ≤ W.heap.size ∧ Below W.heap.size W _ := ⟨Y5, hg5, bb⟩
      generalize World.setRow w1 _ _ = W5 at F ⊢
      generalize hgg : W.heap.size = g5
      have F' : lk W5 g5 = some (.cells (cw (advL L)).toArray 32 (0, 0)) ∧ W.heap.size ≤ g5 ∧ Below W.heap.size W W5 := ⟨by rw [← hgg]; exact F.1, by rw [← hgg]; exact Nat.le_refl _, F.2.2⟩
      clear hgg F
      revert F'; revert g5 W5
      exact key.out
  case kp =>
    show ∀ (W5 : World) (g5 : Nat), _
    intro W5 g5 ⟨Y5, hg5, bW⟩
    have Y2 := look_on X2 bW (by omega)
    have Y3 := look_on X3 bW (by omega)
    have Y4 := look_on X4 bW (by omega)
    have hW5 : g5 < W5.heap.size := by
      have := Y5
      unfold lk at this
      exact (Array.getElem?_eq_some_iff.1 this).1
    have HB5 : Below w.heap.size w W5 := below_step HB bW
    clear X2 X3 X4 bW hrg hcm bb HA hHeld
    have C2 : ∀ k : Nat, k < 25 → W5.cell? ⟨w.heap.size, k, none⟩ = some (.int .u32 (wd L k)) := fun k hk => (cell_lk Y2 k).trans (by simpa using cw_at hLL hk)
    have C5 : ∀ k : Nat, k < 25 → W5.cell? ⟨g5, k, none⟩ = some (.int .u32 (wd (advL L) k)) := fun k hk => (cell_lk Y5 k).trans (by simpa using cw_at hAL hk)
    have c0 : W5.cell? ⟨w.heap.size + 1, 0, none⟩ = _ := cell_lk Y3 0
    have c1 : W5.cell? ⟨w.heap.size + 1, 1, none⟩ = _ := cell_lk Y3 1
    have c2 : W5.cell? ⟨w.heap.size + 1, 2, none⟩ = _ := cell_lk Y3 2
    have c3 : W5.cell? ⟨w.heap.size + 1, 3, none⟩ = _ := cell_lk Y3 3
    have c4 : W5.cell? ⟨w.heap.size + 1, 4, none⟩ = _ := cell_lk Y3 4
    simp at c0 c1 c2 c3 c4
    have ca := C2 a ha25
    have cb := C2 b hb25
    repeat' (first
      | (with_reducible refine then_normal ?_) | (with_reducible refine wp_exit ?_) | (with_reducible refine wp_ret ?_) | (with_reducible refine then_exit ?_) | (with_reducible refine blk_hit ?_) | (with_reducible refine blk_pass (by decide) ?_) | (with_reducible refine then_ret ?_) | (with_reducible refine blk_ret ?_) | (with_reducible refine blk_normal ?_)
      | (refine wpList_load_look rfl _ rfl _ rfl (fun ob hob => ?_); (first | rw [Y5] at hob | rw [Y2] at hob); subst hob; refine ⟨_, rfl, by assumption, ?_⟩; simp only [Act.put, List.setIfInBounds_toArray, List.set_cons_zero, List.set_cons_succ])
      | go_values | go_skip | go_guarded | go_step | go_upon | (simp only [Int.not_lt, Int.not_le] at *; go_simp) | (go_values <;> (try go_simp)) | (go_ite <;> go_prune <;> (try go_simp)))
    have s0 : W5.drew.cell? ⟨w.heap.size + 1, 0, none⟩ = _ := c0
    have s1 : W5.drew.cell? ⟨w.heap.size + 1, 1, none⟩ = _ := c1
    have s2 : W5.drew.cell? ⟨w.heap.size + 1, 2, none⟩ = _ := c2
    have s3 : W5.drew.cell? ⟨w.heap.size, a, none⟩ = _ := ca
    have s4 : W5.drew.cell? ⟨w.heap.size, b, none⟩ = _ := cb
    go_region_held3 (fun w' => w'.cell? ⟨w.heap.size + 1, 0, none⟩ = some (.int .i64 45) ∧ w'.cell? ⟨w.heap.size + 1, 1, none⟩ = some (.int .i64 a) ∧ w'.cell? ⟨w.heap.size + 1, 2, none⟩ = some (.int .i64 b) ∧ w'.cell? ⟨w.heap.size, a, none⟩ = some (.int .u32 (wd L a)) ∧ w'.cell? ⟨w.heap.size, b, none⟩ = some (.int .u32 (wd L b))) (first | exact ⟨s0, s1, s2, s3, s4⟩ | go_keep) (first | (go_at_call 49; refine (HBR.out _).mono ?_; rintro e w6 ⟨rfl, rfl⟩))
    have V5 : lk W5.drew g5 = _ := Y5
    have V4 : lk W5.drew (w.heap.size + 2) = _ := Y4
    have HB6 : Below w.heap.size w W5.drew := HB5.drew
    have hw6 : g5 < W5.drew.heap.size := hW5
    have d5 : W5.drew.cell? ⟨g5, 16, none⟩ = some (.int .u32 (wd (advL L) 16)) := C5 16 (by omega)
    have f5 : W5.drew.frozen? ⟨g5, 16, none⟩ = false := frozen_lk V5 16
    clear s0 s1 s2 s3 s4 ca cb c0 c1 c2 c3 c4 C2 C5 Y5 Y4 Y2 Y3 HB5
    generalize W5.drew = W6 at *
    cases tk
    · repeat' (first
        | (with_reducible refine then_normal ?_) | (with_reducible refine wp_exit ?_) | (with_reducible refine wp_ret ?_) | (with_reducible refine then_exit ?_) | (with_reducible refine blk_hit ?_) | (with_reducible refine blk_pass (by decide) ?_) | (with_reducible refine then_ret ?_) | (with_reducible refine blk_ret ?_) | (with_reducible refine blk_normal ?_)
        | (refine wpList_load_look rfl _ rfl _ rfl (fun ob hob => ?_); rw [V5] at hob; subst hob; refine ⟨_, rfl, hAL, ?_⟩; simp only [Act.put, List.setIfInBounds_toArray, List.set_cons_zero, List.set_cons_succ])
        | (refine wpList_store_look rfl _ _ rfl _ rfl rfl hAL (fun ob hob => by (rw [V4] at hob; subst hob; exact ⟨_, rfl, Z25_len⟩)) (fun w2 hw2 => ?_); subst hw2; simp only [Act.put, List.setIfInBounds_toArray, List.set_cons_zero, List.set_cons_succ])
        | go_values | go_skip | go_guarded | go_step | go_upon | (simp only [Int.not_lt, Int.not_le] at *; go_simp) | (go_values <;> (try go_simp)) | (go_ite <;> go_prune <;> (try go_simp)))
      exact bodyPost_ret (v := cpV (advL L)) (results_cpu rfl _ _ (w.heap.size + 2) rfl hAL (lk_row V4)) rfl ⟨rfl, below_setRow HB6 _ (by omega) _⟩
    · have eT := Lib.hid (show (wd L 16 + 4 * (m % 4294967296)) % 4294967296 = (wd L 16 + 4 * m) % 4294967296 by omega)
      generalize hT : (wd L 16 + 4 * (m % 4294967296)) % 4294967296 = T at *
      have U5 := lk_set V5 16 T
      have U4 := lk_setN (k := 16) (v := .int .u32 T) V4 (show ¬ g5 = w.heap.size + 2 by omega)
      have hRT : ((advL L).set 16 T).length = 25 := by rw [List.length_set]; exact hAL
      have HB7 : Below w.heap.size w (W6.setCell ⟨g5, 16, none⟩ (.int .u32 T)) := HB6.setCell (show w.heap.size ≤ g5 by omega) _
      repeat' (first
        | (with_reducible refine then_normal ?_) | (with_reducible refine wp_exit ?_) | (with_reducible refine wp_ret ?_) | (with_reducible refine then_exit ?_) | (with_reducible refine blk_hit ?_) | (with_reducible refine blk_pass (by decide) ?_) | (with_reducible refine then_ret ?_) | (with_reducible refine blk_ret ?_) | (with_reducible refine blk_normal ?_)
        | (refine wpList_load_look rfl _ rfl _ rfl (fun ob hob => ?_); rw [U5] at hob; subst hob; refine ⟨_, rfl, hRT, ?_⟩; simp only [Act.put, List.setIfInBounds_toArray, List.set_cons_zero, List.set_cons_succ])
        | (refine wpList_store_look rfl _ _ rfl _ rfl rfl hRT (fun ob hob => by (rw [U4] at hob; subst hob; exact ⟨_, rfl, Z25_len⟩)) (fun w2 hw2 => ?_); subst hw2; simp only [Act.put, List.setIfInBounds_toArray, List.set_cons_zero, List.set_cons_succ])
        | go_values | go_skip | go_guarded | go_step | go_upon | (simp only [Int.not_lt, Int.not_le] at *; go_simp) | (go_values <;> (try go_simp)) | (go_ite <;> go_prune <;> (try go_simp)))
      exact bodyPost_ret (v := cpV ((advL L).set 16 T)) (results_cpu rfl _ _ (w.heap.size + 2) rfl hRT (lk_row U4)) rfl ⟨by rw [eT.out, hset], below_setRow HB7 _ (by omega) _⟩
theorem step_br (L : List Int) (o A B c m : Int) (a b : Nat) (w : World) (hL : C25 L) (ha : A = a) (a1 : a < 16) (hb : B = b) (b1 : b < 16) (m0 : -32768 ≤ m) (m1 : m ≤ 65535) (ho : 40 ≤ o ∧ o ≤ 45) :
    Calls Tryd.prog 27 #[cpV L, instV o A B c m] w fun e w' => e = .returned (cpV (if tkn o (wd L a) (wd L b) = true then L.set 16 ((wd L 16 + 4 * m) % 4294967296) else advL L)) ∧ Below w.heap.size w w' := by
  have ho' : o = 40 ∨ o = 41 ∨ o = 42 ∨ o = 43 ∨ o = 44 ∨ o = 45 := by omega
  rcases ho' with rfl | rfl | rfl | rfl | rfl | rfl
  · exact step_br40 L A B c m a b w hL ha a1 hb b1 m0 m1
  · exact step_br41 L A B c m a b w hL ha a1 hb b1 m0 m1
  · exact step_br42 L A B c m a b w hL ha a1 hb b1 m0 m1
  · exact step_br43 L A B c m a b w hL ha a1 hb b1 m0 m1
  · exact step_br44 L A B c m a b w hL ha a1 hb b1 m0 m1
  · exact step_br45 L A B c m a b w hL ha a1 hb b1 m0 m1
end Go.Proofs.YtfnfbdjbdbifaaaDoor

namespace Go.Proofs.YtfnfbdjbdbifaaaDoor
set_option linter.unusedVariables false
set_option linter.unusedSimpArgs false
set_option maxRecDepth 20000
open Go.ChangeShapes Go.WideShapes Go.ChangeAt Go.RowKit Go.Proofs.YtfnfbdjbdbifaaaDoor.Num Go.Proofs.YtfnfbdjbdbifaaaDoor.Mem Go.Proofs.YtfnfbdjbdbifaaaDoor.Isa
/- The step: calls of the system, control registers. -/
set_option maxHeartbeats 4000000 in
theorem step_ecall (L : List Int) (a b c m : Int) (w : World) (hL : C25 L) (m0 : -32768 ≤ m) (m1 : m ≤ 65535) :
    Calls Tryd.prog 27 #[cpV L, instV 56 a b c m] w fun e w' => e = .returned (cpV (trapL L 7 0)) ∧ Below w.heap.size w w' := by
  have hLL := hL.1
  have HA := Lib.hid (fun W => advance_any L W hL)
  have HT := Lib.hid (fun W => trap_any L 7 0 W hL)
  have hRL := (hL.trap 7 (b := 0) (by omega) (by omega)).1
  unfold instV
  obtain ⟨F1, F2, F3, -⟩ := cw_facts
  go_enter Tryd.func27, Tryd.ntmps27
  go_wp2_with (first
    | (refine wpList_box_box rfl _ rfl rfl ?_; simp only [Act.put, List.setIfInBounds_toArray, List.set_cons_zero, List.set_cons_succ])
    | (refine wpList_alloc_box rfl rfl ?_; simp only [Act.put, List.setIfInBounds_toArray, List.set_cons_zero, List.set_cons_succ]))
  generalize hW : World.alloc (World.alloc (World.alloc w _) _) _ = W
  have X2 : lk W w.heap.size = some (.cells (cw L).toArray 32 (0, 0)) := by rw [← hW]; simp [look_alloc] <;> omega
  have X3 : lk W (w.heap.size + 1) = some (.cells #[.int .i64 56, .int .i64 a, .int .i64 b, .int .i64 c, .int .i32 m] 27 (0, 0)) := by rw [← hW]; simp [look_alloc]
  have X4 : lk W (w.heap.size + 2) = some (.cells (cw Z25).toArray 32 (0, 0)) := by rw [← hW]; simp [look_alloc]
  have HB : Below w.heap.size w W := by rw [← hW]; (repeat' (first | with_reducible exact Below.refl _ _ | with_reducible assumption | with_reducible apply below_drewN | with_reducible apply Below.drew | with_reducible apply Below.setCell | with_reducible apply Below.alloc | (simp; done) | omega | (simp; omega)))
  have hsz : w.heap.size + 2 < W.heap.size := by rw [← hW]; simp
  clear hW
  obtain ⟨fs, hu⟩ := undCpu
  have hi : (Tryd.prog.info? 32).map (·.size) = some (cw L).length := by rw [cw_len hLL]; exact infCpu
  have hrg : W.rangeAt w.heap.size 0 (cw L) := fun j u hu => by rw [Nat.zero_add]; exact (cell_lk X2 j).trans (by simpa using hu)
  have hcm : W.cell? ⟨w.heap.size + 1, 4, none⟩ = some (.int .i32 m) := cell_lk X3 4
  have bb : Below W.heap.size W W.drew := (Below.refl _ _).drew
  unfold cpV at HA
  refine wp_region_held_drew (S := fun w' => w'.rangeAt w.heap.size 0 (cw L) ∧ w'.cell? ⟨w.heap.size + 1, 4, none⟩ = some (.int .i32 m)) (by kernel_rfl) ⟨range_on hrg bb (by omega), cell_on hcm bb⟩ (fun hHeld => ?_)
  (refine' wpAnyH_take (i := 0) (oi := _) (v := _) rfl (by kernel_rfl) (by kernel_rfl) (by kernel_rfl) (fun _ _ _ h => h) (yieldsIf_load_mid (by rfl) _ _ rfl _ 0 rfl (cw L) _ (fun w hw => hw.1) hu rfl hi) (by assumption) ?_; (try simp only [List.getElem_toArray, List.getElem_cons_succ, List.getElem_cons_zero, Act.put, List.setIfInBounds_toArray, List.set_cons_zero, List.set_cons_succ]))
  (refine wpAnyH_take (i := 2) (oi := _) (v := ?_) rfl (by kernel_rfl) (by kernel_rfl) (by kernel_rfl) (fun _ _ _ h => h) (Or.inl ⟨by rfl, ?_⟩) (by assumption) ?_; rotate_left 1; focus (intro w hSw; go_simp; try with_reducible rfl); (try simp only [List.getElem_toArray, List.getElem_cons_succ, List.getElem_cons_zero, Act.put, List.setIfInBounds_toArray, List.set_cons_zero, List.set_cons_succ]))
  (refine wpAnyH_take (i := 3) (oi := _) (v := ?_) rfl (by kernel_rfl) (by kernel_rfl) (by kernel_rfl) (fun _ _ _ h => h) (Or.inl ⟨by rfl, ?_⟩) (by assumption) ?_; rotate_left 1; focus (rintro w ⟨-, hSw⟩; go_simp; try with_reducible rfl); (try simp only [List.getElem_toArray, List.getElem_cons_succ, List.getElem_cons_zero, Act.put, List.setIfInBounds_toArray, List.set_cons_zero, List.set_cons_succ]))
  (refine wpAnyH_take (i := 4) (oi := _) (v := ?_) rfl (by kernel_rfl) (by kernel_rfl) (by kernel_rfl) (fun _ _ _ h => h) (Or.inl ⟨by rfl, ?_⟩) (by assumption) ?_; rotate_left 1; focus (intro w hSw; go_simp; try with_reducible rfl); (try simp only [List.getElem_toArray, List.getElem_cons_succ, List.getElem_cons_zero, Act.put, List.setIfInBounds_toArray, List.set_cons_zero, List.set_cons_succ]))
  have hAL := hL.adv.1
  refine (fun (key : Hid ?T) => ?main) ?kp
  case main =>
    refine wpAnyH_ready (rs := [1, 5]) (by kernel_rfl) (by simp) ?_
    refine AllReadyH.cons (o := _) rfl (fun K hK => ?_) (AllReadyH.cons (o := _) rfl (fun K hK => ?_) AllReadyH.nil)
    · rw [if_pos (by rfl)]
      go_simp
      refine (HA.out _).mono ?_
      rintro e w1 ⟨rfl, hb1⟩
      replace bb := below_step bb hb1
      (try dsimp only)
      refine hK.out _ _ ?_ (fun hHeld => ?_)
      · exact ⟨range_on hrg bb (by omega), cell_on hcm bb⟩
      clear hK K hb1
      (try simp only [List.getElem_toArray, List.getElem_cons_succ, List.getElem_cons_zero, Act.put, List.setIfInBounds_toArray, List.set_cons_zero, List.set_cons_succ])
      refine wpAnyH_ready (rs := [5]) (by kernel_rfl) (by simp) ?_
      refine AllReadyH.cons (o := _) rfl (fun K hK => ?_) AllReadyH.nil
      rw [if_pos (by rfl)]
      refine wp_alloc_cpu rfl ?_
      have hsz1 := bb.size
      replace bb := bb.alloc hsz1 (.cells (cw Z25).toArray 32)
      (try dsimp only)
      refine hK.out _ _ ?_ (fun hHeld => ?_)
      · exact ⟨range_on hrg bb (by omega), cell_on hcm bb⟩
      clear hK K
      (try simp only [List.getElem_toArray, List.getElem_cons_succ, List.getElem_cons_zero, Act.put, List.setIfInBounds_toArray, List.set_cons_zero, List.set_cons_succ])
      have Y5 : lk (w1.alloc (.cells (cw Z25).toArray 32)) w1.heap.size = some (.cells (cw Z25).toArray 32 (0, 0)) := by rw [look_alloc, if_pos rfl]
      have hg5 := hsz1
      refine wpAnyH_ready (rs := [6]) (by kernel_rfl) (by simp) ?_
      refine AllReadyH.cons (o := _) rfl (fun K hK => ?_) AllReadyH.nil
      rw [if_pos (by rfl)]
      refine wp_store_cpu _ _ rfl _ rfl rfl hAL Y5 Z25_len ?_
      replace Y5 := lk_row (M := advL L) Y5
      replace bb := below_setRow bb _ hg5 (cw (advL L)).toArray
      (try dsimp only)
      refine hK.out _ _ ?_ (fun hHeld => ?_)
      · exact ⟨range_on hrg bb (by omega), cell_on hcm bb⟩
      clear hK K
      (try simp only [List.getElem_toArray, List.getElem_cons_succ, List.getElem_cons_zero, Act.put, List.setIfInBounds_toArray, List.set_cons_zero, List.set_cons_succ])
      (refine wpAnyH_take (i := 7) (oi := _) (v := ?_) rfl (by kernel_rfl) (by kernel_rfl) (by kernel_rfl) (fun _ _ _ h => h) (Or.inl ⟨by rfl, ?_⟩) (by assumption) ?_; rotate_left 1; focus (intro w hSw; go_simp; try with_reducible rfl); (try simp only [List.getElem_toArray, List.getElem_cons_succ, List.getElem_cons_zero, Act.put, List.setIfInBounds_toArray, List.set_cons_zero, List.set_cons_succ]))
      refine wpAnyH_done (by kernel_rfl) ?_ _
      (try simp only [List.getElem_toArray, List.getElem_cons_succ, List.getElem_cons_zero, Act.put, List.setIfInBounds_toArray, List.set_cons_zero, List.set_cons_succ])
      have F : lk _ w1.heap.size = _ ∧ W.heap.size ≤ w1.heap.size ∧ Below W.heap.size W _ := ⟨Y5, hg5, bb⟩
      generalize World.setRow (World.alloc w1 _) _ _ = W5 at F ⊢
      generalize w1.heap.size = g5 at F ⊢
      revert F; revert g5 W5
      exact key.out
    · rw [if_pos (by rfl)]
      refine wp_alloc_cpu rfl ?_
      have Y5 : lk (W.drew.alloc (.cells (cw Z25).toArray 32)) W.heap.size = some (.cells (cw Z25).toArray 32 (0, 0)) := by rw [look_alloc]; exact if_pos rfl
      have hg5 : W.heap.size ≤ W.heap.size := Nat.le_refl _
      replace bb := bb.alloc hg5 (.cells (cw Z25).toArray 32)
      have hs5 : W.heap.size < (W.drew.alloc (.cells (cw Z25).toArray 32)).heap.size := by simp
      (try dsimp only)
      refine hK.out _ _ ?_ (fun hHeld => ?_)
      · exact ⟨range_on hrg bb (by omega), cell_on hcm bb⟩
      clear hK K
      (try simp only [List.getElem_toArray, List.getElem_cons_succ, List.getElem_cons_zero, Act.put, List.setIfInBounds_toArray, List.set_cons_zero, List.set_cons_succ])
      refine wpAnyH_ready (rs := [1]) (by kernel_rfl) (by simp) ?_
      refine AllReadyH.cons (o := _) rfl (fun K hK => ?_) AllReadyH.nil
      rw [if_pos (by rfl)]
      go_simp
      refine (HA.out _).mono ?_
      rintro e w1 ⟨rfl, hb1⟩
      replace Y5 := look_on Y5 hb1 hs5
      replace bb := below_step bb hb1
      (try dsimp only)
      refine hK.out _ _ ?_ (fun hHeld => ?_)
      · exact ⟨range_on hrg bb (by omega), cell_on hcm bb⟩
      clear hK K hb1 hs5
      (try simp only [List.getElem_toArray, List.getElem_cons_succ, List.getElem_cons_zero, Act.put, List.setIfInBounds_toArray, List.set_cons_zero, List.set_cons_succ])
      refine wpAnyH_ready (rs := [6]) (by kernel_rfl) (by simp) ?_
      refine AllReadyH.cons (o := _) rfl (fun K hK => ?_) AllReadyH.nil
      rw [if_pos (by rfl)]
      refine wp_store_cpu _ _ rfl _ rfl rfl hAL Y5 Z25_len ?_
      replace Y5 := lk_row (M := advL L) Y5
      replace bb := below_setRow bb _ hg5 (cw (advL L)).toArray
      (try dsimp only)
      refine hK.out _ _ ?_ (fun hHeld => ?_)
      · exact ⟨range_on hrg bb (by omega), cell_on hcm bb⟩
      clear hK K
      (try simp only [List.getElem_toArray, List.getElem_cons_succ, List.getElem_cons_zero, Act.put, List.setIfInBounds_toArray, List.set_cons_zero, List.set_cons_succ])
      (refine wpAnyH_take (i := 7) (oi := _) (v := ?_) rfl (by kernel_rfl) (by kernel_rfl) (by kernel_rfl) (fun _ _ _ h => h) (Or.inl ⟨by rfl, ?_⟩) (by assumption) ?_; rotate_left 1; focus (intro w hSw; go_simp; try with_reducible rfl); (try simp only [List.getElem_toArray, List.getElem_cons_succ, List.getElem_cons_zero, Act.put, List.setIfInBounds_toArray, List.set_cons_zero, List.set_cons_succ]))
      refine wpAnyH_done (by kernel_rfl) ?_ _
      (try simp only [List.getElem_toArray, List.getElem_cons_succ, List.getElem_cons_zero, Act.put, List.setIfInBounds_toArray, List.set_cons_zero, List.set_cons_succ])
      have F : lk _ W.heap.size = _ ∧ W.heap.size ≤ W.heap.size ∧ Below W.heap.size W _ := ⟨Y5, hg5, bb⟩
      generalize World.setRow w1 _ _ = W5 at F ⊢
      generalize hgg : W.heap.size = g5
      have F' : lk W5 g5 = some (.cells (cw (advL L)).toArray 32 (0, 0)) ∧ W.heap.size ≤ g5 ∧ Below W.heap.size W W5 := ⟨by rw [← hgg]; exact F.1, by rw [← hgg]; exact Nat.le_refl _, F.2.2⟩
      clear hgg F
      revert F'; revert g5 W5
      exact key.out
  case kp =>
    show ∀ (W5 : World) (g5 : Nat), _
    intro W5 g5 ⟨Y5, hg5, bW⟩
    have Y2 := look_on X2 bW (by omega)
    have Y3 := look_on X3 bW (by omega)
    have Y4 := look_on X4 bW (by omega)
    have hW5 : g5 < W5.heap.size := by
      have := Y5
      unfold lk at this
      exact (Array.getElem?_eq_some_iff.1 this).1
    have HB5 : Below w.heap.size w W5 := below_step HB bW
    clear X2 X3 X4 bW hrg hcm bb HA hHeld
    have C2 : ∀ k : Nat, k < 25 → W5.cell? ⟨w.heap.size, k, none⟩ = some (.int .u32 (wd L k)) := fun k hk => (cell_lk Y2 k).trans (by simpa using cw_at hLL hk)
    have C5 : ∀ k : Nat, k < 25 → W5.cell? ⟨g5, k, none⟩ = some (.int .u32 (wd (advL L) k)) := fun k hk => (cell_lk Y5 k).trans (by simpa using cw_at hAL hk)
    have c0 : W5.cell? ⟨w.heap.size + 1, 0, none⟩ = _ := cell_lk Y3 0
    have c1 : W5.cell? ⟨w.heap.size + 1, 1, none⟩ = _ := cell_lk Y3 1
    have c2 : W5.cell? ⟨w.heap.size + 1, 2, none⟩ = _ := cell_lk Y3 2
    have c3 : W5.cell? ⟨w.heap.size + 1, 3, none⟩ = _ := cell_lk Y3 3
    have c4 : W5.cell? ⟨w.heap.size + 1, 4, none⟩ = _ := cell_lk Y3 4
    simp at c0 c1 c2 c3 c4
    repeat' (first
      | (with_reducible refine then_normal ?_) | (with_reducible refine wp_exit ?_) | (with_reducible refine wp_ret ?_) | (with_reducible refine then_exit ?_) | (with_reducible refine blk_hit ?_) | (with_reducible refine blk_pass (by decide) ?_) | (with_reducible refine then_ret ?_) | (with_reducible refine blk_ret ?_) | (with_reducible refine blk_normal ?_)
      | (refine wpList_load_look rfl _ rfl _ rfl (fun ob hob => ?_); (first | rw [Y5] at hob | rw [Y2] at hob); subst hob; refine ⟨_, rfl, by assumption, ?_⟩; simp only [Act.put, List.setIfInBounds_toArray, List.set_cons_zero, List.set_cons_succ])
      | go_values | go_skip | go_guarded | go_step | go_upon | (simp only [Int.not_lt, Int.not_le] at *; go_simp) | (go_values <;> (try go_simp)) | (go_ite <;> go_prune <;> (try go_simp)))
    refine (HT.out _).mono ?_
    rintro e w6 ⟨rfl, hb6⟩
    have Z4 := look_on Y4 hb6 (by omega)
    have HB6 := below_step HB5 hb6
    clear hb6
    generalize hR : trapL L 7 0 = R at *
    repeat' (first
      | (with_reducible refine then_normal ?_) | (with_reducible refine wp_exit ?_) | (with_reducible refine wp_ret ?_) | (with_reducible refine then_exit ?_) | (with_reducible refine blk_hit ?_) | (with_reducible refine blk_pass (by decide) ?_) | (with_reducible refine then_ret ?_) | (with_reducible refine blk_ret ?_) | (with_reducible refine blk_normal ?_)
      | (refine wpList_store_look rfl _ _ rfl _ rfl rfl hRL (fun ob hob => by (rw [Z4] at hob; subst hob; exact ⟨_, rfl, Z25_len⟩)) (fun w2 hw2 => ?_); subst hw2; simp only [Act.put, List.setIfInBounds_toArray, List.set_cons_zero, List.set_cons_succ])
      | go_values | go_skip | go_guarded | go_step | go_upon | (simp only [Int.not_lt, Int.not_le] at *; go_simp) | (go_values <;> (try go_simp)) | (go_ite <;> go_prune <;> (try go_simp)))
    exact bodyPost_ret (v := cpV R) (results_cpu rfl _ _ (w.heap.size + 2) rfl hRL (lk_row Z4)) rfl ⟨by rw [hR], below_setRow HB6 _ (by omega) _⟩
set_option maxHeartbeats 4000000 in
theorem step_eret (L : List Int) (a b c m : Int) (w : World) (hL : C25 L) (m0 : -32768 ≤ m) (m1 : m ≤ 65535) :
    Calls Tryd.prog 27 #[cpV L, instV 57 a b c m] w fun e w' => e = .returned (cpV (retL L)) ∧ Below w.heap.size w w' := by
  have hLL := hL.1
  have HA := Lib.hid (fun W => advance_any L W hL)
  have HT := Lib.hid (fun W => return_any L W hL)
  have hRL := (hL.ret).1
  unfold instV
  obtain ⟨F1, F2, F3, -⟩ := cw_facts
  go_enter Tryd.func27, Tryd.ntmps27
  go_wp2_with (first
    | (refine wpList_box_box rfl _ rfl rfl ?_; simp only [Act.put, List.setIfInBounds_toArray, List.set_cons_zero, List.set_cons_succ])
    | (refine wpList_alloc_box rfl rfl ?_; simp only [Act.put, List.setIfInBounds_toArray, List.set_cons_zero, List.set_cons_succ]))
  generalize hW : World.alloc (World.alloc (World.alloc w _) _) _ = W
  have X2 : lk W w.heap.size = some (.cells (cw L).toArray 32 (0, 0)) := by rw [← hW]; simp [look_alloc] <;> omega
  have X3 : lk W (w.heap.size + 1) = some (.cells #[.int .i64 57, .int .i64 a, .int .i64 b, .int .i64 c, .int .i32 m] 27 (0, 0)) := by rw [← hW]; simp [look_alloc]
  have X4 : lk W (w.heap.size + 2) = some (.cells (cw Z25).toArray 32 (0, 0)) := by rw [← hW]; simp [look_alloc]
  have HB : Below w.heap.size w W := by rw [← hW]; (repeat' (first | with_reducible exact Below.refl _ _ | with_reducible assumption | with_reducible apply below_drewN | with_reducible apply Below.drew | with_reducible apply Below.setCell | with_reducible apply Below.alloc | (simp; done) | omega | (simp; omega)))
  have hsz : w.heap.size + 2 < W.heap.size := by rw [← hW]; simp
  clear hW
  obtain ⟨fs, hu⟩ := undCpu
  have hi : (Tryd.prog.info? 32).map (·.size) = some (cw L).length := by rw [cw_len hLL]; exact infCpu
  have hrg : W.rangeAt w.heap.size 0 (cw L) := fun j u hu => by rw [Nat.zero_add]; exact (cell_lk X2 j).trans (by simpa using hu)
  have hcm : W.cell? ⟨w.heap.size + 1, 4, none⟩ = some (.int .i32 m) := cell_lk X3 4
  have bb : Below W.heap.size W W.drew := (Below.refl _ _).drew
  unfold cpV at HA
  refine wp_region_held_drew (S := fun w' => w'.rangeAt w.heap.size 0 (cw L) ∧ w'.cell? ⟨w.heap.size + 1, 4, none⟩ = some (.int .i32 m)) (by kernel_rfl) ⟨range_on hrg bb (by omega), cell_on hcm bb⟩ (fun hHeld => ?_)
  (refine' wpAnyH_take (i := 0) (oi := _) (v := _) rfl (by kernel_rfl) (by kernel_rfl) (by kernel_rfl) (fun _ _ _ h => h) (yieldsIf_load_mid (by rfl) _ _ rfl _ 0 rfl (cw L) _ (fun w hw => hw.1) hu rfl hi) (by assumption) ?_; (try simp only [List.getElem_toArray, List.getElem_cons_succ, List.getElem_cons_zero, Act.put, List.setIfInBounds_toArray, List.set_cons_zero, List.set_cons_succ]))
  (refine wpAnyH_take (i := 2) (oi := _) (v := ?_) rfl (by kernel_rfl) (by kernel_rfl) (by kernel_rfl) (fun _ _ _ h => h) (Or.inl ⟨by rfl, ?_⟩) (by assumption) ?_; rotate_left 1; focus (intro w hSw; go_simp; try with_reducible rfl); (try simp only [List.getElem_toArray, List.getElem_cons_succ, List.getElem_cons_zero, Act.put, List.setIfInBounds_toArray, List.set_cons_zero, List.set_cons_succ]))
  (refine wpAnyH_take (i := 3) (oi := _) (v := ?_) rfl (by kernel_rfl) (by kernel_rfl) (by kernel_rfl) (fun _ _ _ h => h) (Or.inl ⟨by rfl, ?_⟩) (by assumption) ?_; rotate_left 1; focus (rintro w ⟨-, hSw⟩; go_simp; try with_reducible rfl); (try simp only [List.getElem_toArray, List.getElem_cons_succ, List.getElem_cons_zero, Act.put, List.setIfInBounds_toArray, List.set_cons_zero, List.set_cons_succ]))
  (refine wpAnyH_take (i := 4) (oi := _) (v := ?_) rfl (by kernel_rfl) (by kernel_rfl) (by kernel_rfl) (fun _ _ _ h => h) (Or.inl ⟨by rfl, ?_⟩) (by assumption) ?_; rotate_left 1; focus (intro w hSw; go_simp; try with_reducible rfl); (try simp only [List.getElem_toArray, List.getElem_cons_succ, List.getElem_cons_zero, Act.put, List.setIfInBounds_toArray, List.set_cons_zero, List.set_cons_succ]))
  have hAL := hL.adv.1
  refine (fun (key : Hid ?T) => ?main) ?kp
  case main =>
    refine wpAnyH_ready (rs := [1, 5]) (by kernel_rfl) (by simp) ?_
    refine AllReadyH.cons (o := _) rfl (fun K hK => ?_) (AllReadyH.cons (o := _) rfl (fun K hK => ?_) AllReadyH.nil)
    · rw [if_pos (by rfl)]
      go_simp
      refine (HA.out _).mono ?_
      rintro e w1 ⟨rfl, hb1⟩
      replace bb := below_step bb hb1
      (try dsimp only)
      refine hK.out _ _ ?_ (fun hHeld => ?_)
      · exact ⟨range_on hrg bb (by omega), cell_on hcm bb⟩
      clear hK K hb1
      (try simp only [List.getElem_toArray, List.getElem_cons_succ, List.getElem_cons_zero, Act.put, List.setIfInBounds_toArray, List.set_cons_zero, List.set_cons_succ])
      refine wpAnyH_ready (rs := [5]) (by kernel_rfl) (by simp) ?_
      refine AllReadyH.cons (o := _) rfl (fun K hK => ?_) AllReadyH.nil
      rw [if_pos (by rfl)]
      refine wp_alloc_cpu rfl ?_
      have hsz1 := bb.size
      replace bb := bb.alloc hsz1 (.cells (cw Z25).toArray 32)
      (try dsimp only)
      refine hK.out _ _ ?_ (fun hHeld => ?_)
      · exact ⟨range_on hrg bb (by omega), cell_on hcm bb⟩
      clear hK K
      (try simp only [List.getElem_toArray, List.getElem_cons_succ, List.getElem_cons_zero, Act.put, List.setIfInBounds_toArray, List.set_cons_zero, List.set_cons_succ])
      have Y5 : lk (w1.alloc (.cells (cw Z25).toArray 32)) w1.heap.size = some (.cells (cw Z25).toArray 32 (0, 0)) := by rw [look_alloc, if_pos rfl]
      have hg5 := hsz1
      refine wpAnyH_ready (rs := [6]) (by kernel_rfl) (by simp) ?_
      refine AllReadyH.cons (o := _) rfl (fun K hK => ?_) AllReadyH.nil
      rw [if_pos (by rfl)]
      refine wp_store_cpu _ _ rfl _ rfl rfl hAL Y5 Z25_len ?_
      replace Y5 := lk_row (M := advL L) Y5
      replace bb := below_setRow bb _ hg5 (cw (advL L)).toArray
      (try dsimp only)
      refine hK.out _ _ ?_ (fun hHeld => ?_)
      · exact ⟨range_on hrg bb (by omega), cell_on hcm bb⟩
      clear hK K
      (try simp only [List.getElem_toArray, List.getElem_cons_succ, List.getElem_cons_zero, Act.put, List.setIfInBounds_toArray, List.set_cons_zero, List.set_cons_succ])
      (refine wpAnyH_take (i := 7) (oi := _) (v := ?_) rfl (by kernel_rfl) (by kernel_rfl) (by kernel_rfl) (fun _ _ _ h => h) (Or.inl ⟨by rfl, ?_⟩) (by assumption) ?_; rotate_left 1; focus (intro w hSw; go_simp; try with_reducible rfl); (try simp only [List.getElem_toArray, List.getElem_cons_succ, List.getElem_cons_zero, Act.put, List.setIfInBounds_toArray, List.set_cons_zero, List.set_cons_succ]))
      refine wpAnyH_done (by kernel_rfl) ?_ _
      (try simp only [List.getElem_toArray, List.getElem_cons_succ, List.getElem_cons_zero, Act.put, List.setIfInBounds_toArray, List.set_cons_zero, List.set_cons_succ])
      have F : lk _ w1.heap.size = _ ∧ W.heap.size ≤ w1.heap.size ∧ Below W.heap.size W _ := ⟨Y5, hg5, bb⟩
      generalize World.setRow (World.alloc w1 _) _ _ = W5 at F ⊢
      generalize w1.heap.size = g5 at F ⊢
      revert F; revert g5 W5
      exact key.out
    · rw [if_pos (by rfl)]
      refine wp_alloc_cpu rfl ?_
      have Y5 : lk (W.drew.alloc (.cells (cw Z25).toArray 32)) W.heap.size = some (.cells (cw Z25).toArray 32 (0, 0)) := by rw [look_alloc]; exact if_pos rfl
      have hg5 : W.heap.size ≤ W.heap.size := Nat.le_refl _
      replace bb := bb.alloc hg5 (.cells (cw Z25).toArray 32)
      have hs5 : W.heap.size < (W.drew.alloc (.cells (cw Z25).toArray 32)).heap.size := by simp
      (try dsimp only)
      refine hK.out _ _ ?_ (fun hHeld => ?_)
      · exact ⟨range_on hrg bb (by omega), cell_on hcm bb⟩
      clear hK K
      (try simp only [List.getElem_toArray, List.getElem_cons_succ, List.getElem_cons_zero, Act.put, List.setIfInBounds_toArray, List.set_cons_zero, List.set_cons_succ])
      refine wpAnyH_ready (rs := [1]) (by kernel_rfl) (by simp) ?_
      refine AllReadyH.cons (o := _) rfl (fun K hK => ?_) AllReadyH.nil
      rw [if_pos (by rfl)]
      go_simp
      refine (HA.out _).mono ?_
      rintro e w1 ⟨rfl, hb1⟩
      replace Y5 := look_on Y5 hb1 hs5
      replace bb := below_step bb hb1
      (try dsimp only)
      refine hK.out _ _ ?_ (fun hHeld => ?_)
      · exact ⟨range_on hrg bb (by omega), cell_on hcm bb⟩
      clear hK K hb1 hs5
      (try simp only [List.getElem_toArray, List.getElem_cons_succ, List.getElem_cons_zero, Act.put, List.setIfInBounds_toArray, List.set_cons_zero, List.set_cons_succ])
      refine wpAnyH_ready (rs := [6]) (by kernel_rfl) (by simp) ?_
      refine AllReadyH.cons (o := _) rfl (fun K hK => ?_) AllReadyH.nil
      rw [if_pos (by rfl)]
      refine wp_store_cpu _ _ rfl _ rfl rfl hAL Y5 Z25_len ?_
      replace Y5 := lk_row (M := advL L) Y5
      replace bb := below_setRow bb _ hg5 (cw (advL L)).toArray
      (try dsimp only)
      refine hK.out _ _ ?_ (fun hHeld => ?_)
      · exact ⟨range_on hrg bb (by omega), cell_on hcm bb⟩
      clear hK K
      (try simp only [List.getElem_toArray, List.getElem_cons_succ, List.getElem_cons_zero, Act.put, List.setIfInBounds_toArray, List.set_cons_zero, List.set_cons_succ])
      (refine wpAnyH_take (i := 7) (oi := _) (v := ?_) rfl (by kernel_rfl) (by kernel_rfl) (by kernel_rfl) (fun _ _ _ h => h) (Or.inl ⟨by rfl, ?_⟩) (by assumption) ?_; rotate_left 1; focus (intro w hSw; go_simp; try with_reducible rfl); (try simp only [List.getElem_toArray, List.getElem_cons_succ, List.getElem_cons_zero, Act.put, List.setIfInBounds_toArray, List.set_cons_zero, List.set_cons_succ]))
      refine wpAnyH_done (by kernel_rfl) ?_ _
      (try simp only [List.getElem_toArray, List.getElem_cons_succ, List.getElem_cons_zero, Act.put, List.setIfInBounds_toArray, List.set_cons_zero, List.set_cons_succ])
      have F : lk _ W.heap.size = _ ∧ W.heap.size ≤ W.heap.size ∧ Below W.heap.size W _ := ⟨Y5, hg5, bb⟩
      generalize World.setRow w1 _ _ = W5 at F ⊢
      generalize hgg : W.heap.size = g5
      have F' : lk W5 g5 = some (.cells (cw (advL L)).toArray 32 (0, 0)) ∧ W.heap.size ≤ g5 ∧ Below W.heap.size W W5 := ⟨by rw [← hgg]; exact F.1, by rw [← hgg]; exact Nat.le_refl _, F.2.2⟩
      clear hgg F
      revert F'; revert g5 W5
      exact key.out
  case kp =>
    show ∀ (W5 : World) (g5 : Nat), _
    intro W5 g5 ⟨Y5, hg5, bW⟩
    have Y2 := look_on X2 bW (by omega)
    have Y3 := look_on X3 bW (by omega)
    have Y4 := look_on X4 bW (by omega)
    have hW5 : g5 < W5.heap.size := by
      have := Y5
      unfold lk at this
      exact (Array.getElem?_eq_some_iff.1 this).1
    have HB5 : Below w.heap.size w W5 := below_step HB bW
    clear X2 X3 X4 bW hrg hcm bb HA hHeld
    have C2 : ∀ k : Nat, k < 25 → W5.cell? ⟨w.heap.size, k, none⟩ = some (.int .u32 (wd L k)) := fun k hk => (cell_lk Y2 k).trans (by simpa using cw_at hLL hk)
    have C5 : ∀ k : Nat, k < 25 → W5.cell? ⟨g5, k, none⟩ = some (.int .u32 (wd (advL L) k)) := fun k hk => (cell_lk Y5 k).trans (by simpa using cw_at hAL hk)
    have c0 : W5.cell? ⟨w.heap.size + 1, 0, none⟩ = _ := cell_lk Y3 0
    have c1 : W5.cell? ⟨w.heap.size + 1, 1, none⟩ = _ := cell_lk Y3 1
    have c2 : W5.cell? ⟨w.heap.size + 1, 2, none⟩ = _ := cell_lk Y3 2
    have c3 : W5.cell? ⟨w.heap.size + 1, 3, none⟩ = _ := cell_lk Y3 3
    have c4 : W5.cell? ⟨w.heap.size + 1, 4, none⟩ = _ := cell_lk Y3 4
    simp at c0 c1 c2 c3 c4
    repeat' (first
      | (with_reducible refine then_normal ?_) | (with_reducible refine wp_exit ?_) | (with_reducible refine wp_ret ?_) | (with_reducible refine then_exit ?_) | (with_reducible refine blk_hit ?_) | (with_reducible refine blk_pass (by decide) ?_) | (with_reducible refine then_ret ?_) | (with_reducible refine blk_ret ?_) | (with_reducible refine blk_normal ?_)
      | (refine wpList_load_look rfl _ rfl _ rfl (fun ob hob => ?_); (first | rw [Y5] at hob | rw [Y2] at hob); subst hob; refine ⟨_, rfl, by assumption, ?_⟩; simp only [Act.put, List.setIfInBounds_toArray, List.set_cons_zero, List.set_cons_succ])
      | go_values | go_skip | go_guarded | go_step | go_upon | (simp only [Int.not_lt, Int.not_le] at *; go_simp) | (go_values <;> (try go_simp)) | (go_ite <;> go_prune <;> (try go_simp)))
    refine (HT.out _).mono ?_
    rintro e w6 ⟨rfl, hb6⟩
    have Z4 := look_on Y4 hb6 (by omega)
    have HB6 := below_step HB5 hb6
    clear hb6
    generalize hR : retL L = R at *
    repeat' (first
      | (with_reducible refine then_normal ?_) | (with_reducible refine wp_exit ?_) | (with_reducible refine wp_ret ?_) | (with_reducible refine then_exit ?_) | (with_reducible refine blk_hit ?_) | (with_reducible refine blk_pass (by decide) ?_) | (with_reducible refine then_ret ?_) | (with_reducible refine blk_ret ?_) | (with_reducible refine blk_normal ?_)
      | (refine wpList_store_look rfl _ _ rfl _ rfl rfl hRL (fun ob hob => by (rw [Z4] at hob; subst hob; exact ⟨_, rfl, Z25_len⟩)) (fun w2 hw2 => ?_); subst hw2; simp only [Act.put, List.setIfInBounds_toArray, List.set_cons_zero, List.set_cons_succ])
      | go_values | go_skip | go_guarded | go_step | go_upon | (simp only [Int.not_lt, Int.not_le] at *; go_simp) | (go_values <;> (try go_simp)) | (go_ite <;> go_prune <;> (try go_simp)))
    exact bodyPost_ret (v := cpV R) (results_cpu rfl _ _ (w.heap.size + 2) rfl hRL (lk_row Z4)) rfl ⟨by rw [hR], below_setRow HB6 _ (by omega) _⟩
theorem cell_rowN {w : World} {g : Nat} {cs : Array Value} {p : Addr} {v : Value} (h : w.cell? p = some v) (hg : ¬ p.block = g) : (w.setRow g cs).cell? p = some v := by
  unfold World.cell? at h ⊢
  have e : (w.setRow g cs).heap[p.block]? = w.heap[p.block]? := by
    show lk _ p.block = lk _ p.block
    rw [look_setRow, if_neg (fun e => hg e.symm)]
  rw [e]
  exact h
theorem range_rowN {w : World} {b g : Nat} {cs : List Value} {ds : Array Value} (h : w.rangeAt g 0 cs) (hne : ¬ g = b) : (w.setRow b ds).rangeAt g 0 cs := fun j u hu => cell_rowN (h j u hu) hne
theorem range_lk5 {w : World} {g : Nat} {cs : List Value} {T : TypeId} (h : lk w g = some (.cells cs.toArray T (0, 0))) : w.rangeAt g 0 cs := fun j u hu => by
  rw [Nat.zero_add]
  exact (cell_lk h j).trans (by simpa using hu)
set_option maxHeartbeats 4000000 in
theorem step_csrr (L : List Int) (A b c m : Int) (a k : Nat) (w : World) (hL : C25 L) (ha : A = a) (a1 : a < 16) (hk : m = k) (k1 : k < 8) :
    Calls Tryd.prog 27 #[cpV L, instV 58 A b c m] w fun e w' => e = .returned (cpV (setL (advL L) A (wd L (17 + k)))) ∧ Below w.heap.size w w' := by
  subst ha
  have hLL := hL.1
  have HA := Lib.hid (fun W => advance_any L W hL)
  have HS := Lib.hid (fun v W => setReg_any (advL L) a v W hL.adv a1)
  have hRL := (hL.adv.setL a (v := wd L (17 + m.toNat)) (hL.bd _).1 (hL.bd _).2).1
  have m0 : (0 : Int) ≤ m := by omega
  have m1 : m < 8 := by omega
  have hmk : Hid (m.toNat = k) := by rw [hk]; exact Lib.hid (by simp)
  clear hk
  unfold instV
  obtain ⟨F1, F2, F3, -⟩ := cw_facts
  go_enter Tryd.func27, Tryd.ntmps27
  go_wp2_with (first
    | (refine wpList_box_box rfl _ rfl rfl ?_; simp only [Act.put, List.setIfInBounds_toArray, List.set_cons_zero, List.set_cons_succ])
    | (refine wpList_alloc_box rfl rfl ?_; simp only [Act.put, List.setIfInBounds_toArray, List.set_cons_zero, List.set_cons_succ]))
  generalize hW : World.alloc (World.alloc (World.alloc w _) _) _ = W
  have X2 : lk W w.heap.size = some (.cells (cw L).toArray 32 (0, 0)) := by rw [← hW]; simp [look_alloc] <;> omega
  have X3 : lk W (w.heap.size + 1) = some (.cells #[.int .i64 58, .int .i64 a, .int .i64 b, .int .i64 c, .int .i32 m] 27 (0, 0)) := by rw [← hW]; simp [look_alloc]
  have X4 : lk W (w.heap.size + 2) = some (.cells (cw Z25).toArray 32 (0, 0)) := by rw [← hW]; simp [look_alloc]
  have HB : Below w.heap.size w W := by rw [← hW]; (repeat' (first | with_reducible exact Below.refl _ _ | with_reducible assumption | with_reducible apply below_drewN | with_reducible apply Below.drew | with_reducible apply Below.setCell | with_reducible apply Below.alloc | (simp; done) | omega | (simp; omega)))
  have hsz : w.heap.size + 2 < W.heap.size := by rw [← hW]; simp
  clear hW
  obtain ⟨fs, hu⟩ := undCpu
  have hi : (Tryd.prog.info? 32).map (·.size) = some (cw L).length := by rw [cw_len hLL]; exact infCpu
  have hrg : W.rangeAt w.heap.size 0 (cw L) := fun j u hu => by rw [Nat.zero_add]; exact (cell_lk X2 j).trans (by simpa using hu)
  have hcm : W.cell? ⟨w.heap.size + 1, 4, none⟩ = some (.int .i32 m) := cell_lk X3 4
  have bb : Below W.heap.size W W.drew := (Below.refl _ _).drew
  unfold cpV at HA
  refine wp_region_held_drew (S := fun w' => w'.rangeAt w.heap.size 0 (cw L) ∧ w'.cell? ⟨w.heap.size + 1, 4, none⟩ = some (.int .i32 m)) (by kernel_rfl) ⟨range_on hrg bb (by omega), cell_on hcm bb⟩ (fun hHeld => ?_)
  (refine' wpAnyH_take (i := 0) (oi := _) (v := _) rfl (by kernel_rfl) (by kernel_rfl) (by kernel_rfl) (fun _ _ _ h => h) (yieldsIf_load_mid (by rfl) _ _ rfl _ 0 rfl (cw L) _ (fun w hw => hw.1) hu rfl hi) (by assumption) ?_; (try simp only [List.getElem_toArray, List.getElem_cons_succ, List.getElem_cons_zero, Act.put, List.setIfInBounds_toArray, List.set_cons_zero, List.set_cons_succ]))
  (refine wpAnyH_take (i := 2) (oi := _) (v := ?_) rfl (by kernel_rfl) (by kernel_rfl) (by kernel_rfl) (fun _ _ _ h => h) (Or.inl ⟨by rfl, ?_⟩) (by assumption) ?_; rotate_left 1; focus (intro w hSw; go_simp; try with_reducible rfl); (try simp only [List.getElem_toArray, List.getElem_cons_succ, List.getElem_cons_zero, Act.put, List.setIfInBounds_toArray, List.set_cons_zero, List.set_cons_succ]))
  (refine wpAnyH_take (i := 3) (oi := _) (v := ?_) rfl (by kernel_rfl) (by kernel_rfl) (by kernel_rfl) (fun _ _ _ h => h) (Or.inl ⟨by rfl, ?_⟩) (by assumption) ?_; rotate_left 1; focus (rintro w ⟨-, hSw⟩; go_simp; try with_reducible rfl); (try simp only [List.getElem_toArray, List.getElem_cons_succ, List.getElem_cons_zero, Act.put, List.setIfInBounds_toArray, List.set_cons_zero, List.set_cons_succ]))
  (refine wpAnyH_take (i := 4) (oi := _) (v := ?_) rfl (by kernel_rfl) (by kernel_rfl) (by kernel_rfl) (fun _ _ _ h => h) (Or.inl ⟨by rfl, ?_⟩) (by assumption) ?_; rotate_left 1; focus (intro w hSw; go_simp; try with_reducible rfl); (try simp only [List.getElem_toArray, List.getElem_cons_succ, List.getElem_cons_zero, Act.put, List.setIfInBounds_toArray, List.set_cons_zero, List.set_cons_succ]))
  have hAL := hL.adv.1
  refine (fun (key : Hid ?T) => ?main) ?kp
  case main =>
    refine wpAnyH_ready (rs := [1, 5]) (by kernel_rfl) (by simp) ?_
    refine AllReadyH.cons (o := _) rfl (fun K hK => ?_) (AllReadyH.cons (o := _) rfl (fun K hK => ?_) AllReadyH.nil)
    · rw [if_pos (by rfl)]
      go_simp
      refine (HA.out _).mono ?_
      rintro e w1 ⟨rfl, hb1⟩
      replace bb := below_step bb hb1
      (try dsimp only)
      refine hK.out _ _ ?_ (fun hHeld => ?_)
      · exact ⟨range_on hrg bb (by omega), cell_on hcm bb⟩
      clear hK K hb1
      (try simp only [List.getElem_toArray, List.getElem_cons_succ, List.getElem_cons_zero, Act.put, List.setIfInBounds_toArray, List.set_cons_zero, List.set_cons_succ])
      refine wpAnyH_ready (rs := [5]) (by kernel_rfl) (by simp) ?_
      refine AllReadyH.cons (o := _) rfl (fun K hK => ?_) AllReadyH.nil
      rw [if_pos (by rfl)]
      refine wp_alloc_cpu rfl ?_
      have hsz1 := bb.size
      replace bb := bb.alloc hsz1 (.cells (cw Z25).toArray 32)
      (try dsimp only)
      refine hK.out _ _ ?_ (fun hHeld => ?_)
      · exact ⟨range_on hrg bb (by omega), cell_on hcm bb⟩
      clear hK K
      (try simp only [List.getElem_toArray, List.getElem_cons_succ, List.getElem_cons_zero, Act.put, List.setIfInBounds_toArray, List.set_cons_zero, List.set_cons_succ])
      have Y5 : lk (w1.alloc (.cells (cw Z25).toArray 32)) w1.heap.size = some (.cells (cw Z25).toArray 32 (0, 0)) := by rw [look_alloc, if_pos rfl]
      have hg5 := hsz1
      refine wpAnyH_ready (rs := [6]) (by kernel_rfl) (by simp) ?_
      refine AllReadyH.cons (o := _) rfl (fun K hK => ?_) AllReadyH.nil
      rw [if_pos (by rfl)]
      refine wp_store_cpu _ _ rfl _ rfl rfl hAL Y5 Z25_len ?_
      replace Y5 := lk_row (M := advL L) Y5
      replace bb := below_setRow bb _ hg5 (cw (advL L)).toArray
      (try dsimp only)
      refine hK.out _ _ ?_ (fun hHeld => ?_)
      · exact ⟨range_on hrg bb (by omega), cell_on hcm bb⟩
      clear hK K
      (try simp only [List.getElem_toArray, List.getElem_cons_succ, List.getElem_cons_zero, Act.put, List.setIfInBounds_toArray, List.set_cons_zero, List.set_cons_succ])
      (refine wpAnyH_take (i := 7) (oi := _) (v := ?_) rfl (by kernel_rfl) (by kernel_rfl) (by kernel_rfl) (fun _ _ _ h => h) (Or.inl ⟨by rfl, ?_⟩) (by assumption) ?_; rotate_left 1; focus (intro w hSw; go_simp; try with_reducible rfl); (try simp only [List.getElem_toArray, List.getElem_cons_succ, List.getElem_cons_zero, Act.put, List.setIfInBounds_toArray, List.set_cons_zero, List.set_cons_succ]))
      refine wpAnyH_done (by kernel_rfl) ?_ _
      (try simp only [List.getElem_toArray, List.getElem_cons_succ, List.getElem_cons_zero, Act.put, List.setIfInBounds_toArray, List.set_cons_zero, List.set_cons_succ])
      have F : lk _ w1.heap.size = _ ∧ W.heap.size ≤ w1.heap.size ∧ Below W.heap.size W _ := ⟨Y5, hg5, bb⟩
      generalize World.setRow (World.alloc w1 _) _ _ = W5 at F ⊢
      generalize w1.heap.size = g5 at F ⊢
      revert F; revert g5 W5
      exact key.out
    · rw [if_pos (by rfl)]
      refine wp_alloc_cpu rfl ?_
      have Y5 : lk (W.drew.alloc (.cells (cw Z25).toArray 32)) W.heap.size = some (.cells (cw Z25).toArray 32 (0, 0)) := by rw [look_alloc]; exact if_pos rfl
      have hg5 : W.heap.size ≤ W.heap.size := Nat.le_refl _
      replace bb := bb.alloc hg5 (.cells (cw Z25).toArray 32)
      have hs5 : W.heap.size < (W.drew.alloc (.cells (cw Z25).toArray 32)).heap.size := by simp
      (try dsimp only)
      refine hK.out _ _ ?_ (fun hHeld => ?_)
      · exact ⟨range_on hrg bb (by omega), cell_on hcm bb⟩
      clear hK K
      (try simp only [List.getElem_toArray, List.getElem_cons_succ, List.getElem_cons_zero, Act.put, List.setIfInBounds_toArray, List.set_cons_zero, List.set_cons_succ])
      refine wpAnyH_ready (rs := [1]) (by kernel_rfl) (by simp) ?_
      refine AllReadyH.cons (o := _) rfl (fun K hK => ?_) AllReadyH.nil
      rw [if_pos (by rfl)]
      go_simp
      refine (HA.out _).mono ?_
      rintro e w1 ⟨rfl, hb1⟩
      replace Y5 := look_on Y5 hb1 hs5
      replace bb := below_step bb hb1
      (try dsimp only)
      refine hK.out _ _ ?_ (fun hHeld => ?_)
      · exact ⟨range_on hrg bb (by omega), cell_on hcm bb⟩
      clear hK K hb1 hs5
      (try simp only [List.getElem_toArray, List.getElem_cons_succ, List.getElem_cons_zero, Act.put, List.setIfInBounds_toArray, List.set_cons_zero, List.set_cons_succ])
      refine wpAnyH_ready (rs := [6]) (by kernel_rfl) (by simp) ?_
      refine AllReadyH.cons (o := _) rfl (fun K hK => ?_) AllReadyH.nil
      rw [if_pos (by rfl)]
      refine wp_store_cpu _ _ rfl _ rfl rfl hAL Y5 Z25_len ?_
      replace Y5 := lk_row (M := advL L) Y5
      replace bb := below_setRow bb _ hg5 (cw (advL L)).toArray
      (try dsimp only)
      refine hK.out _ _ ?_ (fun hHeld => ?_)
      · exact ⟨range_on hrg bb (by omega), cell_on hcm bb⟩
      clear hK K
      (try simp only [List.getElem_toArray, List.getElem_cons_succ, List.getElem_cons_zero, Act.put, List.setIfInBounds_toArray, List.set_cons_zero, List.set_cons_succ])
      (refine wpAnyH_take (i := 7) (oi := _) (v := ?_) rfl (by kernel_rfl) (by kernel_rfl) (by kernel_rfl) (fun _ _ _ h => h) (Or.inl ⟨by rfl, ?_⟩) (by assumption) ?_; rotate_left 1; focus (intro w hSw; go_simp; try with_reducible rfl); (try simp only [List.getElem_toArray, List.getElem_cons_succ, List.getElem_cons_zero, Act.put, List.setIfInBounds_toArray, List.set_cons_zero, List.set_cons_succ]))
      refine wpAnyH_done (by kernel_rfl) ?_ _
      (try simp only [List.getElem_toArray, List.getElem_cons_succ, List.getElem_cons_zero, Act.put, List.setIfInBounds_toArray, List.set_cons_zero, List.set_cons_succ])
      have F : lk _ W.heap.size = _ ∧ W.heap.size ≤ W.heap.size ∧ Below W.heap.size W _ := ⟨Y5, hg5, bb⟩
      generalize World.setRow w1 _ _ = W5 at F ⊢
      generalize hgg : W.heap.size = g5
      have F' : lk W5 g5 = some (.cells (cw (advL L)).toArray 32 (0, 0)) ∧ W.heap.size ≤ g5 ∧ Below W.heap.size W W5 := ⟨by rw [← hgg]; exact F.1, by rw [← hgg]; exact Nat.le_refl _, F.2.2⟩
      clear hgg F
      revert F'; revert g5 W5
      exact key.out
  case kp =>
    show ∀ (W5 : World) (g5 : Nat), _
    intro W5 g5 ⟨Y5, hg5, bW⟩
    have Y2 := look_on X2 bW (by omega)
    have Y3 := look_on X3 bW (by omega)
    have Y4 := look_on X4 bW (by omega)
    have hW5 : g5 < W5.heap.size := by
      have := Y5
      unfold lk at this
      exact (Array.getElem?_eq_some_iff.1 this).1
    have HB5 : Below w.heap.size w W5 := below_step HB bW
    clear X2 X3 X4 bW hrg hcm bb HA hHeld
    have C2 : ∀ k : Nat, k < 25 → W5.cell? ⟨w.heap.size, k, none⟩ = some (.int .u32 (wd L k)) := fun k hk => (cell_lk Y2 k).trans (by simpa using cw_at hLL hk)
    have C5 : ∀ k : Nat, k < 25 → W5.cell? ⟨g5, k, none⟩ = some (.int .u32 (wd (advL L) k)) := fun k hk => (cell_lk Y5 k).trans (by simpa using cw_at hAL hk)
    have c0 : W5.cell? ⟨w.heap.size + 1, 0, none⟩ = _ := cell_lk Y3 0
    have c1 : W5.cell? ⟨w.heap.size + 1, 1, none⟩ = _ := cell_lk Y3 1
    have c2 : W5.cell? ⟨w.heap.size + 1, 2, none⟩ = _ := cell_lk Y3 2
    have c3 : W5.cell? ⟨w.heap.size + 1, 3, none⟩ = _ := cell_lk Y3 3
    have c4 : W5.cell? ⟨w.heap.size + 1, 4, none⟩ = _ := cell_lk Y3 4
    simp at c0 c1 c2 c3 c4
    have cm := C2 (17 + k) (by omega)
    rw [← hmk.out] at cm
    repeat' (first
      | (with_reducible refine then_normal ?_) | (with_reducible refine wp_exit ?_) | (with_reducible refine wp_ret ?_) | (with_reducible refine then_exit ?_) | (with_reducible refine blk_hit ?_) | (with_reducible refine blk_pass (by decide) ?_) | (with_reducible refine then_ret ?_) | (with_reducible refine blk_ret ?_) | (with_reducible refine blk_normal ?_)
      | (refine wpList_load_look rfl _ rfl _ rfl (fun ob hob => ?_); (first | rw [Y5] at hob | rw [Y2] at hob); subst hob; refine ⟨_, rfl, by assumption, ?_⟩; simp only [Act.put, List.setIfInBounds_toArray, List.set_cons_zero, List.set_cons_succ])
      | go_values | go_skip | go_guarded | go_step | go_upon | (simp only [Int.not_lt, Int.not_le] at *; go_simp) | (go_values <;> (try go_simp)) | (go_ite <;> go_prune <;> (try go_simp)))
    have hi5 : (Tryd.prog.info? 32).map (·.size) = some (cw (advL L)).length := by rw [cw_len hAL]; exact infCpu
    have hr5 : W5.rangeAt g5 0 (cw (advL L)) := range_lk5 Y5
    have bb : Below W5.heap.size W5 W5.drew := (Below.refl _ _).drew
    unfold cpV at HS
    refine wp_region_held_drew (S := fun w' => w'.rangeAt g5 0 (cw (advL L)) ∧ w'.cell? ⟨w.heap.size + 1, 1, none⟩ = some (.int .i64 (a : Int)) ∧ w'.cell? ⟨w.heap.size + 1, 4, none⟩ = some (.int .i32 m) ∧ w'.cell? ⟨w.heap.size, 17 + m.toNat, none⟩ = some (.int .u32 (wd L (17 + m.toNat)))) (by kernel_rfl) ⟨range_on hr5 bb (by omega), cell_on c1 bb, cell_on c4 bb, cell_on cm bb⟩ (fun hHeld => ?_)
    (refine' wpAnyH_take (i := 0) (oi := _) (v := _) rfl (by kernel_rfl) (by kernel_rfl) (by kernel_rfl) (fun _ _ _ h => h) (yieldsIf_load_mid (by rfl) _ _ rfl _ 0 rfl (cw (advL L)) _ (fun w hw => hw.1) hu rfl hi5) (by assumption) ?_; (try simp only [List.getElem_toArray, List.getElem_cons_succ, List.getElem_cons_zero, Act.put, List.setIfInBounds_toArray, List.set_cons_zero, List.set_cons_succ]))
    (refine wpAnyH_take (i := 1) (oi := _) (v := ?_) rfl (by kernel_rfl) (by kernel_rfl) (by kernel_rfl) (fun _ _ _ h => h) (Or.inl ⟨by rfl, ?_⟩) (by assumption) ?_; rotate_left 1; focus (intro w hSw; go_simp; try with_reducible rfl); (try simp only [List.getElem_toArray, List.getElem_cons_succ, List.getElem_cons_zero, Act.put, List.setIfInBounds_toArray, List.set_cons_zero, List.set_cons_succ]))
    (refine wpAnyH_take (i := 2) (oi := _) (v := ?_) rfl (by kernel_rfl) (by kernel_rfl) (by kernel_rfl) (fun _ _ _ h => h) (Or.inl ⟨by rfl, ?_⟩) (by assumption) ?_; rotate_left 1; focus (rintro w ⟨-, hS1, hS2, hS3⟩; go_simp; try with_reducible rfl); (try simp only [List.getElem_toArray, List.getElem_cons_succ, List.getElem_cons_zero, Act.put, List.setIfInBounds_toArray, List.set_cons_zero, List.set_cons_succ]))
    (refine wpAnyH_take (i := 3) (oi := _) (v := ?_) rfl (by kernel_rfl) (by kernel_rfl) (by kernel_rfl) (fun _ _ _ h => h) (Or.inl ⟨by rfl, ?_⟩) (by assumption) ?_; rotate_left 1; focus (intro w hSw; go_simp; try with_reducible rfl); (try simp only [List.getElem_toArray, List.getElem_cons_succ, List.getElem_cons_zero, Act.put, List.setIfInBounds_toArray, List.set_cons_zero, List.set_cons_succ]))
    (refine wpAnyH_take (i := 4) (oi := _) (v := ?_) rfl (by kernel_rfl) (by kernel_rfl) (by kernel_rfl) (fun _ _ _ h => h) (Or.inl ⟨by rfl, ?_⟩) (by assumption) ?_; rotate_left 1; focus (rintro w ⟨-, hS1, hS2, hS3⟩; go_simp; try with_reducible rfl); (try simp only [List.getElem_toArray, List.getElem_cons_succ, List.getElem_cons_zero, Act.put, List.setIfInBounds_toArray, List.set_cons_zero, List.set_cons_succ]))
    (refine wpAnyH_take (i := 5) (oi := _) (v := ?_) rfl (by kernel_rfl) (by kernel_rfl) (by kernel_rfl) (fun _ _ _ h => h) (Or.inl ⟨by rfl, ?_⟩) (by assumption) ?_; rotate_left 1; focus (intro w hSw; go_simp; try with_reducible rfl); (try simp only [List.getElem_toArray, List.getElem_cons_succ, List.getElem_cons_zero, Act.put, List.setIfInBounds_toArray, List.set_cons_zero, List.set_cons_succ]))
    (refine wpAnyH_take (i := 6) (oi := _) (v := ?_) rfl (by kernel_rfl) (by kernel_rfl) (by kernel_rfl) (fun _ _ _ h => h) (Or.inl ⟨by rfl, ?_⟩) (by assumption) ?_; rotate_left 1; focus (intro w hSw; go_simp; try with_reducible rfl); (try simp only [List.getElem_toArray, List.getElem_cons_succ, List.getElem_cons_zero, Act.put, List.setIfInBounds_toArray, List.set_cons_zero, List.set_cons_succ]))
    (refine wpAnyH_take (i := 7) (oi := _) (v := ?_) rfl (by kernel_rfl) (by kernel_rfl) (by kernel_rfl) (fun _ _ _ h => h) (Or.inl ⟨by rfl, ?_⟩) (by assumption) ?_; rotate_left 1; focus (rintro w ⟨-, hS1, hS2, hS3⟩; go_simp; try with_reducible rfl); (try simp only [List.getElem_toArray, List.getElem_cons_succ, List.getElem_cons_zero, Act.put, List.setIfInBounds_toArray, List.set_cons_zero, List.set_cons_succ]))
    have hq5 : ¬ g5 = w.heap.size + 2 := by omega
    have hq1 : ¬ w.heap.size + 1 = w.heap.size + 2 := by omega
    have hq0 : ¬ w.heap.size = w.heap.size + 2 := by omega
    (refine wpAnyH_ready (rs := [8]) (by kernel_rfl) (by simp) ?_; refine AllReadyH.cons (o := _) rfl (fun K hK => ?_) AllReadyH.nil; rw [if_pos (by rfl)])
    go_simp
    refine ((HS.out _ _)).mono ?_
    rintro e w6 ⟨rfl, hb6⟩
    replace bb := below_step bb hb6
    (try dsimp only); refine hK.out _ _ (by exact ⟨range_on hr5 bb (by omega), cell_on c1 bb, cell_on c4 bb, cell_on cm bb⟩) (fun hHeld => ?_); clear hK K; (try simp only [List.getElem_toArray, List.getElem_cons_succ, List.getElem_cons_zero, Act.put, List.setIfInBounds_toArray, List.set_cons_zero, List.set_cons_succ])
    generalize hR : (setL (advL L) (a : Int) (wd L (17 + m.toNat))) = R at *
    have Z4 := look_on Y4 bb (by omega)
    have V4 := lk_row (M := R) Z4
    have HB6 := below_step HB5 bb
    (refine wpAnyH_ready (rs := [9]) (by kernel_rfl) (by simp) ?_; refine AllReadyH.cons (o := _) rfl (fun K hK => ?_) AllReadyH.nil; rw [if_pos (by rfl)])
    refine wp_store_cpu _ _ rfl _ rfl rfl hRL Z4 Z25_len ?_
    (try dsimp only); refine hK.out _ _ (by exact ⟨range_rowN (range_on hr5 bb (by omega)) hq5, cell_rowN (cell_on c1 bb) hq1, cell_rowN (cell_on c4 bb) hq1, cell_rowN (cell_on cm bb) hq0⟩) (fun hHeld => ?_); clear hK K; (try simp only [List.getElem_toArray, List.getElem_cons_succ, List.getElem_cons_zero, Act.put, List.setIfInBounds_toArray, List.set_cons_zero, List.set_cons_succ])
    refine wpAnyH_done (by kernel_rfl) ?_ _
    (try simp only [List.getElem_toArray, List.getElem_cons_succ, List.getElem_cons_zero, Act.put, List.setIfInBounds_toArray, List.set_cons_zero, List.set_cons_succ])
    go_wp2_with fail
    exact bodyPost_ret (v := cpV R) (results_cpu rfl _ _ (w.heap.size + 2) rfl hRL V4) rfl ⟨by rw [← hR] <;> (try rw [hmk.out]), below_setRow HB6 _ (by omega) _⟩
end Go.Proofs.YtfnfbdjbdbifaaaDoor

namespace Go.Proofs.YtfnfbdjbdbifaaaDoor
set_option linter.unusedVariables false
set_option linter.unusedSimpArgs false
set_option maxRecDepth 20000
open Go.ChangeShapes Go.WideShapes Go.ChangeAt Go.RowKit Go.Proofs.YtfnfbdjbdbifaaaDoor.Num Go.Proofs.YtfnfbdjbdbifaaaDoor.Mem Go.Proofs.YtfnfbdjbdbifaaaDoor.Isa
theorem i64_small (m : Int) (h0 : -32768 ≤ m) (h1 : m ≤ 65535) : IntKind.i64.wrap m = m := by
  simp [IntKind.wrap, IntKind.bits, IntKind.signed]
  try omega
set_option maxHeartbeats 1000000 in
theorem step_csrw (L : List Int) (A b c m : Int) (a : Nat) (w : World) (hL : C25 L) (hT : TabK w) (ha : A = a) (a1 : a < 16) (m0 : -32768 ≤ m) (m1 : m ≤ 65535) :
    Calls Tryd.prog 27 #[cpV L, instV 59 A b c m] w fun e w' => e = .returned (cpV (wrL (advL L) m (wd L a))) ∧ Below w.heap.size w w' := by
  subst ha
  have hLL := hL.1
  have ha0 : (0 : Int) ≤ a := by omega
  have ha1 : (a : Int) < 16 := by omega
  have ha25 : a < 25 := by omega
  have HA := Lib.hid (fun W => advance_any L W hL)
  have HTK := Lib.hid hT
  clear hT
  have HS := Lib.hid (fun W (hK : TabK W) => write_any (advL L) m (wd L a) W hL.adv hK (hL.bd a).1 (hL.bd a).2)
  have hRL := (hL.adv.wr m (hL.bd a).1 (hL.bd a).2).1
  unfold instV
  obtain ⟨F1, F2, F3, -⟩ := cw_facts
  go_enter Tryd.func27, Tryd.ntmps27
  go_wp2_with (first
    | (refine wpList_box_box rfl _ rfl rfl ?_; simp only [Act.put, List.setIfInBounds_toArray, List.set_cons_zero, List.set_cons_succ])
    | (refine wpList_alloc_box rfl rfl ?_; simp only [Act.put, List.setIfInBounds_toArray, List.set_cons_zero, List.set_cons_succ]))
  generalize hW : World.alloc (World.alloc (World.alloc w _) _) _ = W
  have X2 : lk W w.heap.size = some (.cells (cw L).toArray 32 (0, 0)) := by rw [← hW]; simp [look_alloc] <;> omega
  have X3 : lk W (w.heap.size + 1) = some (.cells #[.int .i64 59, .int .i64 a, .int .i64 b, .int .i64 c, .int .i32 m] 27 (0, 0)) := by rw [← hW]; simp [look_alloc]
  have X4 : lk W (w.heap.size + 2) = some (.cells (cw Z25).toArray 32 (0, 0)) := by rw [← hW]; simp [look_alloc]
  have HB : Below w.heap.size w W := by rw [← hW]; (repeat' (first | with_reducible exact Below.refl _ _ | with_reducible assumption | with_reducible apply below_drewN | with_reducible apply Below.drew | with_reducible apply Below.setCell | with_reducible apply Below.alloc | (simp; done) | omega | (simp; omega)))
  have hsz : w.heap.size + 2 < W.heap.size := by rw [← hW]; simp
  clear hW
  obtain ⟨fs, hu⟩ := undCpu
  have hi : (Tryd.prog.info? 32).map (·.size) = some (cw L).length := by rw [cw_len hLL]; exact infCpu
  have hrg : W.rangeAt w.heap.size 0 (cw L) := fun j u hu => by rw [Nat.zero_add]; exact (cell_lk X2 j).trans (by simpa using hu)
  have hcm : W.cell? ⟨w.heap.size + 1, 4, none⟩ = some (.int .i32 m) := cell_lk X3 4
  have bb : Below W.heap.size W W.drew := (Below.refl _ _).drew
  unfold cpV at HA
  refine wp_region_held_drew (S := fun w' => w'.rangeAt w.heap.size 0 (cw L) ∧ w'.cell? ⟨w.heap.size + 1, 4, none⟩ = some (.int .i32 m)) (by kernel_rfl) ⟨range_on hrg bb (by omega), cell_on hcm bb⟩ (fun hHeld => ?_)
  (refine' wpAnyH_take (i := 0) (oi := _) (v := _) rfl (by kernel_rfl) (by kernel_rfl) (by kernel_rfl) (fun _ _ _ h => h) (yieldsIf_load_mid (by rfl) _ _ rfl _ 0 rfl (cw L) _ (fun w hw => hw.1) hu rfl hi) (by assumption) ?_; (try simp only [List.getElem_toArray, List.getElem_cons_succ, List.getElem_cons_zero, Act.put, List.setIfInBounds_toArray, List.set_cons_zero, List.set_cons_succ]))
  (refine wpAnyH_take (i := 2) (oi := _) (v := ?_) rfl (by kernel_rfl) (by kernel_rfl) (by kernel_rfl) (fun _ _ _ h => h) (Or.inl ⟨by rfl, ?_⟩) (by assumption) ?_; rotate_left 1; focus (intro w hSw; go_simp; try with_reducible rfl); (try simp only [List.getElem_toArray, List.getElem_cons_succ, List.getElem_cons_zero, Act.put, List.setIfInBounds_toArray, List.set_cons_zero, List.set_cons_succ]))
  (refine wpAnyH_take (i := 3) (oi := _) (v := ?_) rfl (by kernel_rfl) (by kernel_rfl) (by kernel_rfl) (fun _ _ _ h => h) (Or.inl ⟨by rfl, ?_⟩) (by assumption) ?_; rotate_left 1; focus (rintro w ⟨-, hSw⟩; go_simp; try with_reducible rfl); (try simp only [List.getElem_toArray, List.getElem_cons_succ, List.getElem_cons_zero, Act.put, List.setIfInBounds_toArray, List.set_cons_zero, List.set_cons_succ]))
  (refine wpAnyH_take (i := 4) (oi := _) (v := ?_) rfl (by kernel_rfl) (by kernel_rfl) (by kernel_rfl) (fun _ _ _ h => h) (Or.inl ⟨by rfl, ?_⟩) (by assumption) ?_; rotate_left 1; focus (intro w hSw; go_simp; try with_reducible rfl); (try simp only [List.getElem_toArray, List.getElem_cons_succ, List.getElem_cons_zero, Act.put, List.setIfInBounds_toArray, List.set_cons_zero, List.set_cons_succ]))
  have hAL := hL.adv.1
  refine (fun (key : Hid ?T) => ?main) ?kp
  case main =>
    refine wpAnyH_ready (rs := [1, 5]) (by kernel_rfl) (by simp) ?_
    refine AllReadyH.cons (o := _) rfl (fun K hK => ?_) (AllReadyH.cons (o := _) rfl (fun K hK => ?_) AllReadyH.nil)
    · rw [if_pos (by rfl)]
      go_simp
      refine (HA.out _).mono ?_
      rintro e w1 ⟨rfl, hb1⟩
      replace bb := below_step bb hb1
      (try dsimp only)
      refine hK.out _ _ ?_ (fun hHeld => ?_)
      · exact ⟨range_on hrg bb (by omega), cell_on hcm bb⟩
      clear hK K hb1
      (try simp only [List.getElem_toArray, List.getElem_cons_succ, List.getElem_cons_zero, Act.put, List.setIfInBounds_toArray, List.set_cons_zero, List.set_cons_succ])
      refine wpAnyH_ready (rs := [5]) (by kernel_rfl) (by simp) ?_
      refine AllReadyH.cons (o := _) rfl (fun K hK => ?_) AllReadyH.nil
      rw [if_pos (by rfl)]
      refine wp_alloc_cpu rfl ?_
      have hsz1 := bb.size
      replace bb := bb.alloc hsz1 (.cells (cw Z25).toArray 32)
      (try dsimp only)
      refine hK.out _ _ ?_ (fun hHeld => ?_)
      · exact ⟨range_on hrg bb (by omega), cell_on hcm bb⟩
      clear hK K
      (try simp only [List.getElem_toArray, List.getElem_cons_succ, List.getElem_cons_zero, Act.put, List.setIfInBounds_toArray, List.set_cons_zero, List.set_cons_succ])
      have Y5 : lk (w1.alloc (.cells (cw Z25).toArray 32)) w1.heap.size = some (.cells (cw Z25).toArray 32 (0, 0)) := by rw [look_alloc, if_pos rfl]
      have hg5 := hsz1
      refine wpAnyH_ready (rs := [6]) (by kernel_rfl) (by simp) ?_
      refine AllReadyH.cons (o := _) rfl (fun K hK => ?_) AllReadyH.nil
      rw [if_pos (by rfl)]
      refine wp_store_cpu _ _ rfl _ rfl rfl hAL Y5 Z25_len ?_
      replace Y5 := lk_row (M := advL L) Y5
      replace bb := below_setRow bb _ hg5 (cw (advL L)).toArray
      (try dsimp only)
      refine hK.out _ _ ?_ (fun hHeld => ?_)
      · exact ⟨range_on hrg bb (by omega), cell_on hcm bb⟩
      clear hK K
      (try simp only [List.getElem_toArray, List.getElem_cons_succ, List.getElem_cons_zero, Act.put, List.setIfInBounds_toArray, List.set_cons_zero, List.set_cons_succ])
      (refine wpAnyH_take (i := 7) (oi := _) (v := ?_) rfl (by kernel_rfl) (by kernel_rfl) (by kernel_rfl) (fun _ _ _ h => h) (Or.inl ⟨by rfl, ?_⟩) (by assumption) ?_; rotate_left 1; focus (intro w hSw; go_simp; try with_reducible rfl); (try simp only [List.getElem_toArray, List.getElem_cons_succ, List.getElem_cons_zero, Act.put, List.setIfInBounds_toArray, List.set_cons_zero, List.set_cons_succ]))
      refine wpAnyH_done (by kernel_rfl) ?_ _
      (try simp only [List.getElem_toArray, List.getElem_cons_succ, List.getElem_cons_zero, Act.put, List.setIfInBounds_toArray, List.set_cons_zero, List.set_cons_succ])
      have F : lk _ w1.heap.size = _ ∧ W.heap.size ≤ w1.heap.size ∧ Below W.heap.size W _ := ⟨Y5, hg5, bb⟩
      generalize World.setRow (World.alloc w1 _) _ _ = W5 at F ⊢
      generalize w1.heap.size = g5 at F ⊢
      revert F; revert g5 W5
      exact key.out
    · rw [if_pos (by rfl)]
      refine wp_alloc_cpu rfl ?_
      have Y5 : lk (W.drew.alloc (.cells (cw Z25).toArray 32)) W.heap.size = some (.cells (cw Z25).toArray 32 (0, 0)) := by rw [look_alloc]; exact if_pos rfl
      have hg5 : W.heap.size ≤ W.heap.size := Nat.le_refl _
      replace bb := bb.alloc hg5 (.cells (cw Z25).toArray 32)
      have hs5 : W.heap.size < (W.drew.alloc (.cells (cw Z25).toArray 32)).heap.size := by simp
      (try dsimp only)
      refine hK.out _ _ ?_ (fun hHeld => ?_)
      · exact ⟨range_on hrg bb (by omega), cell_on hcm bb⟩
      clear hK K
      (try simp only [List.getElem_toArray, List.getElem_cons_succ, List.getElem_cons_zero, Act.put, List.setIfInBounds_toArray, List.set_cons_zero, List.set_cons_succ])
      refine wpAnyH_ready (rs := [1]) (by kernel_rfl) (by simp) ?_
      refine AllReadyH.cons (o := _) rfl (fun K hK => ?_) AllReadyH.nil
      rw [if_pos (by rfl)]
      go_simp
      refine (HA.out _).mono ?_
      rintro e w1 ⟨rfl, hb1⟩
      replace Y5 := look_on Y5 hb1 hs5
      replace bb := below_step bb hb1
      (try dsimp only)
      refine hK.out _ _ ?_ (fun hHeld => ?_)
      · exact ⟨range_on hrg bb (by omega), cell_on hcm bb⟩
      clear hK K hb1 hs5
      (try simp only [List.getElem_toArray, List.getElem_cons_succ, List.getElem_cons_zero, Act.put, List.setIfInBounds_toArray, List.set_cons_zero, List.set_cons_succ])
      refine wpAnyH_ready (rs := [6]) (by kernel_rfl) (by simp) ?_
      refine AllReadyH.cons (o := _) rfl (fun K hK => ?_) AllReadyH.nil
      rw [if_pos (by rfl)]
      refine wp_store_cpu _ _ rfl _ rfl rfl hAL Y5 Z25_len ?_
      replace Y5 := lk_row (M := advL L) Y5
      replace bb := below_setRow bb _ hg5 (cw (advL L)).toArray
      (try dsimp only)
      refine hK.out _ _ ?_ (fun hHeld => ?_)
      · exact ⟨range_on hrg bb (by omega), cell_on hcm bb⟩
      clear hK K
      (try simp only [List.getElem_toArray, List.getElem_cons_succ, List.getElem_cons_zero, Act.put, List.setIfInBounds_toArray, List.set_cons_zero, List.set_cons_succ])
      (refine wpAnyH_take (i := 7) (oi := _) (v := ?_) rfl (by kernel_rfl) (by kernel_rfl) (by kernel_rfl) (fun _ _ _ h => h) (Or.inl ⟨by rfl, ?_⟩) (by assumption) ?_; rotate_left 1; focus (intro w hSw; go_simp; try with_reducible rfl); (try simp only [List.getElem_toArray, List.getElem_cons_succ, List.getElem_cons_zero, Act.put, List.setIfInBounds_toArray, List.set_cons_zero, List.set_cons_succ]))
      refine wpAnyH_done (by kernel_rfl) ?_ _
      (try simp only [List.getElem_toArray, List.getElem_cons_succ, List.getElem_cons_zero, Act.put, List.setIfInBounds_toArray, List.set_cons_zero, List.set_cons_succ])
      have F : lk _ W.heap.size = _ ∧ W.heap.size ≤ W.heap.size ∧ Below W.heap.size W _ := ⟨Y5, hg5, bb⟩
      generalize World.setRow w1 _ _ = W5 at F ⊢
      generalize hgg : W.heap.size = g5
      have F' : lk W5 g5 = some (.cells (cw (advL L)).toArray 32 (0, 0)) ∧ W.heap.size ≤ g5 ∧ Below W.heap.size W W5 := ⟨by rw [← hgg]; exact F.1, by rw [← hgg]; exact Nat.le_refl _, F.2.2⟩
      clear hgg F
      revert F'; revert g5 W5
      exact key.out
  case kp =>
    show ∀ (W5 : World) (g5 : Nat), _
    intro W5 g5 ⟨Y5, hg5, bW⟩
    have Y2 := look_on X2 bW (by omega)
    have Y3 := look_on X3 bW (by omega)
    have Y4 := look_on X4 bW (by omega)
    have hW5 : g5 < W5.heap.size := by
      have := Y5
      unfold lk at this
      exact (Array.getElem?_eq_some_iff.1 this).1
    have HB5 : Below w.heap.size w W5 := below_step HB bW
    clear X2 X3 X4 bW hrg hcm bb HA hHeld
    have C2 : ∀ k : Nat, k < 25 → W5.cell? ⟨w.heap.size, k, none⟩ = some (.int .u32 (wd L k)) := fun k hk => (cell_lk Y2 k).trans (by simpa using cw_at hLL hk)
    have C5 : ∀ k : Nat, k < 25 → W5.cell? ⟨g5, k, none⟩ = some (.int .u32 (wd (advL L) k)) := fun k hk => (cell_lk Y5 k).trans (by simpa using cw_at hAL hk)
    have c0 : W5.cell? ⟨w.heap.size + 1, 0, none⟩ = _ := cell_lk Y3 0
    have c1 : W5.cell? ⟨w.heap.size + 1, 1, none⟩ = _ := cell_lk Y3 1
    have c2 : W5.cell? ⟨w.heap.size + 1, 2, none⟩ = _ := cell_lk Y3 2
    have c3 : W5.cell? ⟨w.heap.size + 1, 3, none⟩ = _ := cell_lk Y3 3
    have c4 : W5.cell? ⟨w.heap.size + 1, 4, none⟩ = _ := cell_lk Y3 4
    simp at c0 c1 c2 c3 c4
    have cm := C2 a (by omega)
    repeat' (first
      | (with_reducible refine then_normal ?_) | (with_reducible refine wp_exit ?_) | (with_reducible refine wp_ret ?_) | (with_reducible refine then_exit ?_) | (with_reducible refine blk_hit ?_) | (with_reducible refine blk_pass (by decide) ?_) | (with_reducible refine then_ret ?_) | (with_reducible refine blk_ret ?_) | (with_reducible refine blk_normal ?_)
      | (refine wpList_load_look rfl _ rfl _ rfl (fun ob hob => ?_); (first | rw [Y5] at hob | rw [Y2] at hob); subst hob; refine ⟨_, rfl, by assumption, ?_⟩; simp only [Act.put, List.setIfInBounds_toArray, List.set_cons_zero, List.set_cons_succ])
      | go_values | go_skip | go_guarded | go_step | go_upon | (simp only [Int.not_lt, Int.not_le] at *; go_simp) | (go_values <;> (try go_simp)) | (go_ite <;> go_prune <;> (try go_simp)))
    have hi5 : (Tryd.prog.info? 32).map (·.size) = some (cw (advL L)).length := by rw [cw_len hAL]; exact infCpu
    have hr5 : W5.rangeAt g5 0 (cw (advL L)) := range_lk5 Y5
    have bb : Below W5.heap.size W5 W5.drew := (Below.refl _ _).drew
    unfold cpV at HS
    refine wp_region_held_drew (S := fun w' => w'.rangeAt g5 0 (cw (advL L)) ∧ w'.cell? ⟨w.heap.size + 1, 1, none⟩ = some (.int .i64 (a : Int)) ∧ w'.cell? ⟨w.heap.size + 1, 4, none⟩ = some (.int .i32 m) ∧ w'.cell? ⟨w.heap.size, a, none⟩ = some (.int .u32 (wd L a))) (by kernel_rfl) ⟨range_on hr5 bb (by omega), cell_on c1 bb, cell_on c4 bb, cell_on cm bb⟩ (fun hHeld => ?_)
    (refine' wpAnyH_take (i := 0) (oi := _) (v := _) rfl (by kernel_rfl) (by kernel_rfl) (by kernel_rfl) (fun _ _ _ h => h) (yieldsIf_load_mid (by rfl) _ _ rfl _ 0 rfl (cw (advL L)) _ (fun w hw => hw.1) hu rfl hi5) (by assumption) ?_; (try simp only [List.getElem_toArray, List.getElem_cons_succ, List.getElem_cons_zero, Act.put, List.setIfInBounds_toArray, List.set_cons_zero, List.set_cons_succ]))
    (refine wpAnyH_take (i := 1) (oi := _) (v := ?_) rfl (by kernel_rfl) (by kernel_rfl) (by kernel_rfl) (fun _ _ _ h => h) (Or.inl ⟨by rfl, ?_⟩) (by assumption) ?_; rotate_left 1; focus (intro w hSw; go_simp; try with_reducible rfl); (try simp only [List.getElem_toArray, List.getElem_cons_succ, List.getElem_cons_zero, Act.put, List.setIfInBounds_toArray, List.set_cons_zero, List.set_cons_succ]))
    (refine wpAnyH_take (i := 2) (oi := _) (v := ?_) rfl (by kernel_rfl) (by kernel_rfl) (by kernel_rfl) (fun _ _ _ h => h) (Or.inl ⟨by rfl, ?_⟩) (by assumption) ?_; rotate_left 1; focus (rintro w ⟨-, hS1, hS2, hS3⟩; go_simp; try with_reducible rfl); (try simp only [List.getElem_toArray, List.getElem_cons_succ, List.getElem_cons_zero, Act.put, List.setIfInBounds_toArray, List.set_cons_zero, List.set_cons_succ]))
    (refine wpAnyH_take (i := 3) (oi := _) (v := ?_) rfl (by kernel_rfl) (by kernel_rfl) (by kernel_rfl) (fun _ _ _ h => h) (Or.inl ⟨by rfl, ?_⟩) (by assumption) ?_; rotate_left 1; focus (intro w hSw; go_simp; try with_reducible rfl); (try simp only [List.getElem_toArray, List.getElem_cons_succ, List.getElem_cons_zero, Act.put, List.setIfInBounds_toArray, List.set_cons_zero, List.set_cons_succ]))
    (refine wpAnyH_take (i := 4) (oi := _) (v := ?_) rfl (by kernel_rfl) (by kernel_rfl) (by kernel_rfl) (fun _ _ _ h => h) (Or.inl ⟨by rfl, ?_⟩) (by assumption) ?_; rotate_left 1; focus (intro w hSw; go_simp; try with_reducible rfl); (try simp only [List.getElem_toArray, List.getElem_cons_succ, List.getElem_cons_zero, Act.put, List.setIfInBounds_toArray, List.set_cons_zero, List.set_cons_succ]))
    (refine wpAnyH_take (i := 5) (oi := _) (v := ?_) rfl (by kernel_rfl) (by kernel_rfl) (by kernel_rfl) (fun _ _ _ h => h) (Or.inl ⟨by rfl, ?_⟩) (by assumption) ?_; rotate_left 1; focus (rintro w ⟨-, hS1, hS2, hS3⟩; go_simp; try with_reducible rfl); (try simp only [List.getElem_toArray, List.getElem_cons_succ, List.getElem_cons_zero, Act.put, List.setIfInBounds_toArray, List.set_cons_zero, List.set_cons_succ]))
    (refine wpAnyH_take (i := 6) (oi := _) (v := ?_) rfl (by kernel_rfl) (by kernel_rfl) (by kernel_rfl) (fun _ _ _ h => h) (Or.inl ⟨by rfl, ?_⟩) (by assumption) ?_; rotate_left 1; focus (intro w hSw; go_simp; try with_reducible rfl); (try simp only [List.getElem_toArray, List.getElem_cons_succ, List.getElem_cons_zero, Act.put, List.setIfInBounds_toArray, List.set_cons_zero, List.set_cons_succ]))
    (refine wpAnyH_take (i := 7) (oi := _) (v := ?_) rfl (by kernel_rfl) (by kernel_rfl) (by kernel_rfl) (fun _ _ _ h => h) (Or.inl ⟨by rfl, ?_⟩) (by assumption) ?_; rotate_left 1; focus (intro w hSw; go_simp; try with_reducible rfl); (try simp only [List.getElem_toArray, List.getElem_cons_succ, List.getElem_cons_zero, Act.put, List.setIfInBounds_toArray, List.set_cons_zero, List.set_cons_succ]))
    (refine wpAnyH_take (i := 8) (oi := _) (v := ?_) rfl (by kernel_rfl) (by kernel_rfl) (by kernel_rfl) (fun _ _ _ h => h) (Or.inl ⟨by rfl, ?_⟩) (by assumption) ?_; rotate_left 1; focus (rintro w ⟨-, hS1, hS2, hS3⟩; go_simp; try with_reducible rfl); (try simp only [List.getElem_toArray, List.getElem_cons_succ, List.getElem_cons_zero, Act.put, List.setIfInBounds_toArray, List.set_cons_zero, List.set_cons_succ]))
    have hwm : IntKind.i64.wrap m = m := i64_small m (by omega) (by omega)
    simp only [hwm]
    have hq5 : ¬ g5 = w.heap.size + 2 := by omega
    have hq1 : ¬ w.heap.size + 1 = w.heap.size + 2 := by omega
    have hq0 : ¬ w.heap.size = w.heap.size + 2 := by omega
    (refine wpAnyH_ready (rs := [9]) (by kernel_rfl) (by simp) ?_; refine AllReadyH.cons (o := _) rfl (fun K hK => ?_) AllReadyH.nil; rw [if_pos (by rfl)])
    go_simp
    refine ((HS.out _ (HTK.out.on (below_step HB5 bb)))).mono ?_
    rintro e w6 ⟨rfl, hb6⟩
    replace bb := below_step bb hb6
    (try dsimp only); refine hK.out _ _ (by exact ⟨range_on hr5 bb (by omega), cell_on c1 bb, cell_on c4 bb, cell_on cm bb⟩) (fun hHeld => ?_); clear hK K; (try simp only [List.getElem_toArray, List.getElem_cons_succ, List.getElem_cons_zero, Act.put, List.setIfInBounds_toArray, List.set_cons_zero, List.set_cons_succ])
    generalize hR : (wrL (advL L) m (wd L a)) = R at *
    have Z4 := look_on Y4 bb (by omega)
    have V4 := lk_row (M := R) Z4
    have HB6 := below_step HB5 bb
    (refine wpAnyH_ready (rs := [10]) (by kernel_rfl) (by simp) ?_; refine AllReadyH.cons (o := _) rfl (fun K hK => ?_) AllReadyH.nil; rw [if_pos (by rfl)])
    refine wp_store_cpu _ _ rfl _ rfl rfl hRL Z4 Z25_len ?_
    (try dsimp only); refine hK.out _ _ (by exact ⟨range_rowN (range_on hr5 bb (by omega)) hq5, cell_rowN (cell_on c1 bb) hq1, cell_rowN (cell_on c4 bb) hq1, cell_rowN (cell_on cm bb) hq0⟩) (fun hHeld => ?_); clear hK K; (try simp only [List.getElem_toArray, List.getElem_cons_succ, List.getElem_cons_zero, Act.put, List.setIfInBounds_toArray, List.set_cons_zero, List.set_cons_succ])
    refine wpAnyH_done (by kernel_rfl) ?_ _
    (try simp only [List.getElem_toArray, List.getElem_cons_succ, List.getElem_cons_zero, Act.put, List.setIfInBounds_toArray, List.set_cons_zero, List.set_cons_succ])
    go_wp2_with fail
    exact bodyPost_ret (v := cpV R) (results_cpu rfl _ _ (w.heap.size + 2) rfl hRL V4) rfl ⟨by rw [← hR] <;> (try rw [hmk.out]), below_setRow HB6 _ (by omega) _⟩
end Go.Proofs.YtfnfbdjbdbifaaaDoor

namespace Go.Proofs.YtfnfbdjbdbifaaaDoor
set_option linter.unusedVariables false
set_option linter.unusedSimpArgs false
set_option maxRecDepth 20000
open Go.ChangeShapes Go.WideShapes Go.ChangeAt Go.RowKit Go.Proofs.YtfnfbdjbdbifaaaDoor.Num Go.Proofs.YtfnfbdjbdbifaaaDoor.Mem Go.Proofs.YtfnfbdjbdbifaaaDoor.Isa
/- The step: operations. -/
theorem undInst5 : ∃ fs, Tryd.prog.underlying 27 = some (.struct fs) := ⟨_, Tryd.underlying27⟩
theorem infInst5 : (Tryd.prog.info? 27).map (·.size) = some 5 := by kernel_rfl
set_option maxHeartbeats 600000 in
theorem step_alu (L : List Int) (o m : Int) (a b c : Nat) (w : World) (hL : C25 L) (a1 : a < 16) (b1 : b < 16) (c1' : c < 16) (m0 : -32768 ≤ m) (m1 : m ≤ 65535) (ho : ¬ o = 24 ∧ ¬ (40 ≤ o ∧ o ≤ 45) ∧ ¬ o = 48 ∧ ¬ o = 49 ∧ ¬ (56 ≤ o ∧ o ≤ 59)) (hB : aluB o = true) :
    Calls Tryd.prog 27 #[cpV L, instV o a b c m] w fun e w' => e = .returned (cpV (setL (advL L) a (aluV o (wd L b) (if o ≤ 13 then wd L c else m % 4294967296)))) ∧ Below w.heap.size w w' := by
  have hLL := hL.1
  have hb0 : (0 : Int) ≤ b := by omega
  have hb1 : (b : Int) < 16 := by omega
  have hb25 : b < 25 := by omega
  have HA := Lib.hid (fun W => advance_any L W hL)
  have HS := Lib.hid (fun v W => setReg_any (advL L) a v W hL.adv a1)
  have HLO := Lib.hid (fun W => last_any L o a b c m c W hL rfl c1' m0 m1)
  have hlo : 0 ≤ (if o ≤ 13 then wd L c else m % 4294967296) ∧ (if o ≤ 13 then wd L c else m % 4294967296) ≤ 4294967295 := by
    split
    · exact hL.bd c
    · omega
  have HAL := Lib.hid (fun W => alu_any o (wd L b) (if o ≤ 13 then wd L c else m % 4294967296) W (hL.bd b).1 (hL.bd b).2 hlo.1 hlo.2)
  have hV : 0 ≤ aluV o (wd L b) (if o ≤ 13 then wd L c else m % 4294967296) ∧ aluV o (wd L b) (if o ≤ 13 then wd L c else m % 4294967296) ≤ 4294967295 := aluV_bd o _ _ (hL.bd b).1 (hL.bd b).2 hlo.1 hlo.2
  unfold AluPost at HAL
  rw [hB] at HAL
  generalize aluV o (wd L b) (if o ≤ 13 then wd L c else m % 4294967296) = V at *
  generalize (if o ≤ 13 then wd L c else m % 4294967296) = lo at *
  have hRL := (hL.adv.setL a (v := V) hV.1 hV.2).1
  have n24 : (o == 24) = false := by rw [beq_eq_false_iff_ne]; omega
  have n40 : (o == 40) = false := by rw [beq_eq_false_iff_ne]; omega
  have n41 : (o == 41) = false := by rw [beq_eq_false_iff_ne]; omega
  have n42 : (o == 42) = false := by rw [beq_eq_false_iff_ne]; omega
  have n43 : (o == 43) = false := by rw [beq_eq_false_iff_ne]; omega
  have n44 : (o == 44) = false := by rw [beq_eq_false_iff_ne]; omega
  have n45 : (o == 45) = false := by rw [beq_eq_false_iff_ne]; omega
  have n48 : (o == 48) = false := by rw [beq_eq_false_iff_ne]; omega
  have n49 : (o == 49) = false := by rw [beq_eq_false_iff_ne]; omega
  have n56 : (o == 56) = false := by rw [beq_eq_false_iff_ne]; omega
  have n57 : (o == 57) = false := by rw [beq_eq_false_iff_ne]; omega
  have n58 : (o == 58) = false := by rw [beq_eq_false_iff_ne]; omega
  have n59 : (o == 59) = false := by rw [beq_eq_false_iff_ne]; omega
  clear ho hB
  unfold instV at HLO ⊢
  obtain ⟨F1, F2, F3, -⟩ := cw_facts
  go_enter Tryd.func27, Tryd.ntmps27
  go_wp2_with (first
    | (refine wpList_box_box rfl _ rfl rfl ?_; simp only [Act.put, List.setIfInBounds_toArray, List.set_cons_zero, List.set_cons_succ])
    | (refine wpList_alloc_box rfl rfl ?_; simp only [Act.put, List.setIfInBounds_toArray, List.set_cons_zero, List.set_cons_succ]))
  generalize hW : World.alloc (World.alloc (World.alloc w _) _) _ = W
  have X2 : lk W w.heap.size = some (.cells (cw L).toArray 32 (0, 0)) := by rw [← hW]; simp [look_alloc] <;> omega
  have X3 : lk W (w.heap.size + 1) = some (.cells #[.int .i64 o, .int .i64 a, .int .i64 b, .int .i64 c, .int .i32 m] 27 (0, 0)) := by rw [← hW]; simp [look_alloc]
  have X4 : lk W (w.heap.size + 2) = some (.cells (cw Z25).toArray 32 (0, 0)) := by rw [← hW]; simp [look_alloc]
  have HB : Below w.heap.size w W := by rw [← hW]; (repeat' (first | with_reducible exact Below.refl _ _ | with_reducible assumption | with_reducible apply below_drewN | with_reducible apply Below.drew | with_reducible apply Below.setCell | with_reducible apply Below.alloc | (simp; done) | omega | (simp; omega)))
  have hsz : w.heap.size + 2 < W.heap.size := by rw [← hW]; simp
  clear hW
  obtain ⟨fs, hu⟩ := undCpu
  have hi : (Tryd.prog.info? 32).map (·.size) = some (cw L).length := by rw [cw_len hLL]; exact infCpu
  have hrg : W.rangeAt w.heap.size 0 (cw L) := fun j u hu => by rw [Nat.zero_add]; exact (cell_lk X2 j).trans (by simpa using hu)
  have hcm : W.cell? ⟨w.heap.size + 1, 4, none⟩ = some (.int .i32 m) := cell_lk X3 4
  have bb : Below W.heap.size W W.drew := (Below.refl _ _).drew
  unfold cpV at HA
  refine wp_region_held_drew (S := fun w' => w'.rangeAt w.heap.size 0 (cw L) ∧ w'.cell? ⟨w.heap.size + 1, 4, none⟩ = some (.int .i32 m)) (by kernel_rfl) ⟨range_on hrg bb (by omega), cell_on hcm bb⟩ (fun hHeld => ?_)
  (refine' wpAnyH_take (i := 0) (oi := _) (v := _) rfl (by kernel_rfl) (by kernel_rfl) (by kernel_rfl) (fun _ _ _ h => h) (yieldsIf_load_mid (by rfl) _ _ rfl _ 0 rfl (cw L) _ (fun w hw => hw.1) hu rfl hi) (by assumption) ?_; (try simp only [List.getElem_toArray, List.getElem_cons_succ, List.getElem_cons_zero, Act.put, List.setIfInBounds_toArray, List.set_cons_zero, List.set_cons_succ]))
  (refine wpAnyH_take (i := 2) (oi := _) (v := ?_) rfl (by kernel_rfl) (by kernel_rfl) (by kernel_rfl) (fun _ _ _ h => h) (Or.inl ⟨by rfl, ?_⟩) (by assumption) ?_; rotate_left 1; focus (intro w hSw; go_simp; try with_reducible rfl); (try simp only [List.getElem_toArray, List.getElem_cons_succ, List.getElem_cons_zero, Act.put, List.setIfInBounds_toArray, List.set_cons_zero, List.set_cons_succ]))
  (refine wpAnyH_take (i := 3) (oi := _) (v := ?_) rfl (by kernel_rfl) (by kernel_rfl) (by kernel_rfl) (fun _ _ _ h => h) (Or.inl ⟨by rfl, ?_⟩) (by assumption) ?_; rotate_left 1; focus (rintro w ⟨-, hSw⟩; go_simp; try with_reducible rfl); (try simp only [List.getElem_toArray, List.getElem_cons_succ, List.getElem_cons_zero, Act.put, List.setIfInBounds_toArray, List.set_cons_zero, List.set_cons_succ]))
  (refine wpAnyH_take (i := 4) (oi := _) (v := ?_) rfl (by kernel_rfl) (by kernel_rfl) (by kernel_rfl) (fun _ _ _ h => h) (Or.inl ⟨by rfl, ?_⟩) (by assumption) ?_; rotate_left 1; focus (intro w hSw; go_simp; try with_reducible rfl); (try simp only [List.getElem_toArray, List.getElem_cons_succ, List.getElem_cons_zero, Act.put, List.setIfInBounds_toArray, List.set_cons_zero, List.set_cons_succ]))
  have hAL := hL.adv.1
  refine (fun (key : Hid ?T) => ?main) ?kp
  case main =>
    refine wpAnyH_ready (rs := [1, 5]) (by kernel_rfl) (by simp) ?_
    refine AllReadyH.cons (o := _) rfl (fun K hK => ?_) (AllReadyH.cons (o := _) rfl (fun K hK => ?_) AllReadyH.nil)
    · rw [if_pos (by rfl)]
      go_simp
      refine (HA.out _).mono ?_
      rintro e w1 ⟨rfl, hb1⟩
      replace bb := below_step bb hb1
      (try dsimp only)
      refine hK.out _ _ ?_ (fun hHeld => ?_)
      · exact ⟨range_on hrg bb (by omega), cell_on hcm bb⟩
      clear hK K hb1
      (try simp only [List.getElem_toArray, List.getElem_cons_succ, List.getElem_cons_zero, Act.put, List.setIfInBounds_toArray, List.set_cons_zero, List.set_cons_succ])
      refine wpAnyH_ready (rs := [5]) (by kernel_rfl) (by simp) ?_
      refine AllReadyH.cons (o := _) rfl (fun K hK => ?_) AllReadyH.nil
      rw [if_pos (by rfl)]
      refine wp_alloc_cpu rfl ?_
      have hsz1 := bb.size
      replace bb := bb.alloc hsz1 (.cells (cw Z25).toArray 32)
      (try dsimp only)
      refine hK.out _ _ ?_ (fun hHeld => ?_)
      · exact ⟨range_on hrg bb (by omega), cell_on hcm bb⟩
      clear hK K
      (try simp only [List.getElem_toArray, List.getElem_cons_succ, List.getElem_cons_zero, Act.put, List.setIfInBounds_toArray, List.set_cons_zero, List.set_cons_succ])
      have Y5 : lk (w1.alloc (.cells (cw Z25).toArray 32)) w1.heap.size = some (.cells (cw Z25).toArray 32 (0, 0)) := by rw [look_alloc, if_pos rfl]
      have hg5 := hsz1
      refine wpAnyH_ready (rs := [6]) (by kernel_rfl) (by simp) ?_
      refine AllReadyH.cons (o := _) rfl (fun K hK => ?_) AllReadyH.nil
      rw [if_pos (by rfl)]
      refine wp_store_cpu _ _ rfl _ rfl rfl hAL Y5 Z25_len ?_
      replace Y5 := lk_row (M := advL L) Y5
      replace bb := below_setRow bb _ hg5 (cw (advL L)).toArray
      (try dsimp only)
      refine hK.out _ _ ?_ (fun hHeld => ?_)
      · exact ⟨range_on hrg bb (by omega), cell_on hcm bb⟩
      clear hK K
      (try simp only [List.getElem_toArray, List.getElem_cons_succ, List.getElem_cons_zero, Act.put, List.setIfInBounds_toArray, List.set_cons_zero, List.set_cons_succ])
      (refine wpAnyH_take (i := 7) (oi := _) (v := ?_) rfl (by kernel_rfl) (by kernel_rfl) (by kernel_rfl) (fun _ _ _ h => h) (Or.inl ⟨by rfl, ?_⟩) (by assumption) ?_; rotate_left 1; focus (intro w hSw; go_simp; try with_reducible rfl); (try simp only [List.getElem_toArray, List.getElem_cons_succ, List.getElem_cons_zero, Act.put, List.setIfInBounds_toArray, List.set_cons_zero, List.set_cons_succ]))
      refine wpAnyH_done (by kernel_rfl) ?_ _
      (try simp only [List.getElem_toArray, List.getElem_cons_succ, List.getElem_cons_zero, Act.put, List.setIfInBounds_toArray, List.set_cons_zero, List.set_cons_succ])
      have F : lk _ w1.heap.size = _ ∧ W.heap.size ≤ w1.heap.size ∧ Below W.heap.size W _ := ⟨Y5, hg5, bb⟩
      generalize World.setRow (World.alloc w1 _) _ _ = W5 at F ⊢
      generalize w1.heap.size = g5 at F ⊢
      revert F; revert g5 W5
      exact key.out
    · rw [if_pos (by rfl)]
      refine wp_alloc_cpu rfl ?_
      have Y5 : lk (W.drew.alloc (.cells (cw Z25).toArray 32)) W.heap.size = some (.cells (cw Z25).toArray 32 (0, 0)) := by rw [look_alloc]; exact if_pos rfl
      have hg5 : W.heap.size ≤ W.heap.size := Nat.le_refl _
      replace bb := bb.alloc hg5 (.cells (cw Z25).toArray 32)
      have hs5 : W.heap.size < (W.drew.alloc (.cells (cw Z25).toArray 32)).heap.size := by simp
      (try dsimp only)
      refine hK.out _ _ ?_ (fun hHeld => ?_)
      · exact ⟨range_on hrg bb (by omega), cell_on hcm bb⟩
      clear hK K
      (try simp only [List.getElem_toArray, List.getElem_cons_succ, List.getElem_cons_zero, Act.put, List.setIfInBounds_toArray, List.set_cons_zero, List.set_cons_succ])
      refine wpAnyH_ready (rs := [1]) (by kernel_rfl) (by simp) ?_
      refine AllReadyH.cons (o := _) rfl (fun K hK => ?_) AllReadyH.nil
      rw [if_pos (by rfl)]
      go_simp
      refine (HA.out _).mono ?_
      rintro e w1 ⟨rfl, hb1⟩
      replace Y5 := look_on Y5 hb1 hs5
      replace bb := below_step bb hb1
      (try dsimp only)
      refine hK.out _ _ ?_ (fun hHeld => ?_)
      · exact ⟨range_on hrg bb (by omega), cell_on hcm bb⟩
      clear hK K hb1 hs5
      (try simp only [List.getElem_toArray, List.getElem_cons_succ, List.getElem_cons_zero, Act.put, List.setIfInBounds_toArray, List.set_cons_zero, List.set_cons_succ])
      refine wpAnyH_ready (rs := [6]) (by kernel_rfl) (by simp) ?_
      refine AllReadyH.cons (o := _) rfl (fun K hK => ?_) AllReadyH.nil
      rw [if_pos (by rfl)]
      refine wp_store_cpu _ _ rfl _ rfl rfl hAL Y5 Z25_len ?_
      replace Y5 := lk_row (M := advL L) Y5
      replace bb := below_setRow bb _ hg5 (cw (advL L)).toArray
      (try dsimp only)
      refine hK.out _ _ ?_ (fun hHeld => ?_)
      · exact ⟨range_on hrg bb (by omega), cell_on hcm bb⟩
      clear hK K
      (try simp only [List.getElem_toArray, List.getElem_cons_succ, List.getElem_cons_zero, Act.put, List.setIfInBounds_toArray, List.set_cons_zero, List.set_cons_succ])
      (refine wpAnyH_take (i := 7) (oi := _) (v := ?_) rfl (by kernel_rfl) (by kernel_rfl) (by kernel_rfl) (fun _ _ _ h => h) (Or.inl ⟨by rfl, ?_⟩) (by assumption) ?_; rotate_left 1; focus (intro w hSw; go_simp; try with_reducible rfl); (try simp only [List.getElem_toArray, List.getElem_cons_succ, List.getElem_cons_zero, Act.put, List.setIfInBounds_toArray, List.set_cons_zero, List.set_cons_succ]))
      refine wpAnyH_done (by kernel_rfl) ?_ _
      (try simp only [List.getElem_toArray, List.getElem_cons_succ, List.getElem_cons_zero, Act.put, List.setIfInBounds_toArray, List.set_cons_zero, List.set_cons_succ])
      have F : lk _ W.heap.size = _ ∧ W.heap.size ≤ W.heap.size ∧ Below W.heap.size W _ := ⟨Y5, hg5, bb⟩
      generalize World.setRow w1 _ _ = W5 at F ⊢
      generalize hgg : W.heap.size = g5
      have F' : lk W5 g5 = some (.cells (cw (advL L)).toArray 32 (0, 0)) ∧ W.heap.size ≤ g5 ∧ Below W.heap.size W W5 := ⟨by rw [← hgg]; exact F.1, by rw [← hgg]; exact Nat.le_refl _, F.2.2⟩
      clear hgg F
      revert F'; revert g5 W5
      exact key.out
  case kp =>
    show ∀ (W5 : World) (g5 : Nat), _
    intro W5 g5 ⟨Y5, hg5, bW⟩
    have Y2 := look_on X2 bW (by omega)
    have Y3 := look_on X3 bW (by omega)
    have Y4 := look_on X4 bW (by omega)
    have hW5 : g5 < W5.heap.size := by
      have := Y5
      unfold lk at this
      exact (Array.getElem?_eq_some_iff.1 this).1
    have HB5 : Below w.heap.size w W5 := below_step HB bW
    clear X2 X3 X4 bW hrg hcm bb HA hHeld
    have C2 : ∀ k : Nat, k < 25 → W5.cell? ⟨w.heap.size, k, none⟩ = some (.int .u32 (wd L k)) := fun k hk => (cell_lk Y2 k).trans (by simpa using cw_at hLL hk)
    have C5 : ∀ k : Nat, k < 25 → W5.cell? ⟨g5, k, none⟩ = some (.int .u32 (wd (advL L) k)) := fun k hk => (cell_lk Y5 k).trans (by simpa using cw_at hAL hk)
    have c0 : W5.cell? ⟨w.heap.size + 1, 0, none⟩ = _ := cell_lk Y3 0
    have c1 : W5.cell? ⟨w.heap.size + 1, 1, none⟩ = _ := cell_lk Y3 1
    have c2 : W5.cell? ⟨w.heap.size + 1, 2, none⟩ = _ := cell_lk Y3 2
    have c3 : W5.cell? ⟨w.heap.size + 1, 3, none⟩ = _ := cell_lk Y3 3
    have c4 : W5.cell? ⟨w.heap.size + 1, 4, none⟩ = _ := cell_lk Y3 4
    simp at c0 c1 c2 c3 c4
    have cm := C2 b (by omega)
    repeat' (first
      | (with_reducible refine then_normal ?_) | (with_reducible refine wp_exit ?_) | (with_reducible refine wp_ret ?_) | (with_reducible refine then_exit ?_) | (with_reducible refine blk_hit ?_) | (with_reducible refine blk_pass (by decide) ?_) | (with_reducible refine then_ret ?_) | (with_reducible refine blk_ret ?_) | (with_reducible refine blk_normal ?_)
      | (refine wpList_load_look rfl _ rfl _ rfl (fun ob hob => ?_); (first | rw [Y5] at hob | rw [Y2] at hob); subst hob; refine ⟨_, rfl, by assumption, ?_⟩; simp only [Act.put, List.setIfInBounds_toArray, List.set_cons_zero, List.set_cons_succ])
      | go_values | go_skip | go_guarded | go_step | go_upon | (simp only [Int.not_lt, Int.not_le] at *; go_simp) | (go_values <;> (try go_simp)) | (go_ite <;> go_prune <;> (try go_simp)))
    obtain ⟨fI, huI⟩ := undInst5
    have hiI : (Tryd.prog.info? 27).map (·.size) = some ([.int .i64 o, .int .i64 (a : Int), .int .i64 (b : Int), .int .i64 (c : Int), .int .i32 m] : List Value).length := infInst5
    have hr2 : W5.rangeAt w.heap.size 0 (cw L) := range_lk5 Y2
    have hr3 : W5.rangeAt (w.heap.size + 1) 0 [.int .i64 o, .int .i64 (a : Int), .int .i64 (b : Int), .int .i64 (c : Int), .int .i32 m] := range_lk5 Y3
    have bb : Below W5.heap.size W5 W5.drew := (Below.refl _ _).drew
    unfold cpV at HLO
    refine wp_region_held_drew (S := fun w' => w'.rangeAt w.heap.size 0 (cw L) ∧ w'.rangeAt (w.heap.size + 1) 0 [.int .i64 o, .int .i64 (a : Int), .int .i64 (b : Int), .int .i64 (c : Int), .int .i32 m] ∧ w'.cell? ⟨w.heap.size + 1, 0, none⟩ = some (.int .i64 o) ∧ w'.cell? ⟨w.heap.size + 1, 2, none⟩ = some (.int .i64 (b : Int)) ∧ w'.cell? ⟨w.heap.size, b, none⟩ = some (.int .u32 (wd L b))) (by kernel_rfl) ⟨range_on hr2 bb (by omega), range_on hr3 bb (by omega), cell_on c0 bb, cell_on c2 bb, cell_on cm bb⟩ (fun hHeld => ?_)
    (refine' wpAnyH_take (i := 7) (oi := _) (v := _) rfl (by kernel_rfl) (by kernel_rfl) (by kernel_rfl) (fun _ _ _ h => h) (yieldsIf_load_mid (by rfl) _ _ rfl _ 0 rfl (cw L) _ (fun w hw => hw.1) hu rfl hi) (by assumption) ?_; (try simp only [List.getElem_toArray, List.getElem_cons_succ, List.getElem_cons_zero, Act.put, List.setIfInBounds_toArray, List.set_cons_zero, List.set_cons_succ]))
    (refine' wpAnyH_take (i := 8) (oi := _) (v := _) rfl (by kernel_rfl) (by kernel_rfl) (by kernel_rfl) (fun _ _ _ h => h) (yieldsIf_load_mid (by rfl) _ _ rfl _ 0 rfl [.int .i64 o, .int .i64 (a : Int), .int .i64 (b : Int), .int .i64 (c : Int), .int .i32 m] _ (fun w hw => hw.2.1) huI rfl hiI) (by assumption) ?_; (try simp only [List.getElem_toArray, List.getElem_cons_succ, List.getElem_cons_zero, Act.put, List.setIfInBounds_toArray, List.set_cons_zero, List.set_cons_succ]))
    (refine wpAnyH_take (i := 0) (oi := _) (v := ?_) rfl (by kernel_rfl) (by kernel_rfl) (by kernel_rfl) (fun _ _ _ h => h) (Or.inl ⟨by rfl, ?_⟩) (by assumption) ?_; rotate_left 1; focus (intro w hSw; go_simp; try with_reducible rfl); (try simp only [List.getElem_toArray, List.getElem_cons_succ, List.getElem_cons_zero, Act.put, List.setIfInBounds_toArray, List.set_cons_zero, List.set_cons_succ]))
    (refine wpAnyH_take (i := 1) (oi := _) (v := ?_) rfl (by kernel_rfl) (by kernel_rfl) (by kernel_rfl) (fun _ _ _ h => h) (Or.inl ⟨by rfl, ?_⟩) (by assumption) ?_; rotate_left 1; focus (rintro w ⟨-, -, hS1, hS2, hS3⟩; go_simp; try with_reducible rfl); (try simp only [List.getElem_toArray, List.getElem_cons_succ, List.getElem_cons_zero, Act.put, List.setIfInBounds_toArray, List.set_cons_zero, List.set_cons_succ]))
    (refine wpAnyH_take (i := 2) (oi := _) (v := ?_) rfl (by kernel_rfl) (by kernel_rfl) (by kernel_rfl) (fun _ _ _ h => h) (Or.inl ⟨by rfl, ?_⟩) (by assumption) ?_; rotate_left 1; focus (intro w hSw; go_simp; try with_reducible rfl); (try simp only [List.getElem_toArray, List.getElem_cons_succ, List.getElem_cons_zero, Act.put, List.setIfInBounds_toArray, List.set_cons_zero, List.set_cons_succ]))
    (refine wpAnyH_take (i := 3) (oi := _) (v := ?_) rfl (by kernel_rfl) (by kernel_rfl) (by kernel_rfl) (fun _ _ _ h => h) (Or.inl ⟨by rfl, ?_⟩) (by assumption) ?_; rotate_left 1; focus (rintro w ⟨-, -, hS1, hS2, hS3⟩; go_simp; try with_reducible rfl); (try simp only [List.getElem_toArray, List.getElem_cons_succ, List.getElem_cons_zero, Act.put, List.setIfInBounds_toArray, List.set_cons_zero, List.set_cons_succ]))
    (refine wpAnyH_take (i := 4) (oi := _) (v := ?_) rfl (by kernel_rfl) (by kernel_rfl) (by kernel_rfl) (fun _ _ _ h => h) (Or.inl ⟨by rfl, ?_⟩) (by assumption) ?_; rotate_left 1; focus (intro w hSw; go_simp; try with_reducible rfl); (try simp only [List.getElem_toArray, List.getElem_cons_succ, List.getElem_cons_zero, Act.put, List.setIfInBounds_toArray, List.set_cons_zero, List.set_cons_succ]))
    (refine wpAnyH_take (i := 5) (oi := _) (v := ?_) rfl (by kernel_rfl) (by kernel_rfl) (by kernel_rfl) (fun _ _ _ h => h) (Or.inl ⟨by rfl, ?_⟩) (by assumption) ?_; rotate_left 1; focus (intro w hSw; go_simp; try with_reducible rfl); (try simp only [List.getElem_toArray, List.getElem_cons_succ, List.getElem_cons_zero, Act.put, List.setIfInBounds_toArray, List.set_cons_zero, List.set_cons_succ]))
    (refine wpAnyH_take (i := 6) (oi := _) (v := ?_) rfl (by kernel_rfl) (by kernel_rfl) (by kernel_rfl) (fun _ _ _ h => h) (Or.inl ⟨by rfl, ?_⟩) (by assumption) ?_; rotate_left 1; focus (rintro w ⟨-, -, hS1, hS2, hS3⟩; go_simp; try with_reducible rfl); (try simp only [List.getElem_toArray, List.getElem_cons_succ, List.getElem_cons_zero, Act.put, List.setIfInBounds_toArray, List.set_cons_zero, List.set_cons_succ]))
    (refine wpAnyH_ready (rs := [9]) (by kernel_rfl) (by simp) ?_; refine AllReadyH.cons (o := _) rfl (fun K hK => ?_) AllReadyH.nil; rw [if_pos (by rfl)])
    go_simp
    refine (HLO.out _).mono ?_
    rintro e w6 ⟨rfl, hb6⟩
    replace bb := below_step bb hb6
    (try dsimp only); refine hK.out _ _ (by exact ⟨range_on hr2 bb (by omega), range_on hr3 bb (by omega), cell_on c0 bb, cell_on c2 bb, cell_on cm bb⟩) (fun hHeld => ?_); clear hK K; (try simp only [List.getElem_toArray, List.getElem_cons_succ, List.getElem_cons_zero, Act.put, List.setIfInBounds_toArray, List.set_cons_zero, List.set_cons_succ])
    (refine wpAnyH_ready (rs := [10]) (by kernel_rfl) (by simp) ?_; refine AllReadyH.cons (o := _) rfl (fun K hK => ?_) AllReadyH.nil; rw [if_pos (by rfl)])
    go_simp
    refine (HAL.out _).mono ?_
    rintro e w7 ⟨rfl, m7, rfl⟩
    replace bb := below_drewN bb m7
    clear hb6
    (try dsimp only); refine hK.out _ _ (by exact ⟨range_on hr2 bb (by omega), range_on hr3 bb (by omega), cell_on c0 bb, cell_on c2 bb, cell_on cm bb⟩) (fun hHeld => ?_); clear hK K; (try simp only [List.getElem_toArray, List.getElem_cons_succ, List.getElem_cons_zero, Act.put, List.setIfInBounds_toArray, List.set_cons_zero, List.set_cons_succ])
    (refine wpAnyH_take (i := 11) (oi := _) (v := ?_) rfl (by kernel_rfl) (by kernel_rfl) (by kernel_rfl) (fun _ _ _ h => h) (Or.inl ⟨by rfl, ?_⟩) (by assumption) ?_; rotate_left 1; focus (intro w hSw; go_simp; try with_reducible rfl); (try simp only [List.getElem_toArray, List.getElem_cons_succ, List.getElem_cons_zero, Act.put, List.setIfInBounds_toArray, List.set_cons_zero, List.set_cons_succ]))
    (refine wpAnyH_take (i := 12) (oi := _) (v := ?_) rfl (by kernel_rfl) (by kernel_rfl) (by kernel_rfl) (fun _ _ _ h => h) (Or.inl ⟨by rfl, ?_⟩) (by assumption) ?_; rotate_left 1; focus (intro w hSw; go_simp; try with_reducible rfl); (try simp only [List.getElem_toArray, List.getElem_cons_succ, List.getElem_cons_zero, Act.put, List.setIfInBounds_toArray, List.set_cons_zero, List.set_cons_succ]))
    (refine wpAnyH_take (i := 13) (oi := _) (v := ?_) rfl (by kernel_rfl) (by kernel_rfl) (by kernel_rfl) (fun _ _ _ h => h) (Or.inl ⟨by rfl, ?_⟩) (by assumption) ?_; rotate_left 1; focus (intro w hSw; go_simp; try with_reducible rfl); (try simp only [List.getElem_toArray, List.getElem_cons_succ, List.getElem_cons_zero, Act.put, List.setIfInBounds_toArray, List.set_cons_zero, List.set_cons_succ]))
    (refine wpAnyH_take (i := 14) (oi := _) (v := ?_) rfl (by kernel_rfl) (by kernel_rfl) (by kernel_rfl) (fun _ _ _ h => h) (Or.inl ⟨by rfl, ?_⟩) (by assumption) ?_; rotate_left 1; focus (intro w hSw; go_simp; try with_reducible rfl); (try simp only [List.getElem_toArray, List.getElem_cons_succ, List.getElem_cons_zero, Act.put, List.setIfInBounds_toArray, List.set_cons_zero, List.set_cons_succ]))
    (refine wpAnyH_take (i := 15) (oi := _) (v := ?_) rfl (by kernel_rfl) (by kernel_rfl) (by kernel_rfl) (fun _ _ _ h => h) (Or.inl ⟨by rfl, ?_⟩) (by assumption) ?_; rotate_left 1; focus (intro w hSw; go_simp; try with_reducible rfl); (try simp only [List.getElem_toArray, List.getElem_cons_succ, List.getElem_cons_zero, Act.put, List.setIfInBounds_toArray, List.set_cons_zero, List.set_cons_succ]))
    refine wpAnyH_done (by kernel_rfl) ?_ _
    (try simp only [List.getElem_toArray, List.getElem_cons_succ, List.getElem_cons_zero, Act.put, List.setIfInBounds_toArray, List.set_cons_zero, List.set_cons_succ])
    replace c1 := cell_on c1 bb
    replace Y5 := look_on Y5 bb hW5
    replace Y4 := look_on Y4 bb (by omega)
    replace HB5 := below_step HB5 bb
    have hWW := bb.size
    clear hr2 hr3 hHeld c0 c2 c3 c4 cm C2 C5 Y2 Y3 bb
    generalize w6.drewN m7 = W6 at *
    repeat' (first
      | (with_reducible refine then_normal ?_) | (with_reducible refine wp_exit ?_) | (with_reducible refine wp_ret ?_) | (with_reducible refine then_exit ?_) | (with_reducible refine blk_hit ?_) | (with_reducible refine blk_pass (by decide) ?_) | (with_reducible refine then_ret ?_) | (with_reducible refine blk_ret ?_) | (with_reducible refine blk_normal ?_)
      | (refine wpList_load_look rfl _ rfl _ rfl (fun ob hob => ?_); (first | rw [Y5] at hob | rw [Y2] at hob); subst hob; refine ⟨_, rfl, by assumption, ?_⟩; simp only [Act.put, List.setIfInBounds_toArray, List.set_cons_zero, List.set_cons_succ])
      | go_values | go_skip | go_guarded | go_step | go_upon | (simp only [Int.not_lt, Int.not_le] at *; go_simp) | (go_values <;> (try go_simp)) | (go_ite <;> go_prune <;> (try go_simp)))
    refine (HS.out _ _).mono ?_
    rintro e w8 ⟨rfl, hb8⟩
    have Z4 := look_on Y4 hb8 (by omega)
    have HB6 := below_step HB5 hb8
    clear hb8
    generalize hR : setL (advL L) _ _ = R at *
    repeat' (first
      | (with_reducible refine then_normal ?_) | (with_reducible refine wp_exit ?_) | (with_reducible refine wp_ret ?_) | (with_reducible refine then_exit ?_) | (with_reducible refine blk_hit ?_) | (with_reducible refine blk_pass (by decide) ?_) | (with_reducible refine then_ret ?_) | (with_reducible refine blk_ret ?_) | (with_reducible refine blk_normal ?_)
      | (refine wpList_store_look rfl _ _ rfl _ rfl rfl hRL (fun ob hob => by (rw [Z4] at hob; subst hob; exact ⟨_, rfl, Z25_len⟩)) (fun w2 hw2 => ?_); subst hw2; simp only [Act.put, List.setIfInBounds_toArray, List.set_cons_zero, List.set_cons_succ])
      | go_values | go_skip | go_guarded | go_step | go_upon | (simp only [Int.not_lt, Int.not_le] at *; go_simp) | (go_values <;> (try go_simp)) | (go_ite <;> go_prune <;> (try go_simp)))
    exact bodyPost_ret (v := cpV R) (results_cpu rfl _ _ (w.heap.size + 2) rfl hRL (lk_row Z4)) rfl ⟨by rw [hR], below_setRow HB6 _ (by omega) _⟩
set_option maxHeartbeats 600000 in
theorem step_none (L : List Int) (o m : Int) (a b c : Nat) (w : World) (hL : C25 L) (a1 : a < 16) (b1 : b < 16) (c1' : c < 16) (m0 : -32768 ≤ m) (m1 : m ≤ 65535) (ho : ¬ o = 24 ∧ ¬ (40 ≤ o ∧ o ≤ 45) ∧ ¬ o = 48 ∧ ¬ o = 49 ∧ ¬ (56 ≤ o ∧ o ≤ 59)) (hB : aluB o = false) :
    Calls Tryd.prog 27 #[cpV L, instV o a b c m] w fun e w' => e = .returned (cpV (advL L)) ∧ Below w.heap.size w w' := by
  have hLL := hL.1
  have hb0 : (0 : Int) ≤ b := by omega
  have hb1 : (b : Int) < 16 := by omega
  have hb25 : b < 25 := by omega
  have HA := Lib.hid (fun W => advance_any L W hL)
  have HS := Lib.hid (fun v W => setReg_any (advL L) a v W hL.adv a1)
  have HLO := Lib.hid (fun W => last_any L o a b c m c W hL rfl c1' m0 m1)
  have hlo : 0 ≤ (if o ≤ 13 then wd L c else m % 4294967296) ∧ (if o ≤ 13 then wd L c else m % 4294967296) ≤ 4294967295 := by
    split
    · exact hL.bd c
    · omega
  have HAL := Lib.hid (fun W => alu_any o (wd L b) (if o ≤ 13 then wd L c else m % 4294967296) W (hL.bd b).1 (hL.bd b).2 hlo.1 hlo.2)
  have hV : 0 ≤ aluV o (wd L b) (if o ≤ 13 then wd L c else m % 4294967296) ∧ aluV o (wd L b) (if o ≤ 13 then wd L c else m % 4294967296) ≤ 4294967295 := aluV_bd o _ _ (hL.bd b).1 (hL.bd b).2 hlo.1 hlo.2
  unfold AluPost at HAL
  rw [hB] at HAL
  generalize aluV o (wd L b) (if o ≤ 13 then wd L c else m % 4294967296) = V at *
  generalize (if o ≤ 13 then wd L c else m % 4294967296) = lo at *
  have hRL := (hL.adv.setL a (v := V) hV.1 hV.2).1
  have n24 : (o == 24) = false := by rw [beq_eq_false_iff_ne]; omega
  have n40 : (o == 40) = false := by rw [beq_eq_false_iff_ne]; omega
  have n41 : (o == 41) = false := by rw [beq_eq_false_iff_ne]; omega
  have n42 : (o == 42) = false := by rw [beq_eq_false_iff_ne]; omega
  have n43 : (o == 43) = false := by rw [beq_eq_false_iff_ne]; omega
  have n44 : (o == 44) = false := by rw [beq_eq_false_iff_ne]; omega
  have n45 : (o == 45) = false := by rw [beq_eq_false_iff_ne]; omega
  have n48 : (o == 48) = false := by rw [beq_eq_false_iff_ne]; omega
  have n49 : (o == 49) = false := by rw [beq_eq_false_iff_ne]; omega
  have n56 : (o == 56) = false := by rw [beq_eq_false_iff_ne]; omega
  have n57 : (o == 57) = false := by rw [beq_eq_false_iff_ne]; omega
  have n58 : (o == 58) = false := by rw [beq_eq_false_iff_ne]; omega
  have n59 : (o == 59) = false := by rw [beq_eq_false_iff_ne]; omega
  clear ho hB
  unfold instV at HLO ⊢
  obtain ⟨F1, F2, F3, -⟩ := cw_facts
  go_enter Tryd.func27, Tryd.ntmps27
  go_wp2_with (first
    | (refine wpList_box_box rfl _ rfl rfl ?_; simp only [Act.put, List.setIfInBounds_toArray, List.set_cons_zero, List.set_cons_succ])
    | (refine wpList_alloc_box rfl rfl ?_; simp only [Act.put, List.setIfInBounds_toArray, List.set_cons_zero, List.set_cons_succ]))
  generalize hW : World.alloc (World.alloc (World.alloc w _) _) _ = W
  have X2 : lk W w.heap.size = some (.cells (cw L).toArray 32 (0, 0)) := by rw [← hW]; simp [look_alloc] <;> omega
  have X3 : lk W (w.heap.size + 1) = some (.cells #[.int .i64 o, .int .i64 a, .int .i64 b, .int .i64 c, .int .i32 m] 27 (0, 0)) := by rw [← hW]; simp [look_alloc]
  have X4 : lk W (w.heap.size + 2) = some (.cells (cw Z25).toArray 32 (0, 0)) := by rw [← hW]; simp [look_alloc]
  have HB : Below w.heap.size w W := by rw [← hW]; (repeat' (first | with_reducible exact Below.refl _ _ | with_reducible assumption | with_reducible apply below_drewN | with_reducible apply Below.drew | with_reducible apply Below.setCell | with_reducible apply Below.alloc | (simp; done) | omega | (simp; omega)))
  have hsz : w.heap.size + 2 < W.heap.size := by rw [← hW]; simp
  clear hW
  obtain ⟨fs, hu⟩ := undCpu
  have hi : (Tryd.prog.info? 32).map (·.size) = some (cw L).length := by rw [cw_len hLL]; exact infCpu
  have hrg : W.rangeAt w.heap.size 0 (cw L) := fun j u hu => by rw [Nat.zero_add]; exact (cell_lk X2 j).trans (by simpa using hu)
  have hcm : W.cell? ⟨w.heap.size + 1, 4, none⟩ = some (.int .i32 m) := cell_lk X3 4
  have bb : Below W.heap.size W W.drew := (Below.refl _ _).drew
  unfold cpV at HA
  refine wp_region_held_drew (S := fun w' => w'.rangeAt w.heap.size 0 (cw L) ∧ w'.cell? ⟨w.heap.size + 1, 4, none⟩ = some (.int .i32 m)) (by kernel_rfl) ⟨range_on hrg bb (by omega), cell_on hcm bb⟩ (fun hHeld => ?_)
  (refine' wpAnyH_take (i := 0) (oi := _) (v := _) rfl (by kernel_rfl) (by kernel_rfl) (by kernel_rfl) (fun _ _ _ h => h) (yieldsIf_load_mid (by rfl) _ _ rfl _ 0 rfl (cw L) _ (fun w hw => hw.1) hu rfl hi) (by assumption) ?_; (try simp only [List.getElem_toArray, List.getElem_cons_succ, List.getElem_cons_zero, Act.put, List.setIfInBounds_toArray, List.set_cons_zero, List.set_cons_succ]))
  (refine wpAnyH_take (i := 2) (oi := _) (v := ?_) rfl (by kernel_rfl) (by kernel_rfl) (by kernel_rfl) (fun _ _ _ h => h) (Or.inl ⟨by rfl, ?_⟩) (by assumption) ?_; rotate_left 1; focus (intro w hSw; go_simp; try with_reducible rfl); (try simp only [List.getElem_toArray, List.getElem_cons_succ, List.getElem_cons_zero, Act.put, List.setIfInBounds_toArray, List.set_cons_zero, List.set_cons_succ]))
  (refine wpAnyH_take (i := 3) (oi := _) (v := ?_) rfl (by kernel_rfl) (by kernel_rfl) (by kernel_rfl) (fun _ _ _ h => h) (Or.inl ⟨by rfl, ?_⟩) (by assumption) ?_; rotate_left 1; focus (rintro w ⟨-, hSw⟩; go_simp; try with_reducible rfl); (try simp only [List.getElem_toArray, List.getElem_cons_succ, List.getElem_cons_zero, Act.put, List.setIfInBounds_toArray, List.set_cons_zero, List.set_cons_succ]))
  (refine wpAnyH_take (i := 4) (oi := _) (v := ?_) rfl (by kernel_rfl) (by kernel_rfl) (by kernel_rfl) (fun _ _ _ h => h) (Or.inl ⟨by rfl, ?_⟩) (by assumption) ?_; rotate_left 1; focus (intro w hSw; go_simp; try with_reducible rfl); (try simp only [List.getElem_toArray, List.getElem_cons_succ, List.getElem_cons_zero, Act.put, List.setIfInBounds_toArray, List.set_cons_zero, List.set_cons_succ]))
  have hAL := hL.adv.1
  refine (fun (key : Hid ?T) => ?main) ?kp
  case main =>
    refine wpAnyH_ready (rs := [1, 5]) (by kernel_rfl) (by simp) ?_
    refine AllReadyH.cons (o := _) rfl (fun K hK => ?_) (AllReadyH.cons (o := _) rfl (fun K hK => ?_) AllReadyH.nil)
    · rw [if_pos (by rfl)]
      go_simp
      refine (HA.out _).mono ?_
      rintro e w1 ⟨rfl, hb1⟩
      replace bb := below_step bb hb1
      (try dsimp only)
      refine hK.out _ _ ?_ (fun hHeld => ?_)
      · exact ⟨range_on hrg bb (by omega), cell_on hcm bb⟩
      clear hK K hb1
      (try simp only [List.getElem_toArray, List.getElem_cons_succ, List.getElem_cons_zero, Act.put, List.setIfInBounds_toArray, List.set_cons_zero, List.set_cons_succ])
      refine wpAnyH_ready (rs := [5]) (by kernel_rfl) (by simp) ?_
      refine AllReadyH.cons (o := _) rfl (fun K hK => ?_) AllReadyH.nil
      rw [if_pos (by rfl)]
      refine wp_alloc_cpu rfl ?_
      have hsz1 := bb.size
      replace bb := bb.alloc hsz1 (.cells (cw Z25).toArray 32)
      (try dsimp only)
      refine hK.out _ _ ?_ (fun hHeld => ?_)
      · exact ⟨range_on hrg bb (by omega), cell_on hcm bb⟩
      clear hK K
      (try simp only [List.getElem_toArray, List.getElem_cons_succ, List.getElem_cons_zero, Act.put, List.setIfInBounds_toArray, List.set_cons_zero, List.set_cons_succ])
      have Y5 : lk (w1.alloc (.cells (cw Z25).toArray 32)) w1.heap.size = some (.cells (cw Z25).toArray 32 (0, 0)) := by rw [look_alloc, if_pos rfl]
      have hg5 := hsz1
      refine wpAnyH_ready (rs := [6]) (by kernel_rfl) (by simp) ?_
      refine AllReadyH.cons (o := _) rfl (fun K hK => ?_) AllReadyH.nil
      rw [if_pos (by rfl)]
      refine wp_store_cpu _ _ rfl _ rfl rfl hAL Y5 Z25_len ?_
      replace Y5 := lk_row (M := advL L) Y5
      replace bb := below_setRow bb _ hg5 (cw (advL L)).toArray
      (try dsimp only)
      refine hK.out _ _ ?_ (fun hHeld => ?_)
      · exact ⟨range_on hrg bb (by omega), cell_on hcm bb⟩
      clear hK K
      (try simp only [List.getElem_toArray, List.getElem_cons_succ, List.getElem_cons_zero, Act.put, List.setIfInBounds_toArray, List.set_cons_zero, List.set_cons_succ])
      (refine wpAnyH_take (i := 7) (oi := _) (v := ?_) rfl (by kernel_rfl) (by kernel_rfl) (by kernel_rfl) (fun _ _ _ h => h) (Or.inl ⟨by rfl, ?_⟩) (by assumption) ?_; rotate_left 1; focus (intro w hSw; go_simp; try with_reducible rfl); (try simp only [List.getElem_toArray, List.getElem_cons_succ, List.getElem_cons_zero, Act.put, List.setIfInBounds_toArray, List.set_cons_zero, List.set_cons_succ]))
      refine wpAnyH_done (by kernel_rfl) ?_ _
      (try simp only [List.getElem_toArray, List.getElem_cons_succ, List.getElem_cons_zero, Act.put, List.setIfInBounds_toArray, List.set_cons_zero, List.set_cons_succ])
      have F : lk _ w1.heap.size = _ ∧ W.heap.size ≤ w1.heap.size ∧ Below W.heap.size W _ := ⟨Y5, hg5, bb⟩
      generalize World.setRow (World.alloc w1 _) _ _ = W5 at F ⊢
      generalize w1.heap.size = g5 at F ⊢
      revert F; revert g5 W5
      exact key.out
    · rw [if_pos (by rfl)]
      refine wp_alloc_cpu rfl ?_
      have Y5 : lk (W.drew.alloc (.cells (cw Z25).toArray 32)) W.heap.size = some (.cells (cw Z25).toArray 32 (0, 0)) := by rw [look_alloc]; exact if_pos rfl
      have hg5 : W.heap.size ≤ W.heap.size := Nat.le_refl _
      replace bb := bb.alloc hg5 (.cells (cw Z25).toArray 32)
      have hs5 : W.heap.size < (W.drew.alloc (.cells (cw Z25).toArray 32)).heap.size := by simp
      (try dsimp only)
      refine hK.out _ _ ?_ (fun hHeld => ?_)
      · exact ⟨range_on hrg bb (by omega), cell_on hcm bb⟩
      clear hK K
      (try simp only [List.getElem_toArray, List.getElem_cons_succ, List.getElem_cons_zero, Act.put, List.setIfInBounds_toArray, List.set_cons_zero, List.set_cons_succ])
      refine wpAnyH_ready (rs := [1]) (by kernel_rfl) (by simp) ?_
      refine AllReadyH.cons (o := _) rfl (fun K hK => ?_) AllReadyH.nil
      rw [if_pos (by rfl)]
      go_simp
      refine (HA.out _).mono ?_
      rintro e w1 ⟨rfl, hb1⟩
      replace Y5 := look_on Y5 hb1 hs5
      replace bb := below_step bb hb1
      (try dsimp only)
      refine hK.out _ _ ?_ (fun hHeld => ?_)
      · exact ⟨range_on hrg bb (by omega), cell_on hcm bb⟩
      clear hK K hb1 hs5
      (try simp only [List.getElem_toArray, List.getElem_cons_succ, List.getElem_cons_zero, Act.put, List.setIfInBounds_toArray, List.set_cons_zero, List.set_cons_succ])
      refine wpAnyH_ready (rs := [6]) (by kernel_rfl) (by simp) ?_
      refine AllReadyH.cons (o := _) rfl (fun K hK => ?_) AllReadyH.nil
      rw [if_pos (by rfl)]
      refine wp_store_cpu _ _ rfl _ rfl rfl hAL Y5 Z25_len ?_
      replace Y5 := lk_row (M := advL L) Y5
      replace bb := below_setRow bb _ hg5 (cw (advL L)).toArray
      (try dsimp only)
      refine hK.out _ _ ?_ (fun hHeld => ?_)
      · exact ⟨range_on hrg bb (by omega), cell_on hcm bb⟩
      clear hK K
      (try simp only [List.getElem_toArray, List.getElem_cons_succ, List.getElem_cons_zero, Act.put, List.setIfInBounds_toArray, List.set_cons_zero, List.set_cons_succ])
      (refine wpAnyH_take (i := 7) (oi := _) (v := ?_) rfl (by kernel_rfl) (by kernel_rfl) (by kernel_rfl) (fun _ _ _ h => h) (Or.inl ⟨by rfl, ?_⟩) (by assumption) ?_; rotate_left 1; focus (intro w hSw; go_simp; try with_reducible rfl); (try simp only [List.getElem_toArray, List.getElem_cons_succ, List.getElem_cons_zero, Act.put, List.setIfInBounds_toArray, List.set_cons_zero, List.set_cons_succ]))
      refine wpAnyH_done (by kernel_rfl) ?_ _
      (try simp only [List.getElem_toArray, List.getElem_cons_succ, List.getElem_cons_zero, Act.put, List.setIfInBounds_toArray, List.set_cons_zero, List.set_cons_succ])
      have F : lk _ W.heap.size = _ ∧ W.heap.size ≤ W.heap.size ∧ Below W.heap.size W _ := ⟨Y5, hg5, bb⟩
      generalize World.setRow w1 _ _ = W5 at F ⊢
      generalize hgg : W.heap.size = g5
      have F' : lk W5 g5 = some (.cells (cw (advL L)).toArray 32 (0, 0)) ∧ W.heap.size ≤ g5 ∧ Below W.heap.size W W5 := ⟨by rw [← hgg]; exact F.1, by rw [← hgg]; exact Nat.le_refl _, F.2.2⟩
      clear hgg F
      revert F'; revert g5 W5
      exact key.out
  case kp =>
    show ∀ (W5 : World) (g5 : Nat), _
    intro W5 g5 ⟨Y5, hg5, bW⟩
    have Y2 := look_on X2 bW (by omega)
    have Y3 := look_on X3 bW (by omega)
    have Y4 := look_on X4 bW (by omega)
    have hW5 : g5 < W5.heap.size := by
      have := Y5
      unfold lk at this
      exact (Array.getElem?_eq_some_iff.1 this).1
    have HB5 : Below w.heap.size w W5 := below_step HB bW
    clear X2 X3 X4 bW hrg hcm bb HA hHeld
    have C2 : ∀ k : Nat, k < 25 → W5.cell? ⟨w.heap.size, k, none⟩ = some (.int .u32 (wd L k)) := fun k hk => (cell_lk Y2 k).trans (by simpa using cw_at hLL hk)
    have C5 : ∀ k : Nat, k < 25 → W5.cell? ⟨g5, k, none⟩ = some (.int .u32 (wd (advL L) k)) := fun k hk => (cell_lk Y5 k).trans (by simpa using cw_at hAL hk)
    have c0 : W5.cell? ⟨w.heap.size + 1, 0, none⟩ = _ := cell_lk Y3 0
    have c1 : W5.cell? ⟨w.heap.size + 1, 1, none⟩ = _ := cell_lk Y3 1
    have c2 : W5.cell? ⟨w.heap.size + 1, 2, none⟩ = _ := cell_lk Y3 2
    have c3 : W5.cell? ⟨w.heap.size + 1, 3, none⟩ = _ := cell_lk Y3 3
    have c4 : W5.cell? ⟨w.heap.size + 1, 4, none⟩ = _ := cell_lk Y3 4
    simp at c0 c1 c2 c3 c4
    have cm := C2 b (by omega)
    repeat' (first
      | (with_reducible refine then_normal ?_) | (with_reducible refine wp_exit ?_) | (with_reducible refine wp_ret ?_) | (with_reducible refine then_exit ?_) | (with_reducible refine blk_hit ?_) | (with_reducible refine blk_pass (by decide) ?_) | (with_reducible refine then_ret ?_) | (with_reducible refine blk_ret ?_) | (with_reducible refine blk_normal ?_)
      | (refine wpList_load_look rfl _ rfl _ rfl (fun ob hob => ?_); (first | rw [Y5] at hob | rw [Y2] at hob); subst hob; refine ⟨_, rfl, by assumption, ?_⟩; simp only [Act.put, List.setIfInBounds_toArray, List.set_cons_zero, List.set_cons_succ])
      | go_values | go_skip | go_guarded | go_step | go_upon | (simp only [Int.not_lt, Int.not_le] at *; go_simp) | (go_values <;> (try go_simp)) | (go_ite <;> go_prune <;> (try go_simp)))
    obtain ⟨fI, huI⟩ := undInst5
    have hiI : (Tryd.prog.info? 27).map (·.size) = some ([.int .i64 o, .int .i64 (a : Int), .int .i64 (b : Int), .int .i64 (c : Int), .int .i32 m] : List Value).length := infInst5
    have hr2 : W5.rangeAt w.heap.size 0 (cw L) := range_lk5 Y2
    have hr3 : W5.rangeAt (w.heap.size + 1) 0 [.int .i64 o, .int .i64 (a : Int), .int .i64 (b : Int), .int .i64 (c : Int), .int .i32 m] := range_lk5 Y3
    have bb : Below W5.heap.size W5 W5.drew := (Below.refl _ _).drew
    unfold cpV at HLO
    refine wp_region_held_drew (S := fun w' => w'.rangeAt w.heap.size 0 (cw L) ∧ w'.rangeAt (w.heap.size + 1) 0 [.int .i64 o, .int .i64 (a : Int), .int .i64 (b : Int), .int .i64 (c : Int), .int .i32 m] ∧ w'.cell? ⟨w.heap.size + 1, 0, none⟩ = some (.int .i64 o) ∧ w'.cell? ⟨w.heap.size + 1, 2, none⟩ = some (.int .i64 (b : Int)) ∧ w'.cell? ⟨w.heap.size, b, none⟩ = some (.int .u32 (wd L b))) (by kernel_rfl) ⟨range_on hr2 bb (by omega), range_on hr3 bb (by omega), cell_on c0 bb, cell_on c2 bb, cell_on cm bb⟩ (fun hHeld => ?_)
    (refine' wpAnyH_take (i := 7) (oi := _) (v := _) rfl (by kernel_rfl) (by kernel_rfl) (by kernel_rfl) (fun _ _ _ h => h) (yieldsIf_load_mid (by rfl) _ _ rfl _ 0 rfl (cw L) _ (fun w hw => hw.1) hu rfl hi) (by assumption) ?_; (try simp only [List.getElem_toArray, List.getElem_cons_succ, List.getElem_cons_zero, Act.put, List.setIfInBounds_toArray, List.set_cons_zero, List.set_cons_succ]))
    (refine' wpAnyH_take (i := 8) (oi := _) (v := _) rfl (by kernel_rfl) (by kernel_rfl) (by kernel_rfl) (fun _ _ _ h => h) (yieldsIf_load_mid (by rfl) _ _ rfl _ 0 rfl [.int .i64 o, .int .i64 (a : Int), .int .i64 (b : Int), .int .i64 (c : Int), .int .i32 m] _ (fun w hw => hw.2.1) huI rfl hiI) (by assumption) ?_; (try simp only [List.getElem_toArray, List.getElem_cons_succ, List.getElem_cons_zero, Act.put, List.setIfInBounds_toArray, List.set_cons_zero, List.set_cons_succ]))
    (refine wpAnyH_take (i := 0) (oi := _) (v := ?_) rfl (by kernel_rfl) (by kernel_rfl) (by kernel_rfl) (fun _ _ _ h => h) (Or.inl ⟨by rfl, ?_⟩) (by assumption) ?_; rotate_left 1; focus (intro w hSw; go_simp; try with_reducible rfl); (try simp only [List.getElem_toArray, List.getElem_cons_succ, List.getElem_cons_zero, Act.put, List.setIfInBounds_toArray, List.set_cons_zero, List.set_cons_succ]))
    (refine wpAnyH_take (i := 1) (oi := _) (v := ?_) rfl (by kernel_rfl) (by kernel_rfl) (by kernel_rfl) (fun _ _ _ h => h) (Or.inl ⟨by rfl, ?_⟩) (by assumption) ?_; rotate_left 1; focus (rintro w ⟨-, -, hS1, hS2, hS3⟩; go_simp; try with_reducible rfl); (try simp only [List.getElem_toArray, List.getElem_cons_succ, List.getElem_cons_zero, Act.put, List.setIfInBounds_toArray, List.set_cons_zero, List.set_cons_succ]))
    (refine wpAnyH_take (i := 2) (oi := _) (v := ?_) rfl (by kernel_rfl) (by kernel_rfl) (by kernel_rfl) (fun _ _ _ h => h) (Or.inl ⟨by rfl, ?_⟩) (by assumption) ?_; rotate_left 1; focus (intro w hSw; go_simp; try with_reducible rfl); (try simp only [List.getElem_toArray, List.getElem_cons_succ, List.getElem_cons_zero, Act.put, List.setIfInBounds_toArray, List.set_cons_zero, List.set_cons_succ]))
    (refine wpAnyH_take (i := 3) (oi := _) (v := ?_) rfl (by kernel_rfl) (by kernel_rfl) (by kernel_rfl) (fun _ _ _ h => h) (Or.inl ⟨by rfl, ?_⟩) (by assumption) ?_; rotate_left 1; focus (rintro w ⟨-, -, hS1, hS2, hS3⟩; go_simp; try with_reducible rfl); (try simp only [List.getElem_toArray, List.getElem_cons_succ, List.getElem_cons_zero, Act.put, List.setIfInBounds_toArray, List.set_cons_zero, List.set_cons_succ]))
    (refine wpAnyH_take (i := 4) (oi := _) (v := ?_) rfl (by kernel_rfl) (by kernel_rfl) (by kernel_rfl) (fun _ _ _ h => h) (Or.inl ⟨by rfl, ?_⟩) (by assumption) ?_; rotate_left 1; focus (intro w hSw; go_simp; try with_reducible rfl); (try simp only [List.getElem_toArray, List.getElem_cons_succ, List.getElem_cons_zero, Act.put, List.setIfInBounds_toArray, List.set_cons_zero, List.set_cons_succ]))
    (refine wpAnyH_take (i := 5) (oi := _) (v := ?_) rfl (by kernel_rfl) (by kernel_rfl) (by kernel_rfl) (fun _ _ _ h => h) (Or.inl ⟨by rfl, ?_⟩) (by assumption) ?_; rotate_left 1; focus (intro w hSw; go_simp; try with_reducible rfl); (try simp only [List.getElem_toArray, List.getElem_cons_succ, List.getElem_cons_zero, Act.put, List.setIfInBounds_toArray, List.set_cons_zero, List.set_cons_succ]))
    (refine wpAnyH_take (i := 6) (oi := _) (v := ?_) rfl (by kernel_rfl) (by kernel_rfl) (by kernel_rfl) (fun _ _ _ h => h) (Or.inl ⟨by rfl, ?_⟩) (by assumption) ?_; rotate_left 1; focus (rintro w ⟨-, -, hS1, hS2, hS3⟩; go_simp; try with_reducible rfl); (try simp only [List.getElem_toArray, List.getElem_cons_succ, List.getElem_cons_zero, Act.put, List.setIfInBounds_toArray, List.set_cons_zero, List.set_cons_succ]))
    (refine wpAnyH_ready (rs := [9]) (by kernel_rfl) (by simp) ?_; refine AllReadyH.cons (o := _) rfl (fun K hK => ?_) AllReadyH.nil; rw [if_pos (by rfl)])
    go_simp
    refine (HLO.out _).mono ?_
    rintro e w6 ⟨rfl, hb6⟩
    replace bb := below_step bb hb6
    (try dsimp only); refine hK.out _ _ (by exact ⟨range_on hr2 bb (by omega), range_on hr3 bb (by omega), cell_on c0 bb, cell_on c2 bb, cell_on cm bb⟩) (fun hHeld => ?_); clear hK K; (try simp only [List.getElem_toArray, List.getElem_cons_succ, List.getElem_cons_zero, Act.put, List.setIfInBounds_toArray, List.set_cons_zero, List.set_cons_succ])
    (refine wpAnyH_ready (rs := [10]) (by kernel_rfl) (by simp) ?_; refine AllReadyH.cons (o := _) rfl (fun K hK => ?_) AllReadyH.nil; rw [if_pos (by rfl)])
    go_simp
    refine (HAL.out _).mono ?_
    rintro e w7 ⟨rfl, m7, rfl⟩
    replace bb := below_drewN bb m7
    clear hb6
    (try dsimp only); refine hK.out _ _ (by exact ⟨range_on hr2 bb (by omega), range_on hr3 bb (by omega), cell_on c0 bb, cell_on c2 bb, cell_on cm bb⟩) (fun hHeld => ?_); clear hK K; (try simp only [List.getElem_toArray, List.getElem_cons_succ, List.getElem_cons_zero, Act.put, List.setIfInBounds_toArray, List.set_cons_zero, List.set_cons_succ])
    (refine wpAnyH_take (i := 11) (oi := _) (v := ?_) rfl (by kernel_rfl) (by kernel_rfl) (by kernel_rfl) (fun _ _ _ h => h) (Or.inl ⟨by rfl, ?_⟩) (by assumption) ?_; rotate_left 1; focus (intro w hSw; go_simp; try with_reducible rfl); (try simp only [List.getElem_toArray, List.getElem_cons_succ, List.getElem_cons_zero, Act.put, List.setIfInBounds_toArray, List.set_cons_zero, List.set_cons_succ]))
    (refine wpAnyH_take (i := 12) (oi := _) (v := ?_) rfl (by kernel_rfl) (by kernel_rfl) (by kernel_rfl) (fun _ _ _ h => h) (Or.inl ⟨by rfl, ?_⟩) (by assumption) ?_; rotate_left 1; focus (intro w hSw; go_simp; try with_reducible rfl); (try simp only [List.getElem_toArray, List.getElem_cons_succ, List.getElem_cons_zero, Act.put, List.setIfInBounds_toArray, List.set_cons_zero, List.set_cons_succ]))
    (refine wpAnyH_take (i := 13) (oi := _) (v := ?_) rfl (by kernel_rfl) (by kernel_rfl) (by kernel_rfl) (fun _ _ _ h => h) (Or.inl ⟨by rfl, ?_⟩) (by assumption) ?_; rotate_left 1; focus (intro w hSw; go_simp; try with_reducible rfl); (try simp only [List.getElem_toArray, List.getElem_cons_succ, List.getElem_cons_zero, Act.put, List.setIfInBounds_toArray, List.set_cons_zero, List.set_cons_succ]))
    (refine wpAnyH_take (i := 14) (oi := _) (v := ?_) rfl (by kernel_rfl) (by kernel_rfl) (by kernel_rfl) (fun _ _ _ h => h) (Or.inl ⟨by rfl, ?_⟩) (by assumption) ?_; rotate_left 1; focus (intro w hSw; go_simp; try with_reducible rfl); (try simp only [List.getElem_toArray, List.getElem_cons_succ, List.getElem_cons_zero, Act.put, List.setIfInBounds_toArray, List.set_cons_zero, List.set_cons_succ]))
    (refine wpAnyH_take (i := 15) (oi := _) (v := ?_) rfl (by kernel_rfl) (by kernel_rfl) (by kernel_rfl) (fun _ _ _ h => h) (Or.inl ⟨by rfl, ?_⟩) (by assumption) ?_; rotate_left 1; focus (intro w hSw; go_simp; try with_reducible rfl); (try simp only [List.getElem_toArray, List.getElem_cons_succ, List.getElem_cons_zero, Act.put, List.setIfInBounds_toArray, List.set_cons_zero, List.set_cons_succ]))
    refine wpAnyH_done (by kernel_rfl) ?_ _
    (try simp only [List.getElem_toArray, List.getElem_cons_succ, List.getElem_cons_zero, Act.put, List.setIfInBounds_toArray, List.set_cons_zero, List.set_cons_succ])
    replace c1 := cell_on c1 bb
    replace Y5 := look_on Y5 bb hW5
    replace Y4 := look_on Y4 bb (by omega)
    replace HB5 := below_step HB5 bb
    have hWW := bb.size
    clear hr2 hr3 hHeld c0 c2 c3 c4 cm C2 C5 Y2 Y3 bb
    generalize w6.drewN m7 = W6 at *
    repeat' (first
      | (with_reducible refine then_normal ?_) | (with_reducible refine wp_exit ?_) | (with_reducible refine wp_ret ?_) | (with_reducible refine then_exit ?_) | (with_reducible refine blk_hit ?_) | (with_reducible refine blk_pass (by decide) ?_) | (with_reducible refine then_ret ?_) | (with_reducible refine blk_ret ?_) | (with_reducible refine blk_normal ?_)
      | (refine wpList_load_look rfl _ rfl _ rfl (fun ob hob => ?_); (first | rw [Y5] at hob | rw [Y2] at hob); subst hob; refine ⟨_, rfl, by assumption, ?_⟩; simp only [Act.put, List.setIfInBounds_toArray, List.set_cons_zero, List.set_cons_succ])
      | (refine wpList_store_look rfl _ _ rfl _ rfl rfl hAL (fun ob hob => by (rw [Y4] at hob; subst hob; exact ⟨_, rfl, Z25_len⟩)) (fun w2 hw2 => ?_); subst hw2; simp only [Act.put, List.setIfInBounds_toArray, List.set_cons_zero, List.set_cons_succ])
      | go_values | go_skip | go_guarded | go_step | go_upon | (simp only [Int.not_lt, Int.not_le] at *; go_simp) | (go_values <;> (try go_simp)) | (go_ite <;> go_prune <;> (try go_simp)))
    exact bodyPost_ret (v := cpV (advL L)) (results_cpu rfl _ _ (w.heap.size + 2) rfl hAL (lk_row Y4)) rfl ⟨rfl, below_setRow HB5 _ (by omega) _⟩
end Go.Proofs.YtfnfbdjbdbifaaaDoor

namespace Go.Proofs.YtfnfbdjbdbifaaaDoor
set_option linter.unusedVariables false
set_option linter.unusedSimpArgs false
set_option maxRecDepth 20000
open Go.ChangeShapes Go.WideShapes Go.ChangeAt Go.RowKit Go.Proofs.YtfnfbdjbdbifaaaDoor.Num Go.Proofs.YtfnfbdjbdbifaaaDoor.Mem Go.Proofs.YtfnfbdjbdbifaaaDoor.Isa
/- Exec, whole. -/
set_option maxHeartbeats 4000000 in
theorem exec_sp1t (L : List Int) (S : Option Addr) (n c : Nat) (l : List Int) (o A B C m : Int) (a : Nat) (w : World) (hL : C25 L) (hm : Mem w S n c l) (h0 : ftC n l L = 0) (hd : dOk (ftW n l L)) (hX : 0 ≤ ftW n l L ∧ ftW n l L ≤ 4294967295)
    (eo : dOp (ftW n l L) = o) (ea : dA (ftW n l L) = A) (eb : dB (ftW n l L) = B) (ec : dC (ftW n l L) = C) (em : dM (ftW n l L) = m) (ha : A = a) (a1 : a < 16) (m0 : -32768 ≤ m) (m1 : m ≤ 65535) (ho : ¬ (32 ≤ o ∧ o ≤ 36)) (hp : 57 ≤ o ∧ o ≤ 64) (hk : kerB L = true) (R : List Int) (hRL : R.length = 25)
    (hT : TabK w)
    (HST : ∀ W, TabK W → Calls Tryd.prog 27 #[cpV L, instV o A B C m] W fun e w' => e = .returned (cpV R) ∧ Below W.heap.size W w') :
    Calls Tryd.prog 8 #[cpV L, .slice S n c] w (ExPost n R (ftL n l L) (efV (efK o) (efP o m) (efR o A) (efU L o A)) w) := by
  have HF := Lib.hid (fun W (hM : Mem W S n c l) => fetch_any L S n c l W hL hM)
  rw [h0] at HF
  have hLL := hL.1
  generalize ftL n l L = l' at *
  generalize ftW n l L = X at *
  have HD := Lib.hid (fun W => decode_any X W hX.1 hX.2)
  rw [decide_eq_true hd, show zOp X = o by unfold zOp; rw [if_pos hd, eo], show zA X = A by unfold zA; rw [if_pos hd, ea], show zB X = B by unfold zB; rw [if_pos hd, eb], show zC X = C by unfold zC; rw [if_pos hd, ec], show zM X = m by unfold zM; rw [if_pos hd, em]] at HD
  have HP := Lib.hid (fun W => priv_any o W)
  rw [show decide (57 ≤ o ∧ o ≤ 64) = true from decide_eq_true hp] at HP
  have HK := Lib.hid (fun W => kernel_any L W hL)
  rw [hk] at HK
  have HW := Lib.hid HST
  have HTK := Lib.hid hT
  clear hT
  clear HST
  have HEF := Lib.hid (fun W => effect_any L o A B C m a W hL ha a1 m0 m1)
  generalize efK o = eK at *
  generalize efP o m = eP at *
  generalize efR o A = eR at *
  generalize efU L o A = eU at *
  unfold instV at HW HEF
  clear hd h0 eo ea eb ec em ha
  have n32 : (o == 32) = false := by rw [beq_eq_false_iff_ne]; omega
  have n33 : (o == 33) = false := by rw [beq_eq_false_iff_ne]; omega
  have n34 : (o == 34) = false := by rw [beq_eq_false_iff_ne]; omega
  have n35 : (o == 35) = false := by rw [beq_eq_false_iff_ne]; omega
  have n36 : (o == 36) = false := by rw [beq_eq_false_iff_ne]; omega
  obtain ⟨F1, F2, F3, -⟩ := cw_facts
  go_enter Tryd.func8, Tryd.ntmps8
  go_wp2_with (first
    | (refine wpList_box_box rfl _ rfl rfl ?_; simp only [Act.put, List.setIfInBounds_toArray, List.set_cons_zero, List.set_cons_succ])
    | (refine wpList_alloc_box rfl rfl ?_; simp only [Act.put, List.setIfInBounds_toArray, List.set_cons_zero, List.set_cons_succ])
    | (refine wpList_load_look rfl _ rfl _ rfl (fun ob hob => ?_); simp [look_alloc, look_setRow, look_drew, look_drewN, look_setCell, Nat.add_assoc] at hob; subst hob; refine ⟨_, rfl, by (first | with_reducible assumption | (simp only [List.length_set]; with_reducible assumption) | exact Z25_len), ?_⟩; simp only [Act.put, List.setIfInBounds_toArray, List.set_cons_zero, List.set_cons_succ]))
  (refine (HF.out _ (hm.on (by (repeat' (first | with_reducible exact Below.refl _ _ | with_reducible assumption | with_reducible apply below_drewN | with_reducible apply Below.drew | with_reducible apply Below.setCell | with_reducible apply Below.alloc | (simp; done) | omega | (simp; omega)))))).mono ?_; rintro e w1 ⟨⟨S1, c1, rfl, hm1, hf1⟩, hb1⟩; replace hf1 : Fresh (w.heap.size + 3) S1 n := hf1.le (by simp <;> omega); have hs1 : w.heap.size + 2 < w1.heap.size := Nat.lt_of_lt_of_le (by simp <;> omega) hb1.size; have bel : Below w.heap.size w w1 := Below.trans (by (repeat' (first | with_reducible exact Below.refl _ _ | with_reducible assumption | with_reducible apply below_drewN | with_reducible apply Below.drew | with_reducible apply Below.setCell | with_reducible apply Below.alloc | (simp; done) | omega | (simp; omega)))) (hb1.mono (by simp <;> omega)); have X2 := look_on (g := w.heap.size) (o := .cells (cw L).toArray 32 (0, 0)) (by simp [look_alloc, look_setRow, look_drew, look_drewN, look_setCell, Nat.add_assoc]) hb1 (by simp <;> omega); have X4 := look_on (g := w.heap.size + 1) (o := .cells (cw Z25).toArray 32 (0, 0)) (by simp [look_alloc, look_setRow, look_drew, look_drewN, look_setCell, Nat.add_assoc]) hb1 (by simp <;> omega); have X6 := look_on (g := w.heap.size + 2) (o := .cells #[.int .i64 0, .int .i64 0, .int .i64 0, .int .u32 0] 37 (0, 0)) (by simp [look_alloc, look_setRow, look_drew, look_drewN, look_setCell, Nat.add_assoc]) hb1 (by simp <;> omega); clear hb1; have N0 : ¬ w.heap.size = w1.heap.size := (by omega); have N1 : ¬ w.heap.size + 1 = w1.heap.size := (by omega); have N2 : ¬ w.heap.size + 2 = w1.heap.size := (by omega))
  go_wp2_with (first
    | (refine wpList_load_look rfl _ rfl _ rfl (fun ob hob => ?_); simp [look_alloc, look_setRow, look_drew, look_drewN, look_setCell, Nat.add_assoc, X2, X4, X6, N0, N1, N2] at hob; subst hob; refine ⟨_, rfl, by (first | with_reducible assumption | (simp only [List.length_set]; with_reducible assumption) | exact Z25_len), ?_⟩; simp only [Act.put, List.setIfInBounds_toArray, List.set_cons_zero, List.set_cons_succ])
    | (refine wpList_store_look rfl _ _ rfl _ rfl rfl (by (first | with_reducible assumption | (simp only [List.length_set]; with_reducible assumption) | exact Z25_len)) (fun ob hob => by (simp [look_alloc, look_setRow, look_drew, look_drewN, look_setCell, Nat.add_assoc, X2, X4, X6, N0, N1, N2] at hob; subst hob; exact ⟨_, rfl, by (first | with_reducible assumption | (simp only [List.length_set]; with_reducible assumption) | exact Z25_len)⟩)) (fun w2 hw2 => ?_); subst hw2; simp only [Act.put, List.setIfInBounds_toArray, List.set_cons_zero, List.set_cons_succ]))
  (refine (HD.out _).mono ?_; rintro e w2 ⟨rfl, hb2⟩; replace bel := below_step bel hb2; replace X2 := look_on X2 hb2 (by omega); replace X4 := look_on X4 hb2 (by omega); replace X6 := look_on X6 hb2 (by omega); replace hm1 := hm1.on hb2; replace hs1 : w.heap.size + 2 < w2.heap.size := Nat.lt_of_lt_of_le hs1 hb2.size; clear hb2 N0 N1 N2; have N0 : ¬ w.heap.size = w2.heap.size := (by omega); have N1 : ¬ w.heap.size + 1 = w2.heap.size := (by omega); have N2 : ¬ w.heap.size + 2 = w2.heap.size := (by omega))
  go_wp2_with fail
  refine (HP.out _).mono ?_
  rintro e w3 ⟨rfl, m3, rfl⟩
  go_wp2_with (first
    | (refine wpList_load_look_g rfl _ rfl _ rfl (fun ob hob => ?_); simp [look_alloc, look_setRow, look_drew, look_drewN, look_setCell, Nat.add_assoc, X2, X4, X6, N0, N1, N2] at hob; subst hob; refine ⟨_, rfl, by (first | with_reducible assumption | (simp only [List.length_set]; with_reducible assumption) | exact Z25_len), ?_⟩; simp only [Act.put, List.setIfInBounds_toArray, List.set_cons_zero, List.set_cons_succ]))
  refine (HK.out _).mono ?_
  rintro e w4 ⟨rfl, hb4⟩
  have hbB : Below w2.heap.size w2 w4 := Below.trans (by (repeat' (first | with_reducible exact Below.refl _ _ | with_reducible assumption | with_reducible apply below_drewN | with_reducible apply Below.drew | with_reducible apply Below.setCell | with_reducible apply Below.alloc | (simp; done) | omega | (simp; omega)))) (hb4.mono (by simp))
  have XI := look_on (g := w2.heap.size) (o := .cells #[.int .i64 o, .int .i64 A, .int .i64 B, .int .i64 C, .int .i32 m] 27 (0, 0)) (by rw [look_drewN, look_alloc, if_pos rfl]) hb4 (by simp)
  have hlt4 : w2.heap.size < w4.heap.size := Nat.lt_of_lt_of_le (by simp) hb4.size
  have hS1 : ∀ b off, S1 = some ⟨b, off, none⟩ → 0 < n → b < w2.heap.size := hm1.lt
  have hgI : w.heap.size + 2 < w2.heap.size := hs1
  replace bel := below_step bel hbB
  replace X2 := look_on X2 hbB (by omega)
  replace X4 := look_on X4 hbB (by omega)
  replace X6 := look_on X6 hbB (by omega)
  replace hm1 := hm1.on hbB
  have d0 : w4.cell? ⟨w2.heap.size, 0, none⟩ = some (.int .i64 o) := cell_lk XI 0
  have d1 : w4.cell? ⟨w2.heap.size, 1, none⟩ = some (.int .i64 A) := cell_lk XI 1
  have d2 : w4.cell? ⟨w2.heap.size, 2, none⟩ = some (.int .i64 B) := cell_lk XI 2
  have d3 : w4.cell? ⟨w2.heap.size, 3, none⟩ = some (.int .i64 C) := cell_lk XI 3
  have d4 : w4.cell? ⟨w2.heap.size, 4, none⟩ = some (.int .i32 m) := cell_lk XI 4
  clear hb4 hbB N0 N1 N2 hs1
  have N0 : ¬ w.heap.size = w4.heap.size := by omega
  have N1 : ¬ w.heap.size + 1 = w4.heap.size := by omega
  have N2 : ¬ w.heap.size + 2 = w4.heap.size := by omega
  have NI : ¬ w2.heap.size = w4.heap.size := by omega
  go_wp2_with (first
    | (refine wpList_alloc_box rfl rfl ?_; simp only [Act.put, List.setIfInBounds_toArray, List.set_cons_zero, List.set_cons_succ])
    | (refine wpList_store_look rfl _ _ rfl _ rfl rfl (by (first | with_reducible assumption | (simp only [List.length_set]; with_reducible assumption) | exact Z25_len)) (fun ob hob => by (simp [look_alloc, look_setRow, look_drew, look_drewN, look_setCell, Nat.add_assoc] at hob; subst hob; exact ⟨_, rfl, by (first | with_reducible assumption | (simp only [List.length_set]; with_reducible assumption) | exact Z25_len)⟩)) (fun w2 hw2 => ?_); simp [row_alloc_same, row_alloc_old] at hw2; subst hw2; simp only [Act.put, List.setIfInBounds_toArray, List.set_cons_zero, List.set_cons_succ])
    | (refine wpList_load_look rfl _ rfl _ rfl (fun ob hob => ?_); simp [look_alloc, look_setRow, look_drew, look_drewN, look_setCell, Nat.add_assoc, X2, X4, X6, N0, N1, N2] at hob; subst hob; refine ⟨_, rfl, by (first | with_reducible assumption | (simp only [List.length_set]; with_reducible assumption) | exact Z25_len), ?_⟩; simp only [Act.put, List.setIfInBounds_toArray, List.set_cons_zero, List.set_cons_succ]))
  all_goals
    generalize hW0 : World.alloc w4 _ = W0
    replace bel : Below w.heap.size w W0 := by rw [← hW0]; exact bel.alloc bel.size _
    have hs1 : w4.heap.size < W0.heap.size := by rw [← hW0]; simp
    replace X2 : lk W0 w.heap.size = some (.cells (cw L).toArray 32 (0, 0)) := by rw [← hW0, look_alloc, if_neg (by omega)]; exact X2
    replace X4 : lk W0 (w.heap.size + 1) = some (.cells (cw Z25).toArray 32 (0, 0)) := by rw [← hW0, look_alloc, if_neg (by omega)]; exact X4
    replace X6 : lk W0 (w.heap.size + 2) = some (.cells #[.int .i64 0, .int .i64 0, .int .i64 0, .int .u32 0] 37 (0, 0)) := by rw [← hW0, look_alloc, if_neg (by omega)]; exact X6
    replace XI : lk W0 w2.heap.size = some (.cells #[.int .i64 o, .int .i64 A, .int .i64 B, .int .i64 C, .int .i32 m] 27 (0, 0)) := by rw [← hW0, look_alloc, if_neg (by omega)]; exact XI
    have XN : lk W0 w4.heap.size = some (.cells (cw L).toArray 32 (0, 0)) := by rw [← hW0, look_alloc, if_pos rfl]
    replace hm1 : Mem W0 S1 n c1 l' := by rw [← hW0]; exact hm1.on (by (repeat' (first | with_reducible exact Below.refl _ _ | with_reducible assumption | with_reducible apply below_drewN | with_reducible apply Below.drew | with_reducible apply Below.setCell | with_reducible apply Below.alloc | (simp; done) | omega | (simp; omega))))
    clear hW0 N0 N1 N2 NI d0 d1 d2 d3 d4
    generalize w4.heap.size = gN at *
    generalize w2.heap.size = gI at *
    refine (HW.out _ (HTK.out.on bel)).mono ?_
    rintro e w7 ⟨rfl, hb4⟩
    have hm4 := hm1.on hb4
    have Y2 := look_on X2 hb4 (by omega)
    have Y4 := look_on X4 hb4 (by omega)
    have Y6 := look_on X6 hb4 (by omega)
    have YI := look_on XI hb4 (by omega)
    have YN := look_on XN hb4 (by omega)
    replace bel := below_step bel hb4
    replace hs1 : gN < w7.heap.size := Nat.lt_of_lt_of_le hs1 hb4.size
    clear hb4 X2 X4 X6 XI XN hm1
    go_wp2_with (first
      | (refine wpList_store_look rfl _ _ rfl _ rfl rfl hRL (fun ob hob => by (rw [YN] at hob; subst hob; exact ⟨_, rfl, hLL⟩)) (fun w5 hw5 => ?_); subst hw5; simp only [Act.put, List.setIfInBounds_toArray, List.set_cons_zero, List.set_cons_succ]))
    replace Y2 : lk (w7.setRow gN (cw R).toArray) w.heap.size = _ := lk_rowN Y2 (by omega)
    replace Y4 : lk (w7.setRow gN (cw R).toArray) (w.heap.size + 1) = _ := lk_rowN Y4 (by omega)
    replace Y6 : lk (w7.setRow gN (cw R).toArray) (w.heap.size + 2) = _ := lk_rowN Y6 (by omega)
    replace YI : lk (w7.setRow gN (cw R).toArray) gI = _ := lk_rowN YI (by omega)
    replace YN := lk_row (M := R) YN
    replace bel := below_setRow bel gN (by omega) (cw R).toArray
    have hm5 : Mem (w7.setRow gN (cw R).toArray) S1 n c1 l' := hm4.setRow (fun b off hb hn => by have := hS1 b off hb hn; omega)
    have hs5 : gN < (w7.setRow gN (cw R).toArray).heap.size := by rw [size_setRow]; exact hs1
    have hf5 : Fresh (w.heap.size + 3) S1 n := hf1
    clear hm4 hf1
    generalize w7.setRow gN (cw R).toArray = W5 at *
    obtain ⟨fs, hu⟩ := undCpu
    have hi : (Tryd.prog.info? 32).map (·.size) = some (cw L).length := by rw [cw_len hLL]; exact infCpu
    have hiR : (Tryd.prog.info? 32).map (·.size) = some (cw R).length := by rw [cw_len hRL]; exact infCpu
    have hiI : (Tryd.prog.info? 27).map (·.size) = some ([.int .i64 o, .int .i64 A, .int .i64 B, .int .i64 C, .int .i32 m] : List Value).length := infInst
    obtain ⟨fI, huI⟩ := undInst
    unfold cpV at HEF
    refine wp_region_held_drew (S := fun w' => lk w' w.heap.size = some (.cells (cw L).toArray 32 (0, 0)) ∧ lk w' gN = some (.cells (cw R).toArray 32 (0, 0)) ∧ lk w' gI = some (.cells #[.int .i64 o, .int .i64 A, .int .i64 B, .int .i64 C, .int .i32 m] 27 (0, 0))) (by kernel_rfl) ⟨Y2, YN, YI⟩ (fun hHeld => ?_)
    (refine' wpAnyH_take (i := 0) (oi := _) (v := _) rfl (by kernel_rfl) (by kernel_rfl) (by kernel_rfl) (fun _ _ _ h => h) (yieldsIf_load_mid (by rfl) _ _ rfl _ 0 rfl (cw R) _ (fun w hw => range_lk hw.2.1) hu rfl hiR) (by assumption) ?_; (try simp only [List.getElem_toArray, List.getElem_cons_succ, List.getElem_cons_zero, Act.put, List.setIfInBounds_toArray, List.set_cons_zero, List.set_cons_succ]))
    (refine wpAnyH_take (i := 1) (oi := _) (v := ?_) rfl (by kernel_rfl) (by kernel_rfl) (by kernel_rfl) (fun _ _ _ h => h) (Or.inl ⟨by rfl, ?_⟩) (by assumption) ?_; rotate_left 1; focus (intro w hSw; go_simp; try with_reducible rfl); (try simp only [List.getElem_toArray, List.getElem_cons_succ, List.getElem_cons_zero, Act.put, List.setIfInBounds_toArray, List.set_cons_zero, List.set_cons_succ]))
    (refine' wpAnyH_take (i := 2) (oi := _) (v := _) rfl (by kernel_rfl) (by kernel_rfl) (by kernel_rfl) (fun _ _ _ h => h) (yieldsIf_load_mid (by rfl) _ _ rfl _ 0 rfl (cw L) _ (fun w hw => range_lk hw.1) hu rfl hi) (by assumption) ?_; (try simp only [List.getElem_toArray, List.getElem_cons_succ, List.getElem_cons_zero, Act.put, List.setIfInBounds_toArray, List.set_cons_zero, List.set_cons_succ]))
    (refine' wpAnyH_take (i := 3) (oi := _) (v := _) rfl (by kernel_rfl) (by kernel_rfl) (by kernel_rfl) (fun _ _ _ h => h) (yieldsIf_load_mid (by rfl) _ _ rfl _ 0 rfl [.int .i64 o, .int .i64 A, .int .i64 B, .int .i64 C, .int .i32 m] _ (fun w hw => range_lk hw.2.2) huI rfl hiI) (by assumption) ?_; (try simp only [List.getElem_toArray, List.getElem_cons_succ, List.getElem_cons_zero, Act.put, List.setIfInBounds_toArray, List.set_cons_zero, List.set_cons_succ]))
    have bb : Below W5.heap.size W5 W5.drew := (Below.refl _ _).drew
    refine wpAnyH_ready (rs := [4]) (by kernel_rfl) (by simp) ?_
    refine AllReadyH.cons (o := _) rfl (fun K hK => ?_) AllReadyH.nil
    rw [if_pos (by rfl)]
    go_simp
    refine (HEF.out _).mono ?_
    rintro e w6 ⟨rfl, hb6⟩
    replace bb := below_step bb hb6
    (try dsimp only)
    refine hK.out _ _ ?_ (fun hHeld => ?_)
    · exact ⟨look_on Y2 bb (by omega), look_on YN bb (by omega), look_on YI bb (by omega)⟩
    clear hK K hb6 hHeld
    (try simp only [List.getElem_toArray, List.getElem_cons_succ, List.getElem_cons_zero, Act.put, List.setIfInBounds_toArray, List.set_cons_zero, List.set_cons_succ])
    have Z2 := look_on Y2 bb (by omega)
    have Z4 := look_on Y4 bb (by omega)
    have Z6 := look_on Y6 bb (by omega)
    have ZI := look_on YI bb (by omega)
    have ZN := look_on YN bb (by omega)
    replace hm5 := hm5.on bb
    replace bel := below_step bel bb
    clear Y2 Y4 Y6 YI YN bb
    refine wpAnyH_ready (rs := [5]) (by kernel_rfl) (by simp) ?_
    refine AllReadyH.cons (o := _) rfl (fun K hK => ?_) AllReadyH.nil
    rw [if_pos (by rfl)]
    refine wp_store_cpu _ _ rfl _ rfl rfl hRL Z4 Z25_len ?_
    (try dsimp only)
    have V4 := lk_row (M := R) Z4
    have V6 : lk (w6.setRow (w.heap.size + 1) (cw R).toArray) (w.heap.size + 2) = _ := lk_rowN Z6 (by omega)
    have V2 : lk (w6.setRow (w.heap.size + 1) (cw R).toArray) w.heap.size = _ := lk_rowN Z2 (by omega)
    have VN : lk (w6.setRow (w.heap.size + 1) (cw R).toArray) gN = _ := lk_rowN ZN (by omega)
    have VI : lk (w6.setRow (w.heap.size + 1) (cw R).toArray) gI = _ := lk_rowN ZI (by omega)
    refine hK.out _ _ ?_ (fun hHeld => ?_)
    · exact ⟨V2, VN, VI⟩
    clear hK K
    (try simp only [List.getElem_toArray, List.getElem_cons_succ, List.getElem_cons_zero, Act.put, List.setIfInBounds_toArray, List.set_cons_zero, List.set_cons_succ])
    (refine wpAnyH_take (i := 6) (oi := _) (v := ?_) rfl (by kernel_rfl) (by kernel_rfl) (by kernel_rfl) (fun _ _ _ h => h) (Or.inl ⟨by rfl, ?_⟩) (by assumption) ?_; rotate_left 1; focus (intro w hSw; go_simp; try with_reducible rfl); (try simp only [List.getElem_toArray, List.getElem_cons_succ, List.getElem_cons_zero, Act.put, List.setIfInBounds_toArray, List.set_cons_zero, List.set_cons_succ]))
    refine wpAnyH_ready (rs := [7]) (by kernel_rfl) (by simp) ?_
    refine AllReadyH.cons (o := _) rfl (fun K hK => ?_) AllReadyH.nil
    rw [if_pos (by rfl)]
    refine wp_store_row 37 _ _ rfl (w.heap.size + 2) #[.int .i64 eK, .int .i64 eP, .int .i64 eR, .int .u32 eU] rfl rfl _ _ V6 infEff rfl (by simp [Value.oneCell']) ?_
    (try dsimp only)
    refine hK.out _ _ ?_ (fun hHeld => ?_)
    · exact ⟨lk_rowN V2 (by omega), lk_rowN VN (by omega), lk_rowN VI (by omega)⟩
    clear hK K
    (try simp only [List.getElem_toArray, List.getElem_cons_succ, List.getElem_cons_zero, Act.put, List.setIfInBounds_toArray, List.set_cons_zero, List.set_cons_succ])
    refine wpAnyH_done (by kernel_rfl) ?_ _
    (try simp only [List.getElem_toArray, List.getElem_cons_succ, List.getElem_cons_zero, Act.put, List.setIfInBounds_toArray, List.set_cons_zero, List.set_cons_succ])
    have U4 : lk ((w6.setRow (w.heap.size + 1) (cw R).toArray).setRow (w.heap.size + 2) #[.int .i64 eK, .int .i64 eP, .int .i64 eR, .int .u32 eU]) (w.heap.size + 1) = _ := lk_rowN V4 (by omega)
    have U6 : lk ((w6.setRow (w.heap.size + 1) (cw R).toArray).setRow (w.heap.size + 2) #[.int .i64 eK, .int .i64 eP, .int .i64 eR, .int .u32 eU]) (w.heap.size + 2) = some (.cells #[.int .i64 eK, .int .i64 eP, .int .i64 eR, .int .u32 eU] 37 (0, 0)) := by rw [look_setRow, if_pos rfl, V6]; rfl
    go_wp2_with fail
    refine bodyPost_ret (v := .tuple #[cpV R, .slice S1 n c1, efV eK eP eR eU]) (results_exec (p := 4) (q := 5) (r := 6) rfl _ _ (w.heap.size + 1) (w.heap.size + 2) rfl rfl hRL U4 U6) rfl ⟨⟨S1, c1, rfl, hm5.fresh hf5 (fun g hg => by show lk _ g = lk _ g; rw [look_setRow, if_neg (by omega), look_setRow, if_neg (by omega)]), hf5.le (by omega)⟩, below_setRow (below_setRow bel _ (by omega) _) _ (by omega) _⟩
/-- The fields of a valid word. -/
theorem dOk_facts {x : Int} (h : dOk x) (x0 : 0 ≤ x) (x1 : x ≤ 4294967295) :
    (∃ a : Nat, dA x = a ∧ a < 16) ∧ (∃ b : Nat, dB x = b ∧ b < 16) ∧ (∃ c : Nat, dC x = c ∧ c < 16) ∧ -32768 ≤ dM x ∧ dM x ≤ 65535 ∧ (dOp x = 58 ∨ dOp x = 59 → 0 ≤ dM x ∧ dM x < 8) ∧ (dOp x = 24 → 0 ≤ dM x) ∧ 1 ≤ dOp x ∧ dOp x ≤ 64 ∧ (dOp x < 32 → dOp x ≠ 24 → aluB (dOp x) = true) := by
  unfold dOk at h
  generalize dOp x = o at *
  generalize dA x = a at *
  generalize dB x = b at *
  generalize dC x = c at *
  generalize dM x = m at *
  obtain ⟨h0, h1, h2, h3, h4, h5, h6, h7, h8, h9, h10, h11⟩ := h
  have hk : -32768 ≤ m ∧ m ≤ 65535 ∧ (o = 58 ∨ o = 59 → 0 ≤ m ∧ m < 8) ∧ (o = 24 → 0 ≤ m) ∧ 1 ≤ o ∧ o ≤ 64 ∧ (o < 32 → o ≠ 24 → (1 ≤ o ∧ o ≤ 13) ∨ (16 ≤ o ∧ o ≤ 23)) := by
    rcases kind o with k | k | k | k | k | k | k | k | k | k | k <;> obtain ⟨k1, k2, k3, k4, k5⟩ := k <;> omega
  obtain ⟨k1, k2, k3, k4, k5, k6, k7⟩ := hk
  exact ⟨⟨a.toNat, by omega, by omega⟩, ⟨b.toNat, by omega, by omega⟩, ⟨c.toNat, by omega, by omega⟩, k1, k2, k3, k4, k5, k6, fun g1 g2 => decide_eq_true (k7 g1 g2)⟩
/-- The step, whole. -/
theorem step_all (L : List Int) (x : Int) (w : World) (hL : C25 L) (hT : dOp x = 59 → TabK w) (hd : dOk x) (x0 : 0 ≤ x) (x1 : x ≤ 4294967295) (hn : ¬ (32 ≤ dOp x ∧ dOp x ≤ 36)) :
    Calls Tryd.prog 27 #[cpV L, instV (dOp x) (dA x) (dB x) (dC x) (dM x)] w fun e w' => e = .returned (cpV (stepL L (dOp x) (dA x) (dB x) (dC x) (dM x))) ∧ Below w.heap.size w w' := by
  obtain ⟨⟨a, ha, a1⟩, ⟨b, hb, b1⟩, ⟨c, hc, c1⟩, m0, m1, hm8, hm24, o0, o1, hal⟩ := dOk_facts hd x0 x1
  rw [ha, hb, hc]
  generalize dM x = m at *
  generalize dOp x = o at *
  clear ha hb hc hd
  unfold stepL
  simp only [Int.toNat_natCast]
  by_cases h24 : o = 24
  · rw [if_pos h24]; subst h24
    exact step_lui L a b c m a w hL rfl a1 (hm24 rfl) m1
  rw [if_neg h24]
  by_cases hbr : 40 ≤ o ∧ o ≤ 45
  · rw [if_pos hbr]
    exact step_br L o a b c m a b w hL rfl a1 rfl b1 m0 m1 hbr
  rw [if_neg hbr]
  by_cases h48 : o = 48
  · rw [if_pos h48]; subst h48
    exact step_jal L a b c m a w hL rfl a1 m0 m1
  rw [if_neg h48]
  by_cases h49 : o = 49
  · rw [if_pos h49]; subst h49
    exact step_jalr L a b c m a b w hL rfl a1 rfl b1 m0 m1
  rw [if_neg h49]
  by_cases h56 : o = 56
  · rw [if_pos h56]; subst h56
    exact step_ecall L a b c m w hL m0 m1
  rw [if_neg h56]
  by_cases h57 : o = 57
  · rw [if_pos h57]; subst h57
    exact step_eret L a b c m w hL m0 m1
  rw [if_neg h57]
  by_cases h58 : o = 58
  · rw [if_pos h58]; subst h58
    have hk := hm8 (.inl rfl)
    exact step_csrr L a b c m a m.toNat w hL rfl a1 (by omega) (by omega)
  rw [if_neg h58]
  by_cases h59 : o = 59
  · rw [if_pos h59]; subst h59
    exact step_csrw L a b c m a w hL (hT rfl) rfl a1 m0 m1
  rw [if_neg h59]
  cases hB : aluB o with
  | true => exact step_alu L o m a b c w hL a1 b1 c1 m0 m1 (by omega) hB
  | false => exact step_none L o m a b c w hL a1 b1 c1 m0 m1 (by omega) hB
theorem stepL_len {L : List Int} (hL : L.length = 25) (o a b c m : Int) : (stepL L o a b c m).length = 25 := by
  unfold stepL wrL retL trapL advL
  repeat' split
  all_goals (try simp only [List.length_set, setL_len])
  all_goals first | exact hL | (unfold advL; simpa using hL)
theorem tcL_u32 {n : Nat} {l : List Int} (hu : U32 l) (e a : Int) : U32 (tcL n l e a) := by
  unfold tcL; split
  · have hx := wd_bd hu (e / 4).toNat
    have hb := orW_bd (wd l (e / 4).toNat) (tcF a) hx.1 hx.2 (by unfold tcF; split <;> omega)
    exact hu.set _ hb.1 hb.2
  · exact hu
theorem rsL_u32 {n : Nat} {l L : List Int} (hu : U32 l) (va size a : Int) : U32 (rsL n l L va size a) := by
  unfold rsL; split
  · exact tcL_u32 hu _ _
  · exact hu
theorem ftL_u32 {n : Nat} {l : List Int} (hu : U32 l) (L : List Int) : U32 (ftL n l L) := rsL_u32 hu _ _ _
/-- Exec, whole. -/
theorem exec_any (L : List Int) (S : Option Addr) (n c : Nat) (l : List Int) (w : World) (hL : C25 L) (hm : Mem w S n c l) (hT : TabK w) :
    Calls Tryd.prog 8 #[cpV L, .slice S n c] w (ExPost n (exL n l L) (exM n l L) (exE n l L) w) := by
  have hX := ftW_bd (n := n) (l := l) (L := L) (ftL_u32 hm.2.2.2.1 L)
  unfold exL exM exE exB
  by_cases h0 : ftC n l L = 0
  · rw [if_neg (show ¬ ¬ ftC n l L = 0 from fun h => h h0)]
    by_cases hd : dOk (ftW n l L)
    · rw [if_neg (show ¬ ¬ dOk (ftW n l L) from fun h => h hd)]
      obtain ⟨⟨a, ha, a1⟩, ⟨b, hb, b1⟩, ⟨c', hc, c1⟩, m0, m1, hm8, hm24, o0, o1, hal⟩ := dOk_facts hd hX.1 hX.2
      by_cases hp : prvB (dOp (ftW n l L)) = true
      · have hp' := of_decide_eq_true hp
        cases hk : kerB L with
        | false =>
          rw [if_pos ⟨hp, rfl⟩, decide_eq_false (fun h => by have := h.2.2 hp; simp at this), if_neg (by decide), if_neg (by decide)]
          exact exec_prv L S n c l w hL hm h0 hd hp hk hX
        | true =>
          rw [if_neg (fun h => by have := h.2; simp at this), if_neg (by omega), if_neg (by omega), decide_eq_true ⟨h0, hd, fun _ => rfl⟩, if_pos rfl, if_pos rfl, if_neg (by omega), if_neg (by omega)]
          exact exec_sp1t L S n c l _ _ _ _ _ a w hL hm h0 hd hX rfl rfl rfl rfl rfl ha a1 m0 m1 (by omega) hp' hk _ (stepL_len hL.1 _ _ _ _ _) hT (fun W hK => step_all L _ W hL (fun _ => hK) hd hX.1 hX.2 (by omega))
      · have hp' : ¬ (57 ≤ dOp (ftW n l L) ∧ dOp (ftW n l L) ≤ 64) := fun h => hp (decide_eq_true h)
        rw [if_neg (fun h => hp h.1), decide_eq_true ⟨h0, hd, fun h => absurd h hp⟩, if_pos rfl, if_pos rfl]
        by_cases hl : 32 ≤ dOp (ftW n l L) ∧ dOp (ftW n l L) ≤ 34
        · rw [if_pos hl, if_pos hl]
          exact exec_ld L S n c l _ _ _ _ _ a b w hL hm h0 hd hX rfl rfl rfl rfl rfl ha a1 hb b1 m0 m1 hl
        rw [if_neg hl, if_neg hl]
        by_cases hs : 35 ≤ dOp (ftW n l L) ∧ dOp (ftW n l L) ≤ 36
        · rw [if_pos hs, if_pos hs]
          exact exec_st L S n c l _ _ _ _ _ a b w hL hm h0 hd hX rfl rfl rfl rfl rfl ha a1 hb b1 m0 m1 hs
        rw [if_neg hs, if_neg hs]
        exact exec_sp0 L S n c l _ _ _ _ _ a w hL hm h0 hd hX rfl rfl rfl rfl rfl ha a1 m0 m1 (by omega) hp' _ (stepL_len hL.1 _ _ _ _ _) (fun W => step_all L _ W hL (fun h => by omega) hd hX.1 hX.2 (by omega))
    · rw [if_pos hd, decide_eq_false (fun h => hd h.2.1), if_neg (by decide), if_neg (by decide)]
      exact exec_ill L S n c l w hL hm h0 hd hX
  · rw [if_pos h0, decide_eq_false (fun h => h0 h.1), if_neg (by decide), if_neg (by decide)]
    exact exec_flt L S n c l w hL hm h0
end Go.Proofs.YtfnfbdjbdbifaaaDoor
