import Derived.Test.YtkpboooifkhijaaDoorCpGb
namespace Go.Proofs.YtkpboooifkhijaaDoor
set_option linter.unusedVariables false
set_option linter.unusedSimpArgs false
set_option maxRecDepth 20000
open Go.ChangeShapes Go.WideShapes Go.ChangeAt Go.RowKit Go.Proofs.YtkpboooifkhijaaDoor.Num Go.Proofs.YtkpboooifkhijaaDoor.Mem Go.Proofs.YtkpboooifkhijaaDoor.Isa
/- Branches. -/
set_option maxHeartbeats 4000000 in
theorem step_br40 (L : List Int) (A B c m : Int) (a b : Nat) (w : World) (hL : C25 L) (ha : A = a) (a1 : a < 16) (hb : B = b) (b1 : b < 16) (m0 : -32768 ≤ m) (m1 : m ≤ 65535) :
    Calls Tryd.prog 33 #[cpV L, instV 40 A B c m] w fun e w' => e = .returned (cpV (if tkn 40 (wd L a) (wd L b) = true then L.set 16 ((wd L 16 + 4 * m) % 4294967296) else advL L)) ∧ Below w.heap.size w w' := by
  subst ha hb
  have hLL := hL.1
  have HA := Lib.hid (fun W => advance_any L W hL)
  have HBR := Lib.hid (fun W => branches_any 40 (wd L a) (wd L b) W (by decide))
  have hset : (advL L).set 16 ((wd L 16 + 4 * m) % 4294967296) = L.set 16 ((wd L 16 + 4 * m) % 4294967296) := by unfold advL; rw [List.set_set]
  have hb0 : (0 : Int) ≤ b := by omega
  have hb1 : (b : Int) < 16 := by omega
  have hb25 : b < 25 := by omega
  have ha0 : (0 : Int) ≤ a := by omega
  have ha1 : (a : Int) < 16 := by omega
  have ha25 : a < 25 := by omega
  generalize htk : tkn 40 (wd L a) (wd L b) = tk at *
  clear htk
  unfold instV
  obtain ⟨F1, F2, F3, -⟩ := cw_facts
  go_enter Tryd.func33, Tryd.ntmps33
  go_wp2_with (first
    | (refine wpList_box_box rfl _ rfl rfl ?_; simp only [Act.put, List.setIfInBounds_toArray, List.set_cons_zero, List.set_cons_succ])
    | (refine wpList_alloc_box rfl rfl ?_; simp only [Act.put, List.setIfInBounds_toArray, List.set_cons_zero, List.set_cons_succ]))
  generalize hW : World.alloc (World.alloc (World.alloc w _) _) _ = W
  have X2 : lk W w.heap.size = some (.cells (cw L).toArray 32 (0, 0)) := by rw [← hW]; simp [look_alloc] <;> omega
  have X3 : lk W (w.heap.size + 1) = some (.cells #[.int .i64 40, .int .i64 a, .int .i64 b, .int .i64 c, .int .i32 m] 27 (0, 0)) := by rw [← hW]; simp [look_alloc]
  have X4 : lk W (w.heap.size + 2) = some (.cells (cw Z25).toArray 32 (0, 0)) := by rw [← hW]; simp [look_alloc]
  have HB : Below w.heap.size w W := by rw [← hW]; (repeat' (first | with_reducible exact Below.refl _ _ | with_reducible assumption | with_reducible apply below_drewN | with_reducible apply Below.drew | with_reducible apply Below.setCell | with_reducible apply Below.alloc | (simp; done) | omega | (simp; omega)))
  have hsz : w.heap.size + 2 < W.heap.size := by rw [← hW]; simp
  clear hW
  obtain ⟨fs, hu⟩ := undCpu
  have hi : (Tryd.prog.info? 32).map (·.size) = some (cw L).length := by rw [cw_len hLL]; exact infCpu
  have hrg : W.rangeAt w.heap.size 0 (cw L) := fun j u hu => by rw [Nat.zero_add]; exact (cell_lk X2 j).trans (by simpa using hu)
  have hcm : W.cell? ⟨w.heap.size + 1, 4, none⟩ = some (.int .i32 m) := cell_lk X3 4
  have bb : Below W.heap.size W W.drew := (Below.refl _ _).drew
  unfold cpV at HA
  refine wp_region_held_drew (S := fun w' => w'.rangeAt w.heap.size 0 (cw L) ∧ w'.cell? ⟨w.heap.size + 1, 4, none⟩ = some (.int .i32 m)) (by kernel_rfl) ⟨range_on hrg bb (by omega), cell_on hcm bb⟩ (fun hHeld => ?_)
  (refine' wpAnyH_take (i := 0) (oi := _) (v := _) rfl (by kernel_rfl) (by kernel_rfl) (by kernel_rfl) (fun _ _ _ h => h) (yieldsIf_load_mid (by rfl) _ _ rfl _ 0 rfl (cw L) _ (fun w hw => hw.1) hu rfl hi) (by assumption) ?_; (try simp only [List.getElem_toArray, List.getElem_cons_succ, List.getElem_cons_zero, Act.put, List.setIfInBounds_toArray, List.set_cons_zero, List.set_cons_succ]))
  (refine wpAnyH_take (i := 2) (oi := _) (v := ?_) rfl (by kernel_rfl) (by kernel_rfl) (by kernel_rfl) (fun _ _ _ h => h) (Or.inl ⟨by rfl, ?_⟩) (by assumption) ?_; rotate_left 1; focus (intro w hSw; go_simp; try with_reducible rfl); (try simp only [List.getElem_toArray, List.getElem_cons_succ, List.getElem_cons_zero, Act.put, List.setIfInBounds_toArray, List.set_cons_zero, List.set_cons_succ]))
  (refine wpAnyH_take (i := 3) (oi := _) (v := ?_) rfl (by kernel_rfl) (by kernel_rfl) (by kernel_rfl) (fun _ _ _ h => h) (Or.inl ⟨by rfl, ?_⟩) (by assumption) ?_; rotate_left 1; focus (rintro w ⟨-, hSw⟩; go_simp; try with_reducible rfl); (try simp only [List.getElem_toArray, List.getElem_cons_succ, List.getElem_cons_zero, Act.put, List.setIfInBounds_toArray, List.set_cons_zero, List.set_cons_succ]))
  (refine wpAnyH_take (i := 4) (oi := _) (v := ?_) rfl (by kernel_rfl) (by kernel_rfl) (by kernel_rfl) (fun _ _ _ h => h) (Or.inl ⟨by rfl, ?_⟩) (by assumption) ?_; rotate_left 1; focus (intro w hSw; go_simp; try with_reducible rfl); (try simp only [List.getElem_toArray, List.getElem_cons_succ, List.getElem_cons_zero, Act.put, List.setIfInBounds_toArray, List.set_cons_zero, List.set_cons_succ]))
  have hAL := hL.adv.1
  refine (fun (key : Hid ?T) => ?main) ?kp
  case main =>
    refine wpAnyH_ready (rs := [1, 5]) (by kernel_rfl) (by simp) ?_
    refine AllReadyH.cons (o := _) rfl (fun K hK => ?_) (AllReadyH.cons (o := _) rfl (fun K hK => ?_) AllReadyH.nil)
    · rw [if_pos (by rfl)]
      go_simp
      refine (HA.out _).mono ?_
      rintro e w1 ⟨rfl, hb1⟩
      replace bb := below_step bb hb1
      (try dsimp only)
      refine hK.out _ _ ?_ (fun hHeld => ?_)
      · exact ⟨range_on hrg bb (by omega), cell_on hcm bb⟩
      clear hK K hb1
      (try simp only [List.getElem_toArray, List.getElem_cons_succ, List.getElem_cons_zero, Act.put, List.setIfInBounds_toArray, List.set_cons_zero, List.set_cons_succ])
      refine wpAnyH_ready (rs := [5]) (by kernel_rfl) (by simp) ?_
      refine AllReadyH.cons (o := _) rfl (fun K hK => ?_) AllReadyH.nil
      rw [if_pos (by rfl)]
      refine wp_alloc_cpu rfl ?_
      have hsz1 := bb.size
      replace bb := bb.alloc hsz1 (.cells (cw Z25).toArray 32)
      (try dsimp only)
      refine hK.out _ _ ?_ (fun hHeld => ?_)
      · exact ⟨range_on hrg bb (by omega), cell_on hcm bb⟩
      clear hK K
      (try simp only [List.getElem_toArray, List.getElem_cons_succ, List.getElem_cons_zero, Act.put, List.setIfInBounds_toArray, List.set_cons_zero, List.set_cons_succ])
      have Y5 : lk (w1.alloc (.cells (cw Z25).toArray 32)) w1.heap.size = some (.cells (cw Z25).toArray 32 (0, 0)) := by rw [look_alloc, if_pos rfl]
      have hg5 := hsz1
      refine wpAnyH_ready (rs := [6]) (by kernel_rfl) (by simp) ?_
      refine AllReadyH.cons (o := _) rfl (fun K hK => ?_) AllReadyH.nil
      rw [if_pos (by rfl)]
      refine wp_store_cpu _ _ rfl _ rfl rfl hAL Y5 Z25_len ?_
      replace Y5 := lk_row (M := advL L) Y5
      replace bb := below_setRow bb _ hg5 (cw (advL L)).toArray
      (try dsimp only)
      refine hK.out _ _ ?_ (fun hHeld => ?_)
      · exact ⟨range_on hrg bb (by omega), cell_on hcm bb⟩
      clear hK K
      (try simp only [List.getElem_toArray, List.getElem_cons_succ, List.getElem_cons_zero, Act.put, List.setIfInBounds_toArray, List.set_cons_zero, List.set_cons_succ])
      (refine wpAnyH_take (i := 7) (oi := _) (v := ?_) rfl (by kernel_rfl) (by kernel_rfl) (by kernel_rfl) (fun _ _ _ h => h) (Or.inl ⟨by rfl, ?_⟩) (by assumption) ?_; rotate_left 1; focus (intro w hSw; go_simp; try with_reducible rfl); (try simp only [List.getElem_toArray, List.getElem_cons_succ, List.getElem_cons_zero, Act.put, List.setIfInBounds_toArray, List.set_cons_zero, List.set_cons_succ]))
      refine wpAnyH_done (by kernel_rfl) ?_ _
      (try simp only [List.getElem_toArray, List.getElem_cons_succ, List.getElem_cons_zero, Act.put, List.setIfInBounds_toArray, List.set_cons_zero, List.set_cons_succ])
      have F : lk _ w1.heap.size = _ ∧ W.heap.size ≤ w1.heap.size ∧ Below W.heap.size W _ := ⟨Y5, hg5, bb⟩
      generalize World.setRow (World.alloc w1 _) _ _ = W5 at F ⊢
      generalize w1.heap.size = g5 at F ⊢
      revert F; revert g5 W5
      exact key.out
    · rw [if_pos (by rfl)]
      refine wp_alloc_cpu rfl ?_
      have Y5 : lk (W.drew.alloc (.cells (cw Z25).toArray 32)) W.heap.size = some (.cells (cw Z25).toArray 32 (0, 0)) := by rw [look_alloc]; exact if_pos rfl
      have hg5 : W.heap.size ≤ W.heap.size := Nat.le_refl _
      replace bb := bb.alloc hg5 (.cells (cw Z25).toArray 32)
      have hs5 : W.heap.size < (W.drew.alloc (.cells (cw Z25).toArray 32)).heap.size := by simp
      (try dsimp only)
      refine hK.out _ _ ?_ (fun hHeld => ?_)
      · exact ⟨range_on hrg bb (by omega), cell_on hcm bb⟩
      clear hK K
      (try simp only [List.getElem_toArray, List.getElem_cons_succ, List.getElem_cons_zero, Act.put, List.setIfInBounds_toArray, List.set_cons_zero, List.set_cons_succ])
      refine wpAnyH_ready (rs := [1]) (by kernel_rfl) (by simp) ?_
      refine AllReadyH.cons (o := _) rfl (fun K hK => ?_) AllReadyH.nil
      rw [if_pos (by rfl)]
      go_simp
      refine (HA.out _).mono ?_
      rintro e w1 ⟨rfl, hb1⟩
      replace Y5 := look_on Y5 hb1 hs5
      replace bb := below_step bb hb1
      (try dsimp only)
      refine hK.out _ _ ?_ (fun hHeld => ?_)
      · exact ⟨range_on hrg bb (by omega), cell_on hcm bb⟩
      clear hK K hb1 hs5
      (try simp only [List.getElem_toArray, List.getElem_cons_succ, List.getElem_cons_zero, Act.put, List.setIfInBounds_toArray, List.set_cons_zero, List.set_cons_succ])
      refine wpAnyH_ready (rs := [6]) (by kernel_rfl) (by simp) ?_
      refine AllReadyH.cons (o := _) rfl (fun K hK => ?_) AllReadyH.nil
      rw [if_pos (by rfl)]
      refine wp_store_cpu _ _ rfl _ rfl rfl hAL Y5 Z25_len ?_
      replace Y5 := lk_row (M := advL L) Y5
      replace bb := below_setRow bb _ hg5 (cw (advL L)).toArray
      (try dsimp only)
      refine hK.out _ _ ?_ (fun hHeld => ?_)
      · exact ⟨range_on hrg bb (by omega), cell_on hcm bb⟩
      clear hK K
      (try simp only [List.getElem_toArray, List.getElem_cons_succ, List.getElem_cons_zero, Act.put, List.setIfInBounds_toArray, List.set_cons_zero, List.set_cons_succ])
      (refine wpAnyH_take (i := 7) (oi := _) (v := ?_) rfl (by kernel_rfl) (by kernel_rfl) (by kernel_rfl) (fun _ _ _ h => h) (Or.inl ⟨by rfl, ?_⟩) (by assumption) ?_; rotate_left 1; focus (intro w hSw; go_simp; try with_reducible rfl); (try simp only [List.getElem_toArray, List.getElem_cons_succ, List.getElem_cons_zero, Act.put, List.setIfInBounds_toArray, List.set_cons_zero, List.set_cons_succ]))
      refine wpAnyH_done (by kernel_rfl) ?_ _
      (try simp only [List.getElem_toArray, List.getElem_cons_succ, List.getElem_cons_zero, Act.put, List.setIfInBounds_toArray, List.set_cons_zero, List.set_cons_succ])
      have F : lk _ W.heap.size = _ ∧ W.heap.size ≤ W.heap.size ∧ Below W.heap.size W _ := ⟨Y5, hg5, bb⟩
      generalize World.setRow w1 _ _ = W5 at F ⊢
      generalize hgg : W.heap.size = g5
      have F' : lk W5 g5 = some (.cells (cw (advL L)).toArray 32 (0, 0)) ∧ W.heap.size ≤ g5 ∧ Below W.heap.size W W5 := ⟨by rw [← hgg]; exact F.1, by rw [← hgg]; exact Nat.le_refl _, F.2.2⟩
      clear hgg F
      revert F'; revert g5 W5
      exact key.out
  case kp =>
    show ∀ (W5 : World) (g5 : Nat), _
    intro W5 g5 ⟨Y5, hg5, bW⟩
    have Y2 := look_on X2 bW (by omega)
    have Y3 := look_on X3 bW (by omega)
    have Y4 := look_on X4 bW (by omega)
    have hW5 : g5 < W5.heap.size := by
      have := Y5
      unfold lk at this
      exact (Array.getElem?_eq_some_iff.1 this).1
    have HB5 : Below w.heap.size w W5 := below_step HB bW
    clear X2 X3 X4 bW hrg hcm bb HA hHeld
    have C2 : ∀ k : Nat, k < 25 → W5.cell? ⟨w.heap.size, k, none⟩ = some (.int .u32 (wd L k)) := fun k hk => (cell_lk Y2 k).trans (by simpa using cw_at hLL hk)
    have C5 : ∀ k : Nat, k < 25 → W5.cell? ⟨g5, k, none⟩ = some (.int .u32 (wd (advL L) k)) := fun k hk => (cell_lk Y5 k).trans (by simpa using cw_at hAL hk)
    have c0 : W5.cell? ⟨w.heap.size + 1, 0, none⟩ = _ := cell_lk Y3 0
    have c1 : W5.cell? ⟨w.heap.size + 1, 1, none⟩ = _ := cell_lk Y3 1
    have c2 : W5.cell? ⟨w.heap.size + 1, 2, none⟩ = _ := cell_lk Y3 2
    have c3 : W5.cell? ⟨w.heap.size + 1, 3, none⟩ = _ := cell_lk Y3 3
    have c4 : W5.cell? ⟨w.heap.size + 1, 4, none⟩ = _ := cell_lk Y3 4
    simp at c0 c1 c2 c3 c4
    have ca := C2 a ha25
    have cb := C2 b hb25
    repeat' (first
      | (with_reducible refine then_normal ?_) | (with_reducible refine wp_exit ?_) | (with_reducible refine wp_ret ?_) | (with_reducible refine then_exit ?_) | (with_reducible refine blk_hit ?_) | (with_reducible refine blk_pass (by decide) ?_) | (with_reducible refine then_ret ?_) | (with_reducible refine blk_ret ?_) | (with_reducible refine blk_normal ?_)
      | (refine wpList_load_look rfl _ rfl _ rfl (fun ob hob => ?_); (first | rw [Y5] at hob | rw [Y2] at hob); subst hob; refine ⟨_, rfl, by assumption, ?_⟩; simp only [Act.put, List.setIfInBounds_toArray, List.set_cons_zero, List.set_cons_succ])
      | go_values | go_skip | go_guarded | go_step | go_upon | (simp only [Int.not_lt, Int.not_le] at *; go_simp) | (go_values <;> (try go_simp)) | (go_ite <;> go_prune <;> (try go_simp)))
    have s0 : W5.drew.cell? ⟨w.heap.size + 1, 0, none⟩ = _ := c0
    have s1 : W5.drew.cell? ⟨w.heap.size + 1, 1, none⟩ = _ := c1
    have s2 : W5.drew.cell? ⟨w.heap.size + 1, 2, none⟩ = _ := c2
    have s3 : W5.drew.cell? ⟨w.heap.size, a, none⟩ = _ := ca
    have s4 : W5.drew.cell? ⟨w.heap.size, b, none⟩ = _ := cb
    go_region_held3 (fun w' => w'.cell? ⟨w.heap.size + 1, 0, none⟩ = some (.int .i64 40) ∧ w'.cell? ⟨w.heap.size + 1, 1, none⟩ = some (.int .i64 a) ∧ w'.cell? ⟨w.heap.size + 1, 2, none⟩ = some (.int .i64 b) ∧ w'.cell? ⟨w.heap.size, a, none⟩ = some (.int .u32 (wd L a)) ∧ w'.cell? ⟨w.heap.size, b, none⟩ = some (.int .u32 (wd L b))) (first | exact ⟨s0, s1, s2, s3, s4⟩ | go_keep) (first | (go_at_call 55; refine (HBR.out _).mono ?_; rintro e w6 ⟨rfl, rfl⟩))
    have V5 : lk W5.drew g5 = _ := Y5
    have V4 : lk W5.drew (w.heap.size + 2) = _ := Y4
    have HB6 : Below w.heap.size w W5.drew := HB5.drew
    have hw6 : g5 < W5.drew.heap.size := hW5
    have d5 : W5.drew.cell? ⟨g5, 16, none⟩ = some (.int .u32 (wd (advL L) 16)) := C5 16 (by omega)
    have f5 : W5.drew.frozen? ⟨g5, 16, none⟩ = false := frozen_lk V5 16
    clear s0 s1 s2 s3 s4 ca cb c0 c1 c2 c3 c4 C2 C5 Y5 Y4 Y2 Y3 HB5
    generalize W5.drew = W6 at *
    cases tk
    · repeat' (first
        | (with_reducible refine then_normal ?_) | (with_reducible refine wp_exit ?_) | (with_reducible refine wp_ret ?_) | (with_reducible refine then_exit ?_) | (with_reducible refine blk_hit ?_) | (with_reducible refine blk_pass (by decide) ?_) | (with_reducible refine then_ret ?_) | (with_reducible refine blk_ret ?_) | (with_reducible refine blk_normal ?_)
        | (refine wpList_load_look rfl _ rfl _ rfl (fun ob hob => ?_); rw [V5] at hob; subst hob; refine ⟨_, rfl, hAL, ?_⟩; simp only [Act.put, List.setIfInBounds_toArray, List.set_cons_zero, List.set_cons_succ])
        | (refine wpList_store_look rfl _ _ rfl _ rfl rfl hAL (fun ob hob => by (rw [V4] at hob; subst hob; exact ⟨_, rfl, Z25_len⟩)) (fun w2 hw2 => ?_); subst hw2; simp only [Act.put, List.setIfInBounds_toArray, List.set_cons_zero, List.set_cons_succ])
        | go_values | go_skip | go_guarded | go_step | go_upon | (simp only [Int.not_lt, Int.not_le] at *; go_simp) | (go_values <;> (try go_simp)) | (go_ite <;> go_prune <;> (try go_simp)))
      exact bodyPost_ret (v := cpV (advL L)) (results_cpu rfl _ _ (w.heap.size + 2) rfl hAL (lk_row V4)) rfl ⟨rfl, below_setRow HB6 _ (by omega) _⟩
    · have eT := Lib.hid (show (wd L 16 + 4 * (m % 4294967296)) % 4294967296 = (wd L 16 + 4 * m) % 4294967296 by omega)
      generalize hT : (wd L 16 + 4 * (m % 4294967296)) % 4294967296 = T at *
      have U5 := lk_set V5 16 T
      have U4 := lk_setN (k := 16) (v := .int .u32 T) V4 (show ¬ g5 = w.heap.size + 2 by omega)
      have hRT : ((advL L).set 16 T).length = 25 := by rw [List.length_set]; exact hAL
      have HB7 : Below w.heap.size w (W6.setCell ⟨g5, 16, none⟩ (.int .u32 T)) := HB6.setCell (show w.heap.size ≤ g5 by omega) _
      repeat' (first
        | (with_reducible refine then_normal ?_) | (with_reducible refine wp_exit ?_) | (with_reducible refine wp_ret ?_) | (with_reducible refine then_exit ?_) | (with_reducible refine blk_hit ?_) | (with_reducible refine blk_pass (by decide) ?_) | (with_reducible refine then_ret ?_) | (with_reducible refine blk_ret ?_) | (with_reducible refine blk_normal ?_)
        | (refine wpList_load_look rfl _ rfl _ rfl (fun ob hob => ?_); rw [U5] at hob; subst hob; refine ⟨_, rfl, hRT, ?_⟩; simp only [Act.put, List.setIfInBounds_toArray, List.set_cons_zero, List.set_cons_succ])
        | (refine wpList_store_look rfl _ _ rfl _ rfl rfl hRT (fun ob hob => by (rw [U4] at hob; subst hob; exact ⟨_, rfl, Z25_len⟩)) (fun w2 hw2 => ?_); subst hw2; simp only [Act.put, List.setIfInBounds_toArray, List.set_cons_zero, List.set_cons_succ])
        | go_values | go_skip | go_guarded | go_step | go_upon | (simp only [Int.not_lt, Int.not_le] at *; go_simp) | (go_values <;> (try go_simp)) | (go_ite <;> go_prune <;> (try go_simp)))
      exact bodyPost_ret (v := cpV ((advL L).set 16 T)) (results_cpu rfl _ _ (w.heap.size + 2) rfl hRT (lk_row U4)) rfl ⟨by rw [eT.out, hset], below_setRow HB7 _ (by omega) _⟩
set_option maxHeartbeats 4000000 in
theorem step_br41 (L : List Int) (A B c m : Int) (a b : Nat) (w : World) (hL : C25 L) (ha : A = a) (a1 : a < 16) (hb : B = b) (b1 : b < 16) (m0 : -32768 ≤ m) (m1 : m ≤ 65535) :
    Calls Tryd.prog 33 #[cpV L, instV 41 A B c m] w fun e w' => e = .returned (cpV (if tkn 41 (wd L a) (wd L b) = true then L.set 16 ((wd L 16 + 4 * m) % 4294967296) else advL L)) ∧ Below w.heap.size w w' := by
  subst ha hb
  have hLL := hL.1
  have HA := Lib.hid (fun W => advance_any L W hL)
  have HBR := Lib.hid (fun W => branches_any 41 (wd L a) (wd L b) W (by decide))
  have hset : (advL L).set 16 ((wd L 16 + 4 * m) % 4294967296) = L.set 16 ((wd L 16 + 4 * m) % 4294967296) := by unfold advL; rw [List.set_set]
  have hb0 : (0 : Int) ≤ b := by omega
  have hb1 : (b : Int) < 16 := by omega
  have hb25 : b < 25 := by omega
  have ha0 : (0 : Int) ≤ a := by omega
  have ha1 : (a : Int) < 16 := by omega
  have ha25 : a < 25 := by omega
  generalize htk : tkn 41 (wd L a) (wd L b) = tk at *
  clear htk
  unfold instV
  obtain ⟨F1, F2, F3, -⟩ := cw_facts
  go_enter Tryd.func33, Tryd.ntmps33
  go_wp2_with (first
    | (refine wpList_box_box rfl _ rfl rfl ?_; simp only [Act.put, List.setIfInBounds_toArray, List.set_cons_zero, List.set_cons_succ])
    | (refine wpList_alloc_box rfl rfl ?_; simp only [Act.put, List.setIfInBounds_toArray, List.set_cons_zero, List.set_cons_succ]))
  generalize hW : World.alloc (World.alloc (World.alloc w _) _) _ = W
  have X2 : lk W w.heap.size = some (.cells (cw L).toArray 32 (0, 0)) := by rw [← hW]; simp [look_alloc] <;> omega
  have X3 : lk W (w.heap.size + 1) = some (.cells #[.int .i64 41, .int .i64 a, .int .i64 b, .int .i64 c, .int .i32 m] 27 (0, 0)) := by rw [← hW]; simp [look_alloc]
  have X4 : lk W (w.heap.size + 2) = some (.cells (cw Z25).toArray 32 (0, 0)) := by rw [← hW]; simp [look_alloc]
  have HB : Below w.heap.size w W := by rw [← hW]; (repeat' (first | with_reducible exact Below.refl _ _ | with_reducible assumption | with_reducible apply below_drewN | with_reducible apply Below.drew | with_reducible apply Below.setCell | with_reducible apply Below.alloc | (simp; done) | omega | (simp; omega)))
  have hsz : w.heap.size + 2 < W.heap.size := by rw [← hW]; simp
  clear hW
  obtain ⟨fs, hu⟩ := undCpu
  have hi : (Tryd.prog.info? 32).map (·.size) = some (cw L).length := by rw [cw_len hLL]; exact infCpu
  have hrg : W.rangeAt w.heap.size 0 (cw L) := fun j u hu => by rw [Nat.zero_add]; exact (cell_lk X2 j).trans (by simpa using hu)
  have hcm : W.cell? ⟨w.heap.size + 1, 4, none⟩ = some (.int .i32 m) := cell_lk X3 4
  have bb : Below W.heap.size W W.drew := (Below.refl _ _).drew
  unfold cpV at HA
  refine wp_region_held_drew (S := fun w' => w'.rangeAt w.heap.size 0 (cw L) ∧ w'.cell? ⟨w.heap.size + 1, 4, none⟩ = some (.int .i32 m)) (by kernel_rfl) ⟨range_on hrg bb (by omega), cell_on hcm bb⟩ (fun hHeld => ?_)
  (refine' wpAnyH_take (i := 0) (oi := _) (v := _) rfl (by kernel_rfl) (by kernel_rfl) (by kernel_rfl) (fun _ _ _ h => h) (yieldsIf_load_mid (by rfl) _ _ rfl _ 0 rfl (cw L) _ (fun w hw => hw.1) hu rfl hi) (by assumption) ?_; (try simp only [List.getElem_toArray, List.getElem_cons_succ, List.getElem_cons_zero, Act.put, List.setIfInBounds_toArray, List.set_cons_zero, List.set_cons_succ]))
  (refine wpAnyH_take (i := 2) (oi := _) (v := ?_) rfl (by kernel_rfl) (by kernel_rfl) (by kernel_rfl) (fun _ _ _ h => h) (Or.inl ⟨by rfl, ?_⟩) (by assumption) ?_; rotate_left 1; focus (intro w hSw; go_simp; try with_reducible rfl); (try simp only [List.getElem_toArray, List.getElem_cons_succ, List.getElem_cons_zero, Act.put, List.setIfInBounds_toArray, List.set_cons_zero, List.set_cons_succ]))
  (refine wpAnyH_take (i := 3) (oi := _) (v := ?_) rfl (by kernel_rfl) (by kernel_rfl) (by kernel_rfl) (fun _ _ _ h => h) (Or.inl ⟨by rfl, ?_⟩) (by assumption) ?_; rotate_left 1; focus (rintro w ⟨-, hSw⟩; go_simp; try with_reducible rfl); (try simp only [List.getElem_toArray, List.getElem_cons_succ, List.getElem_cons_zero, Act.put, List.setIfInBounds_toArray, List.set_cons_zero, List.set_cons_succ]))
  (refine wpAnyH_take (i := 4) (oi := _) (v := ?_) rfl (by kernel_rfl) (by kernel_rfl) (by kernel_rfl) (fun _ _ _ h => h) (Or.inl ⟨by rfl, ?_⟩) (by assumption) ?_; rotate_left 1; focus (intro w hSw; go_simp; try with_reducible rfl); (try simp only [List.getElem_toArray, List.getElem_cons_succ, List.getElem_cons_zero, Act.put, List.setIfInBounds_toArray, List.set_cons_zero, List.set_cons_succ]))
  have hAL := hL.adv.1
  refine (fun (key : Hid ?T) => ?main) ?kp
  case main =>
    refine wpAnyH_ready (rs := [1, 5]) (by kernel_rfl) (by simp) ?_
    refine AllReadyH.cons (o := _) rfl (fun K hK => ?_) (AllReadyH.cons (o := _) rfl (fun K hK => ?_) AllReadyH.nil)
    · rw [if_pos (by rfl)]
      go_simp
      refine (HA.out _).mono ?_
      rintro e w1 ⟨rfl, hb1⟩
      replace bb := below_step bb hb1
      (try dsimp only)
      refine hK.out _ _ ?_ (fun hHeld => ?_)
      · exact ⟨range_on hrg bb (by omega), cell_on hcm bb⟩
      clear hK K hb1
      (try simp only [List.getElem_toArray, List.getElem_cons_succ, List.getElem_cons_zero, Act.put, List.setIfInBounds_toArray, List.set_cons_zero, List.set_cons_succ])
      refine wpAnyH_ready (rs := [5]) (by kernel_rfl) (by simp) ?_
      refine AllReadyH.cons (o := _) rfl (fun K hK => ?_) AllReadyH.nil
      rw [if_pos (by rfl)]
      refine wp_alloc_cpu rfl ?_
      have hsz1 := bb.size
      replace bb := bb.alloc hsz1 (.cells (cw Z25).toArray 32)
      (try dsimp only)
      refine hK.out _ _ ?_ (fun hHeld => ?_)
      · exact ⟨range_on hrg bb (by omega), cell_on hcm bb⟩
      clear hK K
      (try simp only [List.getElem_toArray, List.getElem_cons_succ, List.getElem_cons_zero, Act.put, List.setIfInBounds_toArray, List.set_cons_zero, List.set_cons_succ])
      have Y5 : lk (w1.alloc (.cells (cw Z25).toArray 32)) w1.heap.size = some (.cells (cw Z25).toArray 32 (0, 0)) := by rw [look_alloc, if_pos rfl]
      have hg5 := hsz1
      refine wpAnyH_ready (rs := [6]) (by kernel_rfl) (by simp) ?_
      refine AllReadyH.cons (o := _) rfl (fun K hK => ?_) AllReadyH.nil
      rw [if_pos (by rfl)]
      refine wp_store_cpu _ _ rfl _ rfl rfl hAL Y5 Z25_len ?_
      replace Y5 := lk_row (M := advL L) Y5
      replace bb := below_setRow bb _ hg5 (cw (advL L)).toArray
      (try dsimp only)
      refine hK.out _ _ ?_ (fun hHeld => ?_)
      · exact ⟨range_on hrg bb (by omega), cell_on hcm bb⟩
      clear hK K
      (try simp only [List.getElem_toArray, List.getElem_cons_succ, List.getElem_cons_zero, Act.put, List.setIfInBounds_toArray, List.set_cons_zero, List.set_cons_succ])
      (refine wpAnyH_take (i := 7) (oi := _) (v := ?_) rfl (by kernel_rfl) (by kernel_rfl) (by kernel_rfl) (fun _ _ _ h => h) (Or.inl ⟨by rfl, ?_⟩) (by assumption) ?_; rotate_left 1; focus (intro w hSw; go_simp; try with_reducible rfl); (try simp only [List.getElem_toArray, List.getElem_cons_succ, List.getElem_cons_zero, Act.put, List.setIfInBounds_toArray, List.set_cons_zero, List.set_cons_succ]))
      refine wpAnyH_done (by kernel_rfl) ?_ _
      (try simp only [List.getElem_toArray, List.getElem_cons_succ, List.getElem_cons_zero, Act.put, List.setIfInBounds_toArray, List.set_cons_zero, List.set_cons_succ])
      have F : lk _ w1.heap.size = _ ∧ W.heap.size ≤ w1.heap.size ∧ Below W.heap.size W _ := ⟨Y5, hg5, bb⟩
      generalize World.setRow (World.alloc w1 _) _ _ = W5 at F ⊢
      generalize w1.heap.size = g5 at F ⊢
      revert F; revert g5 W5
      exact key.out
    · rw [if_pos (by rfl)]
      refine wp_alloc_cpu rfl ?_
      have Y5 : lk (W.drew.alloc (.cells (cw Z25).toArray 32)) W.heap.size = some (.cells (cw Z25).toArray 32 (0, 0)) := by rw [look_alloc]; exact if_pos rfl
      have hg5 : W.heap.size ≤ W.heap.size := Nat.le_refl _
      replace bb := bb.alloc hg5 (.cells (cw Z25).toArray 32)
      have hs5 : W.heap.size < (W.drew.alloc (.cells (cw Z25).toArray 32)).heap.size := by simp
      (try dsimp only)
      refine hK.out _ _ ?_ (fun hHeld => ?_)
      · exact ⟨range_on hrg bb (by omega), cell_on hcm bb⟩
      clear hK K
      (try simp only [List.getElem_toArray, List.getElem_cons_succ, List.getElem_cons_zero, Act.put, List.setIfInBounds_toArray, List.set_cons_zero, List.set_cons_succ])
      refine wpAnyH_ready (rs := [1]) (by kernel_rfl) (by simp) ?_
      refine AllReadyH.cons (o := _) rfl (fun K hK => ?_) AllReadyH.nil
      rw [if_pos (by rfl)]
      go_simp
      refine (HA.out _).mono ?_
      rintro e w1 ⟨rfl, hb1⟩
      replace Y5 := look_on Y5 hb1 hs5
      replace bb := below_step bb hb1
      (try dsimp only)
      refine hK.out _ _ ?_ (fun hHeld => ?_)
      · exact ⟨range_on hrg bb (by omega), cell_on hcm bb⟩
      clear hK K hb1 hs5
      (try simp only [List.getElem_toArray, List.getElem_cons_succ, List.getElem_cons_zero, Act.put, List.setIfInBounds_toArray, List.set_cons_zero, List.set_cons_succ])
      refine wpAnyH_ready (rs := [6]) (by kernel_rfl) (by simp) ?_
      refine AllReadyH.cons (o := _) rfl (fun K hK => ?_) AllReadyH.nil
      rw [if_pos (by rfl)]
      refine wp_store_cpu _ _ rfl _ rfl rfl hAL Y5 Z25_len ?_
      replace Y5 := lk_row (M := advL L) Y5
      replace bb := below_setRow bb _ hg5 (cw (advL L)).toArray
      (try dsimp only)
      refine hK.out _ _ ?_ (fun hHeld => ?_)
      · exact ⟨range_on hrg bb (by omega), cell_on hcm bb⟩
      clear hK K
      (try simp only [List.getElem_toArray, List.getElem_cons_succ, List.getElem_cons_zero, Act.put, List.setIfInBounds_toArray, List.set_cons_zero, List.set_cons_succ])
      (refine wpAnyH_take (i := 7) (oi := _) (v := ?_) rfl (by kernel_rfl) (by kernel_rfl) (by kernel_rfl) (fun _ _ _ h => h) (Or.inl ⟨by rfl, ?_⟩) (by assumption) ?_; rotate_left 1; focus (intro w hSw; go_simp; try with_reducible rfl); (try simp only [List.getElem_toArray, List.getElem_cons_succ, List.getElem_cons_zero, Act.put, List.setIfInBounds_toArray, List.set_cons_zero, List.set_cons_succ]))
      refine wpAnyH_done (by kernel_rfl) ?_ _
      (try simp only [List.getElem_toArray, List.getElem_cons_succ, List.getElem_cons_zero, Act.put, List.setIfInBounds_toArray, List.set_cons_zero, List.set_cons_succ])
      have F : lk _ W.heap.size = _ ∧ W.heap.size ≤ W.heap.size ∧ Below W.heap.size W _ := ⟨Y5, hg5, bb⟩
      generalize World.setRow w1 _ _ = W5 at F ⊢
      generalize hgg : W.heap.size = g5
      have F' : lk W5 g5 = some (.cells (cw (advL L)).toArray 32 (0, 0)) ∧ W.heap.size ≤ g5 ∧ Below W.heap.size W W5 := ⟨by rw [← hgg]; exact F.1, by rw [← hgg]; exact Nat.le_refl _, F.2.2⟩
      clear hgg F
      revert F'; revert g5 W5
      exact key.out
  case kp =>
    show ∀ (W5 : World) (g5 : Nat), _
    intro W5 g5 ⟨Y5, hg5, bW⟩
    have Y2 := look_on X2 bW (by omega)
    have Y3 := look_on X3 bW (by omega)
    have Y4 := look_on X4 bW (by omega)
    have hW5 : g5 < W5.heap.size := by
      have := Y5
      unfold lk at this
      exact (Array.getElem?_eq_some_iff.1 this).1
    have HB5 : Below w.heap.size w W5 := below_step HB bW
    clear X2 X3 X4 bW hrg hcm bb HA hHeld
    have C2 : ∀ k : Nat, k < 25 → W5.cell? ⟨w.heap.size, k, none⟩ = some (.int .u32 (wd L k)) := fun k hk => (cell_lk Y2 k).trans (by simpa using cw_at hLL hk)
    have C5 : ∀ k : Nat, k < 25 → W5.cell? ⟨g5, k, none⟩ = some (.int .u32 (wd (advL L) k)) := fun k hk => (cell_lk Y5 k).trans (by simpa using cw_at hAL hk)
    have c0 : W5.cell? ⟨w.heap.size + 1, 0, none⟩ = _ := cell_lk Y3 0
    have c1 : W5.cell? ⟨w.heap.size + 1, 1, none⟩ = _ := cell_lk Y3 1
    have c2 : W5.cell? ⟨w.heap.size + 1, 2, none⟩ = _ := cell_lk Y3 2
    have c3 : W5.cell? ⟨w.heap.size + 1, 3, none⟩ = _ := cell_lk Y3 3
    have c4 : W5.cell? ⟨w.heap.size + 1, 4, none⟩ = _ := cell_lk Y3 4
    simp at c0 c1 c2 c3 c4
    have ca := C2 a ha25
    have cb := C2 b hb25
    repeat' (first
      | (with_reducible refine then_normal ?_) | (with_reducible refine wp_exit ?_) | (with_reducible refine wp_ret ?_) | (with_reducible refine then_exit ?_) | (with_reducible refine blk_hit ?_) | (with_reducible refine blk_pass (by decide) ?_) | (with_reducible refine then_ret ?_) | (with_reducible refine blk_ret ?_) | (with_reducible refine blk_normal ?_)
      | (refine wpList_load_look rfl _ rfl _ rfl (fun ob hob => ?_); (first | rw [Y5] at hob | rw [Y2] at hob); subst hob; refine ⟨_, rfl, by assumption, ?_⟩; simp only [Act.put, List.setIfInBounds_toArray, List.set_cons_zero, List.set_cons_succ])
      | go_values | go_skip | go_guarded | go_step | go_upon | (simp only [Int.not_lt, Int.not_le] at *; go_simp) | (go_values <;> (try go_simp)) | (go_ite <;> go_prune <;> (try go_simp)))
    have s0 : W5.drew.cell? ⟨w.heap.size + 1, 0, none⟩ = _ := c0
    have s1 : W5.drew.cell? ⟨w.heap.size + 1, 1, none⟩ = _ := c1
    have s2 : W5.drew.cell? ⟨w.heap.size + 1, 2, none⟩ = _ := c2
    have s3 : W5.drew.cell? ⟨w.heap.size, a, none⟩ = _ := ca
    have s4 : W5.drew.cell? ⟨w.heap.size, b, none⟩ = _ := cb
    go_region_held3 (fun w' => w'.cell? ⟨w.heap.size + 1, 0, none⟩ = some (.int .i64 41) ∧ w'.cell? ⟨w.heap.size + 1, 1, none⟩ = some (.int .i64 a) ∧ w'.cell? ⟨w.heap.size + 1, 2, none⟩ = some (.int .i64 b) ∧ w'.cell? ⟨w.heap.size, a, none⟩ = some (.int .u32 (wd L a)) ∧ w'.cell? ⟨w.heap.size, b, none⟩ = some (.int .u32 (wd L b))) (first | exact ⟨s0, s1, s2, s3, s4⟩ | go_keep) (first | (go_at_call 55; refine (HBR.out _).mono ?_; rintro e w6 ⟨rfl, rfl⟩))
    have V5 : lk W5.drew g5 = _ := Y5
    have V4 : lk W5.drew (w.heap.size + 2) = _ := Y4
    have HB6 : Below w.heap.size w W5.drew := HB5.drew
    have hw6 : g5 < W5.drew.heap.size := hW5
    have d5 : W5.drew.cell? ⟨g5, 16, none⟩ = some (.int .u32 (wd (advL L) 16)) := C5 16 (by omega)
    have f5 : W5.drew.frozen? ⟨g5, 16, none⟩ = false := frozen_lk V5 16
    clear s0 s1 s2 s3 s4 ca cb c0 c1 c2 c3 c4 C2 C5 Y5 Y4 Y2 Y3 HB5
    generalize W5.drew = W6 at *
    cases tk
    · repeat' (first
        | (with_reducible refine then_normal ?_) | (with_reducible refine wp_exit ?_) | (with_reducible refine wp_ret ?_) | (with_reducible refine then_exit ?_) | (with_reducible refine blk_hit ?_) | (with_reducible refine blk_pass (by decide) ?_) | (with_reducible refine then_ret ?_) | (with_reducible refine blk_ret ?_) | (with_reducible refine blk_normal ?_)
        | (refine wpList_load_look rfl _ rfl _ rfl (fun ob hob => ?_); rw [V5] at hob; subst hob; refine ⟨_, rfl, hAL, ?_⟩; simp only [Act.put, List.setIfInBounds_toArray, List.set_cons_zero, List.set_cons_succ])
        | (refine wpList_store_look rfl _ _ rfl _ rfl rfl hAL (fun ob hob => by (rw [V4] at hob; subst hob; exact ⟨_, rfl, Z25_len⟩)) (fun w2 hw2 => ?_); subst hw2; simp only [Act.put, List.setIfInBounds_toArray, List.set_cons_zero, List.set_cons_succ])
        | go_values | go_skip | go_guarded | go_step | go_upon | (simp only [Int.not_lt, Int.not_le] at *; go_simp) | (go_values <;> (try go_simp)) | (go_ite <;> go_prune <;> (try go_simp)))
      exact bodyPost_ret (v := cpV (advL L)) (results_cpu rfl _ _ (w.heap.size + 2) rfl hAL (lk_row V4)) rfl ⟨rfl, below_setRow HB6 _ (by omega) _⟩
    · have eT := Lib.hid (show (wd L 16 + 4 * (m % 4294967296)) % 4294967296 = (wd L 16 + 4 * m) % 4294967296 by omega)
      generalize hT : (wd L 16 + 4 * (m % 4294967296)) % 4294967296 = T at *
      have U5 := lk_set V5 16 T
      have U4 := lk_setN (k := 16) (v := .int .u32 T) V4 (show ¬ g5 = w.heap.size + 2 by omega)
      have hRT : ((advL L).set 16 T).length = 25 := by rw [List.length_set]; exact hAL
      have HB7 : Below w.heap.size w (W6.setCell ⟨g5, 16, none⟩ (.int .u32 T)) := HB6.setCell (show w.heap.size ≤ g5 by omega) _
      repeat' (first
        | (with_reducible refine then_normal ?_) | (with_reducible refine wp_exit ?_) | (with_reducible refine wp_ret ?_) | (with_reducible refine then_exit ?_) | (with_reducible refine blk_hit ?_) | (with_reducible refine blk_pass (by decide) ?_) | (with_reducible refine then_ret ?_) | (with_reducible refine blk_ret ?_) | (with_reducible refine blk_normal ?_)
        | (refine wpList_load_look rfl _ rfl _ rfl (fun ob hob => ?_); rw [U5] at hob; subst hob; refine ⟨_, rfl, hRT, ?_⟩; simp only [Act.put, List.setIfInBounds_toArray, List.set_cons_zero, List.set_cons_succ])
        | (refine wpList_store_look rfl _ _ rfl _ rfl rfl hRT (fun ob hob => by (rw [U4] at hob; subst hob; exact ⟨_, rfl, Z25_len⟩)) (fun w2 hw2 => ?_); subst hw2; simp only [Act.put, List.setIfInBounds_toArray, List.set_cons_zero, List.set_cons_succ])
        | go_values | go_skip | go_guarded | go_step | go_upon | (simp only [Int.not_lt, Int.not_le] at *; go_simp) | (go_values <;> (try go_simp)) | (go_ite <;> go_prune <;> (try go_simp)))
      exact bodyPost_ret (v := cpV ((advL L).set 16 T)) (results_cpu rfl _ _ (w.heap.size + 2) rfl hRT (lk_row U4)) rfl ⟨by rw [eT.out, hset], below_setRow HB7 _ (by omega) _⟩
set_option maxHeartbeats 4000000 in
theorem step_br42 (L : List Int) (A B c m : Int) (a b : Nat) (w : World) (hL : C25 L) (ha : A = a) (a1 : a < 16) (hb : B = b) (b1 : b < 16) (m0 : -32768 ≤ m) (m1 : m ≤ 65535) :
    Calls Tryd.prog 33 #[cpV L, instV 42 A B c m] w fun e w' => e = .returned (cpV (if tkn 42 (wd L a) (wd L b) = true then L.set 16 ((wd L 16 + 4 * m) % 4294967296) else advL L)) ∧ Below w.heap.size w w' := by
  subst ha hb
  have hLL := hL.1
  have HA := Lib.hid (fun W => advance_any L W hL)
  have HBR := Lib.hid (fun W => branches_any 42 (wd L a) (wd L b) W (by decide))
  have hset : (advL L).set 16 ((wd L 16 + 4 * m) % 4294967296) = L.set 16 ((wd L 16 + 4 * m) % 4294967296) := by unfold advL; rw [List.set_set]
  have hb0 : (0 : Int) ≤ b := by omega
  have hb1 : (b : Int) < 16 := by omega
  have hb25 : b < 25 := by omega
  have ha0 : (0 : Int) ≤ a := by omega
  have ha1 : (a : Int) < 16 := by omega
  have ha25 : a < 25 := by omega
  generalize htk : tkn 42 (wd L a) (wd L b) = tk at *
  clear htk
  unfold instV
  obtain ⟨F1, F2, F3, -⟩ := cw_facts
  go_enter Tryd.func33, Tryd.ntmps33
  go_wp2_with (first
    | (refine wpList_box_box rfl _ rfl rfl ?_; simp only [Act.put, List.setIfInBounds_toArray, List.set_cons_zero, List.set_cons_succ])
    | (refine wpList_alloc_box rfl rfl ?_; simp only [Act.put, List.setIfInBounds_toArray, List.set_cons_zero, List.set_cons_succ]))
  generalize hW : World.alloc (World.alloc (World.alloc w _) _) _ = W
  have X2 : lk W w.heap.size = some (.cells (cw L).toArray 32 (0, 0)) := by rw [← hW]; simp [look_alloc] <;> omega
  have X3 : lk W (w.heap.size + 1) = some (.cells #[.int .i64 42, .int .i64 a, .int .i64 b, .int .i64 c, .int .i32 m] 27 (0, 0)) := by rw [← hW]; simp [look_alloc]
  have X4 : lk W (w.heap.size + 2) = some (.cells (cw Z25).toArray 32 (0, 0)) := by rw [← hW]; simp [look_alloc]
  have HB : Below w.heap.size w W := by rw [← hW]; (repeat' (first | with_reducible exact Below.refl _ _ | with_reducible assumption | with_reducible apply below_drewN | with_reducible apply Below.drew | with_reducible apply Below.setCell | with_reducible apply Below.alloc | (simp; done) | omega | (simp; omega)))
  have hsz : w.heap.size + 2 < W.heap.size := by rw [← hW]; simp
  clear hW
  obtain ⟨fs, hu⟩ := undCpu
  have hi : (Tryd.prog.info? 32).map (·.size) = some (cw L).length := by rw [cw_len hLL]; exact infCpu
  have hrg : W.rangeAt w.heap.size 0 (cw L) := fun j u hu => by rw [Nat.zero_add]; exact (cell_lk X2 j).trans (by simpa using hu)
  have hcm : W.cell? ⟨w.heap.size + 1, 4, none⟩ = some (.int .i32 m) := cell_lk X3 4
  have bb : Below W.heap.size W W.drew := (Below.refl _ _).drew
  unfold cpV at HA
  refine wp_region_held_drew (S := fun w' => w'.rangeAt w.heap.size 0 (cw L) ∧ w'.cell? ⟨w.heap.size + 1, 4, none⟩ = some (.int .i32 m)) (by kernel_rfl) ⟨range_on hrg bb (by omega), cell_on hcm bb⟩ (fun hHeld => ?_)
  (refine' wpAnyH_take (i := 0) (oi := _) (v := _) rfl (by kernel_rfl) (by kernel_rfl) (by kernel_rfl) (fun _ _ _ h => h) (yieldsIf_load_mid (by rfl) _ _ rfl _ 0 rfl (cw L) _ (fun w hw => hw.1) hu rfl hi) (by assumption) ?_; (try simp only [List.getElem_toArray, List.getElem_cons_succ, List.getElem_cons_zero, Act.put, List.setIfInBounds_toArray, List.set_cons_zero, List.set_cons_succ]))
  (refine wpAnyH_take (i := 2) (oi := _) (v := ?_) rfl (by kernel_rfl) (by kernel_rfl) (by kernel_rfl) (fun _ _ _ h => h) (Or.inl ⟨by rfl, ?_⟩) (by assumption) ?_; rotate_left 1; focus (intro w hSw; go_simp; try with_reducible rfl); (try simp only [List.getElem_toArray, List.getElem_cons_succ, List.getElem_cons_zero, Act.put, List.setIfInBounds_toArray, List.set_cons_zero, List.set_cons_succ]))
  (refine wpAnyH_take (i := 3) (oi := _) (v := ?_) rfl (by kernel_rfl) (by kernel_rfl) (by kernel_rfl) (fun _ _ _ h => h) (Or.inl ⟨by rfl, ?_⟩) (by assumption) ?_; rotate_left 1; focus (rintro w ⟨-, hSw⟩; go_simp; try with_reducible rfl); (try simp only [List.getElem_toArray, List.getElem_cons_succ, List.getElem_cons_zero, Act.put, List.setIfInBounds_toArray, List.set_cons_zero, List.set_cons_succ]))
  (refine wpAnyH_take (i := 4) (oi := _) (v := ?_) rfl (by kernel_rfl) (by kernel_rfl) (by kernel_rfl) (fun _ _ _ h => h) (Or.inl ⟨by rfl, ?_⟩) (by assumption) ?_; rotate_left 1; focus (intro w hSw; go_simp; try with_reducible rfl); (try simp only [List.getElem_toArray, List.getElem_cons_succ, List.getElem_cons_zero, Act.put, List.setIfInBounds_toArray, List.set_cons_zero, List.set_cons_succ]))
  have hAL := hL.adv.1
  refine (fun (key : Hid ?T) => ?main) ?kp
  case main =>
    refine wpAnyH_ready (rs := [1, 5]) (by kernel_rfl) (by simp) ?_
    refine AllReadyH.cons (o := _) rfl (fun K hK => ?_) (AllReadyH.cons (o := _) rfl (fun K hK => ?_) AllReadyH.nil)
    · rw [if_pos (by rfl)]
      go_simp
      refine (HA.out _).mono ?_
      rintro e w1 ⟨rfl, hb1⟩
      replace bb := below_step bb hb1
      (try dsimp only)
      refine hK.out _ _ ?_ (fun hHeld => ?_)
      · exact ⟨range_on hrg bb (by omega), cell_on hcm bb⟩
      clear hK K hb1
      (try simp only [List.getElem_toArray, List.getElem_cons_succ, List.getElem_cons_zero, Act.put, List.setIfInBounds_toArray, List.set_cons_zero, List.set_cons_succ])
      refine wpAnyH_ready (rs := [5]) (by kernel_rfl) (by simp) ?_
      refine AllReadyH.cons (o := _) rfl (fun K hK => ?_) AllReadyH.nil
      rw [if_pos (by rfl)]
      refine wp_alloc_cpu rfl ?_
      have hsz1 := bb.size
      replace bb := bb.alloc hsz1 (.cells (cw Z25).toArray 32)
      (try dsimp only)
      refine hK.out _ _ ?_ (fun hHeld => ?_)
      · exact ⟨range_on hrg bb (by omega), cell_on hcm bb⟩
      clear hK K
      (try simp only [List.getElem_toArray, List.getElem_cons_succ, List.getElem_cons_zero, Act.put, List.setIfInBounds_toArray, List.set_cons_zero, List.set_cons_succ])
      have Y5 : lk (w1.alloc (.cells (cw Z25).toArray 32)) w1.heap.size = some (.cells (cw Z25).toArray 32 (0, 0)) := by rw [look_alloc, if_pos rfl]
      have hg5 := hsz1
      refine wpAnyH_ready (rs := [6]) (by kernel_rfl) (by simp) ?_
      refine AllReadyH.cons (o := _) rfl (fun K hK => ?_) AllReadyH.nil
      rw [if_pos (by rfl)]
      refine wp_store_cpu _ _ rfl _ rfl rfl hAL Y5 Z25_len ?_
      replace Y5 := lk_row (M := advL L) Y5
      replace bb := below_setRow bb _ hg5 (cw (advL L)).toArray
      (try dsimp only)
      refine hK.out _ _ ?_ (fun hHeld => ?_)
      · exact ⟨range_on hrg bb (by omega), cell_on hcm bb⟩
      clear hK K
      (try simp only [List.getElem_toArray, List.getElem_cons_succ, List.getElem_cons_zero, Act.put, List.setIfInBounds_toArray, List.set_cons_zero, List.set_cons_succ])
      (refine wpAnyH_take (i := 7) (oi := _) (v := ?_) rfl (by kernel_rfl) (by kernel_rfl) (by kernel_rfl) (fun _ _ _ h => h) (Or.inl ⟨by rfl, ?_⟩) (by assumption) ?_; rotate_left 1; focus (intro w hSw; go_simp; try with_reducible rfl); (try simp only [List.getElem_toArray, List.getElem_cons_succ, List.getElem_cons_zero, Act.put, List.setIfInBounds_toArray, List.set_cons_zero, List.set_cons_succ]))
      refine wpAnyH_done (by kernel_rfl) ?_ _
      (try simp only [List.getElem_toArray, List.getElem_cons_succ, List.getElem_cons_zero, Act.put, List.setIfInBounds_toArray, List.set_cons_zero, List.set_cons_succ])
      have F : lk _ w1.heap.size = _ ∧ W.heap.size ≤ w1.heap.size ∧ Below W.heap.size W _ := ⟨Y5, hg5, bb⟩
      generalize World.setRow (World.alloc w1 _) _ _ = W5 at F ⊢
      generalize w1.heap.size = g5 at F ⊢
      revert F; revert g5 W5
      exact key.out
    · rw [if_pos (by rfl)]
      refine wp_alloc_cpu rfl ?_
      have Y5 : lk (W.drew.alloc (.cells (cw Z25).toArray 32)) W.heap.size = some (.cells (cw Z25).toArray 32 (0, 0)) := by rw [look_alloc]; exact if_pos rfl
      have hg5 : W.heap.size ≤ W.heap.size := Nat.le_refl _
      replace bb := bb.alloc hg5 (.cells (cw Z25).toArray 32)
      have hs5 : W.heap.size < (W.drew.alloc (.cells (cw Z25).toArray 32)).heap.size := by simp
      (try dsimp only)
      refine hK.out _ _ ?_ (fun hHeld => ?_)
      · exact ⟨range_on hrg bb (by omega), cell_on hcm bb⟩
      clear hK K
      (try simp only [List.getElem_toArray, List.getElem_cons_succ, List.getElem_cons_zero, Act.put, List.setIfInBounds_toArray, List.set_cons_zero, List.set_cons_succ])
      refine wpAnyH_ready (rs := [1]) (by kernel_rfl) (by simp) ?_
      refine AllReadyH.cons (o := _) rfl (fun K hK => ?_) AllReadyH.nil
      rw [if_pos (by rfl)]
      go_simp
      refine (HA.out _).mono ?_
      rintro e w1 ⟨rfl, hb1⟩
      replace Y5 := look_on Y5 hb1 hs5
      replace bb := below_step bb hb1
      (try dsimp only)
      refine hK.out _ _ ?_ (fun hHeld => ?_)
      · exact ⟨range_on hrg bb (by omega), cell_on hcm bb⟩
      clear hK K hb1 hs5
      (try simp only [List.getElem_toArray, List.getElem_cons_succ, List.getElem_cons_zero, Act.put, List.setIfInBounds_toArray, List.set_cons_zero, List.set_cons_succ])
      refine wpAnyH_ready (rs := [6]) (by kernel_rfl) (by simp) ?_
      refine AllReadyH.cons (o := _) rfl (fun K hK => ?_) AllReadyH.nil
      rw [if_pos (by rfl)]
      refine wp_store_cpu _ _ rfl _ rfl rfl hAL Y5 Z25_len ?_
      replace Y5 := lk_row (M := advL L) Y5
      replace bb := below_setRow bb _ hg5 (cw (advL L)).toArray
      (try dsimp only)
      refine hK.out _ _ ?_ (fun hHeld => ?_)
      · exact ⟨range_on hrg bb (by omega), cell_on hcm bb⟩
      clear hK K
      (try simp only [List.getElem_toArray, List.getElem_cons_succ, List.getElem_cons_zero, Act.put, List.setIfInBounds_toArray, List.set_cons_zero, List.set_cons_succ])
      (refine wpAnyH_take (i := 7) (oi := _) (v := ?_) rfl (by kernel_rfl) (by kernel_rfl) (by kernel_rfl) (fun _ _ _ h => h) (Or.inl ⟨by rfl, ?_⟩) (by assumption) ?_; rotate_left 1; focus (intro w hSw; go_simp; try with_reducible rfl); (try simp only [List.getElem_toArray, List.getElem_cons_succ, List.getElem_cons_zero, Act.put, List.setIfInBounds_toArray, List.set_cons_zero, List.set_cons_succ]))
      refine wpAnyH_done (by kernel_rfl) ?_ _
      (try simp only [List.getElem_toArray, List.getElem_cons_succ, List.getElem_cons_zero, Act.put, List.setIfInBounds_toArray, List.set_cons_zero, List.set_cons_succ])
      have F : lk _ W.heap.size = _ ∧ W.heap.size ≤ W.heap.size ∧ Below W.heap.size W _ := ⟨Y5, hg5, bb⟩
      generalize World.setRow w1 _ _ = W5 at F ⊢
      generalize hgg : W.heap.size = g5
      have F' : lk W5 g5 = some (.cells (cw (advL L)).toArray 32 (0, 0)) ∧ W.heap.size ≤ g5 ∧ Below W.heap.size W W5 := ⟨by rw [← hgg]; exact F.1, by rw [← hgg]; exact Nat.le_refl _, F.2.2⟩
      clear hgg F
      revert F'; revert g5 W5
      exact key.out
  case kp =>
    show ∀ (W5 : World) (g5 : Nat), _
    intro W5 g5 ⟨Y5, hg5, bW⟩
    have Y2 := look_on X2 bW (by omega)
    have Y3 := look_on X3 bW (by omega)
    have Y4 := look_on X4 bW (by omega)
    have hW5 : g5 < W5.heap.size := by
      have := Y5
      unfold lk at this
      exact (Array.getElem?_eq_some_iff.1 this).1
    have HB5 : Below w.heap.size w W5 := below_step HB bW
    clear X2 X3 X4 bW hrg hcm bb HA hHeld
    have C2 : ∀ k : Nat, k < 25 → W5.cell? ⟨w.heap.size, k, none⟩ = some (.int .u32 (wd L k)) := fun k hk => (cell_lk Y2 k).trans (by simpa using cw_at hLL hk)
    have C5 : ∀ k : Nat, k < 25 → W5.cell? ⟨g5, k, none⟩ = some (.int .u32 (wd (advL L) k)) := fun k hk => (cell_lk Y5 k).trans (by simpa using cw_at hAL hk)
    have c0 : W5.cell? ⟨w.heap.size + 1, 0, none⟩ = _ := cell_lk Y3 0
    have c1 : W5.cell? ⟨w.heap.size + 1, 1, none⟩ = _ := cell_lk Y3 1
    have c2 : W5.cell? ⟨w.heap.size + 1, 2, none⟩ = _ := cell_lk Y3 2
    have c3 : W5.cell? ⟨w.heap.size + 1, 3, none⟩ = _ := cell_lk Y3 3
    have c4 : W5.cell? ⟨w.heap.size + 1, 4, none⟩ = _ := cell_lk Y3 4
    simp at c0 c1 c2 c3 c4
    have ca := C2 a ha25
    have cb := C2 b hb25
    repeat' (first
      | (with_reducible refine then_normal ?_) | (with_reducible refine wp_exit ?_) | (with_reducible refine wp_ret ?_) | (with_reducible refine then_exit ?_) | (with_reducible refine blk_hit ?_) | (with_reducible refine blk_pass (by decide) ?_) | (with_reducible refine then_ret ?_) | (with_reducible refine blk_ret ?_) | (with_reducible refine blk_normal ?_)
      | (refine wpList_load_look rfl _ rfl _ rfl (fun ob hob => ?_); (first | rw [Y5] at hob | rw [Y2] at hob); subst hob; refine ⟨_, rfl, by assumption, ?_⟩; simp only [Act.put, List.setIfInBounds_toArray, List.set_cons_zero, List.set_cons_succ])
      | go_values | go_skip | go_guarded | go_step | go_upon | (simp only [Int.not_lt, Int.not_le] at *; go_simp) | (go_values <;> (try go_simp)) | (go_ite <;> go_prune <;> (try go_simp)))
    have s0 : W5.drew.cell? ⟨w.heap.size + 1, 0, none⟩ = _ := c0
    have s1 : W5.drew.cell? ⟨w.heap.size + 1, 1, none⟩ = _ := c1
    have s2 : W5.drew.cell? ⟨w.heap.size + 1, 2, none⟩ = _ := c2
    have s3 : W5.drew.cell? ⟨w.heap.size, a, none⟩ = _ := ca
    have s4 : W5.drew.cell? ⟨w.heap.size, b, none⟩ = _ := cb
    go_region_held3 (fun w' => w'.cell? ⟨w.heap.size + 1, 0, none⟩ = some (.int .i64 42) ∧ w'.cell? ⟨w.heap.size + 1, 1, none⟩ = some (.int .i64 a) ∧ w'.cell? ⟨w.heap.size + 1, 2, none⟩ = some (.int .i64 b) ∧ w'.cell? ⟨w.heap.size, a, none⟩ = some (.int .u32 (wd L a)) ∧ w'.cell? ⟨w.heap.size, b, none⟩ = some (.int .u32 (wd L b))) (first | exact ⟨s0, s1, s2, s3, s4⟩ | go_keep) (first | (go_at_call 55; refine (HBR.out _).mono ?_; rintro e w6 ⟨rfl, rfl⟩))
    have V5 : lk W5.drew g5 = _ := Y5
    have V4 : lk W5.drew (w.heap.size + 2) = _ := Y4
    have HB6 : Below w.heap.size w W5.drew := HB5.drew
    have hw6 : g5 < W5.drew.heap.size := hW5
    have d5 : W5.drew.cell? ⟨g5, 16, none⟩ = some (.int .u32 (wd (advL L) 16)) := C5 16 (by omega)
    have f5 : W5.drew.frozen? ⟨g5, 16, none⟩ = false := frozen_lk V5 16
    clear s0 s1 s2 s3 s4 ca cb c0 c1 c2 c3 c4 C2 C5 Y5 Y4 Y2 Y3 HB5
    generalize W5.drew = W6 at *
    cases tk
    · repeat' (first
        | (with_reducible refine then_normal ?_) | (with_reducible refine wp_exit ?_) | (with_reducible refine wp_ret ?_) | (with_reducible refine then_exit ?_) | (with_reducible refine blk_hit ?_) | (with_reducible refine blk_pass (by decide) ?_) | (with_reducible refine then_ret ?_) | (with_reducible refine blk_ret ?_) | (with_reducible refine blk_normal ?_)
        | (refine wpList_load_look rfl _ rfl _ rfl (fun ob hob => ?_); rw [V5] at hob; subst hob; refine ⟨_, rfl, hAL, ?_⟩; simp only [Act.put, List.setIfInBounds_toArray, List.set_cons_zero, List.set_cons_succ])
        | (refine wpList_store_look rfl _ _ rfl _ rfl rfl hAL (fun ob hob => by (rw [V4] at hob; subst hob; exact ⟨_, rfl, Z25_len⟩)) (fun w2 hw2 => ?_); subst hw2; simp only [Act.put, List.setIfInBounds_toArray, List.set_cons_zero, List.set_cons_succ])
        | go_values | go_skip | go_guarded | go_step | go_upon | (simp only [Int.not_lt, Int.not_le] at *; go_simp) | (go_values <;> (try go_simp)) | (go_ite <;> go_prune <;> (try go_simp)))
      exact bodyPost_ret (v := cpV (advL L)) (results_cpu rfl _ _ (w.heap.size + 2) rfl hAL (lk_row V4)) rfl ⟨rfl, below_setRow HB6 _ (by omega) _⟩
    · have eT := Lib.hid (show (wd L 16 + 4 * (m % 4294967296)) % 4294967296 = (wd L 16 + 4 * m) % 4294967296 by omega)
      generalize hT : (wd L 16 + 4 * (m % 4294967296)) % 4294967296 = T at *
      have U5 := lk_set V5 16 T
      have U4 := lk_setN (k := 16) (v := .int .u32 T) V4 (show ¬ g5 = w.heap.size + 2 by omega)
      have hRT : ((advL L).set 16 T).length = 25 := by rw [List.length_set]; exact hAL
      have HB7 : Below w.heap.size w (W6.setCell ⟨g5, 16, none⟩ (.int .u32 T)) := HB6.setCell (show w.heap.size ≤ g5 by omega) _
      repeat' (first
        | (with_reducible refine then_normal ?_) | (with_reducible refine wp_exit ?_) | (with_reducible refine wp_ret ?_) | (with_reducible refine then_exit ?_) | (with_reducible refine blk_hit ?_) | (with_reducible refine blk_pass (by decide) ?_) | (with_reducible refine then_ret ?_) | (with_reducible refine blk_ret ?_) | (with_reducible refine blk_normal ?_)
        | (refine wpList_load_look rfl _ rfl _ rfl (fun ob hob => ?_); rw [U5] at hob; subst hob; refine ⟨_, rfl, hRT, ?_⟩; simp only [Act.put, List.setIfInBounds_toArray, List.set_cons_zero, List.set_cons_succ])
        | (refine wpList_store_look rfl _ _ rfl _ rfl rfl hRT (fun ob hob => by (rw [U4] at hob; subst hob; exact ⟨_, rfl, Z25_len⟩)) (fun w2 hw2 => ?_); subst hw2; simp only [Act.put, List.setIfInBounds_toArray, List.set_cons_zero, List.set_cons_succ])
        | go_values | go_skip | go_guarded | go_step | go_upon | (simp only [Int.not_lt, Int.not_le] at *; go_simp) | (go_values <;> (try go_simp)) | (go_ite <;> go_prune <;> (try go_simp)))
      exact bodyPost_ret (v := cpV ((advL L).set 16 T)) (results_cpu rfl _ _ (w.heap.size + 2) rfl hRT (lk_row U4)) rfl ⟨by rw [eT.out, hset], below_setRow HB7 _ (by omega) _⟩
set_option maxHeartbeats 4000000 in
theorem step_br43 (L : List Int) (A B c m : Int) (a b : Nat) (w : World) (hL : C25 L) (ha : A = a) (a1 : a < 16) (hb : B = b) (b1 : b < 16) (m0 : -32768 ≤ m) (m1 : m ≤ 65535) :
    Calls Tryd.prog 33 #[cpV L, instV 43 A B c m] w fun e w' => e = .returned (cpV (if tkn 43 (wd L a) (wd L b) = true then L.set 16 ((wd L 16 + 4 * m) % 4294967296) else advL L)) ∧ Below w.heap.size w w' := by
  subst ha hb
  have hLL := hL.1
  have HA := Lib.hid (fun W => advance_any L W hL)
  have HBR := Lib.hid (fun W => branches_any 43 (wd L a) (wd L b) W (by decide))
  have hset : (advL L).set 16 ((wd L 16 + 4 * m) % 4294967296) = L.set 16 ((wd L 16 + 4 * m) % 4294967296) := by unfold advL; rw [List.set_set]
  have hb0 : (0 : Int) ≤ b := by omega
  have hb1 : (b : Int) < 16 := by omega
  have hb25 : b < 25 := by omega
  have ha0 : (0 : Int) ≤ a := by omega
  have ha1 : (a : Int) < 16 := by omega
  have ha25 : a < 25 := by omega
  generalize htk : tkn 43 (wd L a) (wd L b) = tk at *
  clear htk
  unfold instV
  obtain ⟨F1, F2, F3, -⟩ := cw_facts
  go_enter Tryd.func33, Tryd.ntmps33
  go_wp2_with (first
    | (refine wpList_box_box rfl _ rfl rfl ?_; simp only [Act.put, List.setIfInBounds_toArray, List.set_cons_zero, List.set_cons_succ])
    | (refine wpList_alloc_box rfl rfl ?_; simp only [Act.put, List.setIfInBounds_toArray, List.set_cons_zero, List.set_cons_succ]))
  generalize hW : World.alloc (World.alloc (World.alloc w _) _) _ = W
  have X2 : lk W w.heap.size = some (.cells (cw L).toArray 32 (0, 0)) := by rw [← hW]; simp [look_alloc] <;> omega
  have X3 : lk W (w.heap.size + 1) = some (.cells #[.int .i64 43, .int .i64 a, .int .i64 b, .int .i64 c, .int .i32 m] 27 (0, 0)) := by rw [← hW]; simp [look_alloc]
  have X4 : lk W (w.heap.size + 2) = some (.cells (cw Z25).toArray 32 (0, 0)) := by rw [← hW]; simp [look_alloc]
  have HB : Below w.heap.size w W := by rw [← hW]; (repeat' (first | with_reducible exact Below.refl _ _ | with_reducible assumption | with_reducible apply below_drewN | with_reducible apply Below.drew | with_reducible apply Below.setCell | with_reducible apply Below.alloc | (simp; done) | omega | (simp; omega)))
  have hsz : w.heap.size + 2 < W.heap.size := by rw [← hW]; simp
  clear hW
  obtain ⟨fs, hu⟩ := undCpu
  have hi : (Tryd.prog.info? 32).map (·.size) = some (cw L).length := by rw [cw_len hLL]; exact infCpu
  have hrg : W.rangeAt w.heap.size 0 (cw L) := fun j u hu => by rw [Nat.zero_add]; exact (cell_lk X2 j).trans (by simpa using hu)
  have hcm : W.cell? ⟨w.heap.size + 1, 4, none⟩ = some (.int .i32 m) := cell_lk X3 4
  have bb : Below W.heap.size W W.drew := (Below.refl _ _).drew
  unfold cpV at HA
  refine wp_region_held_drew (S := fun w' => w'.rangeAt w.heap.size 0 (cw L) ∧ w'.cell? ⟨w.heap.size + 1, 4, none⟩ = some (.int .i32 m)) (by kernel_rfl) ⟨range_on hrg bb (by omega), cell_on hcm bb⟩ (fun hHeld => ?_)
  (refine' wpAnyH_take (i := 0) (oi := _) (v := _) rfl (by kernel_rfl) (by kernel_rfl) (by kernel_rfl) (fun _ _ _ h => h) (yieldsIf_load_mid (by rfl) _ _ rfl _ 0 rfl (cw L) _ (fun w hw => hw.1) hu rfl hi) (by assumption) ?_; (try simp only [List.getElem_toArray, List.getElem_cons_succ, List.getElem_cons_zero, Act.put, List.setIfInBounds_toArray, List.set_cons_zero, List.set_cons_succ]))
  (refine wpAnyH_take (i := 2) (oi := _) (v := ?_) rfl (by kernel_rfl) (by kernel_rfl) (by kernel_rfl) (fun _ _ _ h => h) (Or.inl ⟨by rfl, ?_⟩) (by assumption) ?_; rotate_left 1; focus (intro w hSw; go_simp; try with_reducible rfl); (try simp only [List.getElem_toArray, List.getElem_cons_succ, List.getElem_cons_zero, Act.put, List.setIfInBounds_toArray, List.set_cons_zero, List.set_cons_succ]))
  (refine wpAnyH_take (i := 3) (oi := _) (v := ?_) rfl (by kernel_rfl) (by kernel_rfl) (by kernel_rfl) (fun _ _ _ h => h) (Or.inl ⟨by rfl, ?_⟩) (by assumption) ?_; rotate_left 1; focus (rintro w ⟨-, hSw⟩; go_simp; try with_reducible rfl); (try simp only [List.getElem_toArray, List.getElem_cons_succ, List.getElem_cons_zero, Act.put, List.setIfInBounds_toArray, List.set_cons_zero, List.set_cons_succ]))
  (refine wpAnyH_take (i := 4) (oi := _) (v := ?_) rfl (by kernel_rfl) (by kernel_rfl) (by kernel_rfl) (fun _ _ _ h => h) (Or.inl ⟨by rfl, ?_⟩) (by assumption) ?_; rotate_left 1; focus (intro w hSw; go_simp; try with_reducible rfl); (try simp only [List.getElem_toArray, List.getElem_cons_succ, List.getElem_cons_zero, Act.put, List.setIfInBounds_toArray, List.set_cons_zero, List.set_cons_succ]))
  have hAL := hL.adv.1
  refine (fun (key : Hid ?T) => ?main) ?kp
  case main =>
    refine wpAnyH_ready (rs := [1, 5]) (by kernel_rfl) (by simp) ?_
    refine AllReadyH.cons (o := _) rfl (fun K hK => ?_) (AllReadyH.cons (o := _) rfl (fun K hK => ?_) AllReadyH.nil)
    · rw [if_pos (by rfl)]
      go_simp
      refine (HA.out _).mono ?_
      rintro e w1 ⟨rfl, hb1⟩
      replace bb := below_step bb hb1
      (try dsimp only)
      refine hK.out _ _ ?_ (fun hHeld => ?_)
      · exact ⟨range_on hrg bb (by omega), cell_on hcm bb⟩
      clear hK K hb1
      (try simp only [List.getElem_toArray, List.getElem_cons_succ, List.getElem_cons_zero, Act.put, List.setIfInBounds_toArray, List.set_cons_zero, List.set_cons_succ])
      refine wpAnyH_ready (rs := [5]) (by kernel_rfl) (by simp) ?_
      refine AllReadyH.cons (o := _) rfl (fun K hK => ?_) AllReadyH.nil
      rw [if_pos (by rfl)]
      refine wp_alloc_cpu rfl ?_
      have hsz1 := bb.size
      replace bb := bb.alloc hsz1 (.cells (cw Z25).toArray 32)
      (try dsimp only)
      refine hK.out _ _ ?_ (fun hHeld => ?_)
      · exact ⟨range_on hrg bb (by omega), cell_on hcm bb⟩
      clear hK K
      (try simp only [List.getElem_toArray, List.getElem_cons_succ, List.getElem_cons_zero, Act.put, List.setIfInBounds_toArray, List.set_cons_zero, List.set_cons_succ])
      have Y5 : lk (w1.alloc (.cells (cw Z25).toArray 32)) w1.heap.size = some (.cells (cw Z25).toArray 32 (0, 0)) := by rw [look_alloc, if_pos rfl]
      have hg5 := hsz1
      refine wpAnyH_ready (rs := [6]) (by kernel_rfl) (by simp) ?_
      refine AllReadyH.cons (o := _) rfl (fun K hK => ?_) AllReadyH.nil
      rw [if_pos (by rfl)]
      refine wp_store_cpu _ _ rfl _ rfl rfl hAL Y5 Z25_len ?_
      replace Y5 := lk_row (M := advL L) Y5
      replace bb := below_setRow bb _ hg5 (cw (advL L)).toArray
      (try dsimp only)
      refine hK.out _ _ ?_ (fun hHeld => ?_)
      · exact ⟨range_on hrg bb (by omega), cell_on hcm bb⟩
      clear hK K
      (try simp only [List.getElem_toArray, List.getElem_cons_succ, List.getElem_cons_zero, Act.put, List.setIfInBounds_toArray, List.set_cons_zero, List.set_cons_succ])
      (refine wpAnyH_take (i := 7) (oi := _) (v := ?_) rfl (by kernel_rfl) (by kernel_rfl) (by kernel_rfl) (fun _ _ _ h => h) (Or.inl ⟨by rfl, ?_⟩) (by assumption) ?_; rotate_left 1; focus (intro w hSw; go_simp; try with_reducible rfl); (try simp only [List.getElem_toArray, List.getElem_cons_succ, List.getElem_cons_zero, Act.put, List.setIfInBounds_toArray, List.set_cons_zero, List.set_cons_succ]))
      refine wpAnyH_done (by kernel_rfl) ?_ _
      (try simp only [List.getElem_toArray, List.getElem_cons_succ, List.getElem_cons_zero, Act.put, List.setIfInBounds_toArray, List.set_cons_zero, List.set_cons_succ])
      have F : lk _ w1.heap.size = _ ∧ W.heap.size ≤ w1.heap.size ∧ Below W.heap.size W _ := ⟨Y5, hg5, bb⟩
      generalize World.setRow (World.alloc w1 _) _ _ = W5 at F ⊢
      generalize w1.heap.size = g5 at F ⊢
      revert F; revert g5 W5
      exact key.out
    · rw [if_pos (by rfl)]
      refine wp_alloc_cpu rfl ?_
      have Y5 : lk (W.drew.alloc (.cells (cw Z25).toArray 32)) W.heap.size = some (.cells (cw Z25).toArray 32 (0, 0)) := by rw [look_alloc]; exact if_pos rfl
      have hg5 : W.heap.size ≤ W.heap.size := Nat.le_refl _
      replace bb := bb.alloc hg5 (.cells (cw Z25).toArray 32)
      have hs5 : W.heap.size < (W.drew.alloc (.cells (cw Z25).toArray 32)).heap.size := by simp
      (try dsimp only)
      refine hK.out _ _ ?_ (fun hHeld => ?_)
      · exact ⟨range_on hrg bb (by omega), cell_on hcm bb⟩
      clear hK K
      (try simp only [List.getElem_toArray, List.getElem_cons_succ, List.getElem_cons_zero, Act.put, List.setIfInBounds_toArray, List.set_cons_zero, List.set_cons_succ])
      refine wpAnyH_ready (rs := [1]) (by kernel_rfl) (by simp) ?_
      refine AllReadyH.cons (o := _) rfl (fun K hK => ?_) AllReadyH.nil
      rw [if_pos (by rfl)]
      go_simp
      refine (HA.out _).mono ?_
      rintro e w1 ⟨rfl, hb1⟩
      replace Y5 := look_on Y5 hb1 hs5
      replace bb := below_step bb hb1
      (try dsimp only)
      refine hK.out _ _ ?_ (fun hHeld => ?_)
      · exact ⟨range_on hrg bb (by omega), cell_on hcm bb⟩
      clear hK K hb1 hs5
      (try simp only [List.getElem_toArray, List.getElem_cons_succ, List.getElem_cons_zero, Act.put, List.setIfInBounds_toArray, List.set_cons_zero, List.set_cons_succ])
      refine wpAnyH_ready (rs := [6]) (by kernel_rfl) (by simp) ?_
      refine AllReadyH.cons (o := _) rfl (fun K hK => ?_) AllReadyH.nil
      rw [if_pos (by rfl)]
      refine wp_store_cpu _ _ rfl _ rfl rfl hAL Y5 Z25_len ?_
      replace Y5 := lk_row (M := advL L) Y5
      replace bb := below_setRow bb _ hg5 (cw (advL L)).toArray
      (try dsimp only)
      refine hK.out _ _ ?_ (fun hHeld => ?_)
      · exact ⟨range_on hrg bb (by omega), cell_on hcm bb⟩
      clear hK K
      (try simp only [List.getElem_toArray, List.getElem_cons_succ, List.getElem_cons_zero, Act.put, List.setIfInBounds_toArray, List.set_cons_zero, List.set_cons_succ])
      (refine wpAnyH_take (i := 7) (oi := _) (v := ?_) rfl (by kernel_rfl) (by kernel_rfl) (by kernel_rfl) (fun _ _ _ h => h) (Or.inl ⟨by rfl, ?_⟩) (by assumption) ?_; rotate_left 1; focus (intro w hSw; go_simp; try with_reducible rfl); (try simp only [List.getElem_toArray, List.getElem_cons_succ, List.getElem_cons_zero, Act.put, List.setIfInBounds_toArray, List.set_cons_zero, List.set_cons_succ]))
      refine wpAnyH_done (by kernel_rfl) ?_ _
      (try simp only [List.getElem_toArray, List.getElem_cons_succ, List.getElem_cons_zero, Act.put, List.setIfInBounds_toArray, List.set_cons_zero, List.set_cons_succ])
      have F : lk _ W.heap.size = _ ∧ W.heap.size ≤ W.heap.size ∧ Below W.heap.size W _ := ⟨Y5, hg5, bb⟩
      generalize World.setRow w1 _ _ = W5 at F ⊢
      generalize hgg : W.heap.size = g5
      have F' : lk W5 g5 = some (.cells (cw (advL L)).toArray 32 (0, 0)) ∧ W.heap.size ≤ g5 ∧ Below W.heap.size W W5 := ⟨by rw [← hgg]; exact F.1, by rw [← hgg]; exact Nat.le_refl _, F.2.2⟩
      clear hgg F
      revert F'; revert g5 W5
      exact key.out
  case kp =>
    show ∀ (W5 : World) (g5 : Nat), _
    intro W5 g5 ⟨Y5, hg5, bW⟩
    have Y2 := look_on X2 bW (by omega)
    have Y3 := look_on X3 bW (by omega)
    have Y4 := look_on X4 bW (by omega)
    have hW5 : g5 < W5.heap.size := by
      have := Y5
      unfold lk at this
      exact (Array.getElem?_eq_some_iff.1 this).1
    have HB5 : Below w.heap.size w W5 := below_step HB bW
    clear X2 X3 X4 bW hrg hcm bb HA hHeld
    have C2 : ∀ k : Nat, k < 25 → W5.cell? ⟨w.heap.size, k, none⟩ = some (.int .u32 (wd L k)) := fun k hk => (cell_lk Y2 k).trans (by simpa using cw_at hLL hk)
    have C5 : ∀ k : Nat, k < 25 → W5.cell? ⟨g5, k, none⟩ = some (.int .u32 (wd (advL L) k)) := fun k hk => (cell_lk Y5 k).trans (by simpa using cw_at hAL hk)
    have c0 : W5.cell? ⟨w.heap.size + 1, 0, none⟩ = _ := cell_lk Y3 0
    have c1 : W5.cell? ⟨w.heap.size + 1, 1, none⟩ = _ := cell_lk Y3 1
    have c2 : W5.cell? ⟨w.heap.size + 1, 2, none⟩ = _ := cell_lk Y3 2
    have c3 : W5.cell? ⟨w.heap.size + 1, 3, none⟩ = _ := cell_lk Y3 3
    have c4 : W5.cell? ⟨w.heap.size + 1, 4, none⟩ = _ := cell_lk Y3 4
    simp at c0 c1 c2 c3 c4
    have ca := C2 a ha25
    have cb := C2 b hb25
    repeat' (first
      | (with_reducible refine then_normal ?_) | (with_reducible refine wp_exit ?_) | (with_reducible refine wp_ret ?_) | (with_reducible refine then_exit ?_) | (with_reducible refine blk_hit ?_) | (with_reducible refine blk_pass (by decide) ?_) | (with_reducible refine then_ret ?_) | (with_reducible refine blk_ret ?_) | (with_reducible refine blk_normal ?_)
      | (refine wpList_load_look rfl _ rfl _ rfl (fun ob hob => ?_); (first | rw [Y5] at hob | rw [Y2] at hob); subst hob; refine ⟨_, rfl, by assumption, ?_⟩; simp only [Act.put, List.setIfInBounds_toArray, List.set_cons_zero, List.set_cons_succ])
      | go_values | go_skip | go_guarded | go_step | go_upon | (simp only [Int.not_lt, Int.not_le] at *; go_simp) | (go_values <;> (try go_simp)) | (go_ite <;> go_prune <;> (try go_simp)))
    have s0 : W5.drew.cell? ⟨w.heap.size + 1, 0, none⟩ = _ := c0
    have s1 : W5.drew.cell? ⟨w.heap.size + 1, 1, none⟩ = _ := c1
    have s2 : W5.drew.cell? ⟨w.heap.size + 1, 2, none⟩ = _ := c2
    have s3 : W5.drew.cell? ⟨w.heap.size, a, none⟩ = _ := ca
    have s4 : W5.drew.cell? ⟨w.heap.size, b, none⟩ = _ := cb
    go_region_held3 (fun w' => w'.cell? ⟨w.heap.size + 1, 0, none⟩ = some (.int .i64 43) ∧ w'.cell? ⟨w.heap.size + 1, 1, none⟩ = some (.int .i64 a) ∧ w'.cell? ⟨w.heap.size + 1, 2, none⟩ = some (.int .i64 b) ∧ w'.cell? ⟨w.heap.size, a, none⟩ = some (.int .u32 (wd L a)) ∧ w'.cell? ⟨w.heap.size, b, none⟩ = some (.int .u32 (wd L b))) (first | exact ⟨s0, s1, s2, s3, s4⟩ | go_keep) (first | (go_at_call 55; refine (HBR.out _).mono ?_; rintro e w6 ⟨rfl, rfl⟩))
    have V5 : lk W5.drew g5 = _ := Y5
    have V4 : lk W5.drew (w.heap.size + 2) = _ := Y4
    have HB6 : Below w.heap.size w W5.drew := HB5.drew
    have hw6 : g5 < W5.drew.heap.size := hW5
    have d5 : W5.drew.cell? ⟨g5, 16, none⟩ = some (.int .u32 (wd (advL L) 16)) := C5 16 (by omega)
    have f5 : W5.drew.frozen? ⟨g5, 16, none⟩ = false := frozen_lk V5 16
    clear s0 s1 s2 s3 s4 ca cb c0 c1 c2 c3 c4 C2 C5 Y5 Y4 Y2 Y3 HB5
    generalize W5.drew = W6 at *
    cases tk
    · repeat' (first
        | (with_reducible refine then_normal ?_) | (with_reducible refine wp_exit ?_) | (with_reducible refine wp_ret ?_) | (with_reducible refine then_exit ?_) | (with_reducible refine blk_hit ?_) | (with_reducible refine blk_pass (by decide) ?_) | (with_reducible refine then_ret ?_) | (with_reducible refine blk_ret ?_) | (with_reducible refine blk_normal ?_)
        | (refine wpList_load_look rfl _ rfl _ rfl (fun ob hob => ?_); rw [V5] at hob; subst hob; refine ⟨_, rfl, hAL, ?_⟩; simp only [Act.put, List.setIfInBounds_toArray, List.set_cons_zero, List.set_cons_succ])
        | (refine wpList_store_look rfl _ _ rfl _ rfl rfl hAL (fun ob hob => by (rw [V4] at hob; subst hob; exact ⟨_, rfl, Z25_len⟩)) (fun w2 hw2 => ?_); subst hw2; simp only [Act.put, List.setIfInBounds_toArray, List.set_cons_zero, List.set_cons_succ])
        | go_values | go_skip | go_guarded | go_step | go_upon | (simp only [Int.not_lt, Int.not_le] at *; go_simp) | (go_values <;> (try go_simp)) | (go_ite <;> go_prune <;> (try go_simp)))
      exact bodyPost_ret (v := cpV (advL L)) (results_cpu rfl _ _ (w.heap.size + 2) rfl hAL (lk_row V4)) rfl ⟨rfl, below_setRow HB6 _ (by omega) _⟩
    · have eT := Lib.hid (show (wd L 16 + 4 * (m % 4294967296)) % 4294967296 = (wd L 16 + 4 * m) % 4294967296 by omega)
      generalize hT : (wd L 16 + 4 * (m % 4294967296)) % 4294967296 = T at *
      have U5 := lk_set V5 16 T
      have U4 := lk_setN (k := 16) (v := .int .u32 T) V4 (show ¬ g5 = w.heap.size + 2 by omega)
      have hRT : ((advL L).set 16 T).length = 25 := by rw [List.length_set]; exact hAL
      have HB7 : Below w.heap.size w (W6.setCell ⟨g5, 16, none⟩ (.int .u32 T)) := HB6.setCell (show w.heap.size ≤ g5 by omega) _
      repeat' (first
        | (with_reducible refine then_normal ?_) | (with_reducible refine wp_exit ?_) | (with_reducible refine wp_ret ?_) | (with_reducible refine then_exit ?_) | (with_reducible refine blk_hit ?_) | (with_reducible refine blk_pass (by decide) ?_) | (with_reducible refine then_ret ?_) | (with_reducible refine blk_ret ?_) | (with_reducible refine blk_normal ?_)
        | (refine wpList_load_look rfl _ rfl _ rfl (fun ob hob => ?_); rw [U5] at hob; subst hob; refine ⟨_, rfl, hRT, ?_⟩; simp only [Act.put, List.setIfInBounds_toArray, List.set_cons_zero, List.set_cons_succ])
        | (refine wpList_store_look rfl _ _ rfl _ rfl rfl hRT (fun ob hob => by (rw [U4] at hob; subst hob; exact ⟨_, rfl, Z25_len⟩)) (fun w2 hw2 => ?_); subst hw2; simp only [Act.put, List.setIfInBounds_toArray, List.set_cons_zero, List.set_cons_succ])
        | go_values | go_skip | go_guarded | go_step | go_upon | (simp only [Int.not_lt, Int.not_le] at *; go_simp) | (go_values <;> (try go_simp)) | (go_ite <;> go_prune <;> (try go_simp)))
      exact bodyPost_ret (v := cpV ((advL L).set 16 T)) (results_cpu rfl _ _ (w.heap.size + 2) rfl hRT (lk_row U4)) rfl ⟨by rw [eT.out, hset], below_setRow HB7 _ (by omega) _⟩
set_option maxHeartbeats 4000000 in
theorem step_br44 (L : List Int) (A B c m : Int) (a b : Nat) (w : World) (hL : C25 L) (ha : A = a) (a1 : a < 16) (hb : B = b) (b1 : b < 16) (m0 : -32768 ≤ m) (m1 : m ≤ 65535) :
    Calls Tryd.prog 33 #[cpV L, instV 44 A B c m] w fun e w' => e = .returned (cpV (if tkn 44 (wd L a) (wd L b) = true then L.set 16 ((wd L 16 + 4 * m) % 4294967296) else advL L)) ∧ Below w.heap.size w w' := by
  subst ha hb
  have hLL := hL.1
  have HA := Lib.hid (fun W => advance_any L W hL)
  have HBR := Lib.hid (fun W => branches_any 44 (wd L a) (wd L b) W (by decide))
  have hset : (advL L).set 16 ((wd L 16 + 4 * m) % 4294967296) = L.set 16 ((wd L 16 + 4 * m) % 4294967296) := by unfold advL; rw [List.set_set]
  have hb0 : (0 : Int) ≤ b := by omega
  have hb1 : (b : Int) < 16 := by omega
  have hb25 : b < 25 := by omega
  have ha0 : (0 : Int) ≤ a := by omega
  have ha1 : (a : Int) < 16 := by omega
  have ha25 : a < 25 := by omega
  generalize htk : tkn 44 (wd L a) (wd L b) = tk at *
  clear htk
  unfold instV
  obtain ⟨F1, F2, F3, -⟩ := cw_facts
  go_enter Tryd.func33, Tryd.ntmps33
  go_wp2_with (first
    | (refine wpList_box_box rfl _ rfl rfl ?_; simp only [Act.put, List.setIfInBounds_toArray, List.set_cons_zero, List.set_cons_succ])
    | (refine wpList_alloc_box rfl rfl ?_; simp only [Act.put, List.setIfInBounds_toArray, List.set_cons_zero, List.set_cons_succ]))
  generalize hW : World.alloc (World.alloc (World.alloc w _) _) _ = W
  have X2 : lk W w.heap.size = some (.cells (cw L).toArray 32 (0, 0)) := by rw [← hW]; simp [look_alloc] <;> omega
  have X3 : lk W (w.heap.size + 1) = some (.cells #[.int .i64 44, .int .i64 a, .int .i64 b, .int .i64 c, .int .i32 m] 27 (0, 0)) := by rw [← hW]; simp [look_alloc]
  have X4 : lk W (w.heap.size + 2) = some (.cells (cw Z25).toArray 32 (0, 0)) := by rw [← hW]; simp [look_alloc]
  have HB : Below w.heap.size w W := by rw [← hW]; (repeat' (first | with_reducible exact Below.refl _ _ | with_reducible assumption | with_reducible apply below_drewN | with_reducible apply Below.drew | with_reducible apply Below.setCell | with_reducible apply Below.alloc | (simp; done) | omega | (simp; omega)))
  have hsz : w.heap.size + 2 < W.heap.size := by rw [← hW]; simp
  clear hW
  obtain ⟨fs, hu⟩ := undCpu
  have hi : (Tryd.prog.info? 32).map (·.size) = some (cw L).length := by rw [cw_len hLL]; exact infCpu
  have hrg : W.rangeAt w.heap.size 0 (cw L) := fun j u hu => by rw [Nat.zero_add]; exact (cell_lk X2 j).trans (by simpa using hu)
  have hcm : W.cell? ⟨w.heap.size + 1, 4, none⟩ = some (.int .i32 m) := cell_lk X3 4
  have bb : Below W.heap.size W W.drew := (Below.refl _ _).drew
  unfold cpV at HA
  refine wp_region_held_drew (S := fun w' => w'.rangeAt w.heap.size 0 (cw L) ∧ w'.cell? ⟨w.heap.size + 1, 4, none⟩ = some (.int .i32 m)) (by kernel_rfl) ⟨range_on hrg bb (by omega), cell_on hcm bb⟩ (fun hHeld => ?_)
  (refine' wpAnyH_take (i := 0) (oi := _) (v := _) rfl (by kernel_rfl) (by kernel_rfl) (by kernel_rfl) (fun _ _ _ h => h) (yieldsIf_load_mid (by rfl) _ _ rfl _ 0 rfl (cw L) _ (fun w hw => hw.1) hu rfl hi) (by assumption) ?_; (try simp only [List.getElem_toArray, List.getElem_cons_succ, List.getElem_cons_zero, Act.put, List.setIfInBounds_toArray, List.set_cons_zero, List.set_cons_succ]))
  (refine wpAnyH_take (i := 2) (oi := _) (v := ?_) rfl (by kernel_rfl) (by kernel_rfl) (by kernel_rfl) (fun _ _ _ h => h) (Or.inl ⟨by rfl, ?_⟩) (by assumption) ?_; rotate_left 1; focus (intro w hSw; go_simp; try with_reducible rfl); (try simp only [List.getElem_toArray, List.getElem_cons_succ, List.getElem_cons_zero, Act.put, List.setIfInBounds_toArray, List.set_cons_zero, List.set_cons_succ]))
  (refine wpAnyH_take (i := 3) (oi := _) (v := ?_) rfl (by kernel_rfl) (by kernel_rfl) (by kernel_rfl) (fun _ _ _ h => h) (Or.inl ⟨by rfl, ?_⟩) (by assumption) ?_; rotate_left 1; focus (rintro w ⟨-, hSw⟩; go_simp; try with_reducible rfl); (try simp only [List.getElem_toArray, List.getElem_cons_succ, List.getElem_cons_zero, Act.put, List.setIfInBounds_toArray, List.set_cons_zero, List.set_cons_succ]))
  (refine wpAnyH_take (i := 4) (oi := _) (v := ?_) rfl (by kernel_rfl) (by kernel_rfl) (by kernel_rfl) (fun _ _ _ h => h) (Or.inl ⟨by rfl, ?_⟩) (by assumption) ?_; rotate_left 1; focus (intro w hSw; go_simp; try with_reducible rfl); (try simp only [List.getElem_toArray, List.getElem_cons_succ, List.getElem_cons_zero, Act.put, List.setIfInBounds_toArray, List.set_cons_zero, List.set_cons_succ]))
  have hAL := hL.adv.1
  refine (fun (key : Hid ?T) => ?main) ?kp
  case main =>
    refine wpAnyH_ready (rs := [1, 5]) (by kernel_rfl) (by simp) ?_
    refine AllReadyH.cons (o := _) rfl (fun K hK => ?_) (AllReadyH.cons (o := _) rfl (fun K hK => ?_) AllReadyH.nil)
    · rw [if_pos (by rfl)]
      go_simp
      refine (HA.out _).mono ?_
      rintro e w1 ⟨rfl, hb1⟩
      replace bb := below_step bb hb1
      (try dsimp only)
      refine hK.out _ _ ?_ (fun hHeld => ?_)
      · exact ⟨range_on hrg bb (by omega), cell_on hcm bb⟩
      clear hK K hb1
      (try simp only [List.getElem_toArray, List.getElem_cons_succ, List.getElem_cons_zero, Act.put, List.setIfInBounds_toArray, List.set_cons_zero, List.set_cons_succ])
      refine wpAnyH_ready (rs := [5]) (by kernel_rfl) (by simp) ?_
      refine AllReadyH.cons (o := _) rfl (fun K hK => ?_) AllReadyH.nil
      rw [if_pos (by rfl)]
      refine wp_alloc_cpu rfl ?_
      have hsz1 := bb.size
      replace bb := bb.alloc hsz1 (.cells (cw Z25).toArray 32)
      (try dsimp only)
      refine hK.out _ _ ?_ (fun hHeld => ?_)
      · exact ⟨range_on hrg bb (by omega), cell_on hcm bb⟩
      clear hK K
      (try simp only [List.getElem_toArray, List.getElem_cons_succ, List.getElem_cons_zero, Act.put, List.setIfInBounds_toArray, List.set_cons_zero, List.set_cons_succ])
      have Y5 : lk (w1.alloc (.cells (cw Z25).toArray 32)) w1.heap.size = some (.cells (cw Z25).toArray 32 (0, 0)) := by rw [look_alloc, if_pos rfl]
      have hg5 := hsz1
      refine wpAnyH_ready (rs := [6]) (by kernel_rfl) (by simp) ?_
      refine AllReadyH.cons (o := _) rfl (fun K hK => ?_) AllReadyH.nil
      rw [if_pos (by rfl)]
      refine wp_store_cpu _ _ rfl _ rfl rfl hAL Y5 Z25_len ?_
      replace Y5 := lk_row (M := advL L) Y5
      replace bb := below_setRow bb _ hg5 (cw (advL L)).toArray
      (try dsimp only)
      refine hK.out _ _ ?_ (fun hHeld => ?_)
      · exact ⟨range_on hrg bb (by omega), cell_on hcm bb⟩
      clear hK K
      (try simp only [List.getElem_toArray, List.getElem_cons_succ, List.getElem_cons_zero, Act.put, List.setIfInBounds_toArray, List.set_cons_zero, List.set_cons_succ])
      (refine wpAnyH_take (i := 7) (oi := _) (v := ?_) rfl (by kernel_rfl) (by kernel_rfl) (by kernel_rfl) (fun _ _ _ h => h) (Or.inl ⟨by rfl, ?_⟩) (by assumption) ?_; rotate_left 1; focus (intro w hSw; go_simp; try with_reducible rfl); (try simp only [List.getElem_toArray, List.getElem_cons_succ, List.getElem_cons_zero, Act.put, List.setIfInBounds_toArray, List.set_cons_zero, List.set_cons_succ]))
      refine wpAnyH_done (by kernel_rfl) ?_ _
      (try simp only [List.getElem_toArray, List.getElem_cons_succ, List.getElem_cons_zero, Act.put, List.setIfInBounds_toArray, List.set_cons_zero, List.set_cons_succ])
      have F : lk _ w1.heap.size = _ ∧ W.heap.size ≤ w1.heap.size ∧ Below W.heap.size W _ := ⟨Y5, hg5, bb⟩
      generalize World.setRow (World.alloc w1 _) _ _ = W5 at F ⊢
      generalize w1.heap.size = g5 at F ⊢
      revert F; revert g5 W5
      exact key.out
    · rw [if_pos (by rfl)]
      refine wp_alloc_cpu rfl ?_
      have Y5 : lk (W.drew.alloc (.cells (cw Z25).toArray 32)) W.heap.size = some (.cells (cw Z25).toArray 32 (0, 0)) := by rw [look_alloc]; exact if_pos rfl
      have hg5 : W.heap.size ≤ W.heap.size := Nat.le_refl _
      replace bb := bb.alloc hg5 (.cells (cw Z25).toArray 32)
      have hs5 : W.heap.size < (W.drew.alloc (.cells (cw Z25).toArray 32)).heap.size := by simp
      (try dsimp only)
      refine hK.out _ _ ?_ (fun hHeld => ?_)
      · exact ⟨range_on hrg bb (by omega), cell_on hcm bb⟩
      clear hK K
      (try simp only [List.getElem_toArray, List.getElem_cons_succ, List.getElem_cons_zero, Act.put, List.setIfInBounds_toArray, List.set_cons_zero, List.set_cons_succ])
      refine wpAnyH_ready (rs := [1]) (by kernel_rfl) (by simp) ?_
      refine AllReadyH.cons (o := _) rfl (fun K hK => ?_) AllReadyH.nil
      rw [if_pos (by rfl)]
      go_simp
      refine (HA.out _).mono ?_
      rintro e w1 ⟨rfl, hb1⟩
      replace Y5 := look_on Y5 hb1 hs5
      replace bb := below_step bb hb1
      (try dsimp only)
      refine hK.out _ _ ?_ (fun hHeld => ?_)
      · exact ⟨range_on hrg bb (by omega), cell_on hcm bb⟩
      clear hK K hb1 hs5
      (try simp only [List.getElem_toArray, List.getElem_cons_succ, List.getElem_cons_zero, Act.put, List.setIfInBounds_toArray, List.set_cons_zero, List.set_cons_succ])
      refine wpAnyH_ready (rs := [6]) (by kernel_rfl) (by simp) ?_
      refine AllReadyH.cons (o := _) rfl (fun K hK => ?_) AllReadyH.nil
      rw [if_pos (by rfl)]
      refine wp_store_cpu _ _ rfl _ rfl rfl hAL Y5 Z25_len ?_
      replace Y5 := lk_row (M := advL L) Y5
      replace bb := below_setRow bb _ hg5 (cw (advL L)).toArray
      (try dsimp only)
      refine hK.out _ _ ?_ (fun hHeld => ?_)
      · exact ⟨range_on hrg bb (by omega), cell_on hcm bb⟩
      clear hK K
      (try simp only [List.getElem_toArray, List.getElem_cons_succ, List.getElem_cons_zero, Act.put, List.setIfInBounds_toArray, List.set_cons_zero, List.set_cons_succ])
      (refine wpAnyH_take (i := 7) (oi := _) (v := ?_) rfl (by kernel_rfl) (by kernel_rfl) (by kernel_rfl) (fun _ _ _ h => h) (Or.inl ⟨by rfl, ?_⟩) (by assumption) ?_; rotate_left 1; focus (intro w hSw; go_simp; try with_reducible rfl); (try simp only [List.getElem_toArray, List.getElem_cons_succ, List.getElem_cons_zero, Act.put, List.setIfInBounds_toArray, List.set_cons_zero, List.set_cons_succ]))
      refine wpAnyH_done (by kernel_rfl) ?_ _
      (try simp only [List.getElem_toArray, List.getElem_cons_succ, List.getElem_cons_zero, Act.put, List.setIfInBounds_toArray, List.set_cons_zero, List.set_cons_succ])
      have F : lk _ W.heap.size = _ ∧ W.heap.size ≤ W.heap.size ∧ Below W.heap.size W _ := ⟨Y5, hg5, bb⟩
      generalize World.setRow w1 _ _ = W5 at F ⊢
      generalize hgg : W.heap.size = g5
      have F' : lk W5 g5 = some (.cells (cw (advL L)).toArray 32 (0, 0)) ∧ W.heap.size ≤ g5 ∧ Below W.heap.size W W5 := ⟨by rw [← hgg]; exact F.1, by rw [← hgg]; exact Nat.le_refl _, F.2.2⟩
      clear hgg F
      revert F'; revert g5 W5
      exact key.out
  case kp =>
    show ∀ (W5 : World) (g5 : Nat), _
    intro W5 g5 ⟨Y5, hg5, bW⟩
    have Y2 := look_on X2 bW (by omega)
    have Y3 := look_on X3 bW (by omega)
    have Y4 := look_on X4 bW (by omega)
    have hW5 : g5 < W5.heap.size := by
      have := Y5
      unfold lk at this
      exact (Array.getElem?_eq_some_iff.1 this).1
    have HB5 : Below w.heap.size w W5 := below_step HB bW
    clear X2 X3 X4 bW hrg hcm bb HA hHeld
    have C2 : ∀ k : Nat, k < 25 → W5.cell? ⟨w.heap.size, k, none⟩ = some (.int .u32 (wd L k)) := fun k hk => (cell_lk Y2 k).trans (by simpa using cw_at hLL hk)
    have C5 : ∀ k : Nat, k < 25 → W5.cell? ⟨g5, k, none⟩ = some (.int .u32 (wd (advL L) k)) := fun k hk => (cell_lk Y5 k).trans (by simpa using cw_at hAL hk)
    have c0 : W5.cell? ⟨w.heap.size + 1, 0, none⟩ = _ := cell_lk Y3 0
    have c1 : W5.cell? ⟨w.heap.size + 1, 1, none⟩ = _ := cell_lk Y3 1
    have c2 : W5.cell? ⟨w.heap.size + 1, 2, none⟩ = _ := cell_lk Y3 2
    have c3 : W5.cell? ⟨w.heap.size + 1, 3, none⟩ = _ := cell_lk Y3 3
    have c4 : W5.cell? ⟨w.heap.size + 1, 4, none⟩ = _ := cell_lk Y3 4
    simp at c0 c1 c2 c3 c4
    have ca := C2 a ha25
    have cb := C2 b hb25
    repeat' (first
      | (with_reducible refine then_normal ?_) | (with_reducible refine wp_exit ?_) | (with_reducible refine wp_ret ?_) | (with_reducible refine then_exit ?_) | (with_reducible refine blk_hit ?_) | (with_reducible refine blk_pass (by decide) ?_) | (with_reducible refine then_ret ?_) | (with_reducible refine blk_ret ?_) | (with_reducible refine blk_normal ?_)
      | (refine wpList_load_look rfl _ rfl _ rfl (fun ob hob => ?_); (first | rw [Y5] at hob | rw [Y2] at hob); subst hob; refine ⟨_, rfl, by assumption, ?_⟩; simp only [Act.put, List.setIfInBounds_toArray, List.set_cons_zero, List.set_cons_succ])
      | go_values | go_skip | go_guarded | go_step | go_upon | (simp only [Int.not_lt, Int.not_le] at *; go_simp) | (go_values <;> (try go_simp)) | (go_ite <;> go_prune <;> (try go_simp)))
    have s0 : W5.drew.cell? ⟨w.heap.size + 1, 0, none⟩ = _ := c0
    have s1 : W5.drew.cell? ⟨w.heap.size + 1, 1, none⟩ = _ := c1
    have s2 : W5.drew.cell? ⟨w.heap.size + 1, 2, none⟩ = _ := c2
    have s3 : W5.drew.cell? ⟨w.heap.size, a, none⟩ = _ := ca
    have s4 : W5.drew.cell? ⟨w.heap.size, b, none⟩ = _ := cb
    go_region_held3 (fun w' => w'.cell? ⟨w.heap.size + 1, 0, none⟩ = some (.int .i64 44) ∧ w'.cell? ⟨w.heap.size + 1, 1, none⟩ = some (.int .i64 a) ∧ w'.cell? ⟨w.heap.size + 1, 2, none⟩ = some (.int .i64 b) ∧ w'.cell? ⟨w.heap.size, a, none⟩ = some (.int .u32 (wd L a)) ∧ w'.cell? ⟨w.heap.size, b, none⟩ = some (.int .u32 (wd L b))) (first | exact ⟨s0, s1, s2, s3, s4⟩ | go_keep) (first | (go_at_call 55; refine (HBR.out _).mono ?_; rintro e w6 ⟨rfl, rfl⟩))
    have V5 : lk W5.drew g5 = _ := Y5
    have V4 : lk W5.drew (w.heap.size + 2) = _ := Y4
    have HB6 : Below w.heap.size w W5.drew := HB5.drew
    have hw6 : g5 < W5.drew.heap.size := hW5
    have d5 : W5.drew.cell? ⟨g5, 16, none⟩ = some (.int .u32 (wd (advL L) 16)) := C5 16 (by omega)
    have f5 : W5.drew.frozen? ⟨g5, 16, none⟩ = false := frozen_lk V5 16
    clear s0 s1 s2 s3 s4 ca cb c0 c1 c2 c3 c4 C2 C5 Y5 Y4 Y2 Y3 HB5
    generalize W5.drew = W6 at *
    cases tk
    · repeat' (first
        | (with_reducible refine then_normal ?_) | (with_reducible refine wp_exit ?_) | (with_reducible refine wp_ret ?_) | (with_reducible refine then_exit ?_) | (with_reducible refine blk_hit ?_) | (with_reducible refine blk_pass (by decide) ?_) | (with_reducible refine then_ret ?_) | (with_reducible refine blk_ret ?_) | (with_reducible refine blk_normal ?_)
        | (refine wpList_load_look rfl _ rfl _ rfl (fun ob hob => ?_); rw [V5] at hob; subst hob; refine ⟨_, rfl, hAL, ?_⟩; simp only [Act.put, List.setIfInBounds_toArray, List.set_cons_zero, List.set_cons_succ])
        | (refine wpList_store_look rfl _ _ rfl _ rfl rfl hAL (fun ob hob => by (rw [V4] at hob; subst hob; exact ⟨_, rfl, Z25_len⟩)) (fun w2 hw2 => ?_); subst hw2; simp only [Act.put, List.setIfInBounds_toArray, List.set_cons_zero, List.set_cons_succ])
        | go_values | go_skip | go_guarded | go_step | go_upon | (simp only [Int.not_lt, Int.not_le] at *; go_simp) | (go_values <;> (try go_simp)) | (go_ite <;> go_prune <;> (try go_simp)))
      exact bodyPost_ret (v := cpV (advL L)) (results_cpu rfl _ _ (w.heap.size + 2) rfl hAL (lk_row V4)) rfl ⟨rfl, below_setRow HB6 _ (by omega) _⟩
    · have eT := Lib.hid (show (wd L 16 + 4 * (m % 4294967296)) % 4294967296 = (wd L 16 + 4 * m) % 4294967296 by omega)
      generalize hT : (wd L 16 + 4 * (m % 4294967296)) % 4294967296 = T at *
      have U5 := lk_set V5 16 T
      have U4 := lk_setN (k := 16) (v := .int .u32 T) V4 (show ¬ g5 = w.heap.size + 2 by omega)
      have hRT : ((advL L).set 16 T).length = 25 := by rw [List.length_set]; exact hAL
      have HB7 : Below w.heap.size w (W6.setCell ⟨g5, 16, none⟩ (.int .u32 T)) := HB6.setCell (show w.heap.size ≤ g5 by omega) _
      repeat' (first
        | (with_reducible refine then_normal ?_) | (with_reducible refine wp_exit ?_) | (with_reducible refine wp_ret ?_) | (with_reducible refine then_exit ?_) | (with_reducible refine blk_hit ?_) | (with_reducible refine blk_pass (by decide) ?_) | (with_reducible refine then_ret ?_) | (with_reducible refine blk_ret ?_) | (with_reducible refine blk_normal ?_)
        | (refine wpList_load_look rfl _ rfl _ rfl (fun ob hob => ?_); rw [U5] at hob; subst hob; refine ⟨_, rfl, hRT, ?_⟩; simp only [Act.put, List.setIfInBounds_toArray, List.set_cons_zero, List.set_cons_succ])
        | (refine wpList_store_look rfl _ _ rfl _ rfl rfl hRT (fun ob hob => by (rw [U4] at hob; subst hob; exact ⟨_, rfl, Z25_len⟩)) (fun w2 hw2 => ?_); subst hw2; simp only [Act.put, List.setIfInBounds_toArray, List.set_cons_zero, List.set_cons_succ])
        | go_values | go_skip | go_guarded | go_step | go_upon | (simp only [Int.not_lt, Int.not_le] at *; go_simp) | (go_values <;> (try go_simp)) | (go_ite <;> go_prune <;> (try go_simp)))
      exact bodyPost_ret (v := cpV ((advL L).set 16 T)) (results_cpu rfl _ _ (w.heap.size + 2) rfl hRT (lk_row U4)) rfl ⟨by rw [eT.out, hset], below_setRow HB7 _ (by omega) _⟩
set_option maxHeartbeats 4000000 in
theorem step_br45 (L : List Int) (A B c m : Int) (a b : Nat) (w : World) (hL : C25 L) (ha : A = a) (a1 : a < 16) (hb : B = b) (b1 : b < 16) (m0 : -32768 ≤ m) (m1 : m ≤ 65535) :
    Calls Tryd.prog 33 #[cpV L, instV 45 A B c m] w fun e w' => e = .returned (cpV (if tkn 45 (wd L a) (wd L b) = true then L.set 16 ((wd L 16 + 4 * m) % 4294967296) else advL L)) ∧ Below w.heap.size w w' := by
  subst ha hb
  have hLL := hL.1
  have HA := Lib.hid (fun W => advance_any L W hL)
  have HBR := Lib.hid (fun W => branches_any 45 (wd L a) (wd L b) W (by decide))
  have hset : (advL L).set 16 ((wd L 16 + 4 * m) % 4294967296) = L.set 16 ((wd L 16 + 4 * m) % 4294967296) := by unfold advL; rw [List.set_set]
  have hb0 : (0 : Int) ≤ b := by omega
  have hb1 : (b : Int) < 16 := by omega
  have hb25 : b < 25 := by omega
  have ha0 : (0 : Int) ≤ a := by omega
  have ha1 : (a : Int) < 16 := by omega
  have ha25 : a < 25 := by omega
  generalize htk : tkn 45 (wd L a) (wd L b) = tk at *
  clear htk
  unfold instV
  obtain ⟨F1, F2, F3, -⟩ := cw_facts
  go_enter Tryd.func33, Tryd.ntmps33
  go_wp2_with (first
    | (refine wpList_box_box rfl _ rfl rfl ?_; simp only [Act.put, List.setIfInBounds_toArray, List.set_cons_zero, List.set_cons_succ])
    | (refine wpList_alloc_box rfl rfl ?_; simp only [Act.put, List.setIfInBounds_toArray, List.set_cons_zero, List.set_cons_succ]))
  generalize hW : World.alloc (World.alloc (World.alloc w _) _) _ = W
  have X2 : lk W w.heap.size = some (.cells (cw L).toArray 32 (0, 0)) := by rw [← hW]; simp [look_alloc] <;> omega
  have X3 : lk W (w.heap.size + 1) = some (.cells #[.int .i64 45, .int .i64 a, .int .i64 b, .int .i64 c, .int .i32 m] 27 (0, 0)) := by rw [← hW]; simp [look_alloc]
  have X4 : lk W (w.heap.size + 2) = some (.cells (cw Z25).toArray 32 (0, 0)) := by rw [← hW]; simp [look_alloc]
  have HB : Below w.heap.size w W := by rw [← hW]; (repeat' (first | with_reducible exact Below.refl _ _ | with_reducible assumption | with_reducible apply below_drewN | with_reducible apply Below.drew | with_reducible apply Below.setCell | with_reducible apply Below.alloc | (simp; done) | omega | (simp; omega)))
  have hsz : w.heap.size + 2 < W.heap.size := by rw [← hW]; simp
  clear hW
  obtain ⟨fs, hu⟩ := undCpu
  have hi : (Tryd.prog.info? 32).map (·.size) = some (cw L).length := by rw [cw_len hLL]; exact infCpu
  have hrg : W.rangeAt w.heap.size 0 (cw L) := fun j u hu => by rw [Nat.zero_add]; exact (cell_lk X2 j).trans (by simpa using hu)
  have hcm : W.cell? ⟨w.heap.size + 1, 4, none⟩ = some (.int .i32 m) := cell_lk X3 4
  have bb : Below W.heap.size W W.drew := (Below.refl _ _).drew
  unfold cpV at HA
  refine wp_region_held_drew (S := fun w' => w'.rangeAt w.heap.size 0 (cw L) ∧ w'.cell? ⟨w.heap.size + 1, 4, none⟩ = some (.int .i32 m)) (by kernel_rfl) ⟨range_on hrg bb (by omega), cell_on hcm bb⟩ (fun hHeld => ?_)
  (refine' wpAnyH_take (i := 0) (oi := _) (v := _) rfl (by kernel_rfl) (by kernel_rfl) (by kernel_rfl) (fun _ _ _ h => h) (yieldsIf_load_mid (by rfl) _ _ rfl _ 0 rfl (cw L) _ (fun w hw => hw.1) hu rfl hi) (by assumption) ?_; (try simp only [List.getElem_toArray, List.getElem_cons_succ, List.getElem_cons_zero, Act.put, List.setIfInBounds_toArray, List.set_cons_zero, List.set_cons_succ]))
  (refine wpAnyH_take (i := 2) (oi := _) (v := ?_) rfl (by kernel_rfl) (by kernel_rfl) (by kernel_rfl) (fun _ _ _ h => h) (Or.inl ⟨by rfl, ?_⟩) (by assumption) ?_; rotate_left 1; focus (intro w hSw; go_simp; try with_reducible rfl); (try simp only [List.getElem_toArray, List.getElem_cons_succ, List.getElem_cons_zero, Act.put, List.setIfInBounds_toArray, List.set_cons_zero, List.set_cons_succ]))
  (refine wpAnyH_take (i := 3) (oi := _) (v := ?_) rfl (by kernel_rfl) (by kernel_rfl) (by kernel_rfl) (fun _ _ _ h => h) (Or.inl ⟨by rfl, ?_⟩) (by assumption) ?_; rotate_left 1; focus (rintro w ⟨-, hSw⟩; go_simp; try with_reducible rfl); (try simp only [List.getElem_toArray, List.getElem_cons_succ, List.getElem_cons_zero, Act.put, List.setIfInBounds_toArray, List.set_cons_zero, List.set_cons_succ]))
  (refine wpAnyH_take (i := 4) (oi := _) (v := ?_) rfl (by kernel_rfl) (by kernel_rfl) (by kernel_rfl) (fun _ _ _ h => h) (Or.inl ⟨by rfl, ?_⟩) (by assumption) ?_; rotate_left 1; focus (intro w hSw; go_simp; try with_reducible rfl); (try simp only [List.getElem_toArray, List.getElem_cons_succ, List.getElem_cons_zero, Act.put, List.setIfInBounds_toArray, List.set_cons_zero, List.set_cons_succ]))
  have hAL := hL.adv.1
  refine (fun (key : Hid ?T) => ?main) ?kp
  case main =>
    refine wpAnyH_ready (rs := [1, 5]) (by kernel_rfl) (by simp) ?_
    refine AllReadyH.cons (o := _) rfl (fun K hK => ?_) (AllReadyH.cons (o := _) rfl (fun K hK => ?_) AllReadyH.nil)
    · rw [if_pos (by rfl)]
      go_simp
      refine (HA.out _).mono ?_
      rintro e w1 ⟨rfl, hb1⟩
      replace bb := below_step bb hb1
      (try dsimp only)
      refine hK.out _ _ ?_ (fun hHeld => ?_)
      · exact ⟨range_on hrg bb (by omega), cell_on hcm bb⟩
      clear hK K hb1
      (try simp only [List.getElem_toArray, List.getElem_cons_succ, List.getElem_cons_zero, Act.put, List.setIfInBounds_toArray, List.set_cons_zero, List.set_cons_succ])
      refine wpAnyH_ready (rs := [5]) (by kernel_rfl) (by simp) ?_
      refine AllReadyH.cons (o := _) rfl (fun K hK => ?_) AllReadyH.nil
      rw [if_pos (by rfl)]
      refine wp_alloc_cpu rfl ?_
      have hsz1 := bb.size
      replace bb := bb.alloc hsz1 (.cells (cw Z25).toArray 32)
      (try dsimp only)
      refine hK.out _ _ ?_ (fun hHeld => ?_)
      · exact ⟨range_on hrg bb (by omega), cell_on hcm bb⟩
      clear hK K
      (try simp only [List.getElem_toArray, List.getElem_cons_succ, List.getElem_cons_zero, Act.put, List.setIfInBounds_toArray, List.set_cons_zero, List.set_cons_succ])
      have Y5 : lk (w1.alloc (.cells (cw Z25).toArray 32)) w1.heap.size = some (.cells (cw Z25).toArray 32 (0, 0)) := by rw [look_alloc, if_pos rfl]
      have hg5 := hsz1
      refine wpAnyH_ready (rs := [6]) (by kernel_rfl) (by simp) ?_
      refine AllReadyH.cons (o := _) rfl (fun K hK => ?_) AllReadyH.nil
      rw [if_pos (by rfl)]
      refine wp_store_cpu _ _ rfl _ rfl rfl hAL Y5 Z25_len ?_
      replace Y5 := lk_row (M := advL L) Y5
      replace bb := below_setRow bb _ hg5 (cw (advL L)).toArray
      (try dsimp only)
      refine hK.out _ _ ?_ (fun hHeld => ?_)
      · exact ⟨range_on hrg bb (by omega), cell_on hcm bb⟩
      clear hK K
      (try simp only [List.getElem_toArray, List.getElem_cons_succ, List.getElem_cons_zero, Act.put, List.setIfInBounds_toArray, List.set_cons_zero, List.set_cons_succ])
      (refine wpAnyH_take (i := 7) (oi := _) (v := ?_) rfl (by kernel_rfl) (by kernel_rfl) (by kernel_rfl) (fun _ _ _ h => h) (Or.inl ⟨by rfl, ?_⟩) (by assumption) ?_; rotate_left 1; focus (intro w hSw; go_simp; try with_reducible rfl); (try simp only [List.getElem_toArray, List.getElem_cons_succ, List.getElem_cons_zero, Act.put, List.setIfInBounds_toArray, List.set_cons_zero, List.set_cons_succ]))
      refine wpAnyH_done (by kernel_rfl) ?_ _
      (try simp only [List.getElem_toArray, List.getElem_cons_succ, List.getElem_cons_zero, Act.put, List.setIfInBounds_toArray, List.set_cons_zero, List.set_cons_succ])
      have F : lk _ w1.heap.size = _ ∧ W.heap.size ≤ w1.heap.size ∧ Below W.heap.size W _ := ⟨Y5, hg5, bb⟩
      generalize World.setRow (World.alloc w1 _) _ _ = W5 at F ⊢
      generalize w1.heap.size = g5 at F ⊢
      revert F; revert g5 W5
      exact key.out
    · rw [if_pos (by rfl)]
      refine wp_alloc_cpu rfl ?_
      have Y5 : lk (W.drew.alloc (.cells (cw Z25).toArray 32)) W.heap.size = some (.cells (cw Z25).toArray 32 (0, 0)) := by rw [look_alloc]; exact if_pos rfl
      have hg5 : W.heap.size ≤ W.heap.size := Nat.le_refl _
      replace bb := bb.alloc hg5 (.cells (cw Z25).toArray 32)
      have hs5 : W.heap.size < (W.drew.alloc (.cells (cw Z25).toArray 32)).heap.size := by simp
      (try dsimp only)
      refine hK.out _ _ ?_ (fun hHeld => ?_)
      · exact ⟨range_on hrg bb (by omega), cell_on hcm bb⟩
      clear hK K
      (try simp only [List.getElem_toArray, List.getElem_cons_succ, List.getElem_cons_zero, Act.put, List.setIfInBounds_toArray, List.set_cons_zero, List.set_cons_succ])
      refine wpAnyH_ready (rs := [1]) (by kernel_rfl) (by simp) ?_
      refine AllReadyH.cons (o := _) rfl (fun K hK => ?_) AllReadyH.nil
      rw [if_pos (by rfl)]
      go_simp
      refine (HA.out _).mono ?_
      rintro e w1 ⟨rfl, hb1⟩
      replace Y5 := look_on Y5 hb1 hs5
      replace bb := below_step bb hb1
      (try dsimp only)
      refine hK.out _ _ ?_ (fun hHeld => ?_)
      · exact ⟨range_on hrg bb (by omega), cell_on hcm bb⟩
      clear hK K hb1 hs5
      (try simp only [List.getElem_toArray, List.getElem_cons_succ, List.getElem_cons_zero, Act.put, List.setIfInBounds_toArray, List.set_cons_zero, List.set_cons_succ])
      refine wpAnyH_ready (rs := [6]) (by kernel_rfl) (by simp) ?_
      refine AllReadyH.cons (o := _) rfl (fun K hK => ?_) AllReadyH.nil
      rw [if_pos (by rfl)]
      refine wp_store_cpu _ _ rfl _ rfl rfl hAL Y5 Z25_len ?_
      replace Y5 := lk_row (M := advL L) Y5
      replace bb := below_setRow bb _ hg5 (cw (advL L)).toArray
      (try dsimp only)
      refine hK.out _ _ ?_ (fun hHeld => ?_)
      · exact ⟨range_on hrg bb (by omega), cell_on hcm bb⟩
      clear hK K
      (try simp only [List.getElem_toArray, List.getElem_cons_succ, List.getElem_cons_zero, Act.put, List.setIfInBounds_toArray, List.set_cons_zero, List.set_cons_succ])
      (refine wpAnyH_take (i := 7) (oi := _) (v := ?_) rfl (by kernel_rfl) (by kernel_rfl) (by kernel_rfl) (fun _ _ _ h => h) (Or.inl ⟨by rfl, ?_⟩) (by assumption) ?_; rotate_left 1; focus (intro w hSw; go_simp; try with_reducible rfl); (try simp only [List.getElem_toArray, List.getElem_cons_succ, List.getElem_cons_zero, Act.put, List.setIfInBounds_toArray, List.set_cons_zero, List.set_cons_succ]))
      refine wpAnyH_done (by kernel_rfl) ?_ _
      (try simp only [List.getElem_toArray, List.getElem_cons_succ, List.getElem_cons_zero, Act.put, List.setIfInBounds_toArray, List.set_cons_zero, List.set_cons_succ])
      have F : lk _ W.heap.size = _ ∧ W.heap.size ≤ W.heap.size ∧ Below W.heap.size W _ := ⟨Y5, hg5, bb⟩
      generalize World.setRow w1 _ _ = W5 at F ⊢
      generalize hgg : W.heap.size = g5
      have F' : lk W5 g5 = some (.cells (cw (advL L)).toArray 32 (0, 0)) ∧ W.heap.size ≤ g5 ∧ Below W.heap.size W W5 := ⟨by rw [← hgg]; exact F.1, by rw [← hgg]; exact Nat.le_refl _, F.2.2⟩
      clear hgg F
      revert F'; revert g5 W5
      exact key.out
  case kp =>
    show ∀ (W5 : World) (g5 : Nat), _
    intro W5 g5 ⟨Y5, hg5, bW⟩
    have Y2 := look_on X2 bW (by omega)
    have Y3 := look_on X3 bW (by omega)
    have Y4 := look_on X4 bW (by omega)
    have hW5 : g5 < W5.heap.size := by
      have := Y5
      unfold lk at this
      exact (Array.getElem?_eq_some_iff.1 this).1
    have HB5 : Below w.heap.size w W5 := below_step HB bW
    clear X2 X3 X4 bW hrg hcm bb HA hHeld
    have C2 : ∀ k : Nat, k < 25 → W5.cell? ⟨w.heap.size, k, none⟩ = some (.int .u32 (wd L k)) := fun k hk => (cell_lk Y2 k).trans (by simpa using cw_at hLL hk)
    have C5 : ∀ k : Nat, k < 25 → W5.cell? ⟨g5, k, none⟩ = some (.int .u32 (wd (advL L) k)) := fun k hk => (cell_lk Y5 k).trans (by simpa using cw_at hAL hk)
    have c0 : W5.cell? ⟨w.heap.size + 1, 0, none⟩ = _ := cell_lk Y3 0
    have c1 : W5.cell? ⟨w.heap.size + 1, 1, none⟩ = _ := cell_lk Y3 1
    have c2 : W5.cell? ⟨w.heap.size + 1, 2, none⟩ = _ := cell_lk Y3 2
    have c3 : W5.cell? ⟨w.heap.size + 1, 3, none⟩ = _ := cell_lk Y3 3
    have c4 : W5.cell? ⟨w.heap.size + 1, 4, none⟩ = _ := cell_lk Y3 4
    simp at c0 c1 c2 c3 c4
    have ca := C2 a ha25
    have cb := C2 b hb25
    repeat' (first
      | (with_reducible refine then_normal ?_) | (with_reducible refine wp_exit ?_) | (with_reducible refine wp_ret ?_) | (with_reducible refine then_exit ?_) | (with_reducible refine blk_hit ?_) | (with_reducible refine blk_pass (by decide) ?_) | (with_reducible refine then_ret ?_) | (with_reducible refine blk_ret ?_) | (with_reducible refine blk_normal ?_)
      | (refine wpList_load_look rfl _ rfl _ rfl (fun ob hob => ?_); (first | rw [Y5] at hob | rw [Y2] at hob); subst hob; refine ⟨_, rfl, by assumption, ?_⟩; simp only [Act.put, List.setIfInBounds_toArray, List.set_cons_zero, List.set_cons_succ])
      | go_values | go_skip | go_guarded | go_step | go_upon | (simp only [Int.not_lt, Int.not_le] at *; go_simp) | (go_values <;> (try go_simp)) | (go_ite <;> go_prune <;> (try go_simp)))
    have s0 : W5.drew.cell? ⟨w.heap.size + 1, 0, none⟩ = _ := c0
    have s1 : W5.drew.cell? ⟨w.heap.size + 1, 1, none⟩ = _ := c1
    have s2 : W5.drew.cell? ⟨w.heap.size + 1, 2, none⟩ = _ := c2
    have s3 : W5.drew.cell? ⟨w.heap.size, a, none⟩ = _ := ca
    have s4 : W5.drew.cell? ⟨w.heap.size, b, none⟩ = _ := cb
    go_region_held3 (fun w' => w'.cell? ⟨w.heap.size + 1, 0, none⟩ = some (.int .i64 45) ∧ w'.cell? ⟨w.heap.size + 1, 1, none⟩ = some (.int .i64 a) ∧ w'.cell? ⟨w.heap.size + 1, 2, none⟩ = some (.int .i64 b) ∧ w'.cell? ⟨w.heap.size, a, none⟩ = some (.int .u32 (wd L a)) ∧ w'.cell? ⟨w.heap.size, b, none⟩ = some (.int .u32 (wd L b))) (first | exact ⟨s0, s1, s2, s3, s4⟩ | go_keep) (first | (go_at_call 55; refine (HBR.out _).mono ?_; rintro e w6 ⟨rfl, rfl⟩))
    have V5 : lk W5.drew g5 = _ := Y5
    have V4 : lk W5.drew (w.heap.size + 2) = _ := Y4
    have HB6 : Below w.heap.size w W5.drew := HB5.drew
    have hw6 : g5 < W5.drew.heap.size := hW5
    have d5 : W5.drew.cell? ⟨g5, 16, none⟩ = some (.int .u32 (wd (advL L) 16)) := C5 16 (by omega)
    have f5 : W5.drew.frozen? ⟨g5, 16, none⟩ = false := frozen_lk V5 16
    clear s0 s1 s2 s3 s4 ca cb c0 c1 c2 c3 c4 C2 C5 Y5 Y4 Y2 Y3 HB5
    generalize W5.drew = W6 at *
    cases tk
    · repeat' (first
        | (with_reducible refine then_normal ?_) | (with_reducible refine wp_exit ?_) | (with_reducible refine wp_ret ?_) | (with_reducible refine then_exit ?_) | (with_reducible refine blk_hit ?_) | (with_reducible refine blk_pass (by decide) ?_) | (with_reducible refine then_ret ?_) | (with_reducible refine blk_ret ?_) | (with_reducible refine blk_normal ?_)
        | (refine wpList_load_look rfl _ rfl _ rfl (fun ob hob => ?_); rw [V5] at hob; subst hob; refine ⟨_, rfl, hAL, ?_⟩; simp only [Act.put, List.setIfInBounds_toArray, List.set_cons_zero, List.set_cons_succ])
        | (refine wpList_store_look rfl _ _ rfl _ rfl rfl hAL (fun ob hob => by (rw [V4] at hob; subst hob; exact ⟨_, rfl, Z25_len⟩)) (fun w2 hw2 => ?_); subst hw2; simp only [Act.put, List.setIfInBounds_toArray, List.set_cons_zero, List.set_cons_succ])
        | go_values | go_skip | go_guarded | go_step | go_upon | (simp only [Int.not_lt, Int.not_le] at *; go_simp) | (go_values <;> (try go_simp)) | (go_ite <;> go_prune <;> (try go_simp)))
      exact bodyPost_ret (v := cpV (advL L)) (results_cpu rfl _ _ (w.heap.size + 2) rfl hAL (lk_row V4)) rfl ⟨rfl, below_setRow HB6 _ (by omega) _⟩
    · have eT := Lib.hid (show (wd L 16 + 4 * (m % 4294967296)) % 4294967296 = (wd L 16 + 4 * m) % 4294967296 by omega)
      generalize hT : (wd L 16 + 4 * (m % 4294967296)) % 4294967296 = T at *
      have U5 := lk_set V5 16 T
      have U4 := lk_setN (k := 16) (v := .int .u32 T) V4 (show ¬ g5 = w.heap.size + 2 by omega)
      have hRT : ((advL L).set 16 T).length = 25 := by rw [List.length_set]; exact hAL
      have HB7 : Below w.heap.size w (W6.setCell ⟨g5, 16, none⟩ (.int .u32 T)) := HB6.setCell (show w.heap.size ≤ g5 by omega) _
      repeat' (first
        | (with_reducible refine then_normal ?_) | (with_reducible refine wp_exit ?_) | (with_reducible refine wp_ret ?_) | (with_reducible refine then_exit ?_) | (with_reducible refine blk_hit ?_) | (with_reducible refine blk_pass (by decide) ?_) | (with_reducible refine then_ret ?_) | (with_reducible refine blk_ret ?_) | (with_reducible refine blk_normal ?_)
        | (refine wpList_load_look rfl _ rfl _ rfl (fun ob hob => ?_); rw [U5] at hob; subst hob; refine ⟨_, rfl, hRT, ?_⟩; simp only [Act.put, List.setIfInBounds_toArray, List.set_cons_zero, List.set_cons_succ])
        | (refine wpList_store_look rfl _ _ rfl _ rfl rfl hRT (fun ob hob => by (rw [U4] at hob; subst hob; exact ⟨_, rfl, Z25_len⟩)) (fun w2 hw2 => ?_); subst hw2; simp only [Act.put, List.setIfInBounds_toArray, List.set_cons_zero, List.set_cons_succ])
        | go_values | go_skip | go_guarded | go_step | go_upon | (simp only [Int.not_lt, Int.not_le] at *; go_simp) | (go_values <;> (try go_simp)) | (go_ite <;> go_prune <;> (try go_simp)))
      exact bodyPost_ret (v := cpV ((advL L).set 16 T)) (results_cpu rfl _ _ (w.heap.size + 2) rfl hRT (lk_row U4)) rfl ⟨by rw [eT.out, hset], below_setRow HB7 _ (by omega) _⟩
theorem step_br (L : List Int) (o A B c m : Int) (a b : Nat) (w : World) (hL : C25 L) (ha : A = a) (a1 : a < 16) (hb : B = b) (b1 : b < 16) (m0 : -32768 ≤ m) (m1 : m ≤ 65535) (ho : 40 ≤ o ∧ o ≤ 45) :
    Calls Tryd.prog 33 #[cpV L, instV o A B c m] w fun e w' => e = .returned (cpV (if tkn o (wd L a) (wd L b) = true then L.set 16 ((wd L 16 + 4 * m) % 4294967296) else advL L)) ∧ Below w.heap.size w w' := by
  have ho' : o = 40 ∨ o = 41 ∨ o = 42 ∨ o = 43 ∨ o = 44 ∨ o = 45 := by omega
  rcases ho' with rfl | rfl | rfl | rfl | rfl | rfl
  · exact step_br40 L A B c m a b w hL ha a1 hb b1 m0 m1
  · exact step_br41 L A B c m a b w hL ha a1 hb b1 m0 m1
  · exact step_br42 L A B c m a b w hL ha a1 hb b1 m0 m1
  · exact step_br43 L A B c m a b w hL ha a1 hb b1 m0 m1
  · exact step_br44 L A B c m a b w hL ha a1 hb b1 m0 m1
  · exact step_br45 L A B c m a b w hL ha a1 hb b1 m0 m1
end Go.Proofs.YtkpboooifkhijaaDoor
