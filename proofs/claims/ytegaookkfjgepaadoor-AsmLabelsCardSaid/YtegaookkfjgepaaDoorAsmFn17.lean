import Derived.Test.YtegaookkfjgepaaDoorAsmFn16
namespace Go.Proofs.YtegaookkfjgepaaDoor
set_option linter.unusedVariables false
set_option linter.unusedSimpArgs false
open Go.ChangeShapes Go.WideShapes Go.ChangeAt Go.RowKit Go.Proofs.YtegaookkfjgepaaDoor.Num Go.Proofs.YtegaookkfjgepaaDoor.Isa Go.Proofs.YtegaookkfjgepaaDoor.Mem Go.Proofs.YtegaookkfjgepaaDoor.Asm
set_option maxHeartbeats 4000000 in
theorem trans_long (src : ByteArray) (w : World) (hs : 8192 < src.size) (hs2 : src.size ≤ 9223372036854775807) : Calls Tryd.prog 44 #[.string src] w (TransPost (.inl (300, 0)) w) := by
  go_enter Tryd.func44, Tryd.ntmps44
  go_wp2
  refine bodyPost_ret (v := .tuple #[.slice none 0 0, .slice none 0 0, .agg #[.int .i64 300, .int .i64 0]]) ?_ rfl ⟨rfl, ?_⟩
  · rw [results_slot2_cell rfl]; go_simp
  · have h0 : w.heap.size ≤ w.heap.size := Nat.le_refl _
    exact (Below.refl _ w).alloc h0 _
set_option maxHeartbeats 4000000 in
theorem trans_read (src : ByteArray) (w : World) (hs : src.size ≤ 8192) (c l : Nat) (hr : readL (linesL src.data.toList) 0 [] [] = .inl (c, l)) : Calls Tryd.prog 44 #[.string src] w (TransPost (.inl (c, l)) w) := by
  have hce := read_errs _ _ _ _ _ hr
  dsimp only at hce
  have hcI : ((c : Int) != 0) = true := by rw [bne_iff_ne]; omega
  have hrd := fun W => read_asm src W hs
  rw [hr] at hrd
  have HRD := Lib.hid hrd
  clear hr hrd hce
  go_enter Tryd.func44, Tryd.ntmps44
  go_wp2_with (go_at_call 61; (with_reducible refine (HRD.out _).mono ?_); rintro e w1 ⟨rfl, hb1⟩; have HB1 := Lib.hid hb1; have g0 := cell_blk (heap_below (al_new w _ _ rfl) hb1); have f0 := free_blk (heap_below (al_new w _ _ rfl) hb1); have G0 := fun o o2 => al_old (o := o2) (al_old (o := o) (heap_below (al_new w _ _ rfl) hb1)); have c0 := fun o o2 => cell_blk (G0 o o2) 0 rfl; have c1 := fun o o2 => cell_blk (G0 o o2) 1 rfl; have i0 := fun o o2 => free_blk (G0 o o2) 0; have i1 := fun o o2 => free_blk (G0 o o2) 1; have hws := hb1.size; clear g0 f0 G0 hb1)
  go_region
  all_goals go_wp2
  all_goals refine bodyPost_ret (v := .tuple #[.slice none 0 0, .slice none 0 0, .agg #[.int .i64 c, .int .i64 l]]) ?_ rfl ⟨rfl, ?_⟩
  · rw [results_slot2_cell rfl]; go_simp
  · have h0 : w.heap.size ≤ w.heap.size := Nat.le_refl _
    have hb : Below w.heap.size w w1 := below_step ((Below.refl _ w).alloc h0 _) HB1.out
    exact ((((hb.alloc hb.size _).alloc (by have := hb.size; simp; omega) _).setCell h0 _).setCell h0 _).drew
theorem own_four {w : World} {base : Nat} {e : TypeId} {size : Nat} {v : Value} {n : Nat} {xs : List Value} {a b : Nat} {x y z u : Value} (h : w.ownsRow base e size v n xs) (na : v.ownBlock ≠ some a) (nb : v.ownBlock ≠ some b) :
    ((((w.setCell ⟨a, 0, none⟩ x).setCell ⟨a, 1, none⟩ y).setCell ⟨b, 0, none⟩ z).setCell ⟨b, 1, none⟩ u).drew.ownsRow base e size v n xs :=
  own_below (ownsRow_setCell_other (ownsRow_setCell_other (ownsRow_setCell_other (ownsRow_setCell_other h na _) na _) nb _) nb _) (Below.refl _ _).drew
theorem trans_below {w w1 w2 : World} {o o1 o2 : Obj} (h1 : Below (w.alloc o).heap.size (w.alloc o) w1) (h2 : Below ((w1.alloc o1).alloc o2).heap.size ((w1.alloc o1).alloc o2) w2) : Below w.heap.size w w2 := by
  have hb : Below w.heap.size w w1 := below_step ((Below.refl _ w).alloc (Nat.le_refl _) _) h1
  exact below_step ((hb.alloc hb.size _).alloc (by have := hb.size; simp; omega) _) h2
set_option maxHeartbeats 4000000 in
theorem trans_code (src : ByteArray) (w : World) (hs : src.size ≤ 8192) (syms : List (Bs × Nat)) (ds : List Draft) (hr : readL (linesL src.data.toList) 0 [] [] = .inr (syms, ds)) (r : Sum (Int × Int) (List Int)) (hc : codeL syms ds [] = r) :
    Calls Tryd.prog 44 #[.string src] w (TransPost (transR syms r) w) := by
  obtain ⟨k1, k2, k3⟩ := read_ok _ _ _ _ _ hr ⟨by simp, by simp, by simp⟩
  dsimp only at k1 k2 k3
  have hrd := fun W => read_asm src W hs
  rw [hr] at hrd
  have HRD := Lib.hid (show ∀ W, Calls Tryd.prog 61 #[.string src] W fun e w' => (∃ vs vd M, e = .returned (.tuple #[.agg #[vs, .map (some M), vd], .agg #[.int .i64 0, .int .i64 0]]) ∧ w'.heap[M]? = some (symM syms) ∧ w'.ownsRow W.heap.size 51 2 vs syms.length (flatS syms) ∧ w'.ownsRow W.heap.size 130 9 vd ds.length (flat ds)) ∧ Below W.heap.size W w' from hrd)
  have HCD := Lib.hid (fun P M b0 vs vd W h1 h2 h3 => code_asm P M b0 vs vd syms ds W h1 h2 h3 k1 (fun s hs => by have := k2 s hs; omega) k3)
  rw [hc] at HCD
  clear hr hrd k1 k2 k3
  cases r with
  | inl e =>
    obtain ⟨c, l⟩ := e
    have hcn := code_errs _ _ _ _ hc
    dsimp only at hcn
    have hcI : (c != 0) = true := by rw [bne_iff_ne]; exact hcn
    change Calls _ _ _ _ (TransPost (.inl (c, l)) w)
    clear hc
    go_enter Tryd.func44, Tryd.ntmps44
    go_wp2_with (first
      | (go_at_call 61; (with_reducible refine (HRD.out _).mono ?_); rintro e w1 ⟨⟨vs, vd, M, rfl, hM, hS, hD⟩, hb1⟩; obtain ⟨oa1, cap1, rfl⟩ := own_shape hS; obtain ⟨oa2, cap2, rfl⟩ := own_shape hD; have HM := Lib.hid hM; have HS := Lib.hid hS; have HD := Lib.hid hD; have HB1 := Lib.hid hb1; have H0 := Lib.hid (heap_below (al_new w _ _ rfl) hb1); have hws : w.heap.size < w1.heap.size := lt_of_block (heap_below (al_new w _ _ rfl) hb1); clear hb1 hM hS hD)
      | (go_at_call 62; (with_reducible refine (HCD.out _ _ _ _ _ _ (al_old (al_new _ _ _ rfl)) (al_old (al_old HM.out)) ((HD.out.alloc _).alloc _)).mono ?_); rintro e w2 ⟨rfl, hb2⟩; have HB2 := Lib.hid hb2; have g0 := cell_blk (heap_below (al_old (al_old H0.out)) hb2); have f0 := free_blk (heap_below (al_old (al_old H0.out)) hb2); have c0 : w2.cell? ⟨w.heap.size, 0, none⟩ = some (.int .i64 0) := g0 0 rfl; have c1 : w2.cell? ⟨w.heap.size, 1, none⟩ = some (.int .i64 0) := g0 1 rfl; have i0 := f0 0; have i1 := f0 1; clear g0 f0; have g0 := cell_blk (heap_below (al_new _ _ (w1.heap.size + 1) (by simp)) hb2); have f0 := free_blk (heap_below (al_new _ _ (w1.heap.size + 1) (by simp)) hb2); have d0 : w2.cell? ⟨w1.heap.size + 1, 0, none⟩ = some (.int .i64 0) := g0 0 rfl; have d1 : w2.cell? ⟨w1.heap.size + 1, 1, none⟩ = some (.int .i64 0) := g0 1 rfl; have j0 := f0 0; have j1 := f0 1; have hs2 := hb2.size; clear hb2 g0 f0))
    go_region
    all_goals go_wp2
    all_goals refine bodyPost_ret (v := .tuple #[.slice none 0 0, .slice none 0 0, .agg #[.int .i64 c, .int .i64 l]]) ?_ rfl ⟨rfl, ?_⟩
    · rw [results_slot2_cell rfl]; go_simp
    · have h0 : w.heap.size ≤ w.heap.size := Nat.le_refl _
      have h1 : w.heap.size ≤ w1.heap.size + 1 := by have := HB1.out.size; simp at this; omega
      have hb : Below w.heap.size w w2 := trans_below HB1.out HB2.out
      exact ((((hb.setCell h1 _).setCell h1 _).setCell h0 _).setCell h0 _).drew
  | inr ws =>
    change Calls _ _ _ _ (TransPost (.inr (ws, syms)) w)
    clear hc
    go_enter Tryd.func44, Tryd.ntmps44
    go_wp2_with (first
      | (go_at_call 61; (with_reducible refine (HRD.out _).mono ?_); rintro e w1 ⟨⟨vs, vd, M, rfl, hM, hS, hD⟩, hb1⟩; obtain ⟨oa1, cap1, rfl⟩ := own_shape hS; obtain ⟨oa2, cap2, rfl⟩ := own_shape hD; have HM := Lib.hid hM; have HS := Lib.hid hS; have HD := Lib.hid hD; have HB1 := Lib.hid hb1; have H0 := Lib.hid (heap_below (al_new w _ _ rfl) hb1); have hws : w.heap.size < w1.heap.size := lt_of_block (heap_below (al_new w _ _ rfl) hb1); clear hb1 hM hS hD)
      | (go_at_call 62; (with_reducible refine (HCD.out _ _ _ _ _ _ (al_old (al_new _ _ _ rfl)) (al_old (al_old HM.out)) ((HD.out.alloc _).alloc _)).mono ?_); rintro e w2 ⟨⟨vc, rfl, hC⟩, hb2⟩; obtain ⟨oa3, cap3, rfl⟩ := own_shape hC; have HC := Lib.hid hC; have p0 : w2.cell? ⟨w1.heap.size, 0, none⟩ = some (.slice oa1 syms.length cap1) := cell_blk (heap_below (al_old (al_new w1 _ _ rfl)) hb2) 0 rfl; have HB2 := Lib.hid hb2; have g0 := cell_blk (heap_below (al_old (al_old H0.out)) hb2); have f0 := free_blk (heap_below (al_old (al_old H0.out)) hb2); have c0 : w2.cell? ⟨w.heap.size, 0, none⟩ = some (.int .i64 0) := g0 0 rfl; have c1 : w2.cell? ⟨w.heap.size, 1, none⟩ = some (.int .i64 0) := g0 1 rfl; have i0 := f0 0; have i1 := f0 1; clear g0 f0; have g0 := cell_blk (heap_below (al_new _ _ (w1.heap.size + 1) (by simp)) hb2); have f0 := free_blk (heap_below (al_new _ _ (w1.heap.size + 1) (by simp)) hb2); have d0 : w2.cell? ⟨w1.heap.size + 1, 0, none⟩ = some (.int .i64 0) := g0 0 rfl; have d1 : w2.cell? ⟨w1.heap.size + 1, 1, none⟩ = some (.int .i64 0) := g0 1 rfl; have j0 := f0 0; have j1 := f0 1; have hs2 := hb2.size; clear hb2 g0 f0 hC))
    go_region
    all_goals go_wp2
    refine bodyPost_ret (v := .tuple #[.slice oa3 ws.length cap3, .slice oa1 syms.length cap1, .agg #[.int .i64 0, .int .i64 0]]) ?_ rfl ⟨⟨_, _, rfl, ?_, ?_⟩, ?_⟩
    · rw [results_slot2_cell rfl]; go_simp
    · have hz := HB1.out.size
      simp at hz
      exact own_base (own_four HC.out (own_low HC.out (by simp)) (own_low HC.out (by simp; omega))) (by simp; omega)
    · have hz := HB1.out.size
      simp at hz
      have h2 := own_below ((HS.out.alloc _).alloc _) HB2.out
      exact own_base (own_four h2 (fun e => by have := own_lt HS.out e; omega) (own_low HS.out (by simp))) (by simp)
    · have h0 : w.heap.size ≤ w.heap.size := Nat.le_refl _
      have h1 : w.heap.size ≤ w1.heap.size + 1 := by omega
      have hb : Below w.heap.size w w2 := trans_below HB1.out HB2.out
      exact ((((hb.setCell h1 _).setCell h1 _).setCell h0 _).setCell h0 _).drew
theorem trans_asm (src : ByteArray) (w : World) (hs : src.size ≤ 9223372036854775807) : Calls Tryd.prog 44 #[.string src] w (TransPost (transL src.data.toList) w) := by
  unfold transL
  rw [len_size]
  by_cases h : 8192 < src.size
  · rw [if_pos h]; exact trans_long src w h hs
  · rw [if_neg h]
    cases hr : readL (linesL src.data.toList) 0 [] [] with
    | inl r => exact trans_read src w (by omega) r.1 r.2 hr
    | inr r => exact trans_code src w (by omega) r.1 r.2 hr _ rfl
end Go.Proofs.YtegaookkfjgepaaDoor
