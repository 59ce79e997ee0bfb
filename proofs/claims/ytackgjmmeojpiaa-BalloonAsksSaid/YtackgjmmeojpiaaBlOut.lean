import Derived.Test.YtackgjmmeojpiaaBlCon
import Derived.Test.YtackgjmmeojpiaaDkSet
import Derived.Lib.QuietBelow
import Derived.Deep.RegionHeld3
import Derived.BigRegion
namespace Go.Proofs.Ytackgjmmeojpiaa
set_option linter.unusedVariables false
set_option linter.unusedSimpArgs false
set_option maxRecDepth 20000
open Go.ChangeShapes Go.WideShapes Go.ChangeAt Go.RowKit Go.Proofs.Ytackgjmmeojpiaa.Num Go.Proofs.Ytackgjmmeojpiaa.Mem
/-- The two cells of a balloon in a block. -/
structure InB (w : World) (b : Nat) (T : Int) (g : Nat) : Prop where
  c0 : w.cell? ⟨b, 0, none⟩ = some (.int .u32 T)
  c1 : w.cell? ⟨b, 1, none⟩ = some (.int .u32 (g : Int))
  z : ∀ i, w.frozen? ⟨b, i, none⟩ = false
theorem InB.lt {w : World} {b : Nat} {T : Int} {g : Nat} (h : InB w b T g) : b < w.heap.size := World.block_lt_of_cell? w _ h.c0
theorem InB.on {w w' : World} {b : Nat} {T : Int} {g : Nat} (h : InB w b T g) (hb : Below w.heap.size w w') : InB w' b T g := ⟨stillI h.c0 hb, stillI h.c1 hb, fun i => (hb.frozen (p := ⟨b, i, none⟩) h.lt).trans (h.z i)⟩
theorem InB.alloc {w : World} {b : Nat} {T : Int} {g : Nat} (h : InB w b T g) (o : Obj) : InB (w.alloc o) b T g := h.on ((Below.refl _ _).alloc (Nat.le_refl _) o)
theorem InB.drewN {w : World} {b : Nat} {T : Int} {g : Nat} (h : InB w b T g) (j : Nat) : InB (w.drewN j) b T g := h.on (below_drewN (Below.refl _ _) j)
theorem InB.new (w : World) (T : Int) (g : Nat) (ty : TypeId) : InB (w.alloc (.cells #[.int .u32 T, .int .u32 (g : Int)] ty)) w.heap.size T g := ⟨by simp [go_sem], by simp [go_sem], fun i => by simp [go_sem]⟩
/-- What a port write gives. -/
def BOut (n : Nat) (l : List Int) (T : Int) (g : Nat) (p : Int) (v : Nat) (w : World) (e : Ending) (w' : World) : Prop :=
  (∃ A c l', e = .returned (.tuple #[blV T (outG n g p v), .slice A n c]) ∧ Mem w' A n c l' ∧ (0 < n → ∃ b, A = some ⟨b, 0, none⟩ ∧ w.heap.size ≤ b ∧ Own w' b l') ∧ (outC n g p v → Filled zs8.data.toList v 128 l l') ∧ (¬ outC n g p v → l' = l)) ∧ Below w.heap.size w w'
theorem zeros_any (w : World) : Calls Try.prog 35 #[.string ⟨#[0]⟩, .int .i64 128] w fun e w' => e = .returned (.string zs8) ∧ Below w.heap.size w w' :=
  (Try.strings_Repeat ⟨#[0]⟩ 128 w (by omega) (by decide)).mono fun e w' ⟨he, hb⟩ => ⟨he, hb⟩
theorem bend {n c k : Nat} {l : List Int} {A : Option Addr} {w w' : World} (hm : Mem w A n c l) (ho : 0 < n → ∃ g, A = some ⟨g, 0, none⟩ ∧ k ≤ g ∧ Own w g l) (hf : ∀ g, k ≤ g → Own w g l → Own w' g l) : Mem w' A n c l ∧ (0 < n → ∃ g, A = some ⟨g, 0, none⟩ ∧ k ≤ g ∧ Own w' g l) := by
  by_cases hn : 0 < n
  · obtain ⟨g, rfl, hg, h⟩ := ho hn
    have h' := hf g hg h
    exact ⟨h'.mem hm.1 hm.2.1 hm.2.2.1 hm.2.2.2.1, fun _ => ⟨g, rfl, hg, h'⟩⟩
  · have : n = 0 := by omega
    subst this
    exact ⟨⟨hm.1, hm.2.1, hm.2.2.1, hm.2.2.2.1, fun h => absurd h (by rw [hm.1]; omega)⟩, fun h => absurd h (by omega)⟩
theorem bfin {C X : Prop} {n c k b : Nat} {l : List Int} {A : Option Addr} {w w' : World} (hm : Mem w A n c l) (ho : 0 < n → ∃ g, A = some ⟨g, 0, none⟩ ∧ k ≤ g ∧ Own w g l) (hk : b ≤ k) (hC : ¬ C) (hf : ∀ g, k ≤ g → Own w g l → Own w' g l) : Mem w' A n c l ∧ (0 < n → ∃ q, A = some ⟨q, 0, none⟩ ∧ b ≤ q ∧ Own w' q l) ∧ (C → X) ∧ (¬ C → l = l) := by
  obtain ⟨h1, h2⟩ := bend (w' := w') hm ho hf
  refine ⟨h1, fun hn => ?_, fun h => absurd h hC, fun _ => rfl⟩
  obtain ⟨q, hq, hkq, hO⟩ := h2 hn
  exact ⟨q, hq, Nat.le_trans hk hkq, hO⟩
/-- A frame is given. -/
theorem bgive_yes (T : Int) (g v : Nat) (A : Option Addr) (n c : Nat) (l : List Int) (w : World) (hm : Mem w A n c l) (hg : g < 4294967296) (hv : v < pagesN n) (hb : g.testBit v = false) :
    Calls Try.prog 25 #[blV T g, .slice A n c, .int .u32 (v : Int)] w (BOut n l T g 10 v w) := by
  have hn := hm.2.2.1
  have hp := pagesN_le n
  have hv32 : v < 32 := by omega
  have hcond : 0 ≤ (v : Int) ∧ (v : Int) < pagesN n ∧ zs8.size = 128 := ⟨by omega, by omega, zs8_size⟩
  have hC : outC n g 10 v := ⟨rfl, hv, hb⟩
  have HOG : outG n g 10 v = giveB g v := by unfold outG; rw [if_pos rfl, if_pos ⟨hv, hb⟩]
  have HB := Lib.hid (fun W => bit_any v W (by omega))
  have hand : bits .and .u32 (g : Int) (bitN v : Int) = 0 := by rw [has_is g v hv32 hg, hb]; rfl
  have hor : bits .or .u32 (g : Int) (bitN v : Int) = (giveB g v : Int) := u32_or_nat _ _ hg (bitN_lt v)
  have HZ := Lib.hid zeros_any
  have HS := Lib.hid (fun W (hM : Mem W A n c l) => sown_page A n c (v : Int) l zs8 W hM (by rw [zs8_size]; omega))
  unfold SetOwn at HS
  rw [decide_eq_true hcond] at HS
  unfold BOut
  rw [HOG]
  have HM := Lib.hid hm
  have HC := Lib.hid hC
  have HD := Lib.hid hcond
  clear hm hC hcond HOG hb
  generalize giveB g v = G at *
  generalize bitN v = B at *
  unfold blV
  go_enter Try.func25, Try.ntmps25
  go_wp2_with (first
    | go_skip
    | (go_at_call 35; (with_reducible refine (HZ.out _).mono ?_); rintro e w1 ⟨rfl, hb1⟩; have i1 : InB w1 w.heap.size T g := InB.on ⟨by simp [go_sem], by simp [go_sem], fun i => by simp [go_sem]⟩ hb1; have j1 : InB w1 (w.heap.size + 1) 0 0 := InB.on ⟨by simp [go_sem], by simp [go_sem], fun i => by simp [go_sem]⟩ hb1; have b1 : Below w.heap.size w w1 := Below.trans (by (repeat' (first | with_reducible exact Below.refl _ _ | with_reducible assumption | with_reducible apply below_drewN | with_reducible apply Below.drew | with_reducible apply Below.setCell | with_reducible apply Below.alloc | (simp; done) | omega | (simp; omega)))) (hb1.mono (by simp <;> omega)); clear hb1)
    | (go_at_call 34; (with_reducible refine (HS.out _ (HM.out.on b1)).mono ?_); rintro e w2 ⟨⟨A2, c2, l2, rfl, hm2, ho2, hF2, -⟩, hb2⟩; have i2 := i1.on hb2; have j2 := j1.on hb2; have b2 := below_stepI b1 hb2 (Nat.le_refl _); have hs1 := j1.lt; clear i1 j1))
  obtain ⟨b, HE⟩ : ∃ b, Hid (w.heap.size = b) := ⟨_, rfl⟩
  rw [HE.out] at i2 j2 b2 hs1 ⊢
  have hw2 := i2.lt
  have hw3 := j2.lt
  have X2 := Lib.hid i2
  have Y2 := Lib.hid j2
  have B2 := Lib.hid b2
  have M2 := Lib.hid hm2
  have O2 := Lib.hid ho2
  obtain ⟨c0, c1, cz⟩ := i2
  obtain ⟨d0, d1, dz⟩ := j2
  clear b1 hb2 HZ HS hm2 ho2 b2
  go_quiet ((go_at_call 26; exact Calls.quiet_of_same (HB.out _)))
  go_wp2
  obtain ⟨W, HW⟩ : ∃ W, Hid (w2.drewN nq = W) := ⟨_, rfl⟩
  have X3 : InB W b T g := by rw [← HW.out]; exact X2.out.drewN _
  have Y3 : InB W (b + 1) 0 0 := by rw [← HW.out]; exact Y2.out.drewN _
  have B3 : Hid (Below b w W) := by rw [← HW.out]; exact Lib.hid (below_drewN B2.out _)
  have M3 : Hid (Mem W A2 n c2 l2) := by rw [← HW.out]; exact Lib.hid (M2.out.drewN _)
  have O3 : Hid (0 < n → ∃ g, A2 = some ⟨g, 0, none⟩ ∧ w1.heap.size ≤ g ∧ Own W g l2) := by rw [← HW.out]; exact O2
  rw [HW.out]
  clear c0 c1 cz d0 d1 dz X2 Y2 B2 M2 O2 HW
  obtain ⟨c0, c1, cz⟩ := X3
  obtain ⟨d0, d1, dz⟩ := Y3
  refine wp_region_still_tail 6 (by kernel_rfl) (by kernel_rfl) ?_
  simp only [List.take_succ_cons, List.take_zero, List.drop_succ_cons, List.drop_zero]
  repeat (refine wpStill_step (fun K hK => ?_); go_simp; first | (with_reducible refine hK _ ?_) | (with_reducible refine ⟨_, HB.out _, hK _ ?_⟩); clear hK K)
  refine wpStill_nil ?_
  go_wp2
  have hn0 : 0 < n := by have := HD.out.2.1; omega
  obtain ⟨q, rfl, hq, hO⟩ := O3.out hn0
  have hW3 : b + 1 < W.heap.size := World.block_lt_of_cell? W _ d0
  have hO2 := ((hO.far (b := b) 1 (.int .u32 (G : Int)) (by omega)).far (b := b + 1) 0 (.int .u32 T) (by omega)).far (b := b + 1) 1 (.int .u32 (G : Int)) (by omega)
  have hM := M3.out
  have hO3 := hO2.drewN 1
  have hF := hF2 HD.out
  rw [Int.toNat_natCast] at hF
  refine bodyPost_ret (v := .tuple #[.agg #[.int .u32 T, .int .u32 (G : Int)], .slice (some ⟨q, 0, none⟩) n c2]) (by rw [results_cell_tmp rfl]; go_simp) rfl ⟨⟨_, c2, l2, rfl, hO3.mem hM.1 hM.2.1 hn hM.2.2.2.1, fun _ => ⟨q, rfl, by rw [HE.out]; omega, hO3⟩, fun _ => hF, fun h => absurd HC.out h⟩, ?_⟩
  rw [HE.out]
  exact (((B3.out.setCell (Nat.le_refl _) _).setCell (Nat.le_succ _) _).setCell (Nat.le_succ _) _).drew
/-- No frame is given: the memory is a copy. -/
theorem bgive_no (T : Int) (g v : Nat) (A : Option Addr) (n c : Nat) (l : List Int) (w : World) (hm : Mem w A n c l) (hg : g < 4294967296) (hv4 : v ≤ 4294967295) (ho : ¬ (v < pagesN n ∧ g.testBit v = false)) :
    Calls Try.prog 25 #[blV T g, .slice A n c, .int .u32 (v : Int)] w (BOut n l T g 10 v w) := by
  have hn := hm.2.2.1
  have hp := pagesN_le n
  have hC : ¬ outC n g 10 v := fun h => ho h.2
  have HOG : outG n g 10 v = g := by unfold outG; rw [if_pos rfl, if_neg ho]
  have HB := Lib.hid (fun W => bit_any v W (by omega))
  have HZ := Lib.hid zeros_any
  have HS := Lib.hid (fun W (hM : Mem W A n c l) => sown_page A n c (v : Int) l zs8 W hM (by rw [zs8_size]; omega))
  have HCL := Lib.hid (fun W (hM : Mem W A n c l) => clone_any A n c l W hM)
  unfold SetOwn at HS
  unfold ClonePost at HCL
  unfold BOut
  rw [HOG]
  have HM := Lib.hid hm
  have HC := Lib.hid hC
  have HO := Lib.hid ho
  obtain ⟨f, hf⟩ : ∃ f, decide (0 ≤ (v : Int) ∧ (v : Int) < pagesN n ∧ zs8.size = 128) = f := ⟨_, rfl⟩
  rw [hf] at HS
  have HF : Hid (f = true → bits .and .u32 (g : Int) (bitN v : Int) = (bitN v : Int) ∧ ¬ bitN v = 0) := by
    refine Lib.hid fun h => ?_
    rw [← hf] at h
    have h2 := of_decide_eq_true h
    have hv32 : v < 32 := by omega
    have hb : g.testBit v = true := by
      cases hb : g.testBit v
      · exact absurd ⟨by omega, hb⟩ ho
      · rfl
    have := bitN_pos v hv32
    exact ⟨by rw [has_is g v hv32 hg, hb]; rfl, by omega⟩
  clear hm hC HOG ho hf
  generalize bitN v = B at *
  unfold blV
  go_enter Try.func25, Try.ntmps25
  go_wp2_with (first
    | go_skip
    | (go_at_call 35; (with_reducible refine (HZ.out _).mono ?_); rintro e w1 ⟨rfl, hb1⟩; have i1 : InB w1 w.heap.size T g := InB.on ⟨by simp [go_sem], by simp [go_sem], fun i => by simp [go_sem]⟩ hb1; have j1 : InB w1 (w.heap.size + 1) 0 0 := InB.on ⟨by simp [go_sem], by simp [go_sem], fun i => by simp [go_sem]⟩ hb1; have b1 : Below w.heap.size w w1 := Below.trans (by (repeat' (first | with_reducible exact Below.refl _ _ | with_reducible assumption | with_reducible apply below_drewN | with_reducible apply Below.drew | with_reducible apply Below.setCell | with_reducible apply Below.alloc | (simp; done) | omega | (simp; omega)))) (hb1.mono (by simp <;> omega)); clear hb1)
    | (go_at_call 34; (with_reducible refine (HS.out _ (HM.out.on b1)).mono ?_); rintro e w2 ⟨⟨A2, c2, l2, rfl, hm2, ho2, hF2, -⟩, hb2⟩; have i2 := i1.on hb2; have j2 := j1.on hb2; have b2 := below_stepI b1 hb2 (Nat.le_refl _); have hs1 := j1.lt; clear i1 j1 hm2 ho2 hF2))
  obtain ⟨b, HE⟩ : ∃ b, Hid (w.heap.size = b) := ⟨_, rfl⟩
  rw [HE.out] at i2 j2 b2 hs1 ⊢
  have M2 := Lib.hid (HM.out.on (by rw [← HE.out] at b2; exact b2))
  have X2 := Lib.hid i2
  have Y2 := Lib.hid j2
  have B2 := Lib.hid b2
  obtain ⟨c0, c1, cz⟩ := i2
  obtain ⟨d0, d1, dz⟩ := j2
  clear b1 hb2 HZ HS b2
  cases f
  · clear HF
    go_quiet ((go_at_call 26; exact Calls.quiet_of_same (HB.out _)))
    go_wp2
    obtain ⟨W, HW⟩ : ∃ W, Hid (w2.drewN nq = W) := ⟨_, rfl⟩
    have X3 : InB W b T g := by rw [← HW.out]; exact X2.out.drewN _
    have Y3 : InB W (b + 1) 0 0 := by rw [← HW.out]; exact Y2.out.drewN _
    have B3 : Hid (Below b w W) := by rw [← HW.out]; exact Lib.hid (below_drewN B2.out _)
    have M3 : Hid (Mem W A n c l) := by rw [← HW.out]; exact Lib.hid (M2.out.drewN _)
    rw [HW.out]
    clear c0 c1 cz d0 d1 dz X2 Y2 B2 M2 HW
    obtain ⟨c0, c1, cz⟩ := X3
    obtain ⟨d0, d1, dz⟩ := Y3
    have Z3 := Lib.hid (⟨⟨c0, c1, cz⟩, ⟨d0, d1, dz⟩⟩ : InB W b T g ∧ InB W (b + 1) 0 0)
    have hz := World.block_lt_of_cell? W _ d0
    replace hz : b + 1 < W.heap.size := hz
    go_region_with (first
      | (go_at_call 27; refine (HCL.out _ (M3.out.on (by (repeat' (first | with_reducible exact Below.refl _ _ | with_reducible assumption | with_reducible apply below_drewN | with_reducible apply Below.drew | with_reducible apply Below.setCell | with_reducible apply Below.alloc | (simp; done) | omega | (simp; omega)))))).mono ?_; rintro e w3 ⟨⟨A3, c3, rfl, hm3, ho3⟩, hb3⟩; have U := Z3.out.1.on (w' := w3) (Below.trans (by (repeat' (first | with_reducible exact Below.refl _ _ | with_reducible assumption | with_reducible apply below_drewN | with_reducible apply Below.drew | with_reducible apply Below.setCell | with_reducible apply Below.alloc | (simp; done) | omega | (simp; omega)))) hb3); have V := Z3.out.2.on (w' := w3) (Below.trans (by (repeat' (first | with_reducible exact Below.refl _ _ | with_reducible assumption | with_reducible apply below_drewN | with_reducible apply Below.drew | with_reducible apply Below.setCell | with_reducible apply Below.alloc | (simp; done) | omega | (simp; omega)))) hb3); have b3 := below_stepI (w2 := w3) (B3.out) (Below.trans (by (repeat' (first | with_reducible exact Below.refl _ _ | with_reducible assumption | with_reducible apply below_drewN | with_reducible apply Below.drew | with_reducible apply Below.setCell | with_reducible apply Below.alloc | (simp; done) | omega | (simp; omega)))) hb3) (Nat.le_of_eq HE.out.symm); clear hb3; have l3 := V.lt; obtain ⟨u0, u1, uz⟩ := U; obtain ⟨v0, v1, vz⟩ := V; have z0 := vz 0; have z1 := vz 1))
    all_goals (repeat' (first | (with_reducible refine then_normal ?_) | (with_reducible refine wp_exit ?_) | (with_reducible refine wp_ret ?_) | (with_reducible refine then_exit ?_) | (with_reducible refine blk_hit ?_) | (with_reducible refine blk_pass (by decide) ?_) | (with_reducible refine then_ret ?_) | (with_reducible refine blk_ret ?_) | (with_reducible refine blk_normal ?_) | go_values | go_skip | go_guarded | go_step | go_upon | (simp only [Int.not_lt, Int.not_le] at *; go_simp) | (go_values <;> (try go_simp)) | (go_ite <;> go_prune <;> (try go_simp))))
    all_goals refine bodyPost_ret (v := .tuple #[.agg #[.int .u32 T, .int .u32 (g : Int)], .slice A3 n c3]) (by rw [results_cell_tmp rfl]; go_simp) rfl ?_
    all_goals rw [HE.out]
    all_goals refine ⟨⟨A3, c3, l, rfl, bfin hm3 ho3 (by simp <;> omega) HC.out (fun q hq h => ?_)⟩, by (repeat' (first | with_reducible exact Below.refl _ _ | with_reducible assumption | with_reducible apply below_drewN | with_reducible apply Below.drew | with_reducible apply Below.setCell | with_reducible apply Below.alloc | (simp; done) | omega | (simp; omega)))⟩
    all_goals replace hq : W.heap.size ≤ q := hq
    repeat' (first | with_reducible exact h | (with_reducible refine Own.far ?_ _ _ (by omega)) | (with_reducible refine Own.on ?_ ((Below.refl _ _).drew)))
  · obtain ⟨hand, hB0⟩ := HF.out rfl
    have hB1 : (B : Int) ≠ 0 := by omega
    have hB2 : ((B : Int) != 0) = true := by simpa using hB0
    clear HF
    go_quiet ((go_at_call 26; exact Calls.quiet_of_same (HB.out _)))
    go_wp2
    obtain ⟨W, HW⟩ : ∃ W, Hid (w2.drewN nq = W) := ⟨_, rfl⟩
    have X3 : InB W b T g := by rw [← HW.out]; exact X2.out.drewN _
    have Y3 : InB W (b + 1) 0 0 := by rw [← HW.out]; exact Y2.out.drewN _
    have B3 : Hid (Below b w W) := by rw [← HW.out]; exact Lib.hid (below_drewN B2.out _)
    have M3 : Hid (Mem W A n c l) := by rw [← HW.out]; exact Lib.hid (M2.out.drewN _)
    rw [HW.out]
    clear c0 c1 cz d0 d1 dz X2 Y2 B2 M2 HW
    obtain ⟨c0, c1, cz⟩ := X3
    obtain ⟨d0, d1, dz⟩ := Y3
    have Z3 := Lib.hid (⟨⟨c0, c1, cz⟩, ⟨d0, d1, dz⟩⟩ : InB W b T g ∧ InB W (b + 1) 0 0)
    have hz := World.block_lt_of_cell? W _ d0
    replace hz : b + 1 < W.heap.size := hz
    go_region_with (first
      | (go_at_call 27; refine (HCL.out _ (M3.out.on (by (repeat' (first | with_reducible exact Below.refl _ _ | with_reducible assumption | with_reducible apply below_drewN | with_reducible apply Below.drew | with_reducible apply Below.setCell | with_reducible apply Below.alloc | (simp; done) | omega | (simp; omega)))))).mono ?_; rintro e w3 ⟨⟨A3, c3, rfl, hm3, ho3⟩, hb3⟩; have U := Z3.out.1.on (w' := w3) (Below.trans (by (repeat' (first | with_reducible exact Below.refl _ _ | with_reducible assumption | with_reducible apply below_drewN | with_reducible apply Below.drew | with_reducible apply Below.setCell | with_reducible apply Below.alloc | (simp; done) | omega | (simp; omega)))) hb3); have V := Z3.out.2.on (w' := w3) (Below.trans (by (repeat' (first | with_reducible exact Below.refl _ _ | with_reducible assumption | with_reducible apply below_drewN | with_reducible apply Below.drew | with_reducible apply Below.setCell | with_reducible apply Below.alloc | (simp; done) | omega | (simp; omega)))) hb3); have b3 := below_stepI (w2 := w3) (B3.out) (Below.trans (by (repeat' (first | with_reducible exact Below.refl _ _ | with_reducible assumption | with_reducible apply below_drewN | with_reducible apply Below.drew | with_reducible apply Below.setCell | with_reducible apply Below.alloc | (simp; done) | omega | (simp; omega)))) hb3) (Nat.le_of_eq HE.out.symm); clear hb3; have l3 := V.lt; obtain ⟨u0, u1, uz⟩ := U; obtain ⟨v0, v1, vz⟩ := V; have z0 := vz 0; have z1 := vz 1))
    all_goals (repeat' (first | (with_reducible refine then_normal ?_) | (with_reducible refine wp_exit ?_) | (with_reducible refine wp_ret ?_) | (with_reducible refine then_exit ?_) | (with_reducible refine blk_hit ?_) | (with_reducible refine blk_pass (by decide) ?_) | (with_reducible refine then_ret ?_) | (with_reducible refine blk_ret ?_) | (with_reducible refine blk_normal ?_) | go_values | go_skip | go_guarded | go_step | go_upon | (simp only [Int.not_lt, Int.not_le] at *; go_simp) | (go_values <;> (try go_simp)) | (go_ite <;> go_prune <;> (try go_simp))))
    all_goals refine bodyPost_ret (v := .tuple #[.agg #[.int .u32 T, .int .u32 (g : Int)], .slice A3 n c3]) (by rw [results_cell_tmp rfl]; go_simp) rfl ?_
    all_goals rw [HE.out]
    all_goals refine ⟨⟨A3, c3, l, rfl, bfin hm3 ho3 (by simp <;> omega) HC.out (fun q hq h => ?_)⟩, by (repeat' (first | with_reducible exact Below.refl _ _ | with_reducible assumption | with_reducible apply below_drewN | with_reducible apply Below.drew | with_reducible apply Below.setCell | with_reducible apply Below.alloc | (simp; done) | omega | (simp; omega)))⟩
    all_goals replace hq : W.heap.size ≤ q := hq
    repeat' (first | with_reducible exact h | (with_reducible refine Own.far ?_ _ _ (by omega)) | (with_reducible refine Own.on ?_ ((Below.refl _ _).drew)))
theorem bout_give (T : Int) (g v : Nat) (A : Option Addr) (n c : Nat) (l : List Int) (w : World) (hm : Mem w A n c l) (hg : g < 4294967296) (hv4 : v ≤ 4294967295) :
    Calls Try.prog 8 #[blV T g, .slice A n c, .int .i64 10, .int .u32 (v : Int)] w (BOut n l T g 10 v w) := by
  have HG : Hid (∀ W, Mem W A n c l → Calls Try.prog 25 #[blV T g, .slice A n c, .int .u32 (v : Int)] W (BOut n l T g 10 v W)) := by
    refine Lib.hid fun W hM => ?_
    by_cases h : v < pagesN n ∧ g.testBit v = false
    · exact bgive_yes T g v A n c l W hM hg h.1 h.2
    · exact bgive_no T g v A n c l W hM hg hv4 h
  unfold BOut at *
  have HM := Lib.hid hm
  clear hm
  generalize outG n g 10 v = G at *
  have hn := HM.out.2.2.1
  unfold blV at *
  go_enter Try.func8, Try.ntmps8
  go_wp2_with (first
    | go_skip
    | (go_at_call 25; (with_reducible refine (HG.out _ (HM.out.on (by (repeat' (first | with_reducible exact Below.refl _ _ | with_reducible assumption | with_reducible apply below_drewN | with_reducible apply Below.drew | with_reducible apply Below.setCell | with_reducible apply Below.alloc | (simp; done) | omega | (simp; omega)))))).mono ?_); rintro e w1 ⟨⟨A2, c2, l2, rfl, hm2, ho2, hF2, hG2⟩, hb2⟩; have j2 : InB w1 (w.heap.size + 1) 0 0 := InB.on ⟨by simp [go_sem], by simp [go_sem], fun i => by simp [go_sem]⟩ hb2; have b2 : Below w.heap.size w w1 := Below.trans (by (repeat' (first | with_reducible exact Below.refl _ _ | with_reducible assumption | with_reducible apply below_drewN | with_reducible apply Below.drew | with_reducible apply Below.setCell | with_reducible apply Below.alloc | (simp; done) | omega | (simp; omega)))) (hb2.mono (by simp <;> omega)); have hs1 := j2.lt; obtain ⟨d0, d1, dz⟩ := j2; have M2 := Lib.hid hm2; have O2 := Lib.hid ho2; have F2 := Lib.hid hF2; have G2 := Lib.hid hG2; clear hb2 hm2 ho2 hF2 hG2))
  refine bodyPost_ret (v := .tuple #[.agg #[.int .u32 T, .int .u32 (G : Int)], .slice A2 n c2]) (by rw [results_cell_tmp rfl]; go_simp) rfl ?_
  have hE := bend (k := w.heap.size + 2) (w' := (w1.setCell ⟨w.heap.size + 1, 0, none⟩ (.int .u32 T)).setCell ⟨w.heap.size + 1, 1, none⟩ (.int .u32 (G : Int))) M2.out (fun h0 => by
    obtain ⟨q, hq, hk, hO⟩ := O2.out h0
    exact ⟨q, hq, by simpa using hk, hO⟩) (fun q hq h => (h.far _ _ (by omega)).far _ _ (by omega))
  exact ⟨⟨A2, c2, l2, rfl, hE.1, fun h0 => by
    obtain ⟨q, hq, hk, hO⟩ := hE.2 h0
    exact ⟨q, hq, by omega, hO⟩, F2.out, G2.out⟩, by (repeat' (first | with_reducible exact Below.refl _ _ | with_reducible assumption | with_reducible apply below_drewN | with_reducible apply Below.drew | with_reducible apply Below.setCell | with_reducible apply Below.alloc | (simp; done) | omega | (simp; omega)))⟩
theorem bout_take (T : Int) (g v : Nat) (A : Option Addr) (n c : Nat) (l : List Int) (w : World) (hm : Mem w A n c l) (hg : g < 4294967296) (hv4 : v ≤ 4294967295) :
    Calls Try.prog 8 #[blV T g, .slice A n c, .int .i64 11, .int .u32 (v : Int)] w (BOut n l T g 11 v w) := by
  have hn := hm.2.2.1
  have hC : ¬ outC n g 11 v := fun h => by have := h.1; omega
  have HOG : outG n g 11 v = takeB g v := by unfold outG; rw [if_neg (by omega), if_pos rfl]
  have HB := Lib.hid (fun W => bit_any v W (by omega))
  have hnot : bits .andNot .u32 (g : Int) (bitN v : Int) = (takeB g v : Int) := u32_andNot_nat _ _ hg (bitN_lt v)
  have HCL := Lib.hid (fun W (hM : Mem W A n c l) => clone_any A n c l W hM)
  unfold ClonePost at HCL
  unfold BOut
  rw [HOG]
  have HM := Lib.hid hm
  have HC := Lib.hid hC
  clear hm hC HOG
  generalize takeB g v = G at *
  generalize bitN v = B at *
  unfold blV
  go_enter Try.func8, Try.ntmps8
  go_wp2
  obtain ⟨W0, HW0⟩ : ∃ W, Hid ((w.alloc (.cells #[.int .u32 T, .int .u32 (g : Int)] 24)).alloc (.cells #[.int .u32 0, .int .u32 0] 24) = W) := ⟨_, rfl⟩
  have X2 : InB W0 w.heap.size T g := by rw [← HW0.out]; exact ⟨by simp [go_sem], by simp [go_sem], fun i => by simp [go_sem]⟩
  have Y2 : InB W0 (w.heap.size + 1) 0 0 := by rw [← HW0.out]; exact ⟨by simp [go_sem], by simp [go_sem], fun i => by simp [go_sem]⟩
  have B2 : Hid (Below w.heap.size w W0) := by rw [← HW0.out]; exact Lib.hid (by (repeat' (first | with_reducible exact Below.refl _ _ | with_reducible assumption | with_reducible apply below_drewN | with_reducible apply Below.drew | with_reducible apply Below.setCell | with_reducible apply Below.alloc | (simp; done) | omega | (simp; omega))))
  have M2 : Hid (Mem W0 A n c l) := Lib.hid (HM.out.on B2.out)
  rw [HW0.out]
  obtain ⟨b, HE⟩ : ∃ b, Hid (w.heap.size = b) := ⟨_, rfl⟩
  rw [HE.out] at X2 Y2 B2 ⊢
  clear HW0
  obtain ⟨c0, c1, cz⟩ := X2
  obtain ⟨d0, d1, dz⟩ := Y2
  refine wp_region_still_tail 6 (by kernel_rfl) (by kernel_rfl) ?_
  simp only [List.take_succ_cons, List.take_zero, List.drop_succ_cons, List.drop_zero]
  repeat (refine wpStill_step (fun K hK => ?_); go_simp; first | (with_reducible refine hK _ ?_) | (with_reducible refine ⟨_, HB.out _, hK _ ?_⟩); clear hK K)
  refine wpStill_nil ?_
  go_wp2
  obtain ⟨W, HW⟩ : ∃ W, Hid ((W0.setCell ⟨b, 1, none⟩ (.int .u32 (G : Int))).drew = W) := ⟨_, rfl⟩
  have X3 : InB W b T G := by rw [← HW.out]; exact ⟨by simp [go_sem, c0], by simp [go_sem, c1], fun i => by simp [go_sem, cz]⟩
  have Y3 : InB W (b + 1) 0 0 := by rw [← HW.out]; exact ⟨by simp [go_sem, d0], by simp [go_sem, d1], fun i => by simp [go_sem, dz]⟩
  have B3 : Hid (Below b w W) := by rw [← HW.out]; exact Lib.hid ((B2.out.setCell (Nat.le_refl _) _).drew)
  have M3 : Hid (Mem W A n c l) := Lib.hid (HM.out.on (by rw [HE.out]; exact B3.out))
  rw [HW.out]
  clear c0 c1 cz d0 d1 dz B2 M2 HW
  obtain ⟨c0, c1, cz⟩ := X3
  obtain ⟨d0, d1, dz⟩ := Y3
  have Z3 := Lib.hid (⟨⟨c0, c1, cz⟩, ⟨d0, d1, dz⟩⟩ : InB W b T G ∧ InB W (b + 1) 0 0)
  have hz := World.block_lt_of_cell? W _ d0
  replace hz : b + 1 < W.heap.size := hz
  go_region_with (first
    | (go_at_call 27; refine (HCL.out _ (M3.out.on (by (repeat' (first | with_reducible exact Below.refl _ _ | with_reducible assumption | with_reducible apply below_drewN | with_reducible apply Below.drew | with_reducible apply Below.setCell | with_reducible apply Below.alloc | (simp; done) | omega | (simp; omega)))))).mono ?_; rintro e w3 ⟨⟨A3, c3, rfl, hm3, ho3⟩, hb3⟩; have U := Z3.out.1.on (w' := w3) (Below.trans (by (repeat' (first | with_reducible exact Below.refl _ _ | with_reducible assumption | with_reducible apply below_drewN | with_reducible apply Below.drew | with_reducible apply Below.setCell | with_reducible apply Below.alloc | (simp; done) | omega | (simp; omega)))) hb3); have V := Z3.out.2.on (w' := w3) (Below.trans (by (repeat' (first | with_reducible exact Below.refl _ _ | with_reducible assumption | with_reducible apply below_drewN | with_reducible apply Below.drew | with_reducible apply Below.setCell | with_reducible apply Below.alloc | (simp; done) | omega | (simp; omega)))) hb3); have b3 := below_stepI (w2 := w3) (B3.out) (Below.trans (by (repeat' (first | with_reducible exact Below.refl _ _ | with_reducible assumption | with_reducible apply below_drewN | with_reducible apply Below.drew | with_reducible apply Below.setCell | with_reducible apply Below.alloc | (simp; done) | omega | (simp; omega)))) hb3) (Nat.le_of_eq HE.out.symm); clear hb3; have l3 := V.lt; obtain ⟨u0, u1, uz⟩ := U; obtain ⟨v0, v1, vz⟩ := V; have z0 := vz 0; have z1 := vz 1))
  all_goals (repeat' (first | (with_reducible refine then_normal ?_) | (with_reducible refine wp_exit ?_) | (with_reducible refine wp_ret ?_) | (with_reducible refine then_exit ?_) | (with_reducible refine blk_hit ?_) | (with_reducible refine blk_pass (by decide) ?_) | (with_reducible refine then_ret ?_) | (with_reducible refine blk_ret ?_) | (with_reducible refine blk_normal ?_) | go_values | go_skip | go_guarded | go_step | go_upon | (simp only [Int.not_lt, Int.not_le] at *; go_simp) | (go_values <;> (try go_simp)) | (go_ite <;> go_prune <;> (try go_simp))))
  all_goals refine bodyPost_ret (v := .tuple #[.agg #[.int .u32 T, .int .u32 (G : Int)], .slice A3 n c3]) (by rw [results_cell_tmp rfl]; go_simp) rfl ?_
  all_goals rw [HE.out]
  all_goals refine ⟨⟨A3, c3, l, rfl, bfin hm3 ho3 (by simp <;> omega) HC.out (fun q hq h => ?_)⟩, by (repeat' (first | with_reducible exact Below.refl _ _ | with_reducible assumption | with_reducible apply below_drewN | with_reducible apply Below.drew | with_reducible apply Below.setCell | with_reducible apply Below.alloc | (simp; done) | omega | (simp; omega)))⟩
  all_goals replace hq : W.heap.size ≤ q := hq
  repeat' (first | with_reducible exact h | (with_reducible refine Own.far ?_ _ _ (by omega)) | (with_reducible refine Own.on ?_ ((Below.refl _ _).drew)))
theorem bout_x (T : Int) (g v : Nat) (p : Int) (A : Option Addr) (n c : Nat) (l : List Int) (w : World) (hm : Mem w A n c l) (h10 : ¬ p = 10) (h11 : ¬ p = 11) :
    Calls Try.prog 8 #[blV T g, .slice A n c, .int .i64 p, .int .u32 (v : Int)] w (BOut n l T g p v w) := by
  have hn := hm.2.2.1
  have hC : ¬ outC n g p v := fun h => h10 h.1
  have HOG : outG n g p v = g := by unfold outG; rw [if_neg h10, if_neg h11]
  have HCL := Lib.hid (fun W (hM : Mem W A n c l) => clone_any A n c l W hM)
  unfold ClonePost at HCL
  unfold BOut
  rw [HOG]
  have HM := Lib.hid hm
  have HC := Lib.hid hC
  clear hm hC HOG
  have e0 : (p == 10) = false := by rw [beq_eq_false_iff_ne]; exact h10
  have e1 : (p == 11) = false := by rw [beq_eq_false_iff_ne]; exact h11
  unfold blV
  go_enter Try.func8, Try.ntmps8
  go_wp2
  obtain ⟨W, HW⟩ : ∃ W, Hid ((w.alloc (.cells #[.int .u32 T, .int .u32 (g : Int)] 24)).alloc (.cells #[.int .u32 0, .int .u32 0] 24) = W) := ⟨_, rfl⟩
  have X2 : InB W w.heap.size T g := by rw [← HW.out]; exact ⟨by simp [go_sem], by simp [go_sem], fun i => by simp [go_sem]⟩
  have Y2 : InB W (w.heap.size + 1) 0 0 := by rw [← HW.out]; exact ⟨by simp [go_sem], by simp [go_sem], fun i => by simp [go_sem]⟩
  have B3 : Hid (Below w.heap.size w W) := by rw [← HW.out]; exact Lib.hid (by (repeat' (first | with_reducible exact Below.refl _ _ | with_reducible assumption | with_reducible apply below_drewN | with_reducible apply Below.drew | with_reducible apply Below.setCell | with_reducible apply Below.alloc | (simp; done) | omega | (simp; omega))))
  have M3 : Hid (Mem W A n c l) := Lib.hid (HM.out.on B3.out)
  rw [HW.out]
  obtain ⟨b, HE⟩ : ∃ b, Hid (w.heap.size = b) := ⟨_, rfl⟩
  rw [HE.out] at X2 Y2 B3 ⊢
  clear HW
  obtain ⟨c0, c1, cz⟩ := X2
  obtain ⟨d0, d1, dz⟩ := Y2
  have Z3 := Lib.hid (⟨⟨c0, c1, cz⟩, ⟨d0, d1, dz⟩⟩ : InB W b T g ∧ InB W (b + 1) 0 0)
  have hz := World.block_lt_of_cell? W _ d0
  replace hz : b + 1 < W.heap.size := hz
  go_region_with (first
    | (go_at_call 27; refine (HCL.out _ (M3.out.on (by (repeat' (first | with_reducible exact Below.refl _ _ | with_reducible assumption | with_reducible apply below_drewN | with_reducible apply Below.drew | with_reducible apply Below.setCell | with_reducible apply Below.alloc | (simp; done) | omega | (simp; omega)))))).mono ?_; rintro e w3 ⟨⟨A3, c3, rfl, hm3, ho3⟩, hb3⟩; have U := Z3.out.1.on (w' := w3) (Below.trans (by (repeat' (first | with_reducible exact Below.refl _ _ | with_reducible assumption | with_reducible apply below_drewN | with_reducible apply Below.drew | with_reducible apply Below.setCell | with_reducible apply Below.alloc | (simp; done) | omega | (simp; omega)))) hb3); have V := Z3.out.2.on (w' := w3) (Below.trans (by (repeat' (first | with_reducible exact Below.refl _ _ | with_reducible assumption | with_reducible apply below_drewN | with_reducible apply Below.drew | with_reducible apply Below.setCell | with_reducible apply Below.alloc | (simp; done) | omega | (simp; omega)))) hb3); have b3 := below_stepI (w2 := w3) (B3.out) (Below.trans (by (repeat' (first | with_reducible exact Below.refl _ _ | with_reducible assumption | with_reducible apply below_drewN | with_reducible apply Below.drew | with_reducible apply Below.setCell | with_reducible apply Below.alloc | (simp; done) | omega | (simp; omega)))) hb3) (Nat.le_of_eq HE.out.symm); clear hb3; have l3 := V.lt; obtain ⟨u0, u1, uz⟩ := U; obtain ⟨v0, v1, vz⟩ := V; have z0 := vz 0; have z1 := vz 1))
  all_goals (repeat' (first | (with_reducible refine then_normal ?_) | (with_reducible refine wp_exit ?_) | (with_reducible refine wp_ret ?_) | (with_reducible refine then_exit ?_) | (with_reducible refine blk_hit ?_) | (with_reducible refine blk_pass (by decide) ?_) | (with_reducible refine then_ret ?_) | (with_reducible refine blk_ret ?_) | (with_reducible refine blk_normal ?_) | go_values | go_skip | go_guarded | go_step | go_upon | (simp only [Int.not_lt, Int.not_le] at *; go_simp) | (go_values <;> (try go_simp)) | (go_ite <;> go_prune <;> (try go_simp))))
  all_goals refine bodyPost_ret (v := .tuple #[.agg #[.int .u32 T, .int .u32 (g : Int)], .slice A3 n c3]) (by rw [results_cell_tmp rfl]; go_simp) rfl ?_
  all_goals rw [HE.out]
  all_goals refine ⟨⟨A3, c3, l, rfl, bfin hm3 ho3 (by simp <;> omega) HC.out (fun q hq h => ?_)⟩, by (repeat' (first | with_reducible exact Below.refl _ _ | with_reducible assumption | with_reducible apply below_drewN | with_reducible apply Below.drew | with_reducible apply Below.setCell | with_reducible apply Below.alloc | (simp; done) | omega | (simp; omega)))⟩
  all_goals replace hq : W.heap.size ≤ q := hq
  repeat' (first | with_reducible exact h | (with_reducible refine Own.far ?_ _ _ (by omega)) | (with_reducible refine Own.on ?_ ((Below.refl _ _).drew)))
theorem bout_any (T : Int) (g v : Nat) (p : Int) (A : Option Addr) (n c : Nat) (l : List Int) (w : World) (hm : Mem w A n c l) (hg : g < 4294967296) (hv4 : v ≤ 4294967295) :
    Calls Try.prog 8 #[blV T g, .slice A n c, .int .i64 p, .int .u32 (v : Int)] w (BOut n l T g p v w) := by
  by_cases h10 : p = 10
  · subst h10; exact bout_give T g v A n c l w hm hg hv4
  · by_cases h11 : p = 11
    · subst h11; exact bout_take T g v A n c l w hm hg hv4
    · exact bout_x T g v p A n c l w hm h10 h11
end Go.Proofs.Ytackgjmmeojpiaa
