import Derived.Test.YtkilbakghacooaaNcRef
import Derived.BigRegion
namespace Go.Proofs.Ytkilbakghacooaa
set_option linter.unusedVariables false
set_option linter.unusedSimpArgs false
set_option maxRecDepth 20000
open Go.ChangeShapes Go.WideShapes Go.ChangeAt Go.RowKit Go.Proofs.Ytkilbakghacooaa.Num Go.Proofs.Ytkilbakghacooaa.Mem
set_option maxHeartbeats 2000000 in
theorem ncOut_send (F L : Int) (P : Bool) (B : Int) (R : Bool) (G : Int) (A : Option Addr) (n c : Nat) (l : List Int) (v a : Int) (w : World) (hm : Mem w A n c l) (F0 : 0 ≤ F) (F1 : F ≤ 4294967295) (hv : v = 1) (h1 : 1 ≤ L) (h2 : L ≤ 128) (hF : F < pagesN n) :
    Calls Try.prog 12 #[ncV F L P B R G, .slice A n c, .int .i64 9, .int .u32 v, .int .u64 a] w (NutPost F L P B R G (some (2, a, 0, (pgS n l F).extract 0 L.toNat)) w) := by
  unfold ncV
  subst hv
  have hn := hm.2.2.1
  have HPG := Lib.hid (fun W => dkPage_ref A n c F W hn F0 F1)
  rw [decide_eq_true hF] at HPG
  have d1 : decide (1 ≤ L) = true := decide_eq_true h1
  have d2 : decide (L ≤ 128) = true := decide_eq_true h2
  have HPP := Lib.hid (fun W (hM : Mem W A n c l) => page_ref' A n c F l W hM)
  have hD := pgS_size (F := F) hm.1 F0 hF
  generalize pgS n l F = D at *
  obtain ⟨k, rfl⟩ : ∃ k : Nat, L = k := ⟨L.toNat, by omega⟩
  have hk : k ≤ D.size := by omega
  have hk2 : (k : Int) ≤ D.size := by omega
  have HM := Lib.hid hm
  clear hm
  go_enter Try.func12, Try.ntmps12
  go_wp2_with (first
    | go_skip
    | (go_at_call 31; (with_reducible refine (HPG.out _).mono ?_); rintro e w1 ⟨rfl, m1, rfl⟩)
    | (go_at_call 28; (with_reducible refine (HPP.out _ (HM.out.on (by (repeat' (first | with_reducible exact Below.refl _ _ | with_reducible assumption | with_reducible apply below_drewN | with_reducible apply Below.drew | with_reducible apply Below.setCell | with_reducible apply Below.alloc | (simp; done) | omega | (simp; omega)))))).mono ?_); rintro e w2 ⟨rfl, hb2⟩; have X2 : InN w2 w.heap.size F k P B R G := InN.on ⟨by simp [go_sem], by simp [go_sem], by simp [go_sem], by simp [go_sem], by simp [go_sem], by simp [go_sem], fun i => by simp [go_sem]⟩ hb2; have Y2 : InN w2 (w.heap.size + 1) 0 0 false 0 false 0 := InN.on ⟨by simp [go_sem], by simp [go_sem], by simp [go_sem], by simp [go_sem], by simp [go_sem], by simp [go_sem], fun i => by simp [go_sem]⟩ hb2; have b2 : Below w.heap.size w w2 := Below.trans (by (repeat' (first | with_reducible exact Below.refl _ _ | with_reducible assumption | with_reducible apply below_drewN | with_reducible apply Below.drew | with_reducible apply Below.setCell | with_reducible apply Below.alloc | (simp; done) | omega | (simp; omega)))) (hb2.mono (by simp <;> omega)); clear hb2; have l2 := Y2.lt; have X2' := X2; have Y2' := Y2; obtain ⟨c0, c1, c2, c3, c4, c5, cz⟩ := X2; obtain ⟨y0, y1, y2, y3, y4, y5, yz⟩ := Y2; have z0 := yz 0; have z1 := yz 1; have z2 := yz 2; have z3 := yz 3; have z4 := yz 4; have z5 := yz 5))
  have hC : w2.heap.size = w2.heap.size := rfl
  obtain ⟨p0, p1, p2, p3, p4, p5, pz⟩ := X2'.alloc (.cells #[.int .i64 2, .int .u64 a, .int .u32 0, .string (D.extract 0 k)] 52)
  obtain ⟨q0, q1, q2, q3, q4, q5, qz⟩ := Y2'.alloc (.cells #[.int .i64 2, .int .u64 a, .int .u32 0, .string (D.extract 0 k)] 52)
  have b3 : Below w.heap.size w (w2.alloc (.cells #[.int .i64 2, .int .u64 a, .int .u32 0, .string (D.extract 0 k)] 52)) := b2.alloc b2.size _
  have n0 : ¬ w2.heap.size = w.heap.size := by omega
  have n1 : ¬ w2.heap.size = w.heap.size + 1 := by omega
  have r0 := qz 0; have r1 := qz 1; have r2 := qz 2; have r3 := qz 3; have r4 := qz 4; have r5 := qz 5
  go_region
  all_goals (repeat' (first | (with_reducible refine then_normal ?_) | (with_reducible refine wp_exit ?_) | (with_reducible refine wp_ret ?_) | (with_reducible refine then_exit ?_) | (with_reducible refine blk_hit ?_) | (with_reducible refine blk_pass (by decide) ?_) | (with_reducible refine then_ret ?_) | (with_reducible refine blk_ret ?_) | (with_reducible refine blk_normal ?_) | go_values | go_skip | go_guarded | go_step | go_upon | (simp only [Int.not_lt, Int.not_le] at *; go_simp) | (go_values <;> (try go_simp)) | (go_ite <;> go_prune <;> (try go_simp))))
  refine bodyPost_ret (v := .tuple #[.agg #[.int .u32 (F), .int .u32 ((k : Int)), .bool P, .int .u32 (B), .bool R, .int .u32 (G)], .slice (some ⟨w2.heap.size, 0, none⟩) 1 1]) (by rw [results_cell_tmp rfl]; go_simp) rfl ⟨⟨_, rfl, ⟨w2.heap.size, by omega, rfl, ⟨by simp [go_sem], by simp [go_sem], by simp [go_sem], by simp [go_sem], fun i => by simp [go_sem]⟩⟩⟩, by (repeat' (first | with_reducible exact Below.refl _ _ | with_reducible assumption | with_reducible apply below_drewN | with_reducible apply Below.drew | with_reducible apply Below.setCell | with_reducible apply Below.alloc | (simp; done) | omega | (simp; omega)))⟩
end Go.Proofs.Ytkilbakghacooaa
