import Derived.Test.YtbaepeccgjoiaaaDkOut
import Derived.BigRegion
import Derived.Test.YtbaepeccgjoiaaaExit
namespace Go.Proofs.Ytbaepeccgjoiaaa
set_option linter.unusedVariables false
set_option linter.unusedSimpArgs false
set_option maxRecDepth 20000
open Go.ChangeShapes Go.WideShapes Go.ChangeAt Go.RowKit Go.Proofs.Ytbaepeccgjoiaaa.Num Go.Proofs.Ytbaepeccgjoiaaa.Mem
set_option maxHeartbeats 2000000 in
theorem dkOut_issue (B K F C OB OF : Int) (D : ByteArray) (A : Option Addr) (n c : Nat) (l : List Int) (v a : Int) (w : World) (hm : Mem w A n c l) (hK : K < B) (F0 : 0 ≤ F) (F1 : F ≤ 4294967295) (hF : F < pagesN n) (hv : v = 1 ∨ v = 2) :
    Calls Try.prog 11 #[dkV B K F 0 C OB OF D, .slice A n c, .int .i64 6, .int .u32 v, .int .u64 a] w
      (OutPost B K F 1 v K F (if v = 2 then pgS n l F else ⟨#[]⟩) (some (if v = 2 then 4 else 3, a, K, if v = 2 then pgS n l F else ⟨#[]⟩)) w) := by
  have hn := hm.2.2.1
  have HPG := Lib.hid (fun W => dkPage_ref A n c F W hn F0 F1)
  rw [decide_eq_true hF] at HPG
  have HPP := Lib.hid (fun W (hM : Mem W A n c l) => page_ref' A n c F l W hM)
  generalize pgS n l F = P at *
  have HM := Lib.hid hm
  clear hm
  have HR1 := Lib.hid (fun W => (dkReq_ref B K F 1 1 K F ⟨#[]⟩ a W).mono (R' := fun e w' => e = .returned (.tuple #[.agg #[.int .i64 3, .int .u64 a, .int .u32 K, .string ⟨#[]⟩], .bool true]) ∧ Below W.heap.size W w') fun _ _ ⟨h, h'⟩ => ⟨by rw [h]; rfl, h'⟩)
  have HR2 := Lib.hid (fun W => (dkReq_ref B K F 1 2 K F P a W).mono (R' := fun e w' => e = .returned (.tuple #[.agg #[.int .i64 4, .int .u64 a, .int .u32 K, .string P], .bool true]) ∧ Below W.heap.size W w') fun _ _ ⟨h, h'⟩ => ⟨by rw [h]; rfl, h'⟩)
  unfold dkV at HR1 HR2 ⊢
  rcases hv with rfl | rfl
  · go_enter Try.func11, Try.ntmps11
    go_wp2_with (first
      | go_skip
      | (go_at_call 32; (with_reducible refine (HPG.out _).mono ?_); rintro e w1 ⟨rfl, m1, rfl⟩)
      | (go_at_call 13; (with_reducible refine (HR1.out _).mono ?_); rintro e w3 ⟨rfl, hb3⟩; have X3 : InD w3 w.heap.size B K F 1 1 K F ⟨#[]⟩ := InD.on ⟨by simp [go_sem], by simp [go_sem], by simp [go_sem], by simp [go_sem], by simp [go_sem], by simp [go_sem], by simp [go_sem], by simp [go_sem], fun i => by simp [go_sem]⟩ hb3; have Y3 : InD w3 (w.heap.size + 1) 0 0 0 0 0 0 0 ⟨#[]⟩ := InD.on ⟨by simp [go_sem], by simp [go_sem], by simp [go_sem], by simp [go_sem], by simp [go_sem], by simp [go_sem], by simp [go_sem], by simp [go_sem], fun i => by simp [go_sem]⟩ hb3; have bel3 : Below w.heap.size w w3 := Below.trans (by (repeat' (first | with_reducible exact Below.refl _ _ | with_reducible assumption | with_reducible apply below_drewN | with_reducible apply Below.drew | with_reducible apply Below.setCell | with_reducible apply Below.alloc | (simp; done) | omega | (simp; omega)))) (hb3.mono (by simp <;> omega)); clear hb3))
    generalize hW : World.alloc w3 _ = W
    have hx3 := Y3.lt
    have X : InD W w.heap.size B K F 1 1 K F ⟨#[]⟩ := by rw [← hW]; exact X3.alloc _
    have Y : InD W (w.heap.size + 1) 0 0 0 0 0 0 0 ⟨#[]⟩ := by rw [← hW]; exact Y3.alloc _
    have E : InO W w3.heap.size 3 a K ⟨#[]⟩ := by rw [← hW]; exact InO.new _ _ _ _ _ _
    have belW : Below w.heap.size w W := by rw [← hW]; exact bel3.alloc bel3.size _
    clear hW X3 Y3
    have hA := X.lt
    have hB := Y.lt
    have hC := E.lt
    obtain ⟨c0, c1, c2, c3, c4, c5, c6, c7, cz⟩ := X
    obtain ⟨y0, y1, y2, y3, y4, y5, y6, y7, yz⟩ := Y
    obtain ⟨e0, e1, e2, e3, ez⟩ := E
    have z0 := yz 0
    have z1 := yz 1
    have z2 := yz 2
    have z3 := yz 3
    have z4 := yz 4
    have z5 := yz 5
    have z6 := yz 6
    have z7 := yz 7
    go_region
    all_goals (repeat' (first | (with_reducible refine then_normal ?_) | (with_reducible refine wp_exit ?_) | (with_reducible refine wp_ret ?_) | (with_reducible refine then_exit ?_) | (with_reducible refine blk_hit ?_) | (with_reducible refine blk_pass (by decide) ?_) | (with_reducible refine then_ret ?_) | (with_reducible refine blk_ret ?_) | (with_reducible refine blk_normal ?_) | go_values | go_skip | go_guarded | go_step | go_upon | (simp only [Int.not_lt, Int.not_le] at *; go_simp) | (go_values <;> (try go_simp)) | (go_ite <;> go_prune <;> (try go_simp))))
    refine bodyPost_ret (v := .tuple #[.agg #[.int .u32 B, .int .u32 K, .int .u32 F, .int .i64 1, .int .i64 1, .int .u32 K, .int .u32 F, .string ⟨#[]⟩], .slice (some ⟨W.heap.size, 0, none⟩) 1 1]) (by rw [results_cell_tmp rfl]; go_simp) rfl ⟨⟨_, rfl, ⟨W.heap.size, by omega, rfl, ⟨by simp [go_sem], by simp [go_sem], by simp [go_sem], by simp [go_sem], fun i => by simp [go_sem]⟩⟩⟩, by (repeat' (first | with_reducible exact Below.refl _ _ | with_reducible assumption | with_reducible apply below_drewN | with_reducible apply Below.drew | with_reducible apply Below.setCell | with_reducible apply Below.alloc | (simp; done) | omega | (simp; omega)))⟩
  · go_enter Try.func11, Try.ntmps11
    go_wp2_with (first
      | go_skip
      | (go_at_call 32; (with_reducible refine (HPG.out _).mono ?_); rintro e w1 ⟨rfl, m1, rfl⟩)
      | (go_at_call 27; (with_reducible refine (HPP.out _ (HM.out.on (by (repeat' (first | with_reducible exact Below.refl _ _ | with_reducible assumption | with_reducible apply below_drewN | with_reducible apply Below.drew | with_reducible apply Below.setCell | with_reducible apply Below.alloc | (simp; done) | omega | (simp; omega)))))).mono ?_); rintro e w2 ⟨rfl, hb2⟩; have x2 : InD w2 w.heap.size B K F 1 2 K F ⟨#[]⟩ := InD.on ⟨by simp [go_sem], by simp [go_sem], by simp [go_sem], by simp [go_sem], by simp [go_sem], by simp [go_sem], by simp [go_sem], by simp [go_sem], fun i => by simp [go_sem]⟩ hb2; have y2 : InD w2 (w.heap.size + 1) 0 0 0 0 0 0 0 ⟨#[]⟩ := InD.on ⟨by simp [go_sem], by simp [go_sem], by simp [go_sem], by simp [go_sem], by simp [go_sem], by simp [go_sem], by simp [go_sem], by simp [go_sem], fun i => by simp [go_sem]⟩ hb2; have bel2 : Below w.heap.size w w2 := Below.trans (by (repeat' (first | with_reducible exact Below.refl _ _ | with_reducible assumption | with_reducible apply below_drewN | with_reducible apply Below.drew | with_reducible apply Below.setCell | with_reducible apply Below.alloc | (simp; done) | omega | (simp; omega)))) (hb2.mono (by simp <;> omega)); have l2 := y2.lt; clear hb2; obtain ⟨c0, c1, c2, c3, c4, c5, c6, c7, cz⟩ := x2; obtain ⟨y0, y1, y2, y3, y4, y5, y6, y7, yz⟩ := y2; have z7 := cz 7)
      | (go_at_call 13; (with_reducible refine (HR2.out _).mono ?_); rintro e w3 ⟨rfl, hb3⟩; have X3 : InD w3 w.heap.size B K F 1 2 K F P := InD.on ⟨by simp [go_sem, *], by simp [go_sem, *], by simp [go_sem, *], by simp [go_sem, *], by simp [go_sem, *], by simp [go_sem, *], by simp [go_sem, *], by simp [go_sem, *], fun i => by simp [go_sem, *]⟩ hb3; have Y3 : InD w3 (w.heap.size + 1) 0 0 0 0 0 0 0 ⟨#[]⟩ := InD.on ⟨by simp [go_sem, *], by simp [go_sem, *], by simp [go_sem, *], by simp [go_sem, *], by simp [go_sem, *], by simp [go_sem, *], by simp [go_sem, *], by simp [go_sem, *], fun i => by simp [go_sem, *]⟩ hb3; have bel3 : Below w.heap.size w w3 := Below.trans (by (repeat' (first | with_reducible exact Below.refl _ _ | with_reducible assumption | with_reducible apply below_drewN | with_reducible apply Below.drew | with_reducible apply Below.setCell | with_reducible apply Below.alloc | (simp; done) | omega | (simp; omega)))) (hb3.mono (by simp <;> omega)); clear hb3))
    generalize hW : World.alloc w3 _ = W
    have hx3 := Y3.lt
    have X : InD W w.heap.size B K F 1 2 K F P := by rw [← hW]; exact X3.alloc _
    have Y : InD W (w.heap.size + 1) 0 0 0 0 0 0 0 ⟨#[]⟩ := by rw [← hW]; exact Y3.alloc _
    have E : InO W w3.heap.size 4 a K P := by rw [← hW]; exact InO.new _ _ _ _ _ _
    have belW : Below w.heap.size w W := by rw [← hW]; exact bel3.alloc bel3.size _
    clear hW X3 Y3 c0 c1 c2 c3 c4 c5 c6 c7 cz y0 y1 y2 y3 y4 y5 y6 y7 yz z7 l2 bel2
    have hA := X.lt
    have hB := Y.lt
    have hC := E.lt
    obtain ⟨c0, c1, c2, c3, c4, c5, c6, c7, cz⟩ := X
    obtain ⟨y0, y1, y2, y3, y4, y5, y6, y7, yz⟩ := Y
    obtain ⟨e0, e1, e2, e3, ez⟩ := E
    have z0 := yz 0
    have z1 := yz 1
    have z2 := yz 2
    have z3 := yz 3
    have z4 := yz 4
    have z5 := yz 5
    have z6 := yz 6
    have z7 := yz 7
    go_region
    all_goals (repeat' (first | (with_reducible refine then_normal ?_) | (with_reducible refine wp_exit ?_) | (with_reducible refine wp_ret ?_) | (with_reducible refine then_exit ?_) | (with_reducible refine blk_hit ?_) | (with_reducible refine blk_pass (by decide) ?_) | (with_reducible refine then_ret ?_) | (with_reducible refine blk_ret ?_) | (with_reducible refine blk_normal ?_) | go_values | go_skip | go_guarded | go_step | go_upon | (simp only [Int.not_lt, Int.not_le] at *; go_simp) | (go_values <;> (try go_simp)) | (go_ite <;> go_prune <;> (try go_simp))))
    refine bodyPost_ret (v := .tuple #[.agg #[.int .u32 B, .int .u32 K, .int .u32 F, .int .i64 1, .int .i64 2, .int .u32 K, .int .u32 F, .string P], .slice (some ⟨W.heap.size, 0, none⟩) 1 1]) (by rw [results_cell_tmp rfl]; go_simp) rfl ⟨⟨_, rfl, ⟨W.heap.size, by omega, rfl, ⟨by simp [go_sem], by simp [go_sem], by simp [go_sem], by simp [go_sem], fun i => by simp [go_sem]⟩⟩⟩, by (repeat' (first | with_reducible exact Below.refl _ _ | with_reducible assumption | with_reducible apply below_drewN | with_reducible apply Below.drew | with_reducible apply Below.setCell | with_reducible apply Below.alloc | (simp; done) | omega | (simp; omega)))⟩
end Go.Proofs.Ytbaepeccgjoiaaa
