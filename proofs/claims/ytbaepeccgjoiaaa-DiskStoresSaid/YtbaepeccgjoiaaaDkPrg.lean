import Derived.Test.YtbaepeccgjoiaaaDkIss
namespace Go.Proofs.Ytbaepeccgjoiaaa
set_option linter.unusedVariables false
set_option linter.unusedSimpArgs false
set_option maxRecDepth 20000
open Go.ChangeShapes Go.WideShapes Go.ChangeAt Go.RowKit Go.Proofs.Ytbaepeccgjoiaaa.Num Go.Proofs.Ytbaepeccgjoiaaa.Mem
/- The program's controller. -/
theorem isPage_any (f p : Int) (w : World) (f0 : 0 ≤ f) (f1 : f ≤ 4294967295) :
    Calls Try.prog 43 #[.int .u32 f, .int .i64 p] w fun e w' => e = .returned (.bool (decide (f < p))) ∧ ∃ m, w' = w.drewN m := by
  go_enter Try.func43, Try.ntmps43
  go_wp2
  go_ret
  exact ⟨rfl, 0, rfl⟩
theorem dkIn_any (B K F S C OB OF : Int) (D : ByteArray) (p : Int) (w : World) :
    Calls Try.prog 14 #[dkV B K F S C OB OF D, .int .i64 p] w fun e w' => e = .returned (.int .u32 (dkIn K F S p)) ∧ Below w.heap.size w w' := by
  unfold dkV
  go_enter Try.func14, Try.ntmps14
  go_wp2
  all_goals go_ret
  all_goals exact ⟨ret_u32D (by simp_all [dkIn]), by (repeat' (first | with_reducible exact Below.refl _ _ | with_reducible assumption | with_reducible apply below_drewN | with_reducible apply Below.drew | with_reducible apply Below.setCell | with_reducible apply Below.alloc | (simp; done) | omega | (simp; omega)))⟩
theorem dkPend_any (B K F S C OB OF : Int) (D : ByteArray) (w : World) :
    Calls Try.prog 22 #[dkV B K F S C OB OF D] w fun e w' => e = .returned (.bool (decide (S = 2 ∨ S = 3))) ∧ Below w.heap.size w w' := by
  unfold dkV
  by_cases h2 : S = 2
  · subst h2
    go_enter Try.func22, Try.ntmps22
    go_wp2_with (first | go_skip | fail)
    all_goals go_ret
    all_goals exact ⟨ret_bool (by simp), by (repeat' (first | with_reducible exact Below.refl _ _ | with_reducible assumption | with_reducible apply below_drewN | with_reducible apply Below.drew | with_reducible apply Below.setCell | with_reducible apply Below.alloc | (simp; done) | omega | (simp; omega)))⟩
  · have h2' : (S == 2) = false := by rw [beq_eq_false_iff_ne]; exact h2
    go_enter Try.func22, Try.ntmps22
    go_wp2
    all_goals go_ret
    all_goals exact ⟨ret_bool (by rw [Bool.eq_iff_iff]; simp [h2]), by (repeat' (first | with_reducible exact Below.refl _ _ | with_reducible assumption | with_reducible apply below_drewN | with_reducible apply Below.drew | with_reducible apply Below.setCell | with_reducible apply Below.alloc | (simp; done) | omega | (simp; omega)))⟩
theorem dkReq_any (B K F S C OB OF : Int) (D : ByteArray) (at' : Int) (w : World) :
    Calls Try.prog 12 #[dkV B K F S C OB OF D, .int .u64 at'] w fun e w' => e = .returned (.tuple #[otV (dkRqK S C) (dkRqA S C at') (dkRqA S C OB) (dkRqD S C D), .bool (dkRq S C)]) ∧ Below w.heap.size w w' := by
  unfold dkV
  by_cases h1 : S = 1
  · by_cases c1 : C = 1
    · subst h1 c1
      go_enter Try.func12, Try.ntmps12
      go_wp2
      refine bodyPost_ret (v := .tuple #[.agg #[.int .i64 3, .int .u64 at', .int .u32 OB, .string ⟨#[]⟩], .bool true]) (by rw [results_cell_tmp rfl]; go_simp) rfl ⟨ret_ot rfl rfl rfl rfl rfl, by (repeat' (first | with_reducible exact Below.refl _ _ | with_reducible assumption | with_reducible apply below_drewN | with_reducible apply Below.drew | with_reducible apply Below.setCell | with_reducible apply Below.alloc | (simp; done) | omega | (simp; omega)))⟩
    · by_cases c2 : C = 2
      · subst h1 c2
        go_enter Try.func12, Try.ntmps12
        go_wp2
        refine bodyPost_ret (v := .tuple #[.agg #[.int .i64 4, .int .u64 at', .int .u32 OB, .string D], .bool true]) (by rw [results_cell_tmp rfl]; go_simp) rfl ⟨ret_ot rfl rfl rfl rfl rfl, by (repeat' (first | with_reducible exact Below.refl _ _ | with_reducible assumption | with_reducible apply below_drewN | with_reducible apply Below.drew | with_reducible apply Below.setCell | with_reducible apply Below.alloc | (simp; done) | omega | (simp; omega)))⟩
      · subst h1
        have e1 : (C == 1) = false := by rw [beq_eq_false_iff_ne]; exact c1
        have e2 : (C == 2) = false := by rw [beq_eq_false_iff_ne]; exact c2
        go_enter Try.func12, Try.ntmps12
        go_wp2
        refine bodyPost_ret (v := .tuple #[.agg #[.int .i64 0, .int .u64 0, .int .u32 0, .string ⟨#[]⟩], .bool false]) (by rw [results_cell_tmp rfl]; go_simp) rfl ⟨ret_ot (by simp [dkRqK, c1, c2]) (by simp [dkRqA, c1, c2]) (by simp [dkRqA, c1, c2]) (by simp [dkRqD, c2]) (by simp [dkRq, c1, c2]), by (repeat' (first | with_reducible exact Below.refl _ _ | with_reducible assumption | with_reducible apply below_drewN | with_reducible apply Below.drew | with_reducible apply Below.setCell | with_reducible apply Below.alloc | (simp; done) | omega | (simp; omega)))⟩
  · have e1 : (S == 1) = false := by rw [beq_eq_false_iff_ne]; exact h1
    have e2 : (S != 1) = true := by simpa using h1
    go_enter Try.func12, Try.ntmps12
    go_wp2
    refine bodyPost_ret (v := .tuple #[.agg #[.int .i64 0, .int .u64 0, .int .u32 0, .string ⟨#[]⟩], .bool false]) (by rw [results_cell_tmp rfl]; go_simp) rfl ⟨ret_ot (by simp [dkRqK, h1]) (by simp [dkRqA, h1]) (by simp [dkRqA, h1]) (by simp [dkRqD, h1]) (by simp [dkRq, h1]), by (repeat' (first | with_reducible exact Below.refl _ _ | with_reducible assumption | with_reducible apply below_drewN | with_reducible apply Below.drew | with_reducible apply Below.setCell | with_reducible apply Below.alloc | (simp; done) | omega | (simp; omega)))⟩
set_option maxHeartbeats 2000000 in
theorem dkIssue_any (B K F C OB OF : Int) (D : ByteArray) (A : Option Addr) (n c : Nat) (l : List Int) (v a : Int) (w : World) (hm : Mem w A n c l) (hK : K < B) (F0 : 0 ≤ F) (F1 : F ≤ 4294967295) (hF : F < pagesN n) (hv : v = 1 ∨ v = 2) :
    Calls Try.prog 40 #[dkV B K F 0 C OB OF D, .slice A n c, .int .i64 v, .int .u64 a] w
      (OutPost B K F 1 v K F (if v = 2 then pgS n l F else ⟨#[]⟩) (some (if v = 2 then 4 else 3, a, K, if v = 2 then pgS n l F else ⟨#[]⟩)) w) := by
  have hn := hm.2.2.1
  have HPG := Lib.hid (fun W => isPage_any F (pagesN n) W F0 F1)
  rw [decide_eq_true hF] at HPG
  have hpn := pagesN_le n
  have HPS := Lib.hid (fun W => pages_any A n c W (by omega))
  have dK : decide (B ≤ K) = false := by simp; omega
  have HPP := Lib.hid (fun W (hM : Mem W A n c l) => page_any A n c F l W hM)
  generalize pgS n l F = P at *
  have HM := Lib.hid hm
  clear hm
  have HR1 := Lib.hid (fun W => (dkReq_any B K F 1 1 K F ⟨#[]⟩ a W).mono (R' := fun e w' => e = .returned (.tuple #[.agg #[.int .i64 3, .int .u64 a, .int .u32 K, .string ⟨#[]⟩], .bool true]) ∧ Below W.heap.size W w') fun _ _ ⟨h, h'⟩ => ⟨by rw [h]; rfl, h'⟩)
  have HR2 := Lib.hid (fun W => (dkReq_any B K F 1 2 K F P a W).mono (R' := fun e w' => e = .returned (.tuple #[.agg #[.int .i64 4, .int .u64 a, .int .u32 K, .string P], .bool true]) ∧ Below W.heap.size W w') fun _ _ ⟨h, h'⟩ => ⟨by rw [h]; rfl, h'⟩)
  unfold dkV at HR1 HR2 ⊢
  rcases hv with rfl | rfl
  · go_enter Try.func40, Try.ntmps40
    go_wp2_with (first | go_skip | fail)
    go_quiet (first | (go_at_call 44; exact quiet_on (HPS.out _)) | (go_at_call 43; exact quiet_on (HPG.out _)))
    go_wp2_with (first
      | go_skip
      | fail
      | (go_at_call 12; (with_reducible refine (HR1.out _).mono ?_); rintro e w3 ⟨rfl, hb3⟩; have X3 : InD w3 w.heap.size B K F 1 1 K F ⟨#[]⟩ := InD.on ⟨by simp [go_sem], by simp [go_sem], by simp [go_sem], by simp [go_sem], by simp [go_sem], by simp [go_sem], by simp [go_sem], by simp [go_sem], fun i => by simp [go_sem]⟩ hb3; have Y3 : InD w3 (w.heap.size + 1) 0 0 0 0 0 0 0 ⟨#[]⟩ := InD.on ⟨by simp [go_sem], by simp [go_sem], by simp [go_sem], by simp [go_sem], by simp [go_sem], by simp [go_sem], by simp [go_sem], by simp [go_sem], fun i => by simp [go_sem]⟩ hb3; have bel3 : Below w.heap.size w w3 := Below.trans (by (repeat' (first | with_reducible exact Below.refl _ _ | with_reducible assumption | with_reducible apply below_drewN | with_reducible apply Below.drew | with_reducible apply Below.setCell | with_reducible apply Below.alloc | (simp; done) | omega | (simp; omega)))) (hb3.mono (by simp <;> omega)); clear hb3))
    generalize hW : World.alloc w3 _ = W
    have hx3 := Y3.lt
    have X : InD W w.heap.size B K F 1 1 K F ⟨#[]⟩ := by rw [← hW]; exact X3.alloc _
    have Y : InD W (w.heap.size + 1) 0 0 0 0 0 0 0 ⟨#[]⟩ := by rw [← hW]; exact Y3.alloc _
    have E : InO W w3.heap.size 3 a K ⟨#[]⟩ := by rw [← hW]; exact InO.new _ _ _ _ _ _
    have belW : Below w.heap.size w W := by rw [← hW]; exact bel3.alloc bel3.size _
    clear hW X3 Y3
    have hA := X.lt
    have hB := Y.lt
    have hC := E.lt
    obtain ⟨c0, c1, c2, c3, c4, c5, c6, c7, cz⟩ := X
    obtain ⟨y0, y1, y2, y3, y4, y5, y6, y7, yz⟩ := Y
    obtain ⟨e0, e1, e2, e3, ez⟩ := E
    have z0 := yz 0
    have z1 := yz 1
    have z2 := yz 2
    have z3 := yz 3
    have z4 := yz 4
    have z5 := yz 5
    have z6 := yz 6
    have z7 := yz 7
    go_region
    all_goals (repeat' (first | (with_reducible refine then_normal ?_) | (with_reducible refine wp_exit ?_) | (with_reducible refine wp_ret ?_) | (with_reducible refine then_exit ?_) | (with_reducible refine blk_hit ?_) | (with_reducible refine blk_pass (by decide) ?_) | (with_reducible refine then_ret ?_) | (with_reducible refine blk_ret ?_) | (with_reducible refine blk_normal ?_) | go_values | go_skip | go_guarded | go_step | go_upon | (simp only [Int.not_lt, Int.not_le] at *; go_simp) | (go_values <;> (try go_simp)) | (go_ite <;> go_prune <;> (try go_simp))))
    refine bodyPost_ret (v := .tuple #[.agg #[.int .u32 B, .int .u32 K, .int .u32 F, .int .i64 1, .int .i64 1, .int .u32 K, .int .u32 F, .string ⟨#[]⟩], .slice (some ⟨W.heap.size, 0, none⟩) 1 1]) (by rw [results_cell_tmp rfl]; go_simp) rfl ⟨⟨_, rfl, ⟨W.heap.size, by omega, rfl, ⟨by simp [go_sem], by simp [go_sem], by simp [go_sem], by simp [go_sem], fun i => by simp [go_sem]⟩⟩⟩, by (repeat' (first | with_reducible exact Below.refl _ _ | with_reducible assumption | with_reducible apply below_drewN | with_reducible apply Below.drew | with_reducible apply Below.setCell | with_reducible apply Below.alloc | (simp; done) | omega | (simp; omega)))⟩
  · go_enter Try.func40, Try.ntmps40
    go_wp2_with (first | go_skip | fail)
    go_quiet (first | (go_at_call 44; exact quiet_on (HPS.out _)) | (go_at_call 43; exact quiet_on (HPG.out _)))
    go_wp2_with (first
      | go_skip
      | fail
      | (go_at_call 45; (with_reducible refine (HPP.out _ (HM.out.on (by (repeat' (first | with_reducible exact Below.refl _ _ | with_reducible assumption | with_reducible apply below_drewN | with_reducible apply Below.drew | with_reducible apply Below.setCell | with_reducible apply Below.alloc | (simp; done) | omega | (simp; omega)))))).mono ?_); rintro e w2 ⟨rfl, hb2⟩; have x2 : InD w2 w.heap.size B K F 1 2 K F ⟨#[]⟩ := InD.on ⟨by simp [go_sem], by simp [go_sem], by simp [go_sem], by simp [go_sem], by simp [go_sem], by simp [go_sem], by simp [go_sem], by simp [go_sem], fun i => by simp [go_sem]⟩ hb2; have y2 : InD w2 (w.heap.size + 1) 0 0 0 0 0 0 0 ⟨#[]⟩ := InD.on ⟨by simp [go_sem], by simp [go_sem], by simp [go_sem], by simp [go_sem], by simp [go_sem], by simp [go_sem], by simp [go_sem], by simp [go_sem], fun i => by simp [go_sem]⟩ hb2; have bel2 : Below w.heap.size w w2 := Below.trans (by (repeat' (first | with_reducible exact Below.refl _ _ | with_reducible assumption | with_reducible apply below_drewN | with_reducible apply Below.drew | with_reducible apply Below.setCell | with_reducible apply Below.alloc | (simp; done) | omega | (simp; omega)))) (hb2.mono (by simp <;> omega)); have l2 := y2.lt; clear hb2; obtain ⟨c0, c1, c2, c3, c4, c5, c6, c7, cz⟩ := x2; obtain ⟨y0, y1, y2, y3, y4, y5, y6, y7, yz⟩ := y2; have z7 := cz 7)
      | (go_at_call 12; (with_reducible refine (HR2.out _).mono ?_); rintro e w3 ⟨rfl, hb3⟩; have X3 : InD w3 w.heap.size B K F 1 2 K F P := InD.on ⟨by simp [go_sem, *], by simp [go_sem, *], by simp [go_sem, *], by simp [go_sem, *], by simp [go_sem, *], by simp [go_sem, *], by simp [go_sem, *], by simp [go_sem, *], fun i => by simp [go_sem, *]⟩ hb3; have Y3 : InD w3 (w.heap.size + 1) 0 0 0 0 0 0 0 ⟨#[]⟩ := InD.on ⟨by simp [go_sem, *], by simp [go_sem, *], by simp [go_sem, *], by simp [go_sem, *], by simp [go_sem, *], by simp [go_sem, *], by simp [go_sem, *], by simp [go_sem, *], fun i => by simp [go_sem, *]⟩ hb3; have bel3 : Below w.heap.size w w3 := Below.trans (by (repeat' (first | with_reducible exact Below.refl _ _ | with_reducible assumption | with_reducible apply below_drewN | with_reducible apply Below.drew | with_reducible apply Below.setCell | with_reducible apply Below.alloc | (simp; done) | omega | (simp; omega)))) (hb3.mono (by simp <;> omega)); clear hb3))
    generalize hW : World.alloc w3 _ = W
    have hx3 := Y3.lt
    have X : InD W w.heap.size B K F 1 2 K F P := by rw [← hW]; exact X3.alloc _
    have Y : InD W (w.heap.size + 1) 0 0 0 0 0 0 0 ⟨#[]⟩ := by rw [← hW]; exact Y3.alloc _
    have E : InO W w3.heap.size 4 a K P := by rw [← hW]; exact InO.new _ _ _ _ _ _
    have belW : Below w.heap.size w W := by rw [← hW]; exact bel3.alloc bel3.size _
    clear hW X3 Y3 c0 c1 c2 c3 c4 c5 c6 c7 cz y0 y1 y2 y3 y4 y5 y6 y7 yz z7 l2 bel2
    have hA := X.lt
    have hB := Y.lt
    have hC := E.lt
    obtain ⟨c0, c1, c2, c3, c4, c5, c6, c7, cz⟩ := X
    obtain ⟨y0, y1, y2, y3, y4, y5, y6, y7, yz⟩ := Y
    obtain ⟨e0, e1, e2, e3, ez⟩ := E
    have z0 := yz 0
    have z1 := yz 1
    have z2 := yz 2
    have z3 := yz 3
    have z4 := yz 4
    have z5 := yz 5
    have z6 := yz 6
    have z7 := yz 7
    go_region
    all_goals (repeat' (first | (with_reducible refine then_normal ?_) | (with_reducible refine wp_exit ?_) | (with_reducible refine wp_ret ?_) | (with_reducible refine then_exit ?_) | (with_reducible refine blk_hit ?_) | (with_reducible refine blk_pass (by decide) ?_) | (with_reducible refine then_ret ?_) | (with_reducible refine blk_ret ?_) | (with_reducible refine blk_normal ?_) | go_values | go_skip | go_guarded | go_step | go_upon | (simp only [Int.not_lt, Int.not_le] at *; go_simp) | (go_values <;> (try go_simp)) | (go_ite <;> go_prune <;> (try go_simp))))
    refine bodyPost_ret (v := .tuple #[.agg #[.int .u32 B, .int .u32 K, .int .u32 F, .int .i64 1, .int .i64 2, .int .u32 K, .int .u32 F, .string P], .slice (some ⟨W.heap.size, 0, none⟩) 1 1]) (by rw [results_cell_tmp rfl]; go_simp) rfl ⟨⟨_, rfl, ⟨W.heap.size, by omega, rfl, ⟨by simp [go_sem], by simp [go_sem], by simp [go_sem], by simp [go_sem], fun i => by simp [go_sem]⟩⟩⟩, by (repeat' (first | with_reducible exact Below.refl _ _ | with_reducible assumption | with_reducible apply below_drewN | with_reducible apply Below.drew | with_reducible apply Below.setCell | with_reducible apply Below.alloc | (simp; done) | omega | (simp; omega)))⟩
end Go.Proofs.Ytbaepeccgjoiaaa
