import Derived.Test.YtbaepeccgjoiaaaDkPr2
namespace Go.Proofs.Ytbaepeccgjoiaaa
set_option linter.unusedVariables false
set_option linter.unusedSimpArgs false
set_option maxRecDepth 20000
open Go.ChangeShapes Go.WideShapes Go.ChangeAt Go.RowKit Go.Proofs.Ytbaepeccgjoiaaa.Num Go.Proofs.Ytbaepeccgjoiaaa.Mem
set_option maxHeartbeats 1000000 in
theorem ctl_issue (B K F C OB OF B' K' F' S' C' OB' OF' : Int) (D D' : ByteArray) (A : Option Addr) (n c : Nat) (l : List Int) (v a : Int) (o : Option (Int × Int × Int × ByteArray)) (w : World) (hm : Mem w A n c l) (hv : v = 1 ∨ v = 2)
    (HI : Hid (∀ W, Mem W A n c l → Calls Try.prog 40 #[dkV B K F 0 C OB OF D, .slice A n c, .int .i64 v, .int .u64 a] W (OutPost B' K' F' S' C' OB' OF' D' o W))) :
    Calls Try.prog 31 #[dkV B K F 0 C OB OF D, .slice A n c, .int .u32 v, .int .u64 a] w (OutPost B' K' F' S' C' OB' OF' D' o w) := by
  have HM := Lib.hid hm
  clear hm
  unfold OutPost dkV at HI
  unfold dkV
  rcases hv with rfl | rfl
  · go_enter Try.func31, Try.ntmps31
    go_wp2_with (first
      | go_skip
      | (go_at_call 40; refine (HI.out _ (HM.out.on (by (repeat' (first | with_reducible exact Below.refl _ _ | with_reducible assumption | with_reducible apply below_drewN | with_reducible apply Below.drew | with_reducible apply Below.setCell | with_reducible apply Below.alloc | (simp; done) | omega | (simp; omega)))))).mono ?_; rintro e w1 ⟨⟨sl1, rfl, ho1⟩, hb1⟩; have Y : InD w1 (w.heap.size + 1) 0 0 0 0 0 0 0 ⟨#[]⟩ := InD.on ⟨by simp [go_sem], by simp [go_sem], by simp [go_sem], by simp [go_sem], by simp [go_sem], by simp [go_sem], by simp [go_sem], by simp [go_sem], fun i => by simp [go_sem]⟩ hb1; have b1 : Below w.heap.size w w1 := Below.trans (by (repeat' (first | with_reducible exact Below.refl _ _ | with_reducible assumption | with_reducible apply below_drewN | with_reducible apply Below.drew | with_reducible apply Below.setCell | with_reducible apply Below.alloc | (simp; done) | omega | (simp; omega)))) (hb1.mono (by simp <;> omega)); have ho2 : Outs (w.heap.size + 2) w1 sl1 o := Outs.mono ho1 (by simp <;> omega); clear hb1 ho1; have l1 := Y.lt; obtain ⟨y0, y1, y2, y3, y4, y5, y6, y7, yz⟩ := Y; have z0 := yz 0; have z1 := yz 1; have z2 := yz 2; have z3 := yz 3; have z4 := yz 4; have z5 := yz 5; have z6 := yz 6; have z7 := yz 7))
    refine bodyPost_ret (v := .tuple #[.agg #[.int .u32 B', .int .u32 K', .int .u32 F', .int .i64 S', .int .i64 C', .int .u32 OB', .int .u32 OF', .string D'], sl1]) (by rw [results_cell_tmp rfl]; go_simp) rfl ⟨⟨_, rfl, ?_⟩, by (repeat' (first | with_reducible exact Below.refl _ _ | with_reducible assumption | with_reducible apply below_drewN | with_reducible apply Below.drew | with_reducible apply Below.setCell | with_reducible apply Below.alloc | (simp; done) | omega | (simp; omega)))⟩
    refine Outs.mono (n1 := w.heap.size + 2) ?_ (by omega)
    repeat' (first | with_reducible exact ho2 | (with_reducible refine Outs.off ?_ _ ?_) | (show w.heap.size + 1 < _; omega) | (show w.heap.size < _; omega))
  · go_enter Try.func31, Try.ntmps31
    go_wp2_with (first
      | go_skip
      | (go_at_call 40; refine (HI.out _ (HM.out.on (by (repeat' (first | with_reducible exact Below.refl _ _ | with_reducible assumption | with_reducible apply below_drewN | with_reducible apply Below.drew | with_reducible apply Below.setCell | with_reducible apply Below.alloc | (simp; done) | omega | (simp; omega)))))).mono ?_; rintro e w1 ⟨⟨sl1, rfl, ho1⟩, hb1⟩; have Y : InD w1 (w.heap.size + 1) 0 0 0 0 0 0 0 ⟨#[]⟩ := InD.on ⟨by simp [go_sem], by simp [go_sem], by simp [go_sem], by simp [go_sem], by simp [go_sem], by simp [go_sem], by simp [go_sem], by simp [go_sem], fun i => by simp [go_sem]⟩ hb1; have b1 : Below w.heap.size w w1 := Below.trans (by (repeat' (first | with_reducible exact Below.refl _ _ | with_reducible assumption | with_reducible apply below_drewN | with_reducible apply Below.drew | with_reducible apply Below.setCell | with_reducible apply Below.alloc | (simp; done) | omega | (simp; omega)))) (hb1.mono (by simp <;> omega)); have ho2 : Outs (w.heap.size + 2) w1 sl1 o := Outs.mono ho1 (by simp <;> omega); clear hb1 ho1; have l1 := Y.lt; obtain ⟨y0, y1, y2, y3, y4, y5, y6, y7, yz⟩ := Y; have z0 := yz 0; have z1 := yz 1; have z2 := yz 2; have z3 := yz 3; have z4 := yz 4; have z5 := yz 5; have z6 := yz 6; have z7 := yz 7))
    refine bodyPost_ret (v := .tuple #[.agg #[.int .u32 B', .int .u32 K', .int .u32 F', .int .i64 S', .int .i64 C', .int .u32 OB', .int .u32 OF', .string D'], sl1]) (by rw [results_cell_tmp rfl]; go_simp) rfl ⟨⟨_, rfl, ?_⟩, by (repeat' (first | with_reducible exact Below.refl _ _ | with_reducible assumption | with_reducible apply below_drewN | with_reducible apply Below.drew | with_reducible apply Below.setCell | with_reducible apply Below.alloc | (simp; done) | omega | (simp; omega)))⟩
    refine Outs.mono (n1 := w.heap.size + 2) ?_ (by omega)
    repeat' (first | with_reducible exact ho2 | (with_reducible refine Outs.off ?_ _ ?_) | (show w.heap.size + 1 < _; omega) | (show w.heap.size < _; omega))
theorem ctl_busy (B K F S C OB OF : Int) (D : ByteArray) (A : Option Addr) (n c : Nat) (v a : Int) (w : World) (hv : v = 1 ∨ v = 2) (hS : ¬ S = 0) :
    Calls Try.prog 31 #[dkV B K F S C OB OF D, .slice A n c, .int .u32 v, .int .u64 a] w (OutPost B K F S C OB OF D none w) := by
  unfold dkV
  have e0 : (S == 0) = false := by rw [beq_eq_false_iff_ne]; exact hS
  rcases hv with rfl | rfl
  all_goals
    go_enter Try.func31, Try.ntmps31
    go_wp2_with (first | go_skip | fail)
    all_goals refine bodyPost_ret (v := .tuple #[.agg #[.int .u32 B, .int .u32 K, .int .u32 F, .int .i64 S, .int .i64 C, .int .u32 OB, .int .u32 OF, .string D], .slice none 0 0]) (by rw [results_cell_tmp rfl]; go_simp) rfl ⟨⟨_, rfl, rfl⟩, by (repeat' (first | with_reducible exact Below.refl _ _ | with_reducible assumption | with_reducible apply below_drewN | with_reducible apply Below.drew | with_reducible apply Below.setCell | with_reducible apply Below.alloc | (simp; done) | omega | (simp; omega)))⟩
theorem ctl_idleX (B K F S C OB OF : Int) (D : ByteArray) (A : Option Addr) (n c : Nat) (v a : Int) (w : World) (h0 : ¬ v = 0) (h1 : ¬ v = 1) (h2 : ¬ v = 2) :
    Calls Try.prog 31 #[dkV B K F S C OB OF D, .slice A n c, .int .u32 v, .int .u64 a] w (OutPost B K F S C OB OF D none w) := by
  unfold dkV
  have e0 : (v == 0) = false := by rw [beq_eq_false_iff_ne]; exact h0
  have e1 : (v == 1) = false := by rw [beq_eq_false_iff_ne]; exact h1
  have e2 : (v == 2) = false := by rw [beq_eq_false_iff_ne]; exact h2
  go_enter Try.func31, Try.ntmps31
  go_wp2_with (first | go_skip | fail)
  all_goals refine bodyPost_ret (v := .tuple #[.agg #[.int .u32 B, .int .u32 K, .int .u32 F, .int .i64 S, .int .i64 C, .int .u32 OB, .int .u32 OF, .string D], .slice none 0 0]) (by rw [results_cell_tmp rfl]; go_simp) rfl ⟨⟨_, rfl, rfl⟩, by (repeat' (first | with_reducible exact Below.refl _ _ | with_reducible assumption | with_reducible apply below_drewN | with_reducible apply Below.drew | with_reducible apply Below.setCell | with_reducible apply Below.alloc | (simp; done) | omega | (simp; omega)))⟩
set_option maxHeartbeats 1000000 in
theorem ctl_ack (B K F S C OB OF : Int) (D : ByteArray) (A : Option Addr) (n c : Nat) (a : Int) (w : World) (hS : S = 2 ∨ S = 3) :
    Calls Try.prog 31 #[dkV B K F S C OB OF D, .slice A n c, .int .u32 0, .int .u64 a] w (OutPost B K F 0 C OB OF D none w) := by
  have HP := Lib.hid (fun W => dkPend_any B K F S C OB OF D W)
  rw [decide_eq_true hS] at HP
  unfold dkV at HP ⊢
  go_enter Try.func31, Try.ntmps31
  go_wp2_with (first
    | go_skip
    | (go_at_call 22; (with_reducible refine (HP.out _).mono ?_); rintro e w1 ⟨rfl, hb1⟩; have X : InD w1 w.heap.size B K F S C OB OF D := InD.on ⟨by simp [go_sem], by simp [go_sem], by simp [go_sem], by simp [go_sem], by simp [go_sem], by simp [go_sem], by simp [go_sem], by simp [go_sem], fun i => by simp [go_sem]⟩ hb1; have Y : InD w1 (w.heap.size + 1) 0 0 0 0 0 0 0 ⟨#[]⟩ := InD.on ⟨by simp [go_sem], by simp [go_sem], by simp [go_sem], by simp [go_sem], by simp [go_sem], by simp [go_sem], by simp [go_sem], by simp [go_sem], fun i => by simp [go_sem]⟩ hb1; have b1 : Below w.heap.size w w1 := Below.trans (by (repeat' (first | with_reducible exact Below.refl _ _ | with_reducible assumption | with_reducible apply below_drewN | with_reducible apply Below.drew | with_reducible apply Below.setCell | with_reducible apply Below.alloc | (simp; done) | omega | (simp; omega)))) (hb1.mono (by simp <;> omega)); clear hb1; have l1 := Y.lt; obtain ⟨c0, c1, c2, c3, c4, c5, c6, c7, cz⟩ := X; obtain ⟨y0, y1, y2, y3, y4, y5, y6, y7, yz⟩ := Y; have x3 := cz 3; have z0 := yz 0; have z1 := yz 1; have z2 := yz 2; have z3 := yz 3; have z4 := yz 4; have z5 := yz 5; have z6 := yz 6; have z7 := yz 7))
  refine bodyPost_ret (v := .tuple #[.agg #[.int .u32 B, .int .u32 K, .int .u32 F, .int .i64 0, .int .i64 C, .int .u32 OB, .int .u32 OF, .string D], .slice none 0 0]) (by rw [results_cell_tmp rfl]; go_simp) rfl ⟨⟨_, rfl, rfl⟩, by (repeat' (first | with_reducible exact Below.refl _ _ | with_reducible assumption | with_reducible apply below_drewN | with_reducible apply Below.drew | with_reducible apply Below.setCell | with_reducible apply Below.alloc | (simp; done) | omega | (simp; omega)))⟩
set_option maxHeartbeats 1000000 in
theorem ctl_idle0 (B K F S C OB OF : Int) (D : ByteArray) (A : Option Addr) (n c : Nat) (a : Int) (w : World) (hS : ¬ (S = 2 ∨ S = 3)) :
    Calls Try.prog 31 #[dkV B K F S C OB OF D, .slice A n c, .int .u32 0, .int .u64 a] w (OutPost B K F S C OB OF D none w) := by
  have HP := Lib.hid (fun W => dkPend_any B K F S C OB OF D W)
  rw [decide_eq_false hS] at HP
  unfold dkV at HP ⊢
  go_enter Try.func31, Try.ntmps31
  go_wp2_with (first
    | go_skip
    | (go_at_call 22; (with_reducible refine (HP.out _).mono ?_); rintro e w1 ⟨rfl, hb1⟩; have X : InD w1 w.heap.size B K F S C OB OF D := InD.on ⟨by simp [go_sem], by simp [go_sem], by simp [go_sem], by simp [go_sem], by simp [go_sem], by simp [go_sem], by simp [go_sem], by simp [go_sem], fun i => by simp [go_sem]⟩ hb1; have Y : InD w1 (w.heap.size + 1) 0 0 0 0 0 0 0 ⟨#[]⟩ := InD.on ⟨by simp [go_sem], by simp [go_sem], by simp [go_sem], by simp [go_sem], by simp [go_sem], by simp [go_sem], by simp [go_sem], by simp [go_sem], fun i => by simp [go_sem]⟩ hb1; have b1 : Below w.heap.size w w1 := Below.trans (by (repeat' (first | with_reducible exact Below.refl _ _ | with_reducible assumption | with_reducible apply below_drewN | with_reducible apply Below.drew | with_reducible apply Below.setCell | with_reducible apply Below.alloc | (simp; done) | omega | (simp; omega)))) (hb1.mono (by simp <;> omega)); clear hb1; have l1 := Y.lt; obtain ⟨c0, c1, c2, c3, c4, c5, c6, c7, cz⟩ := X; obtain ⟨y0, y1, y2, y3, y4, y5, y6, y7, yz⟩ := Y; have x3 := cz 3; have z0 := yz 0; have z1 := yz 1; have z2 := yz 2; have z3 := yz 3; have z4 := yz 4; have z5 := yz 5; have z6 := yz 6; have z7 := yz 7))
  refine bodyPost_ret (v := .tuple #[.agg #[.int .u32 B, .int .u32 K, .int .u32 F, .int .i64 S, .int .i64 C, .int .u32 OB, .int .u32 OF, .string D], .slice none 0 0]) (by rw [results_cell_tmp rfl]; go_simp) rfl ⟨⟨_, rfl, rfl⟩, by (repeat' (first | with_reducible exact Below.refl _ _ | with_reducible assumption | with_reducible apply below_drewN | with_reducible apply Below.drew | with_reducible apply Below.setCell | with_reducible apply Below.alloc | (simp; done) | omega | (simp; omega)))⟩
theorem out_block (B K F S C OB OF : Int) (D : ByteArray) (A : Option Addr) (n c : Nat) (p v a : Int) (w : World) (hp : p = 4) :
    Calls Try.prog 10 #[dkV B K F S C OB OF D, .slice A n c, .int .i64 p, .int .u32 v, .int .u64 a] w (OutPost B v F S C OB OF D none w) := by
  subst hp
  unfold dkV
  go_enter Try.func10, Try.ntmps10
  go_wp2_with (first | go_skip | fail)
  refine bodyPost_ret (v := .tuple #[.agg #[.int .u32 B, .int .u32 v, .int .u32 F, .int .i64 S, .int .i64 C, .int .u32 OB, .int .u32 OF, .string D], .slice none 0 0]) (by rw [results_cell_tmp rfl]; go_simp) rfl ⟨⟨_, rfl, rfl⟩, by (repeat' (first | with_reducible exact Below.refl _ _ | with_reducible assumption | with_reducible apply below_drewN | with_reducible apply Below.drew | with_reducible apply Below.setCell | with_reducible apply Below.alloc | (simp; done) | omega | (simp; omega)))⟩
theorem out_frame (B K F S C OB OF : Int) (D : ByteArray) (A : Option Addr) (n c : Nat) (p v a : Int) (w : World) (hp : p = 5) :
    Calls Try.prog 10 #[dkV B K F S C OB OF D, .slice A n c, .int .i64 p, .int .u32 v, .int .u64 a] w (OutPost B K v S C OB OF D none w) := by
  subst hp
  unfold dkV
  go_enter Try.func10, Try.ntmps10
  go_wp2_with (first | go_skip | fail)
  refine bodyPost_ret (v := .tuple #[.agg #[.int .u32 B, .int .u32 K, .int .u32 v, .int .i64 S, .int .i64 C, .int .u32 OB, .int .u32 OF, .string D], .slice none 0 0]) (by rw [results_cell_tmp rfl]; go_simp) rfl ⟨⟨_, rfl, rfl⟩, by (repeat' (first | with_reducible exact Below.refl _ _ | with_reducible assumption | with_reducible apply below_drewN | with_reducible apply Below.drew | with_reducible apply Below.setCell | with_reducible apply Below.alloc | (simp; done) | omega | (simp; omega)))⟩
theorem out_other (B K F S C OB OF : Int) (D : ByteArray) (A : Option Addr) (n c : Nat) (p v a : Int) (w : World) (h4 : ¬ p = 4) (h5 : ¬ p = 5) (h6 : ¬ p = 6) :
    Calls Try.prog 10 #[dkV B K F S C OB OF D, .slice A n c, .int .i64 p, .int .u32 v, .int .u64 a] w (OutPost B K F S C OB OF D none w) := by
  have e4 : (p == 4) = false := by rw [beq_eq_false_iff_ne]; omega
  have e5 : (p == 5) = false := by rw [beq_eq_false_iff_ne]; omega
  have e6 : (p == 6) = false := by rw [beq_eq_false_iff_ne]; omega
  unfold dkV
  go_enter Try.func10, Try.ntmps10
  go_wp2_with (first | go_skip | fail)
  refine bodyPost_ret (v := .tuple #[.agg #[.int .u32 B, .int .u32 K, .int .u32 F, .int .i64 S, .int .i64 C, .int .u32 OB, .int .u32 OF, .string D], .slice none 0 0]) (by rw [results_cell_tmp rfl]; go_simp) rfl ⟨⟨_, rfl, rfl⟩, by (repeat' (first | with_reducible exact Below.refl _ _ | with_reducible assumption | with_reducible apply below_drewN | with_reducible apply Below.drew | with_reducible apply Below.setCell | with_reducible apply Below.alloc | (simp; done) | omega | (simp; omega)))⟩
set_option maxHeartbeats 1000000 in
theorem out_ctl (B K F S C OB OF B' K' F' S' C' OB' OF' : Int) (D D' : ByteArray) (A : Option Addr) (n c : Nat) (l : List Int) (v a : Int) (o : Option (Int × Int × Int × ByteArray)) (w : World) (hm : Mem w A n c l)
    (HI : Hid (∀ W, Mem W A n c l → Calls Try.prog 31 #[dkV B K F S C OB OF D, .slice A n c, .int .u32 v, .int .u64 a] W (OutPost B' K' F' S' C' OB' OF' D' o W))) :
    Calls Try.prog 10 #[dkV B K F S C OB OF D, .slice A n c, .int .i64 6, .int .u32 v, .int .u64 a] w (OutPost B' K' F' S' C' OB' OF' D' o w) := by
  have HM := Lib.hid hm
  clear hm
  unfold OutPost dkV at HI
  unfold dkV
  go_enter Try.func10, Try.ntmps10
  go_wp2_with (first
    | go_skip
    | (go_at_call 31; refine (HI.out _ (HM.out.on (by (repeat' (first | with_reducible exact Below.refl _ _ | with_reducible assumption | with_reducible apply below_drewN | with_reducible apply Below.drew | with_reducible apply Below.setCell | with_reducible apply Below.alloc | (simp; done) | omega | (simp; omega)))))).mono ?_; rintro e w1 ⟨⟨sl1, rfl, ho1⟩, hb1⟩; have Y : InD w1 (w.heap.size + 1) 0 0 0 0 0 0 0 ⟨#[]⟩ := InD.on ⟨by simp [go_sem], by simp [go_sem], by simp [go_sem], by simp [go_sem], by simp [go_sem], by simp [go_sem], by simp [go_sem], by simp [go_sem], fun i => by simp [go_sem]⟩ hb1; have b1 : Below w.heap.size w w1 := Below.trans (by (repeat' (first | with_reducible exact Below.refl _ _ | with_reducible assumption | with_reducible apply below_drewN | with_reducible apply Below.drew | with_reducible apply Below.setCell | with_reducible apply Below.alloc | (simp; done) | omega | (simp; omega)))) (hb1.mono (by simp <;> omega)); have ho2 : Outs (w.heap.size + 2) w1 sl1 o := Outs.mono ho1 (by simp <;> omega); clear hb1 ho1; have l1 := Y.lt; obtain ⟨y0, y1, y2, y3, y4, y5, y6, y7, yz⟩ := Y; have z0 := yz 0; have z1 := yz 1; have z2 := yz 2; have z3 := yz 3; have z4 := yz 4; have z5 := yz 5; have z6 := yz 6; have z7 := yz 7))
  refine bodyPost_ret (v := .tuple #[.agg #[.int .u32 B', .int .u32 K', .int .u32 F', .int .i64 S', .int .i64 C', .int .u32 OB', .int .u32 OF', .string D'], sl1]) (by rw [results_cell_tmp rfl]; go_simp) rfl ⟨⟨_, rfl, ?_⟩, by (repeat' (first | with_reducible exact Below.refl _ _ | with_reducible assumption | with_reducible apply below_drewN | with_reducible apply Below.drew | with_reducible apply Below.setCell | with_reducible apply Below.alloc | (simp; done) | omega | (simp; omega)))⟩
  refine Outs.mono (n1 := w.heap.size + 2) ?_ (by omega)
  repeat' (first | with_reducible exact ho2 | (with_reducible refine Outs.off ?_ _ ?_) | (show w.heap.size + 1 < _; omega) | (show w.heap.size < _; omega))
end Go.Proofs.Ytbaepeccgjoiaaa
