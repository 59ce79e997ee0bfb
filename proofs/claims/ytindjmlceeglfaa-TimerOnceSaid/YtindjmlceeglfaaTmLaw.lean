import Derived.Test.YtindjmlceeglfaaTmCon
import Derived.Lib.QuietBelow
import Derived.Lib.SliceRun
import Derived.Deep.RegionHeld3
namespace Go.Proofs.Ytindjmlceeglfaa
set_option linter.unusedVariables false
set_option linter.unusedSimpArgs false
open Go.ChangeShapes Go.WideShapes Go.ChangeAt Go.RowKit Go.Proofs.Ytindjmlceeglfaa.Num Go.Proofs.Ytindjmlceeglfaa.Mem
/-- The three cells of a timer in a block. -/
structure InT (w : World) (b : Nat) (a : Bool) (d : Int) (f : Bool) : Prop where
  c0 : w.cell? ⟨b, 0, none⟩ = some (.bool a)
  c1 : w.cell? ⟨b, 1, none⟩ = some (.int .u32 d)
  c2 : w.cell? ⟨b, 2, none⟩ = some (.bool f)
theorem InT.on {w w' : World} {b : Nat} {a f : Bool} {d : Int} (h : InT w b a d f) (hb : Below w.heap.size w w') : InT w' b a d f := ⟨stillD h.c0 hb, stillD h.c1 hb, stillD h.c2 hb⟩
theorem InT.lt {w : World} {b : Nat} {a f : Bool} {d : Int} (h : InT w b a d f) : b < w.heap.size := World.block_lt_of_cell? w _ h.c0
theorem InT.alloc {w : World} {b : Nat} {a f : Bool} {d : Int} (h : InT w b a d f) (o : Obj) : InT (w.alloc o) b a d f := ⟨Lib.cell?_alloc_some _ h.c0, Lib.cell?_alloc_some _ h.c1, Lib.cell?_alloc_some _ h.c2⟩
theorem InT.new (w : World) (a f : Bool) (d : Int) (ty : TypeId) : InT (w.alloc (.cells #[.bool a, .int .u32 d, .bool f] ty)) w.heap.size a d f := ⟨by simp [go_sem], by simp [go_sem], by simp [go_sem]⟩
theorem below_stepT {w w1 w2 : World} (h : Below w.heap.size w w1) (h2 : Below w1.heap.size w1 w2) : Below w.heap.size w w2 := Below.trans h (h2.mono h.size)
theorem awake8 (w : World) :
    Calls Try.prog 18 #[] w fun e w' => e = .returned (.bool true) ∧ Below w.heap.size w w' := by
  have HA := Lib.hid (fun W => (arm_any false 0 false 5 W).mono (R' := fun e w' => e = .returned (tmV true 5 false) ∧ Below W.heap.size W w') fun _ _ ⟨h, h'⟩ => ⟨by rw [h]; rfl, h'⟩)
  have HF := Lib.hid (fun W => (fire_any true 5 false W).mono (R' := fun e w' => e = .returned (.tuple #[tmV false 5 true, .bool true]) ∧ Below W.heap.size W w') fun _ _ ⟨h, h'⟩ => ⟨by rw [h]; rfl, h'⟩)
  have HD4 := Lib.hid (fun W => (due_any true 5 false 4 W).mono (R' := fun e w' => e = .returned (.bool false) ∧ Below W.heap.size W w') fun _ _ ⟨h, h'⟩ => ⟨by rw [h]; rfl, h'⟩)
  have HD5 := Lib.hid (fun W => (due_any true 5 false 5 W).mono (R' := fun e w' => e = .returned (.bool true) ∧ Below W.heap.size W w') fun _ _ ⟨h, h'⟩ => ⟨by rw [h]; rfl, h'⟩)
  have HP := Lib.hid (fun W => (tpend_any false 5 true W))
  have HI := Lib.hid (fun W => (tin_any false 5 true W).mono (R' := fun e w' => e = .returned (.int .u32 1) ∧ Below W.heap.size W w') fun _ _ ⟨h, h'⟩ => ⟨by rw [h]; rfl, h'⟩)
  unfold tmV at HA HF HD4 HD5 HP HI
  go_enter Try.func18, Try.ntmps18
  go_wp2_with (first
    | (go_at_call 8; (with_reducible refine (HA.out _).mono ?_); rintro e w1 ⟨rfl, hb1⟩)
    | (go_at_call 6; (with_reducible refine (HF.out _).mono ?_); rintro e w2 ⟨rfl, hb2⟩; have t2 : InT w2 w1.heap.size true 5 false := (InT.new _ _ _ _ _).on hb2; have b2 : Below w.heap.size w w2 := Below.trans (hb1.alloc hb1.size _) (hb2.mono (by have := hb1.size; simp; omega)); have l2 := t2.lt; have n1 : ¬ w2.heap.size = w1.heap.size := (by omega); have m1 : ¬ w1.heap.size = w2.heap.size := (by omega); clear hb2; have x := t2.alloc (.cells #[.bool false, .int .u32 5, .bool true] 24); have x0 := x.c0; have x1 := x.c1; have x2 := x.c2; have u := InT.new w2 false true 5 24; have bx := b2.alloc (by have := b2.size; omega) (.cells #[.bool false, .int .u32 5, .bool true] 24))
    | (go_at_call 10; (with_reducible refine (HD4.out _).mono ?_); rintro e w3 ⟨rfl, hb3⟩; have p3 := x.on hb3; have q3 := u.on hb3; have bb3 := below_stepT bx hb3; clear hb3; have p30 := p3.c0; have p31 := p3.c1; have p32 := p3.c2; have q30 := q3.c0; have q31 := q3.c1; have q32 := q3.c2)
    | (go_at_call 10; (with_reducible refine (HD5.out _).mono ?_); rintro e w4 ⟨rfl, hb4⟩; have p4 := p3.on hb4; have q4 := q3.on hb4; have bb4 := below_stepT bb3 hb4; clear hb4; have p40 := p4.c0; have p41 := p4.c1; have p42 := p4.c2; have q40 := q4.c0; have q41 := q4.c1; have q42 := q4.c2)
    | (go_at_call 14; (with_reducible refine (HP.out _).mono ?_); rintro e w5 ⟨rfl, hb5⟩; have p5 := p4.on hb5; have q5 := q4.on hb5; have bb5 := below_stepT bb4 hb5; clear hb5; have p50 := p5.c0; have p51 := p5.c1; have p52 := p5.c2; have q50 := q5.c0; have q51 := q5.c1; have q52 := q5.c2)
    | (go_at_call 12; (with_reducible refine (HI.out _).mono ?_); rintro e w6 ⟨rfl, hb6⟩; have p6 := p5.on hb6; have q6 := q5.on hb6; have bb6 := below_stepT bb5 hb6; clear hb6; have p60 := p6.c0; have p61 := p6.c1; have p62 := p6.c2; have q60 := q6.c0; have q61 := q6.c1; have q62 := q6.c2))
  go_ret
  exact ⟨rfl, bb6⟩
set_option maxHeartbeats 4000000 in
theorem tells_walk (a : Bool) (d : Int) (f : Bool) (n t : Int) (w : World) :
    Calls Try.prog 3 #[.agg #[.bool a, .int .u32 d, .bool f], .int .u32 n, .int .u32 t] w fun e w' => e = .returned (.bool true) ∧ Below w.heap.size w w' := by
  have HW := Lib.hid awake8
  obtain ⟨q, hq⟩ : ∃ q, (a || f) = q := ⟨_, rfl⟩
  obtain ⟨p, hp⟩ : ∃ p, decide (n ≠ 0) = p := ⟨_, rfl⟩
  obtain ⟨r, hr⟩ : ∃ r, (a && decide (d ≤ t)) = r := ⟨_, rfl⟩
  obtain ⟨i, hi⟩ : ∃ i : Int, (if f then 1 else 0) = i := ⟨_, rfl⟩
  obtain ⟨m, hm⟩ : ∃ m, tmM a d f = m := ⟨_, rfl⟩
  have HF1 := Lib.hid (fire_any a d f)
  have HF2 := Lib.hid (fire_ref a d f)
  have HA1 := Lib.hid (arm_any a d f n)
  have HA2 := Lib.hid (arm_ref n)
  have HD1 := Lib.hid (due_any a d f t)
  have HD2 := Lib.hid (due_ref a d f t)
  have HI1 := Lib.hid (tin_any a d f)
  have HI2 := Lib.hid (tin_ref a d f)
  have HP1 := Lib.hid (tpend_any a d f)
  have HP2 := Lib.hid (tpend_ref a d f)
  have HM1 := Lib.hid (tmay_any a d f)
  have HM2 := Lib.hid (tmay_ref a d f)
  unfold tmV at HF1 HF2 HA1 HA2 HD1 HD2 HI1 HI2 HP1 HP2 HM1 HM2
  rw [hq] at HF1 HF2
  rw [hp] at HA1 HA2
  rw [hr] at HD1 HD2
  simp only [hi] at HI1 HI2
  rw [hm] at HM1 HM2
  clear hq hp hr hi hm
  go_enter Try.func3, Try.ntmps3
  go_wp2_with (first
    | (go_at_call 6; (with_reducible refine (HF1.out _).mono ?_); rintro e w1 ⟨rfl, hb1⟩; have k1 : InT w1 w.heap.size a d f := (InT.new _ _ _ _ _).on hb1; have l1 := k1.lt; have e1 : Below w.heap.size w w1 := Below.trans (by (repeat' (first | with_reducible exact Below.refl _ _ | with_reducible assumption | with_reducible apply below_drewN | with_reducible apply Below.drew | with_reducible apply Below.setCell | with_reducible apply Below.alloc | (simp; done) | omega | (simp; omega)))) (hb1.mono (by simp)); clear hb1; have n1 : ¬ w1.heap.size = w.heap.size := (by omega); have m1 : ¬ w.heap.size = w1.heap.size := (by omega); have x0 := (k1.alloc (.cells #[.bool false, .int .u32 d, .bool q] 24)).c0; have x1 := (k1.alloc (.cells #[.bool false, .int .u32 d, .bool q] 24)).c1; have x2 := (k1.alloc (.cells #[.bool false, .int .u32 d, .bool q] 24)).c2)
    | (go_at_call 7; (with_reducible refine (HF2.out _).mono ?_); rintro e w2 ⟨rfl, hb2⟩; have k2 : InT w2 w.heap.size a d f := (k1.alloc _).on hb2; have j2 : InT w2 w1.heap.size false d q := (InT.new _ _ _ _ _).on hb2; have l2 := j2.lt; have e2 : Below w.heap.size w w2 := Below.trans (e1.alloc e1.size _) (hb2.mono (by simp; omega)); clear hb2))
  obtain ⟨W, hW⟩ : ∃ W, w2.alloc (.cells #[.bool false, .int .u32 d, .bool q] 24) = W := ⟨_, rfl⟩
  have s : InT W w.heap.size a d f := by rw [← hW]; exact k2.alloc _
  have u : InT W w1.heap.size false d q := by rw [← hW]; exact j2.alloc _
  have v : InT W w2.heap.size false d q := by rw [← hW]; exact InT.new _ _ _ _ _
  have HBW : Hid (Below w.heap.size w W) := by rw [← hW]; exact Lib.hid (e2.alloc (by have := e2.size; omega) _)
  rw [hW]
  clear hW k1 k2 j2 l1 l2 e1 e2 n1 m1 x0 x1 x2
  obtain ⟨g0, hg0⟩ : ∃ g, w.heap.size = g := ⟨_, rfl⟩
  rw [hg0] at s
  try rw [hg0]
  generalize w1.heap.size = g1 at *
  generalize w2.heap.size = g2 at *
  have s0 := s.c0; have s1 := s.c1; have s2 := s.c2
  have u0 := u.c0; have u1 := u.c1; have u2 := u.c2
  have v0 := v.c0; have v1 := v.c1; have v2 := v.c2
  have bb : Below W.heap.size W W.drew := (Below.refl _ _).drew
  go_region_held3 (fun w' => w'.cell? ⟨g0, 0, none⟩ = some (.bool a) ∧ w'.cell? ⟨g0, 1, none⟩ = some (.int .u32 d) ∧ w'.cell? ⟨g0, 2, none⟩ = some (.bool f) ∧ w'.cell? ⟨g1, 0, none⟩ = some (.bool false) ∧ w'.cell? ⟨g1, 1, none⟩ = some (.int .u32 d) ∧ w'.cell? ⟨g1, 2, none⟩ = some (.bool q) ∧ w'.cell? ⟨g2, 0, none⟩ = some (.bool false) ∧ w'.cell? ⟨g2, 1, none⟩ = some (.int .u32 d) ∧ w'.cell? ⟨g2, 2, none⟩ = some (.bool q)) (first | exact ⟨stillD s0 bb, stillD s1 bb, stillD s2 bb, stillD u0 bb, stillD u1 bb, stillD u2 bb, stillD v0 bb, stillD v1 bb, stillD v2 bb⟩ | go_keep) (first
    | (go_at_call 8; refine (HA1.out _).mono ?_; rintro e w3 ⟨rfl, hb3⟩; replace bb := below_stepT bb hb3)
    | (go_at_call 9; refine (HA2.out _).mono ?_; rintro e w4 ⟨rfl, hb4⟩; replace bb := below_stepT bb hb4)
    | (go_at_call 10; refine (HD1.out _).mono ?_; rintro e w5 ⟨rfl, hb5⟩; replace bb := below_stepT bb hb5)
    | (go_at_call 11; refine (HD2.out _).mono ?_; rintro e w6 ⟨rfl, hb6⟩; replace bb := below_stepT bb hb6)
    | (go_at_call 12; refine (HI1.out _).mono ?_; rintro e w7 ⟨rfl, hb7⟩; replace bb := below_stepT bb hb7)
    | (go_at_call 13; refine (HI2.out _).mono ?_; rintro e w8 ⟨rfl, hb8⟩; replace bb := below_stepT bb hb8)
    | (go_at_call 14; refine (HP1.out _).mono ?_; rintro e w9 ⟨rfl, hb9⟩; replace bb := below_stepT bb hb9)
    | (go_at_call 15; refine (HP2.out _).mono ?_; rintro e w10 ⟨rfl, hb10⟩; replace bb := below_stepT bb hb10)
    | (go_at_call 16; refine (HM1.out _).mono ?_; rintro e w11 ⟨rfl, hb11⟩; replace bb := below_stepT bb hb11)
    | (go_at_call 17; refine (HM2.out _).mono ?_; rintro e w12 ⟨rfl, hb12⟩; replace bb := below_stepT bb hb12)
    | (go_at_call 18; refine (HW.out _).mono ?_; rintro e w13 ⟨rfl, hb13⟩; replace bb := below_stepT bb hb13))
  go_wp2
  go_ret
  exact ⟨rfl, below_stepT HBW.out bb⟩
end Go.Proofs.Ytindjmlceeglfaa
