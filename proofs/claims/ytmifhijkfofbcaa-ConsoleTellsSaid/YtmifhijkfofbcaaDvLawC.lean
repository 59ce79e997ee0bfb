import Derived.Test.YtmifhijkfofbcaaDvCon
import Derived.Lib.QuietBelow
import Derived.Lib.SliceRun
import Derived.Deep.RegionHeld3
namespace Go.Proofs.Ytmifhijkfofbcaa
set_option linter.unusedVariables false
set_option linter.unusedSimpArgs false
open Go.ChangeShapes Go.WideShapes Go.ChangeAt Go.RowKit Go.Proofs.Ytmifhijkfofbcaa.Num Go.Proofs.Ytmifhijkfofbcaa.Mem
theorem stillD {w w' : World} {p : Addr} {v : Value} (h : w.cell? p = some v) (hb : Below w.heap.size w w') : w'.cell? p = some v := (hb.cell (World.block_lt_of_cell? w _ h)).trans h
def kA : ByteArray := ⟨#[65]⟩
def kAB : ByteArray := ⟨#[65, 66]⟩
def kB : ByteArray := ⟨#[66]⟩
theorem awake7 (w : World) :
    Calls Try.prog 6 #[] w fun e w' => e = .returned (.bool true) ∧ Below w.heap.size w w' := by
  have HT1 := Lib.hid (fun W => (type_any ⟨#[]⟩ 65 W (by decide) (by decide)).mono (R' := fun e w' => e = .returned (.tuple #[.agg #[.string kA], .bool true]) ∧ Below W.heap.size W w') fun _ _ ⟨h, h'⟩ => ⟨by rw [h]; rfl, h'⟩)
  have HT2 := Lib.hid (fun W => (type_any kA 66 W (by decide) (by decide)).mono (R' := fun e w' => e = .returned (.tuple #[.agg #[.string kAB], .bool true]) ∧ Below W.heap.size W w') fun _ _ ⟨h, h'⟩ => ⟨by rw [h]; rfl, h'⟩)
  have HI1 := Lib.hid (fun W => (in_any kAB 0 W).mono (R' := fun e w' => e = .returned (.tuple #[.agg #[.string kB], .int .u32 65]) ∧ Below W.heap.size W w') fun _ _ ⟨h, h'⟩ => ⟨by rw [h]; rfl, h'⟩)
  have HI2 := Lib.hid (fun W => (in_any kB 1 W).mono (R' := fun e w' => e = .returned (.tuple #[.agg #[.string kB], .int .u32 1]) ∧ Below W.heap.size W w') fun _ _ ⟨h, h'⟩ => ⟨by rw [h]; rfl, h'⟩)
  have HP := Lib.hid (fun W => (pending_any kB W).mono (R' := fun e w' => e = .returned (.bool true) ∧ Below W.heap.size W w') fun _ _ ⟨h, h'⟩ => ⟨by rw [h]; rfl, h'⟩)
  unfold conV at HT1 HT2 HI1 HI2 HP
  go_enter Try.func6, Try.ntmps6
  go_wp2_with (first
    | (go_at_call 8; (with_reducible refine (HT1.out _).mono ?_); rintro e w1 ⟨rfl, hb1⟩)
    | (go_at_call 8; (with_reducible refine (HT2.out _).mono ?_); rintro e w2 ⟨rfl, hb2⟩; have c2 := dvC (p := ⟨w1.heap.size, 0, none⟩) (v := .string kA) (by simp [go_sem]) hb2 (by simp <;> omega); have z2 := dvF (p := ⟨w1.heap.size, 0, none⟩) (by simp [go_sem]) hb2 (by simp <;> omega); have b2 : Below w.heap.size w w2 := Below.trans (hb1.alloc hb1.size _) (hb2.mono (by have := hb1.size; simp; omega)); have l2 := hb1.size; clear hb1 hb2)
    | (go_at_call 10; (with_reducible refine (HI1.out _).mono ?_); rintro e w3 ⟨rfl, hb3⟩; have b3 : Below w.heap.size w w3 := Below.trans (b2.setCell (by simpa using l2) _) (hb3.mono (by have := b2.size; simp; omega)); clear hb3)
    | (go_at_call 10; (with_reducible refine (HI2.out _).mono ?_); rintro e w4 ⟨rfl, hb4⟩; have c4 := dvC (p := ⟨w3.heap.size, 0, none⟩) (v := .string kB) (by simp [go_sem]) hb4 (by simp <;> omega); have l4 : w3.heap.size < w4.heap.size := Nat.lt_of_lt_of_le (by simp) hb4.size; have n4 : ¬ w4.heap.size = w3.heap.size := (by omega); have b4 : Below w.heap.size w w4 := Below.trans (b3.alloc b3.size _) (hb4.mono (by have := b3.size; simp; omega)); clear hb4)
    | (go_at_call 12; (with_reducible refine (HP.out _).mono ?_); rintro e w5 ⟨rfl, hb5⟩))
  go_ret
  exact ⟨rfl, Below.trans (b4.alloc b4.size _) (hb5.mono (by have := b4.size; simp; omega))⟩
set_option maxHeartbeats 4000000 in
theorem tells_walk (s : ByteArray) (b p : Int) (small : Bool) (w : World) (b0 : 0 ≤ b) (b1 : b ≤ 255) (p0 : -9223372036854775808 ≤ p) (p1 : p ≤ 9223372036854775807) :
    Calls Try.prog 3 #[.agg #[.string s], .int .u8 b, .int .i64 p, .bool small] w fun e w' => e = .returned (.bool true) ∧ Below w.heap.size w w' := by
  have HA := Lib.hid awake7
  by_cases hs : s.size ≤ 100
  · obtain ⟨P, hP⟩ : ∃ P : Int, (if small = true then p % 3 else p) = P := ⟨_, rfl⟩
    have HT1 := Lib.hid (fun W => type_any s b W b0 b1)
    have HT2 := Lib.hid (fun W => type_ref s b W b0 b1)
    have HI1 := Lib.hid (fun W => in_any s P W)
    have HI2 := Lib.hid (fun W => in_ref s P W)
    unfold conV at HT1 HT2 HI1 HI2
    generalize tyS s b = T at *
    cases small
    all_goals
      simp only [Bool.false_eq_true, if_false, if_true] at hP
      subst hP
      generalize inS s _ = I at *
      generalize inV s _ = V at *
      go_enter Try.func3, Try.ntmps3
      go_wp2_with (first
        | (go_at_call 7; refine (roundD _ _ _ (by omega) (by omega) (by omega) (by omega)).mono ?_; rintro e w2 ⟨rfl, rfl⟩)
        | (go_at_call 8; (with_reducible refine (HT1.out _).mono ?_); rintro e w1 ⟨rfl, hb1⟩; have c1 := dvC (p := ⟨w.heap.size, 0, none⟩) (v := .string s) (by first | (simp [go_sem]; done) | exact Lib.cell?_alloc_some _ (by assumption)) hb1 (by simp <;> omega); have l1 : w.heap.size < w1.heap.size := Nat.lt_of_lt_of_le (by simp) hb1.size; have bel1 : Below w.heap.size w w1 := Below.trans (by (repeat' (first | with_reducible exact Below.refl _ _ | with_reducible assumption | with_reducible apply below_drewN | with_reducible apply Below.drew | with_reducible apply Below.setCell | with_reducible apply Below.alloc | (simp; done) | omega | (simp; omega)))) (hb1.mono (by simp <;> omega)); clear hb1; have n1 : ¬ w1.heap.size = w.heap.size := (by omega); have m1 : ¬ w.heap.size = w1.heap.size := (by omega); have y1 : (w1.alloc (.cells #[.string T] 23)).cell? ⟨w.heap.size, 0, none⟩ = some (.string s) := Lib.cell?_alloc_some _ c1)
        | (go_at_call 9; (with_reducible refine (HT2.out _).mono ?_); rintro e w2 ⟨rfl, hb2⟩; have c2 := dvC (p := ⟨w.heap.size, 0, none⟩) (v := .string s) (by first | (simp [go_sem]; done) | exact Lib.cell?_alloc_some _ (by assumption)) hb2 (by simp <;> omega); have t2 := dvC (p := ⟨w1.heap.size, 0, none⟩) (v := .string T) (by first | (simp [go_sem]; done) | exact Lib.cell?_alloc_some _ (by assumption)) hb2 (by simp <;> omega); have l2 : w1.heap.size < w2.heap.size := Nat.lt_of_lt_of_le (by simp) hb2.size; have bel2 : Below w.heap.size w w2 := Below.trans (by (repeat' (first | with_reducible exact Below.refl _ _ | with_reducible assumption | with_reducible apply below_drewN | with_reducible apply Below.drew | with_reducible apply Below.setCell | with_reducible apply Below.alloc | (simp; done) | omega | (simp; omega)))) (hb2.mono (by simp <;> omega)); clear hb2; have n2 : ¬ w2.heap.size = w.heap.size := (by omega); have m2 : ¬ w.heap.size = w2.heap.size := (by omega); have y2 : (w2.alloc (.cells #[.string T] 23)).cell? ⟨w.heap.size, 0, none⟩ = some (.string s) := Lib.cell?_alloc_some _ c2)
        | (go_at_call 10; (with_reducible refine (HI1.out _).mono ?_); rintro e w3 ⟨rfl, hb3⟩; have c3 := dvC (p := ⟨w.heap.size, 0, none⟩) (v := .string s) (by first | (simp [go_sem]; done) | exact Lib.cell?_alloc_some _ (by assumption)) hb3 (by simp <;> omega); have t3 := dvC (p := ⟨w1.heap.size, 0, none⟩) (v := .string T) (by first | (simp [go_sem]; done) | exact Lib.cell?_alloc_some _ (by assumption)) hb3 (by simp <;> omega); have u3 := dvC (p := ⟨w2.heap.size, 0, none⟩) (v := .string T) (by first | (simp [go_sem]; done) | exact Lib.cell?_alloc_some _ (by assumption)) hb3 (by simp <;> omega); have l3 : w2.heap.size < w3.heap.size := Nat.lt_of_lt_of_le (by simp) hb3.size; have bel3 : Below w.heap.size w w3 := Below.trans (by (repeat' (first | with_reducible exact Below.refl _ _ | with_reducible assumption | with_reducible apply below_drewN | with_reducible apply Below.drew | with_reducible apply Below.setCell | with_reducible apply Below.alloc | (simp; done) | omega | (simp; omega)))) (hb3.mono (by simp <;> omega)); clear hb3; have n3 : ¬ w3.heap.size = w.heap.size := (by omega); have m3 : ¬ w.heap.size = w3.heap.size := (by omega); have y3 : (w3.alloc (.cells #[.string I] 23)).cell? ⟨w.heap.size, 0, none⟩ = some (.string s) := Lib.cell?_alloc_some _ c3)
        | (go_at_call 11; (with_reducible refine (HI2.out _).mono ?_); rintro e w4 ⟨rfl, hb4⟩; have c4 := dvC (p := ⟨w.heap.size, 0, none⟩) (v := .string s) (by first | (simp [go_sem]; done) | exact Lib.cell?_alloc_some _ (by assumption)) hb4 (by simp <;> omega); have t4 := dvC (p := ⟨w1.heap.size, 0, none⟩) (v := .string T) (by first | (simp [go_sem]; done) | exact Lib.cell?_alloc_some _ (by assumption)) hb4 (by simp <;> omega); have u4 := dvC (p := ⟨w2.heap.size, 0, none⟩) (v := .string T) (by first | (simp [go_sem]; done) | exact Lib.cell?_alloc_some _ (by assumption)) hb4 (by simp <;> omega); have v4 := dvC (p := ⟨w3.heap.size, 0, none⟩) (v := .string I) (by first | (simp [go_sem]; done) | exact Lib.cell?_alloc_some _ (by assumption)) hb4 (by simp <;> omega); have l4 : w3.heap.size < w4.heap.size := Nat.lt_of_lt_of_le (by simp) hb4.size; have bel4 : Below w.heap.size w w4 := Below.trans (by (repeat' (first | with_reducible exact Below.refl _ _ | with_reducible assumption | with_reducible apply below_drewN | with_reducible apply Below.drew | with_reducible apply Below.setCell | with_reducible apply Below.alloc | (simp; done) | omega | (simp; omega)))) (hb4.mono (by simp <;> omega)); clear hb4))
    all_goals
      obtain ⟨W, hW⟩ : ∃ W, w4.alloc (.cells #[.string I] 23) = W := ⟨_, rfl⟩
      have s0 : W.cell? ⟨w.heap.size, 0, none⟩ = some (.string s) := by rw [← hW]; exact Lib.cell?_alloc_some _ c4
      have s1 : W.cell? ⟨w1.heap.size, 0, none⟩ = some (.string T) := by rw [← hW]; exact Lib.cell?_alloc_some _ t4
      have s2 : W.cell? ⟨w2.heap.size, 0, none⟩ = some (.string T) := by rw [← hW]; exact Lib.cell?_alloc_some _ u4
      have s3 : W.cell? ⟨w3.heap.size, 0, none⟩ = some (.string I) := by rw [← hW]; exact Lib.cell?_alloc_some _ v4
      have s4 : W.cell? ⟨w4.heap.size, 0, none⟩ = some (.string I) := by rw [← hW]; simp [go_sem]
      have HBW : Hid (Below w.heap.size w W) := by rw [← hW]; exact bel4.alloc (by omega) _
      rw [hW]
      have HP1 := Lib.hid (pending_any s)
      have HP2 := Lib.hid (pending_ref s)
      have HM1 := Lib.hid (cmay_any s)
      have HM2 := Lib.hid (cmay_ref s)
      unfold conV at HP1 HP2 HM1 HM2
      clear hW c1 c2 c3 c4 t2 t3 t4 u3 u4 v4 y1 y2 y3 n1 n2 n3 m1 m2 m3 l1 l2 l3 l4 bel1 bel2 bel3 bel4 HT1 HT2 HI1 HI2
      obtain ⟨g0, hg0⟩ : ∃ g, w.heap.size = g := ⟨_, rfl⟩
      rw [hg0] at s0
      try rw [hg0]
      generalize w1.heap.size = g1 at *
      generalize w2.heap.size = g2 at *
      generalize w3.heap.size = g3 at *
      generalize w4.heap.size = g4 at *
      have bb : Below W.heap.size W W.drew := (Below.refl _ _).drew
    all_goals
      go_region_held3 (fun w' => w'.cell? ⟨g0, 0, none⟩ = some (.string s) ∧ w'.cell? ⟨g1, 0, none⟩ = some (.string T) ∧ w'.cell? ⟨g2, 0, none⟩ = some (.string T) ∧ w'.cell? ⟨g3, 0, none⟩ = some (.string I) ∧ w'.cell? ⟨g4, 0, none⟩ = some (.string I)) (first | exact ⟨stillD s0 bb, stillD s1 bb, stillD s2 bb, stillD s3 bb, stillD s4 bb⟩ | go_keep) (first
        | (go_at_call 12; refine (HP1.out _).mono ?_; rintro e w5 ⟨rfl, hb5⟩; replace bb := below_step bb hb5)
        | (go_at_call 13; refine (HP2.out _).mono ?_; rintro e w5 ⟨rfl, hb5⟩; replace bb := below_step bb hb5)
        | (go_at_call 14; refine (HM1.out _).mono ?_; rintro e w5 ⟨rfl, hb5⟩; replace bb := below_step bb hb5)
        | (go_at_call 15; refine (HM2.out _).mono ?_; rintro e w5 ⟨rfl, hb5⟩; replace bb := below_step bb hb5)
        | (go_at_call 6; refine (HA.out _).mono ?_; rintro e w11 ⟨rfl, hb11⟩; replace bb := below_step bb hb11))
    all_goals
      go_wp2
      go_ret
      exact ⟨rfl, below_step HBW.out bb⟩
  · go_enter Try.func3, Try.ntmps3
    go_wp2_with (go_at_call 6; refine (HA.out _).mono ?_; rintro e w' ⟨rfl, hb1⟩)
    all_goals first | (exfalso; omega) | skip
    go_ret
    exact ⟨rfl, Below.trans (by (repeat' (first | with_reducible exact Below.refl _ _ | with_reducible assumption | with_reducible apply below_drewN | with_reducible apply Below.drew | with_reducible apply Below.setCell | with_reducible apply Below.alloc | (simp; done) | omega | (simp; omega)))) (hb1.mono (by simp <;> omega))⟩
end Go.Proofs.Ytmifhijkfofbcaa
