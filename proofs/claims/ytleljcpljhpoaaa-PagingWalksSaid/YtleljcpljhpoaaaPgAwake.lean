import Derived.Test.YtleljcpljhpoaaaPgMake
import Derived.Test.YtleljcpljhpoaaaPmRow
namespace Go.Proofs.Ytleljcpljhpoaaa
set_option linter.unusedVariables false
set_option linter.unusedSimpArgs false
open Go.ChangeShapes Go.WideShapes Go.ChangeAt Go.RowKit Go.Proofs.Ytleljcpljhpoaaa.Num Go.Proofs.Ytleljcpljhpoaaa.Mem
theorem newr_n (P : Int) (p n : Nat) (w : World) (hP : P = p) (hp : p ≤ 32) (hn : n = 32 * p) : Calls Try.prog 35 #[.int .i64 P] w fun e w' => (∃ A c, e = .returned (.slice A n c) ∧ Mem w' A n c (zs n)) ∧ Below w.heap.size w w' := by
  subst hP
  refine (new_ref p w).mono fun e w' ⟨⟨A, c, l, he, hl, hm, _⟩, hb⟩ => ?_
  have hll : l = zs n := by
    rw [hl, hn]
    by_cases h0 : p = 0
    · subst h0; rfl
    · rw [if_pos ⟨by omega, by omega⟩]; rfl
  have hln : l.length = n := by rw [hll, zs_len]
  rw [hln] at he hm
  rw [hll] at hm
  exact ⟨⟨A, c, he, hm⟩, hb⟩
theorem awake_pg : mpB 64 0 3 1 1 = true ∧ wkA 64 (mpL 64 (zs 64) 0 3 1 1) 0 389 2 = 133 ∧ wkE 64 (mpL 64 (zs 64) 0 3 1 1) 0 389 2 = 12 ∧ wkC 64 (mpL 64 (zs 64) 0 3 1 1) 0 389 2 = 0 ∧ wkA 64 (mpL 64 (zs 64) 0 3 1 1) 0 5 2 = 0 ∧ wkE 64 (mpL 64 (zs 64) 0 3 1 1) 0 5 2 = 0 ∧ wkC 64 (mpL 64 (zs 64) 0 3 1 1) 0 5 2 = 5 := by decide +kernel
theorem field_tr (w : World) (a b c : Int) : (Instr.field 28 (.agg #[.int .u32 a, .int .u32 b, .int .i64 c]) 2).run Try.prog w = .ok (.int .i64 c) w := by kernel_rfl
theorem awake_any (w : World) : Calls Try.prog 17 #[] w fun e w' => e = .returned (.bool true) ∧ Below w.heap.size w w' := by
  obtain ⟨q1, q2, q3, q4, q5, q6, q7⟩ := awake_pg
  have h1 := Lib.hid (fun w => newr_n 2 2 64 w rfl (by omega) rfl)
  have h2 := Lib.hid (fun A c W (hM : Mem W A 64 c (zs 64)) => map_any A 64 c (zs 64) 0 3 1 1 W hM (by omega) (by omega) (by omega) (by omega) (by omega) (by omega) (by omega) (by omega))
  have h3 := Lib.hid (fun A c W (hM : Mem W A 64 c (mpL 64 (zs 64) 0 3 1 1)) => walk_any A 64 c (mpL 64 (zs 64) 0 3 1 1) 0 389 2 W hM (by omega) (by omega) (by omega) (by omega))
  have h4 := Lib.hid (fun A c W (hM : Mem W A 64 c (mpL 64 (zs 64) 0 3 1 1)) => walk_any A 64 c (mpL 64 (zs 64) 0 3 1 1) 0 5 2 W hM (by omega) (by omega) (by omega) (by omega))
  rw [q1] at h2
  rw [q2, q3, q4] at h3
  rw [q5, q6, q7] at h4
  unfold trV at h3 h4
  generalize mpL 64 (zs 64) 0 3 1 1 = l at *
  clear q1 q2 q3 q4 q5 q6 q7
  have hfd := field_tr
  go_enter Try.func17, Try.ntmps17
  go_wp2_with (first
    | (go_at_call 35; refine (h1.out _).mono ?_; rintro e w1 ⟨⟨A1, c1, rfl, hm1⟩, hb1⟩)
    | (go_at_call 18; refine (h2.out _ _ _ hm1).mono ?_; rintro e w2 ⟨⟨A2, c2, rfl, hm2⟩, hb2⟩)
    | (go_at_call 12; first
      | ((with_reducible refine (h3.out _ _ _ hm2).mono ?_); rintro e w3 ⟨rfl, hb3⟩; have hz : w.heap.size ≤ w3.heap.size := (below_step (below_step hb1 hb2) hb3).size)
      | ((with_reducible refine (h4.out _ _ _ (hm2.on ((hb3.alloc (Nat.le_trans hb3.size (Nat.le_refl _)) _)))).mono ?_); rintro e w5 ⟨rfl, hb5⟩)))
  go_ret
  exact ⟨rfl, below_step ((below_step (below_step hb1 hb2) hb3).alloc hz _) hb5⟩
end Go.Proofs.Ytleljcpljhpoaaa
