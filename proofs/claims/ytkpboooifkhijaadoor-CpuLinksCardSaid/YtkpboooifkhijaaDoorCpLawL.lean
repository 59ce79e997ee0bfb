import Derived.Test.YtkpboooifkhijaaDoorCpGb
import Derived.Test.YtkpboooifkhijaaDoorCpSt2
import Derived.Test.YtkpboooifkhijaaDoorPmRow
import Derived.Test.YtkpboooifkhijaaDoorCpLawP
namespace Go.Proofs.YtkpboooifkhijaaDoor
set_option linter.unusedVariables false
set_option linter.unusedSimpArgs false
set_option maxRecDepth 20000
open Go.ChangeShapes Go.WideShapes Go.ChangeAt Go.RowKit Go.Proofs.YtkpboooifkhijaaDoor.Num Go.Proofs.YtkpboooifkhijaaDoor.Mem Go.Proofs.YtkpboooifkhijaaDoor.Isa
theorem jal_ok {m : Int} (h0 : -32768 ≤ m) (h1 : m ≤ 32767) : Ok 48 15 0 0 m := by
  have e : lay 48 = 4 ∨ lay 48 = 5 ∨ lay 48 = 3 ∨ lay 48 = 2 := by decide
  have e1 : lay 48 ≠ 0 ∧ lo 48 = -32768 ∧ hi 48 = 32767 ∧ lay 48 ≠ 5 := by decide
  refine ⟨e1.1, by omega, by omega, by omega, by omega, by omega, by omega, by rw [e1.2.1]; exact h0, by rw [e1.2.2.1]; exact h1, .inr rfl, fun h => absurd h e1.2.2.2, .inr (.inr (.inr rfl))⟩
theorem nat_ofC {x : Int} (h : 0 ≤ x) : ∃ t : Nat, x = t := ⟨x.toNat, by omega⟩
/-- What the two jumps leave. -/
theorem links_pure {L : List Int} {P : Int} (hP : Placed L P) (P0 : 0 ≤ P) (P1 : P < 512) (T : Int) (T0 : 0 ≤ T) (T1 : T ≤ 4294967295) :
    ∃ R : List Int, (setL (advL L) 15 ((wd L 16 + 4) % 4294967296)).set 16 T = R ∧ C25 R ∧ wd R 16 = T ∧ wd R 15 = P + 4 ∧ pgB R = false ∧
      ∃ R2 : List Int, (setL (advL R) 0 ((wd R 16 + 4) % 4294967296)).set 16 ((wd R 15 + 0) % 4294967296) = R2 ∧ R2.length = 25 ∧ wd R2 16 = P + 4 ∧ ∀ i, i < 16 → wd R2 i = wd R i := by
  have hl := hP.1.1
  have h16 := hP.2.2.1
  have h17 := hP.2.2.2.1
  have hA := hP.1.adv
  have hR : C25 ((setL (advL L) 15 ((wd L 16 + 4) % 4294967296)).set 16 T) := (hA.setL 15 (by omega) (by omega)).set 16 T0 T1
  refine ⟨_, rfl, hR, ?_, ?_, ?_, ?_⟩
  · rw [wd_sets _ _ _ _ (hA.setL 15 (by omega) (by omega)).1 (by omega), if_pos rfl]
  · rw [wd_sets _ _ _ _ (hA.setL 15 (by omega) (by omega)).1 (by omega), if_neg (by omega)]
    unfold setL
    rw [if_neg (by omega), show (15 : Int).toNat = 15 from rfl, wd_sets _ _ _ _ hA.1 (by omega), if_pos rfl, h16]
    omega
  · have e17 : wd ((setL (advL L) 15 ((wd L 16 + 4) % 4294967296)).set 16 T) 17 = 1 := by
      rw [wd_sets _ _ _ _ (hA.setL 15 (by omega) (by omega)).1 (by omega), if_neg (by omega)]
      unfold setL
      rw [if_neg (by omega), show (15 : Int).toNat = 15 from rfl, wd_sets _ _ _ _ hA.1 (by omega), if_neg (by omega)]
      unfold advL
      rw [wd_sets _ _ _ _ hl (by omega), if_neg (by omega), h17]
    unfold pgB
    rw [e17]; rfl
  · have e15 : wd ((setL (advL L) 15 ((wd L 16 + 4) % 4294967296)).set 16 T) 15 = P + 4 := by
      rw [wd_sets _ _ _ _ (hA.setL 15 (by omega) (by omega)).1 (by omega), if_neg (by omega)]
      unfold setL
      rw [if_neg (by omega), show (15 : Int).toNat = 15 from rfl, wd_sets _ _ _ _ hA.1 (by omega), if_pos rfl, h16]
      omega
    generalize (setL (advL L) 15 ((wd L 16 + 4) % 4294967296)).set 16 T = R at *
    have hRA := hR.adv
    refine ⟨_, rfl, ?_, ?_, ?_⟩
    · rw [List.length_set]; unfold setL; rw [if_pos rfl]; exact hRA.1
    · unfold setL; rw [if_pos rfl, wd_sets _ _ _ _ hRA.1 (by omega), if_pos rfl, e15]; omega
    · intro i hi
      unfold setL advL
      rw [if_pos rfl, wd_sets _ _ _ _ (by rw [List.length_set]; exact hR.1) (by omega), if_neg (by omega), wd_sets _ _ _ _ hR.1 (by omega), if_neg (by omega)]
/- A jump, and the jump back. -/
set_option maxHeartbeats 4000000 in
theorem links_walk (A : Option Addr) (n c : Nat) (z : Nat → Int) (k p : Int) (w : World) (hn : n ≤ 9223372036854775807) (hz : Ints w A n z) (k0 : -9223372036854775808 ≤ k) (k1 : k ≤ 9223372036854775807) (p0 : 0 ≤ p) (p1 : p ≤ 4294967295) :
    Calls Tryd.prog 8 #[.slice A n c, .int .i64 k, .int .u32 p] w fun e w' => e = .returned (.bool true) ∧ Below w.heap.size w w' := by
  have HRD := Lib.hid (fun W => round_any k 100 W (by omega) (by omega) k0 k1)
  obtain ⟨r, hr⟩ : ∃ r, k % 100 = r := ⟨_, rfl⟩
  have r0 : 0 ≤ r := by omega
  have r1 : r < 100 := by omega
  rw [hr] at HRD
  obtain ⟨q, hq⟩ : ∃ q, p % 64 = q := ⟨_, rfl⟩
  have q0 : 0 ≤ q := by omega
  have q1 : q < 64 := by omega
  obtain ⟨P, hP⟩ : ∃ P, 256 + q * 4 = P := ⟨_, rfl⟩
  obtain ⟨K, hK⟩ : ∃ K, r - 50 = K := ⟨_, rfl⟩
  have P0 : 256 ≤ P := by omega
  have P1 : P < 512 := by omega
  have P4 : P % 4 = 0 := by omega
  have K0 : -50 ≤ K := by omega
  have K1 : K < 50 := by omega
  obtain ⟨T, hT⟩ : ∃ T, (P + 4 * (K % 4294967296)) % 4294967296 = T := ⟨_, rfl⟩
  have T0 : 0 ≤ T := by omega
  have T1 : T < 4294967296 := by omega
  have T4 : T % 4 = 0 := by omega
  obtain ⟨t, ht⟩ : ∃ t : Nat, T / 4 = t := nat_ofC (by omega)
  have hTK := Lib.hid (show (P + 4 * K) % 4294967296 = T by omega)
  have HAW := Lib.hid (fun W => awake6 W)
  have HZ := Lib.hid hz
  clear hz hr
  obtain ⟨X, X0, X1, Xd, Xo, Xa, Xb, Xc, Xm, hX⟩ := word_facts (show Ok 48 15 0 0 K from jal_ok (by omega) (by omega))
  obtain ⟨Y, Y0, Y1, Yd, Yo, Ya, Yb, Yc, Ym, hY⟩ := word_facts (show Ok 49 0 15 0 0 by decide)
  have HX := Lib.hid hX
  have HY := Lib.hid hY
  have HPL := Lib.hid (fun W (hZ : Ints W A n z) => placed_any A n c z P X W hn hZ (by omega) P1 X0 X1)
  clear hX hY
  obtain ⟨F1, F2, F3, -⟩ := cw_facts
  by_cases hto : T < 512 ∧ ¬ T = P
  · obtain ⟨ht1, ht2⟩ := hto
    have t128 : t < 128 := by omega
    have t128' : (t : Int) < 128 := by omega
    have ht3 : (T == P) = false := by rw [beq_eq_false_iff_ne]; exact ht2
    go_enter Tryd.func8, Tryd.ntmps8
    go_wp2_with (first
      | (go_at_call 17; (with_reducible refine (HRD.out _).mono ?_); rintro e w1 ⟨rfl, rfl⟩)
      | (go_at_call 9; (with_reducible refine (HX.out _).mono ?_); rintro e w2 ⟨rfl, hb2⟩)
      | (go_at_call 9; (with_reducible refine (HY.out _).mono ?_); rintro e w3 ⟨rfl, hb3⟩; have b3 := below_step hb2 hb3; clear hb2 hb3)
      | (go_at_call 11; (with_reducible refine (HPL.out _ (HZ.out.on b3)).mono ?_); rintro e w4 ⟨⟨L, g, c4, l, rfl, hc4, hPl, hl, hu, hwd, ho, hg⟩, hb4⟩; have hL := hPl.1.1; have hgl := ho.lt; have ng : ¬ g = w4.heap.size := (by omega); have ng' : ¬ w4.heap.size = g := (by omega); have hct := ho.cell (i := t) (by omega); have hft := ho.free t)
      | (refine wpList_alloc_box rfl rfl ?_; simp only [Act.put, List.setIfInBounds_toArray, List.set_cons_zero, List.set_cons_succ])
      | (refine wpList_store_look rfl _ _ rfl _ rfl rfl (by (first | with_reducible assumption | (simp only [List.length_set]; with_reducible assumption) | exact Z25_len)) (fun ob hob => by (simp [look_alloc, look_setRow, look_drew, look_drewN, look_setCell, Nat.add_assoc] at hob; subst hob; exact ⟨_, rfl, by (first | with_reducible assumption | (simp only [List.length_set]; with_reducible assumption) | exact Z25_len)⟩)) (fun w2 hw2 => ?_); simp [row_alloc_same, row_alloc_old] at hw2; subst hw2; simp only [Act.put, List.setIfInBounds_toArray, List.set_cons_zero, List.set_cons_succ])
      | (refine wpList_load_look rfl _ rfl _ rfl (fun ob hob => ?_); simp [look_alloc, look_setRow, look_drew, look_drewN, look_setCell, Nat.add_assoc, ng, ng'] at hob; subst hob; refine ⟨_, rfl, by (first | with_reducible assumption | (simp only [List.length_set]; with_reducible assumption) | exact Z25_len), ?_⟩; simp only [Act.put, List.setIfInBounds_toArray, List.set_cons_zero, List.set_cons_succ]))
    obtain ⟨hk, hpg⟩ := kern_facts hPl
    have hO : Own ((w4.setCell ⟨g, t, none⟩ (.int .u32 Y)).alloc (.cells (cw L).toArray 32)) g (l.set t Y) := (ho.set (by omega) Y).on (by (repeat' (first | with_reducible exact Below.refl _ _ | with_reducible assumption | with_reducible apply below_drewN | with_reducible apply Below.drew | with_reducible apply Below.setCell | with_reducible apply Below.alloc | (simp; done) | omega | (simp; omega))))
    have hl2 : (l.set t Y).length = 128 := by rw [List.length_set]; exact hl
    have hu2 : U32 (l.set t Y) := hu.set t Y0 Y1
    have hM5 := hO.mem hl2 hc4 (by omega) hu2
    have hB4 := below_step b3 hb4
    have hB5 : Below w.heap.size w ((w4.setCell ⟨g, t, none⟩ (.int .u32 Y)).alloc (.cells (cw L).toArray 32)) := (hB4.setCell (by have := b3.size; simp; omega) _).alloc (by have := hB4.size; simp; omega) _
    have eX : wd (l.set t Y) (P / 4).toNat = X := by rw [wd_set _ _ _ _ (by omega), if_neg (by omega)]; exact hwd
    have eY : wd (l.set t Y) (T / 4).toNat = Y := by rw [ht, Int.toNat_natCast, wd_set _ _ _ _ (by omega), if_pos rfl]
    obtain ⟨R, hR, hRC, r16, r15, rpg, R2, hR2, hR2l, q16, qX⟩ := links_pure hPl (by omega) P1 T T0 (by omega)
    have e16 := hPl.2.2.1
    have HE1 := (fun W (hM : Mem W (some ⟨g, 0, none⟩) 128 c4 (l.set t Y)) => exec_np L (some ⟨g, 0, none⟩) 128 c4 (l.set t Y) 48 15 0 0 K X 15 W hPl.1 hM hpg (by rw [e16]; exact P4) (by rw [e16]; exact ok128 (by omega) P1 P4) (by rw [e16]; exact eX) X0 X1 Xd Xo Xa Xb Xc Xm rfl (by omega) (by omega) (by omega) (by omega) (by omega) R hRC.1 (fun W => by rw [← hR, ← hTK.out, ← e16]; exact step_jal L 15 0 0 K 15 W hPl.1 rfl (by omega) (by omega) (by omega)))
    have HE2 := (fun W (hM : Mem W (some ⟨g, 0, none⟩) 128 c4 (l.set t Y)) => exec_np R (some ⟨g, 0, none⟩) 128 c4 (l.set t Y) 49 0 15 0 0 Y 0 W hRC hM rpg (by rw [r16]; exact T4) (by rw [r16]; exact ok128 T0 ht1 T4) (by rw [r16]; exact eY) Y0 Y1 Yd Yo Ya Yb Yc Ym rfl (by omega) (by omega) (by omega) (by omega) (by omega) R2 hR2l (fun W => by rw [← hR2]; exact step_jalr R 0 15 0 0 0 15 W hRC rfl (by omega) rfl (by omega) (by omega) (by omega)))
    rw [show efV (efK 48) (efP 48 K) (efR 48 15) (efU L 48 15) = .agg #[.int .i64 0, .int .i64 0, .int .i64 0, .int .u32 0] from rfl] at HE1
    rw [show efV (efK 49) (efP 49 0) (efR 49 0) (efU R 49 0) = .agg #[.int .i64 0, .int .i64 0, .int .i64 0, .int .u32 0] from rfl] at HE2
    replace HE1 := Lib.hid HE1
    replace HE2 := Lib.hid HE2
    have hRl := hRC.1
    clear hR hR2 e16 ho hct hft hPl hl hu hl2 hu2 eX eY hwd hpg hk
    generalize World.alloc (World.setCell w4 _ _) _ = W5 at *
    refine (HE1.out _ hM5).mono ?_
    rintro e w6 ⟨⟨S6, c6, rfl, hm6, hf6⟩, hb6⟩
    have hM6 := hM5.on hb6
    have bel := below_step hB5 hb6
    clear hm6 hf6 hb6 hB4 hB5 hO hM5 hb4 b3
    go_wp2_with (first
      | (refine wpList_alloc_box rfl rfl ?_; simp only [Act.put, List.setIfInBounds_toArray, List.set_cons_zero, List.set_cons_succ])
      | (refine wpList_store_look rfl _ _ rfl _ rfl rfl (by (first | with_reducible assumption | (simp only [List.length_set]; with_reducible assumption) | exact Z25_len)) (fun ob hob => by (simp [look_alloc, look_setRow, look_drew, look_drewN, look_setCell, Nat.add_assoc] at hob; subst hob; exact ⟨_, rfl, by (first | with_reducible assumption | (simp only [List.length_set]; with_reducible assumption) | exact Z25_len)⟩)) (fun w2 hw2 => ?_); simp [row_alloc_same, row_alloc_old] at hw2; subst hw2; simp only [Act.put, List.setIfInBounds_toArray, List.set_cons_zero, List.set_cons_succ])
      | (refine wpList_load_look rfl _ rfl _ rfl (fun ob hob => ?_); simp [look_alloc, look_setRow, look_drew, look_drewN, look_setCell, Nat.add_assoc] at hob; subst hob; refine ⟨_, rfl, hRl, ?_⟩; simp only [Act.put, List.setIfInBounds_toArray, List.set_cons_zero, List.set_cons_succ]))
    have X3 : lk ((w6.alloc (.cells (cw R).toArray 32)).alloc (.cells #[.int .i64 0, .int .i64 0, .int .i64 0, .int .u32 0] 37)) w6.heap.size = some (.cells (cw R).toArray 32 (0, 0)) := by simp [look_alloc]
    have hB7 : Below w.heap.size w ((w6.alloc (.cells (cw R).toArray 32)).alloc (.cells #[.int .i64 0, .int .i64 0, .int .i64 0, .int .u32 0] 37)) := (bel.alloc bel.size _).alloc (by have := bel.size; simp; omega) _
    refine (HE2.out _ (hM6.on (by (repeat' (first | with_reducible exact Below.refl _ _ | with_reducible assumption | with_reducible apply below_drewN | with_reducible apply Below.drew | with_reducible apply Below.setCell | with_reducible apply Below.alloc | (simp; done) | omega | (simp; omega)))))).mono ?_
    rintro e w8 ⟨⟨S8, c8, rfl, hm8, hf8⟩, hb8⟩
    replace X3 := look_on X3 hb8 (by simp <;> omega)
    replace bel := below_step hB7 hb8
    have hs8 : w6.heap.size < w8.heap.size := Nat.lt_of_lt_of_le (by simp <;> omega) hb8.size
    have C3 : ∀ k : Nat, k < 25 → w8.cell? ⟨w6.heap.size, k, none⟩ = some (.int .u32 (wd R k)) := fun k hk => (cell_lk X3 k).trans (by simpa using cw_at hRl hk)
    clear hb8 hB7 hm8 hf8 hM6 HE1 HE2
    have N0 : ¬ w6.heap.size = w8.heap.size := by omega
    have N1 : ¬ w8.heap.size = w6.heap.size := by omega
    have EQ := fun w => eq_lit16 R w
    simp only [r15] at EQ
    go_wp2_with (first
      | (refine wpList_alloc_box rfl rfl ?_; simp only [Act.put, List.setIfInBounds_toArray, List.set_cons_zero, List.set_cons_succ])
      | (refine wpList_store_look rfl _ _ rfl _ rfl rfl (by (first | with_reducible assumption | (simp only [List.length_set]; with_reducible assumption) | exact Z25_len)) (fun ob hob => by (simp [look_alloc, look_setRow, look_drew, look_drewN, look_setCell, Nat.add_assoc] at hob; subst hob; exact ⟨_, rfl, by (first | with_reducible assumption | (simp only [List.length_set]; with_reducible assumption) | exact Z25_len)⟩)) (fun w2 hw2 => ?_); simp [row_alloc_same, row_alloc_old] at hw2; subst hw2; simp only [Act.put, List.setIfInBounds_toArray, List.set_cons_zero, List.set_cons_succ])
      | (go_at_call 15; refine (HAW.out _).mono ?_; rintro e w9 ⟨rfl, hb9⟩))
    go_ret
    exact ⟨rfl, below_step (below_step bel (by (repeat' (first | with_reducible exact Below.refl _ _ | with_reducible assumption | with_reducible apply below_drewN | with_reducible apply Below.drew | with_reducible apply Below.setCell | with_reducible apply Below.alloc | (simp; done) | omega | (simp; omega))))) hb9⟩
  · by_cases hTP : T = P
    · have ht3 : (T == P) = true := by rw [beq_iff_eq]; exact hTP
      clear hTP
      go_enter Tryd.func8, Tryd.ntmps8
      go_wp2_with (first
        | (go_at_call 17; (with_reducible refine (HRD.out _).mono ?_); rintro e w1 ⟨rfl, rfl⟩)
        | (go_at_call 15; refine (HAW.out _).mono ?_; rintro e w9 ⟨rfl, hb9⟩))
      all_goals first | (exfalso; omega) | skip
      all_goals go_ret
      all_goals exact ⟨rfl, hb9⟩
    · have ht3 : (T == P) = false := by rw [beq_eq_false_iff_ne]; exact hTP
      have h512 : 512 ≤ T := by omega
      go_enter Tryd.func8, Tryd.ntmps8
      go_wp2_with (first
        | (go_at_call 17; (with_reducible refine (HRD.out _).mono ?_); rintro e w1 ⟨rfl, rfl⟩)
        | (go_at_call 15; refine (HAW.out _).mono ?_; rintro e w9 ⟨rfl, hb9⟩))
      all_goals first | (exfalso; omega) | skip
      all_goals go_ret
      all_goals exact ⟨rfl, hb9⟩
theorem links_row (a0 : Option Addr) (len0 cap0 : Nat) (z0 : List Int) (k p : Int) (w : World) (w0 : IsRowI w a0 len0 cap0 z0) (w1 : (Lit.int .i64 k).wf = true) (w2 : (Lit.int .u32 p).wf = true) :
    Calls Tryd.prog 8 #[.slice a0 len0 cap0, .int .i64 k, .int .u32 p] w fun e w' => e = .returned (.bool true) ∧ Below w.heap.size w w' :=
  links_walk a0 len0 cap0 _ k p w (row_intsC w0).2 (row_intsC w0).1 (wf_i64 w1).1 (wf_i64 w1).2 (wf_u32 w2).1 (wf_u32 w2).2
end Go.Proofs.YtkpboooifkhijaaDoor
