import Derived.Test.YtkpboooifkhijaaDoorCpMk
import Derived.Test.YtkpboooifkhijaaDoorIsaMk2
import Derived.Deep.RegionHeld3
import Derived.Laws.ResultCell
namespace Go.Proofs.YtkpboooifkhijaaDoor
set_option linter.unusedVariables false
set_option linter.unusedSimpArgs false
open Go.ChangeShapes Go.WideShapes Go.ChangeAt Go.RowKit Go.Proofs.YtkpboooifkhijaaDoor.Num Go.Proofs.YtkpboooifkhijaaDoor.Isa Go.Proofs.YtkpboooifkhijaaDoor.Mem
theorem results_oneI {fn : Func} {p : Tmp} {ty : TypeId} (h : fn.results = #[.cell p ty]) (tmps : Array Value) (P : Program) (w : World) :
    (results fn tmps).run P w = ((asAddr (tmps.getD p undef)).run P w).andThen fun a w₁ => (loadVar ty a).run P w₁ := by
  simp only [results, h]
  simp [Sem.run_bind, Result.andThen]
/-- The cells of an instruction in a block. -/
structure InB (w : World) (b : Nat) (o a x c m : Int) : Prop where
  c0 : w.cell? ⟨b, 0, none⟩ = some (.int .i64 o)
  c1 : w.cell? ⟨b, 1, none⟩ = some (.int .i64 a)
  c2 : w.cell? ⟨b, 2, none⟩ = some (.int .i64 x)
  c3 : w.cell? ⟨b, 3, none⟩ = some (.int .i64 c)
  c4 : w.cell? ⟨b, 4, none⟩ = some (.int .i32 m)
  z0 : w.frozen? ⟨b, 0, none⟩ = false
  z1 : w.frozen? ⟨b, 1, none⟩ = false
  z2 : w.frozen? ⟨b, 2, none⟩ = false
  z3 : w.frozen? ⟨b, 3, none⟩ = false
  z4 : w.frozen? ⟨b, 4, none⟩ = false
theorem ops_at (j : Nat) (hj : j < 50) : (opsL.map (Value.int .i64)).toArray[j]? = some (.int .i64 (opsL.getD j 0)) := by
  have hlt : j < opsL.length := hj
  rw [List.getElem?_toArray, List.getElem?_map, List.getD_eq_getElem?_getD, List.getElem?_eq_getElem hlt]
  rfl
theorem ops_ex (w : World) :
    Calls Tryd.prog 21 #[] w fun e w' => e = .returned (.slice (some ⟨w.heap.size, 0, none⟩) 50 50) ∧ ∃ C : Array Value, (∀ j : Nat, j < 50 → C[j]? = some (.int .i64 (opsL.getD j 0))) ∧ w' = w.alloc (Obj.cells C 3) :=
  (ops_any w).mono fun _ _ ⟨he, hw⟩ => ⟨he, _, ops_at, hw⟩
theorem op_cls (n : Int) : (1 ≤ mO n ∧ mO n ≤ 13) ∨ (40 ≤ mO n ∧ mO n ≤ 45) ∨ mO n = 48 ∨ mO n = 16 ∨ mO n = 23 ∨ (32 ≤ mO n ∧ mO n ≤ 36) ∨ mO n = 49 ∨ mO n = 24 ∨ (17 ≤ mO n ∧ mO n ≤ 22) ∨ mO n = 58 ∨ mO n = 59 ∨ mO n = 60 ∨ mO n = 61 ∨ (56 ≤ mO n ∧ mO n ≤ 57) ∨ (62 ≤ mO n ∧ mO n ≤ 64) := by
  have h := mO_lay n
  rcases kind (mO n) with k | k | k | k | k | k | k | k | k | k | k <;> obtain ⟨k1, k2, k3, k4, k5⟩ := k <;> omega
set_option maxHeartbeats 4000000 in
theorem inst_any (n : Int) (w : World) (h0 : -9223372036854775808 ≤ n) (h1 : n ≤ 9223372036854775807) :
    Calls Tryd.prog 10 #[.int .i64 n] w fun e w' => e = .returned (.agg #[.int .i64 (mO n), .int .i64 (mA n), .int .i64 (mB n), .int .i64 (mC n), .int .i32 (mM n)]) ∧ Below w.heap.size w w' := by
  have hb := mixN_bd n
  go_enter Tryd.func10, Tryd.ntmps10
  go_wp2_with (first
    | (go_at_call 21; refine (ops_ex _).mono ?_; rintro e w1 ⟨rfl, C, hC, rfl⟩; replace hC := Lib.hid hC)
    | (go_at_call 22; refine (mix_anyI n _ h0 h1).mono ?_; rintro e w2 ⟨rfl, m2, rfl⟩))
  obtain ⟨j, hj⟩ : ∃ j : Nat, mixN n % 50 = (j : Int) := ⟨(mixN n % 50).toNat, by omega⟩
  have hj0 : (j : Int) < 50 := by omega
  have ho : C[j]? = some (.int .i64 (mO n)) := by
    rw [hC.out j (by omega)]; unfold mO; rw [hj]; rfl
  generalize hvv : mixN n = v at *
  replace hvv := Lib.hid hvv
  refine (fun (key : Hid ?T) => ?main) ?kp
  case main =>
    go_region_held3 (fun w' => w'.cell? ⟨w.heap.size + 1, j, none⟩ = some (.int .i64 (mO n))) (go_keep) (first | (go_at_call 17; refine (round_anyI _ _ _ (by decide) (by decide) (by omega) (by omega)).mono ?_; rintro e w3 ⟨rfl, m3, rfl⟩; try simp only [hj]))
    all_goals refine (?_ : ∀ W : World, (InB W (w.heap.size + 1 + 1) (mO n) (v / 256 % 6) (v / 4096 % 6) (v / 65536 % 6) 0 ∧ InB W w.heap.size 0 0 0 0 0 ∧ Below w.heap.size w W) → Exit.then _ _ _ _ W) _ ⟨⟨by simp [go_sem], by simp [go_sem], by simp [go_sem], by simp [go_sem], by simp [go_sem], by simp [go_sem], by simp [go_sem], by simp [go_sem], by simp [go_sem], by simp [go_sem]⟩, ⟨by simp [go_sem], by simp [go_sem], by simp [go_sem], by simp [go_sem], by simp [go_sem], by simp [go_sem], by simp [go_sem], by simp [go_sem], by simp [go_sem], by simp [go_sem]⟩, by repeat' (first | with_reducible exact Below.refl _ _ | with_reducible apply below_drewN | with_reducible apply Below.drew | with_reducible apply Below.setCell | with_reducible apply Below.alloc | (simp; done) | (simp; omega))⟩
    all_goals exact key.out
  case kp =>
    show ∀ W : World, _
    intro W ⟨⟨c0, c1, c2, c3, c4, z0, z1, z2, z3, z4⟩, ⟨r0, r1, r2, r3, r4, y0, y1, y2, y3, y4⟩, bel⟩
    have hcls := op_cls n
    obtain ⟨o, hO⟩ : ∃ o, Hid (mO n = o) := ⟨_, rfl⟩
    rw [hO.out] at c0 hcls
    clear ho hj hj0
    rcases hcls with hc | hc | hc | hc | hc | hc | hc | hc | hc | hc | hc | hc | hc | hc | hc
    · have t1 : o ≤ 13 := by omega
      have t2 : o < 40 := by omega
      have t3 : o ≤ 48 := by omega
      have t4 : o < 32 := by omega
      have t5 : o ≤ 36 := by omega
      have t6 : o < 17 := by omega
      have t7 : o ≤ 22 := by omega
      have u48 : (o == 48) = false := by rw [beq_eq_false_iff_ne]; omega
      have u16 : (o == 16) = false := by rw [beq_eq_false_iff_ne]; omega
      have u23 : (o == 23) = false := by rw [beq_eq_false_iff_ne]; omega
      have u49 : (o == 49) = false := by rw [beq_eq_false_iff_ne]; omega
      have u24 : (o == 24) = false := by rw [beq_eq_false_iff_ne]; omega
      have u58 : (o == 58) = false := by rw [beq_eq_false_iff_ne]; omega
      have u59 : (o == 59) = false := by rw [beq_eq_false_iff_ne]; omega
      have u60 : (o == 60) = false := by rw [beq_eq_false_iff_ne]; omega
      have u61 : (o == 61) = false := by rw [beq_eq_false_iff_ne]; omega
      go_wp2_with (go_at_call 17; refine (round_anyI _ _ _ (by decide) (by decide) (by omega) (by omega)).mono ?_; rintro e w3 ⟨rfl, m3, rfl⟩)
      have hg : gA o (v / 256 % 6) = v / 256 % 6 ∧ gB o (v / 4096 % 6) = v / 4096 % 6 ∧ gC o (v / 65536 % 6) = v / 65536 % 6 ∧ gM o (v / 1048576 % 24) (v / 1099511627776 % 2) = 0 := made_a o v hb.1 (by omega)
      refine bodyPost_ret (v := .agg #[.int .i64 o, .int .i64 (v / 256 % 6), .int .i64 (v / 4096 % 6), .int .i64 (v / 65536 % 6), .int .i32 (0)]) ?_ rfl ⟨ret_made hO.out hvv.out hg.1 hg.2.1 hg.2.2.1 hg.2.2.2, ?_⟩
      · rw [results_oneI rfl]; go_simp
      · repeat' (first | with_reducible exact bel | with_reducible apply below_drewN | with_reducible apply Below.drew | with_reducible apply Below.setCell | (simp; done) | (simp; omega))
    · have t1 : 13 < o := by omega
      have t2 : 40 ≤ o := by omega
      have t3 : o ≤ 48 := by omega
      have t4 : 32 ≤ o := by omega
      have t5 : 36 < o := by omega
      have t6 : 17 ≤ o := by omega
      have t7 : 22 < o := by omega
      have u48 : (o == 48) = false := by rw [beq_eq_false_iff_ne]; omega
      have u16 : (o == 16) = false := by rw [beq_eq_false_iff_ne]; omega
      have u23 : (o == 23) = false := by rw [beq_eq_false_iff_ne]; omega
      have u49 : (o == 49) = false := by rw [beq_eq_false_iff_ne]; omega
      have u24 : (o == 24) = false := by rw [beq_eq_false_iff_ne]; omega
      have u58 : (o == 58) = false := by rw [beq_eq_false_iff_ne]; omega
      have u59 : (o == 59) = false := by rw [beq_eq_false_iff_ne]; omega
      have u60 : (o == 60) = false := by rw [beq_eq_false_iff_ne]; omega
      have u61 : (o == 61) = false := by rw [beq_eq_false_iff_ne]; omega
      go_wp2_with (go_at_call 17; refine (round_anyI _ _ _ (by decide) (by decide) (by omega) (by omega)).mono ?_; rintro e w3 ⟨rfl, m3, rfl⟩)
      have hg : gA o (v / 256 % 6) = v / 256 % 6 ∧ gB o (v / 4096 % 6) = v / 4096 % 6 ∧ gC o (v / 65536 % 6) = 0 ∧ gM o (v / 1048576 % 24) (v / 1099511627776 % 2) = (v / 1048576 % 24) - 12 := made_b o v hb.1 (by omega)
      refine bodyPost_ret (v := .agg #[.int .i64 o, .int .i64 (v / 256 % 6), .int .i64 (v / 4096 % 6), .int .i64 (0), .int .i32 ((v / 1048576 % 24) - 12)]) ?_ rfl ⟨ret_made hO.out hvv.out hg.1 hg.2.1 hg.2.2.1 hg.2.2.2, ?_⟩
      · rw [results_oneI rfl]; go_simp
      · repeat' (first | with_reducible exact bel | with_reducible apply below_drewN | with_reducible apply Below.drew | with_reducible apply Below.setCell | (simp; done) | (simp; omega))
    · obtain rfl : o = 48 := hc
      go_wp2_with (go_at_call 17; refine (round_anyI _ _ _ (by decide) (by decide) (by omega) (by omega)).mono ?_; rintro e w3 ⟨rfl, m3, rfl⟩)
      have hg : gA 48 (v / 256 % 6) = v / 256 % 6 ∧ gB 48 (v / 4096 % 6) = 0 ∧ gC 48 (v / 65536 % 6) = 0 ∧ gM 48 (v / 1048576 % 24) (v / 1099511627776 % 2) = (v / 1048576 % 24) - 12 := made_c v hb.1
      refine bodyPost_ret (v := .agg #[.int .i64 48, .int .i64 (v / 256 % 6), .int .i64 (0), .int .i64 (0), .int .i32 ((v / 1048576 % 24) - 12)]) ?_ rfl ⟨ret_made hO.out hvv.out hg.1 hg.2.1 hg.2.2.1 hg.2.2.2, ?_⟩
      · rw [results_oneI rfl]; go_simp
      · repeat' (first | with_reducible exact bel | with_reducible apply below_drewN | with_reducible apply Below.drew | with_reducible apply Below.setCell | (simp; done) | (simp; omega))
    · obtain rfl : o = 16 := hc
      go_wp2_with (go_at_call 17; refine (round_anyI _ _ _ (by decide) (by decide) (by omega) (by omega)).mono ?_; rintro e w3 ⟨rfl, m3, rfl⟩)
      have hg : gA 16 (v / 256 % 6) = v / 256 % 6 ∧ gB 16 (v / 4096 % 6) = v / 4096 % 6 ∧ gC 16 (v / 65536 % 6) = 0 ∧ gM 16 (v / 1048576 % 24) (v / 1099511627776 % 2) = 8 * (v / 1048576 % 24) - 32 := made_d v hb.1
      refine bodyPost_ret (v := .agg #[.int .i64 16, .int .i64 (v / 256 % 6), .int .i64 (v / 4096 % 6), .int .i64 (0), .int .i32 (8 * (v / 1048576 % 24) - 32)]) ?_ rfl ⟨ret_made hO.out hvv.out hg.1 hg.2.1 hg.2.2.1 hg.2.2.2, ?_⟩
      · rw [results_oneI rfl]; go_simp
      · repeat' (first | with_reducible exact bel | with_reducible apply below_drewN | with_reducible apply Below.drew | with_reducible apply Below.setCell | (simp; done) | (simp; omega))
    · obtain rfl : o = 23 := hc
      go_wp2_with (go_at_call 17; refine (round_anyI _ _ _ (by decide) (by decide) (by omega) (by omega)).mono ?_; rintro e w3 ⟨rfl, m3, rfl⟩)
      have hg : gA 23 (v / 256 % 6) = v / 256 % 6 ∧ gB 23 (v / 4096 % 6) = v / 4096 % 6 ∧ gC 23 (v / 65536 % 6) = 0 ∧ gM 23 (v / 1048576 % 24) (v / 1099511627776 % 2) = 8 * (v / 1048576 % 24) - 32 := made_e v hb.1
      refine bodyPost_ret (v := .agg #[.int .i64 23, .int .i64 (v / 256 % 6), .int .i64 (v / 4096 % 6), .int .i64 (0), .int .i32 (8 * (v / 1048576 % 24) - 32)]) ?_ rfl ⟨ret_made hO.out hvv.out hg.1 hg.2.1 hg.2.2.1 hg.2.2.2, ?_⟩
      · rw [results_oneI rfl]; go_simp
      · repeat' (first | with_reducible exact bel | with_reducible apply below_drewN | with_reducible apply Below.drew | with_reducible apply Below.setCell | (simp; done) | (simp; omega))
    · have t1 : 13 < o := by omega
      have t2 : o < 40 := by omega
      have t3 : o ≤ 48 := by omega
      have t4 : 32 ≤ o := by omega
      have t5 : o ≤ 36 := by omega
      have t6 : 17 ≤ o := by omega
      have t7 : 22 < o := by omega
      have u48 : (o == 48) = false := by rw [beq_eq_false_iff_ne]; omega
      have u16 : (o == 16) = false := by rw [beq_eq_false_iff_ne]; omega
      have u23 : (o == 23) = false := by rw [beq_eq_false_iff_ne]; omega
      have u49 : (o == 49) = false := by rw [beq_eq_false_iff_ne]; omega
      have u24 : (o == 24) = false := by rw [beq_eq_false_iff_ne]; omega
      have u58 : (o == 58) = false := by rw [beq_eq_false_iff_ne]; omega
      have u59 : (o == 59) = false := by rw [beq_eq_false_iff_ne]; omega
      have u60 : (o == 60) = false := by rw [beq_eq_false_iff_ne]; omega
      have u61 : (o == 61) = false := by rw [beq_eq_false_iff_ne]; omega
      go_wp2_with (go_at_call 17; refine (round_anyI _ _ _ (by decide) (by decide) (by omega) (by omega)).mono ?_; rintro e w3 ⟨rfl, m3, rfl⟩)
      have hg : gA o (v / 256 % 6) = v / 256 % 6 ∧ gB o (v / 4096 % 6) = v / 4096 % 6 ∧ gC o (v / 65536 % 6) = 0 ∧ gM o (v / 1048576 % 24) (v / 1099511627776 % 2) = 8 * (v / 1048576 % 24) - 32 := made_f o v hb.1 (by omega)
      refine bodyPost_ret (v := .agg #[.int .i64 o, .int .i64 (v / 256 % 6), .int .i64 (v / 4096 % 6), .int .i64 (0), .int .i32 (8 * (v / 1048576 % 24) - 32)]) ?_ rfl ⟨ret_made hO.out hvv.out hg.1 hg.2.1 hg.2.2.1 hg.2.2.2, ?_⟩
      · rw [results_oneI rfl]; go_simp
      · repeat' (first | with_reducible exact bel | with_reducible apply below_drewN | with_reducible apply Below.drew | with_reducible apply Below.setCell | (simp; done) | (simp; omega))
    · obtain rfl : o = 49 := hc
      go_wp2_with (go_at_call 17; refine (round_anyI _ _ _ (by decide) (by decide) (by omega) (by omega)).mono ?_; rintro e w3 ⟨rfl, m3, rfl⟩)
      have hg : gA 49 (v / 256 % 6) = v / 256 % 6 ∧ gB 49 (v / 4096 % 6) = v / 4096 % 6 ∧ gC 49 (v / 65536 % 6) = 0 ∧ gM 49 (v / 1048576 % 24) (v / 1099511627776 % 2) = 8 * (v / 1048576 % 24) - 32 := made_g v hb.1
      refine bodyPost_ret (v := .agg #[.int .i64 49, .int .i64 (v / 256 % 6), .int .i64 (v / 4096 % 6), .int .i64 (0), .int .i32 (8 * (v / 1048576 % 24) - 32)]) ?_ rfl ⟨ret_made hO.out hvv.out hg.1 hg.2.1 hg.2.2.1 hg.2.2.2, ?_⟩
      · rw [results_oneI rfl]; go_simp
      · repeat' (first | with_reducible exact bel | with_reducible apply below_drewN | with_reducible apply Below.drew | with_reducible apply Below.setCell | (simp; done) | (simp; omega))
    · obtain rfl : o = 24 := hc
      go_wp2_with (go_at_call 17; refine (round_anyI _ _ _ (by decide) (by decide) (by omega) (by omega)).mono ?_; rintro e w3 ⟨rfl, m3, rfl⟩)
      have hg : gA 24 (v / 256 % 6) = v / 256 % 6 ∧ gB 24 (v / 4096 % 6) = 0 ∧ gC 24 (v / 65536 % 6) = 0 ∧ gM 24 (v / 1048576 % 24) (v / 1099511627776 % 2) = wrap32 (wrap64 (v / 1048576 % 24 * bits BinOp.and IntKind.i64 (v / 1099511627776) 1)) := made_h v hb.1 hb.2
      refine bodyPost_ret (v := .agg #[.int .i64 24, .int .i64 (v / 256 % 6), .int .i64 (0), .int .i64 (0), .int .i32 (wrap32 (wrap64 (v / 1048576 % 24 * bits BinOp.and IntKind.i64 (v / 1099511627776) 1)))]) ?_ rfl ⟨ret_made hO.out hvv.out hg.1 hg.2.1 hg.2.2.1 hg.2.2.2, ?_⟩
      · rw [results_oneI rfl]; go_simp
      · repeat' (first | with_reducible exact bel | with_reducible apply below_drewN | with_reducible apply Below.drew | with_reducible apply Below.setCell | (simp; done) | (simp; omega))
    · have t1 : 13 < o := by omega
      have t2 : o < 40 := by omega
      have t3 : o ≤ 48 := by omega
      have t4 : o < 32 := by omega
      have t5 : o ≤ 36 := by omega
      have t6 : 17 ≤ o := by omega
      have t7 : o ≤ 22 := by omega
      have u48 : (o == 48) = false := by rw [beq_eq_false_iff_ne]; omega
      have u16 : (o == 16) = false := by rw [beq_eq_false_iff_ne]; omega
      have u23 : (o == 23) = false := by rw [beq_eq_false_iff_ne]; omega
      have u49 : (o == 49) = false := by rw [beq_eq_false_iff_ne]; omega
      have u24 : (o == 24) = false := by rw [beq_eq_false_iff_ne]; omega
      have u58 : (o == 58) = false := by rw [beq_eq_false_iff_ne]; omega
      have u59 : (o == 59) = false := by rw [beq_eq_false_iff_ne]; omega
      have u60 : (o == 60) = false := by rw [beq_eq_false_iff_ne]; omega
      have u61 : (o == 61) = false := by rw [beq_eq_false_iff_ne]; omega
      go_wp2_with (go_at_call 17; refine (round_anyI _ _ _ (by decide) (by decide) (by omega) (by omega)).mono ?_; rintro e w3 ⟨rfl, m3, rfl⟩)
      have hg : gA o (v / 256 % 6) = v / 256 % 6 ∧ gB o (v / 4096 % 6) = v / 4096 % 6 ∧ gC o (v / 65536 % 6) = 0 ∧ gM o (v / 1048576 % 24) (v / 1099511627776 % 2) = (v / 1048576 % 24) := made_i o v hb.1 (by omega)
      refine bodyPost_ret (v := .agg #[.int .i64 o, .int .i64 (v / 256 % 6), .int .i64 (v / 4096 % 6), .int .i64 (0), .int .i32 ((v / 1048576 % 24))]) ?_ rfl ⟨ret_made hO.out hvv.out hg.1 hg.2.1 hg.2.2.1 hg.2.2.2, ?_⟩
      · rw [results_oneI rfl]; go_simp
      · repeat' (first | with_reducible exact bel | with_reducible apply below_drewN | with_reducible apply Below.drew | with_reducible apply Below.setCell | (simp; done) | (simp; omega))
    · obtain rfl : o = 58 := hc
      go_wp2_with (go_at_call 17; refine (round_anyI _ _ _ (by decide) (by decide) (by omega) (by omega)).mono ?_; rintro e w3 ⟨rfl, m3, rfl⟩)
      have hg : gA 58 (v / 256 % 6) = v / 256 % 6 ∧ gB 58 (v / 4096 % 6) = 0 ∧ gC 58 (v / 65536 % 6) = 0 ∧ gM 58 (v / 1048576 % 24) (v / 1099511627776 % 2) = v / 1048576 % 8 := made_j v hb.1
      refine bodyPost_ret (v := .agg #[.int .i64 58, .int .i64 (v / 256 % 6), .int .i64 (0), .int .i64 (0), .int .i32 (v / 1048576 % 8)]) ?_ rfl ⟨ret_made hO.out hvv.out hg.1 hg.2.1 hg.2.2.1 hg.2.2.2, ?_⟩
      · rw [results_oneI rfl]; go_simp
      · repeat' (first | with_reducible exact bel | with_reducible apply below_drewN | with_reducible apply Below.drew | with_reducible apply Below.setCell | (simp; done) | (simp; omega))
    · obtain rfl : o = 59 := hc
      go_wp2_with (go_at_call 17; refine (round_anyI _ _ _ (by decide) (by decide) (by omega) (by omega)).mono ?_; rintro e w3 ⟨rfl, m3, rfl⟩)
      have hg : gA 59 (v / 256 % 6) = v / 256 % 6 ∧ gB 59 (v / 4096 % 6) = 0 ∧ gC 59 (v / 65536 % 6) = 0 ∧ gM 59 (v / 1048576 % 24) (v / 1099511627776 % 2) = v / 1048576 % 8 := made_k v hb.1
      refine bodyPost_ret (v := .agg #[.int .i64 59, .int .i64 (v / 256 % 6), .int .i64 (0), .int .i64 (0), .int .i32 (v / 1048576 % 8)]) ?_ rfl ⟨ret_made hO.out hvv.out hg.1 hg.2.1 hg.2.2.1 hg.2.2.2, ?_⟩
      · rw [results_oneI rfl]; go_simp
      · repeat' (first | with_reducible exact bel | with_reducible apply below_drewN | with_reducible apply Below.drew | with_reducible apply Below.setCell | (simp; done) | (simp; omega))
    · obtain rfl : o = 60 := hc
      go_wp2_with (go_at_call 17; refine (round_anyI _ _ _ (by decide) (by decide) (by omega) (by omega)).mono ?_; rintro e w3 ⟨rfl, m3, rfl⟩)
      have hg : gA 60 (v / 256 % 6) = v / 256 % 6 ∧ gB 60 (v / 4096 % 6) = 0 ∧ gC 60 (v / 65536 % 6) = 0 ∧ gM 60 (v / 1048576 % 24) (v / 1099511627776 % 2) = v / 1048576 % 12 := made_l v hb.1
      refine bodyPost_ret (v := .agg #[.int .i64 60, .int .i64 (v / 256 % 6), .int .i64 (0), .int .i64 (0), .int .i32 (v / 1048576 % 12)]) ?_ rfl ⟨ret_made hO.out hvv.out hg.1 hg.2.1 hg.2.2.1 hg.2.2.2, ?_⟩
      · rw [results_oneI rfl]; go_simp
      · repeat' (first | with_reducible exact bel | with_reducible apply below_drewN | with_reducible apply Below.drew | with_reducible apply Below.setCell | (simp; done) | (simp; omega))
    · obtain rfl : o = 61 := hc
      go_wp2_with (go_at_call 17; refine (round_anyI _ _ _ (by decide) (by decide) (by omega) (by omega)).mono ?_; rintro e w3 ⟨rfl, m3, rfl⟩)
      have hg : gA 61 (v / 256 % 6) = v / 256 % 6 ∧ gB 61 (v / 4096 % 6) = 0 ∧ gC 61 (v / 65536 % 6) = 0 ∧ gM 61 (v / 1048576 % 24) (v / 1099511627776 % 2) = v / 1048576 % 12 := made_m v hb.1
      refine bodyPost_ret (v := .agg #[.int .i64 61, .int .i64 (v / 256 % 6), .int .i64 (0), .int .i64 (0), .int .i32 (v / 1048576 % 12)]) ?_ rfl ⟨ret_made hO.out hvv.out hg.1 hg.2.1 hg.2.2.1 hg.2.2.2, ?_⟩
      · rw [results_oneI rfl]; go_simp
      · repeat' (first | with_reducible exact bel | with_reducible apply below_drewN | with_reducible apply Below.drew | with_reducible apply Below.setCell | (simp; done) | (simp; omega))
    · have t1 : 13 < o := by omega
      have t2 : 40 ≤ o := by omega
      have t3 : 48 < o := by omega
      have t4 : 32 ≤ o := by omega
      have t5 : 36 < o := by omega
      have t6 : 17 ≤ o := by omega
      have t7 : 22 < o := by omega
      have u48 : (o == 48) = false := by rw [beq_eq_false_iff_ne]; omega
      have u16 : (o == 16) = false := by rw [beq_eq_false_iff_ne]; omega
      have u23 : (o == 23) = false := by rw [beq_eq_false_iff_ne]; omega
      have u49 : (o == 49) = false := by rw [beq_eq_false_iff_ne]; omega
      have u24 : (o == 24) = false := by rw [beq_eq_false_iff_ne]; omega
      have u58 : (o == 58) = false := by rw [beq_eq_false_iff_ne]; omega
      have u59 : (o == 59) = false := by rw [beq_eq_false_iff_ne]; omega
      have u60 : (o == 60) = false := by rw [beq_eq_false_iff_ne]; omega
      have u61 : (o == 61) = false := by rw [beq_eq_false_iff_ne]; omega
      go_wp2_with (go_at_call 17; refine (round_anyI _ _ _ (by decide) (by decide) (by omega) (by omega)).mono ?_; rintro e w3 ⟨rfl, m3, rfl⟩)
      have hg : gA o (v / 256 % 6) = 0 ∧ gB o (v / 4096 % 6) = 0 ∧ gC o (v / 65536 % 6) = 0 ∧ gM o (v / 1048576 % 24) (v / 1099511627776 % 2) = 0 := made_n o v hb.1 (by omega)
      refine bodyPost_ret (v := .agg #[.int .i64 o, .int .i64 (0), .int .i64 (0), .int .i64 (0), .int .i32 (0)]) ?_ rfl ⟨ret_made hO.out hvv.out hg.1 hg.2.1 hg.2.2.1 hg.2.2.2, ?_⟩
      · rw [results_oneI rfl]; go_simp
      · repeat' (first | with_reducible exact bel | with_reducible apply below_drewN | with_reducible apply Below.drew | with_reducible apply Below.setCell | (simp; done) | (simp; omega))
    · have t1 : 13 < o := by omega
      have t2 : 40 ≤ o := by omega
      have t3 : 48 < o := by omega
      have t4 : 32 ≤ o := by omega
      have t5 : 36 < o := by omega
      have t6 : 17 ≤ o := by omega
      have t7 : 22 < o := by omega
      have u48 : (o == 48) = false := by rw [beq_eq_false_iff_ne]; omega
      have u16 : (o == 16) = false := by rw [beq_eq_false_iff_ne]; omega
      have u23 : (o == 23) = false := by rw [beq_eq_false_iff_ne]; omega
      have u49 : (o == 49) = false := by rw [beq_eq_false_iff_ne]; omega
      have u24 : (o == 24) = false := by rw [beq_eq_false_iff_ne]; omega
      have u58 : (o == 58) = false := by rw [beq_eq_false_iff_ne]; omega
      have u59 : (o == 59) = false := by rw [beq_eq_false_iff_ne]; omega
      have u60 : (o == 60) = false := by rw [beq_eq_false_iff_ne]; omega
      have u61 : (o == 61) = false := by rw [beq_eq_false_iff_ne]; omega
      go_wp2_with (go_at_call 17; refine (round_anyI _ _ _ (by decide) (by decide) (by omega) (by omega)).mono ?_; rintro e w3 ⟨rfl, m3, rfl⟩)
      have hg : gA o (v / 256 % 6) = 0 ∧ gB o (v / 4096 % 6) = 0 ∧ gC o (v / 65536 % 6) = 0 ∧ gM o (v / 1048576 % 24) (v / 1099511627776 % 2) = 0 := made_o o v hb.1 (by omega)
      refine bodyPost_ret (v := .agg #[.int .i64 o, .int .i64 (0), .int .i64 (0), .int .i64 (0), .int .i32 (0)]) ?_ rfl ⟨ret_made hO.out hvv.out hg.1 hg.2.1 hg.2.2.1 hg.2.2.2, ?_⟩
      · rw [results_oneI rfl]; go_simp
      · repeat' (first | with_reducible exact bel | with_reducible apply below_drewN | with_reducible apply Below.drew | with_reducible apply Below.setCell | (simp; done) | (simp; omega))
end Go.Proofs.YtkpboooifkhijaaDoor
