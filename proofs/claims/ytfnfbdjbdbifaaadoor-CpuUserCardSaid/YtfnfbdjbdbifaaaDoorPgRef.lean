import Derived.Test.YtfnfbdjbdbifaaaDoorPgWalk
namespace Go.Proofs.YtfnfbdjbdbifaaaDoor
set_option linter.unusedVariables false
set_option linter.unusedSimpArgs false
open Go.ChangeShapes Go.WideShapes Go.ChangeAt Go.RowKit Go.Proofs.YtfnfbdjbdbifaaaDoor.Num Go.Proofs.YtfnfbdjbdbifaaaDoor.Mem
theorem known_yes (a : Int) (w : World) (h : a = 1 ∨ a = 2 ∨ a = 3) :
    Calls Tryd.prog 77 #[.int .i64 a] w fun e w' => e = .returned (.bool true) ∧ w' = w :=
  (known_any a w).mono fun e w' ⟨he, hw⟩ => ⟨by rw [he, decide_eq_true h], hw⟩
theorem known_no (a : Int) (w : World) (h : ¬ (a = 1 ∨ a = 2 ∨ a = 3)) :
    Calls Tryd.prog 77 #[.int .i64 a] w fun e w' => e = .returned (.bool false) ∧ w' = w :=
  (known_any a w).mono fun e w' ⟨he, hw⟩ => ⟨by rw [he, decide_eq_false h], hw⟩
set_option maxHeartbeats 1000000 in
theorem walkr_unk (A : Option Addr) (n c : Nat) (l : List Int) (root va a : Int) (w : World) (h : ¬ (a = 1 ∨ a = 2 ∨ a = 3)) (hn : n ≤ 1024) :
    Calls Tryd.prog 81 #[.slice A n c, .int .u32 root, .int .u32 va, .int .i64 a] w fun e w' => e = .returned (trV (wkA n l root va a) (wkE n l root va a) (wkC n l root va a)) ∧ Below w.heap.size w w' := by
  have HD := Lib.hid (fun W => known_no a W h)
  have HW := Lib.hid (wkB_false_a (n := n) (l := l) (root := root) (va := va) h)
  have hp := pagesN_le n
  clear h
  go_enter Tryd.func81, Tryd.ntmps81
  go_wp2_with (first
    | (go_at_call 80; refine (cause_any _ _).mono ?_; rintro e w1 ⟨rfl, rfl⟩)
    | (go_at_call 94; refine (pages_ref _ _ _ _ (by omega)).mono ?_; rintro e w2 ⟨rfl, m2, rfl⟩)
    | (go_at_call 77; refine (HD.out _).mono ?_; rintro e w1 ⟨rfl, rfl⟩))
  refine bodyPost_ret (v := .agg #[.int .u32 0, .int .u32 0, .int .i64 (cauN a)]) ?_ rfl ⟨wk_false HW.out rfl, ?_⟩
  · rw [results_one rfl]; go_simp
  · repeat' (first | with_reducible exact Below.refl _ _ | with_reducible apply below_drewN | with_reducible apply Below.drew | with_reducible apply Below.setCell | with_reducible apply Below.alloc | (simp; done) | (simp; omega))
set_option maxHeartbeats 1000000 in
theorem walkr_far (A : Option Addr) (n c : Nat) (l : List Int) (root va a : Int) (w : World) (h : a = 1 ∨ a = 2 ∨ a = 3) (hn : n ≤ 1024) (hf : ¬ va < 4096 ∨ ¬ root < pagesN n) :
    Calls Tryd.prog 81 #[.slice A n c, .int .u32 root, .int .u32 va, .int .i64 a] w fun e w' => e = .returned (trV (wkA n l root va a) (wkE n l root va a) (wkC n l root va a)) ∧ Below w.heap.size w w' := by
  have HD := Lib.hid (fun W => known_yes a W h)
  have HW : Hid (wkB n l root va a = false) := by
    rcases hf with h | h
    · exact wk_no1 h
    · exact wk_no2 h
  have hp := pagesN_le n
  clear h
  rcases hf with hf | hf
  all_goals
    go_enter Tryd.func81, Tryd.ntmps81
    go_wp2_with (first
      | (go_at_call 80; refine (cause_any _ _).mono ?_; rintro e w1 ⟨rfl, rfl⟩)
      | (go_at_call 94; refine (pages_ref _ _ _ _ (by omega)).mono ?_; rintro e w2 ⟨rfl, m2, rfl⟩)
      | (go_at_call 77; refine (HD.out _).mono ?_; rintro e w1 ⟨rfl, rfl⟩))
  all_goals
    refine bodyPost_ret (v := .agg #[.int .u32 0, .int .u32 0, .int .i64 (cauN a)]) ?_ rfl ⟨wk_false HW.out rfl, ?_⟩
    · rw [results_one rfl]; go_simp
    · repeat' (first | with_reducible exact Below.refl _ _ | with_reducible apply below_drewN | with_reducible apply Below.drew | with_reducible apply Below.setCell | with_reducible apply Below.alloc | (simp; done) | (simp; omega))
theorem wk_is {n : Nat} {l : List Int} {root va a x : Int} (ha : a = 1 ∨ a = 2 ∨ a = 3) (hv : va < 4096) (hr : root < pagesN n) (hx : pteW l root va = x) : wkB n l root va a = (mayB x a && decide (frW x < pagesN n)) := by
  rw [Bool.eq_iff_iff]
  unfold wkB
  rw [hx]
  simp [ha, hv, hr]
set_option maxHeartbeats 2000000 in
theorem walkr_near (A : Option Addr) (n c : Nat) (l : List Int) (r p : Nat) (va a : Int) (w : World) (ha : a = 1 ∨ a = 2 ∨ a = 3) (hm : Mem w A n c l) (hr : r < pagesN n) (v0 : 0 ≤ va) (v1 : va < 4096) (hva : va / 128 = p) :
    Calls Tryd.prog 81 #[.slice A n c, .int .u32 r, .int .u32 va, .int .i64 a] w fun e w' => e = .returned (trV (wkA n l r va a) (wkE n l r va a) (wkC n l r va a)) ∧ Below w.heap.size w w' := by
  have hp := pagesN_le n
  have hn := hm.2.2.1
  have HD := Lib.hid (fun W => known_yes a W ha)
  have HK := Lib.hid (fun W => cause_any a W)
  obtain ⟨b, off, rfl, hcell, x0, x1⟩ := hm.at_ (k := 32 * r + p) (by omega)
  have hdv : ((r : Int) * 128 + 4 * (p : Int)) / 4 = ((32 * r + p : Nat) : Int) := by omega
  have hx : pteW l r va = wd l (32 * r + p) := by
    unfold pteW; congr 1; omega
  have HW : Hid (∀ x, wd l (32 * r + p) = x → wkB n l r va a = (mayB x a && decide (frW x < pagesN n))) := fun x h => wk_is ha v1 (by omega) (by rw [hx, h])
  have HE : Hid (∀ x, wd l (32 * r + p) = x → ∀ y z, wkB n l r va a = true → y = frW x * 128 + va % 128 → z = (r : Int) * 128 + 4 * p → Ending.returned (.agg #[.int .u32 y, .int .u32 z, .int .i64 0]) = .returned (trV (wkA n l r va a) (wkE n l r va a) (wkC n l r va a))) := fun x h y z h1 h2 h3 => wk_true h1 (by rw [hx, h]; exact h2) (by rw [hva]; omega)
  generalize hxx : wd l (32 * r + p) = x at *
  replace HW := Lib.hid (HW.out x rfl)
  replace HE := Lib.hid (HE.out x rfl)
  have HM := Lib.hid hm
  clear hm hx hxx
  have q1 := and_1 x x0 x1
  have q2 := and_2 x x0 x1
  have q4 := and_4 x x0 x1
  have q8 : bits .and .u32 (x / 256) 255 = frW x := (and_ff (x / 256) (by omega) (by omega)).trans rfl
  have hfr : 0 ≤ frW x ∧ frW x ≤ 255 := by unfold frW; omega
  have HMB : Hid (mayB x a = decide (x % 2 = 1 ∧ (a = 3 → x / 2 % 2 = 1) ∧ (a = 1 → x / 4 % 2 = 1))) := rfl
  obtain ⟨y1, hy1⟩ : ∃ y1, y1 = x % 2 := ⟨_, rfl⟩
  obtain ⟨y2, hy2⟩ : ∃ y2, y2 = x / 2 % 2 := ⟨_, rfl⟩
  obtain ⟨y4, hy4⟩ : ∃ y4, y4 = x / 4 % 2 := ⟨_, rfl⟩
  rw [← hy1] at q1 HMB
  rw [← hy2] at q2 HMB
  rw [← hy4] at q4 HMB
  have b1 : 0 ≤ y1 ∧ y1 ≤ 1 := by omega
  have b2 : 0 ≤ y2 ∧ y2 ≤ 1 := by omega
  have b4 : 0 ≤ y4 ∧ y4 ≤ 1 := by omega
  clear hy1 hy2 hy4
  generalize frW x = fr at *
  have hbl := block_of hcell
  have hbl : b < w.heap.size := hbl
  have hcell2 : ∀ o o', ((w.alloc o).alloc o').cell? ⟨b, off + (32 * r + p), none⟩ = some (.int .u32 x) := fun o o' => by
    have h1 := (((Below.refl w.heap.size w).alloc (Nat.le_refl _) o).alloc (by simp) o').cell (p := ⟨b, off + (32 * r + p), none⟩) hbl
    rw [h1]; exact hcell
  rcases ha with rfl | rfl | rfl
  all_goals
    go_enter Tryd.func81, Tryd.ntmps81
    go_wp2_with (first
      | (go_at_call 80; refine (HK.out _).mono ?_; rintro e w1 ⟨rfl, rfl⟩)
      | (go_at_call 94; refine (pages_ref _ _ _ _ (by omega)).mono ?_; rintro e w2 ⟨rfl, m2, rfl⟩)
      | (go_at_call 77; refine (HD.out _).mono ?_; rintro e w1 ⟨rfl, rfl⟩))
  all_goals first
    | (refine bodyPost_ret (v := .agg #[.int .u32 0, .int .u32 0, .int .i64 (cauN _)]) ?_ rfl ⟨wk_false ?_ rfl, (by repeat' (first | with_reducible exact Below.refl _ _ | with_reducible apply below_drewN | with_reducible apply Below.drew | with_reducible apply Below.setCell | with_reducible apply Below.alloc | (simp; done) | (simp; omega)))⟩
       · rw [results_one rfl]; go_simp; done
       · rw [HW.out, HMB.out]; first | (simp; omega) | (simp_all; done) | (simp_all; omega))
    | (refine bodyPost_ret (v := .agg #[.int .u32 (fr * 128 + va % 128), .int .u32 ((r : Int) * 128 + 4 * p), .int .i64 0]) ?_ rfl ⟨HE.out _ _ ?_ rfl rfl, (by repeat' (first | with_reducible exact Below.refl _ _ | with_reducible apply below_drewN | with_reducible apply Below.drew | with_reducible apply Below.setCell | with_reducible apply Below.alloc | (simp; done) | (simp; omega)))⟩
       · rw [results_one rfl]; go_simp; done
       · rw [HW.out, HMB.out]; first | (simp; omega) | (simp_all; done) | (simp_all; omega))
theorem walk_ref (A : Option Addr) (n k : Nat) (l : List Int) (root va a : Int) (w : World) (hm : Mem w A n k l) (r0 : 0 ≤ root) (v0 : 0 ≤ va) :
    Calls Tryd.prog 81 #[.slice A n k, .int .u32 root, .int .u32 va, .int .i64 a] w fun e w' => e = .returned (trV (wkA n l root va a) (wkE n l root va a) (wkC n l root va a)) ∧ Below w.heap.size w w' := by
  have hn := hm.2.2.1
  by_cases h : a = 1 ∨ a = 2 ∨ a = 3
  · by_cases hf : va < 4096 ∧ root < pagesN n
    · obtain ⟨r, rfl⟩ : ∃ r : Nat, root = r := ⟨root.toNat, by omega⟩
      obtain ⟨p, hp⟩ : ∃ p : Nat, va / 128 = p := ⟨(va / 128).toNat, by omega⟩
      exact walkr_near A n k l r p va a w h hm (by omega) v0 hf.1 hp
    · exact walkr_far A n k l root va a w h hn (by omega)
  · exact walkr_unk A n k l root va a w h hn
end Go.Proofs.YtfnfbdjbdbifaaaDoor
