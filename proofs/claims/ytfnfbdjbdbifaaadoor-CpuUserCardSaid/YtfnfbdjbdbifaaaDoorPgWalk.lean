import Derived.Test.YtfnfbdjbdbifaaaDoorPgFn
namespace Go.Proofs.YtfnfbdjbdbifaaaDoor
set_option linter.unusedVariables false
set_option linter.unusedSimpArgs false
open Go.ChangeShapes Go.WideShapes Go.ChangeAt Go.RowKit Go.Proofs.YtfnfbdjbdbifaaaDoor.Num Go.Proofs.YtfnfbdjbdbifaaaDoor.Mem
/-- A word of a page table by its page, loaded. -/
theorem load_pte (A : Option Addr) (n c : Nat) (l : List Int) (r p : Int) (w : World) (hm : Mem w A n c l) (r0 : 0 ≤ r) (r1 : r < pagesN n) (p0 : 0 ≤ p) (p1 : p ≤ 31) :
    Calls Tryd.prog 38 #[.slice A n c, .int .u32 (r * 128 + p * 4), .int .i64 4] w fun e w' => e = .returned (.tuple #[.int .u32 (wd l (32 * r + p).toNat), .bool true]) ∧ ∃ m, w' = w.drewN m := by
  have hp := pagesN_le n
  have ho : okB n (r * 128 + p * 4) 4 = true := by
    unfold okB
    refine decide_eq_true ⟨.inr rfl, by omega, by omega, ?_⟩
    omega
  refine (load_yes A n c l (r * 128 + p * 4) 4 w hm (by omega) (by omega) ho).mono fun e w' ⟨he, hw⟩ => ⟨?_, hw⟩
  rw [he]
  have e : (r * 128 + p * 4) / 4 = 32 * r + p := by omega
  simp [ldV, e]
theorem wk_no1 {n : Nat} {l : List Int} {root va a : Int} (h : ¬ va < 4096) : wkB n l root va a = false := decide_eq_false fun hh => h hh.2.1
theorem wk_no2 {n : Nat} {l : List Int} {root va a : Int} (h : ¬ root < pagesN n) : wkB n l root va a = false := decide_eq_false fun hh => h hh.2.2.1
theorem wk_no3 {n : Nat} {l : List Int} {root va a : Int} (h : mayB (pteW l root va) a = false) : wkB n l root va a = false := decide_eq_false fun hh => by rw [h] at hh; exact absurd hh.2.2.2.1 (by decide)
theorem wk_no4 {n : Nat} {l : List Int} {root va a : Int} (h : ¬ frW (pteW l root va) < pagesN n) : wkB n l root va a = false := decide_eq_false fun hh => h hh.2.2.2.2
set_option maxHeartbeats 2000000 in
theorem walk_kn (A : Option Addr) (n k : Nat) (l : List Int) (root va a d c : Int) (w : World) (hm : Mem w A n k l) (ha : a = 1 ∨ a = 2 ∨ a = 3) (hN : Needs a d c) (d0 : 0 ≤ d) (d5 : d ≤ 5) (hc : c = cauN a) (r0 : 0 ≤ root) (r1 : root ≤ 4294967295) (v0 : 0 ≤ va) (v1 : va ≤ 4294967295) :
    Calls Tryd.prog 91 #[.slice A n k, .int .u32 root, .int .u32 va, .int .i64 a] w fun e w' => e = .returned (trV (wkA n l root va a) (wkE n l root va a) (wkC n l root va a)) ∧ Below w.heap.size w w' := by
  have hp := pagesN_le n
  have hn := hm.2.2.1
  have HD := Lib.hid (fun W => demands_yes a d c W hN)
  have HC := Lib.hid hc
  clear hc
  by_cases hv : va < 4096
  by_cases hr : root < pagesN n
  · have hx := wd_bd hm.2.2.2.1 (32 * root + va / 128).toNat
    have HL := Lib.hid (fun W (hW : Mem W A n k l) => load_pte A n k l root (va / 128) W hW r0 hr (by omega) (by omega))
    have HX : Hid (pteW l root va = wd l (32 * root + va / 128).toNat) := rfl
    have hNM := needs_may hN hx.1 hx.2
    have hM3 := fun h => wk_no3 (n := n) (l := l) (root := root) (va := va) (a := a) h
    have hM4 := fun h => wk_no4 (n := n) (l := l) (root := root) (va := va) (a := a) h
    have hM5 : Hid (mayB (pteW l root va) a = true → frW (pteW l root va) < pagesN n → wkB n l root va a = true) := fun h1 h2 => decide_eq_true ⟨ha, hv, hr, h1, h2⟩
    rw [HX.out] at hM3 hM4
    have hMY := hM5.out
    rw [HX.out] at hMY
    have hf0 : 0 ≤ frW (wd l (32 * root + va / 128).toNat) ∧ frW (wd l (32 * root + va / 128).toNat) ≤ 255 := by unfold frW; omega
    have HWT : Hid (∀ x y, wkB n l root va a = true → x = frW (wd l (32 * root + va / 128).toNat) * 128 + va % 128 → y = root * 128 + va / 128 * 4 → Ending.returned (.agg #[.int .u32 x, .int .u32 y, .int .i64 0]) = .returned (trV (wkA n l root va a) (wkE n l root va a) (wkC n l root va a))) := fun x y h1 h2 h3 => wk_true h1 (by rw [HX.out]; exact h2) h3
    generalize wd l (32 * root + va / 128).toNat = x at *
    replace hM3 := Lib.hid hM3
    replace hM4 := Lib.hid hM4
    replace hMY := Lib.hid hMY
    clear hM5 HX
    obtain ⟨x0, x1⟩ := hx
    obtain ⟨f0, f1⟩ := hf0
    have HF := Lib.hid (fun W => frameOf_any x W x0 x1)
    have HM := Lib.hid hm
    clear hm hN
    by_cases hmay : mayB x a = true
    · rw [hmay] at hNM
      replace hNM : (bits .and .u32 x d != d) = false := hNM
      by_cases hfr : frW x < pagesN n
      · have HW := Lib.hid (hMY.out hmay hfr)
        clear hM3 hM4 hMY hmay
        generalize frW x = fr at *
        go_enter Tryd.func91, Tryd.ntmps91
        go_wp2_with (first
          | (go_at_call 95; refine (HD.out _).mono ?_; rintro e w1 ⟨rfl, rfl⟩)
          | (go_at_call 96; refine (frame_any _ _ _ _ _ (by omega) (by omega) (by omega)).mono ?_; rintro e w2 ⟨rfl, m2, rfl⟩)
          | (go_at_call 97; refine (place_pg _ _ _ (by omega) (by omega) (by omega) (by omega)).mono ?_; rintro e w3 ⟨rfl, rfl⟩)
          | (go_at_call 38; refine (HL.out _ (HM.out.on (by repeat' (first | with_reducible exact Below.refl _ _ | with_reducible apply below_drewN | with_reducible apply Below.drew | with_reducible apply Below.setCell | with_reducible apply Below.alloc | (simp; done) | (simp; omega))))).mono ?_; rintro e w4 ⟨rfl, m4, rfl⟩)
          | (go_at_call 98; refine (HF.out _).mono ?_; rintro e w5 ⟨rfl, m5, rfl⟩))
        refine bodyPost_ret (v := .agg #[.int .u32 (fr * 128 + va % 128), .int .u32 (root * 128 + va / 128 * 4), .int .i64 0]) ?_ rfl ⟨HWT.out _ _ HW.out rfl rfl, ?_⟩
        · rw [results_one rfl]; go_simp
        · exact (by repeat' (first | with_reducible exact Below.refl _ _ | with_reducible apply below_drewN | with_reducible apply Below.drew | with_reducible apply Below.setCell | with_reducible apply Below.alloc | (simp; done) | (simp; omega)))
      · have HW := Lib.hid (hM4.out hfr)
        clear hM3 hM4 hMY hmay HWT
        generalize frW x = fr at *
        have hfd : decide (fr < (pagesN n : Int)) = false := decide_eq_false hfr
        go_enter Tryd.func91, Tryd.ntmps91
        go_wp2_with (first
          | (go_at_call 95; refine (HD.out _).mono ?_; rintro e w1 ⟨rfl, rfl⟩)
          | (go_at_call 96; refine (frame_any _ _ _ _ _ (by omega) (by omega) (by omega)).mono ?_; rintro e w2 ⟨rfl, m2, rfl⟩)
          | (go_at_call 97; refine (place_pg _ _ _ (by omega) (by omega) (by omega) (by omega)).mono ?_; rintro e w3 ⟨rfl, rfl⟩)
          | (go_at_call 38; refine (HL.out _ (HM.out.on (by repeat' (first | with_reducible exact Below.refl _ _ | with_reducible apply below_drewN | with_reducible apply Below.drew | with_reducible apply Below.setCell | with_reducible apply Below.alloc | (simp; done) | (simp; omega))))).mono ?_; rintro e w4 ⟨rfl, m4, rfl⟩)
          | (go_at_call 98; refine (HF.out _).mono ?_; rintro e w5 ⟨rfl, m5, rfl⟩))
        refine bodyPost_ret (v := .agg #[.int .u32 0, .int .u32 0, .int .i64 c]) ?_ rfl ⟨wk_false HW.out HC.out, ?_⟩
        · rw [results_one rfl]; go_simp
        · exact (by repeat' (first | with_reducible exact Below.refl _ _ | with_reducible apply below_drewN | with_reducible apply Below.drew | with_reducible apply Below.setCell | with_reducible apply Below.alloc | (simp; done) | (simp; omega)))
    · have hmay' : mayB x a = false := by simpa using hmay
      rw [hmay'] at hNM
      replace hNM : (bits .and .u32 x d != d) = true := hNM
      have HW := Lib.hid (hM3.out hmay')
      clear hM3 hM4 hMY hmay hmay' HWT
      generalize frW x = fr at *
      go_enter Tryd.func91, Tryd.ntmps91
      go_wp2_with (first
        | (go_at_call 95; refine (HD.out _).mono ?_; rintro e w1 ⟨rfl, rfl⟩)
        | (go_at_call 96; refine (frame_any _ _ _ _ _ (by omega) (by omega) (by omega)).mono ?_; rintro e w2 ⟨rfl, m2, rfl⟩)
        | (go_at_call 97; refine (place_pg _ _ _ (by omega) (by omega) (by omega) (by omega)).mono ?_; rintro e w3 ⟨rfl, rfl⟩)
        | (go_at_call 38; refine (HL.out _ (HM.out.on (by repeat' (first | with_reducible exact Below.refl _ _ | with_reducible apply below_drewN | with_reducible apply Below.drew | with_reducible apply Below.setCell | with_reducible apply Below.alloc | (simp; done) | (simp; omega))))).mono ?_; rintro e w4 ⟨rfl, m4, rfl⟩)
        | (go_at_call 98; refine (HF.out _).mono ?_; rintro e w5 ⟨rfl, m5, rfl⟩))
      refine bodyPost_ret (v := .agg #[.int .u32 0, .int .u32 0, .int .i64 c]) ?_ rfl ⟨wk_false HW.out HC.out, ?_⟩
      · rw [results_one rfl]; go_simp
      · exact (by repeat' (first | with_reducible exact Below.refl _ _ | with_reducible apply below_drewN | with_reducible apply Below.drew | with_reducible apply Below.setCell | with_reducible apply Below.alloc | (simp; done) | (simp; omega)))
  · have HW := Lib.hid (wk_no2 (n := n) (l := l) (root := root) (va := va) (a := a) hr)
    have hfd : decide (root < (pagesN n : Int)) = false := decide_eq_false hr
    clear hm hN
    go_enter Tryd.func91, Tryd.ntmps91
    go_wp2_with (first
      | (go_at_call 95; refine (HD.out _).mono ?_; rintro e w1 ⟨rfl, rfl⟩)
      | (go_at_call 96; refine (frame_any _ _ _ _ _ (by omega) (by omega) (by omega)).mono ?_; rintro e w2 ⟨rfl, m2, rfl⟩)
      | (go_at_call 97; refine (place_pg _ _ _ (by omega) (by omega) (by omega) (by omega)).mono ?_; rintro e w3 ⟨rfl, rfl⟩)
      )
    refine bodyPost_ret (v := .agg #[.int .u32 0, .int .u32 0, .int .i64 c]) ?_ rfl ⟨wk_false HW.out HC.out, ?_⟩
    · rw [results_one rfl]; go_simp
    · exact (by repeat' (first | with_reducible exact Below.refl _ _ | with_reducible apply below_drewN | with_reducible apply Below.drew | with_reducible apply Below.setCell | with_reducible apply Below.alloc | (simp; done) | (simp; omega)))
  · have HW := Lib.hid (wk_no1 (n := n) (l := l) (root := root) (va := va) (a := a) hv)
    clear hm hN
    go_enter Tryd.func91, Tryd.ntmps91
    go_wp2_with (first
      | (go_at_call 95; refine (HD.out _).mono ?_; rintro e w1 ⟨rfl, rfl⟩)
      | (go_at_call 96; refine (frame_any _ _ _ _ _ (by omega) (by omega) (by omega)).mono ?_; rintro e w2 ⟨rfl, m2, rfl⟩)
      | (go_at_call 97; refine (place_pg _ _ _ (by omega) (by omega) (by omega) (by omega)).mono ?_; rintro e w3 ⟨rfl, rfl⟩)
      )
    refine bodyPost_ret (v := .agg #[.int .u32 0, .int .u32 0, .int .i64 c]) ?_ rfl ⟨wk_false HW.out HC.out, ?_⟩
    · rw [results_one rfl]; go_simp
    · exact (by repeat' (first | with_reducible exact Below.refl _ _ | with_reducible apply below_drewN | with_reducible apply Below.drew | with_reducible apply Below.setCell | with_reducible apply Below.alloc | (simp; done) | (simp; omega)))
theorem walk_any (A : Option Addr) (n k : Nat) (l : List Int) (root va a : Int) (w : World) (hm : Mem w A n k l) (r0 : 0 ≤ root) (r1 : root ≤ 4294967295) (v0 : 0 ≤ va) (v1 : va ≤ 4294967295) :
    Calls Tryd.prog 91 #[.slice A n k, .int .u32 root, .int .u32 va, .int .i64 a] w fun e w' => e = .returned (trV (wkA n l root va a) (wkE n l root va a) (wkC n l root va a)) ∧ Below w.heap.size w w' := by
  by_cases h : a = 1 ∨ a = 2 ∨ a = 3
  · obtain ⟨d, c, hN, d0, d5, hc⟩ := needs_of h
    exact walk_kn A n k l root va a d c w hm h hN d0 d5 hc r0 r1 v0 v1
  · exact walk_unk A n k l root va a w h v0 v1
end Go.Proofs.YtfnfbdjbdbifaaaDoor
