import Derived.Test.YtbaepeccgjoiaaaPmFn6
namespace Go.Proofs.Ytbaepeccgjoiaaa
set_option linter.unusedVariables false
set_option linter.unusedSimpArgs false
open Go.ChangeShapes Go.WideShapes Go.ChangeAt Go.RowKit Go.Proofs.Ytbaepeccgjoiaaa.Num Go.Proofs.Ytbaepeccgjoiaaa.Mem
/- The made data and events. -/
def datL (n : Int) (k : Nat) : List UInt8 := (List.range k).map fun i => UInt8.ofNat (mixK n ((i / 9 : Nat) : Int) % 256).toNat
def datS (n : Int) (k : Nat) : ByteArray := ⟨(datL n k).toArray⟩
theorem datL_len (n : Int) (k : Nat) : (datL n k).length = k := by simp [datL]
theorem datS_size (n : Int) (k : Nat) : (datS n k).size = k := by show (datL n k).toArray.size = k; simp [datL_len]
theorem datL_succ (n : Int) (k : Nat) : datL n (k + 1) = datL n k ++ [UInt8.ofNat (mixK n ((k / 9 : Nat) : Int) % 256).toNat] := by
  unfold datL; rw [List.range_succ, List.map_append]; rfl
theorem conv_nil (w : World) : (convert 66 9 (.slice none 0 0)).run Try.prog w = .ok (.string ⟨#[]⟩) w := by kernel_rfl
theorem u8s_one (s : List UInt8) (x : Int) : u8s s ++ [Value.int .u8 (x % 256)] = u8s (s ++ [UInt8.ofNat (x % 256).toNat]) := by
  have e : (((UInt8.ofNat (x % 256).toNat).toNat : Nat) : Int) = x % 256 := by
    rw [UInt8.toNat_ofNat']; omega
  simp only [u8s, List.map_append, List.map_cons, List.map_nil, e]
set_option maxRecDepth 100000 in
set_option maxHeartbeats 1000000 in
theorem dat_any (n : Int) (k : Nat) (w : World) (h0 : -9223372036854775808 ≤ n) (h1 : n ≤ 9223372036854775807) (hk : k ≤ 1000) :
    Calls Try.prog 28 #[.int .i64 n, .int .i64 k] w fun e w' => e = .returned (.string (datS n k)) ∧ Below w.heap.size w w' := by
  obtain ⟨i0, hi, hz0, hz1, hz2⟩ := info_parts info_u8
  have HMX := Lib.hid (fun j W (hj : j ≤ 1000) => mix_any n ((j : Nat) : Int) W h0 h1 (by omega) (by omega))
  go_enter Try.func28, Try.ntmps28
  go_wp2
  go_loopw [5, 6] (fun b i wr => ∃ j : Nat, j ≤ k ∧ i = .int .i64 j ∧ (j = 0 → b = .slice none 0 0) ∧ wr.ownsRow w.heap.size 5 1 b j (u8s (datL n j)) ∧ Below w.heap.size w wr) (fun _ i _ => k - (intOf i).toNat)
  case atStart => exact ⟨0, Nat.zero_le _, rfl, fun _ => rfl, World.ownsRow_nil _ _ _ _, Below.refl _ _⟩
  case round =>
    obtain ⟨j, hj, rfl, hb0, hown, hbel⟩ := hrel
    have hws : w.heap.size ≤ wr.heap.size := hbel.size
    by_cases hlt : j < k
    · have hlt' : (j : Int) < k := by omega
      have e9' : (j : Int) / 9 = ((j / 9 : Nat) : Int) := by omega
      have hmb := mixK_bd n ((j / 9 : Nat) : Int)
      have HB := Lib.hid (datL_succ n j)
      have HM := Lib.hid (fun W => HMX.out (j / 9) W (by omega))
      generalize mixK n ((j / 9 : Nat) : Int) = x at *
      generalize j / 9 = q at *
      clear hb0
      go_wp2_with (first
        | (go_at_call 29; (with_reducible refine (HM.out _).mono ?_); rintro e w1 ⟨rfl, rfl⟩)
        | (at_builtin; refine wpList_append_own _ rfl _ _ 66 rfl (w.heap.size) 5 i0 (.int .u8 0) 1 1 Try.underlying66 hi hz0 hz1 hz2 rfl (by decide) _ _ _ rfl (hown.alloc _) ⟨wr.heap.size, 0, none⟩ 1 1 [.int .u8 (x % 256)] rfl rfl (new_cells _ _ _) (by intro u hu; simp at hu; subst hu; rfl) (by unfold maxLen; omega) (by omega) (by simp; omega) ?_))
      intro v' w1 hown1 hgrow _
      rw [u8s_one _ x, ← HB.out] at hown1
      go_wp2
      go_roundw
      case rel => exact ⟨j + 1, by omega, by go_num, fun h => absurd h (by omega), hown1, (hbel.alloc hws _).grown hgrow (by simp; omega) (fun k hk => (hown.lt k hk).1)⟩
      case measure => simp [intOf]; omega
    · obtain rfl : j = k := by omega
      by_cases hk0 : j = 0
      · subst hk0
        obtain rfl := hb0 rfl
        clear hown
        have hc : (convert 66 9 (.slice none 0 0)).run Try.prog wr = .ok (.string ⟨#[]⟩) wr := conv_nil wr
        go_wp2
        go_ret
        exact ⟨rfl, hbel⟩
      · have hc := own_convert (P := Try.prog) Try.underlying66 Try.underlying5 Try.underlying9 _ _ hown (datL_len n j).symm (by intro h; have := congrArg List.length h; rw [datL_len] at this; simp at this; omega)
        clear hown hb0
        go_wp2
        go_ret
        exact ⟨rfl, hbel⟩
def evV (K N : Int) (D : ByteArray) : Value := .agg #[.int .i64 K, .int .u32 N, .string D]
theorem results_oneE {fn : Func} {p : Tmp} {ty : TypeId} (h : fn.results = #[.cell p ty]) (tmps : Array Value) (P : Program) (w : World) :
    (results fn tmps).run P w = ((asAddr (tmps.getD p undef)).run P w).andThen fun a w₁ => (loadVar ty a).run P w₁ := by
  simp only [results, h]
  simp [Sem.run_bind, Result.andThen]
set_option maxHeartbeats 1000000 in
theorem event_ex (n : Int) (h0 : -9223372036854775808 ≤ n) (h1 : n ≤ 9223372036854775807) : ∃ (K N : Int) (D : ByteArray), 0 ≤ N ∧ N ≤ 4294967295 ∧ D.size ≤ 128 ∧
    ∀ w, Calls Try.prog 18 #[.int .i64 n] w fun e w' => e = .returned (evV K N D) ∧ Below w.heap.size w w' := by
  have HMX := Lib.hid (fun W => mix_any n 2 W h0 h1 (by omega) (by omega))
  have hv := mixK_bd n 2
  generalize mixK n 2 = v at *
  obtain ⟨r, hr⟩ : ∃ r, v % 7 = r := ⟨_, rfl⟩
  have r0 : 0 ≤ r := by omega
  have r1 : r ≤ 6 := by omega
  have HD1 := Lib.hid (fun W => show Calls Try.prog 28 #[.int .i64 v, .int .i64 128] W fun e w' => e = .returned (.string (datS v 128)) ∧ Below W.heap.size W w' from dat_any v 128 W (by omega) (by omega) (by omega))
  obtain ⟨q, hq⟩ : ∃ q : Nat, 1 + v / 256 % 40 = (q : Int) := ⟨(1 + v / 256 % 40).toNat, by omega⟩
  have q1 : q ≤ 40 := by omega
  have HD2 := Lib.hid (fun W => dat_any v q W (by omega) (by omega) (by omega))
  have hs1 := datS_size v 128
  have hs2 := datS_size v q
  generalize datS v 128 = D1 at *
  generalize datS v q = D2 at *
  unfold evV
  have hc : r = 0 ∨ (r = 1 ∨ r = 2) ∨ r = 3 ∨ r = 4 ∨ r = 5 ∨ r = 6 := by omega
  rcases hc with rfl | (rfl | rfl) | rfl | rfl | rfl | rfl
  · refine ⟨2, 0, ⟨#[]⟩, by omega, by omega, by decide, fun w => ?_⟩
    go_enter Try.func18, Try.ntmps18
    go_wp2_with (first
      | (go_at_call 29; (with_reducible refine (HMX.out _).mono ?_); rintro e w1 ⟨rfl, rfl⟩))
    refine bodyPost_ret (v := .agg #[.int .i64 2, .int .u32 (0), .string ⟨#[]⟩]) (by rw [results_oneE rfl]; go_simp) rfl ⟨rfl, by (repeat' (first | with_reducible exact Below.refl _ _ | with_reducible assumption | with_reducible apply below_drewN | with_reducible apply Below.drew | with_reducible apply Below.setCell | with_reducible apply Below.alloc | (simp; done) | omega | (simp; omega)))⟩
  · refine ⟨3, bits .and .i64 (v / 256) 255 % 4294967296, ⟨#[]⟩, by omega, by omega, by decide, fun w => ?_⟩
    go_enter Try.func18, Try.ntmps18
    go_wp2_with (first
      | (go_at_call 29; (with_reducible refine (HMX.out _).mono ?_); rintro e w1 ⟨rfl, rfl⟩))
    refine bodyPost_ret (v := .agg #[.int .i64 3, .int .u32 (bits .and .i64 (v / 256) 255 % 4294967296), .string ⟨#[]⟩]) (by rw [results_oneE rfl]; go_simp) rfl ⟨rfl, by (repeat' (first | with_reducible exact Below.refl _ _ | with_reducible assumption | with_reducible apply below_drewN | with_reducible apply Below.drew | with_reducible apply Below.setCell | with_reducible apply Below.alloc | (simp; done) | omega | (simp; omega)))⟩
  · refine ⟨3, bits .and .i64 (v / 256) 255 % 4294967296, ⟨#[]⟩, by omega, by omega, by decide, fun w => ?_⟩
    go_enter Try.func18, Try.ntmps18
    go_wp2_with (first
      | (go_at_call 29; (with_reducible refine (HMX.out _).mono ?_); rintro e w1 ⟨rfl, rfl⟩))
    refine bodyPost_ret (v := .agg #[.int .i64 3, .int .u32 (bits .and .i64 (v / 256) 255 % 4294967296), .string ⟨#[]⟩]) (by rw [results_oneE rfl]; go_simp) rfl ⟨rfl, by (repeat' (first | with_reducible exact Below.refl _ _ | with_reducible assumption | with_reducible apply below_drewN | with_reducible apply Below.drew | with_reducible apply Below.setCell | with_reducible apply Below.alloc | (simp; done) | omega | (simp; omega)))⟩
  · refine ⟨4, 1, ⟨#[]⟩, by omega, by omega, by decide, fun w => ?_⟩
    go_enter Try.func18, Try.ntmps18
    go_wp2_with (first
      | (go_at_call 29; (with_reducible refine (HMX.out _).mono ?_); rintro e w1 ⟨rfl, rfl⟩))
    refine bodyPost_ret (v := .agg #[.int .i64 4, .int .u32 (1), .string ⟨#[]⟩]) (by rw [results_oneE rfl]; go_simp) rfl ⟨rfl, by (repeat' (first | with_reducible exact Below.refl _ _ | with_reducible assumption | with_reducible apply below_drewN | with_reducible apply Below.drew | with_reducible apply Below.setCell | with_reducible apply Below.alloc | (simp; done) | omega | (simp; omega)))⟩
  · refine ⟨4, 1, D1, by omega, by omega, by omega, fun w => ?_⟩
    go_enter Try.func18, Try.ntmps18
    go_wp2_with (first
      | (go_at_call 29; (with_reducible refine (HMX.out _).mono ?_); rintro e w1 ⟨rfl, rfl⟩)
      | (go_at_call 28; (with_reducible refine (HD1.out _).mono ?_); rintro e w5 ⟨rfl, hb5⟩; have bel5 : Below w.heap.size w w5 := Below.trans (by (repeat' (first | with_reducible exact Below.refl _ _ | with_reducible assumption | with_reducible apply below_drewN | with_reducible apply Below.drew | with_reducible apply Below.setCell | with_reducible apply Below.alloc | (simp; done) | omega | (simp; omega)))) (hb5.mono (by simp)); have hs5 := bel5.size; have l5 : w.heap.size < w5.heap.size := Nat.lt_of_lt_of_le (by simp) hb5.size; have c0 := (hb5.cell (p := ⟨w.heap.size, 0, none⟩) (by simp)); have c1 := (hb5.cell (p := ⟨w.heap.size, 1, none⟩) (by simp)); have c2 := (hb5.cell (p := ⟨w.heap.size, 2, none⟩) (by simp)); have z0 := (hb5.frozen (p := ⟨w.heap.size, 0, none⟩) (by simp)); have z1 := (hb5.frozen (p := ⟨w.heap.size, 1, none⟩) (by simp)); have z2 := (hb5.frozen (p := ⟨w.heap.size, 2, none⟩) (by simp)); simp [go_sem] at c0 c1 c2 z0 z1 z2; clear hb5))
    refine bodyPost_ret (v := .agg #[.int .i64 4, .int .u32 (1), .string D1]) (by rw [results_oneE rfl]; go_simp) rfl ⟨rfl, by (repeat' (first | with_reducible exact Below.refl _ _ | with_reducible assumption | with_reducible apply below_drewN | with_reducible apply Below.drew | with_reducible apply Below.setCell | with_reducible apply Below.alloc | (simp; done) | omega | (simp; omega)))⟩
  · refine ⟨5, 0, D2, by omega, by omega, by omega, fun w => ?_⟩
    go_enter Try.func18, Try.ntmps18
    go_wp2_with (first
      | (go_at_call 29; (with_reducible refine (HMX.out _).mono ?_); rintro e w1 ⟨rfl, rfl⟩)
      | (go_at_call 28; (with_reducible refine (HD2.out _).mono ?_); rintro e w5 ⟨rfl, hb5⟩; have bel5 : Below w.heap.size w w5 := Below.trans (by (repeat' (first | with_reducible exact Below.refl _ _ | with_reducible assumption | with_reducible apply below_drewN | with_reducible apply Below.drew | with_reducible apply Below.setCell | with_reducible apply Below.alloc | (simp; done) | omega | (simp; omega)))) (hb5.mono (by simp)); have hs5 := bel5.size; have l5 : w.heap.size < w5.heap.size := Nat.lt_of_lt_of_le (by simp) hb5.size; have c0 := (hb5.cell (p := ⟨w.heap.size, 0, none⟩) (by simp)); have c1 := (hb5.cell (p := ⟨w.heap.size, 1, none⟩) (by simp)); have c2 := (hb5.cell (p := ⟨w.heap.size, 2, none⟩) (by simp)); have z0 := (hb5.frozen (p := ⟨w.heap.size, 0, none⟩) (by simp)); have z1 := (hb5.frozen (p := ⟨w.heap.size, 1, none⟩) (by simp)); have z2 := (hb5.frozen (p := ⟨w.heap.size, 2, none⟩) (by simp)); simp [go_sem] at c0 c1 c2 z0 z1 z2; clear hb5))
    refine bodyPost_ret (v := .agg #[.int .i64 5, .int .u32 (0), .string D2]) (by rw [results_oneE rfl]; go_simp) rfl ⟨rfl, by (repeat' (first | with_reducible exact Below.refl _ _ | with_reducible assumption | with_reducible apply below_drewN | with_reducible apply Below.drew | with_reducible apply Below.setCell | with_reducible apply Below.alloc | (simp; done) | omega | (simp; omega)))⟩
  · have h40 : v / 256 % 4 = 0 ∨ ¬ v / 256 % 4 = 0 := by omega
    rcases h40 with h40 | h40
    · refine ⟨4, 0, ⟨#[]⟩, by omega, by omega, by decide, fun w => ?_⟩
      go_enter Try.func18, Try.ntmps18
      go_wp2_with (first
        | (go_at_call 29; (with_reducible refine (HMX.out _).mono ?_); rintro e w1 ⟨rfl, rfl⟩))
      refine bodyPost_ret (v := .agg #[.int .i64 4, .int .u32 (0), .string ⟨#[]⟩]) (by rw [results_oneE rfl]; go_simp) rfl ⟨rfl, by (repeat' (first | with_reducible exact Below.refl _ _ | with_reducible assumption | with_reducible apply below_drewN | with_reducible apply Below.drew | with_reducible apply Below.setCell | with_reducible apply Below.alloc | (simp; done) | omega | (simp; omega)))⟩
    · refine ⟨6, (v / 256 % 3), ⟨#[]⟩, by omega, by omega, by decide, fun w => ?_⟩
      go_enter Try.func18, Try.ntmps18
      go_wp2_with (first
        | (go_at_call 29; (with_reducible refine (HMX.out _).mono ?_); rintro e w1 ⟨rfl, rfl⟩))
      refine bodyPost_ret (v := .agg #[.int .i64 6, .int .u32 ((v / 256 % 3)), .string ⟨#[]⟩]) (by rw [results_oneE rfl]; go_simp) rfl ⟨rfl, by (repeat' (first | with_reducible exact Below.refl _ _ | with_reducible assumption | with_reducible apply below_drewN | with_reducible apply Below.drew | with_reducible apply Below.setCell | with_reducible apply Below.alloc | (simp; done) | omega | (simp; omega)))⟩
end Go.Proofs.Ytbaepeccgjoiaaa
