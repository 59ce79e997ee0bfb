import Derived.Test.YtdjnloacjgcckaaPmRow
namespace Go.Proofs.Ytdjnloacjgcckaa
set_option linter.unusedVariables false
set_option linter.unusedSimpArgs false
open Go.ChangeShapes Go.WideShapes Go.ChangeAt Go.RowKit Go.Proofs.Ytdjnloacjgcckaa.Num Go.Proofs.Ytdjnloacjgcckaa.Mem
theorem okB_in {n : Nat} {a size : Int} (hs : size = 1 ∨ size = 4) (ha : a % size = 0) (hp : 0 < pagesN n) (h : a / 4 < n) : okB n a size = true := by
  unfold okB; exact decide_eq_true ⟨hs, ha, hp, h⟩
theorem store_w (A : Option Addr) (n c i : Nat) (l : List Int) (a v : Int) (w : World) (hm : Mem w A n c l) (ha : a = (i : Int) * 4) (hi : i < n) (hp : 0 < pagesN n) (hv : 0 ≤ v) (hv' : v ≤ 4294967295) :
    Calls Try.prog 14 #[.slice A n c, .int .u32 a, .int .i64 4, .int .u32 v] w (Gives2 n (l.set i v) true w) := by
  have hn := hm.2.2.1
  have ho : okB n a 4 = true := okB_in (.inr rfl) (by omega) hp (by omega)
  refine (store_any A n c l a 4 v w hm (by omega) (by omega) hv hv').mono fun e w' ⟨⟨A', c', he, hm'⟩, hb⟩ => ⟨⟨A', c', by rw [he, ho], ?_⟩, hb⟩
  rw [if_pos ho] at hm'
  have e1 : (a / 4).toNat = i := by omega
  have e2 : stV l a 4 v = l.set i v := by unfold stV stW; rw [if_pos rfl, e1]
  rw [← e2]; exact hm'
theorem load_b (A : Option Addr) (n c i k : Nat) (l : List Int) (a : Int) (w : World) (hm : Mem w A n c l) (ha : a = (i : Int) * 4 + k) (hk : k ≤ 3) (hi : i < n) (hp : 0 < pagesN n) :
    Calls Try.prog 12 #[.slice A n c, .int .u32 a, .int .i64 1] w fun e w' => e = .returned (.tuple #[.int .u32 (wd l i / 256 ^ k % 256), .bool true]) ∧ ∃ m, w' = w.drewN m := by
  have hn := hm.2.2.1
  have ho : okB n a 1 = true := okB_in (.inl rfl) (by omega) hp (by omega)
  refine (load_yes A n c l a 1 w hm (by omega) (by omega) ho).mono fun e w' ⟨he, hw⟩ => ⟨?_, hw⟩
  have e1 : (a / 4).toNat = i := by omega
  have e3 : (a % 4).toNat = k := by omega
  rw [he]
  unfold ldV
  rw [if_neg (by decide), e1, e3]
theorem load_w (A : Option Addr) (n c i : Nat) (l : List Int) (a : Int) (w : World) (hm : Mem w A n c l) (ha : a = (i : Int) * 4) (hi : i < n) (hp : 0 < pagesN n) :
    Calls Try.prog 12 #[.slice A n c, .int .u32 a, .int .i64 4] w fun e w' => e = .returned (.tuple #[.int .u32 (wd l i), .bool true]) ∧ ∃ m, w' = w.drewN m := by
  have hn := hm.2.2.1
  have ho : okB n a 4 = true := okB_in (.inr rfl) (by omega) hp (by omega)
  refine (load_yes A n c l a 4 w hm (by omega) (by omega) ho).mono fun e w' ⟨he, hw⟩ => ⟨?_, hw⟩
  have e1 : (a / 4).toNat = i := by omega
  rw [he]
  unfold ldV
  rw [if_pos rfl, e1]
/-- A word put together from its bytes. -/
theorem or_byte (x : Int) (k : Nat) (h0 : 0 ≤ x) (h1 : x ≤ 4294967295) (hk : k ≤ 3) : bits .or .u32 (x % 256 ^ k) (x / 256 ^ k % 256 * 2 ^ (8 * k) % 4294967296) = x % 256 ^ (k + 1) := by
  obtain ⟨X, rfl⟩ : ∃ X : Nat, x = X := ⟨x.toNat, by omega⟩
  have hp : (256 : Int) ^ k = ((256 ^ k : Nat) : Int) := by simp
  have hp1 : (256 : Int) ^ (k + 1) = ((256 ^ (k + 1) : Nat) : Int) := by simp
  have h2 : (2 : Int) ^ (8 * k) = ((2 ^ (8 * k) : Nat) : Int) := by simp
  have e2 : 2 ^ (8 * k) = 256 ^ k := by rw [Nat.pow_mul]
  have hb : 256 * 256 ^ k ≤ 4294967296 := by
    have : 256 ^ (k + 1) ≤ 256 ^ 4 := Nat.pow_le_pow_right (by decide) (by omega)
    rw [Nat.pow_succ] at this; omega
  have hlt : X / 256 ^ k % 256 * 256 ^ k < 4294967296 := by
    have : X / 256 ^ k % 256 * 256 ^ k < 256 * 256 ^ k := Nat.mul_lt_mul_of_pos_right (by omega) (Nat.pow_pos (by decide))
    omega
  have e3 : (X : Int) / 256 ^ k % 256 * 2 ^ (8 * k) % 4294967296 = ((X / 256 ^ k % 256 * 256 ^ k : Nat) : Int) := by
    rw [hp, h2, e2]
    have e4 : (X : Int) / ((256 ^ k : Nat) : Int) % 256 = ((X / 256 ^ k % 256 : Nat) : Int) := by rw [← Int.natCast_ediv]; omega
    rw [e4, ← Int.natCast_mul]
    omega
  have e5 : (X : Int) % 256 ^ k = ((X % 256 ^ k : Nat) : Int) := by rw [hp, ← Int.natCast_emod]
  rw [e3, e5, hp1, ← Int.natCast_emod]
  have hmod : X % 256 ^ k < 2 ^ (8 * k) := by rw [e2]; exact Nat.mod_lt _ (Nat.pow_pos (by decide))
  rw [u32_or_nat _ _ (by have := Nat.mod_le X (256 ^ k); omega) hlt]
  congr 1
  have := Nat.two_pow_add_eq_or_of_lt hmod (X / 256 ^ k % 256)
  rw [e2] at this
  rw [Nat.or_comm, Nat.mul_comm (X / 256 ^ k % 256), ← this, Nat.pow_succ, Nat.mod_mul, Nat.add_comm]
set_option maxRecDepth 100000 in
set_option maxHeartbeats 4000000 in
theorem orders_walk (B : Option Addr) (k d : Nat) (z : Nat → Int) (p a b v u : Int) (w : World) (hz : Ints w B k z) (p0 : -9223372036854775808 ≤ p) (p1 : p ≤ 9223372036854775807)
    (a0 : 0 ≤ a) (a1 : a ≤ 4294967295) (b0 : 0 ≤ b) (b1 : b ≤ 4294967295) (v0 : 0 ≤ v) (v1 : v ≤ 4294967295) (u0 : 0 ≤ u) (u1 : u ≤ 4294967295) :
    Calls Try.prog 8 #[.slice B k d, .int .i64 p, .int .u32 a, .int .u32 b, .int .u32 v, .int .u32 u] w fun e w' => e = .returned (.bool true) ∧ Below w.heap.size w w' := by
  obtain ⟨r, hr⟩ : ∃ r : Nat, p % 6 = r := ⟨(p % 6).toNat, by omega⟩
  have HS := made_any none B 0 0 k d r false z p w (.inl rfl) hz p0 p1 hr
  have hN : 0 < pagesN (32 * (1 + r)) := by unfold pagesN; rw [if_pos ⟨by omega, by omega⟩]; omega
  have hN1 : 32 ≤ 32 * (1 + r) := by omega
  have hN2 : 32 * (1 + r) ≤ 192 := by omega
  unfold Made at HS
  generalize 32 * (1 + r) = N at *
  obtain ⟨i, hi⟩ : ∃ i : Nat, a % (N : Int) = i := ⟨(a % N).toNat, by have := Int.emod_nonneg a (b := (N : Int)) (by omega); omega⟩
  obtain ⟨j, hj⟩ : ∃ j : Nat, b % (N : Int) = j := ⟨(b % N).toNat, by have := Int.emod_nonneg b (b := (N : Int)) (by omega); omega⟩
  have i0 : i < N := by have := Int.emod_lt_of_pos a (b := (N : Int)) (by omega); omega
  have j0 : j < N := by have := Int.emod_lt_of_pos b (b := (N : Int)) (by omega); omega
  have HS' := Lib.hid HS
  have HI := Lib.hid hi
  have HJ := Lib.hid hj
  have HA := Lib.hid awake_any
  have hz : ¬ (N : Int) = 0 := by omega
  clear HS hi hj hr
  go_enter Try.func8, Try.ntmps8
  go_wp2_with (first
      | (go_at_call 10; refine (HS'.out).mono ?_; rintro e w1 ⟨⟨A1, c1, l1, rfl, hm1⟩, hb1⟩; have bb := Below.refl w1.heap.size w1))
  go_quiet (fail)
  have E1 : a % (N : Int) * 4 % 4294967296 = (i : Int) * 4 := by rw [HI.out]; omega
  have E2 : b % (N : Int) * 4 % 4294967296 = (j : Int) * 4 := by rw [HJ.out]; omega
  simp only [E1, E2]
  clear E1 E2
  go_wp2_with fail
  refine (store_w A1 N c1 i l1 _ v _ (hm1.drewN _) rfl i0 hN v0 v1).mono ?_
  rintro e w2 ⟨⟨A2, c2, rfl, hm2⟩, hb2⟩
  go_wp2_with fail
  refine (store_w A2 N c2 j (l1.set i v) _ u _ hm2 rfl j0 hN u0 u1).mono ?_
  rintro e w3 ⟨⟨A3, c3, rfl, hm3⟩, hb3⟩
  replace hm1 := (((hm1.drewN _).on hb2).on hb3)
  go_wp2_with fail
  refine (store_w A1 N c1 j l1 _ u _ hm1 rfl j0 hN u0 u1).mono ?_
  rintro e w4 ⟨⟨A4, c4, rfl, hm4⟩, hb4⟩
  replace hm3 := hm3.on hb4
  go_wp2_with fail
  refine (store_w A4 N c4 i (l1.set j u) _ v _ hm4 rfl i0 hN v0 v1).mono ?_
  rintro e w5 ⟨⟨A5, c5, rfl, hm5⟩, hb5⟩
  replace hm3 := hm3.on hb5
  have hb : Below w.heap.size w w5 := below_step (below_step (below_step (below_step (below_drewN hb1 _) hb2) hb3) hb4) hb5
  have hx : Hid (wd ((l1.set i v).set j u) j = u) := by
    show _ = _
    rw [wd_set _ _ _ _ (by rw [List.length_set, hm1.1]; exact j0), if_pos rfl]
  have HC : Hid (¬ i = j → (l1.set j u).set i v = (l1.set i v).set j u) := fun h => (List.set_comm _ _ h).symm
  generalize (l1.set i v).set j u = X at hm3 hx HC
  generalize (l1.set j u).set i v = Y at hm5 HC
  have HM := Lib.hid hm3
  have HB := Lib.hid hb
  clear hm1 hm2 hm3 hm4 hb hb1 hb2 hb3 hb4 hb5 bb
  have fin : ∀ q, Hid (Below w.heap.size w (w5.drewN q)) := fun q => below_drewN HB.out q
  by_cases hij : i = j
  subst hij
  go_wp2_with fail
  rotate_left
  have hne : ((i : Int) * 4 != (j : Int) * 4) = true := by simp; omega
  rw [HC.out hij] at hm5
  go_wp2_with (go_at_call 16; (with_reducible refine (same_refl _ _ _ _ _ _ _ HM.out hm5).mono ?_); rintro e w9 ⟨rfl, m9, rfl⟩)
  all_goals
    have HLD := Lib.hid (fun (t : Nat) (ht : t ≤ 3) q => (load_b A3 N c3 _ t X _ (w5.drewN q) (HM.out.drewN q) rfl ht j0 hN).mono (R' := fun e w' => e = .returned (.tuple #[.int .u32 (u / 256 ^ t % 256), .bool true]) ∧ ∃ m, w' = (w5.drewN q).drewN m) fun e w' ⟨he, hw⟩ => ⟨by rw [he, hx.out], hw⟩)
    clear hx HC hm5
    go_loopw [19, 20] (fun x kk wr => ∃ t q : Nat, t ≤ 4 ∧ kk = .int .u32 t ∧ x = .int .u32 (u % 256 ^ t) ∧ wr = w5.drewN q) (fun _ kk _ => 4 - (intOf kk).toNat)
    case atStart => first | exact ⟨0, m9, by omega, rfl, by simp, rfl⟩ | exact ⟨0, 0, by omega, rfl, by simp, rfl⟩
    case round =>
      obtain ⟨t, q, ht, rfl, rfl, rfl⟩ := hrel
      by_cases hlt : t < 4
      · have HOR := Lib.hid (or_byte u t u0 u1 (by omega))
        generalize hx : u % 256 ^ t = x at HOR ⊢
        clear hx
        go_wp2_with (go_at_call 12; refine (HLD.out t (by omega) q).mono ?_; rintro e w6 ⟨rfl, m6, rfl⟩)
        go_roundw
        case rel => exact ⟨t + 1, _, by omega, by go_num, by rw [HOR.out], rfl⟩
        case measure => simp [intOf]; omega
      · obtain rfl : t = 4 := by omega
        have e : u % 256 ^ 4 = u := by omega
        rw [e]
        clear e
        go_wp2_with (go_at_call 21; refine (HA.out _).mono ?_; rintro e w11 ⟨rfl, hb11⟩)
        go_ret
        exact ⟨rfl, below_step (below_drewN HB.out _) hb11⟩
theorem orders_row (a0 : Option Addr) (len0 cap0 : Nat) (z0 : List Int) (a1 a2 a3 a4 a5 : Int) (w : World) (w0 : IsRow .i64 w a0 len0 cap0 z0)
    (w1 : (Lit.int .i64 a1).wf = true) (w2 : (Lit.int .u32 a2).wf = true) (w3 : (Lit.int .u32 a3).wf = true) (w4 : (Lit.int .u32 a4).wf = true) (w5 : (Lit.int .u32 a5).wf = true) :
    Calls Try.prog 8 #[.slice a0 len0 cap0, .int .i64 a1, .int .u32 a2, .int .u32 a3, .int .u32 a4, .int .u32 a5] w fun e w' => e = .returned (.bool true) ∧ Below w.heap.size w w' :=
  orders_walk a0 len0 cap0 _ a1 a2 a3 a4 a5 w (row_ints w0) (wf_i64 w1).1 (wf_i64 w1).2 (wf_u32 w2).1 (wf_u32 w2).2 (wf_u32 w3).1 (wf_u32 w3).2 (wf_u32 w4).1 (wf_u32 w4).2 (wf_u32 w5).1 (wf_u32 w5).2
end Go.Proofs.Ytdjnloacjgcckaa
