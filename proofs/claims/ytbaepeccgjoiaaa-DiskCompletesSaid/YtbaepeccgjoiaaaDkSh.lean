import Derived.Test.YtbaepeccgjoiaaaDkOth
import Derived.Test.YtbaepeccgjoiaaaDkMk
namespace Go.Proofs.Ytbaepeccgjoiaaa
set_option linter.unusedVariables false
set_option linter.unusedSimpArgs false
set_option maxRecDepth 20000
open Go.ChangeShapes Go.WideShapes Go.ChangeAt Go.RowKit Go.Proofs.Ytbaepeccgjoiaaa.Num Go.Proofs.Ytbaepeccgjoiaaa.Mem
/-- A memory that the law has made: 1 to 6 pages, the call's own. -/
def WordsPost (r : Nat) (w : World) (e : Ending) (w' : World) : Prop :=
  (∃ g c l, e = .returned (.slice (some ⟨g, 0, none⟩) (32 * (1 + r)) c) ∧ w.heap.size ≤ g ∧ 32 * (1 + r) ≤ c ∧ l.length = 32 * (1 + r) ∧ U32 l ∧ Own w' g l) ∧ Below w.heap.size w w'
theorem words_end {r N c g : Nat} {w w' : World} {l : List Int} (hN : N = 32 * (1 + r)) (hl : l.length = N) (ho : Own w' g l) (hu : U32 l) (hb : Below w.heap.size w w') (hc : N ≤ c) (hg : w.heap.size ≤ g) : WordsPost r w (.returned (.slice (some ⟨g, 0, none⟩) N c)) w' := by
  subst hN
  exact ⟨⟨g, c, l, rfl, hg, hc, hl, hu, ho⟩, hb⟩
set_option maxRecDepth 100000 in
theorem words_any (x p : Int) (r : Nat) (w : World) (x0 : -9223372036854775808 ≤ x) (x1 : x ≤ 9223372036854775807) (p0 : -9223372036854775808 ≤ p) (p1 : p ≤ 9223372036854775807) (hr : p % 6 = (r : Int)) :
    Calls Try.prog 8 #[.int .i64 x, .int .i64 p] w (WordsPost r w) := by
  have hr5 : r ≤ 5 := by omega
  have HR := Lib.hid (fun W => round_any p 6 W (by omega) (by omega) (by omega) (by omega))
  rw [hr] at HR
  have HN := Lib.hid (fun W => new_made r W (by omega))
  have HMX := Lib.hid (fun (j : Nat) W (hj : j ≤ 1000) => mix_any x ((j : Nat) : Int) W x0 x1 (by omega) (by omega))
  clear hr
  go_enter Try.func8, Try.ntmps8
  go_wp2_with (first | (go_at_call 9; refine (HR.out _).mono ?_; rintro e w1 ⟨rfl, rfl⟩) | (go_at_call 30; refine (HN.out _).mono ?_; rintro e w1 ⟨⟨l1, c1, rfl, hc1, hl1, hu1, ho1⟩, hb1⟩))
  obtain ⟨N, HNN⟩ : ∃ N, Hid (N = 32 * (1 + r)) := ⟨_, rfl⟩
  rw [← HNN.out] at hc1 hl1 ⊢
  have hN : N ≤ 192 := by rw [HNN.out]; omega
  have HU := Lib.hid hu1
  have HO := Lib.hid ho1
  have HB := Lib.hid hb1
  clear hu1 ho1 hb1
  go_loopw [6] (fun i wr => ∃ (j : Nat) (l : List Int), j ≤ N ∧ i = .int .i64 j ∧ Hid (l.length = N) ∧ U32 l ∧ Own wr w.heap.size l ∧ Below w.heap.size w wr) (fun i _ => N - (intOf i).toNat)
  case atStart => exact ⟨0, l1, by omega, rfl, hl1, HU.out, HO.out, HB.out⟩
  case round =>
    obtain ⟨j, l, hjk, rfl, hl, hu, ho, hb⟩ := hrel
    by_cases hlt : j < N
    · have HM := Lib.hid (fun W => HMX.out j W (by omega))
      have hy := mixK_bd x ((j : Nat) : Int)
      generalize mixK x ((j : Nat) : Int) = y at hy HM
      have hcell := ho.cell (i := j) (by rw [hl.out]; omega)
      have hfree := ho.free j
      have HO2 := Lib.hid ho
      have HU2 := Lib.hid hu
      have HB2 := Lib.hid hb
      clear ho hu hb
      go_wp2_with (go_at_call 29; (with_reducible refine (HM.out _).mono ?_); rintro e w1 ⟨rfl, rfl⟩)
      go_roundw
      case rel => exact ⟨j + 1, l.set j _, by omega, by go_num, (by rw [List.length_set]; exact hl.out : (l.set j _).length = N), HU2.out.set j (Int.emod_nonneg _ (by omega)) (by omega), HO2.out.set (by rw [hl.out]; exact hlt) _, (HB2.out.setCell (Nat.le_refl _) _)⟩
      case measure => simp [intOf]; omega
    · have HO2 := Lib.hid ho
      have HU2 := Lib.hid hu
      have HB2 := Lib.hid hb
      clear ho hu hb
      go_wp2
      go_ret
      exact words_end HNN.out hl.out HO2.out HU2.out HB2.out hc1 (Nat.le_refl _)
/-- The controller of the law: what came in, or one made from a number. -/
def ShPost (w : World) (e : Ending) (w' : World) : Prop :=
  (∃ B K F S C OB OF D, e = .returned (dkV B K F S C OB OF D) ∧ 0 ≤ F ∧ F ≤ 4294967295 ∧ 0 ≤ OF ∧ OF ≤ 4294967295) ∧ Below w.heap.size w w'
set_option maxHeartbeats 1000000 in
theorem shapedD_any (B K F S C OB OF : Int) (D : ByteArray) (raw : Bool) (x : Int) (w : World) (x0 : -9223372036854775808 ≤ x) (x1 : x ≤ 9223372036854775807) (F0 : 0 ≤ F) (F1 : F ≤ 4294967295) (o0 : 0 ≤ OF) (o1 : OF ≤ 4294967295) :
    Calls Try.prog 7 #[dkV B K F S C OB OF D, .bool raw, .int .i64 x] w (ShPost w) := by
  have HM := Lib.hid (fun W => mix_any x 11 W x0 x1 (by omega) (by omega))
  have hv := mixK_bd x 11
  generalize mixK x 11 = v at hv HM
  have HD := Lib.hid (fun W => show Calls Try.prog 28 #[.int .i64 v, .int .i64 128] W fun e w' => e = .returned (.string (datS v 128)) ∧ Below W.heap.size W w' from dat_any v 128 W (by omega) (by omega) (by omega))
  generalize datS v 128 = D1 at *
  unfold dkV ShPost
  by_cases hraw : raw = true ∧ (D.size : Int) ≤ 300
  · obtain ⟨rfl, hs⟩ := hraw
    have F0 := Lib.hid F0
    go_enter Try.func7, Try.ntmps7
    go_wp2_with (first | go_skip | fail)
    refine bodyPost_ret (v := .agg #[.int .u32 B, .int .u32 K, .int .u32 F, .int .i64 S, .int .i64 C, .int .u32 OB, .int .u32 OF, .string D]) (by rw [results_oneE rfl]; go_simp) rfl ⟨⟨_, _, _, _, _, _, _, _, rfl, F0.out, F1, o0, o1⟩, by (repeat' (first | with_reducible exact Below.refl _ _ | with_reducible assumption | with_reducible apply below_drewN | with_reducible apply Below.drew | with_reducible apply Below.setCell | with_reducible apply Below.alloc | (simp; done) | omega | (simp; omega)))⟩
  · have hr : raw = false ∨ (raw = true ∧ ¬ (D.size : Int) ≤ 300) := by cases raw <;> simp_all
    clear hraw
    rcases hr with rfl | ⟨rfl, hs⟩
    all_goals
      go_enter Try.func7, Try.ntmps7
      go_wp2_with (first
        | go_skip
        | (go_at_call 29; (with_reducible refine (HM.out _).mono ?_); rintro e w1 ⟨rfl, rfl⟩)
        | (go_at_call 28; (with_reducible refine (HD.out _).mono ?_); rintro e w5 ⟨rfl, hb5⟩; have X : InD w5 w.heap.size 4 (bits .and .i64 v 7 % 4294967296) (bits .and .i64 (v / 8) 7 % 4294967296) (bits .and .i64 (v / 64) 3) (wrap64 (1 + bits .and .i64 (v / 256) 1)) (bits .and .i64 (v / 512) 3 % 4294967296) (bits .and .i64 (v / 2048) 3 % 4294967296) ⟨#[]⟩ := InD.on ⟨by simp [go_sem], by simp [go_sem], by simp [go_sem], by simp [go_sem], by simp [go_sem], by simp [go_sem], by simp [go_sem], by simp [go_sem], fun i => by simp [go_sem]⟩ hb5; have Y : InD w5 (w.heap.size + 1) 0 0 0 0 0 0 0 ⟨#[]⟩ := InD.on ⟨by simp [go_sem], by simp [go_sem], by simp [go_sem], by simp [go_sem], by simp [go_sem], by simp [go_sem], by simp [go_sem], by simp [go_sem], fun i => by simp [go_sem]⟩ hb5; have b5 : Below w.heap.size w w5 := Below.trans (by (repeat' (first | with_reducible exact Below.refl _ _ | with_reducible assumption | with_reducible apply below_drewN | with_reducible apply Below.drew | with_reducible apply Below.setCell | with_reducible apply Below.alloc | (simp; done) | omega | (simp; omega)))) (hb5.mono (by simp <;> omega)); clear hb5; have l5 := Y.lt; obtain ⟨p0, p1, p2, p3, p4, p5, p6, p7, pz⟩ := X; have q7 := pz 7; obtain ⟨y0, y1, y2, y3, y4, y5, y6, y7, yz⟩ := Y; have z0 := yz 0; have z1 := yz 1; have z2 := yz 2; have z3 := yz 3; have z4 := yz 4; have z5 := yz 5; have z6 := yz 6; have z7 := yz 7))
      · refine bodyPost_ret (v := .agg #[.int .u32 4, .int .u32 (bits .and .i64 v 7 % 4294967296), .int .u32 (bits .and .i64 (v / 8) 7 % 4294967296), .int .i64 (bits .and .i64 (v / 64) 3), .int .i64 (wrap64 (1 + bits .and .i64 (v / 256) 1)), .int .u32 (bits .and .i64 (v / 512) 3 % 4294967296), .int .u32 (bits .and .i64 (v / 2048) 3 % 4294967296), .string D1]) (by rw [results_oneE rfl]; go_simp) rfl ⟨⟨_, _, _, _, _, _, _, _, rfl, by omega, by omega, by omega, by omega⟩, by (repeat' (first | with_reducible exact Below.refl _ _ | with_reducible assumption | with_reducible apply below_drewN | with_reducible apply Below.drew | with_reducible apply Below.setCell | with_reducible apply Below.alloc | (simp; done) | omega | (simp; omega)))⟩
      · refine bodyPost_ret (v := .agg #[.int .u32 4, .int .u32 (bits .and .i64 v 7 % 4294967296), .int .u32 (bits .and .i64 (v / 8) 7 % 4294967296), .int .i64 (bits .and .i64 (v / 64) 3), .int .i64 (wrap64 (1 + bits .and .i64 (v / 256) 1)), .int .u32 (bits .and .i64 (v / 512) 3 % 4294967296), .int .u32 (bits .and .i64 (v / 2048) 3 % 4294967296), .string ⟨#[]⟩]) (by rw [results_oneE rfl]; go_simp) rfl ⟨⟨_, _, _, _, _, _, _, _, rfl, by omega, by omega, by omega, by omega⟩, by (repeat' (first | with_reducible exact Below.refl _ _ | with_reducible assumption | with_reducible apply below_drewN | with_reducible apply Below.drew | with_reducible apply Below.setCell | with_reducible apply Below.alloc | (simp; done) | omega | (simp; omega)))⟩
      · refine bodyPost_ret (v := .agg #[.int .u32 4, .int .u32 (bits .and .i64 v 7 % 4294967296), .int .u32 (bits .and .i64 (v / 8) 7 % 4294967296), .int .i64 (bits .and .i64 (v / 64) 3), .int .i64 0, .int .u32 0, .int .u32 0, .string ⟨#[]⟩]) (by rw [results_oneE rfl]; go_simp) rfl ⟨⟨_, _, _, _, _, _, _, _, rfl, by omega, by omega, by omega, by omega⟩, by (repeat' (first | with_reducible exact Below.refl _ _ | with_reducible assumption | with_reducible apply below_drewN | with_reducible apply Below.drew | with_reducible apply Below.setCell | with_reducible apply Below.alloc | (simp; done) | omega | (simp; omega)))⟩
end Go.Proofs.Ytbaepeccgjoiaaa
