import Derived.Test.YtbaepeccgjoiaaaDkIn
import Derived.Test.YtbaepeccgjoiaaaPmFn9
import Derived.Deep.RegionHeld
namespace Go.Proofs.Ytbaepeccgjoiaaa
set_option linter.unusedVariables false
set_option linter.unusedSimpArgs false
set_option maxRecDepth 20000
open Go.ChangeShapes Go.WideShapes Go.ChangeAt Go.RowKit Go.Proofs.Ytbaepeccgjoiaaa.Num Go.Proofs.Ytbaepeccgjoiaaa.Mem
/- The disk's controller: writing a port. -/
theorem dkPage_ref (A : Option Addr) (n c : Nat) (f : Int) (w : World) (hn : n ≤ 1024) (f0 : 0 ≤ f) (f1 : f ≤ 4294967295) :
    Calls Try.prog 32 #[.slice A n c, .int .u32 f] w fun e w' => e = .returned (.bool (decide (f < pagesN n))) ∧ ∃ m, w' = w.drewN m := by
  have hp := pagesN_le n
  have HP := Lib.hid (fun W => pages_ref A n c W (by omega))
  go_enter Try.func32, Try.ntmps32
  go_wp2_with (go_at_call 26; (with_reducible refine (HP.out _).mono ?_); rintro e w1 ⟨rfl, m1, rfl⟩)
  go_ret
  exact ⟨rfl, m1, rfl⟩
/-- The outputs of a port write: none, or one. -/
def Outs (n0 : Nat) (w : World) (sl : Value) (o : Option (Int × Int × Int × ByteArray)) : Prop :=
  match o with
  | none => sl = .slice none 0 0
  | some (k, a, b, d) => ∃ g, n0 ≤ g ∧ sl = .slice (some ⟨g, 0, none⟩) 1 1 ∧ InO w g k a b d
theorem Outs.off {n0 : Nat} {w : World} {sl : Value} {o : Option (Int × Int × Int × ByteArray)} (h : Outs n0 w sl o) {p : Addr} (v : Value) (hp : p.block < n0) : Outs n0 (w.setCell p v) sl o := by
  match o, h with
  | none, h => exact h
  | some (k, a, b, d), ⟨g, hg, hs, h⟩ =>
    have e : ∀ i, (w.setCell p v).cell? ⟨g, i, none⟩ = w.cell? ⟨g, i, none⟩ := fun i => World.cell?_setCell_far w p ⟨g, i, none⟩ v (by show p.block ≠ g; omega)
    exact ⟨g, hg, hs, (e 0).trans h.c0, (e 1).trans h.c1, (e 2).trans h.c2, (e 3).trans h.c3, fun i => by rw [World.frozen?_setCell]; exact h.z i⟩
theorem Outs.mono {n0 n1 : Nat} {w : World} {sl : Value} {o : Option (Int × Int × Int × ByteArray)} (h : Outs n1 w sl o) (hn : n0 ≤ n1) : Outs n0 w sl o := by
  match o, h with
  | none, h => exact h
  | some (k, a, b, d), ⟨g, hg, hs, h⟩ => exact ⟨g, Nat.le_trans hn hg, hs, h⟩
theorem Outs.on {n0 : Nat} {w w' : World} {sl : Value} {o : Option (Int × Int × Int × ByteArray)} (h : Outs n0 w sl o) (hb : Below w.heap.size w w') : Outs n0 w' sl o := by
  match o, h with
  | none, h => exact h
  | some (k, a, b, d), ⟨g, hg, hs, h⟩ => exact ⟨g, hg, hs, h.on hb⟩
/-- What a port write gives: the controller, the outputs. -/
def OutPost (B K F S C OB OF : Int) (D : ByteArray) (o : Option (Int × Int × Int × ByteArray)) (w : World) (e : Ending) (w' : World) : Prop :=
  (∃ sl, e = .returned (.tuple #[dkV B K F S C OB OF D, sl]) ∧ Outs w.heap.size w' sl o) ∧ Below w.heap.size w w'
theorem dkOut_block (B K F S C OB OF : Int) (D : ByteArray) (A : Option Addr) (n c : Nat) (p v a : Int) (w : World) (hp : p = 4) :
    Calls Try.prog 11 #[dkV B K F S C OB OF D, .slice A n c, .int .i64 p, .int .u32 v, .int .u64 a] w (OutPost B v F S C OB OF D none w) := by
  subst hp
  unfold dkV
  go_enter Try.func11, Try.ntmps11
  go_wp2_with (first
    | go_skip
    | fail)
  all_goals refine bodyPost_ret (v := .tuple #[.agg #[.int .u32 (B), .int .u32 (v), .int .u32 (F), .int .i64 (S), .int .i64 (C), .int .u32 (OB), .int .u32 (OF), .string D], .slice none 0 0]) (by rw [results_cell_tmp rfl]; go_simp) rfl ⟨⟨_, rfl, rfl⟩, by (repeat' (first | with_reducible exact Below.refl _ _ | with_reducible assumption | with_reducible apply below_drewN | with_reducible apply Below.drew | with_reducible apply Below.setCell | with_reducible apply Below.alloc | (simp; done) | omega | (simp; omega)))⟩
theorem dkOut_frame (B K F S C OB OF : Int) (D : ByteArray) (A : Option Addr) (n c : Nat) (p v a : Int) (w : World) (hp : p = 5) :
    Calls Try.prog 11 #[dkV B K F S C OB OF D, .slice A n c, .int .i64 p, .int .u32 v, .int .u64 a] w (OutPost B K v S C OB OF D none w) := by
  subst hp
  unfold dkV
  go_enter Try.func11, Try.ntmps11
  go_wp2_with (first
    | go_skip
    | fail)
  all_goals refine bodyPost_ret (v := .tuple #[.agg #[.int .u32 (B), .int .u32 (K), .int .u32 (v), .int .i64 (S), .int .i64 (C), .int .u32 (OB), .int .u32 (OF), .string D], .slice none 0 0]) (by rw [results_cell_tmp rfl]; go_simp) rfl ⟨⟨_, rfl, rfl⟩, by (repeat' (first | with_reducible exact Below.refl _ _ | with_reducible assumption | with_reducible apply below_drewN | with_reducible apply Below.drew | with_reducible apply Below.setCell | with_reducible apply Below.alloc | (simp; done) | omega | (simp; omega)))⟩
theorem dkOut_other (B K F S C OB OF : Int) (D : ByteArray) (A : Option Addr) (n c : Nat) (p v a : Int) (w : World) (h4 : ¬ p = 4) (h5 : ¬ p = 5) (h6 : ¬ p = 6) :
    Calls Try.prog 11 #[dkV B K F S C OB OF D, .slice A n c, .int .i64 p, .int .u32 v, .int .u64 a] w (OutPost B K F S C OB OF D none w) := by
  have e4 : (p == 4) = false := by rw [beq_eq_false_iff_ne]; omega
  have e5 : (p == 5) = false := by rw [beq_eq_false_iff_ne]; omega
  have e6 : (p != 6) = true := by simp; omega
  unfold dkV
  go_enter Try.func11, Try.ntmps11
  go_wp2_with (first
    | go_skip
    | fail)
  all_goals refine bodyPost_ret (v := .tuple #[.agg #[.int .u32 (B), .int .u32 (K), .int .u32 (F), .int .i64 (S), .int .i64 (C), .int .u32 (OB), .int .u32 (OF), .string D], .slice none 0 0]) (by rw [results_cell_tmp rfl]; go_simp) rfl ⟨⟨_, rfl, rfl⟩, by (repeat' (first | with_reducible exact Below.refl _ _ | with_reducible assumption | with_reducible apply below_drewN | with_reducible apply Below.drew | with_reducible apply Below.setCell | with_reducible apply Below.alloc | (simp; done) | omega | (simp; omega)))⟩
theorem dkOut_ack (B K F S C OB OF : Int) (D : ByteArray) (A : Option Addr) (n c : Nat) (v a : Int) (w : World) (hv : v = 0) (hS : S = 2 ∨ S = 3) :
    Calls Try.prog 11 #[dkV B K F S C OB OF D, .slice A n c, .int .i64 6, .int .u32 v, .int .u64 a] w (OutPost B K F 0 C OB OF D none w) := by
  unfold dkV
  subst hv
  rcases hS with rfl | rfl
  ·
    go_enter Try.func11, Try.ntmps11
    go_wp2_with (first
      | go_skip
      | fail)
    all_goals refine bodyPost_ret (v := .tuple #[.agg #[.int .u32 B, .int .u32 K, .int .u32 F, .int .i64 0, .int .i64 C, .int .u32 OB, .int .u32 OF, .string D], .slice none 0 0]) (by rw [results_cell_tmp rfl]; go_simp) rfl ⟨⟨_, rfl, rfl⟩, by (repeat' (first | with_reducible exact Below.refl _ _ | with_reducible assumption | with_reducible apply below_drewN | with_reducible apply Below.drew | with_reducible apply Below.setCell | with_reducible apply Below.alloc | (simp; done) | omega | (simp; omega)))⟩
  ·
    go_enter Try.func11, Try.ntmps11
    go_wp2_with (first
      | go_skip
      | fail)
    all_goals refine bodyPost_ret (v := .tuple #[.agg #[.int .u32 B, .int .u32 K, .int .u32 F, .int .i64 0, .int .i64 C, .int .u32 OB, .int .u32 OF, .string D], .slice none 0 0]) (by rw [results_cell_tmp rfl]; go_simp) rfl ⟨⟨_, rfl, rfl⟩, by (repeat' (first | with_reducible exact Below.refl _ _ | with_reducible assumption | with_reducible apply below_drewN | with_reducible apply Below.drew | with_reducible apply Below.setCell | with_reducible apply Below.alloc | (simp; done) | omega | (simp; omega)))⟩
theorem dkOut_idle0 (B K F S C OB OF : Int) (D : ByteArray) (A : Option Addr) (n c : Nat) (v a : Int) (w : World) (hv : v = 0) (h2 : ¬ S = 2) (h3 : ¬ S = 3) :
    Calls Try.prog 11 #[dkV B K F S C OB OF D, .slice A n c, .int .i64 6, .int .u32 v, .int .u64 a] w (OutPost B K F S C OB OF D none w) := by
  unfold dkV
  subst hv
  have e2 : (S == 2) = false := by rw [beq_eq_false_iff_ne]; exact h2
  have e3 : (S == 3) = false := by rw [beq_eq_false_iff_ne]; exact h3
  all_goals
    go_enter Try.func11, Try.ntmps11
    go_wp2_with (first
      | go_skip
      | fail)
    all_goals refine bodyPost_ret (v := .tuple #[.agg #[.int .u32 B, .int .u32 K, .int .u32 F, .int .i64 S, .int .i64 C, .int .u32 OB, .int .u32 OF, .string D], .slice none 0 0]) (by rw [results_cell_tmp rfl]; go_simp) rfl ⟨⟨_, rfl, rfl⟩, by (repeat' (first | with_reducible exact Below.refl _ _ | with_reducible assumption | with_reducible apply below_drewN | with_reducible apply Below.drew | with_reducible apply Below.setCell | with_reducible apply Below.alloc | (simp; done) | omega | (simp; omega)))⟩
theorem dkOut_idleX (B K F S C OB OF : Int) (D : ByteArray) (A : Option Addr) (n c : Nat) (v a : Int) (w : World) (h0 : ¬ v = 0) (h1 : ¬ v = 1) (h2 : ¬ v = 2) :
    Calls Try.prog 11 #[dkV B K F S C OB OF D, .slice A n c, .int .i64 6, .int .u32 v, .int .u64 a] w (OutPost B K F S C OB OF D none w) := by
  unfold dkV
  have e0 : (v == 0) = false := by rw [beq_eq_false_iff_ne]; exact h0
  have e1 : (v == 1) = false := by rw [beq_eq_false_iff_ne]; exact h1
  have e2 : (v == 2) = false := by rw [beq_eq_false_iff_ne]; exact h2
  all_goals
    go_enter Try.func11, Try.ntmps11
    go_wp2_with (first
      | go_skip
      | fail)
    all_goals refine bodyPost_ret (v := .tuple #[.agg #[.int .u32 B, .int .u32 K, .int .u32 F, .int .i64 S, .int .i64 C, .int .u32 OB, .int .u32 OF, .string D], .slice none 0 0]) (by rw [results_cell_tmp rfl]; go_simp) rfl ⟨⟨_, rfl, rfl⟩, by (repeat' (first | with_reducible exact Below.refl _ _ | with_reducible assumption | with_reducible apply below_drewN | with_reducible apply Below.drew | with_reducible apply Below.setCell | with_reducible apply Below.alloc | (simp; done) | omega | (simp; omega)))⟩
theorem dkOut_busy (B K F S C OB OF : Int) (D : ByteArray) (A : Option Addr) (n c : Nat) (v a : Int) (w : World) (hv : v = 1 ∨ v = 2) (hS : ¬ S = 0) :
    Calls Try.prog 11 #[dkV B K F S C OB OF D, .slice A n c, .int .i64 6, .int .u32 v, .int .u64 a] w (OutPost B K F S C OB OF D none w) := by
  unfold dkV
  have e0 : (S == 0) = false := by rw [beq_eq_false_iff_ne]; exact hS
  rcases hv with rfl | rfl
  ·
    go_enter Try.func11, Try.ntmps11
    go_wp2_with (first
      | go_skip
      | fail)
    all_goals refine bodyPost_ret (v := .tuple #[.agg #[.int .u32 B, .int .u32 K, .int .u32 F, .int .i64 S, .int .i64 C, .int .u32 OB, .int .u32 OF, .string D], .slice none 0 0]) (by rw [results_cell_tmp rfl]; go_simp) rfl ⟨⟨_, rfl, rfl⟩, by (repeat' (first | with_reducible exact Below.refl _ _ | with_reducible assumption | with_reducible apply below_drewN | with_reducible apply Below.drew | with_reducible apply Below.setCell | with_reducible apply Below.alloc | (simp; done) | omega | (simp; omega)))⟩
  ·
    go_enter Try.func11, Try.ntmps11
    go_wp2_with (first
      | go_skip
      | fail)
    all_goals refine bodyPost_ret (v := .tuple #[.agg #[.int .u32 B, .int .u32 K, .int .u32 F, .int .i64 S, .int .i64 C, .int .u32 OB, .int .u32 OF, .string D], .slice none 0 0]) (by rw [results_cell_tmp rfl]; go_simp) rfl ⟨⟨_, rfl, rfl⟩, by (repeat' (first | with_reducible exact Below.refl _ _ | with_reducible assumption | with_reducible apply below_drewN | with_reducible apply Below.drew | with_reducible apply Below.setCell | with_reducible apply Below.alloc | (simp; done) | omega | (simp; omega)))⟩
set_option maxHeartbeats 1000000 in
theorem dkOut_error (B K F S C OB OF : Int) (D : ByteArray) (A : Option Addr) (n c : Nat) (v a : Int) (w : World) (hn : n ≤ 1024) (F0 : 0 ≤ F) (F1 : F ≤ 4294967295) (hv : v = 1 ∨ v = 2) (hS : S = 0) (ho : ¬ (K < B ∧ F < pagesN n)) :
    Calls Try.prog 11 #[dkV B K F S C OB OF D, .slice A n c, .int .i64 6, .int .u32 v, .int .u64 a] w (OutPost B K F 3 C OB OF D none w) := by
  unfold dkV
  subst hS
  have HPG := Lib.hid (fun W => dkPage_ref A n c F W hn F0 F1)
  by_cases hK : K < B
  · rw [decide_eq_false (show ¬ F < pagesN n from fun h => ho ⟨hK, h⟩)] at HPG
    clear ho
    rcases hv with rfl | rfl
    ·
      go_enter Try.func11, Try.ntmps11
      go_wp2_with (first
        | go_skip
        | (go_at_call 32; (with_reducible refine (HPG.out _).mono ?_); rintro e w1 ⟨rfl, m1, rfl⟩))
      all_goals refine bodyPost_ret (v := .tuple #[.agg #[.int .u32 B, .int .u32 K, .int .u32 F, .int .i64 3, .int .i64 C, .int .u32 OB, .int .u32 OF, .string D], .slice none 0 0]) (by rw [results_cell_tmp rfl]; go_simp) rfl ⟨⟨_, rfl, rfl⟩, by (repeat' (first | with_reducible exact Below.refl _ _ | with_reducible assumption | with_reducible apply below_drewN | with_reducible apply Below.drew | with_reducible apply Below.setCell | with_reducible apply Below.alloc | (simp; done) | omega | (simp; omega)))⟩
    ·
      go_enter Try.func11, Try.ntmps11
      go_wp2_with (first
        | go_skip
        | (go_at_call 32; (with_reducible refine (HPG.out _).mono ?_); rintro e w1 ⟨rfl, m1, rfl⟩))
      all_goals refine bodyPost_ret (v := .tuple #[.agg #[.int .u32 B, .int .u32 K, .int .u32 F, .int .i64 3, .int .i64 C, .int .u32 OB, .int .u32 OF, .string D], .slice none 0 0]) (by rw [results_cell_tmp rfl]; go_simp) rfl ⟨⟨_, rfl, rfl⟩, by (repeat' (first | with_reducible exact Below.refl _ _ | with_reducible assumption | with_reducible apply below_drewN | with_reducible apply Below.drew | with_reducible apply Below.setCell | with_reducible apply Below.alloc | (simp; done) | omega | (simp; omega)))⟩
  · have hK' : B ≤ K := by omega
    have dK : decide (B ≤ K) = true := decide_eq_true hK'
    clear ho HPG hK
    rcases hv with rfl | rfl
    ·
      go_enter Try.func11, Try.ntmps11
      go_wp2_with (first
        | go_skip
        | fail)
      all_goals refine bodyPost_ret (v := .tuple #[.agg #[.int .u32 B, .int .u32 K, .int .u32 F, .int .i64 3, .int .i64 C, .int .u32 OB, .int .u32 OF, .string D], .slice none 0 0]) (by rw [results_cell_tmp rfl]; go_simp) rfl ⟨⟨_, rfl, rfl⟩, by (repeat' (first | with_reducible exact Below.refl _ _ | with_reducible assumption | with_reducible apply below_drewN | with_reducible apply Below.drew | with_reducible apply Below.setCell | with_reducible apply Below.alloc | (simp; done) | omega | (simp; omega)))⟩
    ·
      go_enter Try.func11, Try.ntmps11
      go_wp2_with (first
        | go_skip
        | fail)
      all_goals refine bodyPost_ret (v := .tuple #[.agg #[.int .u32 B, .int .u32 K, .int .u32 F, .int .i64 3, .int .i64 C, .int .u32 OB, .int .u32 OF, .string D], .slice none 0 0]) (by rw [results_cell_tmp rfl]; go_simp) rfl ⟨⟨_, rfl, rfl⟩, by (repeat' (first | with_reducible exact Below.refl _ _ | with_reducible assumption | with_reducible apply below_drewN | with_reducible apply Below.drew | with_reducible apply Below.setCell | with_reducible apply Below.alloc | (simp; done) | omega | (simp; omega)))⟩
end Go.Proofs.Ytbaepeccgjoiaaa
