import Derived.Test.YtbaepeccgjoiaaaFn
import Derived.Test.YtbaepeccgjoiaaaMem
import Derived.Below
import Derived.IntWalk
import Derived.Lib.Hide
import Derived.Laws.ResultCell
namespace Go.Proofs.Ytbaepeccgjoiaaa
set_option linter.unusedVariables false
set_option linter.unusedSimpArgs false
open Go.ChangeShapes Go.WideShapes Go.ChangeAt Go.RowKit Go.Proofs.Ytbaepeccgjoiaaa.Num Go.Proofs.Ytbaepeccgjoiaaa.Mem
/- The disk's controller: values, what the reference gives. -/
/-- A controller: blocks; the registers block and frame; state; the command with its block, frame and data. -/
def dkV (B K F S C OB OF : Int) (D : ByteArray) : Value := .agg #[.int .u32 B, .int .u32 K, .int .u32 F, .int .i64 S, .int .i64 C, .int .u32 OB, .int .u32 OF, .string D]
/-- An output. -/
def otV (K A B : Int) (D : ByteArray) : Value := .agg #[.int .i64 K, .int .u64 A, .int .u32 B, .string D]
/-- The value of a port. -/
def dkIn (K F S p : Int) : Int := if p = 4 then K else if p = 5 then F else if p = 6 then S % 4294967296 else 0
/-- A request is out. -/
def dkRq (S C : Int) : Bool := decide (S = 1 ∧ (C = 1 ∨ C = 2))
def dkRqK (S C : Int) : Int := if S = 1 ∧ C = 1 then 3 else if S = 1 ∧ C = 2 then 4 else 0
def dkRqA (S C a : Int) : Int := if S = 1 ∧ (C = 1 ∨ C = 2) then a else 0
def dkRqD (S C : Int) (D : ByteArray) : ByteArray := if S = 1 ∧ C = 2 then D else ⟨#[]⟩
theorem ret_u32D {a b : Int} (h : a = b) : Ending.returned (.int .u32 a) = .returned (.int .u32 b) := by rw [h]
theorem dkIn_ref (B K F S C OB OF : Int) (D : ByteArray) (p : Int) (w : World) :
    Calls Try.prog 15 #[dkV B K F S C OB OF D, .int .i64 p] w fun e w' => e = .returned (.int .u32 (dkIn K F S p)) ∧ Below w.heap.size w w' := by
  unfold dkV
  go_enter Try.func15, Try.ntmps15
  go_wp2
  all_goals go_ret
  all_goals exact ⟨ret_u32D (by simp_all [dkIn]), by (repeat' (first | with_reducible exact Below.refl _ _ | with_reducible assumption | with_reducible apply below_drewN | with_reducible apply Below.drew | with_reducible apply Below.setCell | with_reducible apply Below.alloc | (simp; done) | omega | (simp; omega)))⟩
theorem dkPend_ref (B K F S C OB OF : Int) (D : ByteArray) (w : World) :
    Calls Try.prog 23 #[dkV B K F S C OB OF D] w fun e w' => e = .returned (.bool (decide (S = 2 ∨ S = 3))) ∧ Below w.heap.size w w' := by
  unfold dkV
  by_cases h2 : S = 2
  · subst h2
    go_enter Try.func23, Try.ntmps23
    go_wp2_with (first | go_skip | fail)
    all_goals go_ret
    all_goals exact ⟨ret_bool (by simp), by (repeat' (first | with_reducible exact Below.refl _ _ | with_reducible assumption | with_reducible apply below_drewN | with_reducible apply Below.drew | with_reducible apply Below.setCell | with_reducible apply Below.alloc | (simp; done) | omega | (simp; omega)))⟩
  · have h2' : (S == 2) = false := by rw [beq_eq_false_iff_ne]; exact h2
    go_enter Try.func23, Try.ntmps23
    go_wp2
    all_goals go_ret
    all_goals exact ⟨ret_bool (by rw [Bool.eq_iff_iff]; simp [h2]), by (repeat' (first | with_reducible exact Below.refl _ _ | with_reducible assumption | with_reducible apply below_drewN | with_reducible apply Below.drew | with_reducible apply Below.setCell | with_reducible apply Below.alloc | (simp; done) | omega | (simp; omega)))⟩
theorem ret_ot {K K' A A' B B' : Int} {D D' : ByteArray} {b b' : Bool} (h1 : K = K') (h2 : A = A') (h3 : B = B') (h4 : D = D') (h5 : b = b') : Ending.returned (.tuple #[.agg #[.int .i64 K, .int .u64 A, .int .u32 B, .string D], .bool b]) = .returned (.tuple #[otV K' A' B' D', .bool b']) := by rw [h1, h2, h3, h4, h5]; rfl
theorem dkReq_ref (B K F S C OB OF : Int) (D : ByteArray) (at' : Int) (w : World) :
    Calls Try.prog 13 #[dkV B K F S C OB OF D, .int .u64 at'] w fun e w' => e = .returned (.tuple #[otV (dkRqK S C) (dkRqA S C at') (dkRqA S C OB) (dkRqD S C D), .bool (dkRq S C)]) ∧ Below w.heap.size w w' := by
  unfold dkV
  by_cases h1 : S = 1
  · by_cases c1 : C = 1
    · subst h1 c1
      go_enter Try.func13, Try.ntmps13
      go_wp2
      refine bodyPost_ret (v := .tuple #[.agg #[.int .i64 3, .int .u64 at', .int .u32 OB, .string ⟨#[]⟩], .bool true]) (by rw [results_cell_tmp rfl]; go_simp) rfl ⟨ret_ot rfl rfl rfl rfl rfl, by (repeat' (first | with_reducible exact Below.refl _ _ | with_reducible assumption | with_reducible apply below_drewN | with_reducible apply Below.drew | with_reducible apply Below.setCell | with_reducible apply Below.alloc | (simp; done) | omega | (simp; omega)))⟩
    · by_cases c2 : C = 2
      · subst h1 c2
        go_enter Try.func13, Try.ntmps13
        go_wp2
        refine bodyPost_ret (v := .tuple #[.agg #[.int .i64 4, .int .u64 at', .int .u32 OB, .string D], .bool true]) (by rw [results_cell_tmp rfl]; go_simp) rfl ⟨ret_ot rfl rfl rfl rfl rfl, by (repeat' (first | with_reducible exact Below.refl _ _ | with_reducible assumption | with_reducible apply below_drewN | with_reducible apply Below.drew | with_reducible apply Below.setCell | with_reducible apply Below.alloc | (simp; done) | omega | (simp; omega)))⟩
      · subst h1
        have e1 : (C == 1) = false := by rw [beq_eq_false_iff_ne]; exact c1
        have e2 : (C == 2) = false := by rw [beq_eq_false_iff_ne]; exact c2
        go_enter Try.func13, Try.ntmps13
        go_wp2
        refine bodyPost_ret (v := .tuple #[.agg #[.int .i64 0, .int .u64 0, .int .u32 0, .string ⟨#[]⟩], .bool false]) (by rw [results_cell_tmp rfl]; go_simp) rfl ⟨ret_ot (by simp [dkRqK, c1, c2]) (by simp [dkRqA, c1, c2]) (by simp [dkRqA, c1, c2]) (by simp [dkRqD, c2]) (by simp [dkRq, c1, c2]), by (repeat' (first | with_reducible exact Below.refl _ _ | with_reducible assumption | with_reducible apply below_drewN | with_reducible apply Below.drew | with_reducible apply Below.setCell | with_reducible apply Below.alloc | (simp; done) | omega | (simp; omega)))⟩
  · have e1 : (S == 1) = false := by rw [beq_eq_false_iff_ne]; exact h1
    have e2 : (S != 1) = true := by simpa using h1
    go_enter Try.func13, Try.ntmps13
    go_wp2
    refine bodyPost_ret (v := .tuple #[.agg #[.int .i64 0, .int .u64 0, .int .u32 0, .string ⟨#[]⟩], .bool false]) (by rw [results_cell_tmp rfl]; go_simp) rfl ⟨ret_ot (by simp [dkRqK, h1]) (by simp [dkRqA, h1]) (by simp [dkRqA, h1]) (by simp [dkRqD, h1]) (by simp [dkRq, h1]), by (repeat' (first | with_reducible exact Below.refl _ _ | with_reducible assumption | with_reducible apply below_drewN | with_reducible apply Below.drew | with_reducible apply Below.setCell | with_reducible apply Below.alloc | (simp; done) | omega | (simp; omega)))⟩
/-- Whether a controller of a machine may be in this state. -/
def dkMay (B S C OB OF : Int) (D : ByteArray) (p : Int) : Bool :=
  decide (B ≤ 64 ∧ 0 ≤ S ∧ S ≤ 3 ∧ (S = 1 → OB < B ∧ OF < p ∧ ((C = 1 ∧ D.size = 0) ∨ (C = 2 ∧ D.size = 128))) ∧ (¬ S = 1 → C = 0 ∧ OB = 0 ∧ OF = 0 ∧ D.size = 0))
theorem empty_is (s : ByteArray) : s.toList.isEmpty = decide (s.size = 0) := by
  have h : s.toList.length = s.size := by rw [ByteArray.toList_eq]; simp
  cases hs : s.toList with
  | nil => rw [hs] at h; simp at h; simp [← h]
  | cons x l => rw [hs] at h; simp at h; simp [← h]
theorem empty_nil (s : ByteArray) : s.toList = [] ↔ s.size = 0 := by
  have h := empty_is s
  cases hs : s.toList with
  | nil => rw [hs] at h; simp at h; simp [h]
  | cons x l => rw [hs] at h; simp at h; simp; exact h
theorem dkMay_ref (B K F S C OB OF : Int) (D : ByteArray) (p : Int) (w : World) (o0 : 0 ≤ OF) (o1 : OF ≤ 4294967295) :
    Calls Try.prog 25 #[dkV B K F S C OB OF D, .int .i64 p] w fun e w' => e = .returned (.bool (dkMay B S C OB OF D p)) ∧ Below w.heap.size w w' := by
  have hE := Lib.hid (empty_is D)
  have HB : Hid (∀ b : Bool, (b = true ↔ (B ≤ 64 ∧ 0 ≤ S ∧ S ≤ 3 ∧ (S = 1 → OB < B ∧ OF < p ∧ ((C = 1 ∧ D.size = 0) ∨ (C = 2 ∧ D.size = 128))) ∧ (¬ S = 1 → C = 0 ∧ OB = 0 ∧ OF = 0 ∧ D.size = 0))) → b = dkMay B S C OB OF D p) := fun b h => by
    unfold dkMay; rw [Bool.eq_iff_iff, decide_eq_true_iff]; exact h
  generalize dkMay B S C OB OF D p = M at *
  unfold dkV
  go_enter Try.func25, Try.ntmps25
  go_wp2
  all_goals go_ret
  all_goals refine ⟨ret_bool (HB.out _ ?_), by (repeat' (first | with_reducible exact Below.refl _ _ | with_reducible assumption | with_reducible apply below_drewN | with_reducible apply Below.drew | with_reducible apply Below.setCell | with_reducible apply Below.alloc | (simp; done) | omega | (simp; omega)))⟩
  all_goals (have hE := hE.out; have hN := empty_nil D; simp only [hE, hN, Bool.false_eq_true, false_iff, beq_iff_eq, bne_iff_ne, bne_eq_false_iff_eq, beq_eq_false_iff_ne, decide_eq_true_eq, decide_eq_false_iff_not, true_iff, ne_eq] at *)
  all_goals omega
end Go.Proofs.Ytbaepeccgjoiaaa
