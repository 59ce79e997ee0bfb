import Derived.Test.YtackgjmmeojpiaaPmMem
import Derived.IntWalk
namespace Go.Proofs.Ytackgjmmeojpiaa
set_option linter.unusedVariables false
set_option linter.unusedSimpArgs false
open Go.ChangeShapes Go.WideShapes Go.ChangeAt Go.RowKit Go.Proofs.Ytackgjmmeojpiaa.Num Go.Proofs.Ytackgjmmeojpiaa.Mem
/-- The pages of a list of n words. -/
def pagesN (n : Nat) : Nat := if n % 32 = 0 ∧ n ≤ 1024 then n / 32 else 0
theorem pagesN_le (n : Nat) : pagesN n ≤ 32 ∧ 32 * pagesN n ≤ n := by unfold pagesN; split <;> omega
theorem pagesN_mul (n : Nat) : pagesN n = 0 ∨ 32 * pagesN n = n := by unfold pagesN; split <;> omega
/-- The accesses that are possible. -/
def okB (n : Nat) (a size : Int) : Bool := decide ((size = 1 ∨ size = 4) ∧ a % size = 0 ∧ 0 < pagesN n ∧ a / 4 < n)
theorem okB_true {n : Nat} {a size : Int} (h : okB n a size = true) : (size = 1 ∨ size = 4) ∧ a % size = 0 ∧ 0 < pagesN n ∧ a / 4 < n := by simpa [okB] using h
theorem okB_false {n : Nat} {a size : Int} (h : okB n a size = false) : ¬ ((size = 1 ∨ size = 4) ∧ a % size = 0 ∧ 0 < pagesN n ∧ a / 4 < n) := by simpa [okB] using h
theorem count_any (p : Int) (w : World) :
    Calls Try.prog 52 #[.int .i64 p] w fun e w' => e = .returned (.bool (decide (1 ≤ p ∧ p ≤ 32))) ∧ ∃ m, w' = w.drewN m := by
  go_enter Try.func52, Try.ntmps52
  go_wp2
  all_goals go_ret
  all_goals refine ⟨ret_bool ?_, 0, rfl⟩
  all_goals simp
  all_goals omega
theorem pages_any (A : Option Addr) (n c : Nat) (w : World) (hn : n ≤ 1000000) :
    Calls Try.prog 46 #[.slice A n c] w fun e w' => e = .returned (.int .i64 (pagesN n)) ∧ ∃ m, w' = w.drewN m := by
  go_enter Try.func46, Try.ntmps46
  go_wp2_with (go_at_call 52; refine (count_any _ _).mono ?_; rintro e w1 ⟨rfl, m1, rfl⟩)
  all_goals go_ret
  all_goals first | refine ⟨ret_int ?_, m1, rfl⟩ | refine ⟨ret_int ?_, 0, rfl⟩
  all_goals (unfold pagesN; split <;> simp_all <;> omega)
theorem pages_ref (A : Option Addr) (n c : Nat) (w : World) (hn : n ≤ 1000000) :
    Calls Try.prog 20 #[.slice A n c] w fun e w' => e = .returned (.int .i64 (pagesN n)) ∧ ∃ m, w' = w.drewN m := by
  go_enter Try.func20, Try.ntmps20
  go_wp2
  all_goals go_ret
  all_goals refine ⟨ret_int ?_, 0, rfl⟩
  all_goals (unfold pagesN; split <;> simp_all <;> omega)
theorem ret_ib {k : IntKind} {a b : Int} {c : Bool} (h : a = b) : Ending.returned (.tuple #[.int k a, .bool c]) = .returned (.tuple #[.int k b, .bool c]) := by rw [h]
/-- What a load gives. -/
def ldV (l : List Int) (a size : Int) : Int := if size = 4 then wd l (a / 4).toNat else wd l (a / 4).toNat / 256 ^ (a % 4).toNat % 256
theorem field_byte (x : Int) (k : Nat) (h0 : 0 ≤ x) (h1 : x ≤ 4294967295) (hk : k ≤ 3) : fieldR x ((k : Int) * 8) 8 = x / 256 ^ k % 256 := by
  rw [fieldR_yes (by omega) (by omega) (by omega), field_eq x _ _ h0 h1 (by omega)]
  have e : ((k : Int) * 8).toNat = 8 * k := by omega
  rw [e, Nat.pow_mul]
  obtain ⟨y, rfl⟩ : ∃ y : Nat, x = y := ⟨x.toNat, by omega⟩
  simp
theorem field_word (x : Int) (h0 : 0 ≤ x) (h1 : x ≤ 4294967295) : fieldR x 0 32 = x := by
  rw [fieldR_yes (by omega) (by omega) (by omega), field_eq x _ _ h0 h1 (by omega)]
  simp
  omega
theorem and_255 (x : Int) (h0 : 0 ≤ x) (h1 : x ≤ 4294967295) : bits .and .u32 x 255 = x % 256 := by
  have := and_low x 8 h0 h1 (by omega)
  simpa using this
theorem byte_ref (x a : Int) (h0 : 0 ≤ x) (h1 : x ≤ 4294967295) (ha : 0 ≤ a) : bits .and .u32 (x / 2 ^ (8 * (a % 4)).toNat) 255 = x / 256 ^ (a % 4).toNat % 256 := by
  have hd := div_bd x (8 * (a % 4)).toNat h0 h1
  rw [and_255 _ hd.1 hd.2]
  have e : (8 * (a % 4)).toNat = 8 * (a % 4).toNat := by omega
  rw [e, Int.pow_mul]
  rfl
end Go.Proofs.Ytackgjmmeojpiaa
