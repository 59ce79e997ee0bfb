import Derived.Test.YtackgjmmeojpiaaPmFn3
import Derived.StillTailTactics
namespace Go.Proofs.Ytackgjmmeojpiaa
set_option linter.unusedVariables false
set_option linter.unusedSimpArgs false
open Go.ChangeShapes Go.WideShapes Go.ChangeAt Go.RowKit Go.Proofs.Ytackgjmmeojpiaa.Num Go.Proofs.Ytackgjmmeojpiaa.Mem
theorem u64_bd (x : Int) : 0 ≤ IntKind.u64.wrap x ∧ IntKind.u64.wrap x < 18446744073709551616 := by
  rw [IntKind.wrap_u64]; omega
theorem mixC_bd (y : Int) (h0 : 0 ≤ y) (h1 : y < 18446744073709551616) : 0 ≤ mixC y ∧ mixC y < 18446744073709551616 := by
  obtain ⟨z, rfl⟩ : ∃ z : Nat, y = z := ⟨y.toNat, by omega⟩
  unfold mixC
  have e : ((z : Int) / 2147483648) = ((z / 2147483648 : Nat) : Int) := by omega
  rw [e, u64_xor_nat z (z / 2147483648) (by omega) (by omega)]
  have := Nat.xor_lt_two_pow (x := z) (y := z / 2147483648) (n := 64) (by omega) (by omega)
  omega
theorem mixed_bd (s : Int) : 0 ≤ mixed s ∧ mixed s < 18446744073709551616 := by
  unfold mixed
  generalize mixA (seedStep s) = q
  unfold mixB
  have h := u64_bd (bits .xor .u64 q (q / 134217728) * 10723151780598845931)
  generalize IntKind.u64.wrap (bits .xor .u64 q (q / 134217728) * 10723151780598845931) = y at *
  exact mixC_bd y h.1 h.2
/-- What Mix gives. -/
def mixK (n k : Int) : Int := mixed (bits .xor .u64 (IntKind.u64.wrap n) (IntKind.u64.wrap (k * 11400714819323198485))) / 2
theorem mixK_bd (n k : Int) : 0 ≤ mixK n k ∧ mixK n k ≤ 9223372036854775807 := by
  unfold mixK
  have h := mixed_bd (bits .xor .u64 (IntKind.u64.wrap n) (IntKind.u64.wrap (k * 11400714819323198485)))
  generalize mixed (bits .xor .u64 (IntKind.u64.wrap n) (IntKind.u64.wrap (k * 11400714819323198485))) = y at *
  omega
theorem mix_any (n k : Int) (w : World) (h0 : -9223372036854775808 ≤ n) (h1 : n ≤ 9223372036854775807) (k0 : 0 ≤ k) (k1 : k ≤ 1000) :
    Calls Try.prog 24 #[.int .i64 n, .int .i64 k] w fun e w' => e = .returned (.int .i64 (mixK n k)) ∧ w = w' := by
  go_enter Try.func24, Try.ntmps24
  go_wp2_with (go_at_call 33; refine (next_ref0 _ _).mono ?_; rintro e w1 ⟨rfl, rfl⟩)
  all_goals go_ret
  all_goals refine ⟨ret_int ?_, rfl⟩
  have hb := mixK_bd n k
  show wrap64 (mixK n k) = mixK n k
  generalize mixK n k = y at *
  unfold wrap64; omega
theorem rnd (n k : Int) (hk : 1 ≤ k) : (n.tmod k < 0 → n % k = n.tmod k + k ∧ -k < n.tmod k) ∧ (0 ≤ n.tmod k → n % k = n.tmod k ∧ n.tmod k < k) := by
  obtain ⟨h1, h2, h3, h4, h5⟩ := tdiv_facts n k (by omega)
  obtain ⟨h6, h7⟩ := h4 (by omega)
  have e : n % k = n.tmod k % k := by
    conv => lhs; rw [← h1]
    rw [Int.add_comm, Int.add_mul_emod_self_left]
  refine ⟨fun h => ⟨?_, h6⟩, fun h => ⟨?_, h7⟩⟩
  · rw [e]
    have : n.tmod k % k = (n.tmod k + k) % k := by simp
    rw [this, Int.emod_eq_of_lt (by omega) (by omega)]
  · rw [e, Int.emod_eq_of_lt h h7]
theorem round_any (n k : Int) (w : World) (hk : 1 ≤ k) (hk' : k ≤ 1000000) (h0 : -9223372036854775808 ≤ n) (h1 : n ≤ 9223372036854775807) :
    Calls Try.prog 7 #[.int .i64 n, .int .i64 k] w fun e w' => e = .returned (.int .i64 (n % k)) ∧ w = w' := by
  have hz : ¬ k = 0 := by omega
  have hr := Lib.hid (rnd n k hk)
  go_enter Try.func7, Try.ntmps7
  go_wp2
  all_goals go_ret
  all_goals refine ⟨ret_int ?_, rfl⟩
  · have := (hr.out.1 (by assumption)).2
    rw [(hr.out.1 (by assumption)).1]
    (try unfold wrap64); omega
  · rw [(hr.out.2 (by assumption)).1]
/-- A slice of numbers that came in. -/
def Ints (w : World) (A : Option Addr) (n : Nat) (z : Nat → Int) : Prop := (∀ i, i < n → ∃ b off, A = some ⟨b, off, none⟩ ∧ w.cell? ⟨b, off + i, none⟩ = some (.int .i64 (z i))) ∧ ∀ i, i < n → -9223372036854775808 ≤ z i ∧ z i ≤ 9223372036854775807
theorem Ints.on {w w' : World} {A : Option Addr} {n : Nat} {z : Nat → Int} (h : Ints w A n z) (hb : Below w.heap.size w w') : Ints w' A n z := ⟨fun i hi => by
  obtain ⟨b, off, hA, hc⟩ := h.1 i hi
  exact ⟨b, off, hA, cell_on hc hb⟩, h.2⟩
/-- A memory that was made: 1 to 6 pages. -/
def Made (p : Nat) (w w' : World) (e : Ending) : Prop := (∃ A c l, e = .returned (.slice A (32 * p) c) ∧ Mem w' A (32 * p) c l) ∧ Below w.heap.size w w'
theorem new_made (r : Nat) (w : World) (h : r ≤ 31) : Calls Try.prog 23 #[.int .i64 (1 + (r : Int))] w fun e w' => (∃ l c, e = .returned (.slice (some ⟨w.heap.size, 0, none⟩) (32 * (1 + r)) c) ∧ 32 * (1 + r) ≤ c ∧ Hid (l.length = 32 * (1 + r)) ∧ U32 l ∧ Own w' w.heap.size l) ∧ Below w.heap.size w w' := by
  have e : (1 + (r : Int)) = ((1 + r : Nat) : Int) := by omega
  rw [e]
  refine (new_ref _ w).mono fun e w' ⟨⟨A, c, l, he, hl, hm, ho⟩, hb⟩ => ?_
  rw [if_pos ⟨by omega, by omega⟩] at hl
  have hll : l.length = 32 * (1 + r) := by rw [hl, zs_len]; omega
  obtain ⟨hA, ho⟩ := ho (by omega)
  exact ⟨⟨l, c, by rw [he, hA, hll], by rw [← hll]; exact hm.2.1, hll, hm.2.2.2.1, ho⟩, hb⟩
theorem made_end {r N c g : Nat} {w w' : World} {l : List Int} (hN : N = 32 * (1 + r)) (hl : l.length = N) (ho : Own w' g l) (hu : U32 l) (hb : Below w.heap.size w w') (hc : N ≤ c) (hr : r ≤ 5) : Made (1 + r) w w' (.returned (.slice (some ⟨g, 0, none⟩) N c)) := by
  subst hN
  exact ⟨⟨_, c, l, rfl, ho.mem hl hc (by omega) hu⟩, hb⟩
/-- A slice of words: what came in, or a memory that was made. -/
def Shaped (w : World) (e : Ending) (w' : World) : Prop := (∃ A n c l, e = .returned (.slice A n c) ∧ n ≤ 200 ∧ Mem w' A n c l) ∧ Below w.heap.size w w'
end Go.Proofs.Ytackgjmmeojpiaa
