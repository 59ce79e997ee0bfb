import Derived.Test.YtkpboooifkhijaaDoorIsaFn3
import Derived.Test.YtkpboooifkhijaaDoorIsaMk
import Derived.Test.YtkpboooifkhijaaDoorFn2
import Derived.Laws.ResultCell
namespace Go.Proofs.YtkpboooifkhijaaDoor
set_option linter.unusedVariables false
set_option linter.unusedSimpArgs false
open Go.Lib Go.ChangeShapes Go.WideShapes Go.ChangeAt Go.RowKit Go.Proofs.YtkpboooifkhijaaDoor.Num Go.Proofs.YtkpboooifkhijaaDoor.Isa Go.Proofs.YtkpboooifkhijaaDoor.Mem
theorem rndI (n k : Int) (hk : 1 ≤ k) : (n.tmod k < 0 → n % k = n.tmod k + k ∧ -k < n.tmod k) ∧ (0 ≤ n.tmod k → n % k = n.tmod k ∧ n.tmod k < k) := by
  obtain ⟨h1, h2, h3, h4, h5⟩ := tdiv_facts n k (by omega)
  obtain ⟨h6, h7⟩ := h4 (by omega)
  have e : n % k = n.tmod k % k := by
    conv => lhs; rw [← h1]
    rw [Int.add_comm, Int.add_mul_emod_self_left]
  refine ⟨fun h => ⟨?_, h6⟩, fun h => ⟨?_, h7⟩⟩
  · rw [e]
    have : n.tmod k % k = (n.tmod k + k) % k := by simp
    rw [this, Int.emod_eq_of_lt (by omega) (by omega)]
  · rw [e, Int.emod_eq_of_lt h h7]
theorem round_anyI (n k : Int) (w : World) (hk : 1 ≤ k) (hk' : k ≤ 1000000) (h0 : -9223372036854775808 ≤ n) (h1 : n ≤ 9223372036854775807) :
    Calls Tryd.prog 17 #[.int .i64 n, .int .i64 k] w fun e w' => e = .returned (.int .i64 (n % k)) ∧ ∃ m, w' = w.drewN m := by
  have hz : ¬ k = 0 := by omega
  have hr := Lib.hid (rndI n k hk)
  go_enter Tryd.func17, Tryd.ntmps17
  go_wp2
  all_goals go_ret
  all_goals refine ⟨ret_int ?_, 0, rfl⟩
  · have := (hr.out.1 (by assumption)).2
    rw [(hr.out.1 (by assumption)).1]
    (try unfold wrap64); omega
  · rw [(hr.out.2 (by assumption)).1]
theorem mix_anyI (n : Int) (w : World) (h0 : -9223372036854775808 ≤ n) (h1 : n ≤ 9223372036854775807) :
    Calls Tryd.prog 22 #[.int .i64 n, .int .i64 1] w fun e w' => e = .returned (.int .i64 (mixN n)) ∧ ∃ m, w' = w.drewN m := by
  have hb := mixN_bd n
  have hn : ∀ s : Int, 0 ≤ s → s < 18446744073709551616 → wrap64 (s / 2) = s / 2 := fun s h1 h2 => by unfold wrap64; omega
  go_enter Tryd.func22, Tryd.ntmps22
  go_wp2_with (go_at_call 42; refine (next_ref _ _).mono ?_; rintro e w1 ⟨rfl, m1, rfl⟩)
  all_goals go_ret
  all_goals refine ⟨ret_int ?_, _, rfl⟩
  unfold mixN
  have h := mixed_bdI (bits .xor .u64 (IntKind.u64.wrap n) 11400714819323198485)
  generalize mixed (bits .xor .u64 (IntKind.u64.wrap n) 11400714819323198485) = y at *
  exact hn y h.1 h.2
theorem ops_any (w : World) :
    Calls Tryd.prog 21 #[] w fun e w' => e = .returned (.slice (some ⟨w.heap.size, 0, none⟩) 50 50) ∧ w' = w.alloc (Obj.cells (opsL.map (Value.int .i64)).toArray 3) := by
  go_enter Tryd.func21, Tryd.ntmps21
  go_wp2
  go_ret
  exact ⟨rfl, rfl⟩
end Go.Proofs.YtkpboooifkhijaaDoor
