import Derived.Test.YthghbcjaokpilaaDoorIsaFn6
import Derived.Test.YthghbcjaokpilaaDoorIsaMk
import Derived.Test.YthghbcjaokpilaaDoorFn2
import Derived.Laws.ResultCell
namespace Go.Proofs.YthghbcjaokpilaaDoor
set_option linter.unusedVariables false
set_option linter.unusedSimpArgs false
open Go.Lib Go.ChangeShapes Go.WideShapes Go.ChangeAt Go.RowKit Go.Proofs.YthghbcjaokpilaaDoor.Num Go.Proofs.YthghbcjaokpilaaDoor.Isa Go.Proofs.YthghbcjaokpilaaDoor.Mem
theorem awake_enc : eW 16 1 2 0 (-1) = 269680639 ∧ eE 16 1 2 0 (-1) = 0 ∧ decide (dOk 0) = false := by decide +kernel
theorem dec_one (n : Nat) (h : n < 10) : Lib.decDigits n = [UInt8.ofNat (48 + n)] := by
  unfold Lib.decDigits; rw [dif_pos h]
theorem awake_fmt : fmtS 32 3 4 0 (-8) = { data := #[108, 119, 32, 114, 51, 44, 32, 45, 56, 40, 114, 52, 41] } := by
  have h : Ok 32 3 4 0 (-8) := by decide +kernel
  have hl : lay 32 = 3 := by decide +kernel
  unfold fmtS
  rw [if_neg (by simpa using h)]
  rw [hl, if_neg (by decide), if_neg (by decide), if_pos rfl]
  have e3 : itoaS 3 = ⟨#[51]⟩ := by rw [itoaS_pos 3 (by decide)]; unfold decS; rw [dec_one _ (by decide)]; rfl
  have e4 : itoaS 4 = ⟨#[52]⟩ := by rw [itoaS_pos 4 (by decide)]; unfold decS; rw [dec_one _ (by decide)]; rfl
  have e8 : itoaS (-8) = { data := #[45] } ++ ⟨#[56]⟩ := by rw [itoaS_neg (-8) (by decide)]; unfold decS; rw [dec_one _ (by decide)]; rfl
  unfold regS
  rw [e3, e4, e8]
  rfl
theorem rndI (n k : Int) (hk : 1 ≤ k) : (n.tmod k < 0 → n % k = n.tmod k + k ∧ -k < n.tmod k) ∧ (0 ≤ n.tmod k → n % k = n.tmod k ∧ n.tmod k < k) := by
  obtain ⟨h1, h2, h3, h4, h5⟩ := tdiv_facts n k (by omega)
  obtain ⟨h6, h7⟩ := h4 (by omega)
  have e : n % k = n.tmod k % k := by
    conv => lhs; rw [← h1]
    rw [Int.add_comm, Int.add_mul_emod_self_left]
  refine ⟨fun h => ⟨?_, h6⟩, fun h => ⟨?_, h7⟩⟩
  · rw [e]
    have : n.tmod k % k = (n.tmod k + k) % k := by simp
    rw [this, Int.emod_eq_of_lt (by omega) (by omega)]
  · rw [e, Int.emod_eq_of_lt h h7]
theorem round_anyI (n k : Int) (w : World) (hk : 1 ≤ k) (hk' : k ≤ 1000000) (h0 : -9223372036854775808 ≤ n) (h1 : n ≤ 9223372036854775807) :
    Calls Tryd.prog 8 #[.int .i64 n, .int .i64 k] w fun e w' => e = .returned (.int .i64 (n % k)) ∧ ∃ m, w' = w.drewN m := by
  have hz : ¬ k = 0 := by omega
  have hr := Lib.hid (rndI n k hk)
  go_enter Tryd.func8, Tryd.ntmps8
  go_wp2
  all_goals go_ret
  all_goals refine ⟨ret_int ?_, 0, rfl⟩
  · have := (hr.out.1 (by assumption)).2
    rw [(hr.out.1 (by assumption)).1]
    (try unfold wrap64); omega
  · rw [(hr.out.2 (by assumption)).1]
end Go.Proofs.YthghbcjaokpilaaDoor
