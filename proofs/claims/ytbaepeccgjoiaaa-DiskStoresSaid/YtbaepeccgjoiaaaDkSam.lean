import Derived.Test.YtbaepeccgjoiaaaDkSh
namespace Go.Proofs.Ytbaepeccgjoiaaa
set_option linter.unusedVariables false
set_option linter.unusedSimpArgs false
set_option maxRecDepth 20000
open Go.ChangeShapes Go.WideShapes Go.ChangeAt Go.RowKit Go.Proofs.Ytbaepeccgjoiaaa.Num Go.Proofs.Ytbaepeccgjoiaaa.Mem
theorem sameOut_any (sl sl' : Value) (o : Option (Int × Int × Int × ByteArray)) (n0 n1 : Nat) (w : World) (h1 : Outs n0 w sl o) (h2 : Outs n1 w sl' o) :
    Calls Try.prog 16 #[sl, sl'] w fun e w' => e = .returned (.bool true) ∧ ∃ m, w' = w.drewN m := by
  match o, h1, h2 with
  | none, h1, h2 =>
    obtain rfl : sl = .slice none 0 0 := h1
    obtain rfl : sl' = .slice none 0 0 := h2
    go_enter Try.func16, Try.ntmps16
    go_wp2
    go_loopw [5] (fun i wr => i = .int .i64 0 ∧ ∃ m, wr = w.drewN m) (fun _ _ => 0)
    case atStart => exact ⟨rfl, 0, rfl⟩
    case round =>
      obtain ⟨rfl, m, rfl⟩ := hrel
      go_wp2
      go_ret
      exact ⟨rfl, m, rfl⟩
  | some (k, a, u, d), h1, h2 =>
    obtain ⟨g, hg, rfl, x⟩ := h1
    obtain ⟨h, hh, rfl, y⟩ := h2
    go_enter Try.func16, Try.ntmps16
    go_wp2
    go_loopw [5] (fun i wr => ∃ j : Nat, j ≤ 1 ∧ i = .int .i64 j ∧ ∃ m, wr = w.drewN m) (fun i _ => 1 - (intOf i).toNat)
    case atStart => exact ⟨0, by omega, rfl, 0, rfl⟩
    case round =>
      obtain ⟨j, hj, rfl, m, rfl⟩ := hrel
      by_cases h0 : j = 0
      · subst h0
        obtain ⟨x0, x1, x2, x3, xz⟩ := x
        obtain ⟨y0, y1, y2, y3, yz⟩ := y
        go_wp2
        go_region
        all_goals go_wp2
        go_roundw
        case rel => exact ⟨1, by omega, by go_num, _, rfl⟩
        case measure => simp [intOf]
      · obtain rfl : j = 1 := by omega
        go_wp2
        go_ret
        exact ⟨rfl, m, rfl⟩
end Go.Proofs.Ytbaepeccgjoiaaa
