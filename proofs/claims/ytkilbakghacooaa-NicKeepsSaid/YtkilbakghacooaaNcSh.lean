import Derived.Test.YtkilbakghacooaaNcBth
namespace Go.Proofs.Ytkilbakghacooaa
set_option linter.unusedVariables false
set_option linter.unusedSimpArgs false
set_option maxRecDepth 20000
open Go.ChangeShapes Go.WideShapes Go.ChangeAt Go.RowKit Go.Proofs.Ytkilbakghacooaa.Num Go.Proofs.Ytkilbakghacooaa.Mem
/-- The card of the law: what came in, or one made from a number. -/
def ShnPost (w : World) (e : Ending) (w' : World) : Prop :=
  (∃ F L P B R G, e = .returned (ncV F L P B R G) ∧ 0 ≤ F ∧ F ≤ 4294967295 ∧ 0 ≤ L ∧ L ≤ 4294967295 ∧ 0 ≤ B ∧ B ≤ 4294967295 ∧ 0 ≤ G ∧ G ≤ 4294967295) ∧ Below w.heap.size w w'
set_option maxHeartbeats 1000000 in
theorem shapedN_any (F L : Int) (P : Bool) (B : Int) (R : Bool) (G : Int) (raw : Bool) (x : Int) (w : World) (x0 : -9223372036854775808 ≤ x) (x1 : x ≤ 9223372036854775807) (F0 : 0 ≤ F) (F1 : F ≤ 4294967295) (L0 : 0 ≤ L) (L1 : L ≤ 4294967295) (b0 : 0 ≤ B) (b1 : B ≤ 4294967295) (g0 : 0 ≤ G) (g1 : G ≤ 4294967295) :
    Calls Try.prog 8 #[ncV F L P B R G, .bool raw, .int .i64 x] w (ShnPost w) := by
  have HM := Lib.hid (fun W => mix_any x 12 W x0 x1 (by omega) (by omega))
  have hv := mixK_bd x 12
  generalize mixK x 12 = v at hv HM
  unfold ncV ShnPost
  cases raw with
  | true =>
    go_enter Try.func8, Try.ntmps8
    go_wp2_with (first | go_skip | fail)
    refine bodyPost_ret (v := .agg #[.int .u32 (F), .int .u32 (L), .bool P, .int .u32 (B), .bool R, .int .u32 (G)]) (by rw [results_oneE rfl]; go_simp) rfl ⟨⟨_, _, _, _, _, _, rfl, by omega, by omega, by omega, by omega, by omega, by omega, by omega, by omega⟩, by (repeat' (first | with_reducible exact Below.refl _ _ | with_reducible assumption | with_reducible apply below_drewN | with_reducible apply Below.drew | with_reducible apply Below.setCell | with_reducible apply Below.alloc | (simp; done) | omega | (simp; omega)))⟩
  | false =>
    go_enter Try.func8, Try.ntmps8
    go_wp2_with (first
      | go_skip
      | (go_at_call 18; (with_reducible refine (HM.out _).mono ?_); rintro e w1 ⟨rfl, rfl⟩))
    · refine bodyPost_ret (v := .agg #[.int .u32 (bits .and .i64 v 7 % 4294967296), .int .u32 (bits .and .i64 (v / 8) 255 % 4294967296), .bool true, .int .u32 (bits .and .i64 (v / 8192) 3 % 4294967296), .bool false, .int .u32 (0)]) (by rw [results_oneE rfl]; go_simp) rfl ⟨⟨_, _, _, _, _, _, rfl, by omega, by omega, by omega, by omega, by omega, by omega, by omega, by omega⟩, by (repeat' (first | with_reducible exact Below.refl _ _ | with_reducible assumption | with_reducible apply below_drewN | with_reducible apply Below.drew | with_reducible apply Below.setCell | with_reducible apply Below.alloc | (simp; done) | omega | (simp; omega)))⟩
    · refine bodyPost_ret (v := .agg #[.int .u32 (bits .and .i64 v 7 % 4294967296), .int .u32 (bits .and .i64 (v / 8) 255 % 4294967296), .bool false, .int .u32 (0), .bool true, .int .u32 ((1 + bits .and .i64 (v / 8192) 127) % 4294967296)]) (by rw [results_oneE rfl]; go_simp) rfl ⟨⟨_, _, _, _, _, _, rfl, by omega, by omega, by omega, by omega, by omega, by omega, by omega, by omega⟩, by (repeat' (first | with_reducible exact Below.refl _ _ | with_reducible assumption | with_reducible apply below_drewN | with_reducible apply Below.drew | with_reducible apply Below.setCell | with_reducible apply Below.alloc | (simp; done) | omega | (simp; omega)))⟩
    · refine bodyPost_ret (v := .agg #[.int .u32 (bits .and .i64 v 7 % 4294967296), .int .u32 (bits .and .i64 (v / 8) 255 % 4294967296), .bool false, .int .u32 (0), .bool false, .int .u32 (0)]) (by rw [results_oneE rfl]; go_simp) rfl ⟨⟨_, _, _, _, _, _, rfl, by omega, by omega, by omega, by omega, by omega, by omega, by omega, by omega⟩, by (repeat' (first | with_reducible exact Below.refl _ _ | with_reducible assumption | with_reducible apply below_drewN | with_reducible apply Below.drew | with_reducible apply Below.setCell | with_reducible apply Below.alloc | (simp; done) | omega | (simp; omega)))⟩
end Go.Proofs.Ytkilbakghacooaa
