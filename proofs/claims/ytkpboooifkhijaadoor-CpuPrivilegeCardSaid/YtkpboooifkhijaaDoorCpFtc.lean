import Derived.Test.YtkpboooifkhijaaDoorCpPla
import Derived.Test.YtkpboooifkhijaaDoorCpMk2
import Derived.Test.YtkpboooifkhijaaDoorCpAwk
namespace Go.Proofs.YtkpboooifkhijaaDoor
set_option linter.unusedVariables false
set_option linter.unusedSimpArgs false
set_option maxRecDepth 20000
open Go.ChangeShapes Go.WideShapes Go.ChangeAt Go.RowKit Go.Proofs.YtkpboooifkhijaaDoor.Num Go.Proofs.YtkpboooifkhijaaDoor.Mem Go.Proofs.YtkpboooifkhijaaDoor.Isa
/- The fetch where no page table stands in between, and made instructions. -/
theorem ft_plain {n : Nat} {l L : List Int} (hp : pgB L = false) (h4 : wd L 16 % 4 = 0) (ho : okB n (wd L 16) 4 = true) : ftC n l L = 0 ∧ ftL n l L = l ∧ ftW n l L = wd l (wd L 16 / 4).toNat := by
  have e : rsC n l L (wd L 16) 4 1 = 0 := by
    unfold rsC
    rw [if_pos ⟨.inl rfl, .inr rfl⟩, if_pos h4, hp, if_neg (by decide), if_pos ho]
  have e2 : ftL n l L = l := by unfold ftL rsL; rw [if_neg (by rw [hp]; simp)]
  refine ⟨e, e2, ?_⟩
  unfold ftW
  rw [if_pos (show ftC n l L = 0 from e), e2]
  unfold rsA
  rw [if_pos e, hp, if_neg (by decide)]
theorem ok128 {pc : Int} (p0 : 0 ≤ pc) (p1 : pc < 512) (p4 : pc % 4 = 0) : okB 128 pc 4 = true := by
  unfold okB
  exact decide_eq_true ⟨.inr rfl, p4, by decide, by omega⟩
/-- The made instruction, whatever it is. -/
theorem inst_exC (n : Int) (h0 : -9223372036854775808 ≤ n) (h1 : n ≤ 9223372036854775807) : ∃ o a b c m : Int, Ok o a b c m ∧
    ∀ w : World, Calls Tryd.prog 10 #[.int .i64 n] w fun e w' => e = .returned (.agg #[.int .i64 o, .int .i64 a, .int .i64 b, .int .i64 c, .int .i32 m]) ∧ Below w.heap.size w w' :=
  ⟨mO n, mA n, mB n, mC n, mM n, made_ok n, fun w => inst_any n w h0 h1⟩
/-- An instruction's word is its own: what it is, and what it is decoded to. -/
theorem word_facts {o a b c m : Int} (h : Ok o a b c m) : ∃ X : Int, 0 ≤ X ∧ X ≤ 4294967295 ∧ dOk X ∧ dOp X = o ∧ dA X = a ∧ dB X = b ∧ dC X = c ∧ dM X = m ∧
    ∀ w : World, Calls Tryd.prog 9 #[.agg #[.int .i64 o, .int .i64 a, .int .i64 b, .int .i64 c, .int .i32 m]] w fun e w' => e = .returned (.tuple #[.int .u32 X, .bool true]) ∧ Below w.heap.size w w' := by
  have hr := word_range h
  obtain ⟨e1, e2, e3, e4, e5⟩ := dec_word h
  have hm : -2147483648 ≤ m ∧ m ≤ 2147483647 := by have := ok_bound h; omega
  exact ⟨word o a b c m, hr.1, hr.2, ok_dec h, e1, e2, e3, e4, e5, fun w => (encode_ref o a b c m w hm.1 hm.2).mono fun e w' ⟨he, hb⟩ => ⟨by rw [he]; unfold eW; rw [if_pos h, decide_eq_true h], hb⟩⟩
theorem trap_keeps {L : List Int} (hL : C25 L) (c b : Int) : wd (trapL L c b) 16 = wd L 18 ∧ wd (trapL L c b) 17 = trS (wd L 17) ∧ wd (trapL L c b) 19 = wd L 16 ∧ wd (trapL L c b) 20 = c % 4294967296 ∧ wd (trapL L c b) 21 = b ∧ ∀ i, i < 16 → wd (trapL L c b) i = wd L i := by
  have hl := hL.1
  unfold trapL
  refine ⟨by simp [wd_sets, hl], by simp [wd_sets, hl], by simp [wd_sets, hl], by simp [wd_sets, hl], by simp [wd_sets, hl], fun i hi => ?_⟩
  have n16 : ¬ 16 = i := by omega
  have n17 : ¬ 17 = i := by omega
  have n19 : ¬ 19 = i := by omega
  have n20 : ¬ 20 = i := by omega
  have n21 : ¬ 21 = i := by omega
  simp [wd_sets, hl, n16, n17, n19, n20, n21]
theorem eq_lit16 (N : List Int) (w : World) : (Op.equalIn 10000 29 (.agg #[.int .u32 (wd N 0), .int .u32 (wd N 1), .int .u32 (wd N 2), .int .u32 (wd N 3), .int .u32 (wd N 4), .int .u32 (wd N 5), .int .u32 (wd N 6), .int .u32 (wd N 7), .int .u32 (wd N 8), .int .u32 (wd N 9), .int .u32 (wd N 10), .int .u32 (wd N 11), .int .u32 (wd N 12), .int .u32 (wd N 13), .int .u32 (wd N 14), .int .u32 (wd N 15)]) (.agg #[.int .u32 (wd N 0), .int .u32 (wd N 1), .int .u32 (wd N 2), .int .u32 (wd N 3), .int .u32 (wd N 4), .int .u32 (wd N 5), .int .u32 (wd N 6), .int .u32 (wd N 7), .int .u32 (wd N 8), .int .u32 (wd N 9), .int .u32 (wd N 10), .int .u32 (wd N 11), .int .u32 (wd N 12), .int .u32 (wd N 13), .int .u32 (wd N 14), .int .u32 (wd N 15)])).run Tryd.prog w = .ok true w :=
  eq_row w 9998 16 29 _ Tryd.underlying29 (fun i hi => by
    have c : i = 0 ∨ i = 1 ∨ i = 2 ∨ i = 3 ∨ i = 4 ∨ i = 5 ∨ i = 6 ∨ i = 7 ∨ i = 8 ∨ i = 9 ∨ i = 10 ∨ i = 11 ∨ i = 12 ∨ i = 13 ∨ i = 14 ∨ i = 15 := by omega
    rcases c with rfl | rfl | rfl | rfl | rfl | rfl | rfl | rfl | rfl | rfl | rfl | rfl | rfl | rfl | rfl | rfl <;> exact ⟨_, rfl⟩)
theorem user_facts {L : List Int} {pc : Int} (h : Placed L pc) : C25 (L.set 17 0) ∧ wd (L.set 17 0) 16 = pc ∧ wd (L.set 17 0) 17 = 0 ∧ kerB (L.set 17 0) = false ∧ pgB (L.set 17 0) = false := by
  have hl := h.1.1
  have e16 : wd (L.set 17 0) 16 = pc := by rw [wdset h.1 (by omega), if_neg (by omega)]; exact h.2.2.1
  have e17 : wd (L.set 17 0) 17 = 0 := by rw [wdset h.1 (by omega), if_pos rfl]
  refine ⟨h.1.set 17 (by omega) (by omega), e16, e17, ?_, ?_⟩
  · unfold kerB; rw [e17]; rfl
  · unfold pgB; rw [e17]; rfl
theorem kern_facts {L : List Int} {pc : Int} (h : Placed L pc) : kerB L = true ∧ pgB L = false := by
  refine ⟨?_, ?_⟩
  · unfold kerB; rw [h.2.2.2.1]; rfl
  · unfold pgB; rw [h.2.2.2.1]; rfl
end Go.Proofs.YtkpboooifkhijaaDoor
