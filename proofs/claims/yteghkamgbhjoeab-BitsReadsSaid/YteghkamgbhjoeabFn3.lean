import Derived.Test.YteghkamgbhjoeabFn2
import Derived.Test.YteghkamgbhjoeabNum3
import Derived.Test.YteghkamgbhjoeabMem
namespace Go.Proofs.Yteghkamgbhjoeab
set_option linter.unusedVariables false
open Go.ChangeShapes Go.WideShapes Go.ChangeAt Go.RowKit Go.Proofs.Yteghkamgbhjoeab.Num Go.Proofs.Yteghkamgbhjoeab.Mem
theorem count_any (x c : Nat) (w : World) (hx : Hid (x < 18446744073709551616)) (hc : Hid ((enc x).length = c + 1)) :
    Calls Try.prog 19 #[.int .u64 x] w fun e w' => e = .returned (.int .i64 (c + 1)) ∧ w = w' := by
  go_enter Try.func19, Try.ntmps19
  go_wp2
  go_loop [0, 4] (fun v i => ∃ k : Nat, k ≤ 9 ∧ i = .int .i64 k ∧ ∃ y : Nat, v = .int .u64 y ∧ ∃ pre, Hid (EncAt x k y pre)) (fun _ i => 10 - (intOf i).toNat)
  case atStart => exact ⟨0, Nat.zero_le _, rfl, x, rfl, [], Lib.hid (EncAt.start x)⟩
  case round =>
    obtain ⟨k, hk, rfl, y, rfl, pre, hE⟩ := hrel
    by_cases hb : y < 128
    · have hz : ((y : Int) / 128 == 0) = true := by simp; omega
      go_wp2
      go_ret
      exact ⟨ret_int (by have := hc.out; rw [hE.out.lenDone hb] at this; show (k : Int) + 1 = c + 1; omega), rfl⟩
    · have hz : ((y : Int) / 128 == 0) = false := by simp; omega
      have h9 := hE.out.lt9 hx.out hb
      go_wp2
      go_round
      case rel => exact ⟨k + 1, by omega, by go_num, y / 128, by simp, _, Lib.hid (hE.out.more hb h9)⟩
      case measure => simp [intOf]; omega
theorem u8n (n : Nat) (h : n < 256) : (UInt8.ofNat n).toNat = n := by simp; omega
theorem or128 (y : Nat) (hy : y < 18446744073709551616) : bits .or .u64 (bits .and .u64 (y : Int) 127) 128 % 256 = (((UInt8.ofNat (y % 128 + 128)).toNat : Nat) : Int) := by
  have e1 : bits .and .u64 (y : Int) 127 = ((y % 128 : Nat) : Int) := by
    rw [show (127 : Int) = ((127 : Nat) : Int) from rfl, u64_and_nat y 127 hy (by decide), nat_mask7]
  have e2 : bits .or .u64 ((y % 128 : Nat) : Int) 128 = ((y % 128 + 128 : Nat) : Int) := by
    rw [show (128 : Int) = ((128 : Nat) : Int) from rfl, u64_or_nat _ 128 (by omega) (by decide), Nat.or_comm, nat_join 7 128 _ (by decide) (by omega), Nat.add_comm]
  rw [e1, e2, u8n _ (by omega)]; omega
theorem put_step {C : Array Value} {pre : List UInt8} {k : Nat} {b : UInt8} {v : Int} (hC : C.size = 10 ∧ ∀ j, (h : j < pre.length) → C[j]? = some (.int .u8 (pre[j].toNat : Int))) (hk : pre.length = k) (hk9 : k ≤ 9) (hv : v = (b.toNat : Int)) :
    (C.setIfInBounds k (.int .u8 v)).size = 10 ∧ ∀ j, (h : j < (pre ++ [b]).length) → (C.setIfInBounds k (.int .u8 v))[j]? = some (.int .u8 ((pre ++ [b])[j].toNat : Int)) := by
  refine ⟨by simp [hC.1], fun j hj => ?_⟩
  subst hk
  rw [Array.getElem?_setIfInBounds]
  by_cases e : pre.length = j
  · subst e
    rw [if_pos rfl, if_pos (by omega), hv]; simp
  · have hj' : j < pre.length := by simp at hj; omega
    rw [if_neg e, hC.2 j hj', List.getElem_append_left hj']
theorem put_last {C : Array Value} {pre : List UInt8} {k : Nat} (hC : C.size = 10 ∧ ∀ j, (h : j < pre.length) → C[j]? = some (.int .u8 (pre[j].toNat : Int))) (hk : pre.length = k) (hk9 : k ≤ 9) (y : Nat) (hy : y < 128) :
    ∀ j, (h : j < (pre ++ [UInt8.ofNat y]).length) → (C.setIfInBounds k (.int .u8 y))[j]? = some (.int .u8 ((pre ++ [UInt8.ofNat y])[j].toNat : Int)) :=
  (put_step hC hk hk9 (by rw [u8n y (by omega)])).2
theorem put_any (x : Nat) (w : World) (hx : Hid (x < 18446744073709551616)) :
    Calls Try.prog 10 #[.int .u64 x] w fun e w' => e = .returned (.string (encS x)) ∧ Below w.heap.size w w' := by
  obtain ⟨c, hc⟩ : ∃ c, Hid ((enc x).length = c + 1) := ⟨(enc x).length - 1, by have := enc_pos x; show _ = _; omega⟩
  have h9 : c ≤ 9 := by have := enc_le x; have := hc.out; omega
  go_enter Try.func10, Try.ntmps10
  go_wp2_with (go_at_call 19; refine (count_any x c _ hx hc).mono ?_; rintro e w' ⟨rfl, rfl⟩)
  go_loopw [0, 10] (fun v i wr => ∃ k : Nat, k ≤ c ∧ i = .int .i64 k ∧ ∃ y : Nat, v = .int .u64 y ∧ ∃ pre C, wr = w.alloc (.cells C 43) ∧ Hid (C.size = 10 ∧ ∀ j, (h : j < pre.length) → C[j]? = some (.int .u8 (pre[j].toNat : Int))) ∧ Hid (EncAt x k y pre)) (fun _ i _ => 10 - (intOf i).toNat)
  case atStart => exact ⟨0, Nat.zero_le _, rfl, x, rfl, [], _, rfl, Lib.hid ⟨by simp, fun j h => by simp at h⟩, Lib.hid (EncAt.start x)⟩
  case round =>
    obtain ⟨k, hk, rfl, y, rfl, pre, C, rfl, hC, hE⟩ := hrel
    obtain ⟨u, hCk⟩ : ∃ u, C[k]? = some u := ⟨C[k]'(by have := hC.out.1; omega), by simp⟩
    by_cases hlt : k < c
    · go_wp2
      go_roundw
      case rel =>
        exact ⟨k + 1, by omega, by go_num, y / 128, by simp, _, _, rfl, Lib.hid (put_step hC.out hE.out.len (by omega) (or128 y (hE.out.lt hx.out))), Lib.hid (hE.out.more (hE.out.big (by have := hc.out; omega)) (by omega))⟩
      case measure => simp [intOf]; omega
    · have : k = c := by omega
      subst this
      have hsl : ∀ W, (Instr.sliceAt 43 (.pointer (some ⟨w.heap.size, 0, none⟩)) none (some (.int .i64 (k + 1))) none).run Try.prog W = .ok (.slice (some ⟨w.heap.size, 0, none⟩) (k + 1) 10) W := fun W => by
        rw [run_sliceAt_array_h (P := Try.prog) W 43 ⟨w.heap.size, 0, none⟩ (by kernel_rfl) .i64 (k + 1) (by omega) (by show (k : Int) + 1 ≤ 10; omega)]
        rfl
      have hy := hE.out.last hx.out (by have := hc.out; omega)
      have hst := put_last hC.out hE.out.len (by omega) y hy
      have hcv : (convert 34 9 (.slice (some ⟨w.heap.size, 0, none⟩) (k + 1) 10)).run Try.prog (w.alloc (.cells (C.setIfInBounds k (.int .u8 y)) 43)) = .ok (.string (encS x)) (w.alloc (.cells (C.setIfInBounds k (.int .u8 y)) 43)) := by
        rw [run_convert_bytes_string _ 34 9 5 _ _ _ Try.underlying34 Try.underlying5 Try.underlying9]
        refine bytes_string _ _ _ _ (enc x) hc.out fun j hj => ?_
        rw [add_plain, World.cell?_alloc_at _ _ _ _ rfl, Nat.zero_add]
        simp only [hE.out.done hy] at hj ⊢
        exact hst j hj
      go_wp2
      go_ret
      exact ⟨rfl, (Below.refl _ _).alloc (Nat.le_refl _) _⟩
end Go.Proofs.Yteghkamgbhjoeab
