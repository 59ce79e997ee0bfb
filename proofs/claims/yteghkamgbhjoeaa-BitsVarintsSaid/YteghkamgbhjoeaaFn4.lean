import Derived.Test.YteghkamgbhjoeaaFn3
namespace Go.Proofs.Yteghkamgbhjoeaa
set_option linter.unusedVariables false
open Go.ChangeShapes Go.WideShapes Go.ChangeAt Go.RowKit Go.Proofs.Yteghkamgbhjoeaa.Num Go.Proofs.Yteghkamgbhjoeaa.Mem
theorem info_u8 : (Try.prog.info? 5).map (fun i => (i.zero, i.size, i.bytes)) = some (some (.int .u8 0), 1, 1) := by kernel_rfl
theorem or128r (y : Nat) (hy : y < 18446744073709551616) : bits .or .u8 (bits .and .u64 (y : Int) 127 % 256) 128 = (((UInt8.ofNat (y % 128 + 128)).toNat : Nat) : Int) := by
  have e1 : bits .and .u64 (y : Int) 127 = ((y % 128 : Nat) : Int) := by
    rw [show (127 : Int) = ((127 : Nat) : Int) from rfl, u64_and_nat y 127 hy (by decide), nat_mask7]
  have e2 : bits .or .u8 ((y % 128 : Nat) : Int) 128 = ((y % 128 + 128 : Nat) : Int) := by
    rw [show (128 : Int) = ((128 : Nat) : Int) from rfl, u8_or_nat _ 128 (by omega) (by decide), Nat.or_comm, nat_join 7 128 _ (by decide) (by omega), Nat.add_comm]
  have e3 : ((y % 128 : Nat) : Int) % 256 = ((y % 128 : Nat) : Int) := by omega
  rw [e1, e3, e2, u8n _ (by omega)]
set_option maxRecDepth 100000 in
set_option maxHeartbeats 400000 in
theorem put_ref (x : Nat) (w : World) (hx : Hid (x < 18446744073709551616)) :
    Calls Try.prog 24 #[.int .u64 x] w fun e w' => e = .returned (.string (encS x)) ∧ Below w.heap.size w w' := by
  obtain ⟨i0, hi, hz0, hz1, hz2⟩ := info_parts info_u8
  go_enter Try.func24, Try.ntmps24
  go_wp2
  go_loopw [0, 3] (fun u v wr => ∃ y : Nat, u = .int .u64 y ∧ ∃ pre, Hid (EncAt x pre.length y pre) ∧ wr.ownsRow w.heap.size 5 1 v pre.length (u8s pre) ∧ Below w.heap.size w wr) (fun u _ _ => (intOf u).toNat)
  case atStart => exact ⟨x, rfl, [], Lib.hid (EncAt.start x), World.ownsRow_nil _ _ _ _, Below.refl _ _⟩
  case round =>
    obtain ⟨y, rfl, pre, hE, hown, hbel⟩ := hrel
    have hk := hE.out.le
    have hws : w.heap.size ≤ wr.heap.size := hbel.size
    by_cases hy : y < 128
    · go_wp2_with (at_builtin; refine wpList_append_own _ rfl _ _ 46 rfl (w.heap.size) 5 i0 (.int .u8 0) 1 1 Try.underlying46 hi hz0 hz1 hz2 rfl (by decide) _ _ _ rfl (hown.alloc _) ⟨wr.heap.size, 0, none⟩ 1 1 [.int .u8 y] rfl rfl (new_cell _ _ _) (one_cell _ _) (by unfold maxLen; omega) (by omega) (by simp; omega) ?_)
      intro v' w1 hown1 hgrow _
      rw [u8s_snoc pre (UInt8.ofNat y) y (by rw [u8n y (by omega)])] at hown1
      rw [← hE.out.done hy] at hown1
      have hc := own_convert (P := Try.prog) Try.underlying46 Try.underlying5 Try.underlying9 _ _ hown1 (by rw [hE.out.lenDone hy]) (by have := enc_pos x; intro h; rw [h] at this; simp at this)
      have hfin : Below w.heap.size w w1 := (hbel.alloc hws _).grown hgrow (by simp; omega) (fun k hk => (hown.lt k hk).1)
      go_wp2
      go_ret
      exact ⟨rfl, hfin⟩
    · have h9 := hE.out.lt9 hx.out hy
      go_wp2_with (at_builtin; refine wpList_append_own _ rfl _ _ 46 rfl (w.heap.size) 5 i0 (.int .u8 0) 1 1 Try.underlying46 hi hz0 hz1 hz2 rfl (by decide) _ _ _ rfl (hown.alloc _) ⟨wr.heap.size, 0, none⟩ 1 1 [.int .u8 (bits .or .u8 (bits .and .u64 (y : Int) 127 % 256) 128)] rfl rfl (new_cell _ _ _) (one_cell _ _) (by unfold maxLen; omega) (by omega) (by simp; omega) ?_)
      intro v' w1 hown1 hgrow _
      rw [u8s_snoc pre (UInt8.ofNat (y % 128 + 128)) _ (or128r y (hE.out.lt hx.out))] at hown1
      go_wp2
      go_roundw
      case rel => exact ⟨y / 128, by simp, pre ++ [UInt8.ofNat (y % 128 + 128)], Lib.hid (by rw [List.length_append]; exact hE.out.more hy h9), by rw [List.length_append]; exact hown1, (hbel.alloc hws _).grown hgrow (by simp; omega) (fun k hk => (hown.lt k hk).1)⟩
      case measure => simp [intOf]; omega
end Go.Proofs.Yteghkamgbhjoeaa
