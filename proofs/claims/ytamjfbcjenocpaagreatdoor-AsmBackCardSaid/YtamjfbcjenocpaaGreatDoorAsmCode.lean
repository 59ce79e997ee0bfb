import Derived.Test.YtamjfbcjenocpaaGreatDoorAsmRefD
import Derived.Test.YtamjfbcjenocpaaGreatDoorAsmGa
import Derived.Test.YtamjfbcjenocpaaGreatDoorIsaMk2
import Derived.Test.YtamjfbcjenocpaaGreatDoorIsaFn10
namespace Go.Proofs.YtamjfbcjenocpaaGreatDoor
set_option linter.unusedVariables false
set_option linter.unusedSimpArgs false
open Go.ChangeShapes Go.WideShapes Go.ChangeAt Go.RowKit Go.Proofs.YtamjfbcjenocpaaGreatDoor.Num Go.Proofs.YtamjfbcjenocpaaGreatDoor.Isa Go.Proofs.YtamjfbcjenocpaaGreatDoor.Mem Go.Proofs.YtamjfbcjenocpaaGreatDoor.Asm
theorem u32s_snoc {ws : List Int} {x : Int} (h : U32s ws) (hx : 0 ≤ x ∧ x ≤ 4294967295) : U32s (ws ++ [x]) := by
  intro y hy
  rcases List.mem_append.1 hy with h1 | h1
  · exact h y h1
  · rw [List.mem_singleton] at h1; subst h1; exact hx
theorem inst_ex2 (n : Int) (h0 : -9223372036854775808 ≤ n) (h1 : n ≤ 9223372036854775807) : ∃ o a b c m x : Int, (-2147483648 ≤ m ∧ m ≤ 2147483647) ∧ (0 ≤ x ∧ x ≤ 4294967295) ∧ (∃ y, ∀ w : World, Calls Tryz.prog 10 #[.agg #[.int .i64 o, .int .i64 a, .int .i64 b, .int .i64 c, .int .i32 m]] w fun e w' => e = .returned (.tuple #[.int .u32 x, .bool y]) ∧ Below w.heap.size w w') ∧
    ∀ w : World, Calls Tryz.prog 11 #[.int .i64 n] w fun e w' => e = .returned (.agg #[.int .i64 o, .int .i64 a, .int .i64 b, .int .i64 c, .int .i32 m]) ∧ Below w.heap.size w w' := by
  have hk := made_ok n
  have hr := word_range hk
  have hb := ok_bound hk
  have hm : -2147483648 ≤ mM n ∧ mM n ≤ 2147483647 := by omega
  have e : eW (mO n) (mA n) (mB n) (mC n) (mM n) = word (mO n) (mA n) (mB n) (mC n) (mM n) := by unfold eW; rw [if_pos hk]
  exact ⟨mO n, mA n, mB n, mC n, mM n, eW (mO n) (mA n) (mB n) (mC n) (mM n), hm, by rw [e]; exact hr, ⟨_, fun w => encode_ref _ _ _ _ _ w hm.1 hm.2⟩, fun w => inst_any n w h0 h1⟩
set_option maxHeartbeats 8000000 in
set_option maxRecDepth 100000 in
theorem code_made (a : Option Addr) (n cap : Nat) (zs : List Int) (w : World) (hn : zs.length = n) (hbig : n ≤ 17592186044416) (hR : Row .i64 w a zs) (hz : ∀ z ∈ zs, -9223372036854775808 ≤ z ∧ z ≤ 9223372036854775807) :
    Calls Tryz.prog 4 #[.slice a n cap] w fun e w' => (∃ v ws, e = .returned v ∧ U32s ws ∧ ws.length = n ∧ w'.ownsRow w.heap.size 34 1 v n (ws.map u32V)) ∧ Below w.heap.size w w' := by
  obtain ⟨i0, hi, hz0, hz1, hz2⟩ := info_parts info_u32
  have HR := Lib.hid hR
  have HZ := Lib.hid hz
  clear hR hz
  go_enter Tryz.func4, Tryz.ntmps4
  go_wp2
  go_loopw [3, 4] (fun v i wr => ∃ (k : Nat) (ws : List Int), k ≤ n ∧ i = .int .i64 k ∧ ws.length = k ∧ U32s ws ∧ wr.ownsRow w.heap.size 34 1 v k (ws.map u32V) ∧ Below w.heap.size w wr) (fun _ i _ => n - (intOf i).toNat)
  case atStart => exact ⟨0, [], Nat.zero_le _, rfl, rfl, (fun _ h => by cases h), World.ownsRow_nil _ _ _ _, Below.refl _ _⟩
  case round =>
    obtain ⟨k, ws, hk, rfl, hwl, hu, hown, hbw⟩ := hrel
    by_cases hlt : k < n
    · obtain ⟨b, off, ha, hc⟩ := HR.out.on hbw k (by omega)
      have hzb := HZ.out (zs.getD k 0) (by
        have h2 : k < zs.length := by omega
        have e : zs.getD k 0 = zs[k] := by simp [List.getD, h2]
        rw [e]; exact List.getElem_mem h2)
      have HBW := Lib.hid hbw
      have HO := Lib.hid hown
      have HU := Lib.hid hu
      clear hbw hown hu
      subst ha
      generalize zs.getD k 0 = z at *
      by_cases h17 : z.tmod 17 = 0
      · go_wp2_with (at_builtin; refine wpList_append_own _ rfl _ _ 22 rfl w.heap.size 34 i0 (.int .u32 0) 1 4 Tryz.underlying22 hi hz0 hz1 hz2 rfl (by decide) _ _ _ rfl (HO.out.alloc _) ⟨_, 0, none⟩ 1 1 [.int .u32 _] rfl rfl (new_cell _ _ _) (one_u32 _) (by unfold maxLen; omega) (by omega) (by have := HBW.out.size; simp; omega) ?_)
        intro v4 w4 hown4 hgrow4 _
        obtain ⟨x, hx⟩ : ∃ x, bits .and .i64 z 4294967295 % 4294967296 = x := ⟨_, rfl⟩
        rw [hx] at hown4
        have hxb : 0 ≤ x ∧ x ≤ 4294967295 := by omega
        have HO4 := Lib.hid (snoc_u32 hown4 hwl.symm)
        have HB4 := Lib.hid (show Below w.heap.size w w4 from (HBW.out.alloc HBW.out.size _).grown hgrow4 (by have := HBW.out.size; simp; omega) (fun k hk => (HO.out.lt k hk).1))
        clear hown4 hgrow4 hx
        go_wp2
        go_roundw
        case rel => exact ⟨k + 1, ws ++ [x], by omega, by go_num, by simp [hwl], u32s_snoc HU.out hxb, by have := HO4.out; rw [List.length_append, hwl] at this; exact this, HB4.out⟩
        case measure => simp [intOf]; omega
      · obtain ⟨o, a, b', c, m, x, hm, hx, ⟨y, hE⟩, hI⟩ := inst_ex2 z hzb.1 hzb.2
        have HE := Lib.hid hE
        have HI := Lib.hid hI
        have bb : Below wr.heap.size wr wr := Below.refl _ _
        clear hE hI
        go_wp2_with (first
          | (go_at_call 11; (with_reducible refine (HI.out _).mono ?_); rintro e w1 ⟨rfl, hb1⟩; replace bb := below_step bb hb1)
          | (go_at_call 10; (with_reducible refine (HE.out _).mono ?_); rintro e w2 ⟨rfl, hb2⟩; replace bb := below_step bb hb2)
          | (at_builtin; refine wpList_append_own _ rfl _ _ 22 rfl w.heap.size 34 i0 (.int .u32 0) 1 4 Tryz.underlying22 hi hz0 hz1 hz2 rfl (by decide) _ _ _ rfl ((own_below HO.out bb).alloc _) ⟨_, 0, none⟩ 1 1 [.int .u32 x] rfl rfl (new_cell _ _ _) (one_u32 x) (by unfold maxLen; omega) (by omega) (by have := HBW.out.size; have := bb.size; simp; omega) ?_))
        intro v4 w4 hown4 hgrow4 _
        have HO4 := Lib.hid (snoc_u32 hown4 hwl.symm)
        have HB2 := Lib.hid (below_step HBW.out bb)
        have HB4 := Lib.hid (show Below w.heap.size w w4 from (HB2.out.alloc HB2.out.size _).grown hgrow4 (by have := HB2.out.size; simp; omega) (fun k hk => ((own_below HO.out bb).lt k hk).1))
        clear hown4 hgrow4
        go_wp2
        go_roundw
        case rel => exact ⟨k + 1, ws ++ [x], by omega, by go_num, by simp [hwl], u32s_snoc HU.out hx, by have := HO4.out; rw [List.length_append, hwl] at this; exact this, HB4.out⟩
        case measure => simp [intOf]; omega
    · obtain rfl : k = n := by omega
      have HBW := Lib.hid hbw
      go_wp2
      go_ret
      exact ⟨⟨_, ws, rfl, hu, hwl, hown⟩, HBW.out⟩
end Go.Proofs.YtamjfbcjenocpaaGreatDoor
