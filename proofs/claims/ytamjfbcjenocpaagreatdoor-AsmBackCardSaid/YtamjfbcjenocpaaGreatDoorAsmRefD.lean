import Derived.Test.YtamjfbcjenocpaaGreatDoorAsmGh
import Derived.Test.YtamjfbcjenocpaaGreatDoorAsmPad
import Derived.Test.YtamjfbcjenocpaaGreatDoorAsmGe
import Derived.Test.YtamjfbcjenocpaaGreatDoorIsaFn7
import Derived.Test.YtamjfbcjenocpaaGreatDoorIsaFn8
namespace Go.Proofs.YtamjfbcjenocpaaGreatDoor
set_option linter.unusedVariables false
set_option linter.unusedSimpArgs false
open Go.ChangeShapes Go.WideShapes Go.ChangeAt Go.RowKit Go.Proofs.YtamjfbcjenocpaaGreatDoor.Num Go.Proofs.YtamjfbcjenocpaaGreatDoor.Isa Go.Proofs.YtamjfbcjenocpaaGreatDoor.Mem Go.Proofs.YtamjfbcjenocpaaGreatDoor.Asm
theorem u8s_app (l : Bs) (t : Bs) : u8s l ++ Lib.strCells (S t) = u8s (l ++ t) := by simp [u8s, Lib.strCells, S]
theorem own_app {w : World} {B : Nat} {v : Value} {L t : Bs} (h : w.ownsRow B 5 1 v (L.length + (S t).size) (u8s L ++ Lib.strCells (S t))) : w.ownsRow B 5 1 v (L ++ t).length (u8s (L ++ t)) := by
  rw [u8s_app, S_size, ← List.length_append] at h; exact h
theorem own_one {w : World} {B : Nat} {v : Value} {L : Bs} {c : UInt8} {z : Int} (hz : z = (c.toNat : Int)) (h : w.ownsRow B 5 1 v (L.length + 1) (u8s L ++ [.int .u8 z])) : w.ownsRow B 5 1 v (L ++ [c]).length (u8s (L ++ [c])) := by
  subst hz
  have e : u8s (L ++ [c]) = u8s L ++ [.int .u8 (c.toNat : Int)] := by simp [u8s]
  rw [e, List.length_append, List.length_singleton]; exact h
theorem nib (x d : Nat) (hx : x ≤ 4294967295) : bits .and .u32 ((x : Int) / (d : Int)) 15 = ((x / d % 16 : Nat) : Int) := by
  have h : (x : Int) / (d : Int) = ((x / d : Nat) : Int) := rfl
  have h2 : x / d ≤ x := Nat.div_le_self _ _
  rw [h]
  generalize x / d = y at *
  rw [and_lo _ 15 4 (by omega) (by omega) (by decide) (by decide)]
  rfl
abbrev hexB16 : ByteArray := { data := #[48, 49, 50, 51, 52, 53, 54, 55, 56, 57, 97, 98, 99, 100, 101, 102] }
theorem hexB16_at (r : Nat) (hr : r < 16) (h : r < hexB16.size) : ((hexB16[r]'h).toNat : Int) = ((hexC r).toNat : Int) := by
  have : ∀ k : Fin 16, ∀ h : k.val < hexB16.size, (hexB16[k.val]'h).toNat = (hexC k.val).toNat := by decide +kernel
  exact_mod_cast this ⟨r, hr⟩ h
def wX : Bs := [46, 119, 111, 114, 100, 32, 48, 120]
theorem word_no (n : Nat) (h : ¬ dOk (n : Int)) (hn : n ≤ 4294967295) : wordL n = wX ++ hexR n := by
  unfold wordL
  rw [if_neg h, Int.toNat_natCast]
  unfold hexT
  rw [pad_all n (by omega)]; rfl
set_option maxHeartbeats 8000000 in
set_option maxRecDepth 100000 in
theorem dis_ref (a : Option Addr) (n cap : Nat) (ws : List Int) (w : World) (hn : ws.length = n) (h100 : n ≤ 100) (hR : Row .u32 w a ws) (hu : U32s ws) :
    Calls Tryz.prog 8 #[.slice a n cap] w fun e w' => e = .returned (.string (S (disL ws))) ∧ Below w.heap.size w w' := by
  obtain ⟨i0, hi, hz0, hz1, hz2⟩ := info_parts infoByt
  have HR := Lib.hid hR
  have HU := Lib.hid hu
  clear hR hu
  go_enter Tryz.func8, Tryz.ntmps8
  go_wp2
  go_loopw [3, 4] (fun v i wr => ∃ k : Nat, k ≤ n ∧ i = .int .i64 k ∧ wr.ownsRow w.heap.size 5 1 v (disL (ws.take k)).length (u8s (disL (ws.take k))) ∧ Below w.heap.size w wr) (fun _ i _ => n - (intOf i).toNat)
  case atStart => exact ⟨0, Nat.zero_le _, rfl, World.ownsRow_nil _ _ _ _, Below.refl _ _⟩
  case round =>
    obtain ⟨k, hk, rfl, hown, hbw⟩ := hrel
    by_cases hlt : k < n
    · obtain ⟨b, off, ha, hc⟩ := HR.out.on hbw k (by omega)
      have hx := HU.out (ws.getD k 0) (by
        have h2 : k < ws.length := by omega
        have e : ws.getD k 0 = ws[k] := by simp [List.getD, h2]
        rw [e]; exact List.getElem_mem h2)
      obtain ⟨x, hxe⟩ : ∃ x : Nat, ws.getD k 0 = x := ⟨(ws.getD k 0).toNat, by omega⟩
      rw [hxe] at hc hx
      have hxe2 := Lib.hid hxe
      have HSN := Lib.hid (dis_snoc ws k x (by omega) hxe)
      have hl1 := dis_len (ws.take k) (fun y hy => HU.out y (List.mem_of_mem_take hy))
      have hl2 := word_short x hx.1 hx.2
      have hl3 : (disL (ws.take k)).length ≤ 4900 := by rw [List.length_take] at hl1; omega
      have hx1 : x ≤ 4294967295 := by omega
      have HBW := Lib.hid hbw
      have HO := Lib.hid hown
      clear hbw hown hxe hl1 hx
      subst ha
      generalize disL (ws.take k) = L at *
      have bb : Below wr.heap.size wr wr := Below.refl _ _
      by_cases hd : dOk (x : Int)
      · have HD := Lib.hid (fun W => decode_ref (x : Int) W (by omega) (by omega))
        rw [decide_eq_true hd] at HD
        have HW := word_str x hd
        have hm : -2147483648 ≤ zM x ∧ zM x ≤ 2147483647 := by
          have e : zM x = dM x := by unfold zM; rw [if_pos hd]
          have := ok_bound hd
          omega
        have HF := Lib.hid (fun W => format_ref (zOp x) (zA x) (zB x) (zC x) (zM x) W hm.1 hm.2)
        rw [HW] at HF
        generalize wordL x = t at *
        generalize zOp x = y1 at *
        generalize zA x = y2 at *
        generalize zB x = y3 at *
        generalize zC x = y4 at *
        generalize zM x = y5 at *
        have hts : (S t).size ≤ 48 := by rw [S_size]; omega
        clear hd HW
        go_wp2_with (first
          | (go_at_call 19; (with_reducible refine (HD.out _).mono ?_); rintro e w1 ⟨rfl, hb1⟩; replace bb := below_step bb hb1)
          | (go_at_call 20; (with_reducible refine (HF.out _).mono ?_); rintro e w2 ⟨rfl, hb2⟩; replace bb := below_step (bb.alloc bb.size _) hb2)
          | (at_builtin; refine Lib.wpList_append_own_string _ rfl _ _ 41 9 rfl w.heap.size 5 i0 Tryz.underlying41 Tryz.underlying9 hi hz0 hz1 hz2 _ _ _ rfl (own_below HO.out bb) (S t) rfl (by unfold maxLen; omega) (by omega) (Nat.le_trans HBW.out.size bb.size) ?_))
        intro v3 w3 hown3 hgrow3 _
        have HO3 := Lib.hid (own_app hown3)
        have HB3 := Lib.hid (show Below w.heap.size w w3 from (below_step HBW.out bb).grown hgrow3 ((below_step HBW.out bb).size) (fun k hk => ((own_below HO.out bb).lt k hk).1))
        have hl4 : (L ++ t).length ≤ 5000 := by rw [List.length_append]; omega
        clear hown3 hgrow3
        generalize L ++ t = M2 at *
        go_wp2_with (at_builtin; refine wpList_append_own _ rfl _ _ 41 rfl w.heap.size 5 i0 (.int .u8 0) 1 1 Tryz.underlying41 hi hz0 hz1 hz2 rfl (by decide) _ _ _ rfl (HO3.out.alloc _) ⟨_, 0, none⟩ 1 1 [.int .u8 10] rfl rfl (new_cell _ _ _) (one_cell _ _) (by unfold maxLen; omega) (by omega) (by have := HB3.out.size; simp; omega) ?_)
        intro v4 w4 hown4 hgrow4 _
        have HO4 := Lib.hid (own_one (c := 10) rfl hown4)
        have HB4 := Lib.hid (show Below w.heap.size w w4 from (HB3.out.alloc HB3.out.size _).grown hgrow4 (by have := HB3.out.size; simp; omega) (fun k hk => (HO3.out.lt k hk).1))
        clear hown4 hgrow4
        go_wp2
        go_roundw
        case rel => exact ⟨k + 1, by omega, by go_num, by rw [HSN.out]; exact HO4.out, HB4.out⟩
        case measure => simp [intOf]; omega
      · have HD := Lib.hid (fun W => decode_ref (x : Int) W (by omega) (by omega))
        rw [decide_eq_false hd] at HD
        have HW := Lib.hid (word_no x hd hx1)
        clear hd hl2
        generalize wordL x = t at *
        generalize zOp x = y1 at *
        generalize zA x = y2 at *
        generalize zB x = y3 at *
        generalize zC x = y4 at *
        generalize zM x = y5 at *
        go_wp2_with (first
          | (go_at_call 19; (with_reducible refine (HD.out _).mono ?_); rintro e w1 ⟨rfl, hb1⟩; replace bb := below_step bb hb1)
          | (at_builtin; refine Lib.wpList_append_own_string _ rfl _ _ 41 9 rfl w.heap.size 5 i0 Tryz.underlying41 Tryz.underlying9 hi hz0 hz1 hz2 _ _ _ rfl (own_below HO.out (bb.alloc bb.size _)) (S wX) rfl (by unfold maxLen; show _ + 8 ≤ _; omega) (by show _ + 8 ≤ _; omega) (Nat.le_trans HBW.out.size (bb.alloc bb.size _).size) ?_))
        intro v2 w2 hown2 hgrow2 _
        have HO2 := Lib.hid (own_app hown2)
        have HB2 := Lib.hid (show Below w.heap.size w w2 from (below_step HBW.out (bb.alloc bb.size (.cells #[.int .i64 y1, .int .i64 y2, .int .i64 y3, .int .i64 y4, .int .i32 y5] 38))).grown hgrow2 ((below_step HBW.out (bb.alloc bb.size (.cells #[.int .i64 y1, .int .i64 y2, .int .i64 y3, .int .i64 y4, .int .i32 y5] 38))).size) (fun k hk => ((own_below HO.out (bb.alloc bb.size (.cells #[.int .i64 y1, .int .i64 y2, .int .i64 y3, .int .i64 y4, .int .i32 y5] 38))).lt k hk).1))
        have hl4 : (L ++ wX).length ≤ 5000 := by rw [List.length_append]; show _ + 8 ≤ _; omega
        clear hown2 hgrow2
        generalize hLW : L ++ wX = M at *
        rename World => wQ
        go_wp2
        go_loopw [3, 7] (fun v kk wr => ∃ j : Nat, j ≤ 8 ∧ kk = .int .i64 (7 - (j : Int)) ∧ wr.ownsRow w.heap.size 5 1 v (M ++ (hexR x).take j).length (u8s (M ++ (hexR x).take j)) ∧ Below w.heap.size w wr) (fun _ kk _ => (intOf kk + 1).toNat)
        case atStart => exact ⟨0, by omega, rfl, by simpa using HO2.out, HB2.out⟩
        case round =>
          obtain ⟨j, hj, rfl, hown, hbw⟩ := hrel
          by_cases hj8 : j < 8
          · have HOJ := Lib.hid hown
            have HBJ := Lib.hid hbw
            obtain ⟨b2, off2, ha2, hc2⟩ := HR.out.on hbw k (by omega)
            obtain ⟨rfl, rfl⟩ : b2 = b ∧ off2 = off := by injection ha2 with ha2; injection ha2 with h1 h2; exact ⟨h1.symm, h2.symm⟩
            rw [hxe2.out] at hc2
            have HJ := Lib.hid (hexR_at x j hj8)
            have hlj : (M ++ (hexR x).take j).length ≤ 5010 := by rw [List.length_append, List.length_take]; omega
            clear hown hbw ha2
            rcases (show j = 0 ∨ j = 1 ∨ j = 2 ∨ j = 3 ∨ j = 4 ∨ j = 5 ∨ j = 6 ∨ j = 7 by omega) with rfl | rfl | rfl | rfl | rfl | rfl | rfl | rfl
            · obtain ⟨r, hr⟩ : ∃ r : Nat, x / 268435456 % 16 = r := ⟨_, rfl⟩
              have hr16 : r < 16 := by omega
              have q : bits .and .u32 ((x : Int) / 268435456) 15 = (r : Int) := by
                have h := nib x 268435456 hx1
                rw [hr] at h
                exact h
              have e16 : (16 : Nat) ^ (7 - 0) = 268435456 := by decide
              rw [show (7 : Int) - ((0 : Nat) : Int) = 7 from rfl]
              rw [e16, hr] at HJ
              clear hr e16
              obtain ⟨M3, hM3⟩ : ∃ M3, M ++ (hexR x).take 0 = M3 := ⟨_, rfl⟩
              have HOM := Lib.hid HOJ.out
              rw [hM3] at HOM hlj
              go_wp2_with (at_builtin; refine wpList_append_own _ rfl _ _ 41 rfl w.heap.size 5 i0 (.int .u8 0) 1 1 Tryz.underlying41 hi hz0 hz1 hz2 rfl (by decide) _ _ _ rfl (HOM.out.alloc _) ⟨_, 0, none⟩ 1 1 [.int .u8 _] rfl rfl (new_cell _ _ _) (one_cell _ _) (by unfold maxLen; omega) (by omega) (by have := HBJ.out.size; simp; omega) ?_)
              intro v4 w4 hown4 hgrow4 _
              have HO4 := Lib.hid (own_one (hexB16_at r hr16 _) hown4)
              have HB4 := Lib.hid (show Below w.heap.size w w4 from (HBJ.out.alloc HBJ.out.size _).grown hgrow4 (by have := HBJ.out.size; simp; omega) (fun k hk => (HOM.out.lt k hk).1))
              clear hown4 hgrow4
              go_wp2
              go_roundw
              case rel => exact ⟨1, by omega, by rfl, by rw [HJ.out, ← List.append_assoc, hM3]; exact HO4.out, HB4.out⟩
              case measure => simp [intOf]
            · obtain ⟨r, hr⟩ : ∃ r : Nat, x / 16777216 % 16 = r := ⟨_, rfl⟩
              have hr16 : r < 16 := by omega
              have q : bits .and .u32 ((x : Int) / 16777216) 15 = (r : Int) := by
                have h := nib x 16777216 hx1
                rw [hr] at h
                exact h
              have e16 : (16 : Nat) ^ (7 - 1) = 16777216 := by decide
              rw [show (7 : Int) - ((1 : Nat) : Int) = 6 from rfl]
              rw [e16, hr] at HJ
              clear hr e16
              obtain ⟨M3, hM3⟩ : ∃ M3, M ++ (hexR x).take 1 = M3 := ⟨_, rfl⟩
              have HOM := Lib.hid HOJ.out
              rw [hM3] at HOM hlj
              go_wp2_with (at_builtin; refine wpList_append_own _ rfl _ _ 41 rfl w.heap.size 5 i0 (.int .u8 0) 1 1 Tryz.underlying41 hi hz0 hz1 hz2 rfl (by decide) _ _ _ rfl (HOM.out.alloc _) ⟨_, 0, none⟩ 1 1 [.int .u8 _] rfl rfl (new_cell _ _ _) (one_cell _ _) (by unfold maxLen; omega) (by omega) (by have := HBJ.out.size; simp; omega) ?_)
              intro v4 w4 hown4 hgrow4 _
              have HO4 := Lib.hid (own_one (hexB16_at r hr16 _) hown4)
              have HB4 := Lib.hid (show Below w.heap.size w w4 from (HBJ.out.alloc HBJ.out.size _).grown hgrow4 (by have := HBJ.out.size; simp; omega) (fun k hk => (HOM.out.lt k hk).1))
              clear hown4 hgrow4
              go_wp2
              go_roundw
              case rel => exact ⟨2, by omega, by rfl, by rw [HJ.out, ← List.append_assoc, hM3]; exact HO4.out, HB4.out⟩
              case measure => simp [intOf]
            · obtain ⟨r, hr⟩ : ∃ r : Nat, x / 1048576 % 16 = r := ⟨_, rfl⟩
              have hr16 : r < 16 := by omega
              have q : bits .and .u32 ((x : Int) / 1048576) 15 = (r : Int) := by
                have h := nib x 1048576 hx1
                rw [hr] at h
                exact h
              have e16 : (16 : Nat) ^ (7 - 2) = 1048576 := by decide
              rw [show (7 : Int) - ((2 : Nat) : Int) = 5 from rfl]
              rw [e16, hr] at HJ
              clear hr e16
              obtain ⟨M3, hM3⟩ : ∃ M3, M ++ (hexR x).take 2 = M3 := ⟨_, rfl⟩
              have HOM := Lib.hid HOJ.out
              rw [hM3] at HOM hlj
              go_wp2_with (at_builtin; refine wpList_append_own _ rfl _ _ 41 rfl w.heap.size 5 i0 (.int .u8 0) 1 1 Tryz.underlying41 hi hz0 hz1 hz2 rfl (by decide) _ _ _ rfl (HOM.out.alloc _) ⟨_, 0, none⟩ 1 1 [.int .u8 _] rfl rfl (new_cell _ _ _) (one_cell _ _) (by unfold maxLen; omega) (by omega) (by have := HBJ.out.size; simp; omega) ?_)
              intro v4 w4 hown4 hgrow4 _
              have HO4 := Lib.hid (own_one (hexB16_at r hr16 _) hown4)
              have HB4 := Lib.hid (show Below w.heap.size w w4 from (HBJ.out.alloc HBJ.out.size _).grown hgrow4 (by have := HBJ.out.size; simp; omega) (fun k hk => (HOM.out.lt k hk).1))
              clear hown4 hgrow4
              go_wp2
              go_roundw
              case rel => exact ⟨3, by omega, by rfl, by rw [HJ.out, ← List.append_assoc, hM3]; exact HO4.out, HB4.out⟩
              case measure => simp [intOf]
            · obtain ⟨r, hr⟩ : ∃ r : Nat, x / 65536 % 16 = r := ⟨_, rfl⟩
              have hr16 : r < 16 := by omega
              have q : bits .and .u32 ((x : Int) / 65536) 15 = (r : Int) := by
                have h := nib x 65536 hx1
                rw [hr] at h
                exact h
              have e16 : (16 : Nat) ^ (7 - 3) = 65536 := by decide
              rw [show (7 : Int) - ((3 : Nat) : Int) = 4 from rfl]
              rw [e16, hr] at HJ
              clear hr e16
              obtain ⟨M3, hM3⟩ : ∃ M3, M ++ (hexR x).take 3 = M3 := ⟨_, rfl⟩
              have HOM := Lib.hid HOJ.out
              rw [hM3] at HOM hlj
              go_wp2_with (at_builtin; refine wpList_append_own _ rfl _ _ 41 rfl w.heap.size 5 i0 (.int .u8 0) 1 1 Tryz.underlying41 hi hz0 hz1 hz2 rfl (by decide) _ _ _ rfl (HOM.out.alloc _) ⟨_, 0, none⟩ 1 1 [.int .u8 _] rfl rfl (new_cell _ _ _) (one_cell _ _) (by unfold maxLen; omega) (by omega) (by have := HBJ.out.size; simp; omega) ?_)
              intro v4 w4 hown4 hgrow4 _
              have HO4 := Lib.hid (own_one (hexB16_at r hr16 _) hown4)
              have HB4 := Lib.hid (show Below w.heap.size w w4 from (HBJ.out.alloc HBJ.out.size _).grown hgrow4 (by have := HBJ.out.size; simp; omega) (fun k hk => (HOM.out.lt k hk).1))
              clear hown4 hgrow4
              go_wp2
              go_roundw
              case rel => exact ⟨4, by omega, by rfl, by rw [HJ.out, ← List.append_assoc, hM3]; exact HO4.out, HB4.out⟩
              case measure => simp [intOf]
            · obtain ⟨r, hr⟩ : ∃ r : Nat, x / 4096 % 16 = r := ⟨_, rfl⟩
              have hr16 : r < 16 := by omega
              have q : bits .and .u32 ((x : Int) / 4096) 15 = (r : Int) := by
                have h := nib x 4096 hx1
                rw [hr] at h
                exact h
              have e16 : (16 : Nat) ^ (7 - 4) = 4096 := by decide
              rw [show (7 : Int) - ((4 : Nat) : Int) = 3 from rfl]
              rw [e16, hr] at HJ
              clear hr e16
              obtain ⟨M3, hM3⟩ : ∃ M3, M ++ (hexR x).take 4 = M3 := ⟨_, rfl⟩
              have HOM := Lib.hid HOJ.out
              rw [hM3] at HOM hlj
              go_wp2_with (at_builtin; refine wpList_append_own _ rfl _ _ 41 rfl w.heap.size 5 i0 (.int .u8 0) 1 1 Tryz.underlying41 hi hz0 hz1 hz2 rfl (by decide) _ _ _ rfl (HOM.out.alloc _) ⟨_, 0, none⟩ 1 1 [.int .u8 _] rfl rfl (new_cell _ _ _) (one_cell _ _) (by unfold maxLen; omega) (by omega) (by have := HBJ.out.size; simp; omega) ?_)
              intro v4 w4 hown4 hgrow4 _
              have HO4 := Lib.hid (own_one (hexB16_at r hr16 _) hown4)
              have HB4 := Lib.hid (show Below w.heap.size w w4 from (HBJ.out.alloc HBJ.out.size _).grown hgrow4 (by have := HBJ.out.size; simp; omega) (fun k hk => (HOM.out.lt k hk).1))
              clear hown4 hgrow4
              go_wp2
              go_roundw
              case rel => exact ⟨5, by omega, by rfl, by rw [HJ.out, ← List.append_assoc, hM3]; exact HO4.out, HB4.out⟩
              case measure => simp [intOf]
            · obtain ⟨r, hr⟩ : ∃ r : Nat, x / 256 % 16 = r := ⟨_, rfl⟩
              have hr16 : r < 16 := by omega
              have q : bits .and .u32 ((x : Int) / 256) 15 = (r : Int) := by
                have h := nib x 256 hx1
                rw [hr] at h
                exact h
              have e16 : (16 : Nat) ^ (7 - 5) = 256 := by decide
              rw [show (7 : Int) - ((5 : Nat) : Int) = 2 from rfl]
              rw [e16, hr] at HJ
              clear hr e16
              obtain ⟨M3, hM3⟩ : ∃ M3, M ++ (hexR x).take 5 = M3 := ⟨_, rfl⟩
              have HOM := Lib.hid HOJ.out
              rw [hM3] at HOM hlj
              go_wp2_with (at_builtin; refine wpList_append_own _ rfl _ _ 41 rfl w.heap.size 5 i0 (.int .u8 0) 1 1 Tryz.underlying41 hi hz0 hz1 hz2 rfl (by decide) _ _ _ rfl (HOM.out.alloc _) ⟨_, 0, none⟩ 1 1 [.int .u8 _] rfl rfl (new_cell _ _ _) (one_cell _ _) (by unfold maxLen; omega) (by omega) (by have := HBJ.out.size; simp; omega) ?_)
              intro v4 w4 hown4 hgrow4 _
              have HO4 := Lib.hid (own_one (hexB16_at r hr16 _) hown4)
              have HB4 := Lib.hid (show Below w.heap.size w w4 from (HBJ.out.alloc HBJ.out.size _).grown hgrow4 (by have := HBJ.out.size; simp; omega) (fun k hk => (HOM.out.lt k hk).1))
              clear hown4 hgrow4
              go_wp2
              go_roundw
              case rel => exact ⟨6, by omega, by rfl, by rw [HJ.out, ← List.append_assoc, hM3]; exact HO4.out, HB4.out⟩
              case measure => simp [intOf]
            · obtain ⟨r, hr⟩ : ∃ r : Nat, x / 16 % 16 = r := ⟨_, rfl⟩
              have hr16 : r < 16 := by omega
              have q : bits .and .u32 ((x : Int) / 16) 15 = (r : Int) := by
                have h := nib x 16 hx1
                rw [hr] at h
                exact h
              have e16 : (16 : Nat) ^ (7 - 6) = 16 := by decide
              rw [show (7 : Int) - ((6 : Nat) : Int) = 1 from rfl]
              rw [e16, hr] at HJ
              clear hr e16
              obtain ⟨M3, hM3⟩ : ∃ M3, M ++ (hexR x).take 6 = M3 := ⟨_, rfl⟩
              have HOM := Lib.hid HOJ.out
              rw [hM3] at HOM hlj
              go_wp2_with (at_builtin; refine wpList_append_own _ rfl _ _ 41 rfl w.heap.size 5 i0 (.int .u8 0) 1 1 Tryz.underlying41 hi hz0 hz1 hz2 rfl (by decide) _ _ _ rfl (HOM.out.alloc _) ⟨_, 0, none⟩ 1 1 [.int .u8 _] rfl rfl (new_cell _ _ _) (one_cell _ _) (by unfold maxLen; omega) (by omega) (by have := HBJ.out.size; simp; omega) ?_)
              intro v4 w4 hown4 hgrow4 _
              have HO4 := Lib.hid (own_one (hexB16_at r hr16 _) hown4)
              have HB4 := Lib.hid (show Below w.heap.size w w4 from (HBJ.out.alloc HBJ.out.size _).grown hgrow4 (by have := HBJ.out.size; simp; omega) (fun k hk => (HOM.out.lt k hk).1))
              clear hown4 hgrow4
              go_wp2
              go_roundw
              case rel => exact ⟨7, by omega, by rfl, by rw [HJ.out, ← List.append_assoc, hM3]; exact HO4.out, HB4.out⟩
              case measure => simp [intOf]
            · obtain ⟨r, hr⟩ : ∃ r : Nat, x / 1 % 16 = r := ⟨_, rfl⟩
              have hr16 : r < 16 := by omega
              have q : bits .and .u32 ((x : Int)) 15 = (r : Int) := by
                have h := nib x 1 hx1
                rw [hr] at h
                rw [show ((1 : Nat) : Int) = 1 from rfl, Int.ediv_one] at h; exact h
              have e16 : (16 : Nat) ^ (7 - 7) = 1 := by decide
              rw [show (7 : Int) - ((7 : Nat) : Int) = 0 from rfl]
              rw [e16, hr] at HJ
              clear hr e16
              obtain ⟨M3, hM3⟩ : ∃ M3, M ++ (hexR x).take 7 = M3 := ⟨_, rfl⟩
              have HOM := Lib.hid HOJ.out
              rw [hM3] at HOM hlj
              go_wp2_with (at_builtin; refine wpList_append_own _ rfl _ _ 41 rfl w.heap.size 5 i0 (.int .u8 0) 1 1 Tryz.underlying41 hi hz0 hz1 hz2 rfl (by decide) _ _ _ rfl (HOM.out.alloc _) ⟨_, 0, none⟩ 1 1 [.int .u8 _] rfl rfl (new_cell _ _ _) (one_cell _ _) (by unfold maxLen; omega) (by omega) (by have := HBJ.out.size; simp; omega) ?_)
              intro v4 w4 hown4 hgrow4 _
              have HO4 := Lib.hid (own_one (hexB16_at r hr16 _) hown4)
              have HB4 := Lib.hid (show Below w.heap.size w w4 from (HBJ.out.alloc HBJ.out.size _).grown hgrow4 (by have := HBJ.out.size; simp; omega) (fun k hk => (HOM.out.lt k hk).1))
              clear hown4 hgrow4
              go_wp2
              go_roundw
              case rel => exact ⟨8, by omega, by rfl, by rw [HJ.out, ← List.append_assoc, hM3]; exact HO4.out, HB4.out⟩
              case measure => simp [intOf]
          · obtain rfl : j = 8 := by omega
            have HO3 := Lib.hid (show wr.ownsRow w.heap.size 5 1 u3 (L ++ t).length (u8s (L ++ t)) by
              have e : M ++ (hexR x).take 8 = L ++ t := by rw [← hLW, HW.out, List.append_assoc]; rfl
              rw [← e]; exact hown)
            have HB3 := Lib.hid hbw
            have hl5 : (L ++ t).length ≤ 5000 := by rw [HW.out, List.length_append, List.length_append]; show _ + (8 + 8) ≤ _; omega
            clear hown hbw HW
            generalize L ++ t = M2 at *
            rw [show (7 : Int) - ((8 : Nat) : Int) = -1 from rfl]
            go_wp2_with (at_builtin; refine wpList_append_own _ rfl _ _ 41 rfl w.heap.size 5 i0 (.int .u8 0) 1 1 Tryz.underlying41 hi hz0 hz1 hz2 rfl (by decide) _ _ _ rfl (HO3.out.alloc _) ⟨_, 0, none⟩ 1 1 [.int .u8 10] rfl rfl (new_cell _ _ _) (one_cell _ _) (by unfold maxLen; omega) (by omega) (by have := HB3.out.size; simp; omega) ?_)
            intro v4 w4 hown4 hgrow4 _
            have HO4 := Lib.hid (own_one (c := 10) rfl hown4)
            have HB4 := Lib.hid (show Below w.heap.size w w4 from (HB3.out.alloc HB3.out.size _).grown hgrow4 (by have := HB3.out.size; simp; omega) (fun k hk => (HO3.out.lt k hk).1))
            clear hown4 hgrow4
            go_wp2
            go_roundw
            case rel => exact ⟨k + 1, by omega, by go_num, by rw [HSN.out]; exact HO4.out, HB4.out⟩
            case measure => simp [intOf]; omega
    · obtain rfl : n = k := by omega
      have hz : ws.take n = ws := List.take_of_length_le (by omega)
      rw [hz] at hown
      have HO := Lib.hid hown
      have HBW := Lib.hid hbw
      clear hown hbw hz
      have hcv : (convert 41 9 u3).run Tryz.prog wr = .ok (.string (S (disL ws))) wr := by
        by_cases h0 : disL ws = []
        · have h := HO.out
          rw [h0] at h ⊢
          rcases h.2 with ⟨rfl, _⟩ | ⟨g, c, cur, rfl, _⟩
          · rfl
          · rw [run_convert_bytes_string _ 41 9 5 _ _ _ Tryz.underlying41 Tryz.underlying5 Tryz.underlying9]
            exact bytes_string _ _ _ _ [] rfl fun j hj => absurd hj (by simp)
        · exact own_convert (P := Tryz.prog) Tryz.underlying41 Tryz.underlying5 Tryz.underlying9 _ _ HO.out rfl h0
      go_wp2
      go_ret
      exact ⟨rfl, HBW.out⟩
end Go.Proofs.YtamjfbcjenocpaaGreatDoor
