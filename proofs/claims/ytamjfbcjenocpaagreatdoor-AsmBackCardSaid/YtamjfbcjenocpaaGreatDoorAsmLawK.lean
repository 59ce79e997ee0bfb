import Derived.Test.YtamjfbcjenocpaaGreatDoorAsmCode
import Derived.Test.YtamjfbcjenocpaaGreatDoorAsmGh
import Derived.Test.YtamjfbcjenocpaaGreatDoorAsmGe
import Derived.Test.YtamjfbcjenocpaaGreatDoorAsmGg
import Derived.Test.YtamjfbcjenocpaaGreatDoorIsaLaid
namespace Go.Proofs.YtamjfbcjenocpaaGreatDoor
set_option linter.unusedVariables false
set_option linter.unusedSimpArgs false
open Go.ChangeShapes Go.WideShapes Go.ChangeAt Go.RowKit Go.Proofs.YtamjfbcjenocpaaGreatDoor.Num Go.Proofs.YtamjfbcjenocpaaGreatDoor.Isa Go.Proofs.YtamjfbcjenocpaaGreatDoor.Mem Go.Proofs.YtamjfbcjenocpaaGreatDoor.Asm
theorem box2 {w w' : World} {T : TypeId} {v0 v1 : Value} (hb : Below (w.alloc (Obj.cells #[v0, v1] T)).heap.size (w.alloc (Obj.cells #[v0, v1] T)) w') :
    w'.cell? ⟨w.heap.size, 0, none⟩ = some v0 ∧ w'.cell? ⟨w.heap.size, 1, none⟩ = some v1 := by
  have hs : w.heap.size < (w.alloc (Obj.cells #[v0, v1] T)).heap.size := by simp
  refine ⟨?_, ?_⟩ <;> (rw [hb.cell hs]; simp)
theorem own_room {w : World} {base : Nat} {e : TypeId} {v : Value} {n : Nat} {xs : List Value} (h : w.ownsRow base e 1 v n xs) : ∃ oa cap, v = .slice oa n cap ∧ n ≤ cap ∧ cap ≤ 9223372036854775807 := by
  rcases h.2 with ⟨rfl, rfl⟩ | ⟨g, cap, cur, rfl, _, _, h1, h2, _⟩
  · exact ⟨none, 0, rfl, Nat.le_refl _, by omega⟩
  · exact ⟨_, cap, rfl, h1, by unfold maxLen at h2; omega⟩
set_option maxHeartbeats 4000000 in
set_option maxRecDepth 100000 in
/-- The words came in. -/
theorem back_plain (a b : Option Addr) (n cap m cap2 : Nat) (ws : List Int) (w : World) (hm : ws.length = n) (h100 : n ≤ 100) (hR : Row .u32 w a ws) (hu : U32s ws) (hTb : Tab2 w) :
    Calls Tryz.prog 3 #[.slice a n cap, .slice b m cap2, .bool false] w fun e w' => e = .returned (.bool true) ∧ Below w.heap.size w w' := by
  have hdl := dis_len ws hu
  have htr := trans_dis hu (by omega) (by omega)
  have hD := fun W (h1 : Row .u32 W a ws) (h2 : Tab2 W) => dis_asm a n cap ws W hm h100 h1 hu h2
  have hE := fun W (h1 : Row .u32 W a ws) => dis_ref a n cap ws W hm h100 h1 hu
  obtain ⟨D, hDe⟩ : ∃ D, disL ws = D := ⟨_, rfl⟩
  rw [hDe] at hdl htr hD hE
  have ha := fun W => assemble_asm (S D) W (by rw [S_size]; omega)
  rw [S_list, htr] at ha
  have hsz : (S D).size ≤ 4900 := by rw [S_size]; omega
  have HA := Lib.hid (show ∀ W, Calls Tryz.prog 7 #[.string (S D)] W fun e w' => (∃ v, e = .returned (.tuple #[v, .agg #[.int .i64 0, .int .i64 0]]) ∧ w'.ownsRow W.heap.size 34 1 v ws.length (ws.map u32V)) ∧ Below W.heap.size W w' from ha)
  rw [hm] at HA
  have HD := Lib.hid hD
  have HE := Lib.hid hE
  have HAW := Lib.hid awake3
  have HR := Lib.hid hR
  have HT := Lib.hid hTb
  have HS1 := Lib.hid (fun A c W (h1 : Row .u32 W A ws) (h2 : Row .u32 W a ws) => show Calls Tryz.prog 9 #[.slice A n c, .slice a n cap] W fun e w' => e = .returned (.bool true) ∧ ∃ q, w' = W.drewN q from (same_any A a n n c cap ws ws W (by omega) hm hm h1 h2).mono fun e w' ⟨he, hw⟩ => ⟨by rw [he, decide_eq_true rfl], hw⟩)
  have bb : Below w.heap.size w w := Below.refl _ _
  have hI : ¬ (100 : Int) < n := by omega
  clear ha htr hD hE hR hTb hm hdl hDe hu
  go_enter Tryz.func3, Tryz.ntmps3
  go_wp2_with (first
    | (go_at_call 6; (with_reducible refine (HD.out _ HR.out HT.out).mono ?_); rintro e w1 ⟨rfl, hb1⟩; replace bb := below_step bb hb1)
    | (go_at_call 7; (with_reducible refine (HA.out _).mono ?_); rintro e w2 ⟨⟨v2, rfl, hv2⟩, hb2⟩; obtain ⟨oa2, cap2, rfl, hc2, hd2⟩ := own_room hv2; have HV2 := Lib.hid ((row_own hv2).on ((Below.refl _ _).alloc (Nat.le_refl _) (.cells #[.int .i64 0, .int .i64 0] 29))); replace bb := below_step bb hb2; clear hv2)
    | (go_at_call 8; (with_reducible refine (HE.out _ (HR.out.on (bb.alloc bb.size _))).mono ?_); rintro e w3 ⟨rfl, hb3⟩; obtain ⟨x0, x1⟩ := box2 hb3; have HV3 := Lib.hid (HV2.out.on hb3); replace bb := below_step (bb.alloc bb.size _) hb3)
    | (go_at_call 9; (with_reducible refine (HS1.out _ _ _ HV3.out (HR.out.on bb)).mono ?_); rintro e w7 ⟨rfl, q7, rfl⟩)
    | (go_at_call 5; (with_reducible refine (HAW.out _).mono ?_); rintro e w9 ⟨rfl, hb9⟩))
  go_ret
  exact ⟨rfl, below_step (below_drewN bb _) hb9⟩
theorem back_long (a b : Option Addr) (n cap m cap2 : Nat) (w : World) (h : 100 < n) :
    Calls Tryz.prog 3 #[.slice a n cap, .slice b m cap2, .bool false] w fun e w' => e = .returned (.bool true) ∧ Below w.heap.size w w' := by
  have HAW := Lib.hid awake3
  have hI : (100 : Int) < n := by omega
  clear h
  go_enter Tryz.func3, Tryz.ntmps3
  go_wp2_with (go_at_call 5; (with_reducible refine (HAW.out _).mono ?_); rintro e w1 ⟨rfl, hb1⟩)
  go_ret
  exact ⟨rfl, hb1⟩
set_option maxHeartbeats 4000000 in
set_option maxRecDepth 100000 in
theorem back_made_long (a b : Option Addr) (n cap m cap2 : Nat) (zs : List Int) (w : World) (h : 100 < m) (hn : zs.length = m) (hbig : m ≤ 17592186044416) (hR : Row .i64 w b zs) (hz : ∀ z ∈ zs, -9223372036854775808 ≤ z ∧ z ≤ 9223372036854775807) :
    Calls Tryz.prog 3 #[.slice a n cap, .slice b m cap2, .bool true] w fun e w' => e = .returned (.bool true) ∧ Below w.heap.size w w' := by
  have HAW := Lib.hid awake3
  have HC := Lib.hid (code_made b m cap2 zs w hn hbig hR hz)
  have hI : (100 : Int) < m := by omega
  clear h hR hz hn
  go_enter Tryz.func3, Tryz.ntmps3
  go_wp2_with (first
    | (go_at_call 4; (with_reducible refine (HC.out).mono ?_); rintro e w1 ⟨⟨v1, ws, rfl, hu, hwl, hv1⟩, hb1⟩; obtain ⟨oa1, cap1, rfl, hc1, hd1⟩ := own_room hv1; clear hv1)
    | (go_at_call 5; (with_reducible refine (HAW.out _).mono ?_); rintro e w2 ⟨rfl, hb2⟩))
  go_ret
  exact ⟨rfl, below_step hb1 hb2⟩
theorem below_two {n : Nat} {w w' : World} (h : Below n w w') (hn : n = w.heap.size) : Below w.heap.size w w' := by subst hn; exact h
set_option maxHeartbeats 4000000 in
set_option maxRecDepth 100000 in
theorem back_made (a b : Option Addr) (n cap m cap2 : Nat) (zs : List Int) (w : World) (h100 : m ≤ 100) (hn : zs.length = m) (hR : Row .i64 w b zs) (hz : ∀ z ∈ zs, -9223372036854775808 ≤ z ∧ z ≤ 9223372036854775807) (hTb : Tab2 w) :
    Calls Tryz.prog 3 #[.slice a n cap, .slice b m cap2, .bool true] w fun e w' => e = .returned (.bool true) ∧ Below w.heap.size w w' := by
  have HC := Lib.hid (code_made b m cap2 zs w hn (by omega) hR hz)
  have HD := Lib.hid (fun a cap ws hm W (h1 : Row .u32 W a ws) hu (h2 : Tab2 W) => dis_asm a m cap ws W hm h100 h1 hu h2)
  have HE := Lib.hid (fun a cap ws hm W (h1 : Row .u32 W a ws) hu => dis_ref a m cap ws W hm h100 h1 hu)
  have HDL := Lib.hid (fun (ws : List Int) (hu : U32s ws) (hm : ws.length = m) => show (S (disL ws)).size ≤ 4900 by have := dis_len ws hu; rw [S_size]; omega)
  have HA := Lib.hid (fun (ws : List Int) (hu : U32s ws) (hm : ws.length = m) W => show Calls Tryz.prog 7 #[.string (S (disL ws))] W fun e w' => (∃ v, e = .returned (.tuple #[v, .agg #[.int .i64 0, .int .i64 0]]) ∧ w'.ownsRow W.heap.size 34 1 v m (ws.map u32V)) ∧ Below W.heap.size W w' by
    have hdl := dis_len ws hu
    have ha := assemble_asm (S (disL ws)) W (by rw [S_size]; omega)
    rw [S_list, trans_dis hu (by omega) (by omega)] at ha
    subst hm
    exact ha)
  have HAW := Lib.hid awake3
  have HT := Lib.hid hTb
  have HS1 := Lib.hid (fun A c a cap (ws : List Int) (hm : ws.length = m) W (h1 : Row .u32 W A ws) (h2 : Row .u32 W a ws) => show Calls Tryz.prog 9 #[.slice A m c, .slice a m cap] W fun e w' => e = .returned (.bool true) ∧ ∃ q, w' = W.drewN q from (same_any A a m m c cap ws ws W (by omega) hm hm h1 h2).mono fun e w' ⟨he, hw⟩ => ⟨by rw [he, decide_eq_true rfl], hw⟩)
  have hI : ¬ (100 : Int) < m := by omega
  clear hR hz hTb hn
  go_enter Tryz.func3, Tryz.ntmps3
  go_wp2_with (first
    | (go_at_call 4; (with_reducible refine (HC.out).mono ?_); rintro e w1 ⟨⟨v1, ws, rfl, hu, hwl, hv1⟩, bb⟩; obtain ⟨oa1, cap1, rfl, hc1, hd1⟩ := own_room hv1; have HU := Lib.hid hu; have HWL := Lib.hid hwl; have HR := Lib.hid (row_own hv1); have hss := HDL.out ws hu hwl; have HA2 := Lib.hid (HA.out ws hu hwl); have b1 : Below w1.heap.size w1 w1 := Below.refl _ _; clear hv1 hu hwl)
    | (go_at_call 6; (with_reducible refine (HD.out _ _ _ HWL.out _ HR.out HU.out (HT.out.on bb)).mono ?_); rintro e w2 ⟨rfl, hb2⟩; replace b1 := below_step b1 hb2)
    | (go_at_call 7; (with_reducible refine (HA2.out _).mono ?_); rintro e w3 ⟨⟨v3, rfl, hv3⟩, hb3⟩; obtain ⟨oa3, cap3, rfl, hc3, hd3⟩ := own_room hv3; have HV3 := Lib.hid ((row_own hv3).on ((Below.refl _ _).alloc (Nat.le_refl _) (.cells #[.int .i64 0, .int .i64 0] 29))); replace b1 := below_step b1 hb3; clear hv3)
    | (go_at_call 8; (with_reducible refine (HE.out _ _ _ HWL.out _ (HR.out.on (b1.alloc b1.size _)) HU.out).mono ?_); rintro e w4 ⟨rfl, hb4⟩; obtain ⟨x0, x1⟩ := box2 hb4; have HV4 := Lib.hid (HV3.out.on hb4); replace b1 := below_step (b1.alloc b1.size _) hb4)
    | (go_at_call 9; (with_reducible refine (HS1.out _ _ _ _ _ HWL.out _ HV4.out (HR.out.on b1)).mono ?_); rintro e w7 ⟨rfl, q7, rfl⟩)
    | (go_at_call 5; (with_reducible refine (HAW.out _).mono ?_); rintro e w9 ⟨rfl, hb9⟩))
  go_ret
  exact ⟨rfl, below_step (below_drewN (below_step bb b1) _) hb9⟩
theorem back_walk (a b : Option Addr) (n cap m cap2 : Nat) (made : Bool) (xs ys : List Int) (w : World) (hT : Tab2 w) (h1 : IsRowW w a n cap xs) (h2 : IsRowI w b m cap2 ys) (hreach : m ≤ 17592186044416) :
    Calls Tryz.prog 3 #[.slice a n cap, .slice b m cap2, .bool made] w fun e w' => e = .returned (.bool true) ∧ Below w.heap.size w w' := by
  cases made with
  | false =>
    by_cases h : 100 < n
    · exact back_long a b n cap m cap2 w h
    · obtain ⟨ws, k1, k2, k3, k4⟩ := row_of h1
      exact back_plain a b n cap m cap2 ws w k1 (by omega) k3 (fun x hx => by have := wf_u32 (k4 x hx); omega) hT
  | true =>
    obtain ⟨zs, l1, l2, l3, l4⟩ := row_of h2
    have hz : ∀ z ∈ zs, -9223372036854775808 ≤ z ∧ z ≤ 9223372036854775807 := fun z hz => by have := wf_i64 (l4 z hz); omega
    by_cases h : 100 < m
    · exact back_made_long a b n cap m cap2 zs w h l1 hreach l3 hz
    · exact back_made a b n cap m cap2 zs w (by omega) l1 l3 hz hT
end Go.Proofs.YtamjfbcjenocpaaGreatDoor
