import Derived.RangeFuncFrom
import Derived.RangeFuncNested
import Derived.RangeFuncBound
import Derived.RangeFuncCalls
import Derived.RangeFuncLeaves
import Derived.Shelf.Abstract
import Derived.Shelf.RegionOpen
import Derived.WalkKit
import Derived.OwnWalkIn
import Derived.TacticsInMore
import Derived.LoopNIn
import Derived.LoopIn
import Derived.Test.YtleljcpljhpoaaaPgList
namespace Go.Proofs.Ytleljcpljhpoaaa
set_option linter.unusedVariables false
set_option linter.unusedSimpArgs false
open Go.ChangeShapes Go.WideShapes Go.ChangeAt Go.RowKit Go.Shelf Go.Proofs.Ytleljcpljhpoaaa.Num Go.Proofs.Ytleljcpljhpoaaa.Mem
attribute [local go_sem] Oper.semAt_some
/-- What a round that goes on keeps: the cells below n₀, block h apart. -/
def KeepP (h n₀ : Nat) (W W' : World) : Prop := ∀ b o, b < n₀ → b ≠ h → W'.cell? ⟨b, o, none⟩ = W.cell? ⟨b, o, none⟩
theorem KeepP.refl (h n₀ : Nat) (W : World) : KeepP h n₀ W W := fun _ _ _ _ => rfl
theorem KeepP.trans {h n₀ : Nat} {A B C : World} (h1 : KeepP h n₀ A B) (h2 : KeepP h n₀ B C) : KeepP h n₀ A C := fun b o hb hne => (h2 b o hb hne).trans (h1 b o hb hne)
/-- Words that lie below n₀ and not in block h. -/
def Low (h n₀ : Nat) (A : Option Addr) (l : List Int) : Prop := 0 < l.length → ∀ b off s, A = some ⟨b, off, s⟩ → b < n₀ ∧ b ≠ h
theorem Mem.keepP {h n₀ : Nat} {W W' : World} {A : Option Addr} {n c : Nat} {l : List Int} (hm : Mem W A n c l) (hl : Low h n₀ A l) (hk : KeepP h n₀ W W') : Mem W' A n c l := by
  obtain ⟨h1, h2, h3, h4, h5⟩ := hm
  refine ⟨h1, h2, h3, h4, fun h0 => ?_⟩
  obtain ⟨b, off, rfl, hc⟩ := h5 h0
  obtain ⟨hb, hne⟩ := hl h0 b off none rfl
  exact ⟨b, off, rfl, fun i hi => (hk b _ hb hne).trans (hc i hi)⟩
abbrev Pg := { j : Nat // j < 32 }
/-- How many pages a table yields. -/
def pgN (n : Nat) (root : Int) : Nat := if root < pagesN n then 32 else 0
def enV (l : List Int) (r : Nat) (x : Pg) : Array Value := #[.int .u32 (x.1 : Int), .int .u32 (wd l (32 * r + x.1))]
theorem abides_p {α : Type} {B : Nat} {J : List α → World → Prop} (h : AbidesFrom B J) : ∀ s W q, J s W → J s (W.drewN q) := fun s W q hs => h s W _ none hs ⟨rfl, rfl, rfl, Nat.le_refl _, fun _ _ _ => rfl⟩ (fun r e => by cases e)
theorem quiet_in {F : Fence} {q : Nat} {P : Program} {f : FuncId} {args : Array Value} {w : World} {n : Nat} {v : Value}
    (h : CallsIn F q P f args (w.drewN n) fun e w' => e = .returned v ∧ ∃ m, w' = (w.drewN n).drewN m) :
    CallsIn F q P f args (w.drewN n) fun e w'' => e = .returned v ∧ ∃ m, w'' = w.drewN m :=
  h.mono fun _ _ ⟨he, m, hm⟩ => ⟨he, n + m, by rw [hm, World.drewN_drewN]⟩
set_option maxRecDepth 100000 in
set_option maxHeartbeats 2000000 in
theorem entr_in (q lid Bs Bn h n₀ n c r : Nat) (A : Option Addr) (l : List Int) (hq : 1 ≤ q) (hn : n ≤ 1024) (hrn : (r : Int) ≤ 4294967295) (hBs' : Bs < n₀ ∧ Bs ≠ h) (hBn' : Bn < n₀ ∧ Bn ≠ h) (hlow : Low h n₀ A l) (J Jx : List Pg → World → Prop)
    (hY : ∀ pre (x : Pg) W, J pre W → pre.length < pgN n r → YieldAt Fence.wide (q - 1) Try.prog lid (enV l r x) W fun e W' =>
      (e = .returned (.bool true) ∧ J (pre ++ [x]) W' ∧ KeepP h n₀ W W') ∨ (e = .returned (.bool false) ∧ Jx (pre ++ [x]) W'))
    (hJd : ∀ s W q, J s W → J s (W.drewN q)) (W : World) (hm : Mem W A n c l) (hBs : W.cell? ⟨Bs, 0, none⟩ = some (.slice A n c)) (hBn : W.cell? ⟨Bn, 0, none⟩ = some (.int .u32 r)) (h0 : J [] W) :
    CallsIn Fence.wide q Try.prog 47 #[.func (.yield lid) #[] #[], .pointer (some ⟨Bs, 0, none⟩), .pointer (some ⟨Bn, 0, none⟩)] W fun e W' => (∃ v, e = .returned v) ∧
      ((∃ ys, ys.map (·.1) = List.range (pgN n r) ∧ J ys W') ∨ (∃ pre, True ∧ Jx pre W')) := by
  have hp := pagesN_le n
  have HM := Lib.hid hm
  have HLOW := Lib.hid hlow
  have HBSC := Lib.hid hBs
  have HBNC := Lib.hid hBn
  have HFR := Lib.hid (fun W => frame_any A n c r W (by omega) (by omega) hrn)
  clear hm hlow
  by_cases hr : r < pagesN n
  · have hN : Hid (pgN n r = 32) := by show _ = _; unfold pgN; rw [if_pos (by omega)]
    rw [decide_eq_true (show (r : Int) < pagesN n by omega)] at HFR
    rw [hN.out] at hY
    refine callsIn_of_wp Try.func47 rfl trivial ?_ rfl
    simp only [Try.ntmps47, List.size_toArray, List.length_cons, List.length_nil, Nat.reduceAdd, Nat.reduceSub, Array.replicate_succ, Array.replicate_zero, List.push_toArray, List.append_toArray, List.nil_append, List.cons_append]
    gi_wp2_with (refine ⟨trivial, ?_⟩; gi_at_call 26; refine (callsIn_wide.2 (HFR.out _)).mono ?_; rintro e w1 ⟨rfl, m1, rfl⟩)
    have hJ0 := Lib.hid (hJd _ _ m1 h0)
    have hK0 : Hid (KeepP h n₀ W (W.drewN m1)) := KeepP.refl h n₀ W
    clear hBs hBn h0
    gi_loopw [11] (fun i wr => ∃ (k : Nat) (xs : List Pg), k ≤ 32 ∧ i = .int .u32 (k : Int) ∧ Hid (xs.map (·.1) = List.range k) ∧ J xs wr ∧ KeepP h n₀ W wr)
      (fun i _ => 32 - (intOf i).toNat)
    case atStart => exact ⟨0, [], Nat.zero_le _, rfl, (rfl : ([] : List Pg).map (·.1) = List.range 0), hJ0.out, hK0.out⟩
    case round =>
      obtain ⟨k, xs, hk, rfl, hxs, hJ, hK⟩ := hrel
      have hc1 := (hK Bs 0 hBs'.1 hBs'.2).trans HBSC.out
      have hc2 := (hK Bn 0 hBn'.1 hBn'.2).trans HBNC.out
      have hlen : Hid (xs.length = k) := by
        have := congrArg List.length hxs.out
        rw [List.length_map, List.length_range] at this
        exact this
      have HMK := Lib.hid (HM.out.keepP HLOW.out hK)
      by_cases hlt : k < 32
      · have hmx : Try.prog.follows .mixedOrders = true := by kernel_rfl
        have HP := Lib.hid (fun W => place_pg r k W (by omega) (by omega) (by omega) (by omega))
        have HL := Lib.hid (fun W (hM : Mem W A n c l) => load_pte A n c l r k W hM (by omega) (by omega) (by omega) (by omega))
        have e1 : ((32 * (r : Int) + (k : Int)).toNat) = 32 * r + k := by omega
        rw [e1] at HL
        clear e1
        have HK2 := Lib.hid hK
        have HY := Lib.hid (fun q => hY xs ⟨k, hlt⟩ (wr.drewN q) (hJd _ _ _ hJ) (by rw [hlen.out]; exact hlt))
        have HEV : Hid (enV l r ⟨k, hlt⟩ = #[.int .u32 (k : Int), .int .u32 (wd l (32 * r + k))]) := rfl
        rw [HEV.out] at HY
        clear HEV
        generalize wd l (32 * r + k) = x at *
        clear hK hJ
        gi_wp2
        have hc3 : wr.drew.cell? ⟨Bs, 0, none⟩ = some (.slice A n c) := hc1
        have hc4 : wr.drew.cell? ⟨Bn, 0, none⟩ = some (.int .u32 r) := hc2
        have HMD : Hid (Mem wr.drew A n c l) := HMK.out
        gi_region_with_o (first
          | (refine ⟨trivial, ?_⟩; gi_at_call 27; refine (callsIn_wide.2 (HP.out _)).mono ?_; rintro e w1 ⟨rfl, rfl⟩)
          | (refine ⟨trivial, ?_⟩; gi_at_call 28; refine (callsIn_wide.2 (HL.out _ HMD.out)).mono ?_; rintro e w2 ⟨rfl, m2, rfl⟩))
        all_goals
          obtain ⟨fn, tmps, assign, body, hy, hR⟩ := HY.out (1 + m2)
          have HK3 : Hid (KeepP h n₀ W (wr.drewN (1 + m2))) := HK2.out
          gi_wp2
          refine hR.mono ?_
          rintro e' W3 (⟨rfl, hJ3, hk3⟩ | ⟨rfl, hJx3⟩)
          · gi_wp2
            go_roundw
            case rel =>
              have hx2 : (xs ++ [(⟨k, hlt⟩ : Pg)]).map (·.1) = List.range (k + 1) := by rw [List.map_append, hxs.out, List.range_succ]; rfl
              exact ⟨k + 1, xs ++ [⟨k, hlt⟩], by omega, by go_num, Lib.hid hx2, hJ3, HK3.out.trans hk3⟩
            case measure => simp [intOf]; omega
          · gi_wp2
            refine bodyPost_ret (results_none rfl _ _ _) rfl ?_
            exact ⟨⟨_, rfl⟩, .inr ⟨_, trivial, hJx3⟩⟩
      · obtain rfl : k = 32 := by omega
        have HJ := Lib.hid hJ
        clear hK hJ
        gi_wp2
        go_end0
        exact ⟨⟨_, rfl⟩, .inl ⟨xs, by rw [hxs.out, hN.out], HJ.out⟩⟩
  · have hN : Hid (pgN n r = 0) := by show _ = _; unfold pgN; rw [if_neg (by omega)]
    rw [decide_eq_false (show ¬ (r : Int) < pagesN n by omega)] at HFR
    clear hY
    refine callsIn_of_wp Try.func47 rfl trivial ?_ rfl
    simp only [Try.ntmps47, List.size_toArray, List.length_cons, List.length_nil, Nat.reduceAdd, Nat.reduceSub, Array.replicate_succ, Array.replicate_zero, List.push_toArray, List.append_toArray, List.nil_append, List.cons_append]
    gi_wp2_with (refine ⟨trivial, ?_⟩; gi_at_call 26; refine (callsIn_wide.2 (HFR.out _)).mono ?_; rintro e w1 ⟨rfl, m1, rfl⟩)
    refine bodyPost_ret (results_none rfl _ _ _) rfl ?_
    exact ⟨⟨_, rfl⟩, .inl ⟨[], by rw [hN.out]; rfl, hJd _ _ _ h0⟩⟩
set_option maxHeartbeats 1000000 in
theorem entries_in (q n c : Nat) (A : Option Addr) (root : Int) (w : World) :
    CallsIn Fence.wide q Try.prog 38 #[.slice A n c, .int .u32 root] w fun e w' => e = .returned (.func (.func 47) #[] #[.pointer (some ⟨w.heap.size, 0, none⟩), .pointer (some ⟨w.heap.size + 1, 0, none⟩)]) ∧ w' = (w.alloc (.cells #[.slice A n c] 22)).alloc (.cells #[.int .u32 root] 24) := by
  refine callsIn_of_wp Try.func38 rfl trivial ?_ rfl
  simp only [Try.ntmps38, List.size_toArray, List.length_cons, List.length_nil, Nat.reduceAdd, Nat.reduceSub, Array.replicate_succ, Array.replicate_zero, List.push_toArray, List.append_toArray, List.nil_append, List.cons_append]
  gi_wp2
  go_ret
  exact ⟨rfl, rfl⟩
theorem entr_stops (q Bs Bn h n₀ n c r : Nat) (A : Option Addr) (l : List Int) (hq : 1 ≤ q) (hrn : (r : Int) ≤ 4294967295) (hBs' : Bs < n₀ ∧ Bs ≠ h) (hBn' : Bn < n₀ ∧ Bn ≠ h) (w : World) (hm : Mem w A n c l) (hlow : Low h n₀ A l) (hB1 : Bs < w.heap.size) (hB2 : Bn < w.heap.size)
    (hBs : w.cell? ⟨Bs, 0, none⟩ = some (.slice A n c)) (hBn : w.cell? ⟨Bn, 0, none⟩ = some (.int .u32 r)) :
    SeqStopsK Fence.wide q Try.prog 47 #[.pointer (some ⟨Bs, 0, none⟩), .pointer (some ⟨Bn, 0, none⟩)] (enV l r) (KeepP h n₀) (fun ys => ys.map (·.1) = List.range (pgN n r)) (fun _ => True) (pgN n r) w :=
  fun lid J Jx W hW hJ _ hY h1 => entr_in q lid Bs Bn h n₀ n c r A l hq hm.2.2.1 hrn hBs' hBn' hlow J Jx hY (abides_p hJ) W (hm.on hW) ((hW.cell (p := ⟨Bs, 0, none⟩) hB1).trans hBs) ((hW.cell (p := ⟨Bn, 0, none⟩) hB2).trans hBn) h1
end Go.Proofs.Ytleljcpljhpoaaa
