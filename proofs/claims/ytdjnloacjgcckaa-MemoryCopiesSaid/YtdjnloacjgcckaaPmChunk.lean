import Derived.RangeFuncFrom
import Derived.RangeFuncNested
import Derived.RangeFuncBound
import Derived.RangeFuncCalls
import Derived.RangeFuncLeaves
import Derived.Shelf.Abstract
import Derived.Shelf.RegionOpen
import Derived.WalkKit
import Derived.OwnWalkIn
import Derived.TacticsInMore
import Derived.LoopNIn
import Derived.LoopIn
import Derived.Test.YtdjnloacjgcckaaPmHash
namespace Go.Proofs.Ytdjnloacjgcckaa
set_option linter.unusedVariables false
set_option linter.unusedSimpArgs false
open Go.ChangeShapes Go.WideShapes Go.ChangeAt Go.RowKit Go.Shelf Go.Proofs.Ytdjnloacjgcckaa.Num Go.Proofs.Ytdjnloacjgcckaa.Mem
attribute [local go_sem] Oper.semAt_some
/-- What a round that goes on keeps: the cells below n₀, block h apart. -/
def KeepH (h n₀ : Nat) (W W' : World) : Prop := ∀ b o, b < n₀ → b ≠ h → W'.cell? ⟨b, o, none⟩ = W.cell? ⟨b, o, none⟩
theorem KeepH.refl (h n₀ : Nat) (W : World) : KeepH h n₀ W W := fun _ _ _ _ => rfl
theorem KeepH.trans {h n₀ : Nat} {A B C : World} (h1 : KeepH h n₀ A B) (h2 : KeepH h n₀ B C) : KeepH h n₀ A C := fun b o hb hne => (h2 b o hb hne).trans (h1 b o hb hne)
/-- The words of chunk j. -/
def ckV (b off m j : Nat) : Value := .slice (some ⟨b, off + 32 * j, none⟩) (min 32 (m - 32 * j)) (min 32 (m - 32 * j))
abbrev Ck (m : Nat) := { j : Nat // 32 * j < m }
set_option maxRecDepth 100000 in
set_option maxHeartbeats 2000000 in
theorem chunk1_in (n l Bs Bn h n₀ b off m c : Nat) (hn : 1 ≤ n) (hm : m ≤ 1024) (hm0 : 0 < m) (hmc : m ≤ c) (hBs' : Bs < n₀ ∧ Bs ≠ h) (hBn' : Bn < n₀ ∧ Bn ≠ h) (J Jx : List (Ck m) → World → Prop)
    (hY : ∀ pre (x : Ck m) W, J pre W → pre.length < chunks m → YieldAt Fence.wide (n - 1) Try.prog l #[ckV b off m x.1] W fun e W' =>
      (e = .returned (.bool true) ∧ J (pre ++ [x]) W' ∧ KeepH h n₀ W W') ∨ (e = .returned (.bool false) ∧ Jx (pre ++ [x]) W'))
    (hJd : ∀ s W q, J s W → J s (W.drewN q)) (W : World) (hBs : W.cell? ⟨Bs, 0, none⟩ = some (.slice (some ⟨b, off, none⟩) m c)) (hBn : W.cell? ⟨Bn, 0, none⟩ = some (.int .i64 32)) (h0 : J [] W) :
    CallsIn Fence.wide n Try.prog 55 #[.func (.yield l) #[] #[], .pointer (some ⟨Bs, 0, none⟩), .pointer (some ⟨Bn, 0, none⟩)] W fun e W' => (∃ v, e = .returned v) ∧
      ((∃ ys, ys.map (·.1) = List.range (chunks m) ∧ J ys W') ∨ (∃ pre, True ∧ Jx pre W')) := by
  refine callsIn_of_wp Try.func55 rfl trivial ?_ rfl
  simp only [Try.ntmps55, List.size_toArray, List.length_cons, List.length_nil, Nat.reduceAdd, Nat.reduceSub, Array.replicate_succ, Array.replicate_zero, List.push_toArray, List.append_toArray, List.nil_append, List.cons_append]
  gi_wp2
  gi_loopw [4] (fun i wr => ∃ (k : Nat) (xs : List (Ck m)), k ≤ chunks m ∧ i = .int .i64 ((32 * k : Nat) : Int) ∧ Hid (xs.map (·.1) = List.range k) ∧ J xs wr ∧ KeepH h n₀ W wr)
    (fun i _ => m + 32 - (intOf i).toNat)
  case atStart => exact ⟨0, [], Nat.zero_le _, rfl, (rfl : ([] : List (Ck m)).map (·.1) = List.range 0), h0, KeepH.refl _ _ _⟩
  case round =>
    obtain ⟨k, xs, hk, rfl, hxs, hJ, hK⟩ := hrel
    have hc1 := (hK Bs 0 hBs'.1 hBs'.2).trans hBs
    have hc2 := (hK Bn 0 hBn'.1 hBn'.2).trans hBn
    have hlen : Hid (xs.length = k) := by
      have := congrArg List.length hxs.out
      rw [List.length_map, List.length_range] at this
      exact this
    by_cases hlt : 32 * k < m
    · have hkc : k < chunks m := by unfold chunks; omega
      have hmx : Try.prog.follows .mixedOrders = true := by kernel_rfl
      obtain ⟨p, hp⟩ : ∃ p, Hid (32 * k = p) := ⟨_, rfl⟩
      have hpm : p < m := by rw [← hp.out]; exact hlt
      have hcp : ¬ c = p := by omega
      rw [hp.out]
      obtain ⟨e, he⟩ : ∃ e, min 32 (m - p) = e := ⟨_, rfl⟩
      have hme : min (32 : Int) ((m - p : Nat) : Int) = (e : Int) := by omega
      have e1 : 1 ≤ e := by omega
      have e2 : e ≤ 32 := by omega
      have e3 : p + e ≤ m := by omega
      have HE := Lib.hid he
      clear he
      have hpe : ¬ p + e = p := by omega
      gi_wp2
      gi_big_quiet_th_o (fail)
      have hc3 : (wr.drewN nq).cell? ⟨Bs, 0, none⟩ = some (.slice (some ⟨b, off, none⟩) m c) := hc1
      have hc4 : (wr.drewN nq).cell? ⟨Bn, 0, none⟩ = some (.int .i64 32) := hc2
      obtain ⟨fn, tmps, assign, body, hy, hR⟩ := hY xs ⟨k, hlt⟩ (wr.drewN nq) (hJd _ _ _ hJ) (by rw [hlen.out]; exact hkc)
      have HK2 : Hid (KeepH h n₀ W (wr.drewN nq)) := hK
      have ev : ckV b off m k = .slice (some ⟨b, off + p, none⟩) e e := by
        unfold ckV
        rw [hp.out, HE.out]
      dsimp only at hy
      rw [ev] at hy
      clear ev
      gi_wp2
      refine hR.mono ?_
      rintro e' W3 (⟨rfl, hJ3, hk3⟩ | ⟨rfl, hJx3⟩)
      · have hc5 := (hk3 Bn 0 hBn'.1 hBn'.2).trans hc4
        gi_wp2
        go_roundw
        case rel =>
          have hx2 : (xs ++ [(⟨k, hlt⟩ : Ck m)]).map (·.1) = List.range (k + 1) := by rw [List.map_append, hxs.out, List.range_succ]; rfl
          exact ⟨k + 1, xs ++ [⟨k, hlt⟩], by omega, by rw [← hp.out]; go_num, Lib.hid hx2, hJ3, HK2.out.trans hk3⟩
        case measure => simp [intOf]; omega
      · gi_wp2
        refine bodyPost_ret (results_none rfl _ _ _) rfl ?_
        exact ⟨⟨_, rfl⟩, .inr ⟨_, trivial, hJx3⟩⟩
    · have hkc : k = chunks m := by unfold chunks at *; omega
      obtain ⟨p, hp⟩ : ∃ p, Hid (32 * k = p) := ⟨_, rfl⟩
      have hpm : ¬ p < m := by rw [← hp.out]; exact hlt
      rw [hp.out]
      gi_wp2
      go_end0
      exact ⟨⟨_, rfl⟩, .inl ⟨xs, by rw [hxs.out, hkc], hJ⟩⟩
set_option maxRecDepth 100000 in
set_option maxHeartbeats 1000000 in
/-- .. where there is no word: no round. -/
theorem chunk0_in (n l Bs Bn c : Nat) (A : Option Addr) (J : List (Ck 0) → World → Prop) (W : World) (hBs : W.cell? ⟨Bs, 0, none⟩ = some (.slice A 0 c)) (hBn : W.cell? ⟨Bn, 0, none⟩ = some (.int .i64 32)) (h0 : J [] W) :
    CallsIn Fence.wide n Try.prog 55 #[.func (.yield l) #[] #[], .pointer (some ⟨Bs, 0, none⟩), .pointer (some ⟨Bn, 0, none⟩)] W fun e W' => (∃ v, e = .returned v) ∧ J [] W' := by
  refine callsIn_of_wp Try.func55 rfl trivial ?_ rfl
  simp only [Try.ntmps55, List.size_toArray, List.length_cons, List.length_nil, Nat.reduceAdd, Nat.reduceSub, Array.replicate_succ, Array.replicate_zero, List.push_toArray, List.append_toArray, List.nil_append, List.cons_append]
  gi_wp2
  gi_loopw [4] (fun i wr => i = .int .i64 0 ∧ J [] wr ∧ wr = W) (fun _ _ => 0)
  case atStart => exact ⟨rfl, h0, rfl⟩
  case round =>
    obtain ⟨rfl, hJs, rfl⟩ := hrel
    gi_wp2
    go_end0
    exact ⟨⟨_, rfl⟩, hJs⟩
set_option maxHeartbeats 1000000 in
theorem chunk_in (n m c : Nat) (A : Option Addr) (w : World) :
    CallsIn Fence.wide n Try.prog 48 #[.slice A m c, .int .i64 32] w fun e w' => e = .returned (.func (.func 55) #[] #[.pointer (some ⟨w.heap.size, 0, none⟩), .pointer (some ⟨w.heap.size + 1, 0, none⟩)]) ∧ w' = (w.alloc (.cells #[.slice A m c] 22)).alloc (.cells #[.int .i64 32] 3) := by
  refine callsIn_of_wp Try.func48 rfl trivial ?_ rfl
  simp only [Try.ntmps48, List.size_toArray, List.length_cons, List.length_nil, Nat.reduceAdd, Nat.reduceSub, Array.replicate_succ, Array.replicate_zero, List.push_toArray, List.append_toArray, List.nil_append, List.cons_append]
  gi_wp2
  go_ret
  exact ⟨rfl, rfl⟩
theorem abides_drew {α : Type} {B : Nat} {J : List α → World → Prop} (h : AbidesFrom B J) : ∀ s W q, J s W → J s (W.drewN q) := fun s W q hs => h s W _ none hs ⟨rfl, rfl, rfl, Nat.le_refl _, fun _ _ _ => rfl⟩ (fun r e => by cases e)
theorem chunk_stops (n Bs Bn h n₀ m c : Nat) (A : Option Addr) (hn : 1 ≤ n) (hm : m ≤ 1024) (hmc : m ≤ c) (hA : 0 < m → ∃ b off, A = some ⟨b, off, none⟩) (hBs' : Bs < n₀ ∧ Bs ≠ h) (hBn' : Bn < n₀ ∧ Bn ≠ h) (w : World) (hB1 : Bs < w.heap.size) (hB2 : Bn < w.heap.size)
    (hBs : w.cell? ⟨Bs, 0, none⟩ = some (.slice A m c)) (hBn : w.cell? ⟨Bn, 0, none⟩ = some (.int .i64 32)) :
    ∃ b off, (0 < m → A = some ⟨b, off, none⟩) ∧ SeqStopsK Fence.wide n Try.prog 55 #[.pointer (some ⟨Bs, 0, none⟩), .pointer (some ⟨Bn, 0, none⟩)] (fun x : Ck m => #[ckV b off m x.1]) (KeepH h n₀) (fun ys => ys.map (·.1) = List.range (chunks m)) (fun _ => True) (chunks m) w := by
  rcases Nat.eq_zero_or_pos m with h0 | h0
  · subst h0
    refine ⟨0, 0, fun h => absurd h (Nat.lt_irrefl 0), fun l J Jx W hW _ _ hY h1 => ?_⟩
    exact (chunk0_in n l Bs Bn c A J W ((hW.cell (p := ⟨Bs, 0, none⟩) hB1).trans hBs) ((hW.cell (p := ⟨Bn, 0, none⟩) hB2).trans hBn) h1).mono fun e W' ⟨he, hj⟩ => ⟨he, .inl ⟨[], rfl, hj⟩⟩
  · obtain ⟨b, off, rfl⟩ := hA h0
    refine ⟨b, off, fun _ => rfl, fun l J Jx W hW hJ _ hY h1 => ?_⟩
    exact chunk1_in n l Bs Bn h n₀ b off m c hn hm h0 hmc hBs' hBn' J Jx hY (abides_drew hJ) W ((hW.cell (p := ⟨Bs, 0, none⟩) hB1).trans hBs) ((hW.cell (p := ⟨Bn, 0, none⟩) hB2).trans hBn) h1
end Go.Proofs.Ytdjnloacjgcckaa
