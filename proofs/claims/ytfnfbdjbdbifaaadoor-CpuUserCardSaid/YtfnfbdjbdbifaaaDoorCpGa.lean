import Derived.Test.YtfnfbdjbdbifaaaDoorCpBox
import Derived.Test.YtfnfbdjbdbifaaaDoorCpEq
import Derived.Test.YtfnfbdjbdbifaaaDoorCpAluX
import Derived.Test.YtfnfbdjbdbifaaaDoorCpEx
import Derived.Test.YtfnfbdjbdbifaaaDoorPmFn5
import Derived.Test.YtfnfbdjbdbifaaaDoorCpGd
namespace Go.Proofs.YtfnfbdjbdbifaaaDoor
set_option linter.unusedVariables false
set_option linter.unusedSimpArgs false
theorem list25 {L : List Int} (h : L.length = 25) : ∃ a0 a1 a2 a3 a4 a5 a6 a7 a8 a9 a10 a11 a12 a13 a14 a15 a16 a17 a18 a19 a20 a21 a22 a23 a24, L = [a0, a1, a2, a3, a4, a5, a6, a7, a8, a9, a10, a11, a12, a13, a14, a15, a16, a17, a18, a19, a20, a21, a22, a23, a24] := by
  obtain _ | ⟨a0, L⟩ := L; · simp at h
  obtain _ | ⟨a1, L⟩ := L; · simp at h
  obtain _ | ⟨a2, L⟩ := L; · simp at h
  obtain _ | ⟨a3, L⟩ := L; · simp at h
  obtain _ | ⟨a4, L⟩ := L; · simp at h
  obtain _ | ⟨a5, L⟩ := L; · simp at h
  obtain _ | ⟨a6, L⟩ := L; · simp at h
  obtain _ | ⟨a7, L⟩ := L; · simp at h
  obtain _ | ⟨a8, L⟩ := L; · simp at h
  obtain _ | ⟨a9, L⟩ := L; · simp at h
  obtain _ | ⟨a10, L⟩ := L; · simp at h
  obtain _ | ⟨a11, L⟩ := L; · simp at h
  obtain _ | ⟨a12, L⟩ := L; · simp at h
  obtain _ | ⟨a13, L⟩ := L; · simp at h
  obtain _ | ⟨a14, L⟩ := L; · simp at h
  obtain _ | ⟨a15, L⟩ := L; · simp at h
  obtain _ | ⟨a16, L⟩ := L; · simp at h
  obtain _ | ⟨a17, L⟩ := L; · simp at h
  obtain _ | ⟨a18, L⟩ := L; · simp at h
  obtain _ | ⟨a19, L⟩ := L; · simp at h
  obtain _ | ⟨a20, L⟩ := L; · simp at h
  obtain _ | ⟨a21, L⟩ := L; · simp at h
  obtain _ | ⟨a22, L⟩ := L; · simp at h
  obtain _ | ⟨a23, L⟩ := L; · simp at h
  obtain _ | ⟨a24, L⟩ := L; · simp at h
  obtain _ | ⟨b, L⟩ := L
  · exact ⟨a0, a1, a2, a3, a4, a5, a6, a7, a8, a9, a10, a11, a12, a13, a14, a15, a16, a17, a18, a19, a20, a21, a22, a23, a24, rfl⟩
  · simp at h
theorem cpV_lit {L : List Int} (h : L.length = 25) : cpV L = .agg #[.int .u32 (wd L 0), .int .u32 (wd L 1), .int .u32 (wd L 2), .int .u32 (wd L 3), .int .u32 (wd L 4), .int .u32 (wd L 5), .int .u32 (wd L 6), .int .u32 (wd L 7), .int .u32 (wd L 8), .int .u32 (wd L 9), .int .u32 (wd L 10), .int .u32 (wd L 11), .int .u32 (wd L 12), .int .u32 (wd L 13), .int .u32 (wd L 14), .int .u32 (wd L 15), .int .u32 (wd L 16), .int .u32 (wd L 17), .int .u32 (wd L 18), .int .u32 (wd L 19), .int .u32 (wd L 20), .int .u32 (wd L 21), .int .u32 (wd L 22), .int .u32 (wd L 23), .int .u32 (wd L 24)] := by
  obtain ⟨a0, a1, a2, a3, a4, a5, a6, a7, a8, a9, a10, a11, a12, a13, a14, a15, a16, a17, a18, a19, a20, a21, a22, a23, a24, rfl⟩ := list25 h
  rfl
end Go.Proofs.YtfnfbdjbdbifaaaDoor

namespace Go.Proofs.YtfnfbdjbdbifaaaDoor
set_option linter.unusedVariables false
set_option linter.unusedSimpArgs false
set_option maxRecDepth 20000
open Go.ChangeShapes Go.WideShapes Go.ChangeAt Go.RowKit Go.Proofs.YtfnfbdjbdbifaaaDoor.Num Go.Proofs.YtfnfbdjbdbifaaaDoor.Mem Go.Proofs.YtfnfbdjbdbifaaaDoor.Isa
/- awake. -/
theorem awk_facts : ftC 32 (zs 32) (resetL 0) = 0 ∧ ftW 32 (zs 32) (resetL 0) = 0 ∧ ftL 32 (zs 32) (resetL 0) = zs 32 ∧ decide (dOk 0) = false ∧ wd (trapL (resetL 0) 1 0) 20 = 1 ∧ wd (trapL (resetL 0) 1 0) 17 = 9 ∧ aluV 2 3 5 = 4294967294 ∧ aluB 2 = true := by decide +kernel
theorem new1 (w : World) : Calls Tryd.prog 19 #[.int .i64 1] w fun e w' => (∃ A c, e = .returned (.slice A 32 c) ∧ Mem w' A 32 c (zs 32)) ∧ Below w.heap.size w w' := by
  refine (new_ref 1 w).mono fun e w' ⟨⟨A, c, l, he, hl, hm, _⟩, hb⟩ => ?_
  have hll : l = zs 32 := by rw [hl]; rfl
  subst hll
  rw [zs_len] at he hm
  exact ⟨⟨A, c, he, hm⟩, hb⟩
set_option maxHeartbeats 1000000 in
theorem awake6 (w : World) : Calls Tryd.prog 11 #[] w fun e w' => e = .returned (.bool true) ∧ Below w.heap.size w w' := by
  obtain ⟨q1, q2, q3, q4, q5, q6, q7, q8⟩ := awk_facts
  have hR : C25 (resetL 0) := C25.reset (by omega) (by omega)
  have hd : ¬ dOk 0 := of_decide_eq_false q4
  have HE := Lib.hid (fun W A c (hM : Mem W A 32 c (zs 32)) => exec_ill (resetL 0) A 32 c (zs 32) W hR hM q1 (by rw [q2]; exact hd) (by rw [q2]; omega))
  rw [q2, q3] at HE
  have HA := Lib.hid (fun W => alu_any 2 3 5 W (by omega) (by omega) (by omega) (by omega))
  unfold AluPost at HA
  rw [q7, q8] at HA
  have HRS := Lib.hid (fun W => reset_any 0 W)
  have hL := (hR.trap 1 (b := 0) (by omega) (by omega)).1
  generalize trapL (resetL 0) 1 0 = L at *
  generalize resetL 0 = R at *
  unfold efV at HE
  clear q1 q2 q3 q4 q7 q8 hd hR
  obtain ⟨F1, F2, F3, -⟩ := cw_facts
  go_enter Tryd.func11, Tryd.ntmps11
  go_wp2_with (first
    | (refine wpList_alloc_box rfl rfl ?_; simp only [Act.put, List.setIfInBounds_toArray, List.set_cons_zero, List.set_cons_succ])
    | (refine wpList_load_look rfl _ rfl _ rfl (fun ob hob => ?_); simp [look_alloc, look_setRow, look_drew, look_drewN, look_setCell, Nat.add_assoc] at hob; subst hob; refine ⟨_, rfl, by (first | with_reducible assumption | (simp only [List.length_set]; with_reducible assumption) | exact Z25_len), ?_⟩; simp only [Act.put, List.setIfInBounds_toArray, List.set_cons_zero, List.set_cons_succ])
    | (go_at_call 31; refine (HRS.out _).mono ?_; rintro e w1 ⟨rfl, hb1⟩)
    | (go_at_call 19; refine (new1 _).mono ?_; rintro e w2 ⟨⟨A2, c2, rfl, hm2⟩, hb2⟩))
  refine (HE.out _ _ _ hm2).mono ?_
  rintro e w3 ⟨⟨S3, c3, rfl, hm3, hf3⟩, hb3⟩
  have bel := below_step (below_step hb1 hb2) hb3
  clear hm3 hf3 hm2 hb1 hb2 hb3
  go_wp2_with (first
    | (refine wpList_alloc_box rfl rfl ?_; simp only [Act.put, List.setIfInBounds_toArray, List.set_cons_zero, List.set_cons_succ])
    | (refine wpList_load_look rfl _ rfl _ rfl (fun ob hob => ?_); simp [look_alloc, look_setRow, look_drew, look_drewN, look_setCell, Nat.add_assoc] at hob; subst hob; refine ⟨_, rfl, by (first | with_reducible assumption | (simp only [List.length_set]; with_reducible assumption) | exact Z25_len), ?_⟩; simp only [Act.put, List.setIfInBounds_toArray, List.set_cons_zero, List.set_cons_succ])
    | (refine wpList_store_look rfl _ _ rfl _ rfl rfl (by (first | with_reducible assumption | (simp only [List.length_set]; with_reducible assumption) | exact Z25_len)) (fun ob hob => by (simp [look_alloc, look_setRow, look_drew, look_drewN, look_setCell, Nat.add_assoc] at hob; subst hob; exact ⟨_, rfl, by (first | with_reducible assumption | (simp only [List.length_set]; with_reducible assumption) | exact Z25_len)⟩)) (fun w2 hw2 => ?_); simp [row_alloc_same, row_alloc_old] at hw2; subst hw2; simp only [Act.put, List.setIfInBounds_toArray, List.set_cons_zero, List.set_cons_succ])
    | (go_at_call 32; refine (HA.out _).mono ?_; rintro e w4 ⟨rfl, m4, rfl⟩))
  go_ret
  exact ⟨rfl, below_step bel (by (repeat' (first | with_reducible exact Below.refl _ _ | with_reducible assumption | with_reducible apply below_drewN | with_reducible apply Below.drew | with_reducible apply Below.setCell | with_reducible apply Below.alloc | (simp; done) | omega | (simp; omega))))⟩
end Go.Proofs.YtfnfbdjbdbifaaaDoor

namespace Go.Proofs.YtfnfbdjbdbifaaaDoor
set_option linter.unusedVariables false
set_option linter.unusedSimpArgs false
set_option maxRecDepth 20000
open Go.ChangeShapes Go.WideShapes Go.ChangeAt Go.RowKit Go.Proofs.YtfnfbdjbdbifaaaDoor.Num Go.Proofs.YtfnfbdjbdbifaaaDoor.Mem Go.Proofs.YtfnfbdjbdbifaaaDoor.Isa
/- The processor and the memory that the laws place an instruction in. -/
theorem round_big (n k : Int) (w : World) (hk : 1 ≤ k) (hk' : k ≤ 9223372036854775807) (h0 : -9223372036854775808 ≤ n) (h1 : n ≤ 9223372036854775807) :
    Calls Tryd.prog 16 #[.int .i64 n, .int .i64 k] w fun e w' => e = .returned (.int .i64 (n % k)) ∧ w = w' := by
  have hz : ¬ k = 0 := by omega
  have hr := Lib.hid (rnd n k hk)
  go_enter Tryd.func16, Tryd.ntmps16
  go_wp2
  all_goals go_ret
  all_goals refine ⟨ret_int ?_, rfl⟩
  · have := (hr.out.1 (by assumption)).2
    rw [(hr.out.1 (by assumption)).1]
    (try unfold wrap64); omega
  · rw [(hr.out.2 (by assumption)).1]
theorem at_some (A : Option Addr) (n c : Nat) (z : Nat → Int) (i : Nat) (w : World) (hn : n ≤ 9223372036854775807) (hi : i ≤ 1000) (hz : Ints w A n z) :
    Calls Tryd.prog 18 #[.slice A n c, .int .i64 (i : Int)] w fun e w' => (∃ y, e = .returned (.int .i64 y) ∧ -9223372036854775808 ≤ y ∧ y ≤ 9223372036854775807) ∧ ∃ m, w' = w.drewN m := by
  by_cases h0 : n = 0
  · subst h0
    go_enter Tryd.func18, Tryd.ntmps18
    go_wp2
    all_goals first | (exfalso; omega) | skip
    go_ret
    exact ⟨⟨0, rfl, by omega, by omega⟩, 0, rfl⟩
  · have i0 : 0 ≤ (i : Int) % n := Int.emod_nonneg _ (by omega)
    have i1 : (i : Int) % n < n := Int.emod_lt_of_pos _ (by omega)
    obtain ⟨q, hq⟩ : ∃ q : Nat, (i : Int) % n = q := ⟨((i : Int) % n).toNat, by omega⟩
    have hqn : q < n := by omega
    have HR := Lib.hid (fun W => round_big (i : Int) n W (by omega) (by omega) (by omega) (by omega))
    rw [hq] at HR
    obtain ⟨b, off, rfl, hc⟩ := hz.1 q hqn
    have hb := hz.2 q hqn
    generalize z q = y at hc hb
    have hn0 : ¬ (n : Int) = 0 := by omega
    clear hq i0 i1 hz
    go_enter Tryd.func18, Tryd.ntmps18
    go_wp2_with (go_at_call 16; (with_reducible refine (HR.out _).mono ?_); rintro e w1 ⟨rfl, rfl⟩)
    go_ret
    exact ⟨⟨y, rfl, hb⟩, 0, rfl⟩
theorem mix_some (n k : Int) (w : World) (h0 : -9223372036854775808 ≤ n) (h1 : n ≤ 9223372036854775807) (k0 : 0 ≤ k) (k1 : k ≤ 1000) :
    Calls Tryd.prog 15 #[.int .i64 n, .int .i64 k] w fun e w' => (∃ v, e = .returned (.int .i64 v) ∧ 0 ≤ v ∧ v ≤ 9223372036854775807) ∧ w = w' :=
  (mix_any n k w h0 h1 k0 k1).mono fun e w' ⟨he, hw⟩ => ⟨⟨_, he, mixK_bd n k⟩, hw⟩
theorem lk_set {w : World} {g : Nat} {L : List Int} {T : TypeId} (h : lk w g = some (.cells (cw L).toArray T (0, 0))) (k : Nat) (v : Int) : lk (w.setCell ⟨g, k, none⟩ (.int .u32 v)) g = some (.cells (cw (L.set k v)).toArray T (0, 0)) := by
  rw [look_setCell, if_pos rfl, h]
  simp [cw_set]
theorem lk_setN {w : World} {g b k : Nat} {o : Option Obj} {v : Value} (h : lk w g = o) (hne : ¬ b = g) : lk (w.setCell ⟨b, k, none⟩ v) g = o := by
  rw [look_setCell, if_neg hne, h]
theorem new4 (w : World) : Calls Tryd.prog 19 #[.int .i64 4] w fun e w' => (∃ l c, e = .returned (.slice (some ⟨w.heap.size, 0, none⟩) 128 c) ∧ 128 ≤ c ∧ l.length = 128 ∧ U32 l ∧ Own w' w.heap.size l) ∧ Below w.heap.size w w' := by
  refine (new_made 3 w (by omega)).mono fun e w' ⟨⟨l, c, he, hc, hl, hu, ho⟩, hb⟩ => ⟨⟨l, c, he, hc, hl.out, hu, ho⟩, hb⟩
/-- A processor as it is placed: registers, then Pc, kernel mode, all other control registers 0. -/
def Placed (L : List Int) (pc : Int) : Prop := C25 L ∧ wd L 0 = 0 ∧ wd L 16 = pc ∧ wd L 17 = 1 ∧ ∀ j, 18 ≤ j → wd L j = 0
theorem Placed.reset {pc : Int} (h0 : 0 ≤ pc) (h1 : pc ≤ 4294967295) : Placed (resetL pc) pc :=
  ⟨C25.reset h0 h1, rfl, rfl, rfl, fun j hj => by
    by_cases h : j < 25
    · have hh : j = 18 ∨ j = 19 ∨ j = 20 ∨ j = 21 ∨ j = 22 ∨ j = 23 ∨ j = 24 := by omega
      rcases hh with rfl | rfl | rfl | rfl | rfl | rfl | rfl <;> rfl
    · unfold wd
      rw [List.getD_eq_getElem?_getD, List.getElem?_eq_none (by show 25 ≤ j; omega)]; rfl⟩
theorem Placed.set {L : List Int} {pc : Int} (h : Placed L pc) {k : Nat} (k0 : 1 ≤ k) (k1 : k < 16) {v : Int} (v0 : 0 ≤ v) (v1 : v ≤ 4294967295) : Placed (L.set k v) pc := by
  obtain ⟨h1, h2, h3, h4, h5⟩ := h
  have hk : k < 25 := by omega
  refine ⟨h1.set k v0 v1, ?_, ?_, ?_, fun j hj => ?_⟩
  · rw [wdset h1 hk, if_neg (by omega)]; exact h2
  · rw [wdset h1 hk, if_neg (by omega)]; exact h3
  · rw [wdset h1 hk, if_neg (by omega)]; exact h4
  · rw [wdset h1 hk, if_neg (by omega)]; exact h5 j hj
theorem results_cpt {fn : Func} {p q : Tmp} (h : fn.results = #[.cell p 32, .tmp q]) (tmps : Array Value) (w : World) (g : Nat) (hp : tmps.getD p undef = .pointer (some ⟨g, 0, none⟩))
    {L : List Int} (hL : L.length = 25) (hb : lk w g = some (.cells (cw L).toArray 32 (0, 0))) :
    (results fn tmps).run Tryd.prog w = .ok (.tuple #[cpV L, tmps.getD q undef]) w := by
  obtain ⟨fs, hu⟩ := undCpu
  have e1 := run_loadVar_row (P := Tryd.prog) w g _ 32 _ (0, 0) _ hb hu rfl (by rw [List.size_toArray, cw_len hL]; exact infCpu)
  have hp' : tmps[p]?.getD undef = .pointer (some ⟨g, 0, none⟩) := by simpa using hp
  simp [results, h, hp', asAddr, e1, cpV, Sem.run_bind]
/-- What 'placed' gives: the memory lies in a block of its own. -/
def PlPost (pc x : Int) (w : World) (e : Ending) (w' : World) : Prop :=
  (∃ L g c l, e = .returned (.tuple #[cpV L, .slice (some ⟨g, 0, none⟩) 128 c]) ∧ 128 ≤ c ∧ Placed L pc ∧ l.length = 128 ∧ U32 l ∧ wd l (pc / 4).toNat = x ∧ Own w' g l ∧ w.heap.size ≤ g) ∧ Below w.heap.size w w'
set_option maxHeartbeats 1000000 in
theorem placed_any (A : Option Addr) (n c : Nat) (z : Nat → Int) (pc x : Int) (w : World) (hn : n ≤ 9223372036854775807) (hz : Ints w A n z) (p0 : 0 ≤ pc) (p1 : pc < 512) (x0 : 0 ≤ x) (x1 : x ≤ 4294967295) :
    Calls Tryd.prog 7 #[.slice A n c, .int .u32 pc, .int .u32 x] w (PlPost pc x w) := by
  have HA := Lib.hid (fun W (i : Nat) (hi : i ≤ 1000) (hZ : Ints W A n z) => at_some A n c z i W hn hi hZ)
  have HZ := Lib.hid hz
  have HR := Lib.hid (fun W => reset_ref pc W)
  have HN := Lib.hid new4
  have hpl := Placed.reset (pc := pc) p0 (by omega)
  have hlen := hpl.1.1
  generalize resetL pc = L0 at *
  clear hz
  obtain ⟨F1, F2, F3, -⟩ := cw_facts
  go_enter Tryd.func7, Tryd.ntmps7
  go_wp2_with (first
    | (refine wpList_box_box rfl _ rfl rfl ?_; simp only [Act.put, List.setIfInBounds_toArray, List.set_cons_zero, List.set_cons_succ])
    | (refine wpList_alloc_box rfl rfl ?_; simp only [Act.put, List.setIfInBounds_toArray, List.set_cons_zero, List.set_cons_succ]))
  refine (HR.out _).mono ?_
  rintro e w1 ⟨rfl, hb1⟩
  have X6 := look_on (g := w.heap.size) (o := .cells (cw Z25).toArray 32 (0, 0)) (by simp [look_alloc]) hb1 (by simp)
  have b1 : Below w.heap.size w w1 := Below.trans (by (repeat' (first | with_reducible exact Below.refl _ _ | with_reducible assumption | with_reducible apply below_drewN | with_reducible apply Below.drew | with_reducible apply Below.setCell | with_reducible apply Below.alloc | (simp; done) | omega | (simp; omega)))) (hb1.mono (by simp))
  have s1 : w.heap.size < w1.heap.size := Nat.lt_of_lt_of_le (by simp) hb1.size
  clear hb1
  go_wp2_with (first
    | (refine wpList_alloc_box rfl rfl ?_; simp only [Act.put, List.setIfInBounds_toArray, List.set_cons_zero, List.set_cons_succ])
    | (refine wpList_store_look rfl _ _ rfl _ rfl rfl (by (first | with_reducible assumption | (simp only [List.length_set]; with_reducible assumption) | exact Z25_len)) (fun ob hob => by (simp [look_alloc, look_setRow, look_drew, look_drewN, look_setCell, Nat.add_assoc] at hob; subst hob; exact ⟨_, rfl, by (first | with_reducible assumption | (simp only [List.length_set]; with_reducible assumption) | exact Z25_len)⟩)) (fun w2 hw2 => ?_); simp [row_alloc_same, row_alloc_old] at hw2; subst hw2; simp only [Act.put, List.setIfInBounds_toArray, List.set_cons_zero, List.set_cons_succ]))
  have n1 : ¬ w1.heap.size = w.heap.size := by omega
  have m1 : ¬ w.heap.size = w1.heap.size := by omega
  go_loopw [9] (fun i wr => ∃ (k : Nat) (L : List Int), 1 ≤ k ∧ k ≤ 16 ∧ i = .int .i64 k ∧ Placed L pc ∧ lk wr w1.heap.size = some (.cells (cw L).toArray 32 (0, 0)) ∧ lk wr w.heap.size = some (.cells (cw Z25).toArray 32 (0, 0)) ∧ Below w.heap.size w wr ∧ w1.heap.size < wr.heap.size) (fun i _ => 16 - (intOf i).toNat)
  case atStart => exact ⟨1, L0, by omega, by omega, rfl, hpl, by simp [look_alloc], by simp [look_alloc, m1]; exact X6, by (repeat' (first | with_reducible exact Below.refl _ _ | with_reducible assumption | with_reducible apply below_drewN | with_reducible apply Below.drew | with_reducible apply Below.setCell | with_reducible apply Below.alloc | (simp; done) | omega | (simp; omega))), by simp⟩
  case round =>
    obtain ⟨k, L, k1, k16, rfl, hP, hlk, hlr, hb, hs⟩ := hrel
    have hL := hP.1.1
    by_cases hlt : k < 16
    · have hc : wr.cell? ⟨w1.heap.size, k, none⟩ = some (.int .u32 (wd L k)) := by rw [cell_lk hlk]; simpa using cw_at hL (show k < 25 by omega)
      have hf : wr.frozen? ⟨w1.heap.size, k, none⟩ = false := frozen_lk hlk k
      have hk0 : (0 : Int) ≤ k := by omega
      have hk16 : (k : Int) < 16 := by omega
      by_cases he : ((k : Int) % 2 == 0) = true
      · go_wp2_with (first
          | (go_at_call 18; refine (HA.out _ _ (by omega) (HZ.out.on hb)).mono ?_; rintro e w2 ⟨⟨y, rfl, y0, y1⟩, m, rfl⟩)
          | (go_at_call 15; refine (mix_some _ _ _ y0 y1 (by omega) (by omega)).mono ?_; rintro e w3 ⟨⟨v, rfl, v0, v1⟩, rfl⟩))
        go_roundw
        case rel => exact ⟨k + 1, _, by omega, by omega, by go_num, (hP.set (v := bits BinOp.and IntKind.i64 v 4294967295 % 4294967296) k1 hlt (by omega) (by omega)).set (v := bits BinOp.and IntKind.i64 v 4294967295 % 4294967296 % 600) k1 hlt (by omega) (by omega), lk_set (lk_set (w := wr.drewN m) hlk _ _) _ _, lk_setN (lk_setN (w := wr.drewN m) hlr n1) n1, by (repeat' (first | with_reducible exact Below.refl _ _ | with_reducible assumption | with_reducible apply below_drewN | with_reducible apply Below.drew | with_reducible apply Below.setCell | with_reducible apply Below.alloc | (simp; done) | omega | (simp; omega))), by simpa using hs⟩
        case measure => simp [intOf]; omega
      · replace he : ((k : Int) % 2 == 0) = false := by simpa using he
        go_wp2_with (first
          | (go_at_call 18; refine (HA.out _ _ (by omega) (HZ.out.on hb)).mono ?_; rintro e w2 ⟨⟨y, rfl, y0, y1⟩, m, rfl⟩)
          | (go_at_call 15; refine (mix_some _ _ _ y0 y1 (by omega) (by omega)).mono ?_; rintro e w3 ⟨⟨v, rfl, v0, v1⟩, rfl⟩))
        go_roundw
        case rel => exact ⟨k + 1, _, by omega, by omega, by go_num, hP.set (v := bits BinOp.and IntKind.i64 v 4294967295 % 4294967296) k1 hlt (by omega) (by omega), lk_set (w := wr.drewN m) hlk _ _, lk_setN (w := wr.drewN m) hlr n1, by (repeat' (first | with_reducible exact Below.refl _ _ | with_reducible assumption | with_reducible apply below_drewN | with_reducible apply Below.drew | with_reducible apply Below.setCell | with_reducible apply Below.alloc | (simp; done) | omega | (simp; omega))), by simpa using hs⟩
        case measure => simp [intOf]; omega
    · obtain rfl : k = 16 := by omega
      have hnk : ¬ ((16 : Nat) : Int) < 16 := by omega
      go_wp2_with (first
        | (go_at_call 19; (with_reducible refine (HN.out _).mono ?_); rintro e w2 ⟨⟨l0, c2, rfl, hc2, hl0, hu0, ho0⟩, hb2⟩))
      have Y1 := look_on hlk hb2 hs
      have Y2 := look_on hlr hb2 (by omega)
      have bb2 := below_step hb hb2
      have s2 : w1.heap.size < wr.heap.size := hs
      have hsz := hb2.size
      have hwb := hb.size
      have hgw : wr.heap.size < w2.heap.size := ho0.lt
      generalize wr.heap.size = g at *
      clear hb2
      go_loopw [11] (fun i wq => ∃ (k : Nat) (l : List Int), k ≤ 128 ∧ i = .int .i64 k ∧ l.length = 128 ∧ U32 l ∧ Own wq g l ∧ lk wq w1.heap.size = some (.cells (cw L).toArray 32 (0, 0)) ∧ lk wq w.heap.size = some (.cells (cw Z25).toArray 32 (0, 0)) ∧ Below w.heap.size w wq) (fun i _ => 128 - (intOf i).toNat)
      case atStart => exact ⟨0, l0, by omega, rfl, hl0, hu0, ho0, Y1, Y2, bb2⟩
      case round =>
        obtain ⟨j, l, j1, rfl, hl, hu, ho, hq1, hq2, hbq⟩ := hrel
        by_cases hlt : j < 128
        · have hc := ho.cell (i := j) (by omega)
          have hf := ho.free j
          have hj0 : (0 : Int) ≤ j := by omega
          have hj1 : (j : Int) < 128 := by omega
          go_wp2_with (first
            | (go_at_call 18; refine (HA.out _ _ (by omega) (HZ.out.on hbq)).mono ?_; rintro e w2 ⟨⟨y, rfl, y0, y1⟩, m, rfl⟩)
            | (go_at_call 15; refine (mix_some _ _ _ y0 y1 (by omega) (by omega)).mono ?_; rintro e w3 ⟨⟨v, rfl, v0, v1⟩, rfl⟩))
          go_roundw
          case rel => exact ⟨j + 1, _, by omega, by go_num, by rw [List.length_set]; exact hl, hu.set j (v := bits BinOp.and IntKind.i64 v 4294967295 % 4294967296) (by omega) (by omega), (ho.drewN m).set (by omega) _, lk_setN (w := wr.drewN m) hq1 (by omega), lk_setN (w := wr.drewN m) hq2 (by omega), by (repeat' (first | with_reducible exact Below.refl _ _ | with_reducible assumption | with_reducible apply below_drewN | with_reducible apply Below.drew | with_reducible apply Below.setCell | with_reducible apply Below.alloc | (simp; done) | omega | (simp; omega)))⟩
          case measure => simp [intOf]; omega
        · obtain rfl : j = 128 := by omega
          have hnj : ¬ ((128 : Nat) : Int) < 128 := by omega
          obtain ⟨q, hq⟩ : ∃ q : Nat, pc / 4 = q := ⟨(pc / 4).toNat, by omega⟩
          have hq128 : q < 128 := by omega
          have hc := ho.cell (i := q) (by omega)
          have hf := ho.free q
          have hq0 : (0 : Int) ≤ q := by omega
          have hq1' : (q : Int) < 128 := by omega
          have Z1 : lk (wr.setCell ⟨g, q, none⟩ (.int .u32 x)) w1.heap.size = some (.cells (cw L).toArray 32 (0, 0)) := lk_setN hq1 (by omega)
          have Z2 : lk (wr.setCell ⟨g, q, none⟩ (.int .u32 x)) w.heap.size = some (.cells (cw Z25).toArray 32 (0, 0)) := lk_setN hq2 (by omega)
          have hO := ho.set (i := q) (by omega) x
          have hB : Below w.heap.size w (wr.setCell ⟨g, q, none⟩ (.int .u32 x)) := hbq.setCell hwb _
          go_wp2_with (first
            | (refine wpList_load_look rfl _ rfl _ rfl (fun ob hob => ?_); rw [Z1] at hob; subst hob; refine ⟨_, rfl, hL, ?_⟩; simp only [Act.put, List.setIfInBounds_toArray, List.set_cons_zero, List.set_cons_succ])
            | (refine wpList_store_look rfl _ _ rfl _ rfl rfl (by (first | with_reducible assumption | (simp only [List.length_set]; with_reducible assumption) | exact Z25_len)) (fun ob hob => by (rw [Z2] at hob; subst hob; exact ⟨_, rfl, Z25_len⟩)) (fun w2 hw2 => ?_); subst hw2; simp only [Act.put, List.setIfInBounds_toArray, List.set_cons_zero, List.set_cons_succ]))
          generalize wr.setCell ⟨g, q, none⟩ (.int .u32 x) = W at *
          refine bodyPost_ret (v := .tuple #[cpV L, .slice (some ⟨g, 0, none⟩) 128 c2]) ?_ rfl ⟨⟨L, g, c2, l.set q x, rfl, hc2, hP, by rw [List.length_set]; exact hl, hu.set q x0 x1, ?_, ?_, hwb⟩, below_setRow hB _ (Nat.le_refl _) _⟩
          · exact results_cpt (p := 6) (q := 7) rfl _ _ w.heap.size rfl hL (by rw [look_setRow, if_pos rfl, Z2]; rfl)
          · rw [hq, Int.toNat_natCast, wd_set _ _ _ _ (by omega), if_pos rfl]
          · obtain ⟨cs, h1, h2⟩ := hO
            refine ⟨cs, ?_, h2⟩
            have e : lk (W.setRow w.heap.size (cw L).toArray) g = lk W g := by rw [look_setRow, if_neg (by omega)]
            exact e.trans h1
end Go.Proofs.YtfnfbdjbdbifaaaDoor

namespace Go.Proofs.YtfnfbdjbdbifaaaDoor
set_option linter.unusedVariables false
set_option linter.unusedSimpArgs false
set_option maxRecDepth 20000
open Go.ChangeShapes Go.WideShapes Go.ChangeAt Go.RowKit Go.Proofs.YtfnfbdjbdbifaaaDoor.Num Go.Proofs.YtfnfbdjbdbifaaaDoor.Mem Go.Proofs.YtfnfbdjbdbifaaaDoor.Isa
/- The fetch where no page table stands in between, and made instructions. -/
theorem ft_plain {n : Nat} {l L : List Int} (hp : pgB L = false) (h4 : wd L 16 % 4 = 0) (ho : okB n (wd L 16) 4 = true) : ftC n l L = 0 ∧ ftL n l L = l ∧ ftW n l L = wd l (wd L 16 / 4).toNat := by
  have e : rsC n l L (wd L 16) 4 1 = 0 := by
    unfold rsC
    rw [if_pos ⟨.inl rfl, .inr rfl⟩, if_pos h4, hp, if_neg (by decide), if_pos ho]
  have e2 : ftL n l L = l := by unfold ftL rsL; rw [if_neg (by rw [hp]; simp)]
  refine ⟨e, e2, ?_⟩
  unfold ftW
  rw [if_pos (show ftC n l L = 0 from e), e2]
  unfold rsA
  rw [if_pos e, hp, if_neg (by decide)]
theorem ok128 {pc : Int} (p0 : 0 ≤ pc) (p1 : pc < 512) (p4 : pc % 4 = 0) : okB 128 pc 4 = true := by
  unfold okB
  exact decide_eq_true ⟨.inr rfl, p4, by decide, by omega⟩
/-- The made instruction, whatever it is. -/
theorem inst_exC (n : Int) (h0 : -9223372036854775808 ≤ n) (h1 : n ≤ 9223372036854775807) : ∃ o a b c m : Int, Ok o a b c m ∧
    ∀ w : World, Calls Tryd.prog 6 #[.int .i64 n] w fun e w' => e = .returned (.agg #[.int .i64 o, .int .i64 a, .int .i64 b, .int .i64 c, .int .i32 m]) ∧ Below w.heap.size w w' :=
  ⟨mO n, mA n, mB n, mC n, mM n, made_ok n, fun w => inst_any n w h0 h1⟩
/-- An instruction's word is its own: what it is, and what it is decoded to. -/
theorem word_facts {o a b c m : Int} (h : Ok o a b c m) : ∃ X : Int, 0 ≤ X ∧ X ≤ 4294967295 ∧ dOk X ∧ dOp X = o ∧ dA X = a ∧ dB X = b ∧ dC X = c ∧ dM X = m ∧
    ∀ w : World, Calls Tryd.prog 5 #[.agg #[.int .i64 o, .int .i64 a, .int .i64 b, .int .i64 c, .int .i32 m]] w fun e w' => e = .returned (.tuple #[.int .u32 X, .bool true]) ∧ Below w.heap.size w w' := by
  have hr := word_range h
  obtain ⟨e1, e2, e3, e4, e5⟩ := dec_word h
  have hm : -2147483648 ≤ m ∧ m ≤ 2147483647 := by have := ok_bound h; omega
  exact ⟨word o a b c m, hr.1, hr.2, ok_dec h, e1, e2, e3, e4, e5, fun w => (encode_ref o a b c m w hm.1 hm.2).mono fun e w' ⟨he, hb⟩ => ⟨by rw [he]; unfold eW; rw [if_pos h, decide_eq_true h], hb⟩⟩
theorem trap_keeps {L : List Int} (hL : C25 L) (c b : Int) : wd (trapL L c b) 16 = wd L 18 ∧ wd (trapL L c b) 17 = trS (wd L 17) ∧ wd (trapL L c b) 19 = wd L 16 ∧ wd (trapL L c b) 20 = c % 4294967296 ∧ wd (trapL L c b) 21 = b ∧ ∀ i, i < 16 → wd (trapL L c b) i = wd L i := by
  have hl := hL.1
  unfold trapL
  refine ⟨by simp [wd_sets, hl], by simp [wd_sets, hl], by simp [wd_sets, hl], by simp [wd_sets, hl], by simp [wd_sets, hl], fun i hi => ?_⟩
  have n16 : ¬ 16 = i := by omega
  have n17 : ¬ 17 = i := by omega
  have n19 : ¬ 19 = i := by omega
  have n20 : ¬ 20 = i := by omega
  have n21 : ¬ 21 = i := by omega
  simp [wd_sets, hl, n16, n17, n19, n20, n21]
theorem eq_lit16 (N : List Int) (w : World) : (Op.equalIn 10000 29 (.agg #[.int .u32 (wd N 0), .int .u32 (wd N 1), .int .u32 (wd N 2), .int .u32 (wd N 3), .int .u32 (wd N 4), .int .u32 (wd N 5), .int .u32 (wd N 6), .int .u32 (wd N 7), .int .u32 (wd N 8), .int .u32 (wd N 9), .int .u32 (wd N 10), .int .u32 (wd N 11), .int .u32 (wd N 12), .int .u32 (wd N 13), .int .u32 (wd N 14), .int .u32 (wd N 15)]) (.agg #[.int .u32 (wd N 0), .int .u32 (wd N 1), .int .u32 (wd N 2), .int .u32 (wd N 3), .int .u32 (wd N 4), .int .u32 (wd N 5), .int .u32 (wd N 6), .int .u32 (wd N 7), .int .u32 (wd N 8), .int .u32 (wd N 9), .int .u32 (wd N 10), .int .u32 (wd N 11), .int .u32 (wd N 12), .int .u32 (wd N 13), .int .u32 (wd N 14), .int .u32 (wd N 15)])).run Tryd.prog w = .ok true w :=
  eq_row w 9998 16 29 _ Tryd.underlying29 (fun i hi => by
    have c : i = 0 ∨ i = 1 ∨ i = 2 ∨ i = 3 ∨ i = 4 ∨ i = 5 ∨ i = 6 ∨ i = 7 ∨ i = 8 ∨ i = 9 ∨ i = 10 ∨ i = 11 ∨ i = 12 ∨ i = 13 ∨ i = 14 ∨ i = 15 := by omega
    rcases c with rfl | rfl | rfl | rfl | rfl | rfl | rfl | rfl | rfl | rfl | rfl | rfl | rfl | rfl | rfl | rfl <;> exact ⟨_, rfl⟩)
theorem user_facts {L : List Int} {pc : Int} (h : Placed L pc) : C25 (L.set 17 0) ∧ wd (L.set 17 0) 16 = pc ∧ wd (L.set 17 0) 17 = 0 ∧ kerB (L.set 17 0) = false ∧ pgB (L.set 17 0) = false := by
  have hl := h.1.1
  have e16 : wd (L.set 17 0) 16 = pc := by rw [wdset h.1 (by omega), if_neg (by omega)]; exact h.2.2.1
  have e17 : wd (L.set 17 0) 17 = 0 := by rw [wdset h.1 (by omega), if_pos rfl]
  refine ⟨h.1.set 17 (by omega) (by omega), e16, e17, ?_, ?_⟩
  · unfold kerB; rw [e17]; rfl
  · unfold pgB; rw [e17]; rfl
theorem kern_facts {L : List Int} {pc : Int} (h : Placed L pc) : kerB L = true ∧ pgB L = false := by
  refine ⟨?_, ?_⟩
  · unfold kerB; rw [h.2.2.2.1]; rfl
  · unfold pgB; rw [h.2.2.2.1]; rfl
end Go.Proofs.YtfnfbdjbdbifaaaDoor
