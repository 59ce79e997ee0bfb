import Derived.Test.YtegaookkfjgepaaDoorAsmFn13
import Derived.Test.YtegaookkfjgepaaDoorFn
import Derived.Deep.RegionHeld3
namespace Go.Proofs.YtegaookkfjgepaaDoor
set_option linter.unusedVariables false
set_option linter.unusedSimpArgs false
open Go.ChangeShapes Go.WideShapes Go.ChangeAt Go.RowKit Go.Proofs.YtegaookkfjgepaaDoor.Num Go.Proofs.YtegaookkfjgepaaDoor.Isa Go.Proofs.YtegaookkfjgepaaDoor.Mem Go.Proofs.YtegaookkfjgepaaDoor.Asm
/-- A word, or an immediate out of its range. -/
def encI (op a b c m : Int) : Int × Int := if Ok op a b c m then (word op a b c m, 0) else (0, 304)
theorem encI_ok {op a b c m : Int} (h : Ok op a b c m) : encI op a b c m = (word op a b c m, 0) := by unfold encI; rw [if_pos h]
theorem encI_no {op a b c m : Int} (h : ¬ Ok op a b c m) : encI op a b c m = (0, 304) := by unfold encI; rw [if_neg h]
theorem wrap32_bd' (m : Int) : -2147483648 ≤ wrap32 m ∧ wrap32 m ≤ 2147483647 := by unfold wrap32; omega
set_option maxHeartbeats 2000000 in
theorem encode_asm (op a b c m : Int) (w : World) (h0 : -9223372036854775808 ≤ m) (h1 : m ≤ 9223372036854775807) :
    Calls Tryd.prog 96 #[.agg #[.int .i64 op, .int .i64 a, .int .i64 b, .int .i64 c, .int .i32 0], .int .i64 m] w fun e w' => e = .returned (.tuple #[.int .u32 (encI op a b c m).1, .int .i64 (encI op a b c m).2]) ∧ Below w.heap.size w w' := by
  by_cases hr : -2147483648 ≤ m ∧ m ≤ 2147483647
  · obtain ⟨r1, r2⟩ := hr
    by_cases hk : Ok op a b c m
    · have q1 : eW op a b c m = word op a b c m := by unfold eW; rw [if_pos hk]
      have q2 : eE op a b c m = 0 := by unfold eE; rw [if_pos hk]
      rw [encI_ok hk]
      clear hk
      go_enter Tryd.func96, Tryd.ntmps96
      go_wp2_with (go_at_call 38; (with_reducible refine (encode_any _ _ _ _ _ _ r1 r2).mono ?_); rintro e w1 ⟨rfl, hb1⟩; obtain ⟨c0, c1, c2, c3, c4⟩ := box_cells hb1)
      go_ret2
      exact ⟨rfl, box_below hb1⟩
    · have q2 : eE op a b c m = 200 := by unfold eE; rw [if_neg hk]
      rw [encI_no hk]
      clear hk
      go_enter Tryd.func96, Tryd.ntmps96
      go_wp2_with (go_at_call 38; (with_reducible refine (encode_any _ _ _ _ _ _ r1 r2).mono ?_); rintro e w1 ⟨rfl, hb1⟩; obtain ⟨c0, c1, c2, c3, c4⟩ := box_cells hb1)
      go_ret2
      exact ⟨rfl, box_below hb1⟩
  · have hk : ¬ Ok op a b c m := fun h => by have := ok_bound h; omega
    rw [encI_no hk]
    have hb := wrap32_bd' m
    have hne : ¬ wrap32 m = m := fun e => by rw [← e] at hr; omega
    clear hk hr
    go_enter Tryd.func96, Tryd.ntmps96
    go_wp2_with (go_at_call 38; (with_reducible refine (encode_any _ _ _ _ _ _ hb.1 hb.2).mono ?_); rintro e w1 ⟨rfl, hb1⟩; obtain ⟨c0, c1, c2, c3, c4⟩ := box_cells hb1)
    all_goals go_ret2
    all_goals exact ⟨rfl, box_below hb1⟩
/-- What a draft's operand comes to. -/
def finX (syms : List (Bs × Nat)) (d : Draft) (at' : Int) : Option Int :=
  if d.l = [] then some d.n else (lookS syms d.l).map fun t => if d.role = 0 then ((t : Int) - at').tdiv 4 else (t : Int)
def finR (d : Draft) (x : Int) : Int × Int :=
  if d.role = 1 then (x % 4294967296, 0) else if d.role = 2 then encI d.op d.a d.b d.c (x % 4294967296 / 65536) else if d.role = 3 then encI d.op d.a d.b d.c (x % 65536) else encI d.op d.a d.b d.c x
/-- A draft's word, or its error. -/
def finL (syms : List (Bs × Nat)) (d : Draft) (at' : Int) : Int × Int := match finX syms d at' with | none => (0, 302) | some x => finR d x
def DraftOk (d : Draft) : Prop := -2147483648 ≤ d.n ∧ d.n ≤ 4294967295 ∧ 0 ≤ d.role ∧ d.role ≤ 3
def FinPost (r : Int × Int) (w : World) (e : Ending) (w' : World) : Prop := e = .returned (.tuple #[.int .u32 r.1, .int .i64 r.2]) ∧ Below w.heap.size w w'
theorem fU (w : Int) (h0 : 0 ≤ w) (h1 : w ≤ 4294967295) : fieldR w 16 16 = w / 65536 := by
  rw [fieldR_yes (by decide) (by decide) (by decide), field_eq w 16 16 h0 h1 (by decide)]
  have e : (2 : Nat) ^ (16 : Int).toNat = 65536 := by decide
  have e2 : (2 : Nat) ^ (min (16 : Int).toNat 32) = 65536 := by decide
  rw [e, e2]
  omega
set_option maxHeartbeats 4000000 in
set_option maxRecDepth 100000 in
theorem finish_num (P : Nat) (d : Draft) (at' : Int) (syms : List (Bs × Nat)) (w : World) (h0 : d.l = []) (hd : DraftOk d) (ha : 0 ≤ at' ∧ at' ≤ 4294967295) :
    Calls Tryd.prog 75 #[.pointer (some ⟨P, 0, none⟩), .agg #[.int .i64 d.line, .int .i64 d.role, .int .i64 d.op, .int .i64 d.a, .int .i64 d.b, .int .i64 d.c, .int .i32 0, .int .i64 d.n, .string (S d.l)], .int .u32 at'] w (FinPost (finL syms d at') w) := by
  have e : finL syms d at' = finR d d.n := by unfold finL finX; rw [if_pos h0]
  rw [e]
  clear e
  have q1 : (S d.l).toList = [] := by rw [toL, S_list, h0]
  have q2 : (S d.l).toList.isEmpty = true := by rw [q1]; rfl
  obtain ⟨n1, n2, r1, r2⟩ := hd
  clear h0
  have m0 : 0 ≤ d.n % 4294967296 := by omega
  have m1 : d.n % 4294967296 ≤ 4294967295 := by omega
  have hU := fU _ m0 m1
  have hL : fieldR (d.n % 4294967296) 0 16 = d.n % 65536 := by rw [f0 _ m0 m1]; unfold dL; omega
  generalize hr : d.role = r at *
  unfold finR
  rw [hr]
  clear hr
  rcases (show r = 0 ∨ r = 1 ∨ r = 2 ∨ r = 3 by omega) with rfl | rfl | rfl | rfl
  · rw [if_neg (by decide), if_neg (by decide), if_neg (by decide)]
    go_enter Tryd.func75, Tryd.ntmps75
    go_wp2_with (first
      | (go_at_call 56; (with_reducible refine (field_any _ _ _ _ (by omega) (by omega)).mono ?_); rintro e w2 ⟨rfl, m2, rfl⟩)
      | (go_at_call 96; (with_reducible refine (encode_asm _ _ _ _ _ _ (by omega) (by omega)).mono ?_); rintro e w3 ⟨rfl, hb3⟩))
    go_ret2
    exact ⟨rfl, below_step (by repeat' (first | with_reducible exact Below.refl _ _ | with_reducible apply below_drewN | with_reducible apply Below.drew | with_reducible apply Below.alloc | (simp; done) | (simp; omega))) hb3⟩
  · rw [if_pos rfl]
    go_enter Tryd.func75, Tryd.ntmps75
    go_wp2
    go_ret2
    exact ⟨rfl, by repeat' (first | with_reducible exact Below.refl _ _ | with_reducible apply below_drewN | with_reducible apply Below.drew | with_reducible apply Below.alloc | (simp; done) | (simp; omega))⟩
  · rw [if_neg (by decide), if_pos rfl]
    go_enter Tryd.func75, Tryd.ntmps75
    go_wp2_with (first
      | (go_at_call 56; (with_reducible refine (field_any _ _ _ _ (by omega) (by omega)).mono ?_); rintro e w2 ⟨rfl, m2, rfl⟩)
      | (go_at_call 96; (with_reducible refine (encode_asm _ _ _ _ _ _ (by omega) (by omega)).mono ?_); rintro e w3 ⟨rfl, hb3⟩))
    go_ret2
    exact ⟨rfl, below_step (by repeat' (first | with_reducible exact Below.refl _ _ | with_reducible apply below_drewN | with_reducible apply Below.drew | with_reducible apply Below.alloc | (simp; done) | (simp; omega))) hb3⟩
  · rw [if_neg (by decide), if_neg (by decide), if_pos rfl]
    go_enter Tryd.func75, Tryd.ntmps75
    go_wp2_with (first
      | (go_at_call 56; (with_reducible refine (field_any _ _ _ _ (by omega) (by omega)).mono ?_); rintro e w2 ⟨rfl, m2, rfl⟩)
      | (go_at_call 96; (with_reducible refine (encode_asm _ _ _ _ _ _ (by omega) (by omega)).mono ?_); rintro e w3 ⟨rfl, hb3⟩))
    go_ret2
    exact ⟨rfl, below_step (by repeat' (first | with_reducible exact Below.refl _ _ | with_reducible apply below_drewN | with_reducible apply Below.drew | with_reducible apply Below.alloc | (simp; done) | (simp; omega))) hb3⟩
set_option maxHeartbeats 4000000 in
set_option maxRecDepth 100000 in
theorem finish_lost (P M : Nat) (vs vd : Value) (d : Draft) (at' : Int) (syms : List (Bs × Nat)) (w : World) (hP : w.heap[P]? = some (.cells #[vs, .map (some M), vd] 110 (0, 0))) (hM : w.heap[M]? = some (symM syms)) (h0 : d.l ≠ []) (hd : DraftOk d) (ha : 0 ≤ at' ∧ at' ≤ 4294967295) (ht : lookS syms d.l = none) :
    Calls Tryd.prog 75 #[.pointer (some ⟨P, 0, none⟩), .agg #[.int .i64 d.line, .int .i64 d.role, .int .i64 d.op, .int .i64 d.a, .int .i64 d.b, .int .i64 d.c, .int .i32 0, .int .i64 d.n, .string (S d.l)], .int .u32 at'] w (FinPost (finL syms d at') w) := by
  have e : finL syms d at' = (0, 302) := by unfold finL finX; rw [if_neg h0, ht]; rfl
  rw [e]
  clear e
  have q1 := toL_ne (S_pos h0)
  have q2 := toL_ne' (S_pos h0)
  have hlk : ∀ o n, (Instr.lookup 107 (.map (some M)) (.string (S d.l)) true).run Tryd.prog ((w.alloc o).drewN n) = .ok (.tuple #[.int .u32 0, .bool false]) ((w.alloc o).drewN n) := fun o n => lookS_no (w := (w.alloc o).drewN n) (al_old hM) ht
  have p1 : w.cell? ⟨P, 1, none⟩ = some (.map (some M)) := cell_blk hP 1 rfl
  have hPl := lt_of_block hP
  clear h0 hM hP ht
  go_enter Tryd.func75, Tryd.ntmps75
  go_wp2
  go_quiet (fail)
  go_wp2
  go_ret2
  exact ⟨rfl, by repeat' (first | with_reducible exact Below.refl _ _ | with_reducible apply below_drewN | with_reducible apply Below.alloc | (simp; done) | (simp; omega))⟩
set_option maxHeartbeats 4000000 in
set_option maxRecDepth 100000 in
theorem finish_found (P M : Nat) (vs vd : Value) (d : Draft) (at' : Int) (syms : List (Bs × Nat)) (w : World) (hP : w.heap[P]? = some (.cells #[vs, .map (some M), vd] 110 (0, 0))) (hM : w.heap[M]? = some (symM syms)) (h0 : d.l ≠ []) (hd : DraftOk d) (ha : 0 ≤ at' ∧ at' ≤ 4294967295) (t : Nat) (ht : lookS syms d.l = some t) (htb : t ≤ 1000000) :
    Calls Tryd.prog 75 #[.pointer (some ⟨P, 0, none⟩), .agg #[.int .i64 d.line, .int .i64 d.role, .int .i64 d.op, .int .i64 d.a, .int .i64 d.b, .int .i64 d.c, .int .i32 0, .int .i64 d.n, .string (S d.l)], .int .u32 at'] w (FinPost (finL syms d at') w) := by
  have e : finL syms d at' = finR d (if d.role = 0 then ((t : Int) - at').tdiv 4 else (t : Int)) := by unfold finL finX; rw [if_neg h0, ht]; rfl
  rw [e]
  clear e
  have q1 := toL_ne (S_pos h0)
  have q2 := toL_ne' (S_pos h0)
  have hlk : ∀ o n, (Instr.lookup 107 (.map (some M)) (.string (S d.l)) true).run Tryd.prog ((w.alloc o).drewN n) = .ok (.tuple #[.int .u32 t, .bool true]) ((w.alloc o).drewN n) := fun o n => lookS_yes (w := (w.alloc o).drewN n) (al_old hM) ht
  have p1 : w.cell? ⟨P, 1, none⟩ = some (.map (some M)) := cell_blk hP 1 rfl
  have hPl := lt_of_block hP
  clear h0 hM hP ht
  obtain ⟨n1, n2, r1, r2⟩ := hd
  have htI : (t : Int) ≤ 1000000 := by omega
  have htI0 : 0 ≤ (t : Int) := by omega
  have hq : -4294967296 ≤ ((t : Int) - at').tdiv 4 ∧ ((t : Int) - at').tdiv 4 ≤ 4294967296 := by
    rcases Int.lt_or_le ((t : Int) - at') 0 with h | h
    · rw [show (t : Int) - at' = -(at' - t) by omega, Int.neg_tdiv]
      have := Int.tdiv_eq_ediv_of_nonneg (a := at' - t) (b := 4) (by omega)
      omega
    · have := Int.tdiv_eq_ediv_of_nonneg (a := (t : Int) - at') (b := 4) h
      omega
  have m0 : 0 ≤ (t : Int) % 4294967296 := by omega
  have m1 : (t : Int) % 4294967296 ≤ 4294967295 := by omega
  have m2 : (t : Int) % 4294967296 = t := by omega
  have hU : fieldR (t : Int) 16 16 = (t : Int) / 65536 := fU _ (by omega) (by omega)
  have hL : fieldR (t : Int) 0 16 = (t : Int) % 65536 := by rw [f0 _ (by omega) (by omega)]; unfold dL; omega
  have M2 := Lib.hid m2
  clear m2
  generalize hr : d.role = r at *
  unfold finR
  rw [hr]
  clear hr
  rcases (show r = 0 ∨ r = 1 ∨ r = 2 ∨ r = 3 by omega) with rfl | rfl | rfl | rfl
  · rw [if_neg (by decide), if_neg (by decide), if_neg (by decide), if_pos rfl]
    go_enter Tryd.func75, Tryd.ntmps75
    go_wp2
    go_quiet (fail)
    go_wp2_with (first
      | (go_at_call 56; (with_reducible refine (field_any _ _ _ _ (by omega) (by omega)).mono ?_); rintro e w2 ⟨rfl, m2, rfl⟩)
      | (go_at_call 96; (with_reducible refine (encode_asm _ _ _ _ _ _ (by omega) (by omega)).mono ?_); rintro e w3 ⟨rfl, hb3⟩))
    go_ret2
    exact ⟨rfl, below_step (by repeat' (first | with_reducible exact Below.refl _ _ | with_reducible apply below_drewN | with_reducible apply Below.drew | with_reducible apply Below.alloc | (simp; done) | (simp; omega))) hb3⟩
  · rw [if_pos rfl, if_neg (by decide), M2.out]
    go_enter Tryd.func75, Tryd.ntmps75
    go_wp2
    go_quiet (fail)
    go_wp2
    go_ret2
    exact ⟨rfl, by repeat' (first | with_reducible exact Below.refl _ _ | with_reducible apply below_drewN | with_reducible apply Below.drew | with_reducible apply Below.alloc | (simp; done) | (simp; omega))⟩
  · rw [if_neg (by decide), if_pos rfl, if_neg (by decide), M2.out]
    go_enter Tryd.func75, Tryd.ntmps75
    go_wp2
    go_quiet (fail)
    go_wp2_with (first
      | (go_at_call 56; (with_reducible refine (field_any _ _ _ _ (by omega) (by omega)).mono ?_); rintro e w2 ⟨rfl, m2, rfl⟩)
      | (go_at_call 96; (with_reducible refine (encode_asm _ _ _ _ _ _ (by omega) (by omega)).mono ?_); rintro e w3 ⟨rfl, hb3⟩))
    go_ret2
    exact ⟨rfl, below_step (by repeat' (first | with_reducible exact Below.refl _ _ | with_reducible apply below_drewN | with_reducible apply Below.drew | with_reducible apply Below.alloc | (simp; done) | (simp; omega))) hb3⟩
  · rw [if_neg (by decide), if_neg (by decide), if_pos rfl, if_neg (by decide)]
    go_enter Tryd.func75, Tryd.ntmps75
    go_wp2
    go_quiet (fail)
    go_wp2_with (first
      | (go_at_call 56; (with_reducible refine (field_any _ _ _ _ (by omega) (by omega)).mono ?_); rintro e w2 ⟨rfl, m2, rfl⟩)
      | (go_at_call 96; (with_reducible refine (encode_asm _ _ _ _ _ _ (by omega) (by omega)).mono ?_); rintro e w3 ⟨rfl, hb3⟩))
    go_ret2
    exact ⟨rfl, below_step (by repeat' (first | with_reducible exact Below.refl _ _ | with_reducible apply below_drewN | with_reducible apply Below.drew | with_reducible apply Below.alloc | (simp; done) | (simp; omega))) hb3⟩
theorem finish_any (P M : Nat) (vs vd : Value) (d : Draft) (at' : Int) (syms : List (Bs × Nat)) (w : World) (hP : w.heap[P]? = some (.cells #[vs, .map (some M), vd] 110 (0, 0))) (hM : w.heap[M]? = some (symM syms)) (hd : DraftOk d) (ha : 0 ≤ at' ∧ at' ≤ 4294967295) (hsy : ∀ s ∈ syms, s.2 ≤ 1000000) :
    Calls Tryd.prog 75 #[.pointer (some ⟨P, 0, none⟩), .agg #[.int .i64 d.line, .int .i64 d.role, .int .i64 d.op, .int .i64 d.a, .int .i64 d.b, .int .i64 d.c, .int .i32 0, .int .i64 d.n, .string (S d.l)], .int .u32 at'] w (FinPost (finL syms d at') w) := by
  by_cases h0 : d.l = []
  · exact finish_num P d at' syms w h0 hd ha
  · cases ht : lookS syms d.l with
    | none => exact finish_lost P M vs vd d at' syms w hP hM h0 hd ha ht
    | some t =>
      refine finish_found P M vs vd d at' syms w hP hM h0 hd ha t ht ?_
      unfold lookS at ht
      obtain ⟨q, hq, he⟩ := Option.map_eq_some_iff.1 ht
      rw [← he]
      exact hsy q (List.mem_of_find?_eq_some hq)
end Go.Proofs.YtegaookkfjgepaaDoor
