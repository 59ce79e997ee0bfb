import Derived.Test.YthghbcjaokpilaaDoorRefGe
import Derived.Test.YthghbcjaokpilaaDoorIsaFn2
import Derived.RegionTactic
import Derived.BigRegion
import Derived.Deep.DeepCutAuto
import Derived.Deep.CutBlock
import Derived.Deep.RegionHeld3
import Derived.Test.YthghbcjaokpilaaDoorExit
import Derived.Test.YthghbcjaokpilaaDoorAsmGb
namespace Go.Proofs.YthghbcjaokpilaaDoor
set_option linter.unusedVariables false
set_option linter.unusedSimpArgs false
set_option maxRecDepth 20000
open Go.ChangeShapes Go.WideShapes Go.ChangeAt Go.RowKit Go.Proofs.YthghbcjaokpilaaDoor.Num Go.Proofs.YthghbcjaokpilaaDoor.Isa Go.Proofs.YthghbcjaokpilaaDoor.Mem Go.Proofs.YthghbcjaokpilaaDoor.Asm
/- The reference's instruction of a statement. -/
/-- Operands that a slice reads. -/
def RowA (w : World) (a : Option Addr) (al : List Arg) : Prop := ∀ i (h : i < al.length), ∃ b off, a = some ⟨b, off, none⟩ ∧ w.cell? ⟨b, off + i * 3, none⟩ = some (.int .i64 al[i].reg) ∧ w.cell? ⟨b, off + i * 3 + 1, none⟩ = some (.int .i64 al[i].num) ∧ w.cell? ⟨b, off + i * 3 + 2, none⟩ = some (.string (S al[i].lab))
theorem RowA.on {w w' : World} {a : Option Addr} {al : List Arg} (h : RowA w a al) (hb : Below w.heap.size w w') : RowA w' a al := fun i hi => by
  obtain ⟨b, off, h1, h2, h3, h4⟩ := h i hi
  exact ⟨b, off, h1, still h2 hb, still h3 hb, still h4 hb⟩
theorem RowA.one {w : World} {a : Option Addr} {x : Arg} {r : List Arg} (h : RowA w a (x :: r)) : ∃ b off, a = some ⟨b, off, none⟩ ∧ w.cell? ⟨b, off, none⟩ = some (.int .i64 x.reg) ∧ w.cell? ⟨b, off + 1, none⟩ = some (.int .i64 x.num) := by
  obtain ⟨b, off, h1, h2, h3, h4⟩ := h 0 (by simp)
  exact ⟨b, off, h1, by simpa using h2, by simpa using h3⟩
theorem RowA.two {w : World} {a : Option Addr} {x y : Arg} {r : List Arg} (h : RowA w a (x :: y :: r)) : ∃ b off, a = some ⟨b, off, none⟩ ∧ w.cell? ⟨b, off, none⟩ = some (.int .i64 x.reg) ∧ w.cell? ⟨b, off + 3, none⟩ = some (.int .i64 y.reg) ∧ w.cell? ⟨b, off + 3 + 1, none⟩ = some (.int .i64 y.num) := by
  obtain ⟨b, off, h1, h2, h3⟩ := h.one
  obtain ⟨b', off', g1, g2, g3, g4⟩ := h 1 (by simp)
  rw [h1] at g1
  injection g1 with g1
  injection g1 with g5 g6
  subst g5; subst g6
  exact ⟨b, off, h1, h2, by simpa using g2, by simpa using g3⟩
theorem RowA.three {w : World} {a : Option Addr} {x y z : Arg} {r : List Arg} (h : RowA w a (x :: y :: z :: r)) : ∃ b off, a = some ⟨b, off, none⟩ ∧ w.cell? ⟨b, off, none⟩ = some (.int .i64 x.reg) ∧ w.cell? ⟨b, off + 3, none⟩ = some (.int .i64 y.reg) ∧ w.cell? ⟨b, off + 3 + 1, none⟩ = some (.int .i64 y.num) ∧ w.cell? ⟨b, off + 6, none⟩ = some (.int .i64 z.reg) := by
  obtain ⟨b, off, h1, h2, h3, h4⟩ := h.two
  obtain ⟨b', off', g1, g2, _⟩ := h 2 (by simp)
  rw [h1] at g1
  injection g1 with g1
  injection g1 with g5 g6
  subst g5; subst g6
  exact ⟨b, off, h1, h2, h3, h4, by simpa using g2⟩
def stmV6 (what : Bs) (op : Int) (l : Value) (line at' size : Int) : Value := .agg #[.string (S what), .int .i64 op, l, .int .i64 line, .int .i64 at', .int .i64 size]
def InsPost (op A B C m : Int) (w : World) (e : Ending) (w' : World) : Prop := e = .returned (.tuple #[.int .u32 (eW op A B C m), .bool (decide (Ok op A B C m))]) ∧ Below w.heap.size w w'
theorem ins_off {op A B C m : Int} (h : m < lo op ∨ hi op < m) : Ending.returned (.tuple #[.int .u32 0, .bool false]) = .returned (.tuple #[.int .u32 (eW op A B C m), .bool (decide (Ok op A B C m))]) := by
  have hk : ¬ Ok op A B C m := by
    intro hk
    obtain ⟨_, _, _, _, _, _, _, h1, h2, _⟩ := hk
    omega
  rw [decide_eq_false hk]
  unfold eW
  rw [if_neg hk]
theorem stillW {w w' : World} {p : Addr} {v : Value} (h : w.cell? p = some v) (hb : Below w.heap.size w w') : w'.cell? p = some v := (hb.cell (World.block_lt_of_cell? w p h)).trans h
theorem lo_hi (op : Int) : -32768 ≤ lo op ∧ lo op ≤ 0 ∧ 0 ≤ hi op ∧ hi op ≤ 65535 := by
  unfold lo hi flo fhi
  refine ⟨?_, ?_, ?_, ?_⟩ <;> (repeat' split) <;> omega
set_option maxHeartbeats 4000000 in
theorem inst_S2 (what : Bs) (op : Int) (oa : Option Addr) (n cap : Nat) (x y z : Arg) (r : List Arg) (line at' size v : Int) (w : World) (hn : (x :: y :: z :: r).length = n) (hr : RowA w oa (x :: y :: z :: r)) (v0 : -9223372036854775808 ≤ v) (v1 : v ≤ 9223372036854775807) (hf : frm op = 2) :
    Calls Tryd.prog 20 #[stmV6 what op (.slice oa n cap) line at' size, .int .i64 v] w (InsPost op x.reg y.reg z.reg 0 w) := by
  have HF := Lib.hid (fun W => form_ref op W)
  have HB := Lib.hid (fun W => bounds_ref (frm op) W)
  obtain ⟨l0, l1, l2, l3⟩ := lo_hi op
  have HO := Lib.hid (fun (A B C m : Int) (h : m < lo op ∨ hi op < m) => ins_off (op := op) (A := A) (B := B) (C := C) h)
  have HE := Lib.hid (fun A B C m W (h0 : -2147483648 ≤ m) (h1 : m ≤ 2147483647) => encode_ref op A B C m W h0 h1)
  rw [show flo (frm op) = lo op from rfl, show fhi (frm op) = hi op from rfl] at HB
  generalize lo op = LO at *
  generalize hi op = HI at *
  rw [hf] at HF HB
  obtain ⟨b, off, rfl, c0, c1, c1n, c2⟩ := hr.three
  have hb := World.block_lt_of_cell? w _ c0
  simp only at hb
  have n1 : ¬ w.heap.size = b := by omega
  have n2 : ¬ w.heap.size + 1 = b := by omega
  have n1p : ¬ b = w.heap.size := by omega
  have n2p : ¬ b = w.heap.size + 1 := by omega
  generalize x.reg = xr at *
  generalize x.num = xn at *
  generalize y.reg = yr at *
  generalize y.num = yn at *
  generalize z.reg = zr at *
  have hn0 : 3 ≤ n := by rw [← hn]; simp
  have hnI : (3 : Int) ≤ n := by omega
  clear hr hn
  unfold stmV6 InsPost
  go_enter Tryd.func20, Tryd.ntmps20
  go_wp2_with (first
    | go_skip
    | (go_at_call 26; (with_reducible refine (HF.out _).mono ?_); rintro e w1 ⟨rfl, m1, rfl⟩)
    | (go_at_call 27; (with_reducible refine (HB.out _).mono ?_); rintro e w2 ⟨rfl, m2, rfl⟩))
  all_goals go_region
  all_goals go_wp2_with (first
    | go_skip
    | (go_at_call 19; (with_reducible refine (HE.out xr yr zr 0 _ (by omega) (by omega)).mono ?_); rintro e w3 ⟨rfl, hb3⟩; have b3 : Below w.heap.size w w3 := Below.trans (by (repeat' (first | with_reducible exact Below.refl _ _ | with_reducible assumption | with_reducible apply below_drewN | with_reducible apply Below.drew | with_reducible apply Below.setCell | with_reducible apply Below.alloc | (simp; done) | omega | (simp; omega)))) (hb3.mono (by simp <;> omega)); clear hb3))
  all_goals go_ret2
  all_goals first
    | exact ⟨HO.out _ _ _ _ (by omega), by (repeat' (first | with_reducible exact Below.refl _ _ | with_reducible assumption | with_reducible apply below_drewN | with_reducible apply Below.drew | with_reducible apply Below.setCell | with_reducible apply Below.alloc | (simp; done) | omega | (simp; omega)))⟩
    | exact ⟨rfl, by (repeat' (first | with_reducible exact Below.refl _ _ | with_reducible assumption | with_reducible apply below_drewN | with_reducible apply Below.drew | with_reducible apply Below.setCell | with_reducible apply Below.alloc | (simp; done) | omega | (simp; omega)))⟩
set_option maxHeartbeats 4000000 in
theorem inst_SL (what : Bs) (op : Int) (oa : Option Addr) (n cap : Nat) (x y z : Arg) (r : List Arg) (line at' size v : Int) (w : World) (hn : (x :: y :: z :: r).length = n) (hr : RowA w oa (x :: y :: z :: r)) (v0 : -9223372036854775808 ≤ v) (v1 : v ≤ 9223372036854775807) (y0 : -9223372036854775808 ≤ y.num) (y1 : y.num ≤ 9223372036854775807) (hf : ¬ frm op = 2) (o1 : 32 ≤ op) (o2 : op ≤ 36) (h1 : ¬ frm op = 1) :
    Calls Tryd.prog 20 #[stmV6 what op (.slice oa n cap) line at' size, .int .i64 v] w (InsPost op x.reg z.reg 0 y.num w) := by
  have HF := Lib.hid (fun W => form_ref op W)
  have HB := Lib.hid (fun W => bounds_ref (frm op) W)
  obtain ⟨l0, l1, l2, l3⟩ := lo_hi op
  have HO := Lib.hid (fun (A B C m : Int) (h : m < lo op ∨ hi op < m) => ins_off (op := op) (A := A) (B := B) (C := C) h)
  have HE := Lib.hid (fun A B C m W (h0 : -2147483648 ≤ m) (h1 : m ≤ 2147483647) => encode_ref op A B C m W h0 h1)
  rw [show flo (frm op) = lo op from rfl, show fhi (frm op) = hi op from rfl] at HB
  generalize lo op = LO at *
  generalize hi op = HI at *
  have e1 : (frm op == 2) = false := by rw [beq_eq_false_iff_ne]; exact hf
  have e3 : (frm op == 1) = false := by rw [beq_eq_false_iff_ne]; exact h1
  generalize frm op = f at *
  obtain ⟨b, off, rfl, c0, c1, c1n, c2⟩ := hr.three
  have hb := World.block_lt_of_cell? w _ c0
  simp only at hb
  have n1 : ¬ w.heap.size = b := by omega
  have n2 : ¬ w.heap.size + 1 = b := by omega
  have n1p : ¬ b = w.heap.size := by omega
  have n2p : ¬ b = w.heap.size + 1 := by omega
  generalize x.reg = xr at *
  generalize x.num = xn at *
  generalize y.reg = yr at *
  generalize y.num = yn at *
  generalize z.reg = zr at *
  have hn0 : 3 ≤ n := by rw [← hn]; simp
  have hnI : (3 : Int) ≤ n := by omega
  clear hr hn
  unfold stmV6 InsPost
  go_enter Tryd.func20, Tryd.ntmps20
  go_wp2_with (first
    | go_skip
    | (go_at_call 26; (with_reducible refine (HF.out _).mono ?_); rintro e w1 ⟨rfl, m1, rfl⟩)
    | (go_at_call 27; (with_reducible refine (HB.out _).mono ?_); rintro e w2 ⟨rfl, m2, rfl⟩))
  all_goals go_region
  all_goals go_wp2_with (first
    | go_skip
    | (go_at_call 19; (with_reducible refine (HE.out xr zr 0 yn _ (by omega) (by omega)).mono ?_); rintro e w3 ⟨rfl, hb3⟩; have b3 : Below w.heap.size w w3 := Below.trans (by (repeat' (first | with_reducible exact Below.refl _ _ | with_reducible assumption | with_reducible apply below_drewN | with_reducible apply Below.drew | with_reducible apply Below.setCell | with_reducible apply Below.alloc | (simp; done) | omega | (simp; omega)))) (hb3.mono (by simp <;> omega)); clear hb3))
  all_goals go_ret2
  all_goals first
    | exact ⟨HO.out _ _ _ _ (by omega), by (repeat' (first | with_reducible exact Below.refl _ _ | with_reducible assumption | with_reducible apply below_drewN | with_reducible apply Below.drew | with_reducible apply Below.setCell | with_reducible apply Below.alloc | (simp; done) | omega | (simp; omega)))⟩
    | exact ⟨rfl, by (repeat' (first | with_reducible exact Below.refl _ _ | with_reducible assumption | with_reducible apply below_drewN | with_reducible apply Below.drew | with_reducible apply Below.setCell | with_reducible apply Below.alloc | (simp; done) | omega | (simp; omega)))⟩
set_option maxHeartbeats 4000000 in
theorem inst_S6 (what : Bs) (op : Int) (oa : Option Addr) (n cap : Nat) (x : Arg) (r : List Arg) (line at' size v : Int) (w : World) (hn : (x :: r).length = n) (hr : RowA w oa (x :: r)) (v0 : -9223372036854775808 ≤ v) (v1 : v ≤ 9223372036854775807) (hf : ¬ frm op = 2) (ho : ¬ (32 ≤ op ∧ op ≤ 36)) (h6 : 6 ≤ frm op) :
    Calls Tryd.prog 20 #[stmV6 what op (.slice oa n cap) line at' size, .int .i64 v] w (InsPost op x.reg 0 0 v w) := by
  have HF := Lib.hid (fun W => form_ref op W)
  have HB := Lib.hid (fun W => bounds_ref (frm op) W)
  obtain ⟨l0, l1, l2, l3⟩ := lo_hi op
  have HO := Lib.hid (fun (A B C m : Int) (h : m < lo op ∨ hi op < m) => ins_off (op := op) (A := A) (B := B) (C := C) h)
  have HE := Lib.hid (fun A B C m W (h0 : -2147483648 ≤ m) (h1 : m ≤ 2147483647) => encode_ref op A B C m W h0 h1)
  rw [show flo (frm op) = lo op from rfl, show fhi (frm op) = hi op from rfl] at HB
  generalize lo op = LO at *
  generalize hi op = HI at *
  have e1 : (frm op == 2) = false := by rw [beq_eq_false_iff_ne]; exact hf
  generalize frm op = f at *
  obtain ⟨b, off, rfl, c0, c0n⟩ := hr.one
  have hb := World.block_lt_of_cell? w _ c0
  simp only at hb
  have n1 : ¬ w.heap.size = b := by omega
  have n2 : ¬ w.heap.size + 1 = b := by omega
  have n1p : ¬ b = w.heap.size := by omega
  have n2p : ¬ b = w.heap.size + 1 := by omega
  generalize x.reg = xr at *
  generalize x.num = xn at *
  have hn0 : 1 ≤ n := by rw [← hn]; simp
  have hnI : (1 : Int) ≤ n := by omega
  clear hr hn
  unfold stmV6 InsPost
  go_enter Tryd.func20, Tryd.ntmps20
  go_wp2_with (first
    | go_skip
    | (go_at_call 26; (with_reducible refine (HF.out _).mono ?_); rintro e w1 ⟨rfl, m1, rfl⟩)
    | (go_at_call 27; (with_reducible refine (HB.out _).mono ?_); rintro e w2 ⟨rfl, m2, rfl⟩))
  all_goals go_wp2_with (first
    | go_skip
    | (go_at_call 19; (with_reducible refine (HE.out xr 0 0 v _ (by omega) (by omega)).mono ?_); rintro e w3 ⟨rfl, hb3⟩; have b3 : Below w.heap.size w w3 := Below.trans (by (repeat' (first | with_reducible exact Below.refl _ _ | with_reducible assumption | with_reducible apply below_drewN | with_reducible apply Below.drew | with_reducible apply Below.setCell | with_reducible apply Below.alloc | (simp; done) | omega | (simp; omega)))) (hb3.mono (by simp <;> omega)); clear hb3))
  all_goals go_ret2
  all_goals first
    | exact ⟨HO.out _ _ _ _ (by omega), by (repeat' (first | with_reducible exact Below.refl _ _ | with_reducible assumption | with_reducible apply below_drewN | with_reducible apply Below.drew | with_reducible apply Below.setCell | with_reducible apply Below.alloc | (simp; done) | omega | (simp; omega)))⟩
    | exact ⟨rfl, by (repeat' (first | with_reducible exact Below.refl _ _ | with_reducible assumption | with_reducible apply below_drewN | with_reducible apply Below.drew | with_reducible apply Below.setCell | with_reducible apply Below.alloc | (simp; done) | omega | (simp; omega)))⟩
set_option maxHeartbeats 4000000 in
theorem inst_S1 (what : Bs) (op : Int) (oa : Option Addr) (n cap : Nat)  (line at' size v : Int) (w : World) (hn : ([] : List Arg).length = n) (hr : RowA w oa ([] : List Arg)) (v0 : -9223372036854775808 ≤ v) (v1 : v ≤ 9223372036854775807) (ho : ¬ (32 ≤ op ∧ op ≤ 36)) (hf : frm op = 1) :
    Calls Tryd.prog 20 #[stmV6 what op (.slice oa n cap) line at' size, .int .i64 v] w (InsPost op 0 0 0 0 w) := by
  have HF := Lib.hid (fun W => form_ref op W)
  have HB := Lib.hid (fun W => bounds_ref (frm op) W)
  obtain ⟨l0, l1, l2, l3⟩ := lo_hi op
  have HO := Lib.hid (fun (A B C m : Int) (h : m < lo op ∨ hi op < m) => ins_off (op := op) (A := A) (B := B) (C := C) h)
  have HE := Lib.hid (fun A B C m W (h0 : -2147483648 ≤ m) (h1 : m ≤ 2147483647) => encode_ref op A B C m W h0 h1)
  rw [show flo (frm op) = lo op from rfl, show fhi (frm op) = hi op from rfl] at HB
  generalize lo op = LO at *
  generalize hi op = HI at *
  rw [hf] at HF HB
  have hn0 : 0 ≤ n := by rw [← hn]; simp
  have hnI : (0 : Int) ≤ n := by omega
  clear hr hn
  unfold stmV6 InsPost
  go_enter Tryd.func20, Tryd.ntmps20
  go_wp2_with (first
    | go_skip
    | (go_at_call 26; (with_reducible refine (HF.out _).mono ?_); rintro e w1 ⟨rfl, m1, rfl⟩)
    | (go_at_call 27; (with_reducible refine (HB.out _).mono ?_); rintro e w2 ⟨rfl, m2, rfl⟩))
  all_goals go_wp2_with (first
    | go_skip
    | (go_at_call 19; (with_reducible refine (HE.out 0 0 0 0 _ (by omega) (by omega)).mono ?_); rintro e w3 ⟨rfl, hb3⟩; have b3 : Below w.heap.size w w3 := Below.trans (by (repeat' (first | with_reducible exact Below.refl _ _ | with_reducible assumption | with_reducible apply below_drewN | with_reducible apply Below.drew | with_reducible apply Below.setCell | with_reducible apply Below.alloc | (simp; done) | omega | (simp; omega)))) (hb3.mono (by simp <;> omega)); clear hb3))
  all_goals go_ret2
  all_goals first
    | exact ⟨HO.out _ _ _ _ (by omega), by (repeat' (first | with_reducible exact Below.refl _ _ | with_reducible assumption | with_reducible apply below_drewN | with_reducible apply Below.drew | with_reducible apply Below.setCell | with_reducible apply Below.alloc | (simp; done) | omega | (simp; omega)))⟩
    | exact ⟨rfl, by (repeat' (first | with_reducible exact Below.refl _ _ | with_reducible assumption | with_reducible apply below_drewN | with_reducible apply Below.drew | with_reducible apply Below.setCell | with_reducible apply Below.alloc | (simp; done) | omega | (simp; omega)))⟩
set_option maxHeartbeats 4000000 in
theorem inst_SO (what : Bs) (op : Int) (oa : Option Addr) (n cap : Nat) (x y : Arg) (r : List Arg) (line at' size v : Int) (w : World) (hn : (x :: y :: r).length = n) (hr : RowA w oa (x :: y :: r)) (v0 : -9223372036854775808 ≤ v) (v1 : v ≤ 9223372036854775807) (hf : ¬ frm op = 2) (ho : ¬ (32 ≤ op ∧ op ≤ 36)) (h6 : ¬ 6 ≤ frm op) (h1 : ¬ frm op = 1) :
    Calls Tryd.prog 20 #[stmV6 what op (.slice oa n cap) line at' size, .int .i64 v] w (InsPost op x.reg y.reg 0 v w) := by
  have HF := Lib.hid (fun W => form_ref op W)
  have HB := Lib.hid (fun W => bounds_ref (frm op) W)
  obtain ⟨l0, l1, l2, l3⟩ := lo_hi op
  have HO := Lib.hid (fun (A B C m : Int) (h : m < lo op ∨ hi op < m) => ins_off (op := op) (A := A) (B := B) (C := C) h)
  have HE := Lib.hid (fun A B C m W (h0 : -2147483648 ≤ m) (h1 : m ≤ 2147483647) => encode_ref op A B C m W h0 h1)
  rw [show flo (frm op) = lo op from rfl, show fhi (frm op) = hi op from rfl] at HB
  generalize lo op = LO at *
  generalize hi op = HI at *
  have e1 : (frm op == 2) = false := by rw [beq_eq_false_iff_ne]; exact hf
  have e2 : (frm op != 1) = true := by simpa using h1
  have e3 : (frm op == 1) = false := by rw [beq_eq_false_iff_ne]; exact h1
  generalize frm op = f at *
  obtain ⟨b, off, rfl, c0, c1, c1n⟩ := hr.two
  have hb := World.block_lt_of_cell? w _ c0
  simp only at hb
  have n1 : ¬ w.heap.size = b := by omega
  have n2 : ¬ w.heap.size + 1 = b := by omega
  have n1p : ¬ b = w.heap.size := by omega
  have n2p : ¬ b = w.heap.size + 1 := by omega
  generalize x.reg = xr at *
  generalize x.num = xn at *
  generalize y.reg = yr at *
  generalize y.num = yn at *
  have hn0 : 2 ≤ n := by rw [← hn]; simp
  have hnI : (2 : Int) ≤ n := by omega
  clear hr hn
  unfold stmV6 InsPost
  go_enter Tryd.func20, Tryd.ntmps20
  go_wp2_with (first
    | go_skip
    | (go_at_call 26; (with_reducible refine (HF.out _).mono ?_); rintro e w1 ⟨rfl, m1, rfl⟩)
    | (go_at_call 27; (with_reducible refine (HB.out _).mono ?_); rintro e w2 ⟨rfl, m2, rfl⟩))
  all_goals go_region
  all_goals go_wp2_with (first
    | go_skip
    | (go_at_call 19; (with_reducible refine (HE.out xr yr 0 v _ (by omega) (by omega)).mono ?_); rintro e w3 ⟨rfl, hb3⟩; have b3 : Below w.heap.size w w3 := Below.trans (by (repeat' (first | with_reducible exact Below.refl _ _ | with_reducible assumption | with_reducible apply below_drewN | with_reducible apply Below.drew | with_reducible apply Below.setCell | with_reducible apply Below.alloc | (simp; done) | omega | (simp; omega)))) (hb3.mono (by simp <;> omega)); clear hb3))
  all_goals go_ret2
  all_goals first
    | exact ⟨HO.out _ _ _ _ (by omega), by (repeat' (first | with_reducible exact Below.refl _ _ | with_reducible assumption | with_reducible apply below_drewN | with_reducible apply Below.drew | with_reducible apply Below.setCell | with_reducible apply Below.alloc | (simp; done) | omega | (simp; omega)))⟩
    | exact ⟨rfl, by (repeat' (first | with_reducible exact Below.refl _ _ | with_reducible assumption | with_reducible apply below_drewN | with_reducible apply Below.drew | with_reducible apply Below.setCell | with_reducible apply Below.alloc | (simp; done) | omega | (simp; omega)))⟩
theorem frm_lw {op : Int} (h1 : 32 ≤ op) (h2 : op ≤ 36) : ¬ frm op = 2 ∧ ¬ frm op = 1 := by
  rcases kind op with k | k | k | k | k | k | k | k | k | k | k <;> obtain ⟨k1, k2, k3, k4, k5⟩ := k <;> omega
end Go.Proofs.YthghbcjaokpilaaDoor

namespace Go.Proofs.YthghbcjaokpilaaDoor
set_option linter.unusedVariables false
set_option linter.unusedSimpArgs false
open Go.ChangeShapes Go.WideShapes Go.ChangeAt Go.RowKit Go.Proofs.YthghbcjaokpilaaDoor.Num Go.Proofs.YthghbcjaokpilaaDoor.Isa Go.Proofs.YthghbcjaokpilaaDoor.Mem Go.Proofs.YthghbcjaokpilaaDoor.Asm
/- The reference's first pass: what its rows hold. -/
/-- A statement with the slice of its operands. -/
structure StS where
  x : StL
  v : Value
def stC (y : StS) : List Value := [.string (S y.x.st.what), .int .i64 y.x.st.op, y.v, .int .i64 y.x.line, .int .i64 y.x.at', .int .i64 y.x.st.size]
def flatX (Y : List StS) : List Value := Y.flatMap stC
theorem flatX_len (Y : List StS) : (flatX Y).length = Y.length * 6 := by
  induction Y with
  | nil => rfl
  | cons y Y ih => simp only [flatX, List.flatMap_cons, List.length_append] at ih ⊢; rw [ih]; simp [stC]; omega
theorem flatX_snoc (Y : List StS) (y : StS) : flatX (Y ++ [y]) = flatX Y ++ stC y := by simp [flatX]
/-- The operands of a statement lie in a block that neither row owns. -/
def ArgOf (B : Nat) (w : World) (vs vd : Value) (y : StS) : Prop := ∃ oa cap, y.v = .slice oa y.x.st.l.length cap ∧ y.x.st.l.length ≤ cap ∧ RowA w oa y.x.st.l ∧ ∀ b off, oa = some ⟨b, off, none⟩ → (b < w.heap.size ∧ B ≤ b) ∧ some b ≠ vs.ownBlock ∧ some b ≠ vd.ownBlock
theorem ArgOf.on {B : Nat} {w w' : World} {vs vd : Value} {y : StS} (h : ArgOf B w vs vd y) (hb : Below w.heap.size w w') : ArgOf B w' vs vd y := by
  obtain ⟨oa, cap, h1, h2, h3, h4⟩ := h
  exact ⟨oa, cap, h1, h2, h3.on hb, fun b off e => ⟨⟨Nat.lt_of_lt_of_le (h4 b off e).1.1 hb.size, (h4 b off e).1.2⟩, (h4 b off e).2⟩⟩
/-- An append to the symbols' row. -/
theorem ArgOf.sym {B : Nat} {w w' : World} {vs vs' vd : Value} {y : StS} (h : ArgOf B w vs vd y) (hg : w.grownBy w' vs.ownBlock) (hw : vs'.ownBlock = vs.ownBlock ∨ vs'.ownBlock = some w.heap.size) (hz : w.heap.size ≤ w'.heap.size) : ArgOf B w' vs' vd y := by
  obtain ⟨oa, cap, h1, h2, h3, h4⟩ := h
  refine ⟨oa, cap, h1, h2, fun i hi => ?_, fun b off e => ?_⟩
  · obtain ⟨b, off, e, c0, c1, c2⟩ := h3 i hi
    obtain ⟨⟨hl, _⟩, hn, _⟩ := h4 b off e
    have hb := hg.block b hl hn
    refine ⟨b, off, e, ?_, ?_, ?_⟩
    · rw [← c0]; simp only [World.cell?, hb]
    · rw [← c1]; simp only [World.cell?, hb]
    · rw [← c2]; simp only [World.cell?, hb]
  · obtain ⟨⟨hl, hB⟩, hn, hd⟩ := h4 b off e
    refine ⟨⟨Nat.lt_of_lt_of_le hl hz, hB⟩, ?_, hd⟩
    rcases hw with hw | hw
    · rw [hw]; exact hn
    · rw [hw]; intro e; injection e with e; omega
/-- An append to the statements' row. -/
theorem ArgOf.sts {B : Nat} {w w' : World} {vs vd vd' : Value} {y : StS} (h : ArgOf B w vs vd y) (hg : w.grownBy w' vd.ownBlock) (hw : vd'.ownBlock = vd.ownBlock ∨ vd'.ownBlock = some w.heap.size) (hz : w.heap.size ≤ w'.heap.size) : ArgOf B w' vs vd' y := by
  obtain ⟨oa, cap, h1, h2, h3, h4⟩ := h
  refine ⟨oa, cap, h1, h2, fun i hi => ?_, fun b off e => ?_⟩
  · obtain ⟨b, off, e, c0, c1, c2⟩ := h3 i hi
    obtain ⟨⟨hl, _⟩, _, hn⟩ := h4 b off e
    have hb := hg.block b hl hn
    refine ⟨b, off, e, ?_, ?_, ?_⟩
    · rw [← c0]; simp only [World.cell?, hb]
    · rw [← c1]; simp only [World.cell?, hb]
    · rw [← c2]; simp only [World.cell?, hb]
  · obtain ⟨⟨hl, hB⟩, hd, hn⟩ := h4 b off e
    refine ⟨⟨Nat.lt_of_lt_of_le hl hz, hB⟩, hd, ?_⟩
    rcases hw with hw | hw
    · rw [hw]; exact hn
    · rw [hw]; intro e; injection e with e; omega
theorem ArgOf.set {B : Nat} {w : World} {vs vd : Value} {y : StS} (h : ArgOf B w vs vd y) {p : Addr} (hp : p.block < B) (u : Value) : ArgOf B (w.setCell p u) vs vd y := by
  obtain ⟨oa, cap, h1, h2, h3, h4⟩ := h
  refine ⟨oa, cap, h1, h2, fun i hi => ?_, fun b off e => ?_⟩
  · obtain ⟨b, off, e, c0, c1, c2⟩ := h3 i hi
    have hb := (h4 b off e).1.2
    have far : ∀ j, (w.setCell p u).cell? ⟨b, j, none⟩ = w.cell? ⟨b, j, none⟩ := fun j => World.cell?_setCell_far w p ⟨b, j, none⟩ u (by show p.block ≠ b; omega)
    exact ⟨b, off, e, (far _).trans c0, (far _).trans c1, (far _).trans c2⟩
  · have := h4 b off e
    rw [World.size_setCell]
    exact this
theorem flatA_at : ∀ (L : List Arg) (i : Nat) (h : i < L.length), (flatA L)[i * 3]? = some (.int .i64 L[i].reg) ∧ (flatA L)[i * 3 + 1]? = some (.int .i64 L[i].num) ∧ (flatA L)[i * 3 + 2]? = some (.string (S L[i].lab))
  | t :: L, 0, _ => by
    have e : flatA (t :: L) = argV t ++ flatA L := rfl
    rw [e]; simp [argV]
  | t :: L, i + 1, h => by
    have e : flatA (t :: L) = argV t ++ flatA L := rfl
    obtain ⟨h1, h2, h3⟩ := flatA_at L i (by simpa using h)
    have hl : (argV t).length = 3 := rfl
    rw [e]
    refine ⟨?_, ?_, ?_⟩
    · rw [List.getElem?_append_right (by rw [hl]; omega), hl, show (i + 1) * 3 - 3 = i * 3 by omega, h1]; rfl
    · rw [List.getElem?_append_right (by rw [hl]; omega), hl, show (i + 1) * 3 + 1 - 3 = i * 3 + 1 by omega, h2]; rfl
    · rw [List.getElem?_append_right (by rw [hl]; omega), hl, show (i + 1) * 3 + 2 - 3 = i * 3 + 2 by omega, h3]; rfl
/-- The operands that a parse has just made. -/
theorem arg_new {B : Nat} {w : World} {base : Nat} {v vs vd : Value} {st : StR} {line at' : Int} (h : w.ownsRow base 51 3 v st.l.length (flatA st.l)) (hs : ∀ b, vs.ownBlock = some b → b < base) (hd : ∀ b, vd.ownBlock = some b → b < base) (hB : B ≤ base) : ArgOf B w vs vd ⟨⟨st, line, at'⟩, v⟩ := by
  have h' := h
  rcases h.2 with ⟨e0, e1⟩ | ⟨g, cap, cur, rfl, hbg, hg, h1, h2, _⟩
  · exact ⟨none, 0, by show v = .slice none st.l.length 0; rw [e1, e0], by show st.l.length ≤ 0; omega, fun i hi => by have hi' : i < st.l.length := hi; omega, fun b off e => by cases e⟩
  · refine ⟨_, cap, rfl, h1, fun i hi => ⟨g, 0, rfl, ?_⟩, fun b off e => ?_⟩
    · obtain ⟨k1, k2, k3⟩ := flatA_at st.l i hi
      simp only [Nat.zero_add]
      have hl := flatA_len st.l
      rw [h'.cellAt (i * 3) (by have hi' : i < st.l.length := hi; omega), h'.cellAt (i * 3 + 1) (by have hi' : i < st.l.length := hi; omega), h'.cellAt (i * 3 + 2) (by have hi' : i < st.l.length := hi; omega)]
      exact ⟨k1, k2, k3⟩
    · injection e with e
      injection e with e1 e2
      subst e1
      refine ⟨⟨(Array.getElem?_eq_some_iff.1 hg).1, by omega⟩, ?_, ?_⟩
      · intro e; have := hs g e.symm; omega
      · intro e; have := hd g e.symm; omega
theorem flatS_at : ∀ (L : List (Bs × Nat)) (i : Nat) (h : i < L.length), (flatS L)[i * 2]? = some (.string (S L[i].1)) ∧ (flatS L)[i * 2 + 1]? = some (.int .u32 L[i].2)
  | t :: L, 0, _ => by
    have e : flatS (t :: L) = symC t ++ flatS L := rfl
    rw [e]; simp [symC]
  | t :: L, i + 1, h => by
    have e : flatS (t :: L) = symC t ++ flatS L := rfl
    obtain ⟨h1, h2⟩ := flatS_at L i (by simpa using h)
    have hl : (symC t).length = 2 := rfl
    rw [e]
    refine ⟨?_, ?_⟩
    · rw [List.getElem?_append_right (by rw [hl]; omega), hl, show (i + 1) * 2 - 2 = i * 2 by omega, h1]; rfl
    · rw [List.getElem?_append_right (by rw [hl]; omega), hl, show (i + 1) * 2 + 1 - 2 = i * 2 + 1 by omega, h2]; rfl
theorem rowS_own {w : World} {base : Nat} {v : Value} {L : List (Bs × Nat)} (h : w.ownsRow base 60 2 v L.length (flatS L)) : ∃ oa cap, v = .slice oa L.length cap ∧ RowS w oa L := by
  have h' := h
  rcases h.2 with ⟨e0, e1⟩ | ⟨g, cap, cur, rfl, _, _, h1, h2, _⟩
  · exact ⟨none, 0, by rw [e1, e0], fun i hi => by omega⟩
  · refine ⟨_, cap, rfl, fun i hi => ⟨g, 0, rfl, ?_⟩⟩
    obtain ⟨k1, k2⟩ := flatS_at L i hi
    have hl := flatS_len L
    simp only [Nat.zero_add]
    rw [h'.cellAt (i * 2) (by omega), h'.cellAt (i * 2 + 1) (by omega)]
    exact ⟨k1, k2⟩
/-- A statement that was read has a name. -/
theorem par_what {l : Bs} {lab : Bs} {st : StR} (h : parR l = some (lab, some st)) : st.what ≠ [] ∧ st.size = st.size := by
  have hs := line_same l
  rw [h] at hs
  refine ⟨?_, rfl⟩
  match hp : lineR l, hs with
  | some (lab', ds), hs =>
    obtain ⟨_, q, L, hq, _⟩ := hs
    intro e
    rw [e] at hq
    have hn : stmOf [] = none := by decide +kernel
    rw [hn] at hq
    cases hq
end Go.Proofs.YthghbcjaokpilaaDoor

namespace Go.Proofs.YthghbcjaokpilaaDoor
set_option linter.unusedVariables false
set_option linter.unusedSimpArgs false
open Go.ChangeShapes Go.WideShapes Go.ChangeAt Go.RowKit Go.Proofs.YthghbcjaokpilaaDoor.Num Go.Proofs.YthghbcjaokpilaaDoor.Isa Go.Proofs.YthghbcjaokpilaaDoor.Mem Go.Proofs.YthghbcjaokpilaaDoor.Asm
def ReadPost (r : Sum (Nat × Nat) (List (Bs × Nat) × List StL)) (w : World) (e : Ending) (w' : World) : Prop :=
  (match r with
  | .inl (err, line) => e = .returned (.tuple #[.slice none 0 0, .slice none 0 0, .agg #[.int .i64 err, .int .i64 line]])
  | .inr (syms, sts) => ∃ vs vd Y, e = .returned (.tuple #[vs, vd, .agg #[.int .i64 0, .int .i64 0]]) ∧ w'.ownsRow w.heap.size 60 2 vs syms.length (flatS syms) ∧ w'.ownsRow w.heap.size 49 6 vd Y.length (flatX Y) ∧ Y.map StS.x = sts ∧ ∀ y ∈ Y, ArgOf w.heap.size w' vs vd y) ∧ Below w.heap.size w w'
def rdF (l : Bs) : Sum (Nat × Nat) (List (Bs × Nat) × List StL) := if 8192 < l.length then .inl (300, 0) else rdR (linR l) 0 0 [] []
theorem read_end {r : Sum (Nat × Nat) (List (Bs × Nat) × List StL)} {err line : Nat} (h : r = .inl (err, line)) {w w' : World} {n : Int} (hn : n = line) (hb : Below w.heap.size w w') : ReadPost r w (.returned (.tuple #[.slice none 0 0, .slice none 0 0, .agg #[.int .i64 err, .int .i64 n]])) w' := by
  subst h hn
  exact ⟨rfl, hb⟩
theorem rd_nil (i : Nat) (A : Int) (syms : List (Bs × Nat)) (sts : List StL) : rdR [] i A syms sts = .inr (syms, sts) := by unfold rdR; rfl
theorem rd_none {l : Bs} {ls : List Bs} {i : Nat} {A : Int} {syms : List (Bs × Nat)} {sts : List StL} (h : parR l = none) : rdR (l :: ls) i A syms sts = .inl (301, i + 1) := by unfold rdR; rw [h]
theorem rd_twice {l lab : Bs} {ls : List Bs} {i : Nat} {A : Int} {syms : List (Bs × Nat)} {sts : List StL} {o : Option StR} (h : parR l = some (lab, o)) (h2 : lab ≠ [] ∧ (lookS syms lab).isSome = true) : rdR (l :: ls) i A syms sts = .inl (303, i + 1) := by unfold rdR; rw [h]; simp only; rw [if_pos h2]
theorem rd_lab {l lab : Bs} {ls : List Bs} {i : Nat} {A : Int} {syms : List (Bs × Nat)} {sts : List StL} (h : parR l = some (lab, none)) (h2 : ¬ (lab ≠ [] ∧ (lookS syms lab).isSome = true)) (hA : A ≤ 1024) : rdR (l :: ls) i A syms sts = rdR ls (i + 1) A (symR syms lab A) sts := by
  conv => lhs; unfold rdR
  rw [h]; simp only; rw [if_neg h2, if_neg (by omega)]
theorem rd_big {l lab : Bs} {ls : List Bs} {i : Nat} {A : Int} {syms : List (Bs × Nat)} {sts : List StL} {st : StR} (h : parR l = some (lab, some st)) (h2 : ¬ (lab ≠ [] ∧ (lookS syms lab).isSome = true)) (hA : 1024 < A + st.size) : rdR (l :: ls) i A syms sts = .inl (305, i + 1) := by
  unfold rdR; rw [h]; simp only; rw [if_neg h2, if_pos hA]
theorem rd_st {l lab : Bs} {ls : List Bs} {i : Nat} {A : Int} {syms : List (Bs × Nat)} {sts : List StL} {st : StR} (h : parR l = some (lab, some st)) (h2 : ¬ (lab ≠ [] ∧ (lookS syms lab).isSome = true)) (hA : A + st.size ≤ 1024) : rdR (l :: ls) i A syms sts = rdR ls (i + 1) (A + st.size) (symR syms lab A) (sts ++ [⟨st, (i : Int) + 1, A⟩]) := by
  conv => lhs; unfold rdR
  rw [h]; simp only; rw [if_neg h2, if_neg (by omega)]
theorem lin_go : ∀ (l p : Bs), ∀ x ∈ linGo p l, x.length ≤ p.length + l.length
  | [], p, x, h => by
    unfold linGo at h
    split at h
    · cases h
    · rw [List.mem_singleton] at h; subst h; simp
  | c :: l, p, x, h => by
    unfold linGo at h
    split at h
    · rcases List.mem_cons.1 h with rfl | h
      · omega
      · have := lin_go l [] x h; simp at this ⊢; omega
    · have := lin_go l _ x h
      simp at this ⊢; omega
theorem lin_num : ∀ (l p : Bs), (linGo p l).length ≤ l.length + 1
  | [], p => by unfold linGo; split <;> simp
  | c :: l, p => by
    unfold linGo
    split
    · have := lin_num l []; simp; omega
    · have := lin_num l (p ++ [c]); simp; omega
theorem lin_cnt (l : Bs) : (linR l).length ≤ l.length + 1 := lin_num l []
theorem lin_len (l : Bs) : ∀ x ∈ linR l, x.length ≤ l.length := fun x h => by have := lin_go l [] x h; simpa using this
theorem ArgOf.low {B B' : Nat} {w : World} {vs vd : Value} {y : StS} (h : ArgOf B w vs vd y) (hB : B' ≤ B) : ArgOf B' w vs vd y := by
  obtain ⟨oa, cap, h1, h2, h3, h4⟩ := h
  exact ⟨oa, cap, h1, h2, h3, fun b off e => ⟨⟨(h4 b off e).1.1, Nat.le_trans hB (h4 b off e).1.2⟩, (h4 b off e).2⟩⟩
theorem RowS.on {w w' : World} {a : Option Addr} {l : List (Bs × Nat)} (h : RowS w a l) (hb : Below w.heap.size w w') : RowS w' a l := fun i hi => by
  obtain ⟨b, off, h1, h2, h3⟩ := h i hi
  exact ⟨b, off, h1, still h2 hb, still h3 hb⟩
theorem info_st : (Tryd.prog.info? 49).map (fun i => (i.zero, i.size, i.bytes)) = some (some (.agg #[.string { data := #[] }, .int .i64 0, .slice none 0 0, .int .i64 0, .int .i64 0, .int .i64 0]), 6, 72) := by kernel_rfl
theorem one_st (y : StS) {oa : Option Addr} {n c : Nat} (h : y.v = .slice oa n c) : ∀ u ∈ stC y, u.oneCell' = true := by
  intro u hu
  simp only [stC, List.mem_cons, List.not_mem_nil, or_false] at hu
  rcases hu with rfl | rfl | rfl | rfl | rfl | rfl
  · rfl
  · rfl
  · rw [h]; rfl
  · rfl
  · rfl
  · rfl
theorem words_le {kind : Nat} {op : Int} {o : Opds} {ds : List Draft} (h : wordsL kind op o = some ds) : ds.length ≤ 1024 := by
  unfold wordsL at h
  repeat' split at h
  all_goals first | (cases h; done) | (obtain rfl := Option.some.inj h; simp; done) | (obtain rfl := Option.some.inj h; rw [List.length_replicate]; omega)
theorem par_size {l : Bs} {lab : Bs} {st : StR} (h : parR l = some (lab, some st)) : 0 ≤ st.size ∧ st.size ≤ 1024 := by
  have hs := line_same l
  rw [h] at hs
  match hp : lineR l, hs with
  | some (lab', ds), hs =>
    obtain ⟨_, q, L, hq, _, _, hw, hz⟩ := hs
    have := words_le hw
    omega
def ArgLt (U : Nat) (y : StS) : Prop := ∀ b off n cap, y.v = .slice (some ⟨b, off, none⟩) n cap → b < U
theorem ArgOf.argLt {B : Nat} {w : World} {vs vd : Value} {y : StS} (h : ArgOf B w vs vd y) : ArgLt w.heap.size y := by
  obtain ⟨oa, cap, h1, h2, h3, h4⟩ := h
  intro b off n c e
  rw [h1] at e
  injection e with e1 e2 e3
  exact (h4 b off e1).1.1
theorem ArgOf.setN {B U : Nat} {w : World} {vs vd : Value} {y : StS} (h : ArgOf B w vs vd y) (hl : ArgLt U y) (i : Nat) (u : Value) : ArgOf B (w.setCell ⟨U, i, none⟩ u) vs vd y := by
  obtain ⟨oa, cap, h1, h2, h3, h4⟩ := h
  refine ⟨oa, cap, h1, h2, fun i' hi => ?_, fun b off e => ?_⟩
  · obtain ⟨b, off, e, c0, c1, c2⟩ := h3 i' hi
    have hb := hl b off _ _ (by rw [h1, e])
    have far : ∀ j, (w.setCell ⟨U, i, none⟩ u).cell? ⟨b, j, none⟩ = w.cell? ⟨b, j, none⟩ := fun j => World.cell?_setCell_far w ⟨U, i, none⟩ ⟨b, j, none⟩ u (by show U ≠ b; omega)
    exact ⟨b, off, e, (far _).trans c0, (far _).trans c1, (far _).trans c2⟩
  · have := h4 b off e
    rw [World.size_setCell]
    exact this
theorem rowL_own {w : World} {base : Nat} {oa : Option Addr} {cap : Nat} {L : List Bs} (h : w.ownsRow base 9 1 (.slice oa L.length cap) L.length (L.map strV)) : ∀ k (hk : k < L.length), ∃ g, oa = some ⟨g, 0, none⟩ ∧ w.cell? ⟨g, k, none⟩ = some (.string (S L[k])) := fun k hk => by
  have h' := h
  rcases h.2 with ⟨e0, e1⟩ | ⟨g, cap', cur, e, _, _, h1, h2, _⟩
  · omega
  · injection e with e1 e2 e3
    subst e1
    refine ⟨g, rfl, ?_⟩
    rw [h'.cellAt k (by simpa using hk)]
    simp [strV, hk]
theorem below_stepZ {B : Nat} {w w1 w2 : World} (h : Below B w w1) (h2 : Below w1.heap.size w1 w2) (hB : B ≤ w1.heap.size := by omega) : Below B w w2 := Below.trans h (h2.mono hB)
set_option maxHeartbeats 4000000 in
set_option maxRecDepth 100000 in
theorem read_ref (HPAR : Hid (∀ l W, l.length ≤ 100000 → Calls Tryd.prog 24 #[.string (S l)] W (ParPost (parR l) W))) (s : ByteArray) (w : World) (hs : s.size ≤ 100000) : Calls Tryd.prog 17 #[.string s] w (ReadPost (rdF s.data.toList) w) := by
  obtain ⟨R, HR0⟩ : ∃ R, Hid (rdF s.data.toList = R) := ⟨_, Lib.hid rfl⟩
  rw [HR0.out]
  by_cases hbig : 8192 < s.size
  · have hI : (8192 : Int) < s.size := by omega
    have HRN : R = .inl (300, 0) := by rw [← HR0.out]; unfold rdF; rw [if_pos (by rw [len_size]; exact hbig)]
    clear HR0
    go_enter Tryd.func17, Tryd.ntmps17
    go_wp2
    refine bodyPost_ret (v := .tuple #[.slice none 0 0, .slice none 0 0, .agg #[.int .i64 300, .int .i64 0]]) (by rw [results_slot2_cell rfl]; go_simp) rfl (read_end HRN rfl ?_)
    (repeat' (first | with_reducible exact Below.refl _ _ | with_reducible assumption | with_reducible apply below_drewN | with_reducible apply Below.drew | with_reducible apply Below.setCell | with_reducible apply Below.alloc | (simp; done) | omega | (simp; omega)))
  · have hI : ¬ (8192 : Int) < s.size := by omega
    have HR1 : Hid (R = rdR (linR s.data.toList) 0 0 [] []) := by show _ = _; rw [← HR0.out]; unfold rdF; rw [if_neg (by rw [len_size]; exact hbig)]
    have HLL := Lib.hid (lin_len s.data.toList)
    have hLn := lin_cnt s.data.toList
    have HLI := Lib.hid (fun W => lines_ref s W hs)
    have hsz : s.data.toList.length = s.size := len_size s
    generalize linR s.data.toList = L at *
    replace hLn : L.length ≤ 8193 := by omega
    clear HR0
    obtain ⟨i0, hi, hz0, hz1, hz2⟩ := info_parts info_sym
    obtain ⟨j0, hj, hj0, hj1, hj2⟩ := info_parts info_st
    go_enter Tryd.func17, Tryd.ntmps17
    go_wp2_with (go_at_call 23; (with_reducible refine (HLI.out _).mono ?_); rintro e w1 ⟨⟨v, rfl, hrow⟩, hb1⟩; obtain ⟨oa, cap, rfl⟩ := own_shape hrow)
    have G0 := heap_below (al_new w (.cells #[.int .i64 0, .int .i64 0] 31) _ rfl) hb1
    have hws : w.heap.size < w1.heap.size := lt_of_block G0
    have bw1 : Below w.heap.size w w1 := below_step ((Below.refl _ w).alloc (Nat.le_refl _) _) hb1
    have HLR := Lib.hid (rowL_own hrow)
    have HBW := Lib.hid bw1
    clear hrow hb1 bw1
    go_loopw [5, 6, 7, 9] (fun vs vd at' i wr => ∃ (k : Nat) (syms : List (Bs × Nat)) (Y : List StS) (A : Int), k ≤ L.length ∧ i = .int .i64 k ∧ at' = .int .i64 A ∧ 0 ≤ A ∧ A ≤ 1024 ∧ syms.length ≤ k ∧ Y.length ≤ k ∧ Hid (R = rdR (L.drop k) k A syms (Y.map StS.x)) ∧ wr.ownsRow w1.heap.size 60 2 vs syms.length (flatS syms) ∧ wr.ownsRow w1.heap.size 49 6 vd Y.length (flatX Y) ∧ Hid (∀ y ∈ Y, ArgOf w1.heap.size wr vs vd y) ∧ Below w1.heap.size w1 wr) (fun _ _ _ i _ => L.length - (intOf i).toNat)
    case atStart => exact ⟨0, [], [], 0, Nat.zero_le _, rfl, rfl, by omega, by omega, Nat.le_refl _, Nat.le_refl _, HR1.out, World.ownsRow_nil _ _ _ _, World.ownsRow_nil _ _ _ _, Lib.hid (fun y hy => (by cases hy)), Below.refl _ _⟩
    case round =>
      obtain ⟨k, syms, Y, A, hk, rfl, rfl, A0, A1, hsl, hyl, HRk, hS, hX, hAr, hb⟩ := hrel
      have HB := Lib.hid hb
      have HS := Lib.hid hS
      have HX := Lib.hid hX
      obtain ⟨oa1, cap1, rfl, hrs⟩ := rowS_own hS
      obtain ⟨oa2, cap2, rfl⟩ := own_shape hX
      have hw1r := hb.size
      clear hb hS hX
      by_cases hlt : k < L.length
      · have hLk : L[k].length ≤ 100000 := Nat.le_trans (HLL.out _ (List.getElem_mem hlt)) (by omega)
        have HR : Hid (R = rdR (L[k] :: L.drop (k + 1)) k A syms (Y.map StS.x)) := by rw [← List.drop_eq_getElem_cons hlt]; exact HRk
        have hkI : (k : Int) < L.length := by omega
        obtain ⟨gl, rfl, hcl⟩ := HLR.out k hlt
        have hcl2 := (HB.out.cell (World.block_lt_of_cell? w1 _ hcl)).trans hcl
        clear HRk
        cases hp : parR L[k] with
        | none =>
        have HRN := Lib.hid (HR.out.trans (rd_none hp))
        have HP := Lib.hid (fun W => HPAR.out L[k] W hLk)
        rw [hp] at HP
        unfold ParPost zeroSt at HP
        generalize L[k] = Lk at *
        clear hp
        go_wp2_with (go_at_call 24; (with_reducible refine (HP.out _).mono ?_); rintro e w2 ⟨rfl, hb2⟩; have G2 := heap_below (heap_below G0 HB.out) hb2; have e0 : w2.cell? ⟨w.heap.size, 0, none⟩ = some (.int .i64 0) := cell_blk G2 0 rfl; have e1 : w2.cell? ⟨w.heap.size, 1, none⟩ = some (.int .i64 0) := cell_blk G2 1 rfl; have y0 := free_blk G2 0; have y1 := free_blk G2 1; have s2 : wr.heap.size ≤ w2.heap.size := hb2.size; have b2 : Below w1.heap.size w1 w2 := below_stepZ HB.out hb2; have bw2 : Below w.heap.size w w2 := Below.trans HBW.out (b2.mono (by omega)); have q2 : ¬ w2.heap.size = w.heap.size := (by omega); have q2p : ¬ w.heap.size = w2.heap.size := (by omega); have f0 := fun o => cell_blk (heap_below G2 ((Below.refl _ w2).alloc (Nat.le_refl _) o)) 0 rfl; have f1 := fun o => cell_blk (heap_below G2 ((Below.refl _ w2).alloc (Nat.le_refl _) o)) 1 rfl; have x0 := fun o => free_blk (heap_below G2 ((Below.refl _ w2).alloc (Nat.le_refl _) o)) 0; have x1 := fun o => free_blk (heap_below G2 ((Below.refl _ w2).alloc (Nat.le_refl _) o)) 1; clear e0 e1 y0 y1)
        refine bodyPost_ret (v := .tuple #[.slice none 0 0, .slice none 0 0, .agg #[.int .i64 301, .int .i64 ((k : Int) + 1)]]) (by rw [results_slot2_cell rfl]; go_simp) rfl (read_end HRN.out rfl ?_)
        (repeat' (first | with_reducible exact Below.refl _ _ | with_reducible assumption | with_reducible apply below_drewN | with_reducible apply Below.drew | with_reducible apply Below.setCell | with_reducible apply Below.alloc | (simp; done) | omega | (simp; omega)))
        | some x =>
          obtain ⟨lab, o⟩ := x
          by_cases hlab : lab = []
          · subst hlab
            cases o with
            | none =>
              have HRN := Lib.hid (HR.out.trans (rd_lab hp (fun h => h.1 rfl) A1))
              have es : symR syms [] A = syms := rfl
              rw [es] at HRN
              have HP := Lib.hid (fun W => HPAR.out L[k] W hLk)
              rw [hp] at HP
              unfold ParPost zeroSt at HP
              have le := lit_eq [] []
              generalize L[k] = Lk at *
              clear hp es
              go_wp2_with (go_at_call 24; (with_reducible refine (HP.out _).mono ?_); rintro e w2 ⟨rfl, hb2⟩; have HB2 := Lib.hid hb2; have b2 : Below w1.heap.size w1 w2 := below_stepZ HB.out hb2; have s2 := hb2.size)
              go_roundw
              case rel => exact ⟨k + 1, syms, Y, A, by omega, by go_num, rfl, A0, A1, by omega, by omega, HRN.out, own_below HS.out (HB2.out.alloc s2 _), own_below HX.out (HB2.out.alloc s2 _), Lib.hid (fun y hy => (hAr.out y hy).on (HB2.out.alloc s2 _)), b2.alloc (by omega) _⟩
              case measure => simp [intOf]; omega
            | some st =>
              have hz := par_size hp
              have hwn := (par_what hp).1
              have HP := Lib.hid (fun W => HPAR.out L[k] W hLk)
              have hsn : symR syms [] A = syms := rfl
              have le := lit_eq [] []
              have lw := lit_eq st.what []
              rw [decide_eq_false hwn] at lw
              have HRB := Lib.hid (fun h => HR.out.trans (rd_big hp (fun h => h.1 rfl) h))
              have HRS := Lib.hid (fun h => HR.out.trans (rd_st hp (fun h => h.1 rfl) h))
              rw [hsn] at HRS
              rw [hp] at HP
              unfold ParPost stV at HP
              obtain ⟨z0, z1⟩ := hz
              generalize hL2 : L[k] = Lk at *
              clear hp hwn hsn hL2
              go_wp2_with (first
                | (go_at_call 24; (with_reducible refine (HP.out _).mono ?_); rintro e w2 ⟨⟨v, rfl, hv⟩, hb2⟩; have G2 := heap_below (heap_below G0 HB.out) hb2; have e0 : w2.cell? ⟨w.heap.size, 0, none⟩ = some (.int .i64 0) := cell_blk G2 0 rfl; have e1 : w2.cell? ⟨w.heap.size, 1, none⟩ = some (.int .i64 0) := cell_blk G2 1 rfl; have y0 := free_blk G2 0; have y1 := free_blk G2 1; have s2 : wr.heap.size ≤ w2.heap.size := hb2.size; have b2 : Below w1.heap.size w1 w2 := below_stepZ HB.out hb2; have bw2 : Below w.heap.size w w2 := Below.trans HBW.out (b2.mono (by omega)); have q2 : ¬ w2.heap.size = w.heap.size := (by omega); have q2p : ¬ w.heap.size = w2.heap.size := (by omega); have f0 := fun o => cell_blk (heap_below G2 ((Below.refl _ w2).alloc (Nat.le_refl _) o)) 0 rfl; have f1 := fun o => cell_blk (heap_below G2 ((Below.refl _ w2).alloc (Nat.le_refl _) o)) 1 rfl; have x0 := fun o => free_blk (heap_below G2 ((Below.refl _ w2).alloc (Nat.le_refl _) o)) 0; have x1 := fun o => free_blk (heap_below G2 ((Below.refl _ w2).alloc (Nat.le_refl _) o)) 1; clear e0 e1 y0 y1; have HB2 := Lib.hid hb2; have HV := Lib.hid hv; obtain ⟨oav, capv, rfl⟩ := own_shape hv; clear hv hb2)
                | (at_builtin; refine wpList_append_own2 _ rfl _ _ 44 rfl w1.heap.size 49 j0 _ 6 72 Tryd.underlying44 hj hj0 hj1 hj2 rfl (by decide) _ Y.length (flatX Y) rfl (own_below HX.out ((HB2.out.alloc s2 _).alloc (by simp; omega) _)) ⟨_, 0, none⟩ 1 1 (stC ⟨⟨st, (k : Int) + 1, A⟩, .slice oav st.l.length capv⟩) rfl rfl (new_cellsB _ _ _ _ (by simp)) (one_st _ rfl) (by unfold maxLen; omega) (by omega) (by simp; omega) (by omega) ?_))
              intro v' w5 hown5 hgrow5 hwh5
              obtain ⟨oa3, cap3, rfl⟩ := own_shape hown5
              have hb4 : Below wr.heap.size wr ((w2.alloc (.cells #[.string (S st.what), .int .i64 st.op, .slice oav st.l.length capv, .int .i64 ((k : Int) + 1), .int .i64 A, .int .i64 st.size] 49)).alloc (.cells #[.string (S st.what), .int .i64 st.op, .slice oav st.l.length capv, .int .i64 ((k : Int) + 1), .int .i64 A, .int .i64 st.size] 49)) := (HB2.out.alloc s2 _).alloc (by simp; omega) _
              have c5' : ((w2.alloc (.cells #[.string (S st.what), .int .i64 st.op, .slice oav st.l.length capv, .int .i64 ((k : Int) + 1), .int .i64 A, .int .i64 st.size] 49)).alloc (.cells #[.string (S st.what), .int .i64 st.op, .slice oav st.l.length capv, .int .i64 ((k : Int) + 1), .int .i64 A, .int .i64 st.size] 49)).cell? ⟨w2.heap.size, 5, none⟩ = some (.int .i64 st.size) := by simp [go_sem]
              have hsz4 : ((w2.alloc (.cells #[.string (S st.what), .int .i64 st.op, .slice oav st.l.length capv, .int .i64 ((k : Int) + 1), .int .i64 A, .int .i64 st.size] 49)).alloc (.cells #[.string (S st.what), .int .i64 st.op, .slice oav st.l.length capv, .int .i64 ((k : Int) + 1), .int .i64 A, .int .i64 st.size] 49)).heap.size = w2.heap.size + 1 + 1 := by simp
              have hy4 := (arg_new (B := w1.heap.size) (vs := .slice oa1 syms.length cap1) (vd := .slice oa2 Y.length cap2) (st := st) (line := (k : Int) + 1) (at' := A) HV.out (fun b e => (HS.out.lt b e).2) (fun b e => (HX.out.lt b e).2) hw1r).on (((Below.refl _ w2).alloc (Nat.le_refl _) (.cells #[.string (S st.what), .int .i64 st.op, .slice oav st.l.length capv, .int .i64 ((k : Int) + 1), .int .i64 A, .int .i64 st.size] 49)).alloc (by simp) (.cells #[.string (S st.what), .int .i64 st.op, .slice oav st.l.length capv, .int .i64 ((k : Int) + 1), .int .i64 A, .int .i64 st.size] 49))
              generalize (w2.alloc (.cells #[.string (S st.what), .int .i64 st.op, .slice oav st.l.length capv, .int .i64 ((k : Int) + 1), .int .i64 A, .int .i64 st.size] 49)).alloc (.cells #[.string (S st.what), .int .i64 st.op, .slice oav st.l.length capv, .int .i64 ((k : Int) + 1), .int .i64 A, .int .i64 st.size] 49) = W4 at *
              have hX4 := own_below HX.out hb4
              have hS4 := own_below HS.out hb4
              have hwh : (Value.slice oa3 (Y.length + 1) cap3).ownBlock = (Value.slice oa2 Y.length cap2).ownBlock ∨ (Value.slice oa3 (Y.length + 1) cap3).ownBlock = some W4.heap.size := by rw [hsz4]; exact hwh5
              have b4 : Below w1.heap.size w1 W4 := below_stepZ HB.out hb4
              have b5 : Below w1.heap.size w1 w5 := b4.grown hgrow5 (by have := b4.size; omega) (fun k hk => (hX4.lt k hk).1)
              have hs45 := hgrow5.size
              have HS5 := Lib.hid (own_other hS4 fun g cur _ hg => keep_g hX4 hgrow5 g _ hg (by intro c z h; injection h with h1 h2 h3; exact absurd h2 (by decide)))
              have HX5 := Lib.hid (own_row_eq hown5 (show _ = (Y ++ [(⟨⟨st, (k : Int) + 1, A⟩, .slice oav st.l.length capv⟩ : StS)]).length by simp) (flatX_snoc Y ⟨⟨st, (k : Int) + 1, A⟩, .slice oav st.l.length capv⟩).symm)
              have HA5 := Lib.hid (fun y (hy : y ∈ Y ++ [(⟨⟨st, (k : Int) + 1, A⟩, .slice oav st.l.length capv⟩ : StS)]) => show ArgOf w1.heap.size w5 _ (Value.slice oa3 (Y.length + 1) cap3) y from by
                rcases List.mem_append.1 hy with hy | hy
                · exact ((hAr.out y hy).on hb4).sts hgrow5 hwh hs45
                · rw [List.mem_singleton] at hy; subst hy; exact hy4.sts hgrow5 hwh hs45)
              have c5 : w5.cell? ⟨w2.heap.size, 5, none⟩ = some (.int .i64 st.size) := by
                rw [← c5']
                have hne : some w2.heap.size ≠ (Value.slice oa2 Y.length cap2).ownBlock := fun e => by have := (HX.out.lt _ e.symm).2; omega
                have := hgrow5.block w2.heap.size (by omega) hne
                simp only [World.cell?, this]
              have G5 := heap_below G0 b5
              have e0 := cell_blk G5 0 rfl
              have e1 := cell_blk G5 1 rfl
              have y0 := free_blk G5 0
              have y1 := free_blk G5 1
              have bw5 : Below w.heap.size w w5 := Below.trans HBW.out (b5.mono (by omega))
              have HB5 := Lib.hid b5
              clear hown5 hgrow5 hwh5 hwh hy4 c5' hX4 hS4 b4 b5 hb4 G5 f0 f1 x0 x1 G2 hsz4
              by_cases hbg : 1024 < A + st.size
              · have HRN := Lib.hid (HRB.out hbg)
                clear HRB HRS
                go_wp2
                refine bodyPost_ret (v := .tuple #[.slice none 0 0, .slice none 0 0, .agg #[.int .i64 305, .int .i64 ((k : Int) + 1)]]) (by rw [results_slot2_cell rfl]; go_simp) rfl (read_end HRN.out rfl ?_)
                (repeat' (first | with_reducible exact Below.refl _ _ | with_reducible assumption | with_reducible apply below_drewN | with_reducible apply Below.drew | with_reducible apply Below.setCell | with_reducible apply Below.alloc | (simp; done) | omega | (simp; omega)))
              · have HRN := Lib.hid (HRS.out (by omega))
                clear HRB HRS
                go_wp2
                go_roundw
                case rel => exact ⟨k + 1, syms, Y ++ [⟨⟨st, (k : Int) + 1, A⟩, .slice oav st.l.length capv⟩], A + st.size, by omega, by go_num, rfl, by omega, by omega, by omega, by rw [List.length_append]; simp; omega, by rw [List.map_append]; exact HRN.out, HS5.out, HX5.out, HA5, HB5.out⟩
                case measure => simp [intOf]; omega
          · have le := lit_eq lab []
            rw [decide_eq_false hlab] at le
            have HAD := Lib.hid (fun W (h : RowS W oa1 syms) => address_ref oa1 syms.length cap1 syms lab W rfl (by omega) h)
            have HRS0 := Lib.hid hrs
            have HP := Lib.hid (fun W => HPAR.out L[k] W hLk)
            rw [hp] at HP
            unfold ParPost at HP
            cases hlk : lookS syms lab with
            | some q =>
              have HRN := Lib.hid (HR.out.trans (rd_twice hp ⟨hlab, by rw [hlk]; rfl⟩))
              rw [hlk] at HAD
              unfold adrV at HAD
              generalize hL2 : L[k] = Lk at *
              cases o with
              | none =>
                unfold zeroSt at HP
                clear hp hlk hrs hlab hL2
                go_wp2_with (first
                  | (go_at_call 24; (with_reducible refine (HP.out _).mono ?_); rintro e w2 ⟨rfl, hb2⟩; have G2 := heap_below (heap_below G0 HB.out) hb2; have e0 : w2.cell? ⟨w.heap.size, 0, none⟩ = some (.int .i64 0) := cell_blk G2 0 rfl; have e1 : w2.cell? ⟨w.heap.size, 1, none⟩ = some (.int .i64 0) := cell_blk G2 1 rfl; have y0 := free_blk G2 0; have y1 := free_blk G2 1; have s2 : wr.heap.size ≤ w2.heap.size := hb2.size; have b2 : Below w1.heap.size w1 w2 := below_stepZ HB.out hb2; have bw2 : Below w.heap.size w w2 := Below.trans HBW.out (b2.mono (by omega)); have q2 : ¬ w2.heap.size = w.heap.size := (by omega); have q2p : ¬ w.heap.size = w2.heap.size := (by omega); have f0 := fun o => cell_blk (heap_below G2 ((Below.refl _ w2).alloc (Nat.le_refl _) o)) 0 rfl; have f1 := fun o => cell_blk (heap_below G2 ((Below.refl _ w2).alloc (Nat.le_refl _) o)) 1 rfl; have x0 := fun o => free_blk (heap_below G2 ((Below.refl _ w2).alloc (Nat.le_refl _) o)) 0; have x1 := fun o => free_blk (heap_below G2 ((Below.refl _ w2).alloc (Nat.le_refl _) o)) 1; clear e0 e1 y0 y1; have HB2 := Lib.hid hb2; clear hb2)
                  | (go_at_call 18; (with_reducible refine (HAD.out _ (HRS0.out.on ((HB2.out.alloc s2 _)))).mono ?_); rintro e w3 ⟨rfl, rfl⟩))
                refine bodyPost_ret (v := .tuple #[.slice none 0 0, .slice none 0 0, .agg #[.int .i64 303, .int .i64 ((k : Int) + 1)]]) (by rw [results_slot2_cell rfl]; go_simp) rfl (read_end HRN.out rfl ?_)
                (repeat' (first | with_reducible exact Below.refl _ _ | with_reducible assumption | with_reducible apply below_drewN | with_reducible apply Below.drew | with_reducible apply Below.setCell | with_reducible apply Below.alloc | (simp; done) | omega | (simp; omega)))
              | some st =>
                unfold stV at HP
                clear hp hlk hrs hlab hL2
                go_wp2_with (first
                  | (go_at_call 24; (with_reducible refine (HP.out _).mono ?_); rintro e w2 ⟨⟨v, rfl, hv⟩, hb2⟩; obtain ⟨oav, capv, rfl⟩ := own_shape hv; have G2 := heap_below (heap_below G0 HB.out) hb2; have e0 : w2.cell? ⟨w.heap.size, 0, none⟩ = some (.int .i64 0) := cell_blk G2 0 rfl; have e1 : w2.cell? ⟨w.heap.size, 1, none⟩ = some (.int .i64 0) := cell_blk G2 1 rfl; have y0 := free_blk G2 0; have y1 := free_blk G2 1; have s2 : wr.heap.size ≤ w2.heap.size := hb2.size; have b2 : Below w1.heap.size w1 w2 := below_stepZ HB.out hb2; have bw2 : Below w.heap.size w w2 := Below.trans HBW.out (b2.mono (by omega)); have q2 : ¬ w2.heap.size = w.heap.size := (by omega); have q2p : ¬ w.heap.size = w2.heap.size := (by omega); have f0 := fun o => cell_blk (heap_below G2 ((Below.refl _ w2).alloc (Nat.le_refl _) o)) 0 rfl; have f1 := fun o => cell_blk (heap_below G2 ((Below.refl _ w2).alloc (Nat.le_refl _) o)) 1 rfl; have x0 := fun o => free_blk (heap_below G2 ((Below.refl _ w2).alloc (Nat.le_refl _) o)) 0; have x1 := fun o => free_blk (heap_below G2 ((Below.refl _ w2).alloc (Nat.le_refl _) o)) 1; clear e0 e1 y0 y1; have HB2 := Lib.hid hb2; clear hb2)
                  | (go_at_call 18; (with_reducible refine (HAD.out _ (HRS0.out.on ((HB2.out.alloc s2 _)))).mono ?_); rintro e w3 ⟨rfl, rfl⟩))
                refine bodyPost_ret (v := .tuple #[.slice none 0 0, .slice none 0 0, .agg #[.int .i64 303, .int .i64 ((k : Int) + 1)]]) (by rw [results_slot2_cell rfl]; go_simp) rfl (read_end HRN.out rfl ?_)
                (repeat' (first | with_reducible exact Below.refl _ _ | with_reducible assumption | with_reducible apply below_drewN | with_reducible apply Below.drew | with_reducible apply Below.setCell | with_reducible apply Below.alloc | (simp; done) | omega | (simp; omega)))
            | none =>
              obtain ⟨a, rfl⟩ : ∃ a : Nat, A = a := ⟨A.toNat, by omega⟩
              have es : symR syms lab (a : Int) = syms ++ [(lab, 4 * a)] := by
                unfold symR
                rw [if_neg hlab, show (4 * (a : Int)).toNat = 4 * a by omega]
              rw [hlk] at HAD
              unfold adrV at HAD
              have hnl : ¬ (lab ≠ [] ∧ (lookS syms lab).isSome = true) := fun h => by rw [hlk] at h; exact absurd h.2 (by decide)
              cases o with
              | none =>
                have HRN := Lib.hid (HR.out.trans (rd_lab hp hnl A1))
                rw [es] at HRN
                unfold zeroSt at HP
                have lw := lit_eq [] []
                generalize hL2 : L[k] = Lk at *
                clear hp hlk hrs hlab hL2 hnl es
                go_wp2_with (first
                  | (go_at_call 24; (with_reducible refine (HP.out _).mono ?_); rintro e w2 ⟨rfl, hb2⟩; have G2 := heap_below (heap_below G0 HB.out) hb2; have e0 : w2.cell? ⟨w.heap.size, 0, none⟩ = some (.int .i64 0) := cell_blk G2 0 rfl; have e1 : w2.cell? ⟨w.heap.size, 1, none⟩ = some (.int .i64 0) := cell_blk G2 1 rfl; have y0 := free_blk G2 0; have y1 := free_blk G2 1; have s2 : wr.heap.size ≤ w2.heap.size := hb2.size; have b2 : Below w1.heap.size w1 w2 := below_stepZ HB.out hb2; have bw2 : Below w.heap.size w w2 := Below.trans HBW.out (b2.mono (by omega)); have q2 : ¬ w2.heap.size = w.heap.size := (by omega); have q2p : ¬ w.heap.size = w2.heap.size := (by omega); have f0 := fun o => cell_blk (heap_below G2 ((Below.refl _ w2).alloc (Nat.le_refl _) o)) 0 rfl; have f1 := fun o => cell_blk (heap_below G2 ((Below.refl _ w2).alloc (Nat.le_refl _) o)) 1 rfl; have x0 := fun o => free_blk (heap_below G2 ((Below.refl _ w2).alloc (Nat.le_refl _) o)) 0; have x1 := fun o => free_blk (heap_below G2 ((Below.refl _ w2).alloc (Nat.le_refl _) o)) 1; clear e0 e1 y0 y1; have HB2 := Lib.hid hb2; clear hb2)
                  | (go_at_call 18; (with_reducible refine (HAD.out _ (HRS0.out.on ((HB2.out.alloc s2 _)))).mono ?_); rintro e w3 ⟨rfl, rfl⟩)
                  | (at_builtin; refine wpList_append_own2 _ rfl _ _ 35 rfl w1.heap.size 60 i0 _ 2 24 Tryd.underlying35 hi hz0 hz1 hz2 rfl (by decide) _ syms.length (flatS syms) rfl (own_below HS.out ((HB2.out.alloc s2 _).alloc (by simp; omega) _)) ⟨_, 0, none⟩ 1 1 (symC (lab, 4 * a)) rfl rfl (new_cellsB _ _ _ _ (by simp)) (one_sym _) (by unfold maxLen; omega) (by omega) (by simp; omega) (by omega) ?_))
                intro v' w5 hown5 hgrow5 hwh5
                obtain ⟨oa3, cap3, rfl⟩ := own_shape hown5
                have hb4 : Below wr.heap.size wr ((w2.alloc (.cells #[.string { data := #[] }, .int .i64 0, .slice none 0 0, .int .i64 0, .int .i64 0, .int .i64 0] 49)).alloc (.cells #[.string (S lab), .int .u32 (4 * (a : Int))] 60)) := (HB2.out.alloc s2 _).alloc (by simp; omega) _
                have c0' : (((w2.alloc (.cells #[.string { data := #[] }, .int .i64 0, .slice none 0 0, .int .i64 0, .int .i64 0, .int .i64 0] 49)).alloc (.cells #[.string (S lab), .int .u32 (4 * (a : Int))] 60))).cell? ⟨w2.heap.size, 0, none⟩ = some (.string { data := #[] }) := by simp [go_sem]
                have hsz4 : (((w2.alloc (.cells #[.string { data := #[] }, .int .i64 0, .slice none 0 0, .int .i64 0, .int .i64 0, .int .i64 0] 49)).alloc (.cells #[.string (S lab), .int .u32 (4 * (a : Int))] 60))).heap.size = w2.heap.size + 1 + 1 := by simp
                generalize ((w2.alloc (.cells #[.string { data := #[] }, .int .i64 0, .slice none 0 0, .int .i64 0, .int .i64 0, .int .i64 0] 49)).alloc (.cells #[.string (S lab), .int .u32 (4 * (a : Int))] 60)) = W4 at *
                have hX4 := own_below HX.out hb4
                have hS4 := own_below HS.out hb4
                have hwh : (Value.slice oa3 (syms.length + 1) cap3).ownBlock = (Value.slice oa1 syms.length cap1).ownBlock ∨ (Value.slice oa3 (syms.length + 1) cap3).ownBlock = some W4.heap.size := by rw [hsz4]; exact hwh5
                have b4 : Below w1.heap.size w1 W4 := below_stepZ HB.out hb4
                have b5 : Below w1.heap.size w1 w5 := b4.grown hgrow5 (by have := b4.size; omega) (fun k hk => (hS4.lt k hk).1)
                have hs45 := hgrow5.size
                have HX5 := Lib.hid (own_other hX4 fun g cur _ hg => keep_g hS4 hgrow5 g _ hg (by intro c z h; injection h with h1 h2 h3; exact absurd h2 (by decide)))
                have HS5 := Lib.hid (own_row_eq hown5 (show _ = (syms ++ [(lab, 4 * a)]).length by simp) (flatS_snoc syms (lab, 4 * a)).symm)
                have HA5 := Lib.hid (fun y (hy : y ∈ Y) => ((hAr.out y hy).on hb4).sym (vs' := .slice oa3 (syms.length + 1) cap3) hgrow5 hwh hs45)
                have hbk : w5.heap[w2.heap.size]? = W4.heap[w2.heap.size]? := hgrow5.block w2.heap.size (by omega) (fun e => by have := (HS.out.lt _ e.symm).2; omega)
                have HB5 := Lib.hid b5
                have c0 : w5.cell? ⟨w2.heap.size, 0, none⟩ = some (.string { data := #[] }) := by
                  rw [← c0']
                  simp only [World.cell?, hbk]
                clear hown5 hgrow5 hwh5 hwh c0' hX4 hS4 b4 b5 hb4 f0 f1 x0 x1 G2 hsz4 hbk
                go_wp2
                go_roundw
                case rel => exact ⟨k + 1, syms ++ [(lab, 4 * a)], Y, a, by omega, by go_num, rfl, A0, A1, by rw [List.length_append]; simp; omega, by omega, HRN.out, HS5.out, HX5.out, HA5, HB5.out⟩
                case measure => simp [intOf]; omega
              | some st =>
                have hz := par_size hp
                have hwn := (par_what hp).1
                have lw := lit_eq st.what []
                rw [decide_eq_false hwn] at lw
                have HRB := Lib.hid (fun h => HR.out.trans (rd_big hp hnl h))
                have HRS := Lib.hid (fun h => HR.out.trans (rd_st hp hnl h))
                rw [es] at HRS
                unfold stV at HP
                obtain ⟨z0, z1⟩ := hz
                generalize hL2 : L[k] = Lk at *
                clear hp hlk hrs hlab hL2 hnl es hwn
                go_wp2_with (first
                  | (go_at_call 24; (with_reducible refine (HP.out _).mono ?_); rintro e w2 ⟨⟨v, rfl, hv⟩, hb2⟩; have HV := Lib.hid hv; obtain ⟨oav, capv, rfl⟩ := own_shape hv; clear hv; have G2 := heap_below (heap_below G0 HB.out) hb2; have e0 : w2.cell? ⟨w.heap.size, 0, none⟩ = some (.int .i64 0) := cell_blk G2 0 rfl; have e1 : w2.cell? ⟨w.heap.size, 1, none⟩ = some (.int .i64 0) := cell_blk G2 1 rfl; have y0 := free_blk G2 0; have y1 := free_blk G2 1; have s2 : wr.heap.size ≤ w2.heap.size := hb2.size; have b2 : Below w1.heap.size w1 w2 := below_stepZ HB.out hb2; have bw2 : Below w.heap.size w w2 := Below.trans HBW.out (b2.mono (by omega)); have q2 : ¬ w2.heap.size = w.heap.size := (by omega); have q2p : ¬ w.heap.size = w2.heap.size := (by omega); have f0 := fun o => cell_blk (heap_below G2 ((Below.refl _ w2).alloc (Nat.le_refl _) o)) 0 rfl; have f1 := fun o => cell_blk (heap_below G2 ((Below.refl _ w2).alloc (Nat.le_refl _) o)) 1 rfl; have x0 := fun o => free_blk (heap_below G2 ((Below.refl _ w2).alloc (Nat.le_refl _) o)) 0; have x1 := fun o => free_blk (heap_below G2 ((Below.refl _ w2).alloc (Nat.le_refl _) o)) 1; clear e0 e1 y0 y1; have HB2 := Lib.hid hb2; clear hb2)
                  | (go_at_call 18; (with_reducible refine (HAD.out _ (HRS0.out.on ((HB2.out.alloc s2 _)))).mono ?_); rintro e w3 ⟨rfl, rfl⟩)
                  | (at_builtin; refine wpList_append_own2 _ rfl _ _ 35 rfl w1.heap.size 60 i0 _ 2 24 Tryd.underlying35 hi hz0 hz1 hz2 rfl (by decide) _ syms.length (flatS syms) rfl (own_below HS.out ((HB2.out.alloc s2 _).alloc (by simp; omega) _)) ⟨_, 0, none⟩ 1 1 (symC (lab, 4 * a)) rfl rfl (new_cellsB _ _ _ _ (by simp)) (one_sym _) (by unfold maxLen; omega) (by omega) (by simp; omega) (by omega) ?_))
                intro v' w5 hown5 hgrow5 hwh5
                obtain ⟨oa3, cap3, rfl⟩ := own_shape hown5
                have hb4 : Below wr.heap.size wr ((w2.alloc (.cells #[.string (S st.what), .int .i64 st.op, .slice oav st.l.length capv, .int .i64 0, .int .i64 0, .int .i64 st.size] 49)).alloc (.cells #[.string (S lab), .int .u32 (4 * (a : Int))] 60)) := (HB2.out.alloc s2 _).alloc (by simp; omega) _
                have g4 : (((w2.alloc (.cells #[.string (S st.what), .int .i64 st.op, .slice oav st.l.length capv, .int .i64 0, .int .i64 0, .int .i64 st.size] 49)).alloc (.cells #[.string (S lab), .int .u32 (4 * (a : Int))] 60))).heap[w2.heap.size]? = some (.cells #[.string (S st.what), .int .i64 st.op, .slice oav st.l.length capv, .int .i64 0, .int .i64 0, .int .i64 st.size] 49 (0, 0)) := al_old (al_new w2 _ _ rfl)
                have hy4 := (arg_new (B := w1.heap.size) (vs := .slice oa1 syms.length cap1) (vd := .slice oa2 Y.length cap2) (st := st) (line := (k : Int) + 1) (at' := (a : Int)) HV.out (fun b e => (HS.out.lt b e).2) (fun b e => (HX.out.lt b e).2) hw1r)
                have hyl := hy4.argLt
                replace hy4 := hy4.on (((Below.refl _ w2).alloc (Nat.le_refl _) (.cells #[.string (S st.what), .int .i64 st.op, .slice oav st.l.length capv, .int .i64 0, .int .i64 0, .int .i64 st.size] 49)).alloc (by simp) (.cells #[.string (S lab), .int .u32 (4 * (a : Int))] 60))
                have hsz4 : (((w2.alloc (.cells #[.string (S st.what), .int .i64 st.op, .slice oav st.l.length capv, .int .i64 0, .int .i64 0, .int .i64 st.size] 49)).alloc (.cells #[.string (S lab), .int .u32 (4 * (a : Int))] 60))).heap.size = w2.heap.size + 1 + 1 := by simp
                generalize ((w2.alloc (.cells #[.string (S st.what), .int .i64 st.op, .slice oav st.l.length capv, .int .i64 0, .int .i64 0, .int .i64 st.size] 49)).alloc (.cells #[.string (S lab), .int .u32 (4 * (a : Int))] 60)) = W4 at *
                have hX4 := own_below HX.out hb4
                have hS4 := own_below HS.out hb4
                have hwh : (Value.slice oa3 (syms.length + 1) cap3).ownBlock = (Value.slice oa1 syms.length cap1).ownBlock ∨ (Value.slice oa3 (syms.length + 1) cap3).ownBlock = some W4.heap.size := by rw [hsz4]; exact hwh5
                have b4 : Below w1.heap.size w1 W4 := below_stepZ HB.out hb4
                have b5 : Below w1.heap.size w1 w5 := b4.grown hgrow5 (by have := b4.size; omega) (fun k hk => (hS4.lt k hk).1)
                have hs45 := hgrow5.size
                have HX5 := Lib.hid (own_other hX4 fun g cur _ hg => keep_g hS4 hgrow5 g _ hg (by intro c z h; injection h with h1 h2 h3; exact absurd h2 (by decide)))
                have HS5 := Lib.hid (own_row_eq hown5 (show _ = (syms ++ [(lab, 4 * a)]).length by simp) (flatS_snoc syms (lab, 4 * a)).symm)
                have HA5 := Lib.hid (fun y (hy : y ∈ Y) => ((hAr.out y hy).on hb4).sym (vs' := .slice oa3 (syms.length + 1) cap3) hgrow5 hwh hs45)
                have hbk : w5.heap[w2.heap.size]? = W4.heap[w2.heap.size]? := hgrow5.block w2.heap.size (by omega) (fun e => by have := (HS.out.lt _ e.symm).2; omega)
                have HB5 := Lib.hid b5
                have g5 := hbk.trans g4
                have d0 := cell_blk g5 0 rfl
                have d1 := cell_blk g5 1 rfl
                have d2 := cell_blk g5 2 rfl
                have d3 := cell_blk g5 3 rfl
                have d4 := cell_blk g5 4 rfl
                have d5 := cell_blk g5 5 rfl
                have t3 := free_blk g5 3
                have t4 := free_blk g5 4
                have HY5 := Lib.hid (hy4.sym (vs' := .slice oa3 (syms.length + 1) cap3) hgrow5 hwh hs45)
                have HYL := Lib.hid hyl
                have HAL := Lib.hid (fun y (hy : y ∈ Y) => show ArgLt w2.heap.size y from fun b off n c e => Nat.lt_of_lt_of_le ((hAr.out y hy).argLt b off n c e) s2)
                have nX := Lib.hid (show (Value.slice oa2 Y.length cap2).ownBlock ≠ some w2.heap.size from fun e => by have := (HX.out.lt _ e).2; omega)
                have nS := Lib.hid (show (Value.slice oa3 (syms.length + 1) cap3).ownBlock ≠ some w2.heap.size from fun e => by
                  rcases hwh with hwh | hwh
                  · rw [hwh] at e; have := (HS.out.lt _ e).2; omega
                  · rw [hwh] at e; injection e with e; omega)
                have hq5 : w2.heap.size < w5.heap.size := lt_of_block g5
                have hq1 : w1.heap.size ≤ w2.heap.size := by omega
                clear hown5 hgrow5 hwh5 hwh hX4 hS4 b4 b5 hb4 f0 f1 x0 x1 G2 hsz4 hbk hy4 hyl g4
                go_wp2_with (first
                  | (at_builtin; refine wpList_append_own2 _ rfl _ _ 44 rfl w1.heap.size 49 j0 _ 6 72 Tryd.underlying44 hj hj0 hj1 hj2 rfl (by decide) _ Y.length (flatX Y) rfl (World.ownsRow.alloc (ownsRow_setCell_other (ownsRow_setCell_other HX5.out nX.out _) nX.out _) _) ⟨_, 0, none⟩ 1 1 (stC (⟨⟨st, (k : Int) + 1, (a : Int)⟩, .slice oav st.l.length capv⟩ : StS)) rfl rfl (new_cellsB _ _ _ _ (by simp)) (one_st _ rfl) (by unfold maxLen; omega) (by omega) (by simp; omega) (by omega) ?_))
                intro v'' w6 hown6 hgrow6 hwh6
                obtain ⟨oa4, cap4, rfl⟩ := own_shape hown6
                have hsz6 : (((w5.setCell ⟨w2.heap.size, 3, none⟩ (.int .i64 ((k : Int) + 1))).setCell ⟨w2.heap.size, 4, none⟩ (.int .i64 (a : Int))).alloc (.cells #[.string (S st.what), .int .i64 st.op, .slice oav st.l.length capv, .int .i64 ((k : Int) + 1), .int .i64 (a : Int), .int .i64 st.size] 49)).heap.size = w5.heap.size + 1 := by simp
                have hS6 := World.ownsRow.alloc (ownsRow_setCell_other (ownsRow_setCell_other HS5.out nS.out (.int .i64 ((k : Int) + 1)) (a := ⟨w2.heap.size, 3, none⟩)) nS.out (.int .i64 (a : Int)) (a := ⟨w2.heap.size, 4, none⟩)) (.cells #[.string (S st.what), .int .i64 st.op, .slice oav st.l.length capv, .int .i64 ((k : Int) + 1), .int .i64 (a : Int), .int .i64 st.size] 49)
                have hX6 := World.ownsRow.alloc (ownsRow_setCell_other (ownsRow_setCell_other HX5.out nX.out (.int .i64 ((k : Int) + 1)) (a := ⟨w2.heap.size, 3, none⟩)) nX.out (.int .i64 (a : Int)) (a := ⟨w2.heap.size, 4, none⟩)) (.cells #[.string (S st.what), .int .i64 st.op, .slice oav st.l.length capv, .int .i64 ((k : Int) + 1), .int .i64 (a : Int), .int .i64 st.size] 49)
                have b6 : Below w1.heap.size w1 (((w5.setCell ⟨w2.heap.size, 3, none⟩ (.int .i64 ((k : Int) + 1))).setCell ⟨w2.heap.size, 4, none⟩ (.int .i64 (a : Int))).alloc (.cells #[.string (S st.what), .int .i64 st.op, .slice oav st.l.length capv, .int .i64 ((k : Int) + 1), .int .i64 (a : Int), .int .i64 st.size] 49)) := ((HB5.out.setCell (p := ⟨w2.heap.size, 3, none⟩) hq1 _).setCell (p := ⟨w2.heap.size, 4, none⟩) hq1 _).alloc (by simp; omega) _
                have c6' : (((w5.setCell ⟨w2.heap.size, 3, none⟩ (.int .i64 ((k : Int) + 1))).setCell ⟨w2.heap.size, 4, none⟩ (.int .i64 (a : Int))).alloc (.cells #[.string (S st.what), .int .i64 st.op, .slice oav st.l.length capv, .int .i64 ((k : Int) + 1), .int .i64 (a : Int), .int .i64 st.size] 49)).cell? ⟨w2.heap.size, 5, none⟩ = some (.int .i64 st.size) := by simp [go_sem, d5, hq5]
                have lift : ∀ y, ArgOf w1.heap.size w5 (.slice oa3 (syms.length + 1) cap3) (.slice oa2 Y.length cap2) y → ArgLt w2.heap.size y → ArgOf w1.heap.size (((w5.setCell ⟨w2.heap.size, 3, none⟩ (.int .i64 ((k : Int) + 1))).setCell ⟨w2.heap.size, 4, none⟩ (.int .i64 (a : Int))).alloc (.cells #[.string (S st.what), .int .i64 st.op, .slice oav st.l.length capv, .int .i64 ((k : Int) + 1), .int .i64 (a : Int), .int .i64 st.size] 49)) (.slice oa3 (syms.length + 1) cap3) (.slice oa2 Y.length cap2) y := fun y h hl => ((h.setN hl 3 (.int .i64 ((k : Int) + 1))).setN hl 4 (.int .i64 (a : Int))).on ((Below.refl _ _).alloc (Nat.le_refl _) _)
                have hA6 := Lib.hid (fun y (hy : y ∈ Y) => lift y (HA5.out y hy) (HAL.out y hy))
                have hN6 := Lib.hid (lift _ HY5.out HYL.out)
                clear lift
                generalize (((w5.setCell ⟨w2.heap.size, 3, none⟩ (.int .i64 ((k : Int) + 1))).setCell ⟨w2.heap.size, 4, none⟩ (.int .i64 (a : Int))).alloc (.cells #[.string (S st.what), .int .i64 st.op, .slice oav st.l.length capv, .int .i64 ((k : Int) + 1), .int .i64 (a : Int), .int .i64 st.size] 49)) = W6 at *
                have hwh7 : (Value.slice oa4 (Y.length + 1) cap4).ownBlock = (Value.slice oa2 Y.length cap2).ownBlock ∨ (Value.slice oa4 (Y.length + 1) cap4).ownBlock = some W6.heap.size := by rw [hsz6]; exact hwh6
                have b7 : Below w1.heap.size w1 w6 := b6.grown hgrow6 (by have := b6.size; omega) (fun k hk => (hX6.lt k hk).1)
                have hs67 := hgrow6.size
                have HS7 := Lib.hid (own_other hS6 fun g cur _ hg => keep_g hX6 hgrow6 g _ hg (by intro c z h; injection h with h1 h2 h3; exact absurd h2 (by decide)))
                have HX7 := Lib.hid (own_row_eq hown6 (show _ = (Y ++ [(⟨⟨st, (k : Int) + 1, (a : Int)⟩, .slice oav st.l.length capv⟩ : StS)]).length by simp) (flatX_snoc Y (⟨⟨st, (k : Int) + 1, (a : Int)⟩, .slice oav st.l.length capv⟩ : StS)).symm)
                have HA7 := Lib.hid (fun y (hy : y ∈ Y ++ [(⟨⟨st, (k : Int) + 1, (a : Int)⟩, .slice oav st.l.length capv⟩ : StS)]) => show ArgOf w1.heap.size w6 _ (Value.slice oa4 (Y.length + 1) cap4) y from by
                  rcases List.mem_append.1 hy with hy | hy
                  · exact (hA6.out y hy).sts hgrow6 hwh7 hs67
                  · rw [List.mem_singleton] at hy; subst hy; exact hN6.out.sts hgrow6 hwh7 hs67)
                have c6 : w6.cell? ⟨w2.heap.size, 5, none⟩ = some (.int .i64 st.size) := by
                  rw [← c6']
                  have := hgrow6.block w2.heap.size (by omega) (fun e => nX.out e.symm)
                  simp only [World.cell?, this]
                have G7 := heap_below G0 b7
                have e0 := cell_blk G7 0 rfl
                have e1 := cell_blk G7 1 rfl
                have y0 := free_blk G7 0
                have y1 := free_blk G7 1
                have bw7 : Below w.heap.size w w6 := Below.trans HBW.out (b7.mono (by omega))
                have HB7 := Lib.hid b7
                clear hown6 hgrow6 hwh6 hwh7 c6' hX6 hS6 b6 b7 G7 hsz6 d0 d1 d2 d3 d4 d5 t3 t4
                by_cases hbg : 1024 < (a : Int) + st.size
                · have HRN := Lib.hid (HRB.out hbg)
                  clear HRB HRS
                  go_wp2
                  refine bodyPost_ret (v := .tuple #[.slice none 0 0, .slice none 0 0, .agg #[.int .i64 305, .int .i64 ((k : Int) + 1)]]) (by rw [results_slot2_cell rfl]; go_simp) rfl (read_end HRN.out rfl ?_)
                  (repeat' (first | with_reducible exact Below.refl _ _ | with_reducible assumption | with_reducible apply below_drewN | with_reducible apply Below.drew | with_reducible apply Below.setCell | with_reducible apply Below.alloc | (simp; done) | omega | (simp; omega)))
                · have HRN := Lib.hid (HRS.out (by omega))
                  clear HRB HRS
                  go_wp2
                  go_roundw
                  case rel => exact ⟨k + 1, syms ++ [(lab, 4 * a)], Y ++ [(⟨⟨st, (k : Int) + 1, (a : Int)⟩, .slice oav st.l.length capv⟩ : StS)], (a : Int) + st.size, by omega, by go_num, rfl, by omega, by omega, by rw [List.length_append]; simp; omega, by rw [List.length_append]; simp; omega, by rw [List.map_append]; exact HRN.out, HS7.out, HX7.out, HA7, HB7.out⟩
                  case measure => simp [intOf]; omega
      · obtain rfl : k = L.length := by omega
        have HRN : Hid (R = .inr (syms, Y.map StS.x)) := by show _ = _; rw [HRk.out, List.drop_length, rd_nil]
        have hkI : ¬ ((L.length : Nat) : Int) < L.length := by omega
        have G2 := heap_below G0 HB.out
        have e0 : wr.cell? ⟨w.heap.size, 0, none⟩ = some (.int .i64 0) := cell_blk G2 0 rfl
        have e1 : wr.cell? ⟨w.heap.size, 1, none⟩ = some (.int .i64 0) := cell_blk G2 1 rfl
        have y0 := free_blk G2 0
        have y1 := free_blk G2 1
        have n0 := own_low HS.out hws
        have n1 := own_low HX.out hws
        have bw : Below w.heap.size w wr := Below.trans HBW.out (HB.out.mono (by omega))
        have hws2 : w.heap.size ≤ w1.heap.size := by omega
        clear G2
        go_wp2
        refine bodyPost_ret (v := .tuple #[.slice oa1 syms.length cap1, .slice oa2 Y.length cap2, .agg #[.int .i64 0, .int .i64 0]]) (by rw [results_slot2_cell rfl]; go_simp) rfl ?_
        rw [HRN.out]
        refine ⟨⟨_, _, Y, rfl, own_base (ownsRow_setCell_other (ownsRow_setCell_other HS.out n0 _) n0 _) hws2, own_base (ownsRow_setCell_other (ownsRow_setCell_other HX.out n1 _) n1 _) hws2, rfl, fun y hy => (((hAr.out y hy).set (p := ⟨w.heap.size, 0, none⟩) hws _).set (p := ⟨w.heap.size, 1, none⟩) hws _).low hws2⟩, ?_⟩
        (repeat' (first | with_reducible exact Below.refl _ _ | with_reducible assumption | with_reducible apply below_drewN | with_reducible apply Below.drew | with_reducible apply Below.setCell | with_reducible apply Below.alloc | (simp; done) | omega | (simp; omega)))
end Go.Proofs.YthghbcjaokpilaaDoor
