import Derived.Test.YthghbcjaokpilaaDoorAsmFn
import Derived.Test.YthghbcjaokpilaaDoorIsaFn3
import Derived.Laws.ResultCell
import Derived.Below
namespace Go.Proofs.YthghbcjaokpilaaDoor
set_option linter.unusedVariables false
set_option linter.unusedSimpArgs false
open Go.ChangeShapes Go.WideShapes Go.ChangeAt Go.RowKit Go.Proofs.YthghbcjaokpilaaDoor.Num Go.Proofs.YthghbcjaokpilaaDoor.Mem Go.Proofs.YthghbcjaokpilaaDoor.Asm
def valN (s : Bs) : Int := match valL s with | some (n, _) => n | none => 0
def valS (s : Bs) : Bs := match valL s with | some (_, l) => l | none => []
theorem val_name {s : Bs} (h : nameB s = true) : valN s = 0 ∧ valS s = s ∧ (valL s).isSome = true := by
  have e : valL s = some (0, s) := by unfold valL; rw [if_pos h]
  unfold valN valS; rw [e]; exact ⟨rfl, rfl, rfl⟩
theorem val_num {s : Bs} (h : nameB s = false) : valN s = numI s ∧ valS s = [] ∧ (valL s).isSome = (numL s).isSome := by
  have e : valL s = (numL s).map (fun n => (n, [])) := by unfold valL; rw [if_neg (by rw [h]; decide)]
  unfold valN valS numI; rw [e]
  cases numL s <;> exact ⟨rfl, rfl, rfl⟩
theorem value_asm (s : ByteArray) (w : World) (h0 : 0 < s.size) : Calls Tryd.prog 67 #[.string s] w fun e w' => e = .returned (.tuple #[.agg #[.int .i64 (valN s.data.toList), .string (S (valS s.data.toList))], .bool (valL s.data.toList).isSome]) ∧ Below w.heap.size w w' := by
  cases hn : nameB s.data.toList with
  | true =>
    obtain ⟨e1, e2, e3⟩ := val_name hn
    rw [e1, e2, e3, S_back]; clear e1 e2 e3
    go_enter Tryd.func67, Tryd.ntmps67
    go_wp2_with (go_at_call 53; (with_reducible refine (name_asm _ _ h0).mono ?_); rintro e w' ⟨rfl, rfl⟩)
    refine bodyPost_ret (v := .tuple #[.agg #[.int .i64 0, .string s], .bool true]) ?_ rfl ⟨rfl, ?_⟩
    · rw [results_cell_tmp rfl]; go_simp
    · exact (Below.refl _ _).alloc (Nat.le_refl _) _
  | false =>
    obtain ⟨e1, e2, e3⟩ := val_num hn
    rw [e1, e2, e3]; clear e1 e2 e3
    go_enter Tryd.func67, Tryd.ntmps67
    go_wp2_with (first
      | (go_at_call 53; (with_reducible refine (name_asm _ _ h0).mono ?_); rintro e w' ⟨rfl, rfl⟩)
      | (go_at_call 66; (with_reducible refine (number_asm _ _).mono ?_); rintro e w' ⟨rfl, m1, rfl⟩))
    refine bodyPost_ret (v := .tuple #[.agg #[.int .i64 (numI s.data.toList), .string (S [])], .bool (numL s.data.toList).isSome]) ?_ rfl ⟨rfl, ?_⟩
    · rw [results_cell_tmp rfl]; go_simp; rfl
    · repeat' (first | with_reducible exact Below.refl _ _ | with_reducible apply Below.setCell | with_reducible apply below_drewN | with_reducible apply Below.alloc | (simp; done) | (simp; omega))
def opdV (o : Opds) : Value := .agg #[.int .i64 o.a, .int .i64 o.b, .int .i64 o.c, .int .i64 o.n, .string (S o.l)]
/-- The world while operands are read: what has been read, and the result's own cells. -/
structure OpSt (w wr : World) (o : Opds) : Prop where
  c0 : wr.cell? ⟨w.heap.size + 1, 0, none⟩ = some (.int .i64 o.a)
  c1 : wr.cell? ⟨w.heap.size + 1, 1, none⟩ = some (.int .i64 o.b)
  c2 : wr.cell? ⟨w.heap.size + 1, 2, none⟩ = some (.int .i64 o.c)
  c3 : wr.cell? ⟨w.heap.size + 1, 3, none⟩ = some (.int .i64 o.n)
  c4 : wr.cell? ⟨w.heap.size + 1, 4, none⟩ = some (.string (S o.l))
  r0 : wr.cell? ⟨w.heap.size, 0, none⟩ = some (.int .i64 0)
  r1 : wr.cell? ⟨w.heap.size, 1, none⟩ = some (.int .i64 0)
  r2 : wr.cell? ⟨w.heap.size, 2, none⟩ = some (.int .i64 0)
  r3 : wr.cell? ⟨w.heap.size, 3, none⟩ = some (.int .i64 0)
  r4 : wr.cell? ⟨w.heap.size, 4, none⟩ = some (.string (S []))
  z : ∀ i : Nat, wr.frozen? ⟨w.heap.size + 1, i, none⟩ = false
  y : ∀ i : Nat, wr.frozen? ⟨w.heap.size, i, none⟩ = false
  bel : Below w.heap.size w wr
  lt : w.heap.size + 1 < wr.heap.size
theorem OpSt.on {w wr w' : World} {o : Opds} (h : OpSt w wr o) (hb : Below wr.heap.size wr w') : OpSt w w' o where
  c0 := still h.c0 hb
  c1 := still h.c1 hb
  c2 := still h.c2 hb
  c3 := still h.c3 hb
  c4 := still h.c4 hb
  r0 := still h.r0 hb
  r1 := still h.r1 hb
  r2 := still h.r2 hb
  r3 := still h.r3 hb
  r4 := still h.r4 hb
  z := fun i => by rw [hb.frozen h.lt]; exact h.z i
  y := fun i => by rw [hb.frozen (show w.heap.size < _ by have := h.lt; omega)]; exact h.y i
  bel := below_step h.bel hb
  lt := by have := hb.size; have := h.lt; omega
theorem OpSt.drewN {w wr : World} {o : Opds} (h : OpSt w wr o) (n : Nat) : OpSt w (wr.drewN n) o := h.on (drewN_below _ _)
theorem OpSt.setA {w wr : World} {o : Opds} (h : OpSt w wr o) (x : Int) : OpSt w (wr.setCell ⟨w.heap.size + 1, 0, none⟩ (.int .i64 x)) { o with a := x } where
  c0 := by simp [go_sem, h.c0]
  c1 := by simp [go_sem, h.c1]
  c2 := by simp [go_sem, h.c2]
  c3 := by simp [go_sem, h.c3]
  c4 := by simp [go_sem, h.c4]
  r0 := by simp [go_sem, h.r0]
  r1 := by simp [go_sem, h.r1]
  r2 := by simp [go_sem, h.r2]
  r3 := by simp [go_sem, h.r3]
  r4 := by simp [go_sem, h.r4]
  z := fun i => by simp [go_sem, h.z]
  y := fun i => by simp [go_sem, h.y]
  bel := h.bel.setCell (by simp) _
  lt := by simpa using h.lt
theorem OpSt.setB {w wr : World} {o : Opds} (h : OpSt w wr o) (x : Int) : OpSt w (wr.setCell ⟨w.heap.size + 1, 1, none⟩ (.int .i64 x)) { o with b := x } where
  c0 := by simp [go_sem, h.c0]
  c1 := by simp [go_sem, h.c1]
  c2 := by simp [go_sem, h.c2]
  c3 := by simp [go_sem, h.c3]
  c4 := by simp [go_sem, h.c4]
  r0 := by simp [go_sem, h.r0]
  r1 := by simp [go_sem, h.r1]
  r2 := by simp [go_sem, h.r2]
  r3 := by simp [go_sem, h.r3]
  r4 := by simp [go_sem, h.r4]
  z := fun i => by simp [go_sem, h.z]
  y := fun i => by simp [go_sem, h.y]
  bel := h.bel.setCell (by simp) _
  lt := by simpa using h.lt
theorem OpSt.setC {w wr : World} {o : Opds} (h : OpSt w wr o) (x : Int) : OpSt w (wr.setCell ⟨w.heap.size + 1, 2, none⟩ (.int .i64 x)) { o with c := x } where
  c0 := by simp [go_sem, h.c0]
  c1 := by simp [go_sem, h.c1]
  c2 := by simp [go_sem, h.c2]
  c3 := by simp [go_sem, h.c3]
  c4 := by simp [go_sem, h.c4]
  r0 := by simp [go_sem, h.r0]
  r1 := by simp [go_sem, h.r1]
  r2 := by simp [go_sem, h.r2]
  r3 := by simp [go_sem, h.r3]
  r4 := by simp [go_sem, h.r4]
  z := fun i => by simp [go_sem, h.z]
  y := fun i => by simp [go_sem, h.y]
  bel := h.bel.setCell (by simp) _
  lt := by simpa using h.lt
theorem OpSt.setN {w wr : World} {o : Opds} (h : OpSt w wr o) (x : Int) : OpSt w (wr.setCell ⟨w.heap.size + 1, 3, none⟩ (.int .i64 x)) { o with n := x } where
  c0 := by simp [go_sem, h.c0]
  c1 := by simp [go_sem, h.c1]
  c2 := by simp [go_sem, h.c2]
  c3 := by simp [go_sem, h.c3]
  c4 := by simp [go_sem, h.c4]
  r0 := by simp [go_sem, h.r0]
  r1 := by simp [go_sem, h.r1]
  r2 := by simp [go_sem, h.r2]
  r3 := by simp [go_sem, h.r3]
  r4 := by simp [go_sem, h.r4]
  z := fun i => by simp [go_sem, h.z]
  y := fun i => by simp [go_sem, h.y]
  bel := h.bel.setCell (by simp) _
  lt := by simpa using h.lt
theorem OpSt.setL {w wr : World} {o : Opds} (h : OpSt w wr o) (x : Bs) : OpSt w (wr.setCell ⟨w.heap.size + 1, 4, none⟩ (.string (S x))) { o with l := x } where
  c0 := by simp [go_sem, h.c0]
  c1 := by simp [go_sem, h.c1]
  c2 := by simp [go_sem, h.c2]
  c3 := by simp [go_sem, h.c3]
  c4 := by simp [go_sem, h.c4]
  r0 := by simp [go_sem, h.r0]
  r1 := by simp [go_sem, h.r1]
  r2 := by simp [go_sem, h.r2]
  r3 := by simp [go_sem, h.r3]
  r4 := by simp [go_sem, h.r4]
  z := fun i => by simp [go_sem, h.z]
  y := fun i => by simp [go_sem, h.y]
  bel := h.bel.setCell (by simp) _
  lt := by simpa using h.lt
theorem reg_yes (t : Bs) (r : Nat) (w : World) (h : regL t = some r) : Calls Tryd.prog 61 #[.string (S t)] w fun e w' => e = .returned (.tuple #[.int .i64 r, .bool true]) ∧ w = w' := by
  have := reg_asm (S t) w
  rw [S_list] at this
  unfold regI at this
  rw [h] at this
  exact this
theorem reg_no (t : Bs) (w : World) (h : regL t = none) : Calls Tryd.prog 61 #[.string (S t)] w fun e w' => e = .returned (.tuple #[.int .i64 0, .bool false]) ∧ w = w' := by
  have := reg_asm (S t) w
  rw [S_list] at this
  unfold regI at this
  rw [h] at this
  exact this
theorem num_yes (t : Bs) (n : Int) (w : World) (h : numL t = some n) : Calls Tryd.prog 66 #[.string (S t)] w fun e w' => e = .returned (.tuple #[.int .i64 n, .bool true]) ∧ ∃ m, w' = w.drewN m := by
  have := number_asm (S t) w
  rw [S_list] at this
  unfold numI at this
  rw [h] at this
  exact this
theorem num_no (t : Bs) (w : World) (h : numL t = none) : Calls Tryd.prog 66 #[.string (S t)] w fun e w' => e = .returned (.tuple #[.int .i64 0, .bool false]) ∧ ∃ m, w' = w.drewN m := by
  have := number_asm (S t) w
  rw [S_list] at this
  unfold numI at this
  rw [h] at this
  exact this
theorem S_pos {t : Bs} (h : t ≠ []) : 0 < (S t).size := by
  rw [S_size]; exact List.length_pos_iff.2 h
theorem val_yes (t : Bs) (n : Int) (l : Bs) (w : World) (h : valL t = some (n, l)) (h0 : t ≠ []) : Calls Tryd.prog 67 #[.string (S t)] w fun e w' => e = .returned (.tuple #[.agg #[.int .i64 n, .string (S l)], .bool true]) ∧ Below w.heap.size w w' := by
  have := value_asm (S t) w (S_pos h0)
  rw [S_list] at this
  unfold valN valS at this
  rw [h] at this
  exact this
theorem val_no (t : Bs) (w : World) (h : valL t = none) (h0 : t ≠ []) : Calls Tryd.prog 67 #[.string (S t)] w fun e w' => e = .returned (.tuple #[.agg #[.int .i64 0, .string (S [])], .bool false]) ∧ Below w.heap.size w w' := by
  have := value_asm (S t) w (S_pos h0)
  rw [S_list] at this
  unfold valN valS at this
  rw [h] at this
  exact this
def opsRet : Option Opds → Ending
  | some o => .returned (.tuple #[opdV o, .bool true])
  | none => .returned (.tuple #[opdV .zero, .bool false])
theorem opStep_a {c : UInt8} {t : Bs} {o : Opds} (h : c.toNat = 65) : opStep c t o = (match regL t with | some r => some { o with a := (r : Int) } | none => none) := by
  obtain rfl : c = 65 := UInt8.toNat_inj.1 h
  rfl
theorem opStep_b {c : UInt8} {t : Bs} {o : Opds} (h : c.toNat = 66) : opStep c t o = (match regL t with | some r => some { o with b := (r : Int) } | none => none) := by
  obtain rfl : c = 66 := UInt8.toNat_inj.1 h
  rfl
theorem opStep_c {c : UInt8} {t : Bs} {o : Opds} (h : c.toNat = 67) : opStep c t o = (match regL t with | some r => some { o with c := (r : Int) } | none => none) := by
  obtain rfl : c = 67 := UInt8.toNat_inj.1 h
  rfl
theorem opStep_n {c : UInt8} {t : Bs} {o : Opds} (h : c.toNat = 78) : opStep c t o = (match numL t with | some n => some { o with n := n } | none => none) := by
  obtain rfl : c = 78 := UInt8.toNat_inj.1 h
  rfl
theorem opStep_x {c : UInt8} {t : Bs} {o : Opds} (h : c.toNat = 88) : opStep c t o = (match valL t with | some v => some { o with n := v.1, l := v.2 } | none => none) := by
  obtain rfl : c = 88 := UInt8.toNat_inj.1 h
  rfl
theorem opStep_o {c : UInt8} {t : Bs} {o : Opds} (h1 : ¬ c.toNat = 65) (h2 : ¬ c.toNat = 66) (h3 : ¬ c.toNat = 67) (h4 : ¬ c.toNat = 78) (h5 : ¬ c.toNat = 88) : opStep c t o = if t = [c] then some o else none := by
  have f : ∀ n : UInt8, ¬ c.toNat = n.toNat → ¬ c = n := fun n h e => h (by rw [e])
  unfold opStep
  rw [if_neg (f 65 h1), if_neg (f 66 h2), if_neg (f 67 h3), if_neg (f 78 h4), if_neg (f 88 h5)]
theorem get_list {p : ByteArray} {k : Nat} (h : k < p.size) : p.data.toList[k]'(by rw [len_size]; exact h) = p[k] := rfl
theorem ops_next {p : ByteArray} {ts : List Bs} {k : Nat} {t : Bs} {o o' : Opds} (hk : k < p.size) (hk2 : k < ts.length) (ht : ts[k] = t) (hg : Hid (opsGo (p.data.toList.take k) (ts.take k) .zero = some o)) (hst : Hid (opStep p[k] t o = some o')) :
    Hid (opsGo (p.data.toList.take (k + 1)) (ts.take (k + 1)) .zero = some o') := by
  refine Lib.hid ?_
  rw [opsGo_snoc _ _ _ k (by rw [len_size]; exact hk) hk2, hg.out, get_list hk, ht]
  exact hst.out
theorem ops_fail {p : ByteArray} {ts : List Bs} {k : Nat} {t : Bs} {o : Opds} (hk : k < p.size) (hk2 : k < ts.length) (ht : ts[k] = t) (hg : Hid (opsGo (p.data.toList.take k) (ts.take k) .zero = some o)) (hst : Hid (opStep p[k] t o = none)) :
    opsL p.data.toList ts = none := by
  have h : opsGo (p.data.toList.take (k + 1)) (ts.take (k + 1)) .zero = none := by
    rw [opsGo_snoc _ _ _ k (by rw [len_size]; exact hk) hk2, hg.out, get_list hk, ht]
    exact hst.out
  unfold opsL
  split
  · exact opsGo_none _ _ _ _ h
  · rfl
theorem ops_done {p : ByteArray} {ts : List Bs} {k : Nat} {o : Opds} (hl : ts.length = p.size) (hk : ¬ k < ts.length) (hg : Hid (opsGo (p.data.toList.take k) (ts.take k) .zero = some o)) : opsL p.data.toList ts = some o := by
  have := hg.out
  rw [List.take_of_length_le (by rw [len_size]; omega), List.take_of_length_le (by omega)] at this
  unfold opsL
  rw [if_pos (by rw [len_size]; exact hl)]
  exact this
theorem one_eq {p : ByteArray} {k : Nat} (hk : k < p.size) (t : Bs) : ((S t).toList == (p.extract k (k + 1)).toList) = decide (t = [p[k]]) := by
  have e : (p.extract k (k + 1)).data.toList = [p[k]] := by
    rw [ByteArray.data_extract, Array.toList_extract, List.extract_eq_take_drop]
    rw [show k + 1 - k = 1 by omega, List.drop_eq_getElem_cons (by rw [len_size]; exact hk)]
    simp [get_list hk]
  rw [toL, toL, S_list, e, Bool.eq_iff_iff]
  simp
theorem slice_one (p : ByteArray) (k : Nat) (h : k < p.size) (wx : World) :
    (Instr.slice 9 (.string p) (some (.int .i64 (k : Int))) (some (.int .i64 ((k : Int) + 1))) none).run Tryd.prog wx = .ok (.string (p.extract k (k + 1))) wx :=
  run_slice_string wx 9 p .i64 .i64 (k : Int) ((k : Int) + 1) Tryd.underlying9 (by omega) (by omega) (by omega)
set_option maxRecDepth 100000 in
set_option maxHeartbeats 8000000 in
theorem operands_asm (p : ByteArray) (b off cap : Nat) (ts : List Bs) (w : World) (hc : ∀ j (h : j < ts.length), w.cell? ⟨b, off + j, none⟩ = some (.string (S ts[j]))) (hne : ∀ t ∈ ts, t ≠ []) (hmax : ts.length ≤ 1000000) (hp : p.size ≤ 1000000) :
    Calls Tryd.prog 56 #[.string p, .slice (some ⟨b, off, none⟩) ts.length cap] w fun e w' => e = opsRet (opsL p.data.toList ts) ∧ Below w.heap.size w w' := by
  by_cases hl : ts.length = p.size
  · have HL := Lib.hid hl
    have HC := Lib.hid hc
    have HN := Lib.hid hne
    have hlI : ((ts.length : Int) != (p.size : Int)) = false := by rw [hl]; simp
    clear hl hc hne
    go_enter Tryd.func56, Tryd.ntmps56
    go_wp2
    clear hlI
    go_loopw [18] (fun i wr => ∃ (k : Nat) (o : Opds), k ≤ ts.length ∧ i = .int .i64 k ∧ Hid (opsGo (p.data.toList.take k) (ts.take k) .zero = some o) ∧ OpSt w wr o) (fun i _ => ts.length - (intOf i).toNat)
    case atStart => exact ⟨0, .zero, by omega, rfl, Lib.hid (by simp [opsGo]), by
      constructor <;> first | (intro i; simp [go_sem]; done) | (simp [go_sem, Opds.zero, S]; done) | (repeat' (first | with_reducible exact Below.refl _ _ | with_reducible apply Below.alloc | (simp; done) | (simp; omega)))⟩
    case round =>
      obtain ⟨k, o, hk, rfl, hg, hO⟩ := hrel
      have c0 := hO.c0; have c1 := hO.c1; have c2 := hO.c2; have c3 := hO.c3; have c4 := hO.c4; have r0 := hO.r0; have r1 := hO.r1; have r2 := hO.r2; have r3 := hO.r3; have r4 := hO.r4; have z0 := hO.z 0; have z1 := hO.z 1; have z2 := hO.z 2; have z3 := hO.z 3; have z4 := hO.z 4; have y0 := hO.y 0; have y1 := hO.y 1; have y2 := hO.y 2; have y3 := hO.y 3; have y4 := hO.y 4
      by_cases hk2 : k < ts.length
      · have hkp : k < p.size := by have := HL.out; omega
        have hkI : (k : Int) < p.size := by omega
        obtain ⟨t, ht⟩ : ∃ t, ts[k] = t := ⟨_, rfl⟩
        have h0 : t ≠ [] := HN.out t (ht ▸ List.getElem_mem hk2)
        have hck := still (HC.out k hk2) hO.bel
        rw [ht] at hck
        have hnx := Lib.hid h0
        clear h0
        replace ht := Lib.hid ht
        by_cases hx : p[k].toNat = 65
        · have hxI : (p[k].toNat : Int) = 65 := by omega
          cases hr : regL t with
          | some r =>
            have hst := Lib.hid (show opStep p[k] t o = some { o with a := (r : Int) } by rw [opStep_a hx, hr])
            clear hx
            go_wp2_with (go_at_call 61; (with_reducible refine (reg_yes t r _ hr).mono ?_); rintro e w' ⟨rfl, rfl⟩)
            go_roundw
            case rel => exact ⟨k + 1, _, by omega, by go_num, ops_next hkp hk2 ht.out hg hst, hO.setA _⟩
            case measure => simp [intOf]; omega
          | none =>
            have hF := Lib.hid (ops_fail hkp hk2 ht.out hg (Lib.hid (show opStep p[k] t o = none by rw [opStep_a hx, hr])))
            clear hx
            go_wp2_with (go_at_call 61; (with_reducible refine (reg_no t _ hr).mono ?_); rintro e w' ⟨rfl, rfl⟩)
            refine bodyPost_ret (v := .tuple #[opdV .zero, .bool false]) ?_ rfl ⟨by rw [hF.out]; rfl, ?_⟩
            · rw [results_cell_tmp rfl]; unfold opdV; go_simp <;> first | rfl | exact ⟨rfl, rfl, rfl, rfl, rfl⟩
            · repeat' (first | with_reducible exact hO.bel | with_reducible apply Below.setCell | with_reducible apply below_drewN | (simp; done) | (simp; omega))
        have x1 := hx
        have xI1 : ¬ (p[k].toNat : Int) = 65 := by omega
        clear hx
        by_cases hx : p[k].toNat = 66
        · have hxI : (p[k].toNat : Int) = 66 := by omega
          cases hr : regL t with
          | some r =>
            have hst := Lib.hid (show opStep p[k] t o = some { o with b := (r : Int) } by rw [opStep_b hx, hr])
            clear hx
            go_wp2_with (go_at_call 61; (with_reducible refine (reg_yes t r _ hr).mono ?_); rintro e w' ⟨rfl, rfl⟩)
            go_roundw
            case rel => exact ⟨k + 1, _, by omega, by go_num, ops_next hkp hk2 ht.out hg hst, hO.setB _⟩
            case measure => simp [intOf]; omega
          | none =>
            have hF := Lib.hid (ops_fail hkp hk2 ht.out hg (Lib.hid (show opStep p[k] t o = none by rw [opStep_b hx, hr])))
            clear hx
            go_wp2_with (go_at_call 61; (with_reducible refine (reg_no t _ hr).mono ?_); rintro e w' ⟨rfl, rfl⟩)
            refine bodyPost_ret (v := .tuple #[opdV .zero, .bool false]) ?_ rfl ⟨by rw [hF.out]; rfl, ?_⟩
            · rw [results_cell_tmp rfl]; unfold opdV; go_simp <;> first | rfl | exact ⟨rfl, rfl, rfl, rfl, rfl⟩
            · repeat' (first | with_reducible exact hO.bel | with_reducible apply Below.setCell | with_reducible apply below_drewN | (simp; done) | (simp; omega))
        have x2 := hx
        have xI2 : ¬ (p[k].toNat : Int) = 66 := by omega
        clear hx
        by_cases hx : p[k].toNat = 67
        · have hxI : (p[k].toNat : Int) = 67 := by omega
          cases hr : regL t with
          | some r =>
            have hst := Lib.hid (show opStep p[k] t o = some { o with c := (r : Int) } by rw [opStep_c hx, hr])
            clear hx
            go_wp2_with (go_at_call 61; (with_reducible refine (reg_yes t r _ hr).mono ?_); rintro e w' ⟨rfl, rfl⟩)
            go_roundw
            case rel => exact ⟨k + 1, _, by omega, by go_num, ops_next hkp hk2 ht.out hg hst, hO.setC _⟩
            case measure => simp [intOf]; omega
          | none =>
            have hF := Lib.hid (ops_fail hkp hk2 ht.out hg (Lib.hid (show opStep p[k] t o = none by rw [opStep_c hx, hr])))
            clear hx
            go_wp2_with (go_at_call 61; (with_reducible refine (reg_no t _ hr).mono ?_); rintro e w' ⟨rfl, rfl⟩)
            refine bodyPost_ret (v := .tuple #[opdV .zero, .bool false]) ?_ rfl ⟨by rw [hF.out]; rfl, ?_⟩
            · rw [results_cell_tmp rfl]; unfold opdV; go_simp <;> first | rfl | exact ⟨rfl, rfl, rfl, rfl, rfl⟩
            · repeat' (first | with_reducible exact hO.bel | with_reducible apply Below.setCell | with_reducible apply below_drewN | (simp; done) | (simp; omega))
        have x3 := hx
        have xI3 : ¬ (p[k].toNat : Int) = 67 := by omega
        clear hx
        by_cases hx : p[k].toNat = 78
        · have hxI : (p[k].toNat : Int) = 78 := by omega
          cases hr : numL t with
          | some r =>
            have hst := Lib.hid (show opStep p[k] t o = some { o with n := r } by rw [opStep_n hx, hr])
            clear hx
            go_wp2_with (go_at_call 66; (with_reducible refine (num_yes t r _ hr).mono ?_); rintro e w' ⟨rfl, m1, rfl⟩)
            go_roundw
            case rel => exact ⟨k + 1, _, by omega, by go_num, ops_next hkp hk2 ht.out hg hst, (hO.drewN m1).setN _⟩
            case measure => simp [intOf]; omega
          | none =>
            have hF := Lib.hid (ops_fail hkp hk2 ht.out hg (Lib.hid (show opStep p[k] t o = none by rw [opStep_n hx, hr])))
            clear hx
            go_wp2_with (go_at_call 66; (with_reducible refine (num_no t _ hr).mono ?_); rintro e w' ⟨rfl, m1, rfl⟩)
            refine bodyPost_ret (v := .tuple #[opdV .zero, .bool false]) ?_ rfl ⟨by rw [hF.out]; rfl, ?_⟩
            · rw [results_cell_tmp rfl]; unfold opdV; go_simp <;> first | rfl | exact ⟨rfl, rfl, rfl, rfl, rfl⟩
            · repeat' (first | with_reducible exact hO.bel | with_reducible apply Below.setCell | with_reducible apply below_drewN | (simp; done) | (simp; omega))
        have x4 := hx
        have xI4 : ¬ (p[k].toNat : Int) = 78 := by omega
        clear hx
        by_cases hx : p[k].toNat = 88
        · have hxI : (p[k].toNat : Int) = 88 := by omega
          clear c0 c1 c2 c3 c4 r0 r1 r2 r3 r4 z0 z1 z2 z3 z4 y0 y1 y2 y3 y4
          cases hr : valL t with
          | some r =>
            obtain ⟨v, l⟩ := r
            have hst := Lib.hid (show opStep p[k] t o = some { o with n := v, l := l } by rw [opStep_x hx, hr])
            clear hx
            go_wp2_with (go_at_call 67; (with_reducible refine (val_yes t v l _ hr hnx.out).mono ?_); rintro e w' ⟨rfl, hb1⟩; have hP := hO.on hb1; have c0 := hP.c0; have c1 := hP.c1; have c2 := hP.c2; have c3 := hP.c3; have c4 := hP.c4; have r0 := hP.r0; have r1 := hP.r1; have r2 := hP.r2; have r3 := hP.r3; have r4 := hP.r4; have z3 := hP.z 3; have z4 := hP.z 4; have y0 := hP.y 0; have y1 := hP.y 1; have y2 := hP.y 2; have y3 := hP.y 3; have y4 := hP.y 4)
            go_roundw
            case rel => exact ⟨k + 1, _, by omega, by go_num, ops_next hkp hk2 ht.out hg hst, (hP.setN _).setL _⟩
            case measure => simp [intOf]; omega
          | none =>
            have hF := Lib.hid (ops_fail hkp hk2 ht.out hg (Lib.hid (show opStep p[k] t o = none by rw [opStep_x hx, hr])))
            clear hx
            go_wp2_with (go_at_call 67; (with_reducible refine (val_no t _ hr hnx.out).mono ?_); rintro e w' ⟨rfl, hb1⟩; have hP := hO.on hb1; have c0 := hP.c0; have c1 := hP.c1; have c2 := hP.c2; have c3 := hP.c3; have c4 := hP.c4; have r0 := hP.r0; have r1 := hP.r1; have r2 := hP.r2; have r3 := hP.r3; have r4 := hP.r4; have z3 := hP.z 3; have z4 := hP.z 4; have y0 := hP.y 0; have y1 := hP.y 1; have y2 := hP.y 2; have y3 := hP.y 3; have y4 := hP.y 4)
            refine bodyPost_ret (v := .tuple #[opdV .zero, .bool false]) ?_ rfl ⟨by rw [hF.out]; rfl, ?_⟩
            · rw [results_cell_tmp rfl]; unfold opdV; go_simp <;> first | rfl | exact ⟨rfl, rfl, rfl, rfl, rfl⟩
            · repeat' (first | with_reducible exact hP.bel | with_reducible apply Below.setCell | with_reducible apply below_drewN | (simp; done) | (simp; omega))
        have x5 := hx
        have xI5 : ¬ (p[k].toNat : Int) = 88 := by omega
        clear hx
        have e1 := one_eq hkp t
        by_cases hq : t = [p[k]]
        · have hst := Lib.hid (show opStep p[k] t o = some o by rw [opStep_o x1 x2 x3 x4 x5, if_pos hq])
          have e2 : ((S t).toList == (p.extract k (k + 1)).toList) = true := by rw [e1]; simpa using hq
          clear e1 hq x1 x2 x3 x4 x5
          have hsl := slice_one p k hkp
          go_wp2
          go_roundw
          case rel => exact ⟨k + 1, _, by omega, by go_num, ops_next hkp hk2 ht.out hg hst, hO⟩
          case measure => simp [intOf]; omega
        · have hF := Lib.hid (ops_fail hkp hk2 ht.out hg (Lib.hid (show opStep p[k] t o = none by rw [opStep_o x1 x2 x3 x4 x5, if_neg hq])))
          have e2 : ((S t).toList == (p.extract k (k + 1)).toList) = false := by rw [e1]; simpa using hq
          clear e1 hq x1 x2 x3 x4 x5
          have hsl := slice_one p k hkp
          go_wp2
          refine bodyPost_ret (v := .tuple #[opdV .zero, .bool false]) ?_ rfl ⟨by rw [hF.out]; rfl, ?_⟩
          · rw [results_cell_tmp rfl]; unfold opdV; go_simp <;> first | rfl | exact ⟨rfl, rfl, rfl, rfl, rfl⟩
          · repeat' (first | with_reducible exact hO.bel | with_reducible apply Below.setCell | with_reducible apply below_drewN | (simp; done) | (simp; omega))
      · have hF := Lib.hid (ops_done HL.out hk2 hg)
        go_wp2
        refine bodyPost_ret (v := .tuple #[opdV o, .bool true]) ?_ rfl ⟨by rw [hF.out]; rfl, ?_⟩
        · rw [results_cell_tmp rfl]; unfold opdV; go_simp <;> first | rfl | exact ⟨rfl, rfl, rfl, rfl, rfl⟩
        · repeat' (first | with_reducible exact hO.bel | with_reducible apply Below.setCell | with_reducible apply below_drewN | (simp; done) | (simp; omega))
  · have hF : opsL p.data.toList ts = none := by unfold opsL; rw [if_neg (by rw [len_size]; exact hl)]
    rw [hF]
    have hlI : ((ts.length : Int) != (p.size : Int)) = true := by simp; omega
    clear hl hF
    go_enter Tryd.func56, Tryd.ntmps56
    go_wp2
    refine bodyPost_ret (v := .tuple #[opdV .zero, .bool false]) ?_ rfl ⟨rfl, ?_⟩
    · rw [results_cell_tmp rfl]; unfold opdV; go_simp <;> first | rfl | exact ⟨rfl, rfl, rfl, rfl, rfl⟩
    · repeat' (first | with_reducible exact Below.refl _ _ | with_reducible apply Below.setCell | with_reducible apply Below.alloc | (simp; done) | (simp; omega))
end Go.Proofs.YthghbcjaokpilaaDoor
