import Derived.Test.YtfnfbdjbdbifaaaDoorCpSem
import Derived.Test.YtfnfbdjbdbifaaaDoorCpBox
import Derived.Test.YtfnfbdjbdbifaaaDoorCpFn3
import Derived.Test.YtfnfbdjbdbifaaaDoorPgRef
import Derived.Test.YtfnfbdjbdbifaaaDoorCpRes
import Derived.Test.YtfnfbdjbdbifaaaDoorCpGb
namespace Go.Proofs.YtfnfbdjbdbifaaaDoor
set_option linter.unusedVariables false
set_option linter.unusedSimpArgs false
open Go.ChangeShapes Go.WideShapes Go.ChangeAt Go.RowKit Go.Proofs.YtfnfbdjbdbifaaaDoor.Num Go.Proofs.YtfnfbdjbdbifaaaDoor.Mem
/- A memory of the call's own that callees change: what else stands. -/
/-- Every block stands but g (which may change if p). -/
structure Keep (p : Prop) (g : Nat) (w w' : World) : Prop where
  os : w'.os = w.os
  tape : w'.tape = w.tape
  output : w'.output = w.output
  size : w.heap.size ≤ w'.heap.size
  block : ∀ k, k < w.heap.size → ¬ (p ∧ k = g) → lk w' k = lk w k
theorem Keep.refl (p : Prop) (g : Nat) (w : World) : Keep p g w w := ⟨rfl, rfl, rfl, Nat.le_refl _, fun _ _ _ => rfl⟩
theorem Keep.drewN (p : Prop) (g : Nat) (w : World) (m : Nat) : Keep p g w (w.drewN m) := by
  have h := below_drewN (Below.refl w.heap.size w) m
  exact ⟨h.os, h.tape, h.output, h.size, fun k hk _ => h.block k hk⟩
theorem Keep.of {p : Prop} {g : Nat} {w w' : World} (h : Below w.heap.size w w') : Keep p g w w' := ⟨h.os, h.tape, h.output, h.size, fun k hk _ => h.block k hk⟩
theorem Keep.trans {p : Prop} {g : Nat} {a b c : World} (h : Keep p g a b) (k : Keep p g b c) : Keep p g a c :=
  ⟨k.os.trans h.os, k.tape.trans h.tape, k.output.trans h.output, Nat.le_trans h.size k.size, fun i hi hn => (k.block i (Nat.lt_of_lt_of_le hi h.size) hn).trans (h.block i hi hn)⟩
theorem Keep.setCell {p : Prop} {g : Nat} {a w : World} (h : Keep p g a w) (hp : p) (i : Nat) (v : Value) : Keep p g a (w.setCell ⟨g, i, none⟩ v) := by
  have h2 := (Below.refl g w).setCell (p := ⟨g, i, none⟩) (Nat.le_refl _) v
  refine ⟨h2.os.trans h.os, h2.tape.trans h.tape, h2.output.trans h.output, Nat.le_trans h.size h2.size, fun k hk hn => ?_⟩
  rw [← h.block k hk hn]
  rw [look_setCell, if_neg (fun e => hn ⟨hp, e.symm⟩)]
theorem Keep.below {p : Prop} {g B : Nat} {w w' : World} (h : Keep p g w w') (hB : B ≤ w.heap.size) (hg : p → B ≤ g) : Below B w w' :=
  ⟨h.os, h.tape, h.output, h.size, fun k hk => h.block k (Nat.lt_of_lt_of_le hk hB) (fun ⟨hp, e⟩ => by have := hg hp; omega)⟩
theorem look_kp {p : Prop} {g k : Nat} {w w' : World} {o : Obj} (h : lk w k = some o) (hk : Keep p g w w') (hn : ¬ (p ∧ k = g)) : lk w' k = some o := by
  have hlt : k < w.heap.size := by
    unfold lk at h
    exact (Array.getElem?_eq_some_iff.1 h).1
  rw [hk.block k hlt hn]; exact h
/-- A memory of the call's own: the slice A (n words) is the block g. -/
def Out (w : World) (A : Option Addr) (n c : Nat) (l : List Int) (g : Nat) : Prop := Mem w A n c l ∧ (0 < n → A = some ⟨g, 0, none⟩ ∧ Own w g l)
theorem Out.lt {w : World} {A : Option Addr} {n c g : Nat} {l : List Int} (h : Out w A n c l g) : 0 < n → g < w.heap.size := fun hn => (h.2 hn).2.lt
theorem Out.on {w w' : World} {A : Option Addr} {n c g : Nat} {l : List Int} (h : Out w A n c l g) (hb : Below w.heap.size w w') : Out w' A n c l g := ⟨h.1.on hb, fun hn => ⟨(h.2 hn).1, (h.2 hn).2.on hb⟩⟩
theorem Out.of {w : World} {A : Option Addr} {n c g : Nat} {l : List Int} (hl : l.length = n) (hc : n ≤ c) (hn : n ≤ 1024) (hu : U32 l) (hz : 0 < n) (hA : A = some ⟨g, 0, none⟩) (ho : Own w g l) : Out w A n c l g := ⟨by rw [hA]; exact ho.mem hl hc hn hu, fun _ => ⟨hA, ho⟩⟩
set_option maxHeartbeats 1000000 in
theorem mark_yes2 (g n c k : Nat) (l : List Int) (e a : Int) (w : World) (hg : Own w g l) (hl : l.length = n) (hn : n ≤ 1024) (hu : U32 l) (e0 : 0 ≤ e) (e1 : e ≤ 4294967295) (ho : okB n e 4 = true) (hk : e / 4 = k) :
    Calls Tryd.prog 82 #[.slice (some ⟨g, 0, none⟩) n c, .int .u32 e, .int .i64 a] w fun e' w' => e' = .returned (.tuple #[]) ∧ Own w' g (l.set k (orW (wd l k) (tcF a))) ∧ Keep (0 < n) g w w' := by
  have HA := Lib.hid (fun W => within_any (some ⟨g, 0, none⟩) n c e 4 W hn e0 e1)
  rw [ho] at HA
  obtain ⟨hs, ha, hp, hi⟩ := okB_true ho
  have hkn : k < n := by omega
  have hcell := hg.cell (i := k) (by omega)
  have hfree := hg.free k
  have hx := wd_bd hu k
  have HG := Lib.hid hg
  have HKL : Hid (k < l.length) := by show k < _; omega
  have HT : Hid (∀ x, wd l k = x → ∀ v, v = orW x (tcF a) → l.set k (orW (wd l k) (tcF a)) = l.set k v) := fun x h1 v h2 => by rw [h1, h2]
  have hp0 : 0 < n := by omega
  generalize hxx : wd l k = x at hcell hx
  replace HT := Lib.hid (HT.out x hxx)
  have o1 := or_is x 8 hx.1 hx.2 (by omega)
  replace o1 : bits .or .u32 x 8 = orW x 8 := o1
  have o8 := orW_bd x 8 hx.1 hx.2 (by omega)
  have o2 := or_is (orW x 8) 16 o8.1 o8.2 (by omega)
  replace o2 : bits .or .u32 (orW x 8) 16 = orW (orW x 8) 16 := o2
  have T8 : Hid (¬ a = 3 → orW x 8 = orW x (tcF a)) := fun h => by show _ = _; unfold tcF; rw [if_neg h]
  have T24 : Hid (a = 3 → orW (orW x 8) 16 = orW x (tcF a)) := fun h => by show _ = _; unfold tcF; rw [if_pos h, orW_8_16]
  generalize orW (orW x 8) 16 = z24 at *
  generalize orW x 8 = z8 at *
  generalize orW x (tcF a) = z at *
  clear hxx hg hl ho hs ha hi hp HT
  by_cases ha : a = 3
  · have HZ := Lib.hid (T24.out ha)
    subst ha
    go_enter Tryd.func82, Tryd.ntmps82
    go_wp2_with (go_at_call 79; refine (HA.out _).mono ?_; rintro e w2 ⟨rfl, m2, rfl⟩)
    go_end0
    refine ⟨rfl, ?_, ((Keep.drewN _ _ w m2).setCell hp0 _ _).setCell hp0 _ _⟩
    have h1 := ((HG.out.drewN m2).set HKL.out z8).set (i := k) (by rw [List.length_set]; exact HKL.out) z24
    rw [List.set_set] at h1
    rw [← HZ.out]
    exact h1
  · have HZ := Lib.hid (T8.out ha)
    go_enter Tryd.func82, Tryd.ntmps82
    go_wp2_with (go_at_call 79; refine (HA.out _).mono ?_; rintro e w2 ⟨rfl, m2, rfl⟩)
    go_end0
    refine ⟨rfl, ?_, (Keep.drewN _ _ w m2).setCell hp0 _ _⟩
    rw [← HZ.out]
    exact (HG.out.drewN m2).set HKL.out z8
set_option maxHeartbeats 1000000 in
theorem put_ref2 (g n c : Nat) (l : List Int) (a size v : Int) (w : World) (ho : Own w g l) (hl : l.length = n) (hn : n ≤ 1024) (hu : U32 l) (h0 : 0 ≤ a) (h1 : a / 4 < n) (hs : size = 1 ∨ size = 4) (hv : 0 ≤ v) (hv' : v ≤ 4294967295) :
    Calls Tryd.prog 87 #[.slice (some ⟨g, 0, none⟩) n c, .int .u32 a, .int .i64 size, .int .u32 v] w fun e w' => e = .returned (.tuple #[]) ∧ Own w' g (stV l a size v) ∧ Keep (0 < n) g w w' := by
  have hp0 : Hid (0 < n) := Lib.hid (by omega)
  have hi : (a / 4).toNat < l.length := by omega
  have hcell := ho.cell hi
  have hfree := ho.free (a / 4).toNat
  have x0 := wd_bd hu (a / 4).toNat
  have HO := Lib.hid ho
  have HI := Lib.hid hi
  have HL := Lib.hid hl
  have HV : ∀ x, wd l (a / 4).toNat = x → Hid (stV l a size v = l.set (a / 4).toNat (if size = 4 then v else setB x (a % 4).toNat v)) := fun x hx => by rw [← hx]; exact rfl
  generalize hx : wd l (a / 4).toNat = x at hcell x0
  replace HV := HV x hx
  clear hx hi hl ho
  obtain ⟨x0, x1⟩ := x0
  have HR := Lib.hid (ref_byte x v (a % 4).toNat x0 x1 (by omega) hv hv')
  have hm0 : 0 ≤ a % 4 := by omega
  have hm1 : a % 4 ≤ 3 := by omega
  rcases hs with rfl | rfl
  all_goals
    go_enter Tryd.func87, Tryd.ntmps87
    go_wp2
  · go_end0
    have e : (8 * (a % 4)).toNat = 8 * (a % 4).toNat := by omega
    rw [e, HR.out]
    refine ⟨rfl, ?_, (Keep.refl _ _ w).setCell hp0.out _ _⟩
    rw [HV.out, if_neg (by decide)]
    exact HO.out.set HI.out _
  · refine bodyPost_ret (results_none rfl _ _ _) rfl ?_
    refine ⟨rfl, ?_, (Keep.refl _ _ w).setCell hp0.out _ _⟩
    rw [HV.out, if_pos trivial]
    exact HO.out.set HI.out _
theorem mark_out (A : Option Addr) (n c g : Nat) (l : List Int) (e a : Int) (w : World) (hm : Out w A n c l g) (e0 : 0 ≤ e) (e1 : e ≤ 4294967295) :
    Calls Tryd.prog 82 #[.slice A n c, .int .u32 e, .int .i64 a] w fun e' w' => e' = .returned (.tuple #[]) ∧ Out w' A n c (tcL n l e a) g ∧ Keep (0 < n) g w w' := by
  obtain ⟨hl, hc, hn, hu, hr⟩ := hm.1
  by_cases ho : okB n e 4 = true
  · obtain ⟨hs, ha, hp, hi⟩ := okB_true ho
    have hz : 0 < n := by omega
    obtain ⟨rfl, how⟩ := hm.2 hz
    have ek : e / 4 = ((e / 4).toNat : Int) := by omega
    refine (mark_yes2 g n c (e / 4).toNat l e a w how hl hn hu e0 e1 ho ek).mono ?_
    rintro e' w' ⟨rfl, h1, h2⟩
    refine ⟨rfl, ?_, h2⟩
    unfold tcL
    rw [if_pos ho]
    have hx := wd_bd hu (e / 4).toNat
    have hb := orW_bd (wd l (e / 4).toNat) (tcF a) hx.1 hx.2 (by unfold tcF; split <;> omega)
    exact Out.of (by rw [List.length_set]; exact hl) hc hn (hu.set _ hb.1 hb.2) hz rfl h1
  · have ho' : okB n e 4 = false := by simpa using ho
    refine (mark_no A n c e a w hn e0 e1 ho').mono ?_
    rintro e' w' ⟨rfl, m, rfl⟩
    refine ⟨rfl, ?_, Keep.drewN _ _ _ _⟩
    rw [tcL_no ho']
    exact hm.on (below_drewN (Below.refl _ _) m)
theorem put_out (A : Option Addr) (n c g : Nat) (l : List Int) (a size v : Int) (w : World) (hm : Out w A n c l g) (h0 : 0 ≤ a) (ho : okB n a size = true) (hv : 0 ≤ v) (hv' : v ≤ 4294967295) :
    Calls Tryd.prog 87 #[.slice A n c, .int .u32 a, .int .i64 size, .int .u32 v] w fun e' w' => e' = .returned (.tuple #[]) ∧ Out w' A n c (stV l a size v) g ∧ Keep (0 < n) g w w' := by
  obtain ⟨hl, hc, hn, hu, hr⟩ := hm.1
  obtain ⟨hs, ha, hp, hi⟩ := okB_true ho
  have hz : 0 < n := by omega
  obtain ⟨rfl, how⟩ := hm.2 hz
  refine (put_ref2 g n c l a size v w how hl hn hu h0 (by omega) hs hv hv').mono ?_
  rintro e' w' ⟨rfl, h1, h2⟩
  exact ⟨rfl, Out.of (by rw [stV_len]; exact hl) hc hn (stV_u32 hu a size v hv hv' h0) hz rfl h1, h2⟩
end Go.Proofs.YtfnfbdjbdbifaaaDoor

namespace Go.Proofs.YtfnfbdjbdbifaaaDoor
set_option linter.unusedVariables false
set_option linter.unusedSimpArgs false
set_option maxRecDepth 20000
open Go.ChangeShapes Go.WideShapes Go.ChangeAt Go.RowKit Go.Proofs.YtfnfbdjbdbifaaaDoor.Num Go.Proofs.YtfnfbdjbdbifaaaDoor.Mem
/- The reference: an access, marked in a memory of the call's own. -/
def RchPost (n : Nat) (A : Option Addr) (c : Nat) (X C : Int) (l' : List Int) (g : Nat) (w : World) (e : Ending) (w' : World) : Prop :=
  e = .returned (.tuple #[.int .u32 X, .int .i64 C]) ∧ Out w' A n c l' g ∧ Keep (0 < n) g w w'
theorem rch_of {n c g : Nat} {A : Option Addr} {X C : Int} {l : List Int} {w w' : World} {e : Ending} (hm : Out w A n c l g) (he : e = .returned (.tuple #[.int .u32 X, .int .i64 C])) (hb : Below w.heap.size w w') : RchPost n A c X C l g w e w' :=
  ⟨he, hm.on hb, Keep.of hb⟩
theorem reach_bad (L : List Int) (A : Option Addr) (n c g : Nat) (l : List Int) (va size a : Int) (w : World) (hL : C25 L) (hm : Out w A n c l g) (h : ¬ ((a = 1 ∨ a = 2 ∨ a = 3) ∧ (size = 1 ∨ size = 4))) :
    Calls Tryd.prog 53 #[cpV L, .slice A n c, .int .u32 va, .int .i64 size, .int .i64 a] w (RchPost n A c 0 5 l g w) := by
  have HK := Lib.hid (fun W => known_any a W)
  have HM := Lib.hid hm
  by_cases ha : a = 1 ∨ a = 2 ∨ a = 3
  · rw [decide_eq_true ha] at HK
    have z1 : (size != 1) = true := by simp; intro hz; exact h ⟨ha, .inl hz⟩
    have z4 : (size != 4) = true := by simp; intro hz; exact h ⟨ha, .inr hz⟩
    clear ha h hm
    go_enter Tryd.func53, Tryd.ntmps53
    go_wp2_with (first
      | (refine wpList_box_box rfl _ rfl rfl ?_; simp only [Act.put, List.setIfInBounds_toArray, List.set_cons_zero, List.set_cons_succ])
      | (go_at_call 77; refine (HK.out _).mono ?_; rintro e w1 ⟨rfl, rfl⟩))
    refine bodyPost_ret (v := .tuple #[.int .u32 0, .int .i64 5]) (by first | rfl | simp [results, go_sem]) rfl (rch_of HM.out rfl (by (repeat' (first | with_reducible exact Below.refl _ _ | with_reducible assumption | with_reducible apply below_drewN | with_reducible apply Below.drew | with_reducible apply Below.setCell | with_reducible apply Below.alloc | (simp; done) | omega | (simp; omega)))))
  · rw [decide_eq_false ha] at HK
    clear ha h hm
    go_enter Tryd.func53, Tryd.ntmps53
    go_wp2_with (first
      | go_skip
      | (refine wpList_box_box rfl _ rfl rfl ?_; simp only [Act.put, List.setIfInBounds_toArray, List.set_cons_zero, List.set_cons_succ])
      | (go_at_call 77; refine (HK.out _).mono ?_; rintro e w1 ⟨rfl, rfl⟩))
    refine bodyPost_ret (v := .tuple #[.int .u32 0, .int .i64 5]) (by first | rfl | simp [results, go_sem]) rfl (rch_of HM.out rfl (by (repeat' (first | with_reducible exact Below.refl _ _ | with_reducible assumption | with_reducible apply below_drewN | with_reducible apply Below.drew | with_reducible apply Below.setCell | with_reducible apply Below.alloc | (simp; done) | omega | (simp; omega)))))
theorem reach_mis (L : List Int) (A : Option Addr) (n c g : Nat) (l : List Int) (va size a : Int) (w : World) (hL : C25 L) (hm : Out w A n c l g) (v0 : 0 ≤ va) (v1 : va ≤ 4294967295) (ha : a = 1 ∨ a = 2 ∨ a = 3) (hs : size = 1 ∨ size = 4) (hz : ¬ va % size = 0) :
    Calls Tryd.prog 53 #[cpV L, .slice A n c, .int .u32 va, .int .i64 size, .int .i64 a] w (RchPost n A c 0 3 l g w) := by
  have HK := Lib.hid (fun W => known_any a W)
  have HM := Lib.hid hm
  rw [decide_eq_true ha] at HK
  clear ha hm
  rcases hs with rfl | rfl
  · omega
  · go_enter Tryd.func53, Tryd.ntmps53
    go_wp2_with (first
      | (refine wpList_box_box rfl _ rfl rfl ?_; simp only [Act.put, List.setIfInBounds_toArray, List.set_cons_zero, List.set_cons_succ])
      | (go_at_call 77; refine (HK.out _).mono ?_; rintro e w1 ⟨rfl, rfl⟩))
    refine bodyPost_ret (v := .tuple #[.int .u32 0, .int .i64 3]) (by first | rfl | simp [results, go_sem]) rfl (rch_of HM.out rfl (by (repeat' (first | with_reducible exact Below.refl _ _ | with_reducible assumption | with_reducible apply below_drewN | with_reducible apply Below.drew | with_reducible apply Below.setCell | with_reducible apply Below.alloc | (simp; done) | omega | (simp; omega)))))
set_option maxHeartbeats 1000000 in
theorem reach_phys (L : List Int) (A : Option Addr) (n c g : Nat) (l : List Int) (va size a : Int) (w : World) (hL : C25 L) (hm : Out w A n c l g) (v0 : 0 ≤ va) (v1 : va ≤ 4294967295) (ha : a = 1 ∨ a = 2 ∨ a = 3) (hs : size = 1 ∨ size = 4) (hz : va % size = 0) (hp : pgB L = false) (ho : okB n va size = true) :
    Calls Tryd.prog 53 #[cpV L, .slice A n c, .int .u32 va, .int .i64 size, .int .i64 a] w (RchPost n A c va 0 l g w) := by
  have HK := Lib.hid (fun W => known_any a W)
  have HM := Lib.hid hm
  have hn := hm.1.2.2.1
  have HP := Lib.hid (fun W => paged_ref L W hL)
  rw [hp] at HP
  have HWI := Lib.hid (fun W => within_any A n c va size W hn v0 v1)
  rw [ho] at HWI
  rw [decide_eq_true ha] at HK
  have hLL := hL.1
  clear ha hm hp ho
  obtain ⟨F1, F2, F3, -⟩ := cw_facts
  rcases hs with rfl | rfl
  all_goals
    go_enter Tryd.func53, Tryd.ntmps53
    go_wp2_with (first
      | (refine wpList_box_box rfl _ rfl rfl ?_; simp only [Act.put, List.setIfInBounds_toArray, List.set_cons_zero, List.set_cons_succ])
      | (refine wpList_load_look rfl _ rfl _ rfl (fun ob hob => ?_); simp [look_alloc, look_setRow, look_drew, look_drewN, look_setCell, Nat.add_assoc, *] at hob; subst hob; refine ⟨_, rfl, by (first | with_reducible assumption | (simp only [List.length_set]; with_reducible assumption) | exact Z25_len), ?_⟩; simp only [Act.put, List.setIfInBounds_toArray, List.set_cons_zero, List.set_cons_succ])
      | (go_at_call 77; refine (HK.out _).mono ?_; rintro e w1 ⟨rfl, rfl⟩))
    refine (HP.out _).mono ?_
    rintro e w2 ⟨rfl, hb⟩
    have bel : Below w.heap.size w w2 := Below.trans (by (repeat' (first | with_reducible exact Below.refl _ _ | with_reducible assumption | with_reducible apply below_drewN | with_reducible apply Below.drew | with_reducible apply Below.setCell | with_reducible apply Below.alloc | (simp; done) | omega | (simp; omega)))) (hb.mono (by simp))
    clear hb
    go_wp2_with (first
      | (go_at_call 79; refine (HWI.out _).mono ?_; rintro e w3 ⟨rfl, m3, rfl⟩))
    refine bodyPost_ret (v := .tuple #[.int .u32 va, .int .i64 0]) (by first | rfl | simp [results, go_sem]) rfl (rch_of HM.out rfl (by (repeat' (first | with_reducible exact Below.refl _ _ | with_reducible assumption | with_reducible apply below_drewN | with_reducible apply Below.drew | with_reducible apply Below.setCell | with_reducible apply Below.alloc | (simp; done) | omega | (simp; omega)))))
set_option maxHeartbeats 1000000 in
theorem reach_out (L : List Int) (A : Option Addr) (n c g : Nat) (l : List Int) (va size a : Int) (w : World) (hL : C25 L) (hm : Out w A n c l g) (v0 : 0 ≤ va) (v1 : va ≤ 4294967295) (ha : a = 1 ∨ a = 2 ∨ a = 3) (hs : size = 1 ∨ size = 4) (hz : va % size = 0) (hp : pgB L = false) (ho : okB n va size = false) :
    Calls Tryd.prog 53 #[cpV L, .slice A n c, .int .u32 va, .int .i64 size, .int .i64 a] w (RchPost n A c 0 (cauN a) l g w) := by
  have HK := Lib.hid (fun W => known_any a W)
  have HM := Lib.hid hm
  have hn := hm.1.2.2.1
  have HP := Lib.hid (fun W => paged_ref L W hL)
  rw [hp] at HP
  have HC := Lib.hid (fun W => cause_any a W)
  generalize cauN a = C1 at *
  have HWI := Lib.hid (fun W => within_any A n c va size W hn v0 v1)
  rw [ho] at HWI
  rw [decide_eq_true ha] at HK
  have hLL := hL.1
  clear ha hm hp ho
  obtain ⟨F1, F2, F3, -⟩ := cw_facts
  rcases hs with rfl | rfl
  all_goals
    go_enter Tryd.func53, Tryd.ntmps53
    go_wp2_with (first
      | (refine wpList_box_box rfl _ rfl rfl ?_; simp only [Act.put, List.setIfInBounds_toArray, List.set_cons_zero, List.set_cons_succ])
      | (refine wpList_load_look rfl _ rfl _ rfl (fun ob hob => ?_); simp [look_alloc, look_setRow, look_drew, look_drewN, look_setCell, Nat.add_assoc, *] at hob; subst hob; refine ⟨_, rfl, by (first | with_reducible assumption | (simp only [List.length_set]; with_reducible assumption) | exact Z25_len), ?_⟩; simp only [Act.put, List.setIfInBounds_toArray, List.set_cons_zero, List.set_cons_succ])
      | (go_at_call 77; refine (HK.out _).mono ?_; rintro e w1 ⟨rfl, rfl⟩))
    refine (HP.out _).mono ?_
    rintro e w2 ⟨rfl, hb⟩
    have bel : Below w.heap.size w w2 := Below.trans (by (repeat' (first | with_reducible exact Below.refl _ _ | with_reducible assumption | with_reducible apply below_drewN | with_reducible apply Below.drew | with_reducible apply Below.setCell | with_reducible apply Below.alloc | (simp; done) | omega | (simp; omega)))) (hb.mono (by simp))
    clear hb
    go_wp2_with (first
      | (go_at_call 79; refine (HWI.out _).mono ?_; rintro e w3 ⟨rfl, m3, rfl⟩)
      | (go_at_call 80; refine (HC.out _).mono ?_; rintro e w4 ⟨rfl, rfl⟩))
    refine bodyPost_ret (v := .tuple #[.int .u32 0, .int .i64 C1]) (by first | rfl | simp [results, go_sem]) rfl (rch_of HM.out rfl (by (repeat' (first | with_reducible exact Below.refl _ _ | with_reducible assumption | with_reducible apply below_drewN | with_reducible apply Below.drew | with_reducible apply Below.setCell | with_reducible apply Below.alloc | (simp; done) | omega | (simp; omega)))))
set_option maxHeartbeats 1000000 in
theorem reach_no (L : List Int) (A : Option Addr) (n c g : Nat) (l : List Int) (va size a C : Int) (w : World) (hL : C25 L) (hm : Out w A n c l g) (v0 : 0 ≤ va) (v1 : va ≤ 4294967295) (ha : a = 1 ∨ a = 2 ∨ a = 3) (hs : size = 1 ∨ size = 4) (hz : va % size = 0) (hp : pgB L = true) (hC : wkC n l (wd L 23) va a = C) (hC0 : ¬ C = 0) :
    Calls Tryd.prog 53 #[cpV L, .slice A n c, .int .u32 va, .int .i64 size, .int .i64 a] w (RchPost n A c 0 C l g w) := by
  have HK := Lib.hid (fun W => known_any a W)
  have HM := Lib.hid hm
  have hr := hL.bd 23
  have HP := Lib.hid (fun W => paged_ref L W hL)
  rw [hp] at HP
  have HWK := Lib.hid (fun W (hM : Mem W A n c l) => walk_ref A n c l (wd L 23) va a W hM hr.1 v0)
  rw [hC] at HWK
  rw [decide_eq_true ha] at HK
  generalize wkA n l (wd L 23) va a = WA at *
  generalize wkE n l (wd L 23) va a = WE at *
  unfold trV at HWK
  have hLL := hL.1
  clear ha hm hp
  obtain ⟨F1, F2, F3, -⟩ := cw_facts
  rcases hs with rfl | rfl
  all_goals
    go_enter Tryd.func53, Tryd.ntmps53
    go_wp2_with (first
      | (refine wpList_box_box rfl _ rfl rfl ?_; simp only [Act.put, List.setIfInBounds_toArray, List.set_cons_zero, List.set_cons_succ])
      | (refine wpList_load_look rfl _ rfl _ rfl (fun ob hob => ?_); simp [look_alloc, look_setRow, look_drew, look_drewN, look_setCell, Nat.add_assoc, *] at hob; subst hob; refine ⟨_, rfl, by (first | with_reducible assumption | (simp only [List.length_set]; with_reducible assumption) | exact Z25_len), ?_⟩; simp only [Act.put, List.setIfInBounds_toArray, List.set_cons_zero, List.set_cons_succ])
      | (go_at_call 77; refine (HK.out _).mono ?_; rintro e w1 ⟨rfl, rfl⟩))
    refine (HP.out _).mono ?_
    rintro e w2 ⟨rfl, hb⟩
    have bel : Below w.heap.size w w2 := Below.trans (by (repeat' (first | with_reducible exact Below.refl _ _ | with_reducible assumption | with_reducible apply below_drewN | with_reducible apply Below.drew | with_reducible apply Below.setCell | with_reducible apply Below.alloc | (simp; done) | omega | (simp; omega)))) (hb.mono (by simp))
    have X2 := hb.cell (p := ⟨w.heap.size, 23, none⟩) (by simp)
    simp [F2, hLL] at X2
    clear hb
    go_wp2_with (first
      | (go_at_call 81; refine (HWK.out _ (HM.out.1.on bel)).mono ?_; rintro e w3 ⟨rfl, hb3⟩; replace bel := below_step bel hb3; clear hb3; have hs3 := bel.size))
    all_goals (try go_region)
    all_goals go_wp2
    all_goals refine bodyPost_ret (v := .tuple #[.int .u32 0, .int .i64 C]) (by first | rfl | simp [results, go_sem]) rfl (rch_of HM.out rfl (by (repeat' (first | with_reducible exact Below.refl _ _ | with_reducible assumption | with_reducible apply below_drewN | with_reducible apply Below.drew | with_reducible apply Below.setCell | with_reducible apply Below.alloc | (simp; done) | omega | (simp; omega)))))
set_option maxHeartbeats 1000000 in
theorem reach_yes (L : List Int) (A : Option Addr) (n c g : Nat) (l : List Int) (va size a : Int) (w : World) (hL : C25 L) (hm : Out w A n c l g) (v0 : 0 ≤ va) (v1 : va ≤ 4294967295) (ha : a = 1 ∨ a = 2 ∨ a = 3) (hs : size = 1 ∨ size = 4) (hz : va % size = 0) (hp : pgB L = true) (hC : wkC n l (wd L 23) va a = 0) :
    Calls Tryd.prog 53 #[cpV L, .slice A n c, .int .u32 va, .int .i64 size, .int .i64 a] w (RchPost n A c (wkA n l (wd L 23) va a) 0 (tcL n l (wkE n l (wd L 23) va a) a) g w) := by
  have HK := Lib.hid (fun W => known_any a W)
  have HM := Lib.hid hm
  have hr := hL.bd 23
  have HP := Lib.hid (fun W => paged_ref L W hL)
  rw [hp] at HP
  have HWK := Lib.hid (fun W (hM : Mem W A n c l) => walk_ref A n c l (wd L 23) va a W hM hr.1 v0)
  rw [hC] at HWK
  rw [decide_eq_true ha] at HK
  have he := wkE_bd n l (wd L 23) va a hr.1 v0
  generalize wkA n l (wd L 23) va a = WA at *
  generalize wkE n l (wd L 23) va a = WE at *
  have HMK := Lib.hid (fun W (hM : Out W A n c l g) => mark_out A n c g l WE a W hM he.1 he.2)
  generalize tcL n l WE a = l' at *
  unfold trV at HWK
  have hLL := hL.1
  clear ha hm hp
  obtain ⟨F1, F2, F3, -⟩ := cw_facts
  rcases hs with rfl | rfl
  all_goals
    go_enter Tryd.func53, Tryd.ntmps53
    go_wp2_with (first
      | (refine wpList_box_box rfl _ rfl rfl ?_; simp only [Act.put, List.setIfInBounds_toArray, List.set_cons_zero, List.set_cons_succ])
      | (refine wpList_load_look rfl _ rfl _ rfl (fun ob hob => ?_); simp [look_alloc, look_setRow, look_drew, look_drewN, look_setCell, Nat.add_assoc, *] at hob; subst hob; refine ⟨_, rfl, by (first | with_reducible assumption | (simp only [List.length_set]; with_reducible assumption) | exact Z25_len), ?_⟩; simp only [Act.put, List.setIfInBounds_toArray, List.set_cons_zero, List.set_cons_succ])
      | (go_at_call 77; refine (HK.out _).mono ?_; rintro e w1 ⟨rfl, rfl⟩))
    refine (HP.out _).mono ?_
    rintro e w2 ⟨rfl, hb⟩
    have bel : Below w.heap.size w w2 := Below.trans (by (repeat' (first | with_reducible exact Below.refl _ _ | with_reducible assumption | with_reducible apply below_drewN | with_reducible apply Below.drew | with_reducible apply Below.setCell | with_reducible apply Below.alloc | (simp; done) | omega | (simp; omega)))) (hb.mono (by simp))
    have X2 := hb.cell (p := ⟨w.heap.size, 23, none⟩) (by simp)
    simp [F2, hLL] at X2
    clear hb
    go_wp2_with (first
      | (go_at_call 81; refine (HWK.out _ (HM.out.1.on bel)).mono ?_; rintro e w3 ⟨rfl, hb3⟩; replace bel := below_step bel hb3; clear hb3; have hm3 : Out (w3.alloc (.cells #[.int .u32 WA, .int .u32 WE, .int .i64 0] 105)) A n c l g := HM.out.on (bel.alloc bel.size _); have hg3 := HM.out.lt; have hs3 := bel.size))
    refine (HMK.out _ hm3).mono ?_
    rintro e w4 ⟨rfl, ho4, hk4⟩
    have ne : ¬ (0 < n ∧ w3.heap.size = g) := by omega
    have XW : lk w4 w3.heap.size = some (.cells #[.int .u32 WA, .int .u32 WE, .int .i64 0] 105 (0, 0)) := look_kp (by rw [look_alloc, if_pos rfl]) hk4 ne
    have Y0 : w4.cell? ⟨w3.heap.size, 0, none⟩ = some (.int .u32 WA) := cell_lk XW 0
    have HK4 := Lib.hid (Keep.trans (Keep.of (p := 0 < n) (g := g) (bel.alloc bel.size _)) hk4)
    go_wp2
    refine bodyPost_ret (v := .tuple #[.int .u32 WA, .int .i64 0]) (by first | rfl | simp [results, go_sem]) rfl ⟨rfl, ho4, HK4.out⟩
/-- reach, whole. -/
theorem reach_any (L : List Int) (A : Option Addr) (n c g : Nat) (l : List Int) (va size a : Int) (w : World) (hL : C25 L) (hm : Out w A n c l g) (v0 : 0 ≤ va) (v1 : va ≤ 4294967295) :
    Calls Tryd.prog 53 #[cpV L, .slice A n c, .int .u32 va, .int .i64 size, .int .i64 a] w (RchPost n A c (rsA n l L va size a) (rsC n l L va size a) (rsL n l L va size a) g w) := by
  unfold rsA rsL
  by_cases h : (a = 1 ∨ a = 2 ∨ a = 3) ∧ (size = 1 ∨ size = 4)
  · by_cases hz : va % size = 0
    · cases hp : pgB L with
      | true =>
        have e : rsC n l L va size a = wkC n l (wd L 23) va a := by unfold rsC; rw [if_pos h, if_pos hz, if_pos hp]
        rw [e]
        by_cases h0 : wkC n l (wd L 23) va a = 0
        · rw [if_pos h0, if_pos rfl, if_pos ⟨h0, rfl⟩, h0]
          exact reach_yes L A n c g l va size a w hL hm v0 v1 h.1 h.2 hz hp h0
        · rw [if_neg h0, if_neg (fun hh => h0 hh.1)]
          exact reach_no L A n c g l va size a _ w hL hm v0 v1 h.1 h.2 hz hp rfl h0
      | false =>
        have e : rsC n l L va size a = if okB n va size = true then 0 else cauN a := by unfold rsC; rw [if_pos h, if_pos hz, hp]; rfl
        rw [e]
        cases ho : okB n va size with
        | true => exact reach_phys L A n c g l va size a w hL hm v0 v1 h.1 h.2 hz hp ho
        | false =>
          have hc : ¬ cauN a = 0 := by unfold cauN; split; omega; split <;> omega
          rw [if_neg (show ¬ (false = true) by simp), if_neg hc, if_neg (fun hh => hc hh.1)]
          exact reach_out L A n c g l va size a w hL hm v0 v1 h.1 h.2 hz hp ho
    · have e : rsC n l L va size a = 3 := by unfold rsC; rw [if_pos h, if_neg hz]
      rw [e]
      exact reach_mis L A n c g l va size a w hL hm v0 v1 h.1 h.2 hz
  · have e : rsC n l L va size a = 5 := by unfold rsC; rw [if_neg h]
    rw [e]
    exact reach_bad L A n c g l va size a w hL hm h
end Go.Proofs.YtfnfbdjbdbifaaaDoor

namespace Go.Proofs.YtfnfbdjbdbifaaaDoor
set_option linter.unusedVariables false
set_option linter.unusedSimpArgs false
set_option maxRecDepth 20000
open Go.ChangeShapes Go.WideShapes Go.ChangeAt Go.RowKit Go.Proofs.YtfnfbdjbdbifaaaDoor.Num Go.Proofs.YtfnfbdjbdbifaaaDoor.Mem Go.Proofs.YtfnfbdjbdbifaaaDoor.Isa
/- The reference: loads and stores on a memory of the call's own. -/
theorem Keep.setRow {p : Prop} {g k : Nat} {a w : World} (h : Keep p g a w) (hk : a.heap.size ≤ k) (cs : Array Value) : Keep p g a (w.setRow k cs) := by
  have h2 := below_setRow (Below.refl k w) k (Nat.le_refl _) cs
  refine ⟨h2.os.trans h.os, h2.tape.trans h.tape, h2.output.trans h.output, Nat.le_trans h.size h2.size, fun j hj hn => ?_⟩
  rw [← h.block j hj hn, look_setRow, if_neg (by omega)]
theorem Out.setRow {w : World} {A : Option Addr} {n c g k : Nat} {l : List Int} {cs : Array Value} (h : Out w A n c l g) (hg : 0 < n → ¬ g = k) : Out (w.setRow k cs) A n c l g := by
  refine ⟨h.1.setRow (fun b off hA hn => ?_), fun hn => ⟨(h.2 hn).1, ?_⟩⟩
  · rw [(h.2 hn).1] at hA
    injection hA with hA; injection hA with hA _
    rw [← hA]; exact hg hn
  · obtain ⟨ds, h1, h2⟩ := (h.2 hn).2
    refine ⟨ds, ?_, h2⟩
    show lk _ g = _
    rw [look_setRow, if_neg (fun e => hg hn e.symm)]
    exact h1
set_option maxHeartbeats 4000000 in
theorem trans_flt (L : List Int) (S : Option Addr) (n c g : Nat) (l : List Int) (o A B C m acc : Int) (b : Nat) (w : World) (hL : C25 L) (hm : Out w S n c l g) (hb : B = b) (b1 : b < 16) (m0 : -32768 ≤ m) (m1 : m ≤ 65535) (ho : 32 ≤ o ∧ o ≤ 36) (hacc : acc = if 35 ≤ o then 3 else 2)
    (hc : ¬ rsC n l L (opVa L B m) (opSz o) acc = 0) :
    Calls Tryd.prog 60 #[cpV L, .slice S n c, instV o A B C m] w fun e w' => e = .returned (cpV (trapL L (rsC n l L (opVa L B m) (opSz o) acc) (opVa L B m))) ∧ Out w' S n c (rsL n l L (opVa L B m) (opSz o) acc) g ∧ Keep (0 < n) g w w' := by
  have hLL := hL.1
  have hv := opVa_bd L B m
  have hV1 : Hid ((wd L b + m % 4294967296) % 4294967296 = opVa L B m) := by rw [hb]; unfold opVa; rw [Int.toNat_natCast]; exact Lib.hid (by omega)
  have hV2 : Hid ((wd L b + m) % 4294967296 = opVa L B m) := by rw [hb]; unfold opVa; rw [Int.toNat_natCast]; exact Lib.hid rfl
  have hb0 : (0 : Int) ≤ b := by omega
  have hb1 : (b : Int) < 16 := by omega
  have hb25 : b < 25 := by omega
  have eA := cw_at hLL hb25
  generalize opVa L B m = va at *
  have HR := Lib.hid (fun W (hM : Out W S n c l g) => reach_any L S n c g l va (opSz o) acc W hL hM hv.1 hv.2)
  have HT := Lib.hid (fun W => trap_ref L (rsC n l L va (opSz o) acc) va W hL)
  have hTL := (hL.trap (rsC n l L va (opSz o) acc) hv.1 hv.2).1
  have hsz : opSz o = if o = 32 ∨ o = 35 then 4 else 1 := rfl
  generalize opSz o = sz at *
  generalize rsC n l L va sz acc = cs at *
  generalize rsA n l L va sz acc = ad at *
  generalize rsL n l L va sz acc = l' at *
  generalize trapL L cs va = L' at *
  subst hb
  have ho' : o = 32 ∨ o = 33 ∨ o = 34 ∨ o = 35 ∨ o = 36 := by omega
  unfold instV
  have HM := Lib.hid hm
  clear hm
  obtain ⟨F1, F2, F3, -⟩ := cw_facts
  rcases ho' with rfl | rfl | rfl | rfl | rfl
  all_goals
    simp at hsz hacc
    subst hsz hacc
    go_enter Tryd.func60, Tryd.ntmps60
    go_wp2_with (first
      | (refine wpList_box_box rfl _ rfl rfl ?_; simp only [Act.put, List.setIfInBounds_toArray, List.set_cons_zero, List.set_cons_succ])
      | (refine wpList_alloc_box rfl rfl ?_; simp only [Act.put, List.setIfInBounds_toArray, List.set_cons_zero, List.set_cons_succ]))
    all_goals (try go_region)
  ·
    go_wp2_with (first
      | (refine wpList_load_look rfl _ rfl _ rfl (fun ob hob => ?_); simp [look_alloc, look_setRow, look_drew, look_drewN, look_setCell, Nat.add_assoc] at hob; subst hob; refine ⟨_, rfl, by (first | with_reducible assumption | (simp only [List.length_set]; with_reducible assumption) | exact Z25_len), ?_⟩; simp only [Act.put, List.setIfInBounds_toArray, List.set_cons_zero, List.set_cons_succ]))
    simp only [hV1.out, hV2.out, World.size_alloc]
    generalize hW : World.drew _ = W
    have X2 : lk W w.heap.size = some (.cells (cw L).toArray 32 (0, 0)) := by rw [← hW]; simp [look_alloc, look_drew] <;> omega
    have X3 : lk W (w.heap.size + 1) = some (.cells #[.int .i64 32, .int .i64 A, .int .i64 b, .int .i64 C, .int .i32 m] 27 (0, 0)) := by rw [← hW]; simp [look_alloc, look_drew]
    have X4 : lk W (w.heap.size + 1 + 1) = some (.cells (cw Z25).toArray 32 (0, 0)) := by rw [← hW]; simp [look_alloc, look_drew]
    have bel : Below w.heap.size w W := by rw [← hW]; (repeat' (first | with_reducible exact Below.refl _ _ | with_reducible assumption | with_reducible apply below_drewN | with_reducible apply Below.drew | with_reducible apply Below.setCell | with_reducible apply Below.alloc | (simp; done) | omega | (simp; omega)))
    have hsz : w.heap.size + 2 < W.heap.size := by rw [← hW]; simp
    clear hW
    refine (HR.out _ (HM.out.on bel)).mono ?_
    rintro e w1 ⟨rfl, ho1, hk1⟩
    have hgl := HM.out.lt
    have Y2 := look_kp X2 hk1 (by omega)
    have Y3 := look_kp X3 hk1 (by omega)
    have Y4 := look_kp X4 hk1 (by omega)
    have hs1 : w.heap.size + 2 < w1.heap.size := Nat.lt_of_lt_of_le hsz hk1.size
    have HK1 := Keep.trans (Keep.of (p := 0 < n) (g := g) bel) hk1
    clear X2 X3 X4 bel hsz hk1
    go_wp2_with (first
      | (refine wpList_load_look rfl _ rfl _ rfl (fun ob hob => ?_); rw [Y2] at hob; subst hob; refine ⟨_, rfl, hLL, ?_⟩; simp only [Act.put, List.setIfInBounds_toArray, List.set_cons_zero, List.set_cons_succ]))
    refine (HT.out _).mono ?_
    rintro e w2 ⟨rfl, hb2⟩
    have Z4 := look_on Y4 hb2 (by omega)
    have ho2 := ho1.on hb2
    have HK2 := Keep.trans HK1 (Keep.of hb2)
    clear hb2
    go_wp2_with (first
      | (refine wpList_store_look rfl _ _ rfl _ rfl rfl hTL (fun ob hob => by (rw [Z4] at hob; subst hob; exact ⟨_, rfl, Z25_len⟩)) (fun w4 hw4 => ?_); subst hw4; simp only [Act.put, List.setIfInBounds_toArray, List.set_cons_zero, List.set_cons_succ]))
    exact bodyPost_ret (v := cpV L') (results_cpu rfl _ _ (w.heap.size + 1 + 1) rfl hTL (lk_row Z4)) rfl ⟨rfl, ho2.setRow (by have := HM.out.lt; omega), HK2.setRow (by omega) _⟩
  ·
    go_wp2_with (first
      | (refine wpList_load_look rfl _ rfl _ rfl (fun ob hob => ?_); simp [look_alloc, look_setRow, look_drew, look_drewN, look_setCell, Nat.add_assoc] at hob; subst hob; refine ⟨_, rfl, by (first | with_reducible assumption | (simp only [List.length_set]; with_reducible assumption) | exact Z25_len), ?_⟩; simp only [Act.put, List.setIfInBounds_toArray, List.set_cons_zero, List.set_cons_succ]))
    simp only [hV1.out, hV2.out, World.size_alloc]
    generalize hW : World.drew _ = W
    have X2 : lk W w.heap.size = some (.cells (cw L).toArray 32 (0, 0)) := by rw [← hW]; simp [look_alloc, look_drew] <;> omega
    have X3 : lk W (w.heap.size + 1) = some (.cells #[.int .i64 33, .int .i64 A, .int .i64 b, .int .i64 C, .int .i32 m] 27 (0, 0)) := by rw [← hW]; simp [look_alloc, look_drew]
    have X4 : lk W (w.heap.size + 1 + 1) = some (.cells (cw Z25).toArray 32 (0, 0)) := by rw [← hW]; simp [look_alloc, look_drew]
    have bel : Below w.heap.size w W := by rw [← hW]; (repeat' (first | with_reducible exact Below.refl _ _ | with_reducible assumption | with_reducible apply below_drewN | with_reducible apply Below.drew | with_reducible apply Below.setCell | with_reducible apply Below.alloc | (simp; done) | omega | (simp; omega)))
    have hsz : w.heap.size + 2 < W.heap.size := by rw [← hW]; simp
    clear hW
    refine (HR.out _ (HM.out.on bel)).mono ?_
    rintro e w1 ⟨rfl, ho1, hk1⟩
    have hgl := HM.out.lt
    have Y2 := look_kp X2 hk1 (by omega)
    have Y3 := look_kp X3 hk1 (by omega)
    have Y4 := look_kp X4 hk1 (by omega)
    have hs1 : w.heap.size + 2 < w1.heap.size := Nat.lt_of_lt_of_le hsz hk1.size
    have HK1 := Keep.trans (Keep.of (p := 0 < n) (g := g) bel) hk1
    clear X2 X3 X4 bel hsz hk1
    go_wp2_with (first
      | (refine wpList_load_look rfl _ rfl _ rfl (fun ob hob => ?_); rw [Y2] at hob; subst hob; refine ⟨_, rfl, hLL, ?_⟩; simp only [Act.put, List.setIfInBounds_toArray, List.set_cons_zero, List.set_cons_succ]))
    refine (HT.out _).mono ?_
    rintro e w2 ⟨rfl, hb2⟩
    have Z4 := look_on Y4 hb2 (by omega)
    have ho2 := ho1.on hb2
    have HK2 := Keep.trans HK1 (Keep.of hb2)
    clear hb2
    go_wp2_with (first
      | (refine wpList_store_look rfl _ _ rfl _ rfl rfl hTL (fun ob hob => by (rw [Z4] at hob; subst hob; exact ⟨_, rfl, Z25_len⟩)) (fun w4 hw4 => ?_); subst hw4; simp only [Act.put, List.setIfInBounds_toArray, List.set_cons_zero, List.set_cons_succ]))
    exact bodyPost_ret (v := cpV L') (results_cpu rfl _ _ (w.heap.size + 1 + 1) rfl hTL (lk_row Z4)) rfl ⟨rfl, ho2.setRow (by have := HM.out.lt; omega), HK2.setRow (by omega) _⟩
  ·
    go_wp2_with (first
      | (refine wpList_load_look rfl _ rfl _ rfl (fun ob hob => ?_); simp [look_alloc, look_setRow, look_drew, look_drewN, look_setCell, Nat.add_assoc] at hob; subst hob; refine ⟨_, rfl, by (first | with_reducible assumption | (simp only [List.length_set]; with_reducible assumption) | exact Z25_len), ?_⟩; simp only [Act.put, List.setIfInBounds_toArray, List.set_cons_zero, List.set_cons_succ]))
    simp only [hV1.out, hV2.out, World.size_alloc]
    generalize hW : World.drew _ = W
    have X2 : lk W w.heap.size = some (.cells (cw L).toArray 32 (0, 0)) := by rw [← hW]; simp [look_alloc, look_drew] <;> omega
    have X3 : lk W (w.heap.size + 1) = some (.cells #[.int .i64 34, .int .i64 A, .int .i64 b, .int .i64 C, .int .i32 m] 27 (0, 0)) := by rw [← hW]; simp [look_alloc, look_drew]
    have X4 : lk W (w.heap.size + 1 + 1) = some (.cells (cw Z25).toArray 32 (0, 0)) := by rw [← hW]; simp [look_alloc, look_drew]
    have bel : Below w.heap.size w W := by rw [← hW]; (repeat' (first | with_reducible exact Below.refl _ _ | with_reducible assumption | with_reducible apply below_drewN | with_reducible apply Below.drew | with_reducible apply Below.setCell | with_reducible apply Below.alloc | (simp; done) | omega | (simp; omega)))
    have hsz : w.heap.size + 2 < W.heap.size := by rw [← hW]; simp
    clear hW
    refine (HR.out _ (HM.out.on bel)).mono ?_
    rintro e w1 ⟨rfl, ho1, hk1⟩
    have hgl := HM.out.lt
    have Y2 := look_kp X2 hk1 (by omega)
    have Y3 := look_kp X3 hk1 (by omega)
    have Y4 := look_kp X4 hk1 (by omega)
    have hs1 : w.heap.size + 2 < w1.heap.size := Nat.lt_of_lt_of_le hsz hk1.size
    have HK1 := Keep.trans (Keep.of (p := 0 < n) (g := g) bel) hk1
    clear X2 X3 X4 bel hsz hk1
    go_wp2_with (first
      | (refine wpList_load_look rfl _ rfl _ rfl (fun ob hob => ?_); rw [Y2] at hob; subst hob; refine ⟨_, rfl, hLL, ?_⟩; simp only [Act.put, List.setIfInBounds_toArray, List.set_cons_zero, List.set_cons_succ]))
    refine (HT.out _).mono ?_
    rintro e w2 ⟨rfl, hb2⟩
    have Z4 := look_on Y4 hb2 (by omega)
    have ho2 := ho1.on hb2
    have HK2 := Keep.trans HK1 (Keep.of hb2)
    clear hb2
    go_wp2_with (first
      | (refine wpList_store_look rfl _ _ rfl _ rfl rfl hTL (fun ob hob => by (rw [Z4] at hob; subst hob; exact ⟨_, rfl, Z25_len⟩)) (fun w4 hw4 => ?_); subst hw4; simp only [Act.put, List.setIfInBounds_toArray, List.set_cons_zero, List.set_cons_succ]))
    exact bodyPost_ret (v := cpV L') (results_cpu rfl _ _ (w.heap.size + 1 + 1) rfl hTL (lk_row Z4)) rfl ⟨rfl, ho2.setRow (by have := HM.out.lt; omega), HK2.setRow (by omega) _⟩
  ·
    go_wp2_with (first
      | (refine wpList_load_look rfl _ rfl _ rfl (fun ob hob => ?_); simp [look_alloc, look_setRow, look_drew, look_drewN, look_setCell, Nat.add_assoc] at hob; subst hob; refine ⟨_, rfl, by (first | with_reducible assumption | (simp only [List.length_set]; with_reducible assumption) | exact Z25_len), ?_⟩; simp only [Act.put, List.setIfInBounds_toArray, List.set_cons_zero, List.set_cons_succ]))
    simp only [hV1.out, hV2.out, World.size_alloc]
    generalize hW : World.drew _ = W
    have X2 : lk W w.heap.size = some (.cells (cw L).toArray 32 (0, 0)) := by rw [← hW]; simp [look_alloc, look_drew] <;> omega
    have X3 : lk W (w.heap.size + 1) = some (.cells #[.int .i64 35, .int .i64 A, .int .i64 b, .int .i64 C, .int .i32 m] 27 (0, 0)) := by rw [← hW]; simp [look_alloc, look_drew]
    have X4 : lk W (w.heap.size + 1 + 1) = some (.cells (cw Z25).toArray 32 (0, 0)) := by rw [← hW]; simp [look_alloc, look_drew]
    have bel : Below w.heap.size w W := by rw [← hW]; (repeat' (first | with_reducible exact Below.refl _ _ | with_reducible assumption | with_reducible apply below_drewN | with_reducible apply Below.drew | with_reducible apply Below.setCell | with_reducible apply Below.alloc | (simp; done) | omega | (simp; omega)))
    have hsz : w.heap.size + 2 < W.heap.size := by rw [← hW]; simp
    clear hW
    refine (HR.out _ (HM.out.on bel)).mono ?_
    rintro e w1 ⟨rfl, ho1, hk1⟩
    have hgl := HM.out.lt
    have Y2 := look_kp X2 hk1 (by omega)
    have Y3 := look_kp X3 hk1 (by omega)
    have Y4 := look_kp X4 hk1 (by omega)
    have hs1 : w.heap.size + 2 < w1.heap.size := Nat.lt_of_lt_of_le hsz hk1.size
    have HK1 := Keep.trans (Keep.of (p := 0 < n) (g := g) bel) hk1
    clear X2 X3 X4 bel hsz hk1
    go_wp2_with (first
      | (refine wpList_load_look rfl _ rfl _ rfl (fun ob hob => ?_); rw [Y2] at hob; subst hob; refine ⟨_, rfl, hLL, ?_⟩; simp only [Act.put, List.setIfInBounds_toArray, List.set_cons_zero, List.set_cons_succ]))
    refine (HT.out _).mono ?_
    rintro e w2 ⟨rfl, hb2⟩
    have Z4 := look_on Y4 hb2 (by omega)
    have ho2 := ho1.on hb2
    have HK2 := Keep.trans HK1 (Keep.of hb2)
    clear hb2
    go_wp2_with (first
      | (refine wpList_store_look rfl _ _ rfl _ rfl rfl hTL (fun ob hob => by (rw [Z4] at hob; subst hob; exact ⟨_, rfl, Z25_len⟩)) (fun w4 hw4 => ?_); subst hw4; simp only [Act.put, List.setIfInBounds_toArray, List.set_cons_zero, List.set_cons_succ]))
    exact bodyPost_ret (v := cpV L') (results_cpu rfl _ _ (w.heap.size + 1 + 1) rfl hTL (lk_row Z4)) rfl ⟨rfl, ho2.setRow (by have := HM.out.lt; omega), HK2.setRow (by omega) _⟩
  ·
    go_wp2_with (first
      | (refine wpList_load_look rfl _ rfl _ rfl (fun ob hob => ?_); simp [look_alloc, look_setRow, look_drew, look_drewN, look_setCell, Nat.add_assoc] at hob; subst hob; refine ⟨_, rfl, by (first | with_reducible assumption | (simp only [List.length_set]; with_reducible assumption) | exact Z25_len), ?_⟩; simp only [Act.put, List.setIfInBounds_toArray, List.set_cons_zero, List.set_cons_succ]))
    simp only [hV1.out, hV2.out, World.size_alloc]
    generalize hW : World.drew _ = W
    have X2 : lk W w.heap.size = some (.cells (cw L).toArray 32 (0, 0)) := by rw [← hW]; simp [look_alloc, look_drew] <;> omega
    have X3 : lk W (w.heap.size + 1) = some (.cells #[.int .i64 36, .int .i64 A, .int .i64 b, .int .i64 C, .int .i32 m] 27 (0, 0)) := by rw [← hW]; simp [look_alloc, look_drew]
    have X4 : lk W (w.heap.size + 1 + 1) = some (.cells (cw Z25).toArray 32 (0, 0)) := by rw [← hW]; simp [look_alloc, look_drew]
    have bel : Below w.heap.size w W := by rw [← hW]; (repeat' (first | with_reducible exact Below.refl _ _ | with_reducible assumption | with_reducible apply below_drewN | with_reducible apply Below.drew | with_reducible apply Below.setCell | with_reducible apply Below.alloc | (simp; done) | omega | (simp; omega)))
    have hsz : w.heap.size + 2 < W.heap.size := by rw [← hW]; simp
    clear hW
    refine (HR.out _ (HM.out.on bel)).mono ?_
    rintro e w1 ⟨rfl, ho1, hk1⟩
    have hgl := HM.out.lt
    have Y2 := look_kp X2 hk1 (by omega)
    have Y3 := look_kp X3 hk1 (by omega)
    have Y4 := look_kp X4 hk1 (by omega)
    have hs1 : w.heap.size + 2 < w1.heap.size := Nat.lt_of_lt_of_le hsz hk1.size
    have HK1 := Keep.trans (Keep.of (p := 0 < n) (g := g) bel) hk1
    clear X2 X3 X4 bel hsz hk1
    go_wp2_with (first
      | (refine wpList_load_look rfl _ rfl _ rfl (fun ob hob => ?_); rw [Y2] at hob; subst hob; refine ⟨_, rfl, hLL, ?_⟩; simp only [Act.put, List.setIfInBounds_toArray, List.set_cons_zero, List.set_cons_succ]))
    refine (HT.out _).mono ?_
    rintro e w2 ⟨rfl, hb2⟩
    have Z4 := look_on Y4 hb2 (by omega)
    have ho2 := ho1.on hb2
    have HK2 := Keep.trans HK1 (Keep.of hb2)
    clear hb2
    go_wp2_with (first
      | (refine wpList_store_look rfl _ _ rfl _ rfl rfl hTL (fun ob hob => by (rw [Z4] at hob; subst hob; exact ⟨_, rfl, Z25_len⟩)) (fun w4 hw4 => ?_); subst hw4; simp only [Act.put, List.setIfInBounds_toArray, List.set_cons_zero, List.set_cons_succ]))
    exact bodyPost_ret (v := cpV L') (results_cpu rfl _ _ (w.heap.size + 1 + 1) rfl hTL (lk_row Z4)) rfl ⟨rfl, ho2.setRow (by have := HM.out.lt; omega), HK2.setRow (by omega) _⟩
theorem Keep.setCellN {p : Prop} {g k : Nat} {a w : World} (h : Keep p g a w) (hk : a.heap.size ≤ k) (i : Nat) (v : Value) : Keep p g a (w.setCell ⟨k, i, none⟩ v) := by
  have h2 := (Below.refl k w).setCell (p := ⟨k, i, none⟩) (Nat.le_refl _) v
  refine ⟨h2.os.trans h.os, h2.tape.trans h.tape, h2.output.trans h.output, Nat.le_trans h.size h2.size, fun j hj hn => ?_⟩
  rw [← h.block j hj hn, look_setCell, if_neg (by show ¬ k = j; omega)]
theorem Out.setCellN {w : World} {A : Option Addr} {n c g k : Nat} {l : List Int} (h : Out w A n c l g) (hg : 0 < n → ¬ g = k) (i : Nat) (v : Value) : Out (w.setCell ⟨k, i, none⟩ v) A n c l g := by
  obtain ⟨⟨h1, h2, h3, h4, h5⟩, h6⟩ := h
  have ho : 0 < n → A = some ⟨g, 0, none⟩ ∧ Own (w.setCell ⟨k, i, none⟩ v) g l := fun hn => ⟨(h6 hn).1, by
    obtain ⟨ds, e1, e2⟩ := (h6 hn).2
    refine ⟨ds, ?_, e2⟩
    show lk _ g = _
    rw [look_setCell, if_neg (by show ¬ k = g; exact fun e => hg hn e.symm)]
    exact e1⟩
  refine ⟨⟨h1, h2, h3, h4, fun h0 => ?_⟩, ho⟩
  obtain ⟨hA, how⟩ := ho (by omega)
  exact ⟨g, 0, hA, fun i hi => by rw [Nat.zero_add]; exact how.cell hi⟩
set_option maxHeartbeats 4000000 in
theorem trans_st (L : List Int) (S : Option Addr) (n c g : Nat) (l : List Int) (o A B C m : Int) (a b : Nat) (w : World) (hL : C25 L) (hm : Out w S n c l g) (ha : A = a) (a1 : a < 16) (hb : B = b) (b1 : b < 16) (m0 : -32768 ≤ m) (m1 : m ≤ 65535) (ho : o = 35 ∨ o = 36)
    (hc : rsC n l L (opVa L B m) (opSz o) 3 = 0) :
    Calls Tryd.prog 60 #[cpV L, .slice S n c, instV o A B C m] w fun e w' => e = .returned (cpV (advL L)) ∧ Out w' S n c (stV (rsL n l L (opVa L B m) (opSz o) 3) (rsA n l L (opVa L B m) (opSz o) 3) (opSz o) (wd L a)) g ∧ Keep (0 < n) g w w' := by
  have hLL := hL.1
  have hv := opVa_bd L B m
  have hok := acc_ok hv.1 hv.2 hc
  have hV1 : Hid ((wd L b + m % 4294967296) % 4294967296 = opVa L B m) := by rw [hb]; unfold opVa; rw [Int.toNat_natCast]; exact Lib.hid (by omega)
  have hV2 : Hid ((wd L b + m) % 4294967296 = opVa L B m) := by rw [hb]; unfold opVa; rw [Int.toNat_natCast]; exact Lib.hid rfl
  have hb0 : (0 : Int) ≤ b := by omega
  have hb1 : (b : Int) < 16 := by omega
  have hb25 : b < 25 := by omega
  have ha0 : (0 : Int) ≤ a := by omega
  have ha1 : (a : Int) < 16 := by omega
  have ha25 : a < 25 := by omega
  have hua := hL.bd a
  have HAE := Lib.hid ha
  clear ha
  have eA := cw_at hLL hb25
  generalize opVa L B m = va at *
  have HR := Lib.hid (fun W (hM : Out W S n c l g) => reach_any L S n c g l va (opSz o) 3 W hL hM hv.1 hv.2)
  have hsz : opSz o = if o = 32 ∨ o = 35 then 4 else 1 := rfl
  generalize opSz o = sz at *
  rw [hc] at HR
  generalize rsA n l L va sz 3 = ad at *
  generalize rsL n l L va sz 3 = l' at *
  have HP := Lib.hid (fun W (hM : Out W S n c l' g) => put_out S n c g l' ad sz (wd L a) W hM hok.2.1 hok.1 hua.1 hua.2)
  generalize stV l' ad sz (wd L a) = l3 at *
  subst hb
  unfold instV
  have HM := Lib.hid hm
  clear hm hc hok
  obtain ⟨F1, F2, F3, -⟩ := cw_facts
  rcases ho with rfl | rfl
  all_goals
    simp at hsz
    subst hsz
    go_enter Tryd.func60, Tryd.ntmps60
    go_wp2_with (first
      | (refine wpList_box_box rfl _ rfl rfl ?_; simp only [Act.put, List.setIfInBounds_toArray, List.set_cons_zero, List.set_cons_succ])
      | (refine wpList_alloc_box rfl rfl ?_; simp only [Act.put, List.setIfInBounds_toArray, List.set_cons_zero, List.set_cons_succ]))
    all_goals (try go_region)
  ·
    go_wp2_with (first
      | (refine wpList_load_look rfl _ rfl _ rfl (fun ob hob => ?_); simp [look_alloc, look_setRow, look_drew, look_drewN, look_setCell, Nat.add_assoc] at hob; subst hob; refine ⟨_, rfl, by (first | with_reducible assumption | (simp only [List.length_set]; with_reducible assumption) | exact Z25_len), ?_⟩; simp only [Act.put, List.setIfInBounds_toArray, List.set_cons_zero, List.set_cons_succ]))
    simp only [hV1.out, hV2.out, World.size_alloc]
    generalize hW : World.drew _ = W
    have X2 : lk W w.heap.size = some (.cells (cw L).toArray 32 (0, 0)) := by rw [← hW]; simp [look_alloc, look_drew] <;> omega
    have X3 : lk W (w.heap.size + 1) = some (.cells #[.int .i64 35, .int .i64 A, .int .i64 b, .int .i64 C, .int .i32 m] 27 (0, 0)) := by rw [← hW]; simp [look_alloc, look_drew]
    have X4 : lk W (w.heap.size + 1 + 1) = some (.cells (cw Z25).toArray 32 (0, 0)) := by rw [← hW]; simp [look_alloc, look_drew]
    have bel : Below w.heap.size w W := by rw [← hW]; (repeat' (first | with_reducible exact Below.refl _ _ | with_reducible assumption | with_reducible apply below_drewN | with_reducible apply Below.drew | with_reducible apply Below.setCell | with_reducible apply Below.alloc | (simp; done) | omega | (simp; omega)))
    have hsz : w.heap.size + 2 < W.heap.size := by rw [← hW]; simp
    clear hW
    refine (HR.out _ (HM.out.on bel)).mono ?_
    rintro e w1 ⟨rfl, ho1, hk1⟩
    have hgl := HM.out.lt
    have Y2 := look_kp X2 hk1 (by omega)
    have Y3 := look_kp X3 hk1 (by omega)
    have Y4 := look_kp X4 hk1 (by omega)
    have hs1 : w.heap.size + 2 < w1.heap.size := Nat.lt_of_lt_of_le hsz hk1.size
    have HK1 := Keep.trans (Keep.of (p := 0 < n) (g := g) bel) hk1
    clear X2 X3 X4 bel hsz hk1
    have c1 : w1.cell? ⟨w.heap.size + 1, 1, none⟩ = some (.int .i64 (a : Int)) := by rw [← HAE.out]; exact cell_lk Y3 1
    have cx : w1.cell? ⟨w.heap.size, a, none⟩ = some (.int .u32 (wd L a)) := (cell_lk Y2 a).trans (by simpa using cw_at hLL ha25)
    go_wp2_with fail
    refine (HP.out _ ho1).mono ?_
    rintro e w2 ⟨rfl, ho2, hk2⟩
    replace Y2 := look_kp Y2 hk2 (by omega)
    replace Y4 := look_kp Y4 hk2 (by omega)
    have HK2 := Lib.hid (Keep.trans HK1 hk2)
    have HO2 := Lib.hid ho2
    have hg2 : 0 < n → g < w.heap.size := hgl
    clear hk2 ho2 HK1 ho1 c1 cx Y3
    have cp : w2.cell? ⟨w.heap.size, 16, none⟩ = some (.int .u32 (wd L 16)) := (cell_lk Y2 16).trans (by simpa using cw_at hLL (show 16 < 25 by omega))
    have fp : w2.frozen? ⟨w.heap.size, 16, none⟩ = false := frozen_lk Y2 16
    obtain ⟨T, hT⟩ : ∃ T, Hid ((wd L 16 + 4) % 4294967296 = T) := ⟨_, rfl⟩
    have U2 := lk_set Y2 16 T
    have U4 := lk_setN (k := 16) (v := .int .u32 T) Y4 (show ¬ w.heap.size = w.heap.size + 1 + 1 by omega)
    have hRT : ((L).set 16 T).length = 25 := by rw [List.length_set]; exact hLL
    have HO3 := Lib.hid (Out.setCellN (k := w.heap.size) HO2.out (by omega) 16 (.int .u32 T))
    have HK3 := Lib.hid (Keep.setCellN (k := w.heap.size) HK2.out (by omega) 16 (.int .u32 T))
    repeat' (first
      | (with_reducible refine then_normal ?_) | (with_reducible refine wp_exit ?_) | (with_reducible refine wp_ret ?_) | (with_reducible refine then_exit ?_) | (with_reducible refine blk_hit ?_) | (with_reducible refine blk_pass (by decide) ?_) | (with_reducible refine then_ret ?_) | (with_reducible refine blk_ret ?_) | (with_reducible refine blk_normal ?_)
      | (rw [hT.out])
      | fail
      | (refine wpList_load_look rfl _ rfl _ rfl (fun ob hob => ?_); rw [U2] at hob; subst hob; refine ⟨_, rfl, hRT, ?_⟩; simp only [Act.put, List.setIfInBounds_toArray, List.set_cons_zero, List.set_cons_succ])
      | (refine wpList_store_look rfl _ _ rfl _ rfl rfl hRT (fun ob hob => by (rw [U4] at hob; subst hob; exact ⟨_, rfl, Z25_len⟩)) (fun w4 hw4 => ?_); subst hw4; simp only [Act.put, List.setIfInBounds_toArray, List.set_cons_zero, List.set_cons_succ])
      | go_values | go_skip | go_guarded | go_step | go_upon | (simp only [Int.not_lt, Int.not_le] at *; go_simp) | (go_values <;> (try go_simp)) | (go_ite <;> go_prune <;> (try go_simp)))
    exact bodyPost_ret (v := cpV ((L).set 16 T)) (results_cpu rfl _ _ (w.heap.size + 1 + 1) rfl hRT (lk_row U4)) rfl ⟨by rw [← hT.out] <;> rfl, HO3.out.setRow (by omega), HK3.out.setRow (by omega) _⟩
  ·
    go_wp2_with (first
      | (refine wpList_load_look rfl _ rfl _ rfl (fun ob hob => ?_); simp [look_alloc, look_setRow, look_drew, look_drewN, look_setCell, Nat.add_assoc] at hob; subst hob; refine ⟨_, rfl, by (first | with_reducible assumption | (simp only [List.length_set]; with_reducible assumption) | exact Z25_len), ?_⟩; simp only [Act.put, List.setIfInBounds_toArray, List.set_cons_zero, List.set_cons_succ]))
    simp only [hV1.out, hV2.out, World.size_alloc]
    generalize hW : World.drew _ = W
    have X2 : lk W w.heap.size = some (.cells (cw L).toArray 32 (0, 0)) := by rw [← hW]; simp [look_alloc, look_drew] <;> omega
    have X3 : lk W (w.heap.size + 1) = some (.cells #[.int .i64 36, .int .i64 A, .int .i64 b, .int .i64 C, .int .i32 m] 27 (0, 0)) := by rw [← hW]; simp [look_alloc, look_drew]
    have X4 : lk W (w.heap.size + 1 + 1) = some (.cells (cw Z25).toArray 32 (0, 0)) := by rw [← hW]; simp [look_alloc, look_drew]
    have bel : Below w.heap.size w W := by rw [← hW]; (repeat' (first | with_reducible exact Below.refl _ _ | with_reducible assumption | with_reducible apply below_drewN | with_reducible apply Below.drew | with_reducible apply Below.setCell | with_reducible apply Below.alloc | (simp; done) | omega | (simp; omega)))
    have hsz : w.heap.size + 2 < W.heap.size := by rw [← hW]; simp
    clear hW
    refine (HR.out _ (HM.out.on bel)).mono ?_
    rintro e w1 ⟨rfl, ho1, hk1⟩
    have hgl := HM.out.lt
    have Y2 := look_kp X2 hk1 (by omega)
    have Y3 := look_kp X3 hk1 (by omega)
    have Y4 := look_kp X4 hk1 (by omega)
    have hs1 : w.heap.size + 2 < w1.heap.size := Nat.lt_of_lt_of_le hsz hk1.size
    have HK1 := Keep.trans (Keep.of (p := 0 < n) (g := g) bel) hk1
    clear X2 X3 X4 bel hsz hk1
    have c1 : w1.cell? ⟨w.heap.size + 1, 1, none⟩ = some (.int .i64 (a : Int)) := by rw [← HAE.out]; exact cell_lk Y3 1
    have cx : w1.cell? ⟨w.heap.size, a, none⟩ = some (.int .u32 (wd L a)) := (cell_lk Y2 a).trans (by simpa using cw_at hLL ha25)
    go_wp2_with fail
    refine (HP.out _ ho1).mono ?_
    rintro e w2 ⟨rfl, ho2, hk2⟩
    replace Y2 := look_kp Y2 hk2 (by omega)
    replace Y4 := look_kp Y4 hk2 (by omega)
    have HK2 := Lib.hid (Keep.trans HK1 hk2)
    have HO2 := Lib.hid ho2
    have hg2 : 0 < n → g < w.heap.size := hgl
    clear hk2 ho2 HK1 ho1 c1 cx Y3
    have cp : w2.cell? ⟨w.heap.size, 16, none⟩ = some (.int .u32 (wd L 16)) := (cell_lk Y2 16).trans (by simpa using cw_at hLL (show 16 < 25 by omega))
    have fp : w2.frozen? ⟨w.heap.size, 16, none⟩ = false := frozen_lk Y2 16
    obtain ⟨T, hT⟩ : ∃ T, Hid ((wd L 16 + 4) % 4294967296 = T) := ⟨_, rfl⟩
    have U2 := lk_set Y2 16 T
    have U4 := lk_setN (k := 16) (v := .int .u32 T) Y4 (show ¬ w.heap.size = w.heap.size + 1 + 1 by omega)
    have hRT : ((L).set 16 T).length = 25 := by rw [List.length_set]; exact hLL
    have HO3 := Lib.hid (Out.setCellN (k := w.heap.size) HO2.out (by omega) 16 (.int .u32 T))
    have HK3 := Lib.hid (Keep.setCellN (k := w.heap.size) HK2.out (by omega) 16 (.int .u32 T))
    repeat' (first
      | (with_reducible refine then_normal ?_) | (with_reducible refine wp_exit ?_) | (with_reducible refine wp_ret ?_) | (with_reducible refine then_exit ?_) | (with_reducible refine blk_hit ?_) | (with_reducible refine blk_pass (by decide) ?_) | (with_reducible refine then_ret ?_) | (with_reducible refine blk_ret ?_) | (with_reducible refine blk_normal ?_)
      | (rw [hT.out])
      | fail
      | (refine wpList_load_look rfl _ rfl _ rfl (fun ob hob => ?_); rw [U2] at hob; subst hob; refine ⟨_, rfl, hRT, ?_⟩; simp only [Act.put, List.setIfInBounds_toArray, List.set_cons_zero, List.set_cons_succ])
      | (refine wpList_store_look rfl _ _ rfl _ rfl rfl hRT (fun ob hob => by (rw [U4] at hob; subst hob; exact ⟨_, rfl, Z25_len⟩)) (fun w4 hw4 => ?_); subst hw4; simp only [Act.put, List.setIfInBounds_toArray, List.set_cons_zero, List.set_cons_succ])
      | go_values | go_skip | go_guarded | go_step | go_upon | (simp only [Int.not_lt, Int.not_le] at *; go_simp) | (go_values <;> (try go_simp)) | (go_ite <;> go_prune <;> (try go_simp)))
    exact bodyPost_ret (v := cpV ((L).set 16 T)) (results_cpu rfl _ _ (w.heap.size + 1 + 1) rfl hRT (lk_row U4)) rfl ⟨by rw [← hT.out] <;> rfl, HO3.out.setRow (by omega), HK3.out.setRow (by omega) _⟩
end Go.Proofs.YtfnfbdjbdbifaaaDoor

namespace Go.Proofs.YtfnfbdjbdbifaaaDoor
set_option linter.unusedVariables false
set_option linter.unusedSimpArgs false
set_option maxRecDepth 20000
open Go.ChangeShapes Go.WideShapes Go.ChangeAt Go.RowKit Go.Proofs.YtfnfbdjbdbifaaaDoor.Num Go.Proofs.YtfnfbdjbdbifaaaDoor.Mem Go.Proofs.YtfnfbdjbdbifaaaDoor.Isa
/- The reference: loads. -/
theorem adv_setL {L : List Int} (hL : L.length = 25) {a : Nat} (a1 : a < 16) (v : Int) : advL (setL L a v) = setL (advL L) a v := by
  unfold advL setL
  by_cases h : (a : Int) = 0
  · rw [if_pos h, if_pos h]
  · rw [if_neg h, if_neg h, Int.toNat_natCast]
    have e : wd (L.set a v) 16 = wd L 16 := by
      rw [wd_set L a 16 v (by omega), if_neg (by omega)]
    rw [e, List.set_comm _ _ (by omega)]
set_option maxHeartbeats 2000000 in
theorem trans_ld (L : List Int) (S : Option Addr) (n c g : Nat) (l : List Int) (o A B C m : Int) (a b : Nat) (w : World) (hL : C25 L) (hm : Out w S n c l g) (ha : A = a) (a1 : a < 16) (hb : B = b) (b1 : b < 16) (m0 : -32768 ≤ m) (m1 : m ≤ 65535) (ho : o = 32 ∨ o = 33 ∨ o = 34)
    (hc : rsC n l L (opVa L B m) (opSz o) 2 = 0) :
    Calls Tryd.prog 60 #[cpV L, .slice S n c, instV o A B C m] w fun e w' => e = .returned (cpV (advL (setL L a (ldE o (ldV (rsL n l L (opVa L B m) (opSz o) 2) (rsA n l L (opVa L B m) (opSz o) 2) (opSz o)))))) ∧ Out w' S n c (rsL n l L (opVa L B m) (opSz o) 2) g ∧ Keep (0 < n) g w w' := by
  have hLL := hL.1
  have hv := opVa_bd L B m
  have hok := acc_ok hv.1 hv.2 hc
  have hV1 : Hid ((wd L b + m % 4294967296) % 4294967296 = opVa L B m) := by rw [hb]; unfold opVa; rw [Int.toNat_natCast]; exact Lib.hid (by omega)
  have hV2 : Hid ((wd L b + m) % 4294967296 = opVa L B m) := by rw [hb]; unfold opVa; rw [Int.toNat_natCast]; exact Lib.hid rfl
  have hb0 : (0 : Int) ≤ b := by omega
  have hb1 : (b : Int) < 16 := by omega
  have hb25 : b < 25 := by omega
  have ha0 : (0 : Int) ≤ a := by omega
  have ha1 : (a : Int) < 16 := by omega
  have ha25 : a < 25 := by omega
  have HAE := Lib.hid ha
  clear ha
  have eA := cw_at hLL hb25
  generalize opVa L B m = va at *
  have HR := Lib.hid (fun W (hM : Out W S n c l g) => reach_any L S n c g l va (opSz o) 2 W hL hM hv.1 hv.2)
  have hsz : opSz o = if o = 32 ∨ o = 35 then 4 else 1 := rfl
  generalize opSz o = sz at *
  rw [hc] at HR
  generalize rsA n l L va sz 2 = ad at *
  generalize rsL n l L va sz 2 = l' at *
  have HLD := Lib.hid (fun W (hM : Mem W S n c l') => load_refyes S n c l' ad sz W hM hok.2.1 hok.2.2 hok.1)
  have hx : ∀ {W : World} {S2 : Option Addr} {c2 : Nat}, Mem W S2 n c2 l' → 0 ≤ ldV l' ad sz ∧ ldV l' ad sz ≤ 4294967295 := fun hM => ldV_bd hM.2.2.2.1 ad sz
  generalize ldV l' ad sz = x at *
  have HS := Lib.hid (fun W => set_ref L a (ldE o x) W hL a1)
  have hRL : (setL L (a : Int) (ldE o x)).length = 25 := by rw [setL_len]; exact hLL
  have hE : ldE o x = if o = 33 then sext x 8 else x := rfl
  generalize ldE o x = y at *
  unfold advL
  generalize setL L (a : Int) y = R at *
  subst hb
  unfold instV
  have HM := Lib.hid hm
  clear hm hc hok
  obtain ⟨F1, F2, F3, -⟩ := cw_facts
  rcases ho with rfl | rfl | rfl
  all_goals
    simp at hsz hE
    subst hsz hE
    go_enter Tryd.func60, Tryd.ntmps60
    go_wp2_with (first
      | (refine wpList_box_box rfl _ rfl rfl ?_; simp only [Act.put, List.setIfInBounds_toArray, List.set_cons_zero, List.set_cons_succ])
      | (refine wpList_alloc_box rfl rfl ?_; simp only [Act.put, List.setIfInBounds_toArray, List.set_cons_zero, List.set_cons_succ]))
    all_goals (try go_region)
  ·
    go_wp2_with (first
      | (refine wpList_load_look rfl _ rfl _ rfl (fun ob hob => ?_); simp [look_alloc, look_setRow, look_drew, look_drewN, look_setCell, Nat.add_assoc] at hob; subst hob; refine ⟨_, rfl, by (first | with_reducible assumption | (simp only [List.length_set]; with_reducible assumption) | exact Z25_len), ?_⟩; simp only [Act.put, List.setIfInBounds_toArray, List.set_cons_zero, List.set_cons_succ]))
    simp only [hV1.out, hV2.out, World.size_alloc]
    generalize hW : World.drew _ = W
    have X2 : lk W w.heap.size = some (.cells (cw L).toArray 32 (0, 0)) := by rw [← hW]; simp [look_alloc, look_drew] <;> omega
    have X3 : lk W (w.heap.size + 1) = some (.cells #[.int .i64 32, .int .i64 A, .int .i64 b, .int .i64 C, .int .i32 m] 27 (0, 0)) := by rw [← hW]; simp [look_alloc, look_drew]
    have X4 : lk W (w.heap.size + 1 + 1) = some (.cells (cw Z25).toArray 32 (0, 0)) := by rw [← hW]; simp [look_alloc, look_drew]
    have bel : Below w.heap.size w W := by rw [← hW]; (repeat' (first | with_reducible exact Below.refl _ _ | with_reducible assumption | with_reducible apply below_drewN | with_reducible apply Below.drew | with_reducible apply Below.setCell | with_reducible apply Below.alloc | (simp; done) | omega | (simp; omega)))
    have hsz : w.heap.size + 2 < W.heap.size := by rw [← hW]; simp
    clear hW
    refine (HR.out _ (HM.out.on bel)).mono ?_
    rintro e w1 ⟨rfl, ho1, hk1⟩
    have hgl := HM.out.lt
    have Y2 := look_kp X2 hk1 (by omega)
    have Y3 := look_kp X3 hk1 (by omega)
    have Y4 := look_kp X4 hk1 (by omega)
    have hs1 : w.heap.size + 2 < w1.heap.size := Nat.lt_of_lt_of_le hsz hk1.size
    have HK1 := Keep.trans (Keep.of (p := 0 < n) (g := g) bel) hk1
    clear X2 X3 X4 bel hsz hk1
    have c1 : w1.cell? ⟨w.heap.size + 1, 1, none⟩ = some (.int .i64 (a : Int)) := by rw [← HAE.out]; exact cell_lk Y3 1
    have c0 : w1.cell? ⟨w.heap.size + 1, 0, none⟩ = some (.int .i64 32) := cell_lk Y3 0
    have hm1 : Mem w1 S n c l' := ho1.1
    have hxb := hx hm1
    go_wp2_with (first
      | (go_at_call 55; (with_reducible refine (HLD.out _ hm1).mono ?_); rintro e w3 ⟨rfl, m3, rfl⟩)
      | (go_at_call 88; refine (sext_ref _ _ _ hxb.1 hxb.2).mono ?_; rintro e w4 ⟨rfl, m4, rfl⟩)
      | (refine wpList_load_look rfl _ rfl _ rfl (fun ob hob => ?_); simp only [look_drewN, Y2] at hob; subst hob; refine ⟨_, rfl, hLL, ?_⟩; simp only [Act.put, List.setIfInBounds_toArray, List.set_cons_zero, List.set_cons_succ]))
    obtain ⟨W, hW⟩ : ∃ W, w1.drewN (m3) = W := ⟨_, rfl⟩
    rw [hW]
    replace Y2 : lk W w.heap.size = some (.cells (cw L).toArray 32 (0, 0)) := by rw [← hW]; exact Y2
    replace Y4 : lk W (w.heap.size + 1 + 1) = some (.cells (cw Z25).toArray 32 (0, 0)) := by rw [← hW]; exact Y4
    replace hs1 : w.heap.size + 2 < W.heap.size := by rw [← hW]; exact hs1
    replace HK1 : Keep (0 < n) g w W := by rw [← hW]; exact HK1.trans (Keep.drewN _ _ _ _)
    replace ho1 : Out W S n c l' g := by rw [← hW]; exact ho1.on (below_drewN (Below.refl _ _) _)
    clear hW Y3 c0 hm1 c1
    refine (HS.out _).mono ?_
    rintro e w5 ⟨rfl, hb5⟩
    replace Y2 := look_on Y2 hb5 (by omega)
    replace Y4 := look_on Y4 hb5 (by omega)
    have HK5 := Lib.hid (Keep.trans HK1 (Keep.of hb5))
    have HO5 := Lib.hid (ho1.on hb5)
    clear hb5 HK1 ho1
    have Q2 := Y2
    replace Y4 := lk_rowN (b := w.heap.size) (cs := (cw R).toArray) Y4 (by omega)
    replace Y2 := lk_row (M := R) Y2
    have HK6 := Lib.hid (Keep.setRow (k := w.heap.size) HK5.out (by omega) (cw R).toArray)
    have HO6 := Lib.hid (Out.setRow (k := w.heap.size) (cs := (cw R).toArray) HO5.out (by omega))
    have cp : (w5.setRow w.heap.size (cw R).toArray).cell? ⟨w.heap.size, 16, none⟩ = some (.int .u32 (wd R 16)) := (cell_lk Y2 16).trans (by simpa using cw_at hRL (show 16 < 25 by omega))
    have fp : (w5.setRow w.heap.size (cw R).toArray).frozen? ⟨w.heap.size, 16, none⟩ = false := frozen_lk Y2 16
    obtain ⟨T, hT⟩ : ∃ T, Hid ((wd R 16 + 4) % 4294967296 = T) := ⟨_, rfl⟩
    have U2 := lk_set Y2 16 T
    have U4 := lk_setN (k := 16) (v := .int .u32 T) Y4 (show ¬ w.heap.size = w.heap.size + 1 + 1 by omega)
    have hRT : ((R).set 16 T).length = 25 := by rw [List.length_set]; exact hRL
    have HO3 := Lib.hid (Out.setCellN (k := w.heap.size) HO6.out (by omega) 16 (.int .u32 T))
    have HK3 := Lib.hid (Keep.setCellN (k := w.heap.size) HK6.out (by omega) 16 (.int .u32 T))
    repeat' (first
      | (with_reducible refine then_normal ?_) | (with_reducible refine wp_exit ?_) | (with_reducible refine wp_ret ?_) | (with_reducible refine then_exit ?_) | (with_reducible refine blk_hit ?_) | (with_reducible refine blk_pass (by decide) ?_) | (with_reducible refine then_ret ?_) | (with_reducible refine blk_ret ?_) | (with_reducible refine blk_normal ?_)
      | (rw [hT.out])
      | (refine wpList_store_look rfl _ _ rfl _ rfl rfl hRL (fun ob hob => by (rw [Q2] at hob; subst hob; exact ⟨_, rfl, hLL⟩)) (fun w4 hw4 => ?_); subst hw4; simp only [Act.put, List.setIfInBounds_toArray, List.set_cons_zero, List.set_cons_succ])
      | (refine wpList_load_look rfl _ rfl _ rfl (fun ob hob => ?_); rw [U2] at hob; subst hob; refine ⟨_, rfl, hRT, ?_⟩; simp only [Act.put, List.setIfInBounds_toArray, List.set_cons_zero, List.set_cons_succ])
      | (refine wpList_store_look rfl _ _ rfl _ rfl rfl hRT (fun ob hob => by (rw [U4] at hob; subst hob; exact ⟨_, rfl, Z25_len⟩)) (fun w4 hw4 => ?_); subst hw4; simp only [Act.put, List.setIfInBounds_toArray, List.set_cons_zero, List.set_cons_succ])
      | go_values | go_skip | go_guarded | go_step | go_upon | (simp only [Int.not_lt, Int.not_le] at *; go_simp) | (go_values <;> (try go_simp)) | (go_ite <;> go_prune <;> (try go_simp)))
    exact bodyPost_ret (v := cpV ((R).set 16 T)) (results_cpu rfl _ _ (w.heap.size + 1 + 1) rfl hRT (lk_row U4)) rfl ⟨by rw [← hT.out] <;> rfl, HO3.out.setRow (by omega), HK3.out.setRow (by omega) _⟩
  ·
    go_wp2_with (first
      | (refine wpList_load_look rfl _ rfl _ rfl (fun ob hob => ?_); simp [look_alloc, look_setRow, look_drew, look_drewN, look_setCell, Nat.add_assoc] at hob; subst hob; refine ⟨_, rfl, by (first | with_reducible assumption | (simp only [List.length_set]; with_reducible assumption) | exact Z25_len), ?_⟩; simp only [Act.put, List.setIfInBounds_toArray, List.set_cons_zero, List.set_cons_succ]))
    simp only [hV1.out, hV2.out, World.size_alloc]
    generalize hW : World.drew _ = W
    have X2 : lk W w.heap.size = some (.cells (cw L).toArray 32 (0, 0)) := by rw [← hW]; simp [look_alloc, look_drew] <;> omega
    have X3 : lk W (w.heap.size + 1) = some (.cells #[.int .i64 33, .int .i64 A, .int .i64 b, .int .i64 C, .int .i32 m] 27 (0, 0)) := by rw [← hW]; simp [look_alloc, look_drew]
    have X4 : lk W (w.heap.size + 1 + 1) = some (.cells (cw Z25).toArray 32 (0, 0)) := by rw [← hW]; simp [look_alloc, look_drew]
    have bel : Below w.heap.size w W := by rw [← hW]; (repeat' (first | with_reducible exact Below.refl _ _ | with_reducible assumption | with_reducible apply below_drewN | with_reducible apply Below.drew | with_reducible apply Below.setCell | with_reducible apply Below.alloc | (simp; done) | omega | (simp; omega)))
    have hsz : w.heap.size + 2 < W.heap.size := by rw [← hW]; simp
    clear hW
    refine (HR.out _ (HM.out.on bel)).mono ?_
    rintro e w1 ⟨rfl, ho1, hk1⟩
    have hgl := HM.out.lt
    have Y2 := look_kp X2 hk1 (by omega)
    have Y3 := look_kp X3 hk1 (by omega)
    have Y4 := look_kp X4 hk1 (by omega)
    have hs1 : w.heap.size + 2 < w1.heap.size := Nat.lt_of_lt_of_le hsz hk1.size
    have HK1 := Keep.trans (Keep.of (p := 0 < n) (g := g) bel) hk1
    clear X2 X3 X4 bel hsz hk1
    have c1 : w1.cell? ⟨w.heap.size + 1, 1, none⟩ = some (.int .i64 (a : Int)) := by rw [← HAE.out]; exact cell_lk Y3 1
    have c0 : w1.cell? ⟨w.heap.size + 1, 0, none⟩ = some (.int .i64 33) := cell_lk Y3 0
    have hm1 : Mem w1 S n c l' := ho1.1
    have hxb := hx hm1
    go_wp2_with (first
      | (go_at_call 55; (with_reducible refine (HLD.out _ hm1).mono ?_); rintro e w3 ⟨rfl, m3, rfl⟩)
      | (go_at_call 88; refine (sext_ref _ _ _ hxb.1 hxb.2).mono ?_; rintro e w4 ⟨rfl, m4, rfl⟩)
      | (refine wpList_load_look rfl _ rfl _ rfl (fun ob hob => ?_); simp only [look_drewN, Y2] at hob; subst hob; refine ⟨_, rfl, hLL, ?_⟩; simp only [Act.put, List.setIfInBounds_toArray, List.set_cons_zero, List.set_cons_succ]))
    obtain ⟨W, hW⟩ : ∃ W, w1.drewN (m3 + m4) = W := ⟨_, rfl⟩
    rw [hW]
    replace Y2 : lk W w.heap.size = some (.cells (cw L).toArray 32 (0, 0)) := by rw [← hW]; exact Y2
    replace Y4 : lk W (w.heap.size + 1 + 1) = some (.cells (cw Z25).toArray 32 (0, 0)) := by rw [← hW]; exact Y4
    replace hs1 : w.heap.size + 2 < W.heap.size := by rw [← hW]; exact hs1
    replace HK1 : Keep (0 < n) g w W := by rw [← hW]; exact HK1.trans (Keep.drewN _ _ _ _)
    replace ho1 : Out W S n c l' g := by rw [← hW]; exact ho1.on (below_drewN (Below.refl _ _) _)
    clear hW Y3 c0 hm1 c1
    refine (HS.out _).mono ?_
    rintro e w5 ⟨rfl, hb5⟩
    replace Y2 := look_on Y2 hb5 (by omega)
    replace Y4 := look_on Y4 hb5 (by omega)
    have HK5 := Lib.hid (Keep.trans HK1 (Keep.of hb5))
    have HO5 := Lib.hid (ho1.on hb5)
    clear hb5 HK1 ho1
    have Q2 := Y2
    replace Y4 := lk_rowN (b := w.heap.size) (cs := (cw R).toArray) Y4 (by omega)
    replace Y2 := lk_row (M := R) Y2
    have HK6 := Lib.hid (Keep.setRow (k := w.heap.size) HK5.out (by omega) (cw R).toArray)
    have HO6 := Lib.hid (Out.setRow (k := w.heap.size) (cs := (cw R).toArray) HO5.out (by omega))
    have cp : (w5.setRow w.heap.size (cw R).toArray).cell? ⟨w.heap.size, 16, none⟩ = some (.int .u32 (wd R 16)) := (cell_lk Y2 16).trans (by simpa using cw_at hRL (show 16 < 25 by omega))
    have fp : (w5.setRow w.heap.size (cw R).toArray).frozen? ⟨w.heap.size, 16, none⟩ = false := frozen_lk Y2 16
    obtain ⟨T, hT⟩ : ∃ T, Hid ((wd R 16 + 4) % 4294967296 = T) := ⟨_, rfl⟩
    have U2 := lk_set Y2 16 T
    have U4 := lk_setN (k := 16) (v := .int .u32 T) Y4 (show ¬ w.heap.size = w.heap.size + 1 + 1 by omega)
    have hRT : ((R).set 16 T).length = 25 := by rw [List.length_set]; exact hRL
    have HO3 := Lib.hid (Out.setCellN (k := w.heap.size) HO6.out (by omega) 16 (.int .u32 T))
    have HK3 := Lib.hid (Keep.setCellN (k := w.heap.size) HK6.out (by omega) 16 (.int .u32 T))
    repeat' (first
      | (with_reducible refine then_normal ?_) | (with_reducible refine wp_exit ?_) | (with_reducible refine wp_ret ?_) | (with_reducible refine then_exit ?_) | (with_reducible refine blk_hit ?_) | (with_reducible refine blk_pass (by decide) ?_) | (with_reducible refine then_ret ?_) | (with_reducible refine blk_ret ?_) | (with_reducible refine blk_normal ?_)
      | (rw [hT.out])
      | (refine wpList_store_look rfl _ _ rfl _ rfl rfl hRL (fun ob hob => by (rw [Q2] at hob; subst hob; exact ⟨_, rfl, hLL⟩)) (fun w4 hw4 => ?_); subst hw4; simp only [Act.put, List.setIfInBounds_toArray, List.set_cons_zero, List.set_cons_succ])
      | (refine wpList_load_look rfl _ rfl _ rfl (fun ob hob => ?_); rw [U2] at hob; subst hob; refine ⟨_, rfl, hRT, ?_⟩; simp only [Act.put, List.setIfInBounds_toArray, List.set_cons_zero, List.set_cons_succ])
      | (refine wpList_store_look rfl _ _ rfl _ rfl rfl hRT (fun ob hob => by (rw [U4] at hob; subst hob; exact ⟨_, rfl, Z25_len⟩)) (fun w4 hw4 => ?_); subst hw4; simp only [Act.put, List.setIfInBounds_toArray, List.set_cons_zero, List.set_cons_succ])
      | go_values | go_skip | go_guarded | go_step | go_upon | (simp only [Int.not_lt, Int.not_le] at *; go_simp) | (go_values <;> (try go_simp)) | (go_ite <;> go_prune <;> (try go_simp)))
    exact bodyPost_ret (v := cpV ((R).set 16 T)) (results_cpu rfl _ _ (w.heap.size + 1 + 1) rfl hRT (lk_row U4)) rfl ⟨by rw [← hT.out] <;> rfl, HO3.out.setRow (by omega), HK3.out.setRow (by omega) _⟩
  ·
    go_wp2_with (first
      | (refine wpList_load_look rfl _ rfl _ rfl (fun ob hob => ?_); simp [look_alloc, look_setRow, look_drew, look_drewN, look_setCell, Nat.add_assoc] at hob; subst hob; refine ⟨_, rfl, by (first | with_reducible assumption | (simp only [List.length_set]; with_reducible assumption) | exact Z25_len), ?_⟩; simp only [Act.put, List.setIfInBounds_toArray, List.set_cons_zero, List.set_cons_succ]))
    simp only [hV1.out, hV2.out, World.size_alloc]
    generalize hW : World.drew _ = W
    have X2 : lk W w.heap.size = some (.cells (cw L).toArray 32 (0, 0)) := by rw [← hW]; simp [look_alloc, look_drew] <;> omega
    have X3 : lk W (w.heap.size + 1) = some (.cells #[.int .i64 34, .int .i64 A, .int .i64 b, .int .i64 C, .int .i32 m] 27 (0, 0)) := by rw [← hW]; simp [look_alloc, look_drew]
    have X4 : lk W (w.heap.size + 1 + 1) = some (.cells (cw Z25).toArray 32 (0, 0)) := by rw [← hW]; simp [look_alloc, look_drew]
    have bel : Below w.heap.size w W := by rw [← hW]; (repeat' (first | with_reducible exact Below.refl _ _ | with_reducible assumption | with_reducible apply below_drewN | with_reducible apply Below.drew | with_reducible apply Below.setCell | with_reducible apply Below.alloc | (simp; done) | omega | (simp; omega)))
    have hsz : w.heap.size + 2 < W.heap.size := by rw [← hW]; simp
    clear hW
    refine (HR.out _ (HM.out.on bel)).mono ?_
    rintro e w1 ⟨rfl, ho1, hk1⟩
    have hgl := HM.out.lt
    have Y2 := look_kp X2 hk1 (by omega)
    have Y3 := look_kp X3 hk1 (by omega)
    have Y4 := look_kp X4 hk1 (by omega)
    have hs1 : w.heap.size + 2 < w1.heap.size := Nat.lt_of_lt_of_le hsz hk1.size
    have HK1 := Keep.trans (Keep.of (p := 0 < n) (g := g) bel) hk1
    clear X2 X3 X4 bel hsz hk1
    have c1 : w1.cell? ⟨w.heap.size + 1, 1, none⟩ = some (.int .i64 (a : Int)) := by rw [← HAE.out]; exact cell_lk Y3 1
    have c0 : w1.cell? ⟨w.heap.size + 1, 0, none⟩ = some (.int .i64 34) := cell_lk Y3 0
    have hm1 : Mem w1 S n c l' := ho1.1
    have hxb := hx hm1
    go_wp2_with (first
      | (go_at_call 55; (with_reducible refine (HLD.out _ hm1).mono ?_); rintro e w3 ⟨rfl, m3, rfl⟩)
      | (go_at_call 88; refine (sext_ref _ _ _ hxb.1 hxb.2).mono ?_; rintro e w4 ⟨rfl, m4, rfl⟩)
      | (refine wpList_load_look rfl _ rfl _ rfl (fun ob hob => ?_); simp only [look_drewN, Y2] at hob; subst hob; refine ⟨_, rfl, hLL, ?_⟩; simp only [Act.put, List.setIfInBounds_toArray, List.set_cons_zero, List.set_cons_succ]))
    obtain ⟨W, hW⟩ : ∃ W, w1.drewN (m3) = W := ⟨_, rfl⟩
    rw [hW]
    replace Y2 : lk W w.heap.size = some (.cells (cw L).toArray 32 (0, 0)) := by rw [← hW]; exact Y2
    replace Y4 : lk W (w.heap.size + 1 + 1) = some (.cells (cw Z25).toArray 32 (0, 0)) := by rw [← hW]; exact Y4
    replace hs1 : w.heap.size + 2 < W.heap.size := by rw [← hW]; exact hs1
    replace HK1 : Keep (0 < n) g w W := by rw [← hW]; exact HK1.trans (Keep.drewN _ _ _ _)
    replace ho1 : Out W S n c l' g := by rw [← hW]; exact ho1.on (below_drewN (Below.refl _ _) _)
    clear hW Y3 c0 hm1 c1
    refine (HS.out _).mono ?_
    rintro e w5 ⟨rfl, hb5⟩
    replace Y2 := look_on Y2 hb5 (by omega)
    replace Y4 := look_on Y4 hb5 (by omega)
    have HK5 := Lib.hid (Keep.trans HK1 (Keep.of hb5))
    have HO5 := Lib.hid (ho1.on hb5)
    clear hb5 HK1 ho1
    have Q2 := Y2
    replace Y4 := lk_rowN (b := w.heap.size) (cs := (cw R).toArray) Y4 (by omega)
    replace Y2 := lk_row (M := R) Y2
    have HK6 := Lib.hid (Keep.setRow (k := w.heap.size) HK5.out (by omega) (cw R).toArray)
    have HO6 := Lib.hid (Out.setRow (k := w.heap.size) (cs := (cw R).toArray) HO5.out (by omega))
    have cp : (w5.setRow w.heap.size (cw R).toArray).cell? ⟨w.heap.size, 16, none⟩ = some (.int .u32 (wd R 16)) := (cell_lk Y2 16).trans (by simpa using cw_at hRL (show 16 < 25 by omega))
    have fp : (w5.setRow w.heap.size (cw R).toArray).frozen? ⟨w.heap.size, 16, none⟩ = false := frozen_lk Y2 16
    obtain ⟨T, hT⟩ : ∃ T, Hid ((wd R 16 + 4) % 4294967296 = T) := ⟨_, rfl⟩
    have U2 := lk_set Y2 16 T
    have U4 := lk_setN (k := 16) (v := .int .u32 T) Y4 (show ¬ w.heap.size = w.heap.size + 1 + 1 by omega)
    have hRT : ((R).set 16 T).length = 25 := by rw [List.length_set]; exact hRL
    have HO3 := Lib.hid (Out.setCellN (k := w.heap.size) HO6.out (by omega) 16 (.int .u32 T))
    have HK3 := Lib.hid (Keep.setCellN (k := w.heap.size) HK6.out (by omega) 16 (.int .u32 T))
    repeat' (first
      | (with_reducible refine then_normal ?_) | (with_reducible refine wp_exit ?_) | (with_reducible refine wp_ret ?_) | (with_reducible refine then_exit ?_) | (with_reducible refine blk_hit ?_) | (with_reducible refine blk_pass (by decide) ?_) | (with_reducible refine then_ret ?_) | (with_reducible refine blk_ret ?_) | (with_reducible refine blk_normal ?_)
      | (rw [hT.out])
      | (refine wpList_store_look rfl _ _ rfl _ rfl rfl hRL (fun ob hob => by (rw [Q2] at hob; subst hob; exact ⟨_, rfl, hLL⟩)) (fun w4 hw4 => ?_); subst hw4; simp only [Act.put, List.setIfInBounds_toArray, List.set_cons_zero, List.set_cons_succ])
      | (refine wpList_load_look rfl _ rfl _ rfl (fun ob hob => ?_); rw [U2] at hob; subst hob; refine ⟨_, rfl, hRT, ?_⟩; simp only [Act.put, List.setIfInBounds_toArray, List.set_cons_zero, List.set_cons_succ])
      | (refine wpList_store_look rfl _ _ rfl _ rfl rfl hRT (fun ob hob => by (rw [U4] at hob; subst hob; exact ⟨_, rfl, Z25_len⟩)) (fun w4 hw4 => ?_); subst hw4; simp only [Act.put, List.setIfInBounds_toArray, List.set_cons_zero, List.set_cons_succ])
      | go_values | go_skip | go_guarded | go_step | go_upon | (simp only [Int.not_lt, Int.not_le] at *; go_simp) | (go_values <;> (try go_simp)) | (go_ite <;> go_prune <;> (try go_simp)))
    exact bodyPost_ret (v := cpV ((R).set 16 T)) (results_cpu rfl _ _ (w.heap.size + 1 + 1) rfl hRT (lk_row U4)) rfl ⟨by rw [← hT.out] <;> rfl, HO3.out.setRow (by omega), HK3.out.setRow (by omega) _⟩
end Go.Proofs.YtfnfbdjbdbifaaaDoor

namespace Go.Proofs.YtfnfbdjbdbifaaaDoor
set_option linter.unusedVariables false
set_option linter.unusedSimpArgs false
set_option maxRecDepth 20000
open Go.ChangeShapes Go.WideShapes Go.ChangeAt Go.RowKit Go.Proofs.YtfnfbdjbdbifaaaDoor.Num Go.Proofs.YtfnfbdjbdbifaaaDoor.Mem Go.Proofs.YtfnfbdjbdbifaaaDoor.Isa
/- The reference: branches and jumps. -/
set_option maxHeartbeats 1000000 in
theorem jump_jal (L : List Int) (A b c m : Int) (a : Nat) (w : World) (hL : C25 L) (ha : A = a) (a1 : a < 16) (m0 : -32768 ≤ m) (m1 : m ≤ 65535) :
    Calls Tryd.prog 59 #[cpV L, instV 48 A b c m] w fun e w' => e = .returned (cpV ((setL L A ((wd L 16 + 4) % 4294967296)).set 16 ((wd L 16 + 4 * m) % 4294967296))) ∧ Below w.heap.size w w' := by
  subst ha
  have hLL := hL.1
  have HS := Lib.hid (fun v W => set_ref L a v W hL a1)
  have hRL0 : ∀ v, (setL L (a : Int) v).length = 25 := fun v => by rw [setL_len]; exact hLL
  have e16 := cw_at hLL (show 16 < 25 by omega)
  unfold instV
  obtain ⟨F1, F2, F3, -⟩ := cw_facts
  go_enter Tryd.func59, Tryd.ntmps59
  go_wp2_with (first
    | (refine wpList_box_box rfl _ rfl rfl ?_; simp only [Act.put, List.setIfInBounds_toArray, List.set_cons_zero, List.set_cons_succ])
    | (refine wpList_alloc_box rfl rfl ?_; simp only [Act.put, List.setIfInBounds_toArray, List.set_cons_zero, List.set_cons_succ])
    | (refine wpList_load_look rfl _ rfl _ rfl (fun ob hob => ?_); simp [look_alloc, look_setRow, look_drew, look_drewN, look_setCell, Nat.add_assoc] at hob; subst hob; refine ⟨_, rfl, by (first | with_reducible assumption | (simp only [List.length_set]; with_reducible assumption) | exact Z25_len), ?_⟩; simp only [Act.put, List.setIfInBounds_toArray, List.set_cons_zero, List.set_cons_succ]))
  simp only [World.size_alloc]
  generalize hW : World.alloc (World.alloc (World.alloc w _) _) _ = W
  have X2 : lk W w.heap.size = some (.cells (cw L).toArray 32 (0, 0)) := by rw [← hW]; simp [look_alloc, look_setRow, look_drew, look_drewN, look_setCell, Nat.add_assoc] <;> omega
  have X3 : lk W (w.heap.size + 1) = some (.cells #[.int .i64 48, .int .i64 (a : Int), .int .i64 b, .int .i64 c, .int .i32 m] 27 (0, 0)) := by rw [← hW]; simp [look_alloc, look_setRow, look_drew, look_drewN, look_setCell, Nat.add_assoc]
  have X4 : lk W (w.heap.size + 1 + 1) = some (.cells (cw Z25).toArray 32 (0, 0)) := by rw [← hW]; simp [look_alloc, look_setRow, look_drew, look_drewN, look_setCell, Nat.add_assoc]
  have bel : Below w.heap.size w W := by rw [← hW]; (repeat' (first | with_reducible exact Below.refl _ _ | with_reducible assumption | with_reducible apply below_drewN | with_reducible apply Below.drew | with_reducible apply Below.setCell | with_reducible apply Below.alloc | (simp; done) | omega | (simp; omega)))
  have hsz : w.heap.size + 2 < W.heap.size := by rw [← hW]; simp
  clear hW
  refine (HS.out _ _).mono ?_
  rintro e w6 ⟨rfl, hb6⟩
  have Y2 := look_on X2 hb6 (by omega)
  have Y4 := look_on X4 hb6 (by omega)
  have HB6 := below_step bel hb6
  clear hb6 X2 X3 X4
  have hRL := hRL0 ((wd L 16 + 4) % 4294967296)
  clear hRL0
  generalize hR : setL L _ _ = R at *
  generalize hT : (wd L 16 + 4 * (m % 4294967296) % 4294967296) % 4294967296 = T at *
  have V2 := lk_row (M := R) Y2
  have V4 : lk (w6.setRow w.heap.size (cw R).toArray) (w.heap.size + 1 + 1) = _ := lk_rowN Y4 (by omega)
  have d5 : (w6.setRow w.heap.size (cw R).toArray).cell? ⟨w.heap.size, 16, none⟩ = some (.int .u32 (wd R 16)) := (cell_lk V2 16).trans (by simpa using cw_at hRL (show 16 < 25 by omega))
  have f5 : (w6.setRow w.heap.size (cw R).toArray).frozen? ⟨w.heap.size, 16, none⟩ = false := frozen_lk V2 16
  have U2 := lk_set V2 16 T
  have U4 := lk_setN (k := 16) (v := .int .u32 T) V4 (show ¬ w.heap.size = w.heap.size + 1 + 1 by omega)
  have hRT : (R.set 16 T).length = 25 := by rw [List.length_set]; exact hRL
  have HB7 : Below w.heap.size w ((w6.setRow w.heap.size (cw R).toArray).setCell ⟨w.heap.size, 16, none⟩ (.int .u32 T)) := (below_setRow HB6 _ (by omega) _).setCell (Nat.le_refl _) _
  repeat' (first
    | (with_reducible refine then_normal ?_) | (with_reducible refine wp_exit ?_) | (with_reducible refine wp_ret ?_) | (with_reducible refine then_exit ?_) | (with_reducible refine blk_hit ?_) | (with_reducible refine blk_pass (by decide) ?_) | (with_reducible refine then_ret ?_) | (with_reducible refine blk_ret ?_) | (with_reducible refine blk_normal ?_)
    | (refine wpList_store_look rfl _ _ rfl _ rfl rfl hRL (fun ob hob => by (rw [Y2] at hob; subst hob; exact ⟨_, rfl, hLL⟩)) (fun w2 hw2 => ?_); subst hw2; simp only [Act.put, List.setIfInBounds_toArray, List.set_cons_zero, List.set_cons_succ])
    | (refine wpList_load_look rfl _ rfl _ rfl (fun ob hob => ?_); rw [U2] at hob; subst hob; refine ⟨_, rfl, hRT, ?_⟩; simp only [Act.put, List.setIfInBounds_toArray, List.set_cons_zero, List.set_cons_succ])
    | (refine wpList_store_look rfl _ _ rfl _ rfl rfl hRT (fun ob hob => by (rw [U4] at hob; subst hob; exact ⟨_, rfl, Z25_len⟩)) (fun w2 hw2 => ?_); subst hw2; simp only [Act.put, List.setIfInBounds_toArray, List.set_cons_zero, List.set_cons_succ])
    | go_values | go_skip | go_guarded | go_step | go_upon | (simp only [Int.not_lt, Int.not_le] at *; go_simp) | (go_values <;> (try go_simp)) | (go_ite <;> go_prune <;> (try go_simp)))
  exact bodyPost_ret (v := cpV (R.set 16 T)) (results_cpu rfl _ _ (w.heap.size + 1 + 1) rfl hRT (lk_row U4)) rfl ⟨by rw [← hT, ← hR]; rw [show (wd L 16 + 4 * (m % 4294967296) % 4294967296) % 4294967296 = (wd L 16 + 4 * m) % 4294967296 by omega], below_setRow HB7 _ (by omega) _⟩
set_option maxHeartbeats 1000000 in
theorem jump_jalr (L : List Int) (A B c m : Int) (a b : Nat) (w : World) (hL : C25 L) (ha : A = a) (a1 : a < 16) (hb : B = b) (b1 : b < 16) (m0 : -32768 ≤ m) (m1 : m ≤ 65535) :
    Calls Tryd.prog 59 #[cpV L, instV 49 A B c m] w fun e w' => e = .returned (cpV ((setL L A ((wd L 16 + 4) % 4294967296)).set 16 ((wd L b + m) % 4294967296))) ∧ Below w.heap.size w w' := by
  subst ha hb
  have hLL := hL.1
  have HS := Lib.hid (fun v W => set_ref L a v W hL a1)
  have hRL0 : ∀ v, (setL L (a : Int) v).length = 25 := fun v => by rw [setL_len]; exact hLL
  have e16 := cw_at hLL (show 16 < 25 by omega)
  have hb0 : (0 : Int) ≤ b := by omega
  have hb1 : (b : Int) < 16 := by omega
  have hb25 : b < 25 := by omega
  have eA := cw_at hLL hb25
  unfold instV
  obtain ⟨F1, F2, F3, -⟩ := cw_facts
  go_enter Tryd.func59, Tryd.ntmps59
  go_wp2_with (first
    | (refine wpList_box_box rfl _ rfl rfl ?_; simp only [Act.put, List.setIfInBounds_toArray, List.set_cons_zero, List.set_cons_succ])
    | (refine wpList_alloc_box rfl rfl ?_; simp only [Act.put, List.setIfInBounds_toArray, List.set_cons_zero, List.set_cons_succ])
    | (refine wpList_load_look rfl _ rfl _ rfl (fun ob hob => ?_); simp [look_alloc, look_setRow, look_drew, look_drewN, look_setCell, Nat.add_assoc] at hob; subst hob; refine ⟨_, rfl, by (first | with_reducible assumption | (simp only [List.length_set]; with_reducible assumption) | exact Z25_len), ?_⟩; simp only [Act.put, List.setIfInBounds_toArray, List.set_cons_zero, List.set_cons_succ]))
  all_goals (try go_region)
  all_goals go_wp2_with (first
    | (refine wpList_load_look rfl _ rfl _ rfl (fun ob hob => ?_); simp [look_alloc, look_setRow, look_drew, look_drewN, look_setCell, Nat.add_assoc] at hob; subst hob; refine ⟨_, rfl, by (first | with_reducible assumption | (simp only [List.length_set]; with_reducible assumption) | exact Z25_len), ?_⟩; simp only [Act.put, List.setIfInBounds_toArray, List.set_cons_zero, List.set_cons_succ]))
  simp only [World.size_alloc]
  generalize hW : World.drew _ = W
  have X2 : lk W w.heap.size = some (.cells (cw L).toArray 32 (0, 0)) := by rw [← hW]; simp [look_alloc, look_setRow, look_drew, look_drewN, look_setCell, Nat.add_assoc] <;> omega
  have X3 : lk W (w.heap.size + 1) = some (.cells #[.int .i64 49, .int .i64 (a : Int), .int .i64 (b : Int), .int .i64 c, .int .i32 m] 27 (0, 0)) := by rw [← hW]; simp [look_alloc, look_setRow, look_drew, look_drewN, look_setCell, Nat.add_assoc]
  have X4 : lk W (w.heap.size + 1 + 1) = some (.cells (cw Z25).toArray 32 (0, 0)) := by rw [← hW]; simp [look_alloc, look_setRow, look_drew, look_drewN, look_setCell, Nat.add_assoc]
  have bel : Below w.heap.size w W := by rw [← hW]; (repeat' (first | with_reducible exact Below.refl _ _ | with_reducible assumption | with_reducible apply below_drewN | with_reducible apply Below.drew | with_reducible apply Below.setCell | with_reducible apply Below.alloc | (simp; done) | omega | (simp; omega)))
  have hsz : w.heap.size + 2 < W.heap.size := by rw [← hW]; simp
  clear hW
  refine (HS.out _ _).mono ?_
  rintro e w6 ⟨rfl, hb6⟩
  have Y2 := look_on X2 hb6 (by omega)
  have Y4 := look_on X4 hb6 (by omega)
  have HB6 := below_step bel hb6
  clear hb6 X2 X3 X4
  have hRL := hRL0 ((wd L 16 + 4) % 4294967296)
  clear hRL0
  generalize hR : setL L _ _ = R at *
  generalize hT : (wd L b + m % 4294967296) % 4294967296 = T at *
  have V2 := lk_row (M := R) Y2
  have V4 : lk (w6.setRow w.heap.size (cw R).toArray) (w.heap.size + 1 + 1) = _ := lk_rowN Y4 (by omega)
  have d5 : (w6.setRow w.heap.size (cw R).toArray).cell? ⟨w.heap.size, 16, none⟩ = some (.int .u32 (wd R 16)) := (cell_lk V2 16).trans (by simpa using cw_at hRL (show 16 < 25 by omega))
  have f5 : (w6.setRow w.heap.size (cw R).toArray).frozen? ⟨w.heap.size, 16, none⟩ = false := frozen_lk V2 16
  have U2 := lk_set V2 16 T
  have U4 := lk_setN (k := 16) (v := .int .u32 T) V4 (show ¬ w.heap.size = w.heap.size + 1 + 1 by omega)
  have hRT : (R.set 16 T).length = 25 := by rw [List.length_set]; exact hRL
  have HB7 : Below w.heap.size w ((w6.setRow w.heap.size (cw R).toArray).setCell ⟨w.heap.size, 16, none⟩ (.int .u32 T)) := (below_setRow HB6 _ (by omega) _).setCell (Nat.le_refl _) _
  repeat' (first
    | (with_reducible refine then_normal ?_) | (with_reducible refine wp_exit ?_) | (with_reducible refine wp_ret ?_) | (with_reducible refine then_exit ?_) | (with_reducible refine blk_hit ?_) | (with_reducible refine blk_pass (by decide) ?_) | (with_reducible refine then_ret ?_) | (with_reducible refine blk_ret ?_) | (with_reducible refine blk_normal ?_)
    | (refine wpList_store_look rfl _ _ rfl _ rfl rfl hRL (fun ob hob => by (rw [Y2] at hob; subst hob; exact ⟨_, rfl, hLL⟩)) (fun w2 hw2 => ?_); subst hw2; simp only [Act.put, List.setIfInBounds_toArray, List.set_cons_zero, List.set_cons_succ])
    | (refine wpList_load_look rfl _ rfl _ rfl (fun ob hob => ?_); rw [U2] at hob; subst hob; refine ⟨_, rfl, hRT, ?_⟩; simp only [Act.put, List.setIfInBounds_toArray, List.set_cons_zero, List.set_cons_succ])
    | (refine wpList_store_look rfl _ _ rfl _ rfl rfl hRT (fun ob hob => by (rw [U4] at hob; subst hob; exact ⟨_, rfl, Z25_len⟩)) (fun w2 hw2 => ?_); subst hw2; simp only [Act.put, List.setIfInBounds_toArray, List.set_cons_zero, List.set_cons_succ])
    | go_values | go_skip | go_guarded | go_step | go_upon | (simp only [Int.not_lt, Int.not_le] at *; go_simp) | (go_values <;> (try go_simp)) | (go_ite <;> go_prune <;> (try go_simp)))
  exact bodyPost_ret (v := cpV (R.set 16 T)) (results_cpu rfl _ _ (w.heap.size + 1 + 1) rfl hRT (lk_row U4)) rfl ⟨by rw [← hT, ← hR]; rw [show (wd L b + m % 4294967296) % 4294967296 = (wd L b + m) % 4294967296 by omega], below_setRow HB7 _ (by omega) _⟩
set_option maxHeartbeats 1000000 in
theorem jump_br (L : List Int) (o A B c m : Int) (a b : Nat) (w : World) (hL : C25 L) (ha : A = a) (a1 : a < 16) (hb : B = b) (b1 : b < 16) (m0 : -32768 ≤ m) (m1 : m ≤ 65535) (ho : 40 ≤ o ∧ o ≤ 45) :
    Calls Tryd.prog 59 #[cpV L, instV o A B c m] w fun e w' => e = .returned (cpV (if tkn o (wd L a) (wd L b) = true then L.set 16 ((wd L 16 + 4 * m) % 4294967296) else advL L)) ∧ Below w.heap.size w w' := by
  subst ha hb
  have hLL := hL.1
  have HT := Lib.hid (fun W => taken_ref o (wd L a) (wd L b) W ho)
  generalize htk : tkn o (wd L a) (wd L b) = tk at *
  clear htk
  unfold advL
  have n48 : (o == 48) = false := by rw [beq_eq_false_iff_ne]; omega
  have n49 : (o == 49) = false := by rw [beq_eq_false_iff_ne]; omega
  have e16 := cw_at hLL (show 16 < 25 by omega)
  have hb0 : (0 : Int) ≤ b := by omega
  have hb1 : (b : Int) < 16 := by omega
  have hb25 : b < 25 := by omega
  have eB := cw_at hLL hb25
  have ha0 : (0 : Int) ≤ a := by omega
  have ha1 : (a : Int) < 16 := by omega
  have ha25 : a < 25 := by omega
  have eA := cw_at hLL ha25
  unfold instV
  obtain ⟨F1, F2, F3, -⟩ := cw_facts
  go_enter Tryd.func59, Tryd.ntmps59
  go_wp2_with (first
    | (refine wpList_box_box rfl _ rfl rfl ?_; simp only [Act.put, List.setIfInBounds_toArray, List.set_cons_zero, List.set_cons_succ])
    | (refine wpList_alloc_box rfl rfl ?_; simp only [Act.put, List.setIfInBounds_toArray, List.set_cons_zero, List.set_cons_succ]))
  simp only [World.size_alloc]
  generalize hW : World.alloc (World.alloc (World.alloc w _) _) _ = W
  have X2 : lk W w.heap.size = some (.cells (cw L).toArray 32 (0, 0)) := by rw [← hW]; simp [look_alloc, look_setRow, look_drew, look_drewN, look_setCell, Nat.add_assoc] <;> omega
  have X3 : lk W (w.heap.size + 1) = some (.cells #[.int .i64 o, .int .i64 (a : Int), .int .i64 (b : Int), .int .i64 c, .int .i32 m] 27 (0, 0)) := by rw [← hW]; simp [look_alloc, look_setRow, look_drew, look_drewN, look_setCell, Nat.add_assoc]
  have X4 : lk W (w.heap.size + 1 + 1) = some (.cells (cw Z25).toArray 32 (0, 0)) := by rw [← hW]; simp [look_alloc, look_setRow, look_drew, look_drewN, look_setCell, Nat.add_assoc]
  have bel : Below w.heap.size w W := by rw [← hW]; (repeat' (first | with_reducible exact Below.refl _ _ | with_reducible assumption | with_reducible apply below_drewN | with_reducible apply Below.drew | with_reducible apply Below.setCell | with_reducible apply Below.alloc | (simp; done) | omega | (simp; omega)))
  have hsz : w.heap.size + 2 < W.heap.size := by rw [← hW]; simp
  clear hW
  have C2 : ∀ k : Nat, k < 25 → W.cell? ⟨w.heap.size, k, none⟩ = some (.int .u32 (wd L k)) := fun k hk => (cell_lk X2 k).trans (by simpa using cw_at hLL hk)
  have s0 : W.drew.cell? ⟨w.heap.size + 1, 0, none⟩ = some (.int .i64 o) := cell_lk X3 0
  have s1 : W.drew.cell? ⟨w.heap.size + 1, 1, none⟩ = some (.int .i64 (a : Int)) := cell_lk X3 1
  have s2 : W.drew.cell? ⟨w.heap.size + 1, 2, none⟩ = some (.int .i64 (b : Int)) := cell_lk X3 2
  have s3 : W.drew.cell? ⟨w.heap.size, a, none⟩ = _ := C2 a ha25
  have s4 : W.drew.cell? ⟨w.heap.size, b, none⟩ = _ := C2 b hb25
  go_region_held3 (fun w' => w'.cell? ⟨w.heap.size + 1, 0, none⟩ = some (.int .i64 o) ∧ w'.cell? ⟨w.heap.size + 1, 1, none⟩ = some (.int .i64 a) ∧ w'.cell? ⟨w.heap.size + 1, 2, none⟩ = some (.int .i64 b) ∧ w'.cell? ⟨w.heap.size, a, none⟩ = some (.int .u32 (wd L a)) ∧ w'.cell? ⟨w.heap.size, b, none⟩ = some (.int .u32 (wd L b))) (first | exact ⟨s0, s1, s2, s3, s4⟩ | go_keep) (first | (go_at_call 86; refine (HT.out _).mono ?_; rintro e w6 ⟨rfl, rfl⟩))
  have V2 : lk W.drew w.heap.size = _ := X2
  have V4 : lk W.drew (w.heap.size + 1 + 1) = _ := X4
  have HB6 : Below w.heap.size w W.drew := bel.drew
  have c4 : W.drew.cell? ⟨w.heap.size + 1, 4, none⟩ = some (.int .i32 m) := cell_lk X3 4
  have d5 : W.drew.cell? ⟨w.heap.size, 16, none⟩ = some (.int .u32 (wd L 16)) := C2 16 (by omega)
  have f5 : W.drew.frozen? ⟨w.heap.size, 16, none⟩ = false := frozen_lk V2 16
  clear s0 s1 s2 s3 s4 C2 X2 X3 X4 bel
  generalize W.drew = W6 at *
  cases tk
  · generalize hT : (wd L 16 + 4) % 4294967296 = T at *
    have U2 := lk_set V2 16 T
    have U4 := lk_setN (k := 16) (v := .int .u32 T) V4 (show ¬ w.heap.size = w.heap.size + 1 + 1 by omega)
    have hRT : (L.set 16 T).length = 25 := by rw [List.length_set]; exact hLL
    have HB7 : Below w.heap.size w (W6.setCell ⟨w.heap.size, 16, none⟩ (.int .u32 T)) := HB6.setCell (Nat.le_refl _) _
    repeat' (first
      | (with_reducible refine then_normal ?_) | (with_reducible refine wp_exit ?_) | (with_reducible refine wp_ret ?_) | (with_reducible refine then_exit ?_) | (with_reducible refine blk_hit ?_) | (with_reducible refine blk_pass (by decide) ?_) | (with_reducible refine then_ret ?_) | (with_reducible refine blk_ret ?_) | (with_reducible refine blk_normal ?_)
      | (rw [hT])
      | fail
      | (refine wpList_load_look rfl _ rfl _ rfl (fun ob hob => ?_); rw [U2] at hob; subst hob; refine ⟨_, rfl, hRT, ?_⟩; simp only [Act.put, List.setIfInBounds_toArray, List.set_cons_zero, List.set_cons_succ])
      | (refine wpList_store_look rfl _ _ rfl _ rfl rfl hRT (fun ob hob => by (rw [U4] at hob; subst hob; exact ⟨_, rfl, Z25_len⟩)) (fun w2 hw2 => ?_); subst hw2; simp only [Act.put, List.setIfInBounds_toArray, List.set_cons_zero, List.set_cons_succ])
      | go_values | go_skip | go_guarded | go_step | go_upon | (simp only [Int.not_lt, Int.not_le] at *; go_simp) | (go_values <;> (try go_simp)) | (go_ite <;> go_prune <;> (try go_simp)))
    exact bodyPost_ret (v := cpV (L.set 16 T)) (results_cpu rfl _ _ (w.heap.size + 1 + 1) rfl hRT (lk_row U4)) rfl ⟨by rw [← hT], below_setRow HB7 _ (by omega) _⟩
  · have eT := Lib.hid (show (wd L 16 + 4 * (m % 4294967296) % 4294967296) % 4294967296 = (wd L 16 + 4 * m) % 4294967296 by omega)
    generalize hT : (wd L 16 + 4 * m) % 4294967296 = T at *
    have U2 := lk_set V2 16 T
    have U4 := lk_setN (k := 16) (v := .int .u32 T) V4 (show ¬ w.heap.size = w.heap.size + 1 + 1 by omega)
    have hRT : (L.set 16 T).length = 25 := by rw [List.length_set]; exact hLL
    have HB7 : Below w.heap.size w (W6.setCell ⟨w.heap.size, 16, none⟩ (.int .u32 T)) := HB6.setCell (Nat.le_refl _) _
    repeat' (first
      | (with_reducible refine then_normal ?_) | (with_reducible refine wp_exit ?_) | (with_reducible refine wp_ret ?_) | (with_reducible refine then_exit ?_) | (with_reducible refine blk_hit ?_) | (with_reducible refine blk_pass (by decide) ?_) | (with_reducible refine then_ret ?_) | (with_reducible refine blk_ret ?_) | (with_reducible refine blk_normal ?_)
      | (rw [hT])
      | (rw [eT.out])
      | (refine wpList_load_look rfl _ rfl _ rfl (fun ob hob => ?_); rw [U2] at hob; subst hob; refine ⟨_, rfl, hRT, ?_⟩; simp only [Act.put, List.setIfInBounds_toArray, List.set_cons_zero, List.set_cons_succ])
      | (refine wpList_store_look rfl _ _ rfl _ rfl rfl hRT (fun ob hob => by (rw [U4] at hob; subst hob; exact ⟨_, rfl, Z25_len⟩)) (fun w2 hw2 => ?_); subst hw2; simp only [Act.put, List.setIfInBounds_toArray, List.set_cons_zero, List.set_cons_succ])
      | go_values | go_skip | go_guarded | go_step | go_upon | (simp only [Int.not_lt, Int.not_le] at *; go_simp) | (go_values <;> (try go_simp)) | (go_ite <;> go_prune <;> (try go_simp)))
    exact bodyPost_ret (v := cpV (L.set 16 T)) (results_cpu rfl _ _ (w.heap.size + 1 + 1) rfl hRT (lk_row U4)) rfl ⟨by rw [← hT], below_setRow HB7 _ (by omega) _⟩
end Go.Proofs.YtfnfbdjbdbifaaaDoor
