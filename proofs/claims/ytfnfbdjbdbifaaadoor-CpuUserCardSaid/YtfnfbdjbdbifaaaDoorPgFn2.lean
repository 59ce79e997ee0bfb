import Derived.Test.YtfnfbdjbdbifaaaDoorPgRef
namespace Go.Proofs.YtfnfbdjbdbifaaaDoor
set_option linter.unusedVariables false
set_option linter.unusedSimpArgs false
open Go.ChangeShapes Go.WideShapes Go.ChangeAt Go.RowKit Go.Proofs.YtfnfbdjbdbifaaaDoor.Num Go.Proofs.YtfnfbdjbdbifaaaDoor.Mem
/-- The flags that an access sets, and the memory with them. -/
def tcF (a : Int) : Nat := if a = 3 then 24 else 8
theorem tcF_or (a : Int) : tcF a = 8 ∨ tcF a = 24 := by unfold tcF; split <;> simp
def tcL (n : Nat) (l : List Int) (e a : Int) : List Int := if okB n e 4 = true then l.set (e / 4).toNat (orW (wd l (e / 4).toNat) (tcF a)) else l
theorem tcL_no {n : Nat} {l : List Int} {e a : Int} (h : okB n e 4 = false) : tcL n l e a = l := by unfold tcL; rw [h]; rfl
theorem tcL_yes {n : Nat} {l : List Int} {e a : Int} (h : okB n e 4 = true) : tcL n l e a = l.set (e / 4).toNat (orW (wd l (e / 4).toNat) (tcF a)) := by unfold tcL; rw [if_pos h]
theorem tcL_len (n : Nat) (l : List Int) (e a : Int) : (tcL n l e a).length = l.length := by unfold tcL; split <;> simp
theorem touch_no (A : Option Addr) (n c : Nat) (l : List Int) (e a : Int) (w : World) (hm : Mem w A n c l) (e0 : 0 ≤ e) (e1 : e ≤ 4294967295) (ho : okB n e 4 = false) :
    Calls Tryd.prog 92 #[.slice A n c, .int .u32 e, .int .i64 a] w (Gives n (tcL n l e a) w) := by
  have hn := hm.2.2.1
  have HL := Lib.hid (fun W => load_no A n c e 4 W hn e0 e1 ho)
  have HT := Lib.hid (tcL_no (l := l) (a := a) ho)
  have HS := Lib.hid (fun v W (h0 : 0 ≤ v) (h1 : v ≤ 4294967295) (hM : Mem W A n c l) => (store_any A n c l e 4 v W hM e0 e1 h0 h1).mono (R' := fun e w' => (∃ A c, e = .returned (.tuple #[.slice A n c, .bool false]) ∧ Mem w' A n c l) ∧ Below W.heap.size W w') fun _ _ ⟨⟨A, c, he, hM⟩, hb⟩ => by
    rw [ho] at he; rw [if_neg (by rw [ho]; decide)] at hM; exact ⟨⟨A, c, he, hM⟩, hb⟩)
  have HM := Lib.hid hm
  have o1 := or_is 0 8 (by omega) (by omega) (by omega)
  have o2 := or_is 0 24 (by omega) (by omega) (by omega)
  have o8 := orW_bd 0 8 (by omega) (by omega) (by omega)
  have o24 := orW_bd 0 24 (by omega) (by omega) (by omega)
  have o3 : bits .or .u32 8 16 = 24 := by decide +kernel
  clear hm ho
  replace o1 : bits .or .u32 0 8 = orW 0 8 := o1
  replace o2 : bits .or .u32 0 24 = orW 0 24 := o2
  generalize orW 0 8 = z8 at *
  generalize orW 0 24 = z24 at *
  by_cases ha : a = 3
  subst ha
  all_goals
    go_enter Tryd.func92, Tryd.ntmps92
    go_wp2_with (first
      | (go_at_call 38; refine (HL.out _).mono ?_; rintro e w1 ⟨rfl, m1, rfl⟩)
      | (go_at_call 48; refine (HS.out _ _ (by omega) (by omega) (HM.out.drewN m1)).mono ?_; rintro e w2 ⟨⟨A2, c2, rfl, hm2⟩, hb2⟩))
    go_ret
    exact ⟨⟨A2, c2, rfl, by rw [HT.out]; exact hm2⟩, below_step (below_drewN (Below.refl _ _) m1) hb2⟩
theorem touch_yes (A : Option Addr) (n c : Nat) (l : List Int) (e a : Int) (w : World) (hm : Mem w A n c l) (e0 : 0 ≤ e) (e1 : e ≤ 4294967295) (ho : okB n e 4 = true) :
    Calls Tryd.prog 92 #[.slice A n c, .int .u32 e, .int .i64 a] w (Gives n (tcL n l e a) w) := by
  have hn := hm.2.2.1
  have hx := wd_bd hm.2.2.2.1 (e / 4).toNat
  have HL := Lib.hid (fun W (hM : Mem W A n c l) => (load_yes A n c l e 4 W hM e0 e1 ho).mono (R' := fun e' w' => e' = .returned (.tuple #[.int .u32 (wd l (e / 4).toNat), .bool true]) ∧ ∃ m, w' = W.drewN m) fun _ _ ⟨he, hw⟩ => ⟨by rw [he]; rfl, hw⟩)
  have HT : Hid (∀ f v, f = tcF a → v = orW (wd l (e / 4).toNat) f → stV l e 4 v = tcL n l e a) := fun f v h1 h2 => by rw [tcL_yes ho, ← h1, ← h2]; rfl
  have HS := Lib.hid (fun v W (h0 : 0 ≤ v) (h1 : v ≤ 4294967295) (hM : Mem W A n c l) => (store_any A n c l e 4 v W hM e0 e1 h0 h1).mono (R' := fun e' w' => (∃ A c, e' = .returned (.tuple #[.slice A n c, .bool true]) ∧ Mem w' A n c (stV l e 4 v)) ∧ Below W.heap.size W w') fun _ _ ⟨⟨A, c, he, hM⟩, hb⟩ => by
    rw [ho] at he; rw [if_pos ho] at hM; exact ⟨⟨A, c, he, hM⟩, hb⟩)
  have HM := Lib.hid hm
  generalize wd l (e / 4).toNat = x at *
  have o1 := or_is x 8 hx.1 hx.2 (by omega)
  have o2 := or_is x 24 hx.1 hx.2 (by omega)
  have o8 := orW_bd x 8 hx.1 hx.2 (by omega)
  have o24 := orW_bd x 24 hx.1 hx.2 (by omega)
  have o3 : bits .or .u32 8 16 = 24 := by decide +kernel
  clear hm ho
  replace o1 : bits .or .u32 x 8 = orW x 8 := o1
  replace o2 : bits .or .u32 x 24 = orW x 24 := o2
  have T8 : Hid (¬ a = 3 → stV l e 4 (orW x 8) = tcL n l e a) := fun h => HT.out 8 _ (by unfold tcF; rw [if_neg h]) rfl
  have T24 : Hid (a = 3 → stV l e 4 (orW x 24) = tcL n l e a) := fun h => HT.out 24 _ (by unfold tcF; rw [if_pos h]) rfl
  clear HT
  generalize orW x 8 = z8 at *
  generalize orW x 24 = z24 at *
  by_cases ha : a = 3
  · have HA := Lib.hid (T24.out ha)
    subst ha
    go_enter Tryd.func92, Tryd.ntmps92
    go_wp2_with (first
      | (go_at_call 38; refine (HL.out _ HM.out).mono ?_; rintro e w1 ⟨rfl, m1, rfl⟩)
      | (go_at_call 48; refine (HS.out _ _ (by omega) (by omega) (HM.out.drewN m1)).mono ?_; rintro e w2 ⟨⟨A2, c2, rfl, hm2⟩, hb2⟩))
    go_ret
    exact ⟨⟨A2, c2, rfl, by rw [← HA.out]; exact hm2⟩, below_step (below_drewN (Below.refl _ _) m1) hb2⟩
  · have HA := Lib.hid (T8.out ha)
    go_enter Tryd.func92, Tryd.ntmps92
    go_wp2_with (first
      | (go_at_call 38; refine (HL.out _ HM.out).mono ?_; rintro e w1 ⟨rfl, m1, rfl⟩)
      | (go_at_call 48; refine (HS.out _ _ (by omega) (by omega) (HM.out.drewN m1)).mono ?_; rintro e w2 ⟨⟨A2, c2, rfl, hm2⟩, hb2⟩))
    go_ret
    exact ⟨⟨A2, c2, rfl, by rw [← HA.out]; exact hm2⟩, below_step (below_drewN (Below.refl _ _) m1) hb2⟩
theorem touch_any (A : Option Addr) (n c : Nat) (l : List Int) (e a : Int) (w : World) (hm : Mem w A n c l) (e0 : 0 ≤ e) (e1 : e ≤ 4294967295) :
    Calls Tryd.prog 92 #[.slice A n c, .int .u32 e, .int .i64 a] w (Gives n (tcL n l e a) w) := by
  cases ho : okB n e 4 with
  | false => exact touch_no A n c l e a w hm e0 e1 ho
  | true => exact touch_yes A n c l e a w hm e0 e1 ho
theorem mark_no (A : Option Addr) (n c : Nat) (e a : Int) (w : World) (hn : n ≤ 1024) (e0 : 0 ≤ e) (e1 : e ≤ 4294967295) (ho : okB n e 4 = false) :
    Calls Tryd.prog 82 #[.slice A n c, .int .u32 e, .int .i64 a] w fun e' w' => e' = .returned (.tuple #[]) ∧ ∃ m, w' = w.drewN m := by
  have HA := Lib.hid (fun W => within_any A n c e 4 W hn e0 e1)
  rw [ho] at HA
  clear ho
  go_enter Tryd.func82, Tryd.ntmps82
  go_wp2_with (go_at_call 79; refine (HA.out _).mono ?_; rintro e w2 ⟨rfl, m2, rfl⟩)
  refine bodyPost_ret (results_none rfl _ _ _) rfl ?_
  exact ⟨rfl, m2, rfl⟩
theorem mark_yes (g n c k : Nat) (l : List Int) (e a : Int) (w : World) (B : Nat) (hB : B ≤ g) (hg : Own w g l) (hl : l.length = n) (hn : n ≤ 1024) (hu : U32 l) (e0 : 0 ≤ e) (e1 : e ≤ 4294967295) (ho : okB n e 4 = true) (hk : e / 4 = k) :
    Calls Tryd.prog 82 #[.slice (some ⟨g, 0, none⟩) n c, .int .u32 e, .int .i64 a] w fun e' w' => e' = .returned (.tuple #[]) ∧ Own w' g (l.set k (orW (wd l k) (tcF a))) ∧ Below B w w' := by
  have HA := Lib.hid (fun W => within_any (some ⟨g, 0, none⟩) n c e 4 W hn e0 e1)
  rw [ho] at HA
  obtain ⟨hs, ha, hp, hi⟩ := okB_true ho
  have hkn : k < n := by omega
  have hcell := hg.cell (i := k) (by omega)
  have hfree := hg.free k
  have hx := wd_bd hu k
  have HG := Lib.hid hg
  have HKL : Hid (k < l.length) := by show k < _; omega
  have HT : Hid (∀ x, wd l k = x → ∀ v, v = orW x (tcF a) → l.set k (orW (wd l k) (tcF a)) = l.set k v) := fun x h1 v h2 => by rw [h1, h2]
  generalize hxx : wd l k = x at hcell hx
  replace HT := Lib.hid (HT.out x hxx)
  have o1 := or_is x 8 hx.1 hx.2 (by omega)
  replace o1 : bits .or .u32 x 8 = orW x 8 := o1
  have o8 := orW_bd x 8 hx.1 hx.2 (by omega)
  have o2 := or_is (orW x 8) 16 o8.1 o8.2 (by omega)
  replace o2 : bits .or .u32 (orW x 8) 16 = orW (orW x 8) 16 := o2
  have T8 : Hid (¬ a = 3 → orW x 8 = orW x (tcF a)) := fun h => by show _ = _; unfold tcF; rw [if_neg h]
  have T24 : Hid (a = 3 → orW (orW x 8) 16 = orW x (tcF a)) := fun h => by show _ = _; unfold tcF; rw [if_pos h, orW_8_16]
  generalize orW (orW x 8) 16 = z24 at *
  generalize orW x 8 = z8 at *
  generalize orW x (tcF a) = z at *
  clear hxx hg hl ho hs ha hi hp HT
  by_cases ha : a = 3
  · have HZ := Lib.hid (T24.out ha)
    subst ha
    go_enter Tryd.func82, Tryd.ntmps82
    go_wp2_with (go_at_call 79; refine (HA.out _).mono ?_; rintro e w2 ⟨rfl, m2, rfl⟩)
    go_end0
    refine ⟨rfl, ?_, ((below_drewN (Below.refl _ _) m2).setCell hB _).setCell hB _⟩
    have h1 := ((HG.out.drewN m2).set HKL.out z8).set (i := k) (by rw [List.length_set]; exact HKL.out) z24
    rw [List.set_set] at h1
    rw [← HZ.out]
    exact h1
  · have HZ := Lib.hid (T8.out ha)
    go_enter Tryd.func82, Tryd.ntmps82
    go_wp2_with (go_at_call 79; refine (HA.out _).mono ?_; rintro e w2 ⟨rfl, m2, rfl⟩)
    go_end0
    refine ⟨rfl, ?_, (below_drewN (Below.refl _ _) m2).setCell hB _⟩
    rw [← HZ.out]
    exact (HG.out.drewN m2).set HKL.out z8
end Go.Proofs.YtfnfbdjbdbifaaaDoor
