import Derived.Test.YtfnfbdjbdbifaaaDoorPgFn2
namespace Go.Proofs.YtfnfbdjbdbifaaaDoor
set_option linter.unusedVariables false
set_option linter.unusedSimpArgs false
set_option maxRecDepth 20000
open Go.ChangeShapes Go.WideShapes Go.ChangeAt Go.RowKit Go.Proofs.YtfnfbdjbdbifaaaDoor.Num Go.Proofs.YtfnfbdjbdbifaaaDoor.Mem
/- Stores and touches, whose results lie in new blocks. -/
def Fresh (B : Nat) (A : Option Addr) (n : Nat) : Prop := 0 < n → ∃ g, A = some ⟨g, 0, none⟩ ∧ B ≤ g
theorem fresh_of {B n : Nat} {A : Option Addr} {p : Nat → Prop} (h : 0 < n → ∃ g, A = some ⟨g, 0, none⟩ ∧ B ≤ g ∧ p g) : Fresh B A n := fun hn => by
  obtain ⟨g, h1, h2, _⟩ := h hn
  exact ⟨g, h1, h2⟩
theorem Fresh.le {B B' n : Nat} {A : Option Addr} (h : Fresh B A n) (hb : B' ≤ B) : Fresh B' A n := fun hn => by
  obtain ⟨g, h1, h2⟩ := h hn
  exact ⟨g, h1, by omega⟩
/-- What lies in new blocks stays where the new blocks stay. -/
theorem Mem.fresh {w w' : World} {A : Option Addr} {n c B : Nat} {l : List Int} (h : Mem w A n c l) (hf : Fresh B A n) (hw : ∀ g, B ≤ g → w'.heap[g]? = w.heap[g]?) : Mem w' A n c l := by
  obtain ⟨h1, h2, h3, h4, h5⟩ := h
  refine ⟨h1, h2, h3, h4, fun h0 => ?_⟩
  obtain ⟨b, off, hA, hc⟩ := h5 h0
  obtain ⟨g, hA', hg⟩ := hf (by omega)
  have e : b = g := by rw [hA] at hA'; injection hA' with e; injection e
  refine ⟨b, off, hA, fun i hi => ?_⟩
  have := hc i hi
  unfold World.cell? at this ⊢
  simp only at this ⊢
  rw [hw b (by omega)]
  exact this
def SnPost (n : Nat) (l : List Int) (a size v : Int) (w : World) (e : Ending) (w' : World) : Prop :=
  (∃ A c, e = .returned (.tuple #[.slice A n c, .bool (okB n a size)]) ∧ Mem w' A n c (if okB n a size = true then stV l a size v else l) ∧ Fresh w.heap.size A n) ∧ Below w.heap.size w w'
def GivesN (n : Nat) (l : List Int) (w : World) (e : Ending) (w' : World) : Prop := (∃ A c, e = .returned (.slice A n c) ∧ Mem w' A n c l ∧ Fresh w.heap.size A n) ∧ Below w.heap.size w w'
theorem sn_false {n c1 : Nat} {l : List Int} {a size v : Int} {w w1 : World} {A1 : Option Addr} (ho : okB n a size = false) (hm1 : Mem w1 A1 n c1 l) (hf : Fresh w.heap.size A1 n) (hb1 : Below w.heap.size w w1) (m : Nat) :
    SnPost n l a size v w (.returned (.tuple #[.slice A1 n c1, .bool false])) (w1.drewN m) :=
  ⟨⟨A1, c1, by rw [ho], by rw [ho]; exact hm1, hf⟩, below_drewN hb1 m⟩
theorem sn_true {n c1 g : Nat} {l : List Int} {a size v u : Int} {w w1 : World} (ho : okB n a size = true) (hm1 : Mem w1 (some ⟨g, 0, none⟩) n c1 l) (how : Own w1 g l) (hg : w.heap.size ≤ g) (hb1 : Below w.heap.size w w1) (m : Nat)
    (hu : u = stW (wd l (a / 4).toNat) a size v) (hv : 0 ≤ v) (hv' : v ≤ 4294967295) (h0 : 0 ≤ a) (hi : (a / 4).toNat < l.length) :
    SnPost n l a size v w (.returned (.tuple #[.slice (some ⟨g, 0, none⟩) n c1, .bool true])) ((w1.drewN m).setCell ⟨g, (a / 4).toNat, none⟩ (.int .u32 u)) := by
  have h2 := (how.drewN m).set hi u
  refine ⟨⟨_, c1, by rw [ho], ?_, fun _ => ⟨g, rfl, hg⟩⟩, (below_drewN hb1 m).setCell hg _⟩
  rw [if_pos ho]
  have e : l.set (a / 4).toNat u = stV l a size v := by rw [hu]; rfl
  rw [e] at h2
  exact h2.mem (by rw [stV_len]; exact hm1.1) hm1.2.1 hm1.2.2.1 (stV_u32 hm1.2.2.2.1 _ _ _ hv hv' h0)
theorem store_new (A : Option Addr) (n c : Nat) (l : List Int) (a size v : Int) (w : World) (hm : Mem w A n c l) (h0 : 0 ≤ a) (h1 : a ≤ 4294967295) (hv : 0 ≤ v) (hv' : v ≤ 4294967295) :
    Calls Tryd.prog 48 #[.slice A n c, .int .u32 a, .int .i64 size, .int .u32 v] w (SnPost n l a size v w) := by
  have hn := hm.2.2.1
  have hl := hm.1
  have hu := hm.2.2.2.1
  have HC := Lib.hid (clone_any A n c l w hm)
  have HA := Lib.hid (fun W => allows_any A n c a size W hn h0 h1)
  cases ho : okB n a size with
  | false =>
    rw [ho] at HA
    have HO := Lib.hid ho
    clear ho hl
    go_enter Tryd.func48, Tryd.ntmps48
    go_wp2_with (first | (go_at_call 66; refine (HC.out).mono ?_; rintro e w1 ⟨⟨A1, c1, rfl, hm1, hf1⟩, hb1⟩) | (go_at_call 69; refine (HA.out _).mono ?_; rintro e w2 ⟨rfl, m2, rfl⟩))
    go_ret2
    exact sn_false HO.out hm1 (fresh_of hf1) hb1 m2
  | true =>
    obtain ⟨hs, ha, hp, hi⟩ := okB_true ho
    rw [ho] at HA
    have HO := Lib.hid ho
    have hi' : (a / 4).toNat < l.length := by omega
    have hm4 : 0 ≤ a % 4 := by omega
    have hm5 : a % 4 ≤ 3 := by omega
    clear ho hl
    rcases hs with rfl | rfl
    all_goals
      go_enter Tryd.func48, Tryd.ntmps48
      go_wp2_with (first | (go_at_call 66; refine (HC.out).mono ?_; rintro e w1 ⟨⟨A1, c1, rfl, hm1, ho1⟩, hb1⟩; obtain ⟨g, rfl, hg, ho⟩ := ho1 (by omega); have hcell := ho.cell hi'; have hfree := ho.free (a / 4).toNat) | (go_at_call 69; refine (HA.out _).mono ?_; rintro e w2 ⟨rfl, m2, rfl⟩) | (go_at_call 70; refine (place_any _ _ (by omega) (by omega)).mono ?_; rintro e w1 ⟨rfl, m3, rfl⟩) | (go_at_call 76; refine (set_any _ _ _ _ _).mono ?_; rintro e w1 ⟨rfl, m4, rfl⟩))
      go_ret2
    · exact sn_true HO.out hm1 ho hg hb1 _ (by
        show _ = stW _ _ _ _
        unfold stW
        have e : a % 4 = ((a % 4).toNat : Int) := by omega
        rw [if_neg (by decide), e, Int.toNat_natCast]
        exact setR_byte _ _ _ (wd_bd hu _).1 (wd_bd hu _).2 (by omega) hv hv') hv hv' h0 hi'
    · exact sn_true HO.out hm1 ho hg hb1 _ (by
        show _ = stW _ _ _ _
        unfold stW
        rw [if_pos rfl]
        exact setR_word _ _ (wd_bd hu _).1 (wd_bd hu _).2 hv hv') hv hv' h0 hi'
theorem touchn_no (A : Option Addr) (n c : Nat) (l : List Int) (e a : Int) (w : World) (hm : Mem w A n c l) (e0 : 0 ≤ e) (e1 : e ≤ 4294967295) (ho : okB n e 4 = false) :
    Calls Tryd.prog 92 #[.slice A n c, .int .u32 e, .int .i64 a] w (GivesN n (tcL n l e a) w) := by
  have hn := hm.2.2.1
  have HL := Lib.hid (fun W => load_no A n c e 4 W hn e0 e1 ho)
  have HT := Lib.hid (tcL_no (l := l) (a := a) ho)
  have HS := Lib.hid (fun v W (h0 : 0 ≤ v) (h1 : v ≤ 4294967295) (hM : Mem W A n c l) => (store_new A n c l e 4 v W hM e0 e1 h0 h1).mono (R' := fun e w' => (∃ A c, e = .returned (.tuple #[.slice A n c, .bool false]) ∧ Mem w' A n c l ∧ Fresh W.heap.size A n) ∧ Below W.heap.size W w') fun _ _ ⟨⟨A, c, he, hM, hf⟩, hb⟩ => by
    rw [ho] at he; rw [if_neg (by rw [ho]; decide)] at hM; exact ⟨⟨A, c, he, hM, hf⟩, hb⟩)
  have HM := Lib.hid hm
  have o1 := or_is 0 8 (by omega) (by omega) (by omega)
  have o2 := or_is 0 24 (by omega) (by omega) (by omega)
  have o8 := orW_bd 0 8 (by omega) (by omega) (by omega)
  have o24 := orW_bd 0 24 (by omega) (by omega) (by omega)
  have o3 : bits .or .u32 8 16 = 24 := by decide +kernel
  clear hm ho
  replace o1 : bits .or .u32 0 8 = orW 0 8 := o1
  replace o2 : bits .or .u32 0 24 = orW 0 24 := o2
  generalize orW 0 8 = z8 at *
  generalize orW 0 24 = z24 at *
  by_cases ha : a = 3
  subst ha
  all_goals
    go_enter Tryd.func92, Tryd.ntmps92
    go_wp2_with (first
      | (go_at_call 38; refine (HL.out _).mono ?_; rintro e w1 ⟨rfl, m1, rfl⟩)
      | (go_at_call 48; refine (HS.out _ _ (by omega) (by omega) (HM.out.drewN m1)).mono ?_; rintro e w2 ⟨⟨A2, c2, rfl, hm2, hf2⟩, hb2⟩))
    go_ret
    exact ⟨⟨A2, c2, rfl, by rw [HT.out]; exact hm2, hf2⟩, below_step (below_drewN (Below.refl _ _) m1) hb2⟩
theorem touchn_yes (A : Option Addr) (n c : Nat) (l : List Int) (e a : Int) (w : World) (hm : Mem w A n c l) (e0 : 0 ≤ e) (e1 : e ≤ 4294967295) (ho : okB n e 4 = true) :
    Calls Tryd.prog 92 #[.slice A n c, .int .u32 e, .int .i64 a] w (GivesN n (tcL n l e a) w) := by
  have hn := hm.2.2.1
  have hx := wd_bd hm.2.2.2.1 (e / 4).toNat
  have HL := Lib.hid (fun W (hM : Mem W A n c l) => (load_yes A n c l e 4 W hM e0 e1 ho).mono (R' := fun e' w' => e' = .returned (.tuple #[.int .u32 (wd l (e / 4).toNat), .bool true]) ∧ ∃ m, w' = W.drewN m) fun _ _ ⟨he, hw⟩ => ⟨by rw [he]; rfl, hw⟩)
  have HT : Hid (∀ f v, f = tcF a → v = orW (wd l (e / 4).toNat) f → stV l e 4 v = tcL n l e a) := fun f v h1 h2 => by rw [tcL_yes ho, ← h1, ← h2]; rfl
  have HS := Lib.hid (fun v W (h0 : 0 ≤ v) (h1 : v ≤ 4294967295) (hM : Mem W A n c l) => (store_new A n c l e 4 v W hM e0 e1 h0 h1).mono (R' := fun e' w' => (∃ A c, e' = .returned (.tuple #[.slice A n c, .bool true]) ∧ Mem w' A n c (stV l e 4 v) ∧ Fresh W.heap.size A n) ∧ Below W.heap.size W w') fun _ _ ⟨⟨A, c, he, hM, hf⟩, hb⟩ => by
    rw [ho] at he; rw [if_pos ho] at hM; exact ⟨⟨A, c, he, hM, hf⟩, hb⟩)
  have HM := Lib.hid hm
  generalize wd l (e / 4).toNat = x at *
  have o1 := or_is x 8 hx.1 hx.2 (by omega)
  have o2 := or_is x 24 hx.1 hx.2 (by omega)
  have o8 := orW_bd x 8 hx.1 hx.2 (by omega)
  have o24 := orW_bd x 24 hx.1 hx.2 (by omega)
  have o3 : bits .or .u32 8 16 = 24 := by decide +kernel
  clear hm ho
  replace o1 : bits .or .u32 x 8 = orW x 8 := o1
  replace o2 : bits .or .u32 x 24 = orW x 24 := o2
  have T8 : Hid (¬ a = 3 → stV l e 4 (orW x 8) = tcL n l e a) := fun h => HT.out 8 _ (by unfold tcF; rw [if_neg h]) rfl
  have T24 : Hid (a = 3 → stV l e 4 (orW x 24) = tcL n l e a) := fun h => HT.out 24 _ (by unfold tcF; rw [if_pos h]) rfl
  clear HT
  generalize orW x 8 = z8 at *
  generalize orW x 24 = z24 at *
  by_cases ha : a = 3
  · have HA := Lib.hid (T24.out ha)
    subst ha
    go_enter Tryd.func92, Tryd.ntmps92
    go_wp2_with (first
      | (go_at_call 38; refine (HL.out _ HM.out).mono ?_; rintro e w1 ⟨rfl, m1, rfl⟩)
      | (go_at_call 48; refine (HS.out _ _ (by omega) (by omega) (HM.out.drewN m1)).mono ?_; rintro e w2 ⟨⟨A2, c2, rfl, hm2, hf2⟩, hb2⟩))
    go_ret
    exact ⟨⟨A2, c2, rfl, by rw [← HA.out]; exact hm2, hf2⟩, below_step (below_drewN (Below.refl _ _) m1) hb2⟩
  · have HA := Lib.hid (T8.out ha)
    go_enter Tryd.func92, Tryd.ntmps92
    go_wp2_with (first
      | (go_at_call 38; refine (HL.out _ HM.out).mono ?_; rintro e w1 ⟨rfl, m1, rfl⟩)
      | (go_at_call 48; refine (HS.out _ _ (by omega) (by omega) (HM.out.drewN m1)).mono ?_; rintro e w2 ⟨⟨A2, c2, rfl, hm2, hf2⟩, hb2⟩))
    go_ret
    exact ⟨⟨A2, c2, rfl, by rw [← HA.out]; exact hm2, hf2⟩, below_step (below_drewN (Below.refl _ _) m1) hb2⟩
theorem touch_new (A : Option Addr) (n c : Nat) (l : List Int) (e a : Int) (w : World) (hm : Mem w A n c l) (e0 : 0 ≤ e) (e1 : e ≤ 4294967295) :
    Calls Tryd.prog 92 #[.slice A n c, .int .u32 e, .int .i64 a] w (GivesN n (tcL n l e a) w) := by
  cases ho : okB n e 4 with
  | false => exact touchn_no A n c l e a w hm e0 e1 ho
  | true => exact touchn_yes A n c l e a w hm e0 e1 ho
end Go.Proofs.YtfnfbdjbdbifaaaDoor
