import Derived.Test.YtfnfbdjbdbifaaaDoorPmFn2
import Derived.Test.YtfnfbdjbdbifaaaDoorPmNum
namespace Go.Proofs.YtfnfbdjbdbifaaaDoor
set_option linter.unusedVariables false
set_option linter.unusedSimpArgs false
open Go.ChangeShapes Go.WideShapes Go.ChangeAt Go.RowKit Go.Proofs.YtfnfbdjbdbifaaaDoor.Num Go.Proofs.YtfnfbdjbdbifaaaDoor.Mem
/-- The words behind a store. -/
def stW (x a size v : Int) : Int := if size = 4 then v else setB x (a % 4).toNat v
def stV (l : List Int) (a size v : Int) : List Int := l.set (a / 4).toNat (stW (wd l (a / 4).toNat) a size v)
theorem stW_bd {x a size v : Int} (h0 : 0 ≤ x) (h1 : x ≤ 4294967295) (hv : 0 ≤ v) (hv' : v ≤ 4294967295) (ha : 0 ≤ a) : 0 ≤ stW x a size v ∧ stW x a size v ≤ 4294967295 := by
  unfold stW; split
  · exact ⟨hv, hv'⟩
  · exact setB_bd x _ v h0 h1 (by omega)
theorem stV_len (l : List Int) (a size v : Int) : (stV l a size v).length = l.length := by simp [stV]
theorem stV_u32 {l : List Int} (hu : U32 l) (a size v : Int) (hv : 0 ≤ v) (hv' : v ≤ 4294967295) (ha : 0 ≤ a) : U32 (stV l a size v) :=
  hu.set _ (stW_bd (wd_bd hu _).1 (wd_bd hu _).2 hv hv' ha).1 (stW_bd (wd_bd hu _).1 (wd_bd hu _).2 hv hv' ha).2
theorem put_ref' (g n c : Nat) (l : List Int) (a size v : Int) (w : World) (B : Nat) (hB : B ≤ g) (ho : Own w g l) (hl : l.length = n) (hn : n ≤ 1024) (hu : U32 l) (h0 : 0 ≤ a) (h1 : a / 4 < n) (hs : size = 1 ∨ size = 4) (hv : 0 ≤ v) (hv' : v ≤ 4294967295) :
    Calls Tryd.prog 87 #[.slice (some ⟨g, 0, none⟩) n c, .int .u32 a, .int .i64 size, .int .u32 v] w fun e w' => e = .returned (.tuple #[]) ∧ Own w' g (stV l a size v) ∧ Below B w w' := by
  have hi : (a / 4).toNat < l.length := by omega
  have hcell := ho.cell hi
  have hfree := ho.free (a / 4).toNat
  have x0 := wd_bd hu (a / 4).toNat
  have HO := Lib.hid ho
  have HI := Lib.hid hi
  have HL := Lib.hid hl
  have HV : ∀ x, wd l (a / 4).toNat = x → Hid (stV l a size v = l.set (a / 4).toNat (if size = 4 then v else setB x (a % 4).toNat v)) := fun x hx => by rw [← hx]; exact rfl
  generalize hx : wd l (a / 4).toNat = x at hcell x0
  replace HV := HV x hx
  clear hx hi hl ho
  obtain ⟨x0, x1⟩ := x0
  have HR := Lib.hid (ref_byte x v (a % 4).toNat x0 x1 (by omega) hv hv')
  have hm0 : 0 ≤ a % 4 := by omega
  have hm1 : a % 4 ≤ 3 := by omega
  rcases hs with rfl | rfl
  all_goals
    go_enter Tryd.func87, Tryd.ntmps87
    go_wp2
  · go_end0
    have e : (8 * (a % 4)).toNat = 8 * (a % 4).toNat := by omega
    rw [e, HR.out]
    refine ⟨rfl, ?_, (Below.refl _ _).setCell hB _⟩
    rw [HV.out, if_neg (by decide)]
    exact HO.out.set HI.out _
  · refine bodyPost_ret (results_none rfl _ _ _) rfl ?_
    refine ⟨rfl, ?_, (Below.refl _ _).setCell hB _⟩
    rw [HV.out, if_pos trivial]
    exact HO.out.set HI.out _
/-- What a store gives. -/
def StPost (n : Nat) (l : List Int) (a size v : Int) (w : World) (e : Ending) (w' : World) : Prop :=
  (∃ A c, e = .returned (.tuple #[.slice A n c, .bool (okB n a size)]) ∧ Mem w' A n c (if okB n a size = true then stV l a size v else l)) ∧ Below w.heap.size w w'
theorem st_false {n c1 : Nat} {l : List Int} {a size v : Int} {w w1 : World} {A1 : Option Addr} (ho : okB n a size = false) (hm1 : Mem w1 A1 n c1 l) (hb1 : Below w.heap.size w w1) (m : Nat) :
    StPost n l a size v w (.returned (.tuple #[.slice A1 n c1, .bool false])) (w1.drewN m) :=
  ⟨⟨A1, c1, by rw [ho], by rw [ho]; exact hm1⟩, below_drewN hb1 m⟩
theorem st_true {n c1 g : Nat} {l : List Int} {a size v u : Int} {w w1 : World} (ho : okB n a size = true) (hm1 : Mem w1 (some ⟨g, 0, none⟩) n c1 l) (how : Own w1 g l) (hg : w.heap.size ≤ g) (hb1 : Below w.heap.size w w1) (m : Nat)
    (hu : u = stW (wd l (a / 4).toNat) a size v) (hv : 0 ≤ v) (hv' : v ≤ 4294967295) (h0 : 0 ≤ a) (hi : (a / 4).toNat < l.length) :
    StPost n l a size v w (.returned (.tuple #[.slice (some ⟨g, 0, none⟩) n c1, .bool true])) ((w1.drewN m).setCell ⟨g, (a / 4).toNat, none⟩ (.int .u32 u)) := by
  have h2 := (how.drewN m).set hi u
  refine ⟨⟨_, c1, by rw [ho], ?_⟩, (below_drewN hb1 m).setCell hg _⟩
  rw [if_pos ho]
  have e : l.set (a / 4).toNat u = stV l a size v := by rw [hu]; rfl
  rw [e] at h2
  exact h2.mem (by rw [stV_len]; exact hm1.1) hm1.2.1 hm1.2.2.1 (stV_u32 hm1.2.2.2.1 _ _ _ hv hv' h0)
theorem store_any (A : Option Addr) (n c : Nat) (l : List Int) (a size v : Int) (w : World) (hm : Mem w A n c l) (h0 : 0 ≤ a) (h1 : a ≤ 4294967295) (hv : 0 ≤ v) (hv' : v ≤ 4294967295) :
    Calls Tryd.prog 48 #[.slice A n c, .int .u32 a, .int .i64 size, .int .u32 v] w (StPost n l a size v w) := by
  have hn := hm.2.2.1
  have hl := hm.1
  have hu := hm.2.2.2.1
  have HC := Lib.hid (clone_any A n c l w hm)
  have HA := Lib.hid (fun W => allows_any A n c a size W hn h0 h1)
  cases ho : okB n a size with
  | false =>
    rw [ho] at HA
    have HO := Lib.hid ho
    clear ho hl
    go_enter Tryd.func48, Tryd.ntmps48
    go_wp2_with (first | (go_at_call 66; refine (HC.out).mono ?_; rintro e w1 ⟨⟨A1, c1, rfl, hm1, _⟩, hb1⟩) | (go_at_call 69; refine (HA.out _).mono ?_; rintro e w2 ⟨rfl, m2, rfl⟩))
    go_ret2
    exact st_false HO.out hm1 hb1 m2
  | true =>
    obtain ⟨hs, ha, hp, hi⟩ := okB_true ho
    rw [ho] at HA
    have HO := Lib.hid ho
    have hi' : (a / 4).toNat < l.length := by omega
    have hm4 : 0 ≤ a % 4 := by omega
    have hm5 : a % 4 ≤ 3 := by omega
    clear ho hl
    rcases hs with rfl | rfl
    all_goals
      go_enter Tryd.func48, Tryd.ntmps48
      go_wp2_with (first | (go_at_call 66; refine (HC.out).mono ?_; rintro e w1 ⟨⟨A1, c1, rfl, hm1, ho1⟩, hb1⟩; obtain ⟨g, rfl, hg, ho⟩ := ho1 (by omega); have hcell := ho.cell hi'; have hfree := ho.free (a / 4).toNat) | (go_at_call 69; refine (HA.out _).mono ?_; rintro e w2 ⟨rfl, m2, rfl⟩) | (go_at_call 70; refine (place_any _ _ (by omega) (by omega)).mono ?_; rintro e w1 ⟨rfl, m3, rfl⟩) | (go_at_call 76; refine (set_any _ _ _ _ _).mono ?_; rintro e w1 ⟨rfl, m4, rfl⟩))
      go_ret2
    · exact st_true HO.out hm1 ho hg hb1 _ (by
        show _ = stW _ _ _ _
        unfold stW
        have e : a % 4 = ((a % 4).toNat : Int) := by omega
        rw [if_neg (by decide), e, Int.toNat_natCast]
        exact setR_byte _ _ _ (wd_bd hu _).1 (wd_bd hu _).2 (by omega) hv hv') hv hv' h0 hi'
    · exact st_true HO.out hm1 ho hg hb1 _ (by
        show _ = stW _ _ _ _
        unfold stW
        rw [if_pos rfl]
        exact setR_word _ _ (wd_bd hu _).1 (wd_bd hu _).2 hv hv') hv hv' h0 hi'
end Go.Proofs.YtfnfbdjbdbifaaaDoor
