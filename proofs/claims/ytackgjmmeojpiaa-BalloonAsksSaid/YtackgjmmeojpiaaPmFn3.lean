import Derived.Test.YtackgjmmeojpiaaPmFn2
import Derived.Test.YtackgjmmeojpiaaPmNum
namespace Go.Proofs.Ytackgjmmeojpiaa
set_option linter.unusedVariables false
set_option linter.unusedSimpArgs false
open Go.ChangeShapes Go.WideShapes Go.ChangeAt Go.RowKit Go.Proofs.Ytackgjmmeojpiaa.Num Go.Proofs.Ytackgjmmeojpiaa.Mem
/-- The words behind a store. -/
def stW (x a size v : Int) : Int := if size = 4 then v else setB x (a % 4).toNat v
def stV (l : List Int) (a size v : Int) : List Int := l.set (a / 4).toNat (stW (wd l (a / 4).toNat) a size v)
theorem stW_bd {x a size v : Int} (h0 : 0 ≤ x) (h1 : x ≤ 4294967295) (hv : 0 ≤ v) (hv' : v ≤ 4294967295) (ha : 0 ≤ a) : 0 ≤ stW x a size v ∧ stW x a size v ≤ 4294967295 := by
  unfold stW; split
  · exact ⟨hv, hv'⟩
  · exact setB_bd x _ v h0 h1 (by omega)
theorem stV_len (l : List Int) (a size v : Int) : (stV l a size v).length = l.length := by simp [stV]
theorem stV_u32 {l : List Int} (hu : U32 l) (a size v : Int) (hv : 0 ≤ v) (hv' : v ≤ 4294967295) (ha : 0 ≤ a) : U32 (stV l a size v) :=
  hu.set _ (stW_bd (wd_bd hu _).1 (wd_bd hu _).2 hv hv' ha).1 (stW_bd (wd_bd hu _).1 (wd_bd hu _).2 hv hv' ha).2
/-- What a store gives. -/
def StPost (n : Nat) (l : List Int) (a size v : Int) (w : World) (e : Ending) (w' : World) : Prop :=
  (∃ A c, e = .returned (.tuple #[.slice A n c, .bool (okB n a size)]) ∧ Mem w' A n c (if okB n a size = true then stV l a size v else l)) ∧ Below w.heap.size w w'
theorem st_false {n c1 : Nat} {l : List Int} {a size v : Int} {w w1 : World} {A1 : Option Addr} (ho : okB n a size = false) (hm1 : Mem w1 A1 n c1 l) (hb1 : Below w.heap.size w w1) (m : Nat) :
    StPost n l a size v w (.returned (.tuple #[.slice A1 n c1, .bool false])) (w1.drewN m) :=
  ⟨⟨A1, c1, by rw [ho], by rw [ho]; exact hm1⟩, below_drewN hb1 m⟩
theorem st_true {n c1 g : Nat} {l : List Int} {a size v u : Int} {w w1 : World} (ho : okB n a size = true) (hm1 : Mem w1 (some ⟨g, 0, none⟩) n c1 l) (how : Own w1 g l) (hg : w.heap.size ≤ g) (hb1 : Below w.heap.size w w1) (m : Nat)
    (hu : u = stW (wd l (a / 4).toNat) a size v) (hv : 0 ≤ v) (hv' : v ≤ 4294967295) (h0 : 0 ≤ a) (hi : (a / 4).toNat < l.length) :
    StPost n l a size v w (.returned (.tuple #[.slice (some ⟨g, 0, none⟩) n c1, .bool true])) ((w1.drewN m).setCell ⟨g, (a / 4).toNat, none⟩ (.int .u32 u)) := by
  have h2 := (how.drewN m).set hi u
  refine ⟨⟨_, c1, by rw [ho], ?_⟩, (below_drewN hb1 m).setCell hg _⟩
  rw [if_pos ho]
  have e : l.set (a / 4).toNat u = stV l a size v := by rw [hu]; rfl
  rw [e] at h2
  exact h2.mem (by rw [stV_len]; exact hm1.1) hm1.2.1 hm1.2.2.1 (stV_u32 hm1.2.2.2.1 _ _ _ hv hv' h0)
end Go.Proofs.Ytackgjmmeojpiaa
