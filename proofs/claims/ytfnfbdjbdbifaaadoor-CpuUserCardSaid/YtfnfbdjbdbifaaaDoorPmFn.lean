import Derived.Test.YtfnfbdjbdbifaaaDoorPmMem
import Derived.IntWalk
namespace Go.Proofs.YtfnfbdjbdbifaaaDoor
set_option linter.unusedVariables false
set_option linter.unusedSimpArgs false
open Go.ChangeShapes Go.WideShapes Go.ChangeAt Go.RowKit Go.Proofs.YtfnfbdjbdbifaaaDoor.Num Go.Proofs.YtfnfbdjbdbifaaaDoor.Mem
/-- The pages of a list of n words. -/
def pagesN (n : Nat) : Nat := if n % 32 = 0 ∧ n ≤ 1024 then n / 32 else 0
theorem pagesN_le (n : Nat) : pagesN n ≤ 32 ∧ 32 * pagesN n ≤ n := by unfold pagesN; split <;> omega
theorem pagesN_mul (n : Nat) : pagesN n = 0 ∨ 32 * pagesN n = n := by unfold pagesN; split <;> omega
/-- The accesses that are possible. -/
def okB (n : Nat) (a size : Int) : Bool := decide ((size = 1 ∨ size = 4) ∧ a % size = 0 ∧ 0 < pagesN n ∧ a / 4 < n)
theorem okB_true {n : Nat} {a size : Int} (h : okB n a size = true) : (size = 1 ∨ size = 4) ∧ a % size = 0 ∧ 0 < pagesN n ∧ a / 4 < n := by simpa [okB] using h
theorem okB_false {n : Nat} {a size : Int} (h : okB n a size = false) : ¬ ((size = 1 ∨ size = 4) ∧ a % size = 0 ∧ 0 < pagesN n ∧ a / 4 < n) := by simpa [okB] using h
theorem count_any (p : Int) (w : World) :
    Calls Tryd.prog 99 #[.int .i64 p] w fun e w' => e = .returned (.bool (decide (1 ≤ p ∧ p ≤ 32))) ∧ ∃ m, w' = w.drewN m := by
  go_enter Tryd.func99, Tryd.ntmps99
  go_wp2
  all_goals go_ret
  all_goals refine ⟨ret_bool ?_, 0, rfl⟩
  all_goals simp
  all_goals omega
theorem pages_any (A : Option Addr) (n c : Nat) (w : World) (hn : n ≤ 1000000) :
    Calls Tryd.prog 93 #[.slice A n c] w fun e w' => e = .returned (.int .i64 (pagesN n)) ∧ ∃ m, w' = w.drewN m := by
  go_enter Tryd.func93, Tryd.ntmps93
  go_wp2_with (go_at_call 99; refine (count_any _ _).mono ?_; rintro e w1 ⟨rfl, m1, rfl⟩)
  all_goals go_ret
  all_goals first | refine ⟨ret_int ?_, m1, rfl⟩ | refine ⟨ret_int ?_, 0, rfl⟩
  all_goals (unfold pagesN; split <;> simp_all <;> omega)
theorem pages_ref (A : Option Addr) (n c : Nat) (w : World) (hn : n ≤ 1000000) :
    Calls Tryd.prog 94 #[.slice A n c] w fun e w' => e = .returned (.int .i64 (pagesN n)) ∧ ∃ m, w' = w.drewN m := by
  go_enter Tryd.func94, Tryd.ntmps94
  go_wp2
  all_goals go_ret
  all_goals refine ⟨ret_int ?_, 0, rfl⟩
  all_goals (unfold pagesN; split <;> simp_all <;> omega)
theorem place_any (a : Int) (w : World) (h0 : 0 ≤ a) (h1 : a ≤ 4294967295) :
    Calls Tryd.prog 70 #[.int .u32 a] w fun e w' => e = .returned (.tuple #[.int .i64 (a / 4), .int .i64 (a % 4 * 8)]) ∧ ∃ m, w' = w.drewN m := by
  go_enter Tryd.func70, Tryd.ntmps70
  go_wp2
  go_ret2
  exact ⟨ret_int2 rfl rfl, 0, rfl⟩
theorem allows_no (A : Option Addr) (n c : Nat) (a size : Int) (w : World) (hn : n ≤ 1024) (h0 : 0 ≤ a) (h1 : a ≤ 4294967295) (hs : ¬ size = 1) (hs' : ¬ size = 4) :
    Calls Tryd.prog 69 #[.slice A n c, .int .u32 a, .int .i64 size] w fun e w' => e = .returned (.bool (okB n a size)) ∧ ∃ m, w' = w.drewN m := by
  have e1 : (size != 1) = true := by simpa using hs
  have e4 : (size != 4) = true := by simpa using hs'
  go_enter Tryd.func69, Tryd.ntmps69
  go_wp2
  go_ret
  exact ⟨ret_bool (by simp [okB, hs, hs']), 0, rfl⟩
theorem allows_yes (A : Option Addr) (n c : Nat) (a size : Int) (w : World) (hn : n ≤ 1024) (h0 : 0 ≤ a) (h1 : a ≤ 4294967295) (hs : size = 1 ∨ size = 4) :
    Calls Tryd.prog 69 #[.slice A n c, .int .u32 a, .int .i64 size] w fun e w' => e = .returned (.bool (okB n a size)) ∧ ∃ m, w' = w.drewN m := by
  have hp := pagesN_le n
  rcases hs with rfl | rfl
  all_goals
    go_enter Tryd.func69, Tryd.ntmps69
    go_wp2_with (first | (go_at_call 70; refine (place_any _ _ (by omega) (by omega)).mono ?_; rintro e w1 ⟨rfl, m1, rfl⟩) | (go_at_call 93; refine (pages_any _ _ _ _ (by omega)).mono ?_; rintro e w2 ⟨rfl, m2, rfl⟩))
    all_goals go_ret
    all_goals first | refine ⟨ret_bool ?_, m1 + m2, rfl⟩ | refine ⟨ret_bool ?_, 0, rfl⟩
    all_goals (rw [Bool.eq_iff_iff]; simp [okB]; first | done | omega | (simp_all; done) | (simp_all; omega))
theorem within_no (A : Option Addr) (n c : Nat) (a size : Int) (w : World) (hn : n ≤ 1024) (h0 : 0 ≤ a) (h1 : a ≤ 4294967295) (hs : ¬ size = 1) (hs' : ¬ size = 4) :
    Calls Tryd.prog 79 #[.slice A n c, .int .u32 a, .int .i64 size] w fun e w' => e = .returned (.bool (okB n a size)) ∧ ∃ m, w' = w.drewN m := by
  have e1 : (size != 1) = true := by simpa using hs
  have e4 : (size != 4) = true := by simpa using hs'
  go_enter Tryd.func79, Tryd.ntmps79
  go_wp2
  go_ret
  exact ⟨ret_bool (by simp [okB, hs, hs']), 0, rfl⟩
theorem within_yes (A : Option Addr) (n c : Nat) (a size : Int) (w : World) (hn : n ≤ 1024) (h0 : 0 ≤ a) (h1 : a ≤ 4294967295) (hs : size = 1 ∨ size = 4) :
    Calls Tryd.prog 79 #[.slice A n c, .int .u32 a, .int .i64 size] w fun e w' => e = .returned (.bool (okB n a size)) ∧ ∃ m, w' = w.drewN m := by
  have hp := pagesN_le n
  have HP := Lib.hid (pagesN_mul n)
  rcases hs with rfl | rfl
  all_goals
    go_enter Tryd.func79, Tryd.ntmps79
    go_wp2_with (go_at_call 94; refine (pages_ref _ _ _ _ (by omega)).mono ?_; rintro e w1 ⟨rfl, m1, rfl⟩)
    all_goals go_ret
    all_goals first | refine ⟨ret_bool ?_, m1, rfl⟩ | refine ⟨ret_bool ?_, 0, rfl⟩
    all_goals (have hq := HP.out; rw [Bool.eq_iff_iff]; simp [okB]; try omega)
theorem allows_any (A : Option Addr) (n c : Nat) (a size : Int) (w : World) (hn : n ≤ 1024) (h0 : 0 ≤ a) (h1 : a ≤ 4294967295) :
    Calls Tryd.prog 69 #[.slice A n c, .int .u32 a, .int .i64 size] w fun e w' => e = .returned (.bool (okB n a size)) ∧ ∃ m, w' = w.drewN m := by
  by_cases h : size = 1
  · exact allows_yes A n c a size w hn h0 h1 (.inl h)
  · by_cases h' : size = 4
    · exact allows_yes A n c a size w hn h0 h1 (.inr h')
    · exact allows_no A n c a size w hn h0 h1 h h'
theorem within_any (A : Option Addr) (n c : Nat) (a size : Int) (w : World) (hn : n ≤ 1024) (h0 : 0 ≤ a) (h1 : a ≤ 4294967295) :
    Calls Tryd.prog 79 #[.slice A n c, .int .u32 a, .int .i64 size] w fun e w' => e = .returned (.bool (okB n a size)) ∧ ∃ m, w' = w.drewN m := by
  by_cases h : size = 1
  · exact within_yes A n c a size w hn h0 h1 (.inl h)
  · by_cases h' : size = 4
    · exact within_yes A n c a size w hn h0 h1 (.inr h')
    · exact within_no A n c a size w hn h0 h1 h h'
theorem ret_ib {k : IntKind} {a b : Int} {c : Bool} (h : a = b) : Ending.returned (.tuple #[.int k a, .bool c]) = .returned (.tuple #[.int k b, .bool c]) := by rw [h]
/-- What a load gives. -/
def ldV (l : List Int) (a size : Int) : Int := if size = 4 then wd l (a / 4).toNat else wd l (a / 4).toNat / 256 ^ (a % 4).toNat % 256
theorem field_byte (x : Int) (k : Nat) (h0 : 0 ≤ x) (h1 : x ≤ 4294967295) (hk : k ≤ 3) : fieldR x ((k : Int) * 8) 8 = x / 256 ^ k % 256 := by
  rw [fieldR_yes (by omega) (by omega) (by omega), field_eq x _ _ h0 h1 (by omega)]
  have e : ((k : Int) * 8).toNat = 8 * k := by omega
  rw [e, Nat.pow_mul]
  obtain ⟨y, rfl⟩ : ∃ y : Nat, x = y := ⟨x.toNat, by omega⟩
  simp
theorem field_word (x : Int) (h0 : 0 ≤ x) (h1 : x ≤ 4294967295) : fieldR x 0 32 = x := by
  rw [fieldR_yes (by omega) (by omega) (by omega), field_eq x _ _ h0 h1 (by omega)]
  simp
  omega
theorem load_no (A : Option Addr) (n c : Nat) (a size : Int) (w : World) (hn : n ≤ 1024) (h0 : 0 ≤ a) (h1 : a ≤ 4294967295) (ho : okB n a size = false) :
    Calls Tryd.prog 38 #[.slice A n c, .int .u32 a, .int .i64 size] w fun e w' => e = .returned (.tuple #[.int .u32 0, .bool false]) ∧ ∃ m, w' = w.drewN m := by
  have hc := Lib.hid (allows_any A n c a size w hn h0 h1)
  rw [ho] at hc
  clear ho
  go_enter Tryd.func38, Tryd.ntmps38
  go_wp2_with (go_at_call 69; refine (hc.out).mono ?_; rintro e w1 ⟨rfl, m1, rfl⟩)
  go_ret2
  exact ⟨rfl, _, rfl⟩
theorem load_yes (A : Option Addr) (n c : Nat) (l : List Int) (a size : Int) (w : World) (hm : Mem w A n c l) (h0 : 0 ≤ a) (h1 : a ≤ 4294967295) (ho : okB n a size = true) :
    Calls Tryd.prog 38 #[.slice A n c, .int .u32 a, .int .i64 size] w fun e w' => e = .returned (.tuple #[.int .u32 (ldV l a size), .bool true]) ∧ ∃ m, w' = w.drewN m := by
  have hc := Lib.hid (allows_any A n c a size w hm.2.2.1 h0 h1)
  rw [ho] at hc
  obtain ⟨hs, ha, hp, hi⟩ := okB_true ho
  obtain ⟨b, off, rfl, hcell, x0, x1⟩ := hm.at_ (k := (a / 4).toNat) (by omega)
  have hn := hm.2.2.1
  have HV : ∀ x, wd l (a / 4).toNat = x → Hid (ldV l a size = if size = 4 then x else x / 256 ^ (a % 4).toNat % 256) := fun x hx => by rw [← hx]; exact rfl
  generalize hx : wd l (a / 4).toNat = x at hcell x0 x1
  replace HV := HV x hx
  have e4 : a % 4 = ((a % 4).toNat : Int) := by omega
  have e5 : (a % 4).toNat ≤ 3 := by omega
  have HF := Lib.hid (field_byte x (a % 4).toNat x0 x1 e5)
  rw [← e4] at HF
  have HW := Lib.hid (field_word x x0 x1)
  clear ho hx e4 e5
  rcases hs with rfl | rfl
  all_goals
    go_enter Tryd.func38, Tryd.ntmps38
    go_wp2_with (first | (go_at_call 69; refine (hc.out).mono ?_; rintro e w1 ⟨rfl, m1, rfl⟩) | (go_at_call 70; refine (place_any _ _ (by omega) (by omega)).mono ?_; rintro e w1 ⟨rfl, m2, rfl⟩) | (go_at_call 40; refine (field_any _ _ _ _ (by omega) (by omega)).mono ?_; rintro e w1 ⟨rfl, m3, rfl⟩))
    go_ret2
  · exact ⟨ret_ib (by rw [HV.out, if_neg (by decide)]; exact HF.out), _, rfl⟩
  · exact ⟨ret_ib (by rw [HV.out, if_pos trivial]; exact HW.out), _, rfl⟩
theorem load_refno (A : Option Addr) (n c : Nat) (a size : Int) (w : World) (hn : n ≤ 1024) (h0 : 0 ≤ a) (h1 : a ≤ 4294967295) (ho : okB n a size = false) :
    Calls Tryd.prog 55 #[.slice A n c, .int .u32 a, .int .i64 size] w fun e w' => e = .returned (.tuple #[.int .u32 0, .bool false]) ∧ ∃ m, w' = w.drewN m := by
  have hc := Lib.hid (within_any A n c a size w hn h0 h1)
  rw [ho] at hc
  clear ho
  go_enter Tryd.func55, Tryd.ntmps55
  go_wp2_with (go_at_call 79; refine (hc.out).mono ?_; rintro e w1 ⟨rfl, m1, rfl⟩)
  go_ret2
  exact ⟨rfl, _, rfl⟩
theorem and_255 (x : Int) (h0 : 0 ≤ x) (h1 : x ≤ 4294967295) : bits .and .u32 x 255 = x % 256 := by
  have := and_low x 8 h0 h1 (by omega)
  simpa using this
theorem byte_ref (x a : Int) (h0 : 0 ≤ x) (h1 : x ≤ 4294967295) (ha : 0 ≤ a) : bits .and .u32 (x / 2 ^ (8 * (a % 4)).toNat) 255 = x / 256 ^ (a % 4).toNat % 256 := by
  have hd := div_bd x (8 * (a % 4)).toNat h0 h1
  rw [and_255 _ hd.1 hd.2]
  have e : (8 * (a % 4)).toNat = 8 * (a % 4).toNat := by omega
  rw [e, Int.pow_mul]
  rfl
theorem load_refyes (A : Option Addr) (n c : Nat) (l : List Int) (a size : Int) (w : World) (hm : Mem w A n c l) (h0 : 0 ≤ a) (h1 : a ≤ 4294967295) (ho : okB n a size = true) :
    Calls Tryd.prog 55 #[.slice A n c, .int .u32 a, .int .i64 size] w fun e w' => e = .returned (.tuple #[.int .u32 (ldV l a size), .bool true]) ∧ ∃ m, w' = w.drewN m := by
  have hc := Lib.hid (within_any A n c a size w hm.2.2.1 h0 h1)
  rw [ho] at hc
  obtain ⟨hs, ha, hp, hi⟩ := okB_true ho
  obtain ⟨b, off, rfl, hcell, x0, x1⟩ := hm.at_ (k := (a / 4).toNat) (by omega)
  have hn := hm.2.2.1
  have HV : ∀ x, wd l (a / 4).toNat = x → Hid (ldV l a size = if size = 4 then x else x / 256 ^ (a % 4).toNat % 256) := fun x hx => by rw [← hx]; exact rfl
  generalize hx : wd l (a / 4).toNat = x at hcell x0 x1
  replace HV := HV x hx
  clear ho hx
  rcases hs with rfl | rfl
  all_goals
    go_enter Tryd.func55, Tryd.ntmps55
    go_wp2_with (go_at_call 79; refine (hc.out).mono ?_; rintro e w1 ⟨rfl, m1, rfl⟩)
    go_ret2
  · exact ⟨ret_ib (by rw [HV.out, if_neg (by decide)]; exact byte_ref x a x0 x1 h0), _, rfl⟩
  · exact ⟨ret_ib (by rw [HV.out, if_pos trivial]), _, rfl⟩
end Go.Proofs.YtfnfbdjbdbifaaaDoor
