import Derived.Test.YthghbcjaokpilaaDoorAsmFn
import Derived.Test.YthghbcjaokpilaaDoorIsaFn5
namespace Go.Proofs.YthghbcjaokpilaaDoor
set_option linter.unusedVariables false
set_option linter.unusedSimpArgs false
open Go.ChangeShapes Go.WideShapes Go.ChangeAt Go.RowKit Go.Proofs.YthghbcjaokpilaaDoor.Num Go.Proofs.YthghbcjaokpilaaDoor.Isa Go.Proofs.YthghbcjaokpilaaDoor.Mem Go.Proofs.YthghbcjaokpilaaDoor.Asm
theorem letter_ref (c : Int) (w : World) : Calls Tryd.prog 48 #[.int .u8 c] w fun e w' => e = .returned (.bool (letB c)) ∧ w = w' := by
  by_cases h1 : 97 ≤ c
  · go_enter Tryd.func48, Tryd.ntmps48
    go_wp2
    go_ret
    exact ⟨by unfold letB; simp [h1], rfl⟩
  · go_enter Tryd.func48, Tryd.ntmps48
    go_wp2
    go_ret
    exact ⟨by unfold letB; simp; omega, rfl⟩
theorem digit_ref (c : Int) (w : World) : Calls Tryd.prog 49 #[.int .u8 c] w fun e w' => e = .returned (.bool (digB c)) ∧ w = w' := by
  by_cases h1 : 48 ≤ c
  · go_enter Tryd.func49, Tryd.ntmps49
    go_wp2
    go_ret
    exact ⟨by unfold digB; simp [h1], rfl⟩
  · go_enter Tryd.func49, Tryd.ntmps49
    go_wp2
    go_ret
    exact ⟨by unfold digB; simp; omega, rfl⟩
theorem regS_list (k : Nat) : (regS (k : Int)).toList = 114 :: Lib.decDigits k := by
  rw [toL]
  unfold regS itoaS Lib.itoa
  rw [if_neg (by omega), Int.toNat_natCast]
  simp [ByteArray.data_append]
theorem regOf_ref (s : ByteArray) (w : World) : Calls Tryd.prog 50 #[.string s] w fun e w' => e = .returned (.tuple #[.int .i64 (regI s.data.toList), .bool (regL s.data.toList).isSome]) ∧ Below w.heap.size w w' := by
  go_enter Tryd.func50, Tryd.ntmps50
  go_wp2
  go_loopw [4] (fun i wr => ∃ k : Nat, k ≤ 16 ∧ i = .int .i64 k ∧ Hid (∀ r, r < k → ¬ s.data.toList = 114 :: Lib.decDigits r) ∧ Below w.heap.size w wr) (fun i _ => 16 - (intOf i).toNat)
  case atStart => exact ⟨0, by omega, rfl, Lib.hid (fun r hr => absurd hr (by omega)), Below.refl _ _⟩
  case round =>
    obtain ⟨k, hk, rfl, hn, hbw⟩ := hrel
    have HBW := Lib.hid hbw
    clear hbw
    by_cases hlt : k < 16
    · have HR := Lib.hid (fun W => reg_rref (k : Int) W (by omega) (by omega))
      have hl := regS_list k
      by_cases hy : s.data.toList = 114 :: Lib.decDigits k
      · have hb : (s.toList == (regS (k : Int)).toList) = true := by rw [hl, toL, hy]; simp
        have e := regL_some hlt hy hn.out
        clear hl
        generalize regS (k : Int) = rs at *
        go_wp2_with (go_at_call 60; (with_reducible refine (HR.out _).mono ?_); rintro e w1 ⟨rfl, hb1⟩)
        go_ret2
        exact ⟨ret_iB (by unfold regI; rw [e]) (by rw [e]; rfl), below_step HBW.out hb1⟩
      · have hb : (s.toList == (regS (k : Int)).toList) = false := by rw [hl, toL]; simpa using hy
        have HN := Lib.hid (fun r (hr : r < k + 1) => (show ¬ s.data.toList = 114 :: Lib.decDigits r from by
          by_cases e : r = k
          · subst e; exact hy
          · exact hn.out r (by omega)))
        clear hy
        clear hl
        generalize regS (k : Int) = rs at *
        go_wp2_with (go_at_call 60; (with_reducible refine (HR.out _).mono ?_); rintro e w1 ⟨rfl, hb1⟩)
        go_roundw
        case rel => exact ⟨k + 1, by omega, by go_num, HN, below_step HBW.out hb1⟩
        case measure => simp [intOf]; omega
    · obtain rfl : k = 16 := by omega
      have e := regL_none hn.out
      go_wp2
      go_ret2
      exact ⟨ret_iB (by unfold regI; rw [e]) (by rw [e]; rfl), HBW.out⟩
/-- What the reference calls a name. -/
def nameR (l : Bs) : Bool := decide (1 ≤ l.length) && decide (l.length ≤ 12) && letB (l.headD 0).toNat && (regL l).isNone
theorem name_ref (s : ByteArray) (w : World) : Calls Tryd.prog 33 #[.string s] w fun e w' => e = .returned (.bool (nameR s.data.toList)) ∧ Below w.heap.size w w' := by
  have HG := Lib.hid (fun W => regOf_ref s W)
  obtain ⟨b, hb⟩ : ∃ b, (regL s.data.toList).isSome = b := ⟨_, rfl⟩
  have hn : (regL s.data.toList).isNone = !b := by rw [← hb]; cases regL s.data.toList <;> rfl
  rw [hb] at HG
  have hlen : s.data.toList.length = s.size := len_size s
  by_cases h1 : 1 ≤ s.size
  · have hh := head_at (show 0 < s.size by omega)
    by_cases h2 : s.size ≤ 12
    · have e : nameR s.data.toList = (letB (s[0].toNat : Int) && !b) := by unfold nameR; rw [hlen, hh, hn]; simp [h1, h2]
      rw [e]
      clear e hh hlen hn hb
      have HL := Lib.hid letter_ref
      generalize regI s.data.toList = rg at *
      generalize hlv : letB (s[0].toNat : Int) = lv at *
      have HL1 := Lib.hid (fun W => show Calls Tryd.prog 48 #[.int .u8 (s[0].toNat : Int)] W fun e w' => e = .returned (.bool lv) ∧ W = w' by rw [← hlv]; exact letter_ref _ W)
      clear hlv
      cases lv <;> cases b
      all_goals
        go_enter Tryd.func33, Tryd.ntmps33
        go_wp2_with (first
          | (go_at_call 50; (with_reducible refine (HG.out _).mono ?_); rintro e w1 ⟨rfl, hb1⟩)
          | (go_at_call 48; (with_reducible refine (HL1.out _).mono ?_); rintro e w2 ⟨rfl, rfl⟩))
        go_ret
        exact ⟨rfl, hb1⟩
    · have e : nameR s.data.toList = false := by unfold nameR; rw [hlen]; simp [h2]
      rw [e]
      clear e hh hlen hn hb
      generalize regI s.data.toList = rg at *
      go_enter Tryd.func33, Tryd.ntmps33
      go_wp2_with (first
        | (go_at_call 50; (with_reducible refine (HG.out _).mono ?_); rintro e w1 ⟨rfl, hb1⟩))
      go_ret
      exact ⟨rfl, hb1⟩
  · have e : nameR s.data.toList = false := by unfold nameR; rw [hlen]; simp [h1]
    rw [e]
    clear e hlen hn hb
    generalize regI s.data.toList = rg at *
    go_enter Tryd.func33, Tryd.ntmps33
    go_wp2_with (first
      | (go_at_call 50; (with_reducible refine (HG.out _).mono ?_); rintro e w1 ⟨rfl, hb1⟩))
    go_ret
    exact ⟨rfl, hb1⟩
end Go.Proofs.YthghbcjaokpilaaDoor
