import Derived.Test.YthghbcjaokpilaaDoorLaw1
import Derived.Test.YthghbcjaokpilaaDoorMem
import Derived.Test.YthghbcjaokpilaaDoorAsmNum
import Derived.Test.YthghbcjaokpilaaDoorShelf2
import Derived.BigQuiet
import Derived.Deep.QuietTactic
import Derived.Lib.Hide
namespace Go.Proofs.YthghbcjaokpilaaDoor
set_option linter.unusedVariables false
set_option linter.unusedSimpArgs false
open Go.ChangeShapes Go.WideShapes Go.ChangeAt Go.RowKit Go.Proofs.YthghbcjaokpilaaDoor.Num Go.Proofs.YthghbcjaokpilaaDoor.Mem Go.Proofs.YthghbcjaokpilaaDoor.Asm
theorem letter_asm (c : Int) (w : World) : Calls Tryd.prog 62 #[.int .u8 c] w fun e w' => e = .returned (.bool (letB c)) ∧ w = w' := by
  by_cases h1 : 97 ≤ c
  · go_enter Tryd.func62, Tryd.ntmps62
    go_wp2
    go_ret
    exact ⟨by unfold letB; simp [h1], rfl⟩
  · go_enter Tryd.func62, Tryd.ntmps62
    go_wp2
    go_ret
    exact ⟨by unfold letB; simp; omega, rfl⟩
theorem digit_asm (c : Int) (w : World) : Calls Tryd.prog 63 #[.int .u8 c] w fun e w' => e = .returned (.bool (digB c)) ∧ w = w' := by
  by_cases h1 : 48 ≤ c
  · go_enter Tryd.func63, Tryd.ntmps63
    go_wp2
    go_ret
    exact ⟨by unfold digB; simp [h1], rfl⟩
  · go_enter Tryd.func63, Tryd.ntmps63
    go_wp2
    go_ret
    exact ⟨by unfold digB; simp; omega, rfl⟩
def regI (s : Bs) : Int := match regL s with | some k => (k : Int) | none => 0
theorem ret_iB {k : IntKind} {a b : Int} {p q : Bool} (h : a = b) (h' : p = q) : Ending.returned (.tuple #[.int k a, .bool p]) = .returned (.tuple #[.int k b, .bool q]) := by rw [h, h']
theorem dd2 (k : Nat) (h : k < 16) : (Lib.decDigits k).length ≤ 2 := by
  have : ∀ k : Fin 16, (Lib.decDigits k.val).length ≤ 2 := by decide +kernel
  exact this ⟨k, h⟩
theorem reg_test (s : ByteArray) (k : Nat) : (s.toList == ({ data := #[114] } ++ { data := (Lib.decDigits k).toArray } : ByteArray).toList) = decide (s.data.toList = 114 :: Lib.decDigits k) := by
  rw [Bool.eq_iff_iff]; simp [toL]
theorem reg_asm (s : ByteArray) (w : World) : Calls Tryd.prog 61 #[.string s] w fun e w' => e = .returned (.tuple #[.int .i64 (regI s.data.toList), .bool (regL s.data.toList).isSome]) ∧ w = w' := by
  go_enter Tryd.func61, Tryd.ntmps61
  go_wp2
  go_loop [5] (fun i => ∃ k : Nat, k ≤ 16 ∧ i = .int .i64 k ∧ Hid (∀ r, r < k → ¬ s.data.toList = 114 :: Lib.decDigits r)) (fun i => 16 - (intOf i).toNat)
  case atStart => exact ⟨0, by omega, rfl, Lib.hid (fun r hr => absurd hr (by omega))⟩
  case round =>
    obtain ⟨k, hk, rfl, hn⟩ := hrel
    by_cases hlt : k < 16
    · have hsz := dd2 k hlt
      go_wp2_with (go_at_call 72; (with_reducible refine (Tryd.strconv_Itoa_small k (by omega) _).mono ?_); rintro e w' ⟨rfl, rfl⟩)
      · have hy : s.data.toList = 114 :: Lib.decDigits k := by have h := reg_test s k; simp_all
        go_ret2
        have e := regL_some hlt hy hn.out
        exact ⟨ret_iB (by unfold regI; rw [e]) (by rw [e]; rfl), rfl⟩
      · have hy : ¬ s.data.toList = 114 :: Lib.decDigits k := by have h := reg_test s k; simp_all
        go_round
        case rel => exact ⟨k + 1, by omega, by go_num, Lib.hid (fun r hr => by
          by_cases h : r = k
          · subst h; exact hy
          · exact hn.out r (by omega))⟩
        case measure => simp [intOf]; omega
    · go_wp2
      go_ret2
      have e := regL_none (s := s.data.toList) (fun r hr => hn.out r (by omega))
      exact ⟨ret_iB (by unfold regI; rw [e]) (by rw [e]; rfl), rfl⟩
theorem ok_snoc {s : ByteArray} {k : Nat} (hk : k < s.size) (h : ∀ c ∈ s.data.toList.take k, okB c.toNat = true) (hc : okB (s[k].toNat : Int) = true) : ∀ c ∈ s.data.toList.take (k + 1), okB c.toNat = true := by
  rw [take_snoc s k hk]
  intro c hm
  rcases List.mem_append.1 hm with hm | hm
  · exact h c hm
  · simp at hm; subst hm; exact hc
theorem ok_bad {s : ByteArray} {k : Nat} (hk : k < s.size) (hc : okB (s[k].toNat : Int) = false) : s.data.toList.all (fun c => okB c.toNat) = false := by
  rw [List.all_eq_false]
  exact ⟨s[k], Array.mem_toList_iff.2 (Array.getElem_mem (xs := s.data) (by simpa using hk)), by simpa using hc⟩
theorem head_at {s : ByteArray} (h : 0 < s.size) : s.data.toList.headD 0 = s[0] := by
  obtain ⟨⟨l⟩⟩ := s
  cases l with
  | nil => simp [ByteArray.size] at h
  | cons c l => rfl
theorem name_asm (s : ByteArray) (w : World) (h0 : 0 < s.size) : Calls Tryd.prog 53 #[.string s] w fun e w' => e = .returned (.bool (nameB s.data.toList)) ∧ w = w' := by
  have hlen : s.data.toList.length = s.size := by simp
  cases hr : (regL s.data.toList).isSome with
  | true =>
    have e : nameB s.data.toList = false := by unfold nameB; cases hx : regL s.data.toList <;> simp_all
    rw [e]; clear e
    go_enter Tryd.func53, Tryd.ntmps53
    go_wp2_with (go_at_call 61; (with_reducible refine (reg_asm _ _).mono ?_); rintro e w' ⟨rfl, rfl⟩)
    go_ret
    exact ⟨rfl, rfl⟩
  | false =>
    have hn : (regL s.data.toList).isNone = true := by cases hx : regL s.data.toList <;> simp_all
    by_cases hs : s.size ≤ 12
    · cases hf : letB (s[0].toNat : Int) with
      | false =>
        have e : nameB s.data.toList = false := by unfold nameB; rw [head_at h0, hf]; simp
        rw [e]; clear e hn hlen
        go_enter Tryd.func53, Tryd.ntmps53
        go_wp2_with (first
          | (go_at_call 61; (with_reducible refine (reg_asm _ _).mono ?_); rintro e w' ⟨rfl, rfl⟩)
          | (go_at_call 62; (with_reducible refine (letter_asm _ _).mono ?_); rintro e w' ⟨rfl, rfl⟩))
        go_ret
        exact ⟨rfl, rfl⟩
      | true =>
        have e : nameB s.data.toList = s.data.toList.all (fun c => okB c.toNat) := by unfold nameB; rw [head_at h0, hf, hn, hlen]; simp [hs]
        have E := Lib.hid e
        clear e hn hlen
        go_enter Tryd.func53, Tryd.ntmps53
        go_wp2_with (first
          | (go_at_call 61; (with_reducible refine (reg_asm _ _).mono ?_); rintro e w' ⟨rfl, rfl⟩)
          | (go_at_call 62; (with_reducible refine (letter_asm _ _).mono ?_); rintro e w' ⟨rfl, rfl⟩))
        go_loop [26] (fun i => ∃ k : Nat, k ≤ s.size ∧ i = .int .i64 k ∧ Hid (∀ c ∈ s.data.toList.take k, okB c.toNat = true)) (fun i => s.size - (intOf i).toNat)
        case atStart => exact ⟨0, by omega, rfl, Lib.hid (by simp)⟩
        case round =>
          obtain ⟨k, hk, rfl, ha⟩ := hrel
          clear hf hr
          by_cases hlt : k < s.size
          · cases h1 : letB (s[k].toNat : Int) with
            | true =>
              have hc := Lib.hid (show okB (s[k].toNat : Int) = true by unfold okB; rw [h1]; rfl)
              go_wp2_with (go_at_call 62; (with_reducible refine (letter_asm _ _).mono ?_); rintro e w' ⟨rfl, rfl⟩)
              go_round
              case rel => exact ⟨k + 1, by omega, by go_num, Lib.hid (ok_snoc hlt ha.out hc.out)⟩
              case measure => simp [intOf]; omega
            | false =>
              cases h2 : digB (s[k].toNat : Int) with
              | true =>
                have hc := Lib.hid (show okB (s[k].toNat : Int) = true by unfold okB; rw [h1, h2]; rfl)
                go_wp2_with (first
                  | (go_at_call 62; (with_reducible refine (letter_asm _ _).mono ?_); rintro e w' ⟨rfl, rfl⟩)
                  | (go_at_call 63; (with_reducible refine (digit_asm _ _).mono ?_); rintro e w' ⟨rfl, rfl⟩))
                go_round
                case rel => exact ⟨k + 1, by omega, by go_num, Lib.hid (ok_snoc hlt ha.out hc.out)⟩
                case measure => simp [intOf]; omega
              | false =>
                by_cases h3 : (s[k].toNat : Int) = 95
                · have hc := Lib.hid (show okB (s[k].toNat : Int) = true by unfold okB; rw [h3]; simp)
                  go_wp2_with (first
                    | (go_at_call 62; (with_reducible refine (letter_asm _ _).mono ?_); rintro e w' ⟨rfl, rfl⟩)
                    | (go_at_call 63; (with_reducible refine (digit_asm _ _).mono ?_); rintro e w' ⟨rfl, rfl⟩))
                  go_round
                  case rel => exact ⟨k + 1, by omega, by go_num, Lib.hid (ok_snoc hlt ha.out hc.out)⟩
                  case measure => simp [intOf]; omega
                · have hc := Lib.hid (show okB (s[k].toNat : Int) = false by unfold okB; rw [h1, h2]; simpa using h3)
                  go_wp2_with (first
                    | (go_at_call 62; (with_reducible refine (letter_asm _ _).mono ?_); rintro e w' ⟨rfl, rfl⟩)
                    | (go_at_call 63; (with_reducible refine (digit_asm _ _).mono ?_); rintro e w' ⟨rfl, rfl⟩))
                  go_ret
                  exact ⟨by rw [E.out, ok_bad hlt hc.out]; rfl, rfl⟩
          · go_wp2
            go_ret
            refine ⟨?_, rfl⟩
            rw [E.out, show s.data.toList.all (fun c => okB c.toNat) = true from by
              rw [List.all_eq_true]
              have := ha.out
              rw [List.take_of_length_le (by simp; omega)] at this
              exact this]
            rfl
    · have e : nameB s.data.toList = false := by unfold nameB; rw [hlen]; simp [hs]
      rw [e]; clear e hn hlen
      go_enter Tryd.func53, Tryd.ntmps53
      go_wp2_with (go_at_call 61; (with_reducible refine (reg_asm _ _).mono ?_); rintro e w' ⟨rfl, rfl⟩)
      go_ret
      exact ⟨rfl, rfl⟩
def optI (o : Option Nat) : Int := match o with | some k => (k : Int) | none => 0
theorem digs_all {b : Nat} {s : ByteArray} {k : Nat} (hk : k < s.size) {n : Nat} (hn : digs b (s.data.toList.take k) 0 = some n) :
    digs b (s.data.toList.take (k + 1)) 0 = if hexV s[k] < b then some (n * b + hexV s[k]) else none := by
  rw [take_snoc s k hk, digs_snoc, hn]; rfl
theorem digs_stop {b : Nat} {s : ByteArray} {k : Nat} (hk : k < s.size) {n : Nat} (hn : digs b (s.data.toList.take k) 0 = some n) (hv : ¬ hexV s[k] < b) : digs b s.data.toList 0 = none := by
  have := digs_all hk hn
  rw [if_neg hv] at this
  have h2 := digs_none b (s.data.toList.drop (k + 1)) _ _ this
  rwa [List.take_append_drop] at h2
theorem len_size (s : ByteArray) : s.data.toList.length = s.size := by simp
theorem size_nil {s : ByteArray} (h : s.data.toList = []) : s.size = 0 := by rw [← len_size, h]; rfl
theorem nil_size {s : ByteArray} (h : s.size = 0) : s.data.toList = [] := by
  apply List.eq_nil_of_length_eq_zero; rw [len_size]; exact h
theorem digsR_in {b most : Nat} {s : ByteArray} (h0 : 0 < s.size) (h1 : s.size ≤ most) : digsR b most s.data.toList = digs b s.data.toList 0 := by
  unfold digsR
  rw [if_neg]
  rintro (h | h)
  · have := size_nil h; omega
  · rw [len_size] at h; omega
theorem digsR_out {b most : Nat} {s : ByteArray} (h : s.size = 0 ∨ most < s.size) : digsR b most s.data.toList = none := by
  unfold digsR
  rw [if_pos]
  rcases h with h | h
  · exact Or.inl (nil_size h)
  · right; rw [len_size]; exact h
theorem u8_back (c : UInt8) : ((c.toNat : Int).toNat).toUInt8 = c := by simp
theorem ix16 (c : UInt8) : Lib.indexByte [48, 49, 50, 51, 52, 53, 54, 55, 56, 57, 97, 98, 99, 100, 101, 102] ((c.toNat : Int).toNat).toUInt8 = if hexV c < 16 then (hexV c : Int) else -1 := by rw [u8_back]; exact hex_16 c
theorem ix10 (c : UInt8) : Lib.indexByte [48, 49, 50, 51, 52, 53, 54, 55, 56, 57] ((c.toNat : Int).toNat).toUInt8 = if hexV c < 10 then (hexV c : Int) else -1 := by rw [u8_back]; exact hex_10 c
theorem toL_ne {s : ByteArray} (h : 0 < s.size) : ¬ s.toList = [] := by
  rw [toL]; intro e; have := size_nil e; omega
theorem toL_ne' {s : ByteArray} (h : 0 < s.size) : s.toList.isEmpty = false := by
  have := toL_ne h
  cases hs : s.toList <;> simp_all
theorem toL_nil {s : ByteArray} (h : s.size = 0) : s.toList = [] := by rw [toL]; exact nil_size h
theorem quiet_same2 {P : Program} {f : FuncId} {args : Array Value} {w : World} {a n : Nat} {v : Value}
    (h : Calls P f args (w.drewN (a + n)) fun e w' => e = .returned v ∧ w' = w.drewN (a + n)) : Calls P f args (w.drewN (a + n)) fun e w'' => e = .returned v ∧ ∃ m, w'' = w.drewN (a + m) :=
  h.mono fun _ _ ⟨he, hm⟩ => ⟨he, n, hm⟩
theorem idx16 (c : UInt8) (w : World) : Calls Tryd.prog 74 #[.string (({ data := #[48, 49, 50, 51, 52, 53, 54, 55, 56, 57, 97, 98, 99, 100, 101, 102] } : ByteArray).extract 0 16), .int .u8 (c.toNat : Int)] w fun e w' => e = .returned (.int .i64 (if hexV c < 16 then (hexV c : Int) else -1)) ∧ w' = w :=
  (Tryd.strings_IndexByte _ _ w).mono fun e w' ⟨he, hw⟩ => ⟨by
    rw [he]
    have e1 : (({ data := #[48, 49, 50, 51, 52, 53, 54, 55, 56, 57, 97, 98, 99, 100, 101, 102] } : ByteArray).extract 0 16).data.toList = hexD := by decide +kernel
    rw [e1, u8_back, hex_16], hw⟩
theorem idx16_yes (c : UInt8) (w : World) (h : hexV c < 16) : Calls Tryd.prog 74 #[.string (({ data := #[48, 49, 50, 51, 52, 53, 54, 55, 56, 57, 97, 98, 99, 100, 101, 102] } : ByteArray).extract 0 16), .int .u8 (c.toNat : Int)] w fun e w' => e = .returned (.int .i64 (hexV c : Int)) ∧ w' = w :=
  (idx16 c w).mono fun e w' ⟨he, hw⟩ => ⟨by rw [he, if_pos h], hw⟩
theorem idx16_no (c : UInt8) (w : World) (h : ¬ hexV c < 16) : Calls Tryd.prog 74 #[.string (({ data := #[48, 49, 50, 51, 52, 53, 54, 55, 56, 57, 97, 98, 99, 100, 101, 102] } : ByteArray).extract 0 16), .int .u8 (c.toNat : Int)] w fun e w' => e = .returned (.int .i64 (-1)) ∧ w' = w :=
  (idx16 c w).mono fun e w' ⟨he, hw⟩ => ⟨by rw [he, if_neg h], hw⟩
theorem digits16_asm (s : ByteArray) (w : World) : Calls Tryd.prog 79 #[.string s, .int .i64 16, .int .i64 8] w fun e w' => e = .returned (.tuple #[.int .i64 (optI (digsR 16 8 s.data.toList)), .bool (digsR 16 8 s.data.toList).isSome]) ∧ ∃ m, w' = w.drewN m := by
  by_cases h0 : 0 < s.size
  · by_cases h1 : s.size ≤ 8
    · rw [digsR_in h0 h1]
      have t0 := toL_ne h0
      have t1 := toL_ne' h0
      go_enter Tryd.func79, Tryd.ntmps79
      go_wp2
      go_loopw [8, 21] (fun x i wr => ∃ k n : Nat, k ≤ s.size ∧ i = .int .i64 k ∧ x = .int .i64 n ∧ Hid (digs 16 (s.data.toList.take k) 0 = some n) ∧ ∃ m, wr = w.drewN m) (fun _ i _ => s.size - (intOf i).toNat)
      case atStart => exact ⟨0, 0, by omega, rfl, rfl, Lib.hid (by simp [digs]), 0, rfl⟩
      case round =>
        obtain ⟨k, n, hk, rfl, rfl, hn, m, rfl⟩ := hrel
        clear t0 t1
        by_cases hlt : k < s.size
        · have hbd : n ≤ 268435455 := by
            have := digs_bd 16 (s.data.toList.take k) 0 n 0 hn.out (by simp)
            have e : (16 : Nat) ^ (0 + (s.data.toList.take k).length) ≤ 16 ^ 7 := Nat.pow_le_pow_right (by decide) (by simp; omega)
            have : (16 : Nat) ^ 7 = 268435456 := by decide
            omega
          have hv := hexV_le s[k]
          have hi : (k : Int) < s.size := by omega
          have hi0 : (0 : Int) ≤ k := by omega
          by_cases hd : hexV s[k] < 16
          · have hst := digs_all hlt hn.out
            rw [if_pos hd] at hst
            replace hst := Lib.hid hst
            go_wp2
            go_quiet ((go_at_call 74; exact quiet_same2 (idx16_yes _ _ hd)))
            go_wp2
            go_roundw
            case rel => exact ⟨k + 1, n * 16 + hexV s[k], by omega, by go_num, by go_num, hst, _, rfl⟩
            case measure => simp [intOf]; omega
          · have hst := Lib.hid (digs_stop hlt hn.out hd)
            go_wp2
            go_quiet ((go_at_call 74; exact quiet_same2 (idx16_no _ _ hd)))
            go_wp2
            go_ret2
            exact ⟨ret_iB (by rw [hst.out]; rfl) (by rw [hst.out]; rfl), _, rfl⟩
        · have hst := hn.out
          rw [List.take_of_length_le (by rw [len_size]; omega)] at hst
          replace hst := Lib.hid hst
          go_wp2
          go_ret2
          exact ⟨ret_iB (by rw [hst.out]; rfl) (by rw [hst.out]; rfl), m, rfl⟩
    · have e := digsR_out (b := 16) (most := 8) (s := s) (Or.inr (by omega))
      rw [e]; clear e
      have t0 := toL_ne h0
      have t1 := toL_ne' h0
      go_enter Tryd.func79, Tryd.ntmps79
      go_wp2
      go_ret2
      exact ⟨rfl, 0, rfl⟩
  · have e := digsR_out (b := 16) (most := 8) (s := s) (Or.inl (by omega))
    rw [e]; clear e
    have t0 := toL_nil (s := s) (by omega)
    go_enter Tryd.func79, Tryd.ntmps79
    go_wp2
    go_ret2
    exact ⟨rfl, 0, rfl⟩
theorem idx10 (c : UInt8) (w : World) : Calls Tryd.prog 74 #[.string (({ data := #[48, 49, 50, 51, 52, 53, 54, 55, 56, 57, 97, 98, 99, 100, 101, 102] } : ByteArray).extract 0 10), .int .u8 (c.toNat : Int)] w fun e w' => e = .returned (.int .i64 (if hexV c < 10 then (hexV c : Int) else -1)) ∧ w' = w :=
  (Tryd.strings_IndexByte _ _ w).mono fun e w' ⟨he, hw⟩ => ⟨by
    rw [he]
    have e1 : (({ data := #[48, 49, 50, 51, 52, 53, 54, 55, 56, 57, 97, 98, 99, 100, 101, 102] } : ByteArray).extract 0 10).data.toList = hexD.take 10 := by decide +kernel
    rw [e1, u8_back, hex_10], hw⟩
theorem idx10_yes (c : UInt8) (w : World) (h : hexV c < 10) : Calls Tryd.prog 74 #[.string (({ data := #[48, 49, 50, 51, 52, 53, 54, 55, 56, 57, 97, 98, 99, 100, 101, 102] } : ByteArray).extract 0 10), .int .u8 (c.toNat : Int)] w fun e w' => e = .returned (.int .i64 (hexV c : Int)) ∧ w' = w :=
  (idx10 c w).mono fun e w' ⟨he, hw⟩ => ⟨by rw [he, if_pos h], hw⟩
theorem idx10_no (c : UInt8) (w : World) (h : ¬ hexV c < 10) : Calls Tryd.prog 74 #[.string (({ data := #[48, 49, 50, 51, 52, 53, 54, 55, 56, 57, 97, 98, 99, 100, 101, 102] } : ByteArray).extract 0 10), .int .u8 (c.toNat : Int)] w fun e w' => e = .returned (.int .i64 (-1)) ∧ w' = w :=
  (idx10 c w).mono fun e w' ⟨he, hw⟩ => ⟨by rw [he, if_neg h], hw⟩
theorem digits10_asm (s : ByteArray) (w : World) : Calls Tryd.prog 79 #[.string s, .int .i64 10, .int .i64 10] w fun e w' => e = .returned (.tuple #[.int .i64 (optI (digsR 10 10 s.data.toList)), .bool (digsR 10 10 s.data.toList).isSome]) ∧ ∃ m, w' = w.drewN m := by
  by_cases h0 : 0 < s.size
  · by_cases h1 : s.size ≤ 10
    · rw [digsR_in h0 h1]
      have t0 := toL_ne h0
      have t1 := toL_ne' h0
      go_enter Tryd.func79, Tryd.ntmps79
      go_wp2
      go_loopw [8, 21] (fun x i wr => ∃ k n : Nat, k ≤ s.size ∧ i = .int .i64 k ∧ x = .int .i64 n ∧ Hid (digs 10 (s.data.toList.take k) 0 = some n) ∧ ∃ m, wr = w.drewN m) (fun _ i _ => s.size - (intOf i).toNat)
      case atStart => exact ⟨0, 0, by omega, rfl, rfl, Lib.hid (by simp [digs]), 0, rfl⟩
      case round =>
        obtain ⟨k, n, hk, rfl, rfl, hn, m, rfl⟩ := hrel
        clear t0 t1
        by_cases hlt : k < s.size
        · have hbd : n ≤ 999999999 := by
            have := digs_bd 10 (s.data.toList.take k) 0 n 0 hn.out (by simp)
            have e : (10 : Nat) ^ (0 + (s.data.toList.take k).length) ≤ 10 ^ 9 := Nat.pow_le_pow_right (by decide) (by simp; omega)
            have : (10 : Nat) ^ 9 = 1000000000 := by decide
            omega
          have hv := hexV_le s[k]
          have hi : (k : Int) < s.size := by omega
          have hi0 : (0 : Int) ≤ k := by omega
          by_cases hd : hexV s[k] < 10
          · have hst := digs_all hlt hn.out
            rw [if_pos hd] at hst
            replace hst := Lib.hid hst
            go_wp2
            go_quiet ((go_at_call 74; exact quiet_same2 (idx10_yes _ _ hd)))
            go_wp2
            go_roundw
            case rel => exact ⟨k + 1, n * 10 + hexV s[k], by omega, by go_num, by go_num, hst, _, rfl⟩
            case measure => simp [intOf]; omega
          · have hst := Lib.hid (digs_stop hlt hn.out hd)
            go_wp2
            go_quiet ((go_at_call 74; exact quiet_same2 (idx10_no _ _ hd)))
            go_wp2
            go_ret2
            exact ⟨ret_iB (by rw [hst.out]; rfl) (by rw [hst.out]; rfl), _, rfl⟩
        · have hst := hn.out
          rw [List.take_of_length_le (by rw [len_size]; omega)] at hst
          replace hst := Lib.hid hst
          go_wp2
          go_ret2
          exact ⟨ret_iB (by rw [hst.out]; rfl) (by rw [hst.out]; rfl), m, rfl⟩
    · have e := digsR_out (b := 10) (most := 10) (s := s) (Or.inr (by omega))
      rw [e]; clear e
      have t0 := toL_ne h0
      have t1 := toL_ne' h0
      go_enter Tryd.func79, Tryd.ntmps79
      go_wp2
      go_ret2
      exact ⟨rfl, 0, rfl⟩
  · have e := digsR_out (b := 10) (most := 10) (s := s) (Or.inl (by omega))
    rw [e]; clear e
    have t0 := toL_nil (s := s) (by omega)
    go_enter Tryd.func79, Tryd.ntmps79
    go_wp2
    go_ret2
    exact ⟨rfl, 0, rfl⟩
theorem cut0x_yes (s : ByteArray) (w : World) (h : Lib.hasPrefix s.data.toList [48, 120] = true) : Calls Tryd.prog 78 #[.string s, .string { data := #[48, 120] }] w fun e w' => e = .returned (.tuple #[.string (S (s.data.toList.drop 2)), .bool true]) ∧ w = w' :=
  (Tryd.strings_CutPrefix s _ w).mono fun e w' ⟨he, hw⟩ => ⟨by
    rw [he]
    have h' : Lib.hasPrefix s.data.toList (({ data := #[48, 120] } : ByteArray).data.toList) = true := h
    unfold Lib.trimPrefix
    rw [h', if_pos rfl]; rfl, hw.symm⟩
theorem cut0x_no (s : ByteArray) (w : World) (h : Lib.hasPrefix s.data.toList [48, 120] = false) : Calls Tryd.prog 78 #[.string s, .string { data := #[48, 120] }] w fun e w' => e = .returned (.tuple #[.string s, .bool false]) ∧ w = w' :=
  (Tryd.strings_CutPrefix s _ w).mono fun e w' ⟨he, hw⟩ => ⟨by
    rw [he]
    have h' : Lib.hasPrefix s.data.toList (({ data := #[48, 120] } : ByteArray).data.toList) = false := h
    unfold Lib.trimPrefix
    rw [h', if_neg (by decide)], hw.symm⟩
theorem cutm (s : ByteArray) (w : World) : Calls Tryd.prog 78 #[.string s, .string { data := #[45] }] w fun e w' => e = .returned (.tuple #[.string (S (Lib.trimPrefix s.data.toList [45])), .bool (Lib.hasPrefix s.data.toList [45])]) ∧ w = w' :=
  (Tryd.strings_CutPrefix s _ w).mono fun e w' ⟨he, hw⟩ => ⟨he, hw.symm⟩
def numI (s : Bs) : Int := match numL s with | some n => n | none => 0
theorem digits10_some (s : ByteArray) (w : World) (n : Nat) (h : digsR 10 10 s.data.toList = some n) : Calls Tryd.prog 79 #[.string s, .int .i64 10, .int .i64 10] w fun e w' => e = .returned (.tuple #[.int .i64 n, .bool true]) ∧ ∃ m, w' = w.drewN m := by
  have := digits10_asm s w
  rw [h] at this
  exact this
theorem digits10_none (s : ByteArray) (w : World) (h : digsR 10 10 s.data.toList = none) : Calls Tryd.prog 79 #[.string s, .int .i64 10, .int .i64 10] w fun e w' => e = .returned (.tuple #[.int .i64 0, .bool false]) ∧ ∃ m, w' = w.drewN m := by
  have := digits10_asm s w
  rw [h] at this
  exact this
set_option maxRecDepth 100000 in
theorem number_asm (s : ByteArray) (w : World) : Calls Tryd.prog 66 #[.string s] w fun e w' => e = .returned (.tuple #[.int .i64 (numI s.data.toList), .bool (numL s.data.toList).isSome]) ∧ ∃ m, w' = w.drewN m := by
  cases h0 : Lib.hasPrefix s.data.toList [48, 120] with
  | true =>
    have e : numL s.data.toList = (digsR 16 8 (s.data.toList.drop 2)).map (fun n => (n : Int)) := by unfold numL; rw [if_pos h0]
    have e1 : numI s.data.toList = optI (digsR 16 8 (s.data.toList.drop 2)) := by unfold numI optI; rw [e]; cases digsR 16 8 (s.data.toList.drop 2) <;> rfl
    have e2 : (numL s.data.toList).isSome = (digsR 16 8 (s.data.toList.drop 2)).isSome := by rw [e]; cases digsR 16 8 (s.data.toList.drop 2) <;> rfl
    rw [e1, e2]; clear e e1 e2
    have hd := digits16_asm (S (s.data.toList.drop 2))
    rw [S_list] at hd
    go_enter Tryd.func66, Tryd.ntmps66
    go_wp2_with (first
      | (go_at_call 78; (with_reducible refine (cut0x_yes _ _ h0).mono ?_); rintro e w' ⟨rfl, rfl⟩)
      | (go_at_call 79; (with_reducible refine (hd _).mono ?_); rintro e w' ⟨rfl, m1, rfl⟩))
    go_ret2
    exact ⟨rfl, m1, rfl⟩
  | false =>
    cases hx : digsR 10 10 (Lib.trimPrefix s.data.toList [45]) with
    | none =>
      have e : numL s.data.toList = none := by unfold numL; rw [if_neg (by rw [h0]; decide), hx]
      have e1 : numI s.data.toList = 0 := by unfold numI; rw [e]
      rw [e1, e]; clear e e1
      have hd := fun w => digits10_none (S (Lib.trimPrefix s.data.toList [45])) w (by rw [S_list]; exact hx)
      clear hx
      cases hm : Lib.hasPrefix s.data.toList [45] with
      | true =>
        go_enter Tryd.func66, Tryd.ntmps66
        go_wp2_with (first
          | (go_at_call 78; (with_reducible refine (cut0x_no _ _ h0).mono ?_); rintro e w' ⟨rfl, rfl⟩)
          | (go_at_call 78; (with_reducible refine (cutm _ _).mono ?_); rintro e w' ⟨rfl, rfl⟩)
          | (go_at_call 79; (with_reducible refine (hd _).mono ?_); rintro e w' ⟨rfl, m1, rfl⟩))
        go_ret2
        exact ⟨rfl, m1, rfl⟩
      | false =>
        go_enter Tryd.func66, Tryd.ntmps66
        go_wp2_with (first
          | (go_at_call 78; (with_reducible refine (cut0x_no _ _ h0).mono ?_); rintro e w' ⟨rfl, rfl⟩)
          | (go_at_call 78; (with_reducible refine (cutm _ _).mono ?_); rintro e w' ⟨rfl, rfl⟩)
          | (go_at_call 79; (with_reducible refine (hd _).mono ?_); rintro e w' ⟨rfl, m1, rfl⟩))
        go_ret2
        exact ⟨rfl, m1, rfl⟩
    | some n =>
      have hn : (n : Int) < 10000000000 := by
        have := digsR_bd (by decide) hx
        have e : (10 : Nat) ^ 10 = 10000000000 := by decide
        omega
      have hd := fun w => digits10_some (S (Lib.trimPrefix s.data.toList [45])) w n (by rw [S_list]; exact hx)
      cases hm : Lib.hasPrefix s.data.toList [45] with
      | true =>
        have e : numL s.data.toList = if -(n : Int) < -2147483648 ∨ 4294967295 < -(n : Int) then none else some (-(n : Int)) := by unfold numL; rw [if_neg (by rw [h0]; decide), hx]; simp only [hm, if_pos]
        by_cases hr : -(n : Int) < -2147483648
        · rw [if_pos (Or.inl hr)] at e
          have e1 : numI s.data.toList = 0 := by unfold numI; rw [e]
          rw [e1, e]; clear e e1 hx
          go_enter Tryd.func66, Tryd.ntmps66
          go_wp2_with (first
            | (go_at_call 78; (with_reducible refine (cut0x_no _ _ h0).mono ?_); rintro e w' ⟨rfl, rfl⟩)
            | (go_at_call 78; (with_reducible refine (cutm _ _).mono ?_); rintro e w' ⟨rfl, rfl⟩)
            | (go_at_call 79; (with_reducible refine (hd _).mono ?_); rintro e w' ⟨rfl, m1, rfl⟩))
          go_ret2
          exact ⟨rfl, m1, rfl⟩
        · rw [if_neg (by omega)] at e
          have e1 : numI s.data.toList = -(n : Int) := by unfold numI; rw [e]
          rw [e1, e]; clear e e1 hx
          have hr1 : -2147483648 ≤ -(n : Int) := by omega
          have hr2 : (n : Int) ≤ 2147483648 := by omega
          clear hr hn
          go_enter Tryd.func66, Tryd.ntmps66
          go_wp2_with (first
            | (go_at_call 78; (with_reducible refine (cut0x_no _ _ h0).mono ?_); rintro e w' ⟨rfl, rfl⟩)
            | (go_at_call 78; (with_reducible refine (cutm _ _).mono ?_); rintro e w' ⟨rfl, rfl⟩)
            | (go_at_call 79; (with_reducible refine (hd _).mono ?_); rintro e w' ⟨rfl, m1, rfl⟩))
          all_goals go_ret2
          all_goals exact ⟨rfl, m1, rfl⟩
      | false =>
        have e : numL s.data.toList = if (n : Int) < -2147483648 ∨ 4294967295 < (n : Int) then none else some (n : Int) := by unfold numL; rw [if_neg (by rw [h0]; decide), hx]; simp only [hm]; rfl
        by_cases hr : 4294967295 < (n : Int)
        · rw [if_pos (Or.inr hr)] at e
          have e1 : numI s.data.toList = 0 := by unfold numI; rw [e]
          rw [e1, e]; clear e e1 hx
          go_enter Tryd.func66, Tryd.ntmps66
          go_wp2_with (first
            | (go_at_call 78; (with_reducible refine (cut0x_no _ _ h0).mono ?_); rintro e w' ⟨rfl, rfl⟩)
            | (go_at_call 78; (with_reducible refine (cutm _ _).mono ?_); rintro e w' ⟨rfl, rfl⟩)
            | (go_at_call 79; (with_reducible refine (hd _).mono ?_); rintro e w' ⟨rfl, m1, rfl⟩))
          go_ret2
          exact ⟨rfl, m1, rfl⟩
        · rw [if_neg (by omega)] at e
          have e1 : numI s.data.toList = (n : Int) := by unfold numI; rw [e]
          rw [e1, e]; clear e e1 hx
          have hr2 : (n : Int) ≤ 4294967295 := by omega
          clear hr hn
          go_enter Tryd.func66, Tryd.ntmps66
          go_wp2_with (first
            | (go_at_call 78; (with_reducible refine (cut0x_no _ _ h0).mono ?_); rintro e w' ⟨rfl, rfl⟩)
            | (go_at_call 78; (with_reducible refine (cutm _ _).mono ?_); rintro e w' ⟨rfl, rfl⟩)
            | (go_at_call 79; (with_reducible refine (hd _).mono ?_); rintro e w' ⟨rfl, m1, rfl⟩))
          all_goals go_ret2
          all_goals exact ⟨rfl, m1, rfl⟩
end Go.Proofs.YthghbcjaokpilaaDoor
