import Derived.Test.YthghbcjaokpilaaDoorRefA
import Derived.Test.YthghbcjaokpilaaDoorAsmNum2
namespace Go.Proofs.YthghbcjaokpilaaDoor
set_option linter.unusedVariables false
set_option linter.unusedSimpArgs false
open Go.ChangeShapes Go.WideShapes Go.ChangeAt Go.RowKit Go.Proofs.YthghbcjaokpilaaDoor.Num Go.Proofs.YthghbcjaokpilaaDoor.Isa Go.Proofs.YthghbcjaokpilaaDoor.Mem Go.Proofs.YthghbcjaokpilaaDoor.Asm
theorem pre_2 (s : ByteArray) (h : 2 ≤ s.size) : Lib.hasPrefix s.data.toList [48, 120] = (decide ((s[0].toNat : Int) = 48) && decide ((s[1].toNat : Int) = 120)) := by
  obtain ⟨⟨l⟩⟩ := s
  match l, h with
  | [], h => simp [ByteArray.size] at h
  | [_], h => simp [ByteArray.size] at h
  | a :: b :: r, h =>
    have e1 : ((48 : UInt8) == a) = decide ((a.toNat : Int) = 48) := by
      rw [Bool.eq_iff_iff]; simp only [beq_iff_eq, decide_eq_true_eq]
      constructor
      · rintro rfl; rfl
      · intro h; exact (UInt8.toNat_inj.1 (show a.toNat = (48 : UInt8).toNat from by show a.toNat = 48; omega)).symm
    have e2 : ((120 : UInt8) == b) = decide ((b.toNat : Int) = 120) := by
      rw [Bool.eq_iff_iff]; simp only [beq_iff_eq, decide_eq_true_eq]
      constructor
      · rintro rfl; rfl
      · intro h; exact (UInt8.toNat_inj.1 (show b.toNat = (120 : UInt8).toNat from by show b.toNat = 120; omega)).symm
    show (List.isPrefixOf [48, 120] (a :: b :: r)) = _
    simp only [List.isPrefixOf, Bool.and_true]
    rw [e1, e2]
    rfl
theorem pre_1 (s : ByteArray) (h : 1 ≤ s.size) : Lib.hasPrefix s.data.toList [45] = decide ((s[0].toNat : Int) = 45) := by
  obtain ⟨⟨l⟩⟩ := s
  match l, h with
  | [], h => simp [ByteArray.size] at h
  | a :: r, h =>
    have e1 : ((45 : UInt8) == a) = decide ((a.toNat : Int) = 45) := by
      rw [Bool.eq_iff_iff]; simp only [beq_iff_eq, decide_eq_true_eq]
      constructor
      · rintro rfl; rfl
      · intro h; exact (UInt8.toNat_inj.1 (show a.toNat = (45 : UInt8).toNat from by show a.toNat = 45; omega)).symm
    show (List.isPrefixOf [45] (a :: r)) = _
    simp only [List.isPrefixOf, Bool.and_true]
    rw [e1]
    rfl
theorem getL (s : ByteArray) (k : Nat) (h : k < s.size) : s.data.toList[k]'(by rw [len_size]; exact h) = s[k] := rfl
def NumPost (r : Option Int) (w : World) (e : Ending) (w' : World) : Prop :=
  (match r with
  | some n => e = .returned (.tuple #[.int .i64 n, .bool true])
  | none => ∃ v, e = .returned (.tuple #[.int .i64 v, .bool false])) ∧ w = w'
/-- The number's digits up to k. -/
def Dgs (b f k : Nat) (s : ByteArray) (n : Nat) : Prop := digs b (piece s.data.toList f k) 0 = some n
theorem dgs_start (b f : Nat) (s : ByteArray) : Dgs b f f s 0 := by unfold Dgs; rw [piece_self]; rfl
theorem dgs_next {b f k n : Nat} {s : ByteArray} (h : Dgs b f k s n) (hf : f ≤ k) (hk : k < s.size) (hd : hexV s[k] < b) : Dgs b f (k + 1) s (n * b + hexV s[k]) := by
  unfold Dgs at h ⊢
  rw [piece_one _ _ _ hf (by rw [len_size]; exact hk), digs_snoc, h, getL s k hk]
  simp [hd]
theorem dgs_bad {b f k n : Nat} {s : ByteArray} (h : Dgs b f k s n) (hf : f ≤ k) (hk : k < s.size) (hd : ¬ hexV s[k] < b) : digs b (s.data.toList.drop f) 0 = none := by
  have e : s.data.toList.drop f = piece s.data.toList f (k + 1) ++ (s.data.toList.drop (k + 1)) := by
    unfold piece
    have := List.take_append_drop (k + 1 - f) (s.data.toList.drop f)
    rw [List.drop_drop, show f + (k + 1 - f) = k + 1 by omega] at this
    exact this.symm
  rw [e]
  apply digs_none
  unfold Dgs at h
  rw [piece_one _ _ _ hf (by rw [len_size]; exact hk), digs_snoc, h, getL s k hk]
  simp [hd]
theorem dgs_end {b f n : Nat} {s : ByteArray} (h : Dgs b f s.size s n) : digs b (s.data.toList.drop f) 0 = some n := by
  unfold Dgs at h
  rw [← len_size, piece_all] at h
  exact h
theorem dgs_bd {b f k n : Nat} {s : ByteArray} (h : Dgs b f k s n) (hb : 1 ≤ b) (m : Nat) (hm : k - f ≤ m) (hk : k ≤ s.size) : n < b ^ m := by
  unfold Dgs at h
  have h1 := digs_bd b _ 0 n 0 h (by simp)
  have h2 : (piece s.data.toList f k).length ≤ m := by
    unfold piece; simp; omega
  exact Nat.lt_of_lt_of_le h1 (Nat.pow_le_pow_right hb (by omega))
theorem hexV_dig0 {c : UInt8} (h : digB (c.toNat : Int) = true) : (hexV c : Int) = (c.toNat : Int) - 48 ∧ hexV c < 10 ∧ 48 ≤ (c.toNat : Int) ∧ (c.toNat : Int) ≤ 57 := by
  unfold digB at h; simp at h
  unfold hexV; rw [if_pos (by omega)]; omega
theorem hexV_let0 {c : UInt8} (h : digB (c.toNat : Int) = false) (h1 : 97 ≤ (c.toNat : Int)) (h2 : (c.toNat : Int) ≤ 102) : (hexV c : Int) = (c.toNat : Int) - 97 + 10 ∧ hexV c < 16 := by
  unfold hexV; rw [if_neg (by omega), if_pos (by omega)]; omega
theorem hexV_no0 {c : UInt8} (h : digB (c.toNat : Int) = false) (h1 : ¬ (97 ≤ (c.toNat : Int) ∧ (c.toNat : Int) ≤ 102)) : ¬ hexV c < 16 := by
  unfold digB at h; simp at h
  unfold hexV; rw [if_neg (by omega), if_neg (by omega)]; omega
theorem hexV_no1 {c : UInt8} (h : digB (c.toNat : Int) = false) : ¬ hexV c < 10 := by
  unfold digB at h; simp at h
  unfold hexV; rw [if_neg (by omega)]; split <;> omega
set_option maxHeartbeats 2000000 in
theorem number_hex (s : ByteArray) (w : World) (h2 : 2 < s.size) (hp : Lib.hasPrefix s.data.toList [48, 120] = true) (hz : s.size ≤ 9223372036854775807) :
    Calls Tryd.prog 51 #[.string s] w (NumPost (numL s.data.toList) w) := by
  have hnum : numL s.data.toList = Option.map (fun n : Nat => (n : Int)) (digsR 16 8 (s.data.toList.drop 2)) := by unfold numL; rw [if_pos hp]; cases digsR 16 8 (s.data.toList.drop 2) <;> rfl
  rw [pre_2 s (by omega)] at hp
  simp only [Bool.and_eq_true, decide_eq_true_eq] at hp
  obtain ⟨p0, p1⟩ := hp
  have hlen : (s.data.toList.drop 2).length = s.size - 2 := by simp
  have h2i : (2 : Int) < s.size := by omega
  by_cases h10 : s.size ≤ 10
  · have hnr : ∀ r, digs 16 (s.data.toList.drop 2) 0 = r → numL s.data.toList = Option.map (fun n : Nat => (n : Int)) r := by
      intro r hr
      rw [hnum]; unfold digsR
      rw [if_neg (by
        rintro (h | h)
        · rw [h] at hlen; simp at hlen; omega
        · omega), hr]
    have HNR := Lib.hid hnr
    have HD := Lib.hid (fun (c : UInt8) W b (h : digB (c.toNat : Int) = b) => show Calls Tryd.prog 49 #[.int .u8 (c.toNat : Int)] W fun e w' => e = .returned (.bool b) ∧ W = w' by rw [← h]; exact digit_ref _ W)
    have h10i : ¬ (10 : Int) < s.size := by omega
    clear hnr hnum hlen
    go_enter Tryd.func51, Tryd.ntmps51
    go_wp2
    clear p0 p1
    go_loop [4, 5] (fun nv i => ∃ k n : Nat, 2 ≤ k ∧ k ≤ s.size ∧ i = .int .i64 k ∧ nv = .int .i64 n ∧ Hid (Dgs 16 2 k s n)) (fun _ i => s.size - (intOf i).toNat)
    case atStart => exact ⟨2, 0, by omega, by omega, rfl, rfl, Lib.hid (dgs_start _ _ _)⟩
    case round =>
      obtain ⟨k, n, h2k, hk, rfl, rfl, hd⟩ := hrel
      have hbn := dgs_bd hd.out (by decide) 8 (by omega) hk
      have e8 : (16 : Nat) ^ 8 = 4294967296 := by decide
      by_cases hlt : k < s.size
      · cases hdg : digB (s[k].toNat : Int) with
        | true =>
          obtain ⟨x1, x2, x3, x4⟩ := hexV_dig0 hdg
          have HX := Lib.hid (dgs_next hd.out h2k hlt (by omega))
          have HD1 := Lib.hid (fun W => HD.out s[k] W true hdg)
          have hw : IntKind.u8.wrap ((s[k].toNat : Int) - 48) = (hexV s[k] : Int) := by rw [IntKind.wrap_u8]; omega
          go_wp2_with (go_at_call 49; (with_reducible refine (HD1.out _).mono ?_); rintro e w1 ⟨rfl, rfl⟩)
          go_round
          case rel => exact ⟨k + 1, n * 16 + hexV s[k], by omega, by omega, by go_num, by (congr 1; omega), HX⟩
          case measure => simp [intOf]; omega
        | false =>
          have HD1 := Lib.hid (fun W => HD.out s[k] W false hdg)
          by_cases hl : 97 ≤ (s[k].toNat : Int) ∧ (s[k].toNat : Int) ≤ 102
          · obtain ⟨l1, l2⟩ := hl
            obtain ⟨x1, x2⟩ := hexV_let0 hdg l1 l2
            have HX := Lib.hid (dgs_next hd.out h2k hlt x2)
            have hw : IntKind.u8.wrap ((s[k].toNat : Int) - 97) = (s[k].toNat : Int) - 97 := by rw [IntKind.wrap_u8]; omega
            go_wp2_with (go_at_call 49; (with_reducible refine (HD1.out _).mono ?_); rintro e w1 ⟨rfl, rfl⟩)
            go_round
            case rel => exact ⟨k + 1, n * 16 + hexV s[k], by omega, by omega, by go_num, by (congr 1; omega), HX⟩
            case measure => simp [intOf]; omega
          · have hno := hexV_no0 hdg hl
            have e := HNR.out none (dgs_bad hd.out h2k hlt hno)
            have E := Lib.hid e
            clear e hno
            by_cases l1 : 97 ≤ (s[k].toNat : Int)
            · have l2 : ¬ (s[k].toNat : Int) ≤ 102 := fun h => hl ⟨l1, h⟩
              clear hl
              go_wp2_with (go_at_call 49; (with_reducible refine (HD1.out _).mono ?_); rintro e w1 ⟨rfl, rfl⟩)
              go_ret2
              rw [E.out]; exact ⟨⟨_, rfl⟩, rfl⟩
            · clear hl
              go_wp2_with (go_at_call 49; (with_reducible refine (HD1.out _).mono ?_); rintro e w1 ⟨rfl, rfl⟩)
              go_ret2
              rw [E.out]; exact ⟨⟨_, rfl⟩, rfl⟩
      · obtain rfl : k = s.size := by omega
        have E := Lib.hid (HNR.out (some n) (dgs_end hd.out))
        go_wp2
        go_ret2
        rw [E.out]; exact ⟨rfl, rfl⟩
  · have e : numL s.data.toList = none := by
      rw [hnum]; unfold digsR
      rw [if_pos (Or.inr (by omega))]; rfl
    rw [e]
    have h10i : (10 : Int) < s.size := by omega
    clear e hnum hlen
    go_enter Tryd.func51, Tryd.ntmps51
    go_wp2
    go_ret2
    exact ⟨⟨_, rfl⟩, rfl⟩
theorem hp_dec {l : Bs} (h : Lib.hasPrefix l [48, 120] = true) : digs 10 l 0 = none := by
  unfold Lib.hasPrefix at h
  obtain ⟨t, rfl⟩ := List.isPrefixOf_iff_prefix.1 h
  simp only [List.cons_append, digs]
  rw [if_pos (by decide), if_neg (by decide)]
theorem trim_drop (s : ByteArray) (f : Nat) (b : Bool) (hb : Lib.hasPrefix s.data.toList [45] = b) (hf : f = if b = true then 1 else 0) : Lib.trimPrefix s.data.toList [45] = s.data.toList.drop f := by
  unfold Lib.trimPrefix
  rw [hb, hf]
  cases b <;> simp
theorem num_none (s : ByteArray) (f : Nat) (b : Bool) (hb : Lib.hasPrefix s.data.toList [45] = b) (hf : f = if b = true then 1 else 0) (hx : Lib.hasPrefix s.data.toList [48, 120] = true → s.size ≤ 2) (hd : digsR 10 10 (s.data.toList.drop f) = none) : numL s.data.toList = none := by
  unfold numL
  split
  · rename_i h
    have h2 := hx h
    have e : s.data.toList.drop 2 = [] := by
      apply List.eq_nil_of_length_eq_zero; simp; omega
    rw [e]; rfl
  · rw [trim_drop s f b hb hf, hd]
theorem num_some (s : ByteArray) (f n : Nat) (b : Bool) (v : Int) (hb : Lib.hasPrefix s.data.toList [45] = b) (hf : f = if b = true then 1 else 0) (hd : digsR 10 10 (s.data.toList.drop f) = some n) (hv : v = if b = true then -(n : Int) else n) :
    numL s.data.toList = if v < -2147483648 ∨ 4294967295 < v then none else some v := by
  have hn : ¬ Lib.hasPrefix s.data.toList [48, 120] = true := by
    intro h
    have hb0 : b = false := by
      rw [← hb]
      unfold Lib.hasPrefix at h ⊢
      obtain ⟨t, e⟩ := List.isPrefixOf_iff_prefix.1 h
      rw [← e]; rfl
    subst hb0
    simp at hf; subst hf
    have := hp_dec h
    unfold digsR at hd
    split at hd
    · cases hd
    · simp only [List.drop_zero] at hd; rw [this] at hd; cases hd
  unfold numL
  rw [if_neg hn, trim_drop s f b hb hf, hd]
  dsimp only
  rw [hb, hv]
theorem digs_ok {s : ByteArray} {f : Nat} (h1 : 1 ≤ s.size - f) (h2 : s.size - f ≤ 10) (r : Option Nat) (h : digs 10 (s.data.toList.drop f) 0 = r) : digsR 10 10 (s.data.toList.drop f) = r := by
  have hl : (s.data.toList.drop f).length = s.size - f := by simp
  unfold digsR
  rw [if_neg (by
    rintro (h | h)
    · rw [h] at hl; simp at hl; omega
    · omega), h]
theorem digs_off {s : ByteArray} {f : Nat} (h : s.size - f < 1 ∨ 10 < s.size - f) : digsR 10 10 (s.data.toList.drop f) = none := by
  have hl : (s.data.toList.drop f).length = s.size - f := by simp
  unfold digsR
  rw [if_pos (by
    rcases h with h | h
    · left; apply List.eq_nil_of_length_eq_zero; omega
    · right; omega)]
set_option maxHeartbeats 4000000 in
theorem number_pos (s : ByteArray) (w : World) (h1 : 1 ≤ s.size) (h0 : ¬ (s[0].toNat : Int) = 45) (hz : s.size ≤ 9223372036854775807)
    (hreg : s.size ≤ 2 ∨ (2 < s.size ∧ ¬ (s[0].toNat : Int) = 48) ∨ (∃ h : 2 < s.size, (s[0].toNat : Int) = 48 ∧ ¬ (s[1].toNat : Int) = 120)) :
    Calls Tryd.prog 51 #[.string s] w (NumPost (numL s.data.toList) w) := by
  have hb : Lib.hasPrefix s.data.toList [45] = false := by rw [pre_1 s h1]; exact decide_eq_false h0
  have hx : Lib.hasPrefix s.data.toList [48, 120] = true → s.size ≤ 2 := by
    intro h
    rcases hreg with hr | ⟨hr, h'⟩ | ⟨hr, h', h''⟩
    · exact hr
    · rw [pre_2 s (by omega)] at h; simp [h'] at h
    · rw [pre_2 s (by omega)] at h; simp [h''] at h
  have HN := Lib.hid (fun h => num_none s 0 false hb rfl hx h)
  have HS := Lib.hid (fun n v h hv => num_some s 0 n false v hb rfl h hv)
  have HD := Lib.hid (fun (c : UInt8) W b (h : digB (c.toNat : Int) = b) => show Calls Tryd.prog 49 #[.int .u8 (c.toNat : Int)] W fun e w' => e = .returned (.bool b) ∧ W = w' by rw [← h]; exact digit_ref _ W)
  have b45 : ((s[0].toNat : Int) == 45) = false := by simpa using h0
  have h1i : (0 : Int) < s.size := by omega
  clear hb hx
  by_cases hbig : 10 < s.size
  · have E := Lib.hid (HN.out (digs_off (Or.inr (by omega))))
    have hbi : (10 : Int) < s.size := by omega
    rcases hreg with hr | ⟨hr, h'⟩ | ⟨hr, h', h''⟩
    · omega
    · have b48 : ((s[0].toNat : Int) == 48) = false := by simpa using h'
      have hri : (2 : Int) < s.size := by omega
      go_enter Tryd.func51, Tryd.ntmps51
      go_wp2
      go_ret2
      rw [E.out]; exact ⟨⟨_, rfl⟩, rfl⟩
    · have b120 : ((s[1].toNat : Int) == 120) = false := by simpa using h''
      have hri : (2 : Int) < s.size := by omega
      go_enter Tryd.func51, Tryd.ntmps51
      go_wp2
      go_ret2
      rw [E.out]; exact ⟨⟨_, rfl⟩, rfl⟩
  · have hbi : ¬ (10 : Int) < s.size := by omega
    have HNR := Lib.hid (fun r h => digs_ok (s := s) (f := 0) (by omega) (by omega) r h)
    have hreg2 : Hid ((¬ (2 : Int) < s.size) ∨ ((2 : Int) < s.size ∧ ((s[0].toNat : Int) == 48) = false) ∨ (∃ h : 2 < s.size, (2 : Int) < s.size ∧ (s[0].toNat : Int) = 48 ∧ ((s[1].toNat : Int) == 120) = false)) := by
      rcases hreg with hr | ⟨hr, h'⟩ | ⟨hr, h', h''⟩
      · exact Lib.hid (Or.inl (by omega))
      · exact Lib.hid (Or.inr (Or.inl ⟨by omega, by simpa using h'⟩))
      · exact Lib.hid (Or.inr (Or.inr ⟨hr, by omega, h', by simpa using h''⟩))
    clear hreg
    rcases hreg2.out with hr | ⟨hr, h'⟩ | ⟨hr0, hr, h', h''⟩
    all_goals
      clear hreg2
      go_enter Tryd.func51, Tryd.ntmps51
      go_wp2
      clear b45 h0
      try clear h''
      try clear h'
      go_loop [7, 8] (fun nv i => ∃ k n : Nat, 0 ≤ k ∧ k ≤ s.size ∧ i = .int .i64 k ∧ nv = .int .i64 n ∧ Hid (Dgs 10 0 k s n)) (fun _ i => s.size - (intOf i).toNat)
      case atStart => exact ⟨0, 0, by omega, by omega, rfl, rfl, Lib.hid (dgs_start _ _ _)⟩
      case round =>
        obtain ⟨k, n, h2k, hk, rfl, rfl, hd⟩ := hrel
        have hbn := dgs_bd hd.out (by decide) 10 (by omega) hk
        have e8 : (10 : Nat) ^ 10 = 10000000000 := by decide
        by_cases hlt : k < s.size
        · cases hdg : digB (s[k].toNat : Int) with
          | true =>
            obtain ⟨x1, x2, x3, x4⟩ := hexV_dig0 hdg
            have HX := Lib.hid (dgs_next hd.out h2k hlt (by omega))
            have HD1 := Lib.hid (fun W => HD.out s[k] W true hdg)
            have hw : IntKind.u8.wrap ((s[k].toNat : Int) - 48) = (hexV s[k] : Int) := by rw [IntKind.wrap_u8]; omega
            go_wp2_with (go_at_call 49; (with_reducible refine (HD1.out _).mono ?_); rintro e w1 ⟨rfl, rfl⟩)
            go_round
            case rel => exact ⟨k + 1, n * 10 + hexV s[k], by omega, by omega, by go_num, by (congr 1; omega), HX⟩
            case measure => simp [intOf]; omega
          | false =>
            have HD1 := Lib.hid (fun W => HD.out s[k] W false hdg)
            have E := Lib.hid (HN.out (HNR.out none (dgs_bad hd.out h2k hlt (hexV_no1 hdg))))
            go_wp2_with (go_at_call 49; (with_reducible refine (HD1.out _).mono ?_); rintro e w1 ⟨rfl, rfl⟩)
            go_ret2
            rw [E.out]; exact ⟨⟨_, rfl⟩, rfl⟩
        · obtain rfl : k = s.size := by omega
          have E := Lib.hid (HS.out n n (HNR.out (some n) (dgs_end hd.out)) rfl)
          by_cases hv : (4294967295 : Int) < n
          · have E2 := Lib.hid (E.out.trans (if_pos (Or.inr hv)))
            go_wp2
            go_ret2
            rw [E2.out]; exact ⟨⟨n, show Ending.returned (.tuple #[.int .i64 n, .bool (decide ((n : Int) ≤ 4294967295))]) = _ by rw [decide_eq_false (by omega)]⟩, rfl⟩
          · have E2 := Lib.hid (E.out.trans (if_neg (by omega)))
            go_wp2
            go_ret2
            rw [E2.out]; exact ⟨rfl, rfl⟩
set_option maxHeartbeats 4000000 in
theorem number_neg (s : ByteArray) (w : World) (h1 : 1 ≤ s.size) (h0 : (s[0].toNat : Int) = 45) (hz : s.size ≤ 9223372036854775807) :
    Calls Tryd.prog 51 #[.string s] w (NumPost (numL s.data.toList) w) := by
  have hb : Lib.hasPrefix s.data.toList [45] = true := by rw [pre_1 s h1]; exact decide_eq_true h0
  have hx : Lib.hasPrefix s.data.toList [48, 120] = true → s.size ≤ 2 := by
    intro h
    by_cases hr : s.size ≤ 2
    · exact hr
    · rw [pre_2 s (by omega)] at h; simp [h0] at h
  have HN := Lib.hid (fun h => num_none s 1 true hb rfl hx h)
  have HS := Lib.hid (fun n v h hv => num_some s 1 n true v hb rfl h hv)
  have HD := Lib.hid (fun (c : UInt8) W b (h : digB (c.toNat : Int) = b) => show Calls Tryd.prog 49 #[.int .u8 (c.toNat : Int)] W fun e w' => e = .returned (.bool b) ∧ W = w' by rw [← h]; exact digit_ref _ W)
  have h1i : (0 : Int) < s.size := by omega
  clear hb hx
  have hsz2 : Hid ((¬ (2 : Int) < s.size) ∨ (2 : Int) < s.size) := Lib.hid (by omega)
  by_cases hone : s.size - 1 < 1 ∨ 10 < s.size - 1
  · have E := Lib.hid (HN.out (digs_off hone))
    rcases hone with ho | ho
    · have hri : ¬ (2 : Int) < s.size := by omega
      have hs1 : (s.size : Int) = 1 := by omega
      go_enter Tryd.func51, Tryd.ntmps51
      go_wp2
      go_ret2
      rw [E.out]; exact ⟨⟨_, rfl⟩, rfl⟩
    · have hri : (2 : Int) < s.size := by omega
      have hs1 : ¬ (s.size : Int) - 1 < 1 := by omega
      have hs2 : (10 : Int) < (s.size : Int) - 1 := by omega
      go_enter Tryd.func51, Tryd.ntmps51
      go_wp2
      go_ret2
      rw [E.out]; exact ⟨⟨_, rfl⟩, rfl⟩
  · have hs1 : ¬ (s.size : Int) - 1 < 1 := by omega
    have hs2 : ¬ (10 : Int) < (s.size : Int) - 1 := by omega
    have HNR := Lib.hid (fun r h => digs_ok (s := s) (f := 1) (by omega) (by omega) r h)
    have hone' : s.size ≤ 11 := by omega
    clear hone
    rcases hsz2.out with hr | hr
    all_goals
      clear hsz2
      go_enter Tryd.func51, Tryd.ntmps51
      go_wp2
      clear h0
      go_loop [7, 8] (fun nv i => ∃ k n : Nat, 1 ≤ k ∧ k ≤ s.size ∧ i = .int .i64 k ∧ nv = .int .i64 n ∧ Hid (Dgs 10 1 k s n)) (fun _ i => s.size - (intOf i).toNat)
      case atStart => exact ⟨1, 0, by omega, by omega, rfl, rfl, Lib.hid (dgs_start _ _ _)⟩
      case round =>
        obtain ⟨k, n, h2k, hk, rfl, rfl, hd⟩ := hrel
        have hbn := dgs_bd hd.out (by decide) 10 (by omega) hk
        have e8 : (10 : Nat) ^ 10 = 10000000000 := by decide
        by_cases hlt : k < s.size
        · cases hdg : digB (s[k].toNat : Int) with
          | true =>
            obtain ⟨x1, x2, x3, x4⟩ := hexV_dig0 hdg
            have HX := Lib.hid (dgs_next hd.out h2k hlt (by omega))
            have HD1 := Lib.hid (fun W => HD.out s[k] W true hdg)
            have hw : IntKind.u8.wrap ((s[k].toNat : Int) - 48) = (hexV s[k] : Int) := by rw [IntKind.wrap_u8]; omega
            go_wp2_with (go_at_call 49; (with_reducible refine (HD1.out _).mono ?_); rintro e w1 ⟨rfl, rfl⟩)
            go_round
            case rel => exact ⟨k + 1, n * 10 + hexV s[k], by omega, by omega, by go_num, by (congr 1; omega), HX⟩
            case measure => simp [intOf]; omega
          | false =>
            have HD1 := Lib.hid (fun W => HD.out s[k] W false hdg)
            have E := Lib.hid (HN.out (HNR.out none (dgs_bad hd.out h2k hlt (hexV_no1 hdg))))
            go_wp2_with (go_at_call 49; (with_reducible refine (HD1.out _).mono ?_); rintro e w1 ⟨rfl, rfl⟩)
            go_ret2
            rw [E.out]; exact ⟨⟨_, rfl⟩, rfl⟩
        · obtain rfl : k = s.size := by omega
          have E := Lib.hid (HS.out n (-(n : Int)) (HNR.out (some n) (dgs_end hd.out)) rfl)
          by_cases hv : -(n : Int) < -2147483648
          · have E2 := Lib.hid (E.out.trans (if_pos (Or.inl hv)))
            have hv2 : ¬ (-2147483648 : Int) ≤ -(n : Int) := by omega
            go_wp2
            go_ret2
            rw [E2.out]; exact ⟨⟨_, rfl⟩, rfl⟩
          · have E2 := Lib.hid (E.out.trans (if_neg (by omega)))
            have hv2 : (-2147483648 : Int) ≤ -(n : Int) := by omega
            have hv3 : -(n : Int) ≤ 4294967295 := by omega
            go_wp2
            go_ret2
            rw [E2.out]; exact ⟨rfl, rfl⟩
theorem number_nil (s : ByteArray) (w : World) (h1 : s.size = 0) :
    Calls Tryd.prog 51 #[.string s] w (NumPost (numL s.data.toList) w) := by
  have e : numL s.data.toList = none := by rw [nil_size h1]; rfl
  rw [e]
  have hi : (s.size : Int) = 0 := by omega
  clear e
  go_enter Tryd.func51, Tryd.ntmps51
  go_wp2
  go_ret2
  exact ⟨⟨_, rfl⟩, rfl⟩
theorem number_ref (s : ByteArray) (w : World) (hz : s.size ≤ 9223372036854775807) :
    Calls Tryd.prog 51 #[.string s] w (NumPost (numL s.data.toList) w) := by
  by_cases h0 : s.size = 0
  · exact number_nil s w h0
  · by_cases h45 : (s[0].toNat : Int) = 45
    · exact number_neg s w (by omega) h45 hz
    · by_cases h2 : s.size ≤ 2
      · exact number_pos s w (by omega) h45 hz (Or.inl h2)
      · by_cases h48 : (s[0].toNat : Int) = 48
        · by_cases h120 : (s[1].toNat : Int) = 120
          · exact number_hex s w (by omega) (by rw [pre_2 s (by omega), decide_eq_true h48, decide_eq_true h120]; rfl) hz
          · exact number_pos s w (by omega) h45 hz (Or.inr (Or.inr ⟨by omega, h48, h120⟩))
        · exact number_pos s w (by omega) h45 hz (Or.inr (Or.inl ⟨by omega, h48⟩))
end Go.Proofs.YthghbcjaokpilaaDoor
