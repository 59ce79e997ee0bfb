import Derived.Test.YtkilbakghacooaaPmFn8
import Derived.Lib.AppendStr
namespace Go.Proofs.Ytkilbakghacooaa
set_option linter.unusedVariables false
set_option linter.unusedSimpArgs false
open Go.ChangeShapes Go.WideShapes Go.ChangeAt Go.RowKit Go.Proofs.Ytkilbakghacooaa.Num Go.Proofs.Ytkilbakghacooaa.Mem
theorem low_snoc (x : Int) (k : Nat) (hk : k < 4) : (lowL x).take (k + 1) = (lowL x).take k ++ [low x k] := by
  match k, hk with
  | 0, _ => rfl
  | 1, _ => rfl
  | 2, _ => rfl
  | 3, _ => rfl
theorem low_shift (x : Int) (k : Nat) (h0 : 0 ≤ x) : x / 2 ^ (8 * k) % 256 = (((low x k).toNat : Nat) : Int) := by
  rw [low_val x k h0, Int.pow_mul]
  rfl
set_option maxRecDepth 100000 in
set_option maxHeartbeats 1000000 in
theorem low_any (x : Int) (w : World) (h0 : 0 ≤ x) (h1 : x ≤ 4294967295) :
    Calls Try.prog 42 #[.int .u32 x, .int .i64 4] w fun e w' => e = .returned (.string (S8 (lowL x))) ∧ Below w.heap.size w w' := by
  obtain ⟨i0, hi, hz0, hz1, hz2⟩ := info_parts info_u8
  go_enter Try.func42, Try.ntmps42
  go_wp2
  go_loopw [5, 6] (fun b i wr => ∃ k : Nat, k ≤ 4 ∧ i = .int .i64 k ∧ wr.ownsRow w.heap.size 5 1 b k (u8s ((lowL x).take k)) ∧ Below w.heap.size w wr) (fun _ i _ => 4 - (intOf i).toNat)
  case atStart => exact ⟨0, Nat.zero_le _, rfl, World.ownsRow_nil _ _ _ _, Below.refl _ _⟩
  case round =>
    obtain ⟨k, hk, rfl, hown, hbel⟩ := hrel
    have hws : w.heap.size ≤ wr.heap.size := hbel.size
    by_cases hlt : k < 4
    · have HL := Lib.hid (low_snoc x k hlt)
      have HV := Lib.hid (low_shift x k h0)
      generalize (lowL x).take k = pre at hown HL
      go_wp2_with (at_builtin; refine wpList_append_own _ rfl _ _ 59 rfl (w.heap.size) 5 i0 (.int .u8 0) 1 1 Try.underlying59 hi hz0 hz1 hz2 rfl (by decide) _ _ _ rfl (hown.alloc _) ⟨wr.heap.size, 0, none⟩ 1 1 [.int .u8 (x / 2 ^ (8 * k) % 256)] rfl rfl (new_cell _ _ _) (one_cell _ _) (by unfold maxLen; omega) (by omega) (by simp; omega) ?_)
      intro v' w1 hown1 hgrow _
      rw [HV.out, u8s_snoc pre (low x k) _ rfl, ← HL.out] at hown1
      go_wp2
      go_roundw
      case rel => exact ⟨k + 1, by omega, by go_num, hown1, (hbel.alloc hws _).grown hgrow (by simp; omega) (fun k hk => (hown.lt k hk).1)⟩
      case measure => simp [intOf]; omega
    · obtain rfl : k = 4 := by omega
      have e4 : (lowL x).take 4 = lowL x := rfl
      rw [e4] at hown
      have hc := own_convert (P := Try.prog) Try.underlying59 Try.underlying5 Try.underlying9 _ _ hown rfl (by simp [lowL])
      clear hown
      go_wp2
      go_ret
      exact ⟨rfl, hbel⟩
theorem own_on {w w' : World} {base size n : Nat} {e : TypeId} {v : Value} {xs : List Value} (h : w.ownsRow base e size v n xs) (hb : Below w.heap.size w w') : w'.ownsRow base e size v n xs := by
  refine ⟨h.1, ?_⟩
  rcases h.2 with h0 | ⟨g, cap, cur, rfl, hbg, hg, h5⟩
  · exact .inl h0
  · exact .inr ⟨g, cap, cur, rfl, hbg, by rw [hb.block g (Array.getElem?_eq_some_iff.1 hg).1]; exact hg, h5⟩
theorem u8s_app (l r : List UInt8) : u8s l ++ u8s r = u8s (l ++ r) := by simp [u8s]
theorem strCells_S8 (l : List UInt8) : Lib.strCells (S8 l) = u8s l := by
  unfold Lib.strCells u8s
  rw [S8_list]
theorem page_refno (A : Option Addr) (n c : Nat) (f : Int) (w : World) (hn : n ≤ 1024) (hf : ¬ (0 ≤ f ∧ f < pagesN n)) :
    Calls Try.prog 28 #[.slice A n c, .int .i64 f] w fun e w' => e = .returned (.tuple #[.string { data := #[] }, .bool false]) ∧ Below w.heap.size w w' := by
  have HN := Lib.hid hf
  clear hf
  go_enter Try.func28, Try.ntmps28
  go_wp2_with (go_at_call 26; refine (pages_ref _ _ _ _ (by omega)).mono ?_; rintro e w2 ⟨rfl, m2, rfl⟩)
  all_goals first | (exfalso; have := HN.out; omega) | skip
  all_goals go_ret2
  all_goals first | exact ⟨rfl, below_drewN (Below.refl _ _) _⟩ | exact ⟨rfl, Below.refl _ _⟩
set_option maxRecDepth 100000 in
set_option maxHeartbeats 1000000 in
theorem page_ref (A : Option Addr) (n c f : Nat) (l : List Int) (w : World) (hm : Mem w A n c l) (hf : f < pagesN n) :
    Calls Try.prog 28 #[.slice A n c, .int .i64 f] w fun e w' => e = .returned (.tuple #[.string (pageS l f), .bool true]) ∧ Below w.heap.size w w' := by
  obtain ⟨i0, hi, hz0, hz1, hz2⟩ := info_parts info_u8
  have hn := hm.2.2.1
  have hp := pagesN_le n
  have HM := Lib.hid hm
  have HF : Hid (f < pagesN n) := hf
  have hfI : (f : Int) < pagesN n := by omega
  have hd : decide (pagesN n ≤ f) = false := by simp; omega
  have hd0 : decide ((f : Int) < 0) = false := by simp
  clear hf hm
  go_enter Try.func28, Try.ntmps28
  go_wp2_with (go_at_call 26; refine (pages_ref _ _ _ _ (by omega)).mono ?_; rintro e w2 ⟨rfl, m2, rfl⟩)
  all_goals first | (exfalso; omega) | skip
  go_loopw [6, 7] (fun b i wr => ∃ k : Nat, k ≤ 32 ∧ i = .int .i64 k ∧ wr.ownsRow w.heap.size 5 1 b (4 * k) (u8s (bytesL ((pageL l f).take k))) ∧ Below w.heap.size w wr) (fun _ i _ => 32 - (intOf i).toNat)
  case atStart => exact ⟨0, Nat.zero_le _, rfl, World.ownsRow_nil _ _ _ _, below_drewN (Below.refl _ _) _⟩
  case round =>
    obtain ⟨k, hk, rfl, hown, hbel⟩ := hrel
    have hws : w.heap.size ≤ wr.heap.size := hbel.size
    have hpl : (pageL l f).length = 32 := pageL_len (by rw [HM.out.1]; have := HF.out; omega)
    by_cases hlt : k < 32
    · obtain ⟨b, off, rfl, hc1, x0, x1⟩ := (HM.out.on hbel).at_ (k := 32 * f + k) (by have := HF.out; omega)
      have HB := Lib.hid (bytes_snoc (pageL l f) k (by omega))
      rw [pageL_wd hlt] at HB
      have hidx : (f : Int) * 32 + k < n := by have := HF.out; omega
      have eidx : ((f : Int) * 32 + k).toNat = 32 * f + k := by omega
      generalize wd l (32 * f + k) = x at hc1 x0 x1 HB
      generalize bytesL ((pageL l f).take k) = pre at hown HB
      clear hpl
      go_wp2_with (first
        | (go_at_call 42; refine (low_any _ _ (by omega) (by omega)).mono ?_; rintro e w3 ⟨rfl, hb3⟩; have hown3 := own_on hown hb3)
        | (at_builtin; refine Lib.wpList_append_own_string _ rfl _ _ 59 9 rfl (w.heap.size) 5 i0 Try.underlying59 Try.underlying9 hi hz0 hz1 hz2 _ _ _ rfl hown3 _ rfl (by rw [S8_size]; simp [lowL]; unfold maxLen; omega) (by rw [S8_size]; simp [lowL]; omega) (by have := hb3.size; omega) ?_))
      intro v' w1 hown1 hgrow _
      rw [strCells_S8, u8s_app, ← HB.out, S8_size] at hown1
      have hb4 : Below w.heap.size w w1 := (below_step hbel hb3).grown hgrow (by have := hb3.size; omega) (fun k hk => (hown3.lt k hk).1)
      go_wp2
      go_roundw
      case rel => exact ⟨k + 1, by omega, by go_num, by rw [Nat.mul_add]; exact hown1, hb4⟩
      case measure => simp [intOf]; omega
    · obtain rfl : k = 32 := by omega
      rw [List.take_of_length_le (by omega)] at hown
      have hc := own_convert (P := Try.prog) Try.underlying59 Try.underlying5 Try.underlying9 _ _ hown (by rw [bytesL_len, hpl]) (by intro h; have := congrArg List.length h; rw [bytesL_len, hpl] at this; simp at this)
      clear hown hpl
      go_wp2
      go_ret2
      exact ⟨rfl, hbel⟩
theorem stV_byte (l : List Int) (a : Int) (q : Nat) (v : Int) (ha : a = q) : stV l a 1 v = l.set (q / 4) (setB (wd l (q / 4)) (q % 4) v) := by
  subst ha
  unfold stV stW
  have e1 : ((q : Int) / 4).toNat = q / 4 := by omega
  have e2 : ((q : Int) % 4).toNat = q % 4 := by omega
  rw [e1, e2, if_neg (by decide)]
set_option maxRecDepth 100000 in
set_option maxHeartbeats 1000000 in
theorem fill_ref (g n c f : Nat) (l : List Int) (s : ByteArray) (w : World) (B : Nat) (hB : B ≤ g) (ho : Own w g l) (hl : l.length = n) (hn : n ≤ 1024) (hu : U32 l) (hf : f < pagesN n) (hs : s.size = 128) :
    Calls Try.prog 50 #[.slice (some ⟨g, 0, none⟩) n c, .int .i64 f, .string s] w fun e w' => e = .returned (.tuple #[]) ∧ (∃ l', Own w' g l' ∧ Filled s.data.toList f 128 l l') ∧ Below B w w' := by
  have hp := pagesN_le n
  have HO := Lib.hid ho
  have HL := Lib.hid hl
  have HS := Lib.hid hs
  have HF : Hid (f < pagesN n) := hf
  clear ho hl hs hf
  go_enter Try.func50, Try.ntmps50
  go_wp2
  go_loopw [6] (fun i wr => ∃ (k : Nat) (l' : List Int), k ≤ 128 ∧ i = .int .i64 k ∧ Hid (Filled s.data.toList f k l l') ∧ Own wr g l' ∧ Below B w wr) (fun i _ => 128 - (intOf i).toNat)
  case atStart => exact ⟨0, l, by omega, rfl, Filled.start _ _ hu, HO.out, Below.refl _ _⟩
  case round =>
    obtain ⟨k, l', hk, rfl, hF, ho, hb⟩ := hrel
    by_cases hlt : k < 128
    · have hks : k < s.size := by rw [HS.out]; exact hlt
      have HO2 := Lib.hid ho
      have HB2 := Lib.hid hb
      have hFN := hF.out.one hlt (by rw [HL.out]; have := HF.out; omega)
      have hv := sget s k hks
      rw [hv] at hFN
      have v0 : 0 ≤ ((s[k].toNat : Nat) : Int) := by omega
      have v1 : ((s[k].toNat : Nat) : Int) ≤ 4294967295 := by have := s[k].toNat_lt; omega
      have HFN := Lib.hid hFN
      have ha0 : 0 ≤ (f : Int) * 128 + k := by omega
      have ha1 : (f : Int) * 128 + k ≤ 4095 := by have := HF.out; omega
      have HP := Lib.hid (fun W (h : Own W g l') => put_ref' g n c l' ((f : Int) * 128 + k) 1 ((s[k].toNat : Nat) : Int) W B hB h (by rw [hF.out.1]; exact HL.out) hn hF.out.2.1 (by omega) (by have := HF.out; omega) (.inl rfl) v0 v1)
      rw [stV_byte l' _ (128 * f + k) _ (by omega)] at HP
      clear ho hb hFN hv
      go_wp2_with (go_at_call 53; refine (HP.out _ HO2.out).mono ?_; rintro e w2 ⟨rfl, ho2, hb2⟩)
      go_roundw
      case rel => exact ⟨k + 1, _, by omega, by go_num, HFN, ho2, HB2.out.trans hb2⟩
      case measure => simp [intOf]; omega
    · obtain rfl : k = 128 := by omega
      have s3 : ¬ (128 : Int) < s.size := by rw [HS.out]; decide
      have s4 : ¬ 128 < s.size := by rw [HS.out]; decide
      go_wp2
      go_end0
      exact ⟨rfl, ⟨l', ho, hF.out⟩, hb⟩
/-- What Page gives. -/
def pgS (n : Nat) (l : List Int) (f : Int) : ByteArray := if 0 ≤ f ∧ f < pagesN n then pageS l f.toNat else { data := #[] }
theorem pageS_size {l : List Int} {f : Nat} (h : 32 * f + 32 ≤ l.length) : (pageS l f).size = 128 := by
  unfold pageS; rw [S8_size, bytesL_len, pageL_len h]
theorem page_any (A : Option Addr) (n c : Nat) (f : Int) (l : List Int) (w : World) (hm : Mem w A n c l) :
    Calls Try.prog 34 #[.slice A n c, .int .i64 f] w fun e w' => e = .returned (.tuple #[.string (pgS n l f), .bool (decide (0 ≤ f ∧ f < pagesN n))]) ∧ Below w.heap.size w w' := by
  unfold pgS
  by_cases hf : 0 ≤ f ∧ f < pagesN n
  · obtain ⟨k, rfl⟩ : ∃ k : Nat, f = k := ⟨f.toNat, by omega⟩
    rw [if_pos hf, decide_eq_true hf]
    exact page_yes A n c k l w hm (by omega)
  · rw [if_neg hf, decide_eq_false hf]
    exact page_no A n c f w hm.2.2.1 hf
theorem page_ref' (A : Option Addr) (n c : Nat) (f : Int) (l : List Int) (w : World) (hm : Mem w A n c l) :
    Calls Try.prog 28 #[.slice A n c, .int .i64 f] w fun e w' => e = .returned (.tuple #[.string (pgS n l f), .bool (decide (0 ≤ f ∧ f < pagesN n))]) ∧ Below w.heap.size w w' := by
  unfold pgS
  by_cases hf : 0 ≤ f ∧ f < pagesN n
  · obtain ⟨k, rfl⟩ : ∃ k : Nat, f = k := ⟨f.toNat, by omega⟩
    rw [if_pos hf, decide_eq_true hf]
    exact page_ref A n c k l w hm (by omega)
  · rw [if_neg hf, decide_eq_false hf]
    exact page_refno A n c f w hm.2.2.1 hf
set_option maxRecDepth 100000 in
set_option maxHeartbeats 1000000 in
theorem data_any (y : Int) (w : World) (h0 : -9223372036854775808 ≤ y) (h1 : y ≤ 9223372036854775807) :
    Calls Try.prog 17 #[.int .i64 y, .int .i64 128] w fun e w' => (∃ l, e = .returned (.string (S8 l)) ∧ l.length = 128) ∧ Below w.heap.size w w' := by
  obtain ⟨i0, hi, hz0, hz1, hz2⟩ := info_parts info_u8
  go_enter Try.func17, Try.ntmps17
  go_wp2
  go_loopw [5, 6] (fun b i wr => ∃ (k : Nat) (pre : List UInt8), k ≤ 128 ∧ i = .int .i64 k ∧ Hid (pre.length = k) ∧ wr.ownsRow w.heap.size 5 1 b k (u8s pre) ∧ Below w.heap.size w wr) (fun _ i _ => 128 - (intOf i).toNat)
  case atStart => exact ⟨0, [], Nat.zero_le _, rfl, (rfl : ([] : List UInt8).length = 0), World.ownsRow_nil _ _ _ _, Below.refl _ _⟩
  case round =>
    obtain ⟨k, pre, hk, rfl, hpl, hown, hbel⟩ := hrel
    have hws : w.heap.size ≤ wr.heap.size := hbel.size
    by_cases hlt : k < 128
    · have hx := mixK_bd y ((k : Int) / 9)
      have HM := Lib.hid (fun W => mix_any y ((k : Int) / 9) W h0 h1 (by omega) (by omega))
      generalize mixK y ((k : Int) / 9) = x at hx HM
      obtain ⟨x0, x1⟩ := hx
      have HV : Hid (x % 256 = (((UInt8.ofNat (x % 256).toNat).toNat : Nat) : Int)) := by
        show _ = _
        simp; omega
      generalize UInt8.ofNat (x % 256).toNat = bt at HV
      go_wp2_with (first
        | (go_at_call 18; refine (HM.out _).mono ?_; rintro e w3 ⟨rfl, rfl⟩)
        | (at_builtin; refine wpList_append_own _ rfl _ _ 59 rfl (w.heap.size) 5 i0 (.int .u8 0) 1 1 Try.underlying59 hi hz0 hz1 hz2 rfl (by decide) _ _ _ rfl (hown.alloc _) ⟨wr.heap.size, 0, none⟩ 1 1 [.int .u8 (x % 256)] rfl rfl (new_cell _ _ _) (one_cell _ _) (by unfold maxLen; omega) (by omega) (by simp; omega) ?_))
      intro v' w1 hown1 hgrow _
      rw [HV.out, u8s_snoc pre bt _ rfl] at hown1
      go_wp2
      go_roundw
      case rel => exact ⟨k + 1, pre ++ [bt], by omega, by go_num, (by rw [List.length_append, hpl.out]; rfl : (pre ++ [bt]).length = k + 1), hown1, (hbel.alloc hws _).grown hgrow (by simp; omega) (fun k hk => (hown.lt k hk).1)⟩
      case measure => simp [intOf]; omega
    · obtain rfl : k = 128 := by omega
      have hc := own_convert (P := Try.prog) Try.underlying59 Try.underlying5 Try.underlying9 _ _ hown (by rw [hpl.out]) (by intro h; have := hpl.out; rw [h] at this; simp at this)
      clear hown
      go_wp2
      go_ret
      exact ⟨⟨pre, rfl, hpl.out⟩, hbel⟩
end Go.Proofs.Ytkilbakghacooaa
