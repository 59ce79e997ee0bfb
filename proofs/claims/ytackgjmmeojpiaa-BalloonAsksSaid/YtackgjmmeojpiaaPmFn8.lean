import Derived.Test.YtackgjmmeojpiaaPmNum2
import Derived.Deep.QuietTactic
import Derived.BigQuiet
namespace Go.Proofs.Ytackgjmmeojpiaa
set_option linter.unusedVariables false
set_option linter.unusedSimpArgs false
open Go.ChangeShapes Go.WideShapes Go.ChangeAt Go.RowKit Go.Proofs.Ytackgjmmeojpiaa.Num Go.Proofs.Ytackgjmmeojpiaa.Mem
theorem or_add (x y : Nat) (k : Nat) (hk : k ≤ 24) (hx : x < 2 ^ k) (hy : y < 256) : bits .or .u32 (x : Int) ((y : Int) * 2 ^ k) = ((x + y * 2 ^ k : Nat) : Int) := by
  have h2 : (2 : Int) ^ k = ((2 ^ k : Nat) : Int) := by simp
  have hb : 2 ^ k ≤ 2 ^ 24 := Nat.pow_le_pow_right (by decide) hk
  have hlt : y * 2 ^ k < 4294967296 := by
    have : y * 2 ^ k ≤ 255 * 2 ^ 24 := Nat.mul_le_mul (by omega) hb
    omega
  rw [h2, ← Int.natCast_mul, u32_or_nat _ _ (by omega) hlt]
  have := Nat.two_pow_add_eq_or_of_lt hx y
  rw [Nat.or_comm, Nat.mul_comm y, ← this, Nat.add_comm]
theorem sget (s : ByteArray) (k : Nat) (h : k < s.size) : s.data.toList.getD k 0 = s[k] := by
  have : k < s.data.size := h
  rw [List.getD_eq_getElem?_getD, Array.getElem?_toList, Array.getElem?_eq_getElem this]; rfl
theorem join_or (a b c d : UInt8) : bits .or .u32 (bits .or .u32 (bits .or .u32 ((a.toNat : Int) % 4294967296) ((b.toNat : Int) % 4294967296 * 256 % 4294967296)) ((c.toNat : Int) % 4294967296 * 65536 % 4294967296)) ((d.toNat : Int) % 4294967296 * 16777216 % 4294967296) = join a b c d := by
  have h1 := a.toNat_lt; have h2 := b.toNat_lt; have h3 := c.toNat_lt; have h4 := d.toNat_lt
  have e1 : (a.toNat : Int) % 4294967296 = a.toNat := by omega
  have e2 : (b.toNat : Int) % 4294967296 * 256 % 4294967296 = (b.toNat : Int) * 2 ^ 8 := by omega
  have e3 : (c.toNat : Int) % 4294967296 * 65536 % 4294967296 = (c.toNat : Int) * 2 ^ 16 := by omega
  have e4 : (d.toNat : Int) % 4294967296 * 16777216 % 4294967296 = (d.toNat : Int) * 2 ^ 24 := by omega
  rw [e1, e2, e3, e4, or_add _ _ 8 (by omega) (by omega) (by omega), or_add _ _ 16 (by omega) (by omega) (by omega), or_add _ _ 24 (by omega) (by omega) (by omega)]
  unfold join
  omega
set_option maxRecDepth 100000 in
theorem word_any (s : ByteArray) (w : World) (hs : 4 ≤ s.size) (hs' : s.size ≤ 1000) :
    Calls Try.prog 39 #[.string s] w fun e w' => e = .returned (.int .u32 (join (s.data.toList.getD 0 0) (s.data.toList.getD 1 0) (s.data.toList.getD 2 0) (s.data.toList.getD 3 0))) ∧ ∃ m, w' = w.drewN m := by
  have c0 : 0 < s.size := by omega
  have c1 : 1 < s.size := by omega
  have c2 : 2 < s.size := by omega
  have c3 : 3 < s.size := by omega
  have b0 : (0 : Int) < s.size := by omega
  have b1 : (1 : Int) < s.size := by omega
  have b2 : (2 : Int) < s.size := by omega
  have b3 : (3 : Int) < s.size := by omega
  go_enter Try.func39, Try.ntmps39
  go_wp2
  go_quiet (fail)
  go_wp2
  go_ret
  refine ⟨ret_int ?_, _, rfl⟩
  rw [sget s 0 c0, sget s 1 c1, sget s 2 c2, sget s 3 c3]
  exact join_or s[0] s[1] s[2] s[3]
theorem ext_get (s : ByteArray) (k i : Nat) (h : k + i < s.size) : (s.extract k s.size).data.toList.getD i 0 = s.data.toList.getD (k + i) 0 := by
  have e : (s.extract k s.size).data.toList = s.data.toList.drop k := by
    rw [ByteArray.data_extract, Array.toList_extract, List.extract_eq_take_drop, List.take_of_length_le]
    rw [List.length_drop, Array.length_toList]
    exact Nat.le_refl _
  rw [e, List.getD_eq_getElem?_getD, List.getD_eq_getElem?_getD, List.getElem?_drop]
theorem word_at (s : ByteArray) (k : Nat) (w : World) (hs : s.size = 128) (hk : k < 32) :
    Calls Try.prog 39 #[.string (s.extract (k * 4) s.size)] w fun e w' => e = .returned (.int .u32 (join (s.data.toList.getD (4 * k) 0) (s.data.toList.getD (4 * k + 1) 0) (s.data.toList.getD (4 * k + 2) 0) (s.data.toList.getD (4 * k + 3) 0))) ∧ ∃ m, w' = w.drewN m := by
  have hz : (s.extract (k * 4) s.size).size = s.size - k * 4 := by simp
  refine (word_any _ w (by omega) (by omega)).mono fun e w' ⟨he, hw⟩ => ⟨?_, hw⟩
  rw [he, ext_get s _ 0 (by omega), ext_get s _ 1 (by omega), ext_get s _ 2 (by omega), ext_get s _ 3 (by omega), Nat.mul_comm k 4, Nat.add_zero]
/-- What SetPage gives. -/
def SetPost (n : Nat) (l : List Int) (f : Int) (s : ByteArray) (w : World) (e : Ending) (w' : World) : Prop :=
  (∃ A c l', e = .returned (.tuple #[.slice A n c, .bool (decide (0 ≤ f ∧ f < pagesN n ∧ s.size = 128))]) ∧ Mem w' A n c l' ∧ (0 ≤ f ∧ f < pagesN n ∧ s.size = 128 → Filled s.data.toList f.toNat 128 l l') ∧ (¬ (0 ≤ f ∧ f < pagesN n ∧ s.size = 128) → l' = l)) ∧ Below w.heap.size w w'
set_option maxRecDepth 100000 in
set_option maxHeartbeats 1000000 in
theorem set_yes (A : Option Addr) (n c f : Nat) (l : List Int) (s : ByteArray) (w : World) (hm : Mem w A n c l) (hf : f < pagesN n) (hs : s.size = 128) :
    Calls Try.prog 34 #[.slice A n c, .int .i64 f, .string s] w (SetPost n l f s w) := by
  have hn := hm.2.2.1
  have hl := hm.1
  have hu := hm.2.2.2.1
  have hp := pagesN_le n
  have HC := Lib.hid (clone_any A n c l w hm)
  have HH := Lib.hid (fun W => hasPage_any A n c f W hn)
  rw [decide_eq_true (⟨by omega, by omega⟩ : 0 ≤ (f : Int) ∧ (f : Int) < pagesN n)] at HH
  have HL := Lib.hid hl
  have HS := Lib.hid hs
  have s1 : ¬ s.size < 128 := by omega
  have s2 : (s.size : Int) = 128 := by omega
  have HF : Hid (f < pagesN n) := hf
  clear hl hm hs hf
  go_enter Try.func34, Try.ntmps34
  go_wp2_with (first | (go_at_call 27; refine (HC.out).mono ?_; rintro e w1 ⟨⟨A1, c1, rfl, hm1, ho1⟩, hb1⟩; obtain ⟨g, rfl, hg, ho⟩ := ho1 (by have := HF.out; omega)) | (go_at_call 37; refine (HH.out _).mono ?_; rintro e w2 ⟨rfl, m2, rfl⟩) | (go_at_call 38; refine (pageOf_at g 0 n c1 f _ (by have := HF.out; omega) hm1.2.1 hn).mono ?_; rintro e w2 ⟨rfl, rfl⟩))
  have HO := Lib.hid ho
  have HM := Lib.hid hm1
  have HB := Lib.hid hb1
  clear ho1 ho hm1 hb1
  go_loopw [28] (fun i wr => ∃ (k : Nat) (l' : List Int), k ≤ 32 ∧ i = .int .i64 k ∧ Hid (Filled s.data.toList f (4 * k) l l') ∧ Own wr g l' ∧ Below w.heap.size w wr) (fun i _ => 32 - (intOf i).toNat)
  case atStart => exact ⟨0, l, by omega, rfl, Filled.start _ _ hu, HO.out, below_drewN HB.out _⟩
  case round =>
    obtain ⟨k, l', hk, rfl, hF, ho, hb⟩ := hrel
    by_cases hlt : k < 32
    · have hcell := ho.cell (i := 32 * f + k) (by rw [hF.out.1, HL.out]; have := HF.out; omega)
      have hfree := ho.free (32 * f + k)
      have HO2 := Lib.hid ho
      have HB2 := Lib.hid hb
      clear ho hb
      have hFN := hF.out.four hlt (by rw [HL.out]; have := HF.out; omega)
      have HW := Lib.hid (fun W => word_at s k W HS.out hlt)
      generalize join (s.data.toList.getD (4 * k) 0) (s.data.toList.getD (4 * k + 1) 0) (s.data.toList.getD (4 * k + 2) 0) (s.data.toList.getD (4 * k + 3) 0) = J at hFN HW
      have HFN := Lib.hid hFN
      clear hFN
      go_wp2_with (go_at_call 39; refine (HW.out _).mono ?_; rintro e w2 ⟨rfl, m3, rfl⟩)
      go_roundw
      case rel => exact ⟨k + 1, _, by omega, by go_num, HFN, (HO2.out.drewN _).set (by rw [hF.out.1, HL.out]; have := HF.out; omega) J, (below_drewN HB2.out _).setCell hg _⟩
      case measure => simp [intOf]; omega
    · obtain rfl : k = 32 := by omega
      go_wp2
      go_ret2
      have ht : 0 ≤ (f : Int) ∧ (f : Int) < pagesN n ∧ s.size = 128 := ⟨by omega, by have := HF.out; omega, HS.out⟩
      have hmm := ho.mem (n := n) (c := c1) (by rw [hF.out.1]; exact HL.out) HM.out.2.1 hn hF.out.2.1
      exact ⟨⟨_, c1, l', by rw [decide_eq_true ht]; rfl, hmm, fun _ => hF.out, fun h => absurd ht h⟩, hb⟩
theorem set_no (A : Option Addr) (n c : Nat) (f : Int) (l : List Int) (s : ByteArray) (w : World) (hm : Mem w A n c l) (hf : ¬ (0 ≤ f ∧ f < pagesN n ∧ s.size = 128)) (hs : s.size ≤ 1000) :
    Calls Try.prog 34 #[.slice A n c, .int .i64 f, .string s] w (SetPost n l f s w) := by
  have hn := hm.2.2.1
  have HC := Lib.hid (clone_any A n c l w hm)
  have HH := Lib.hid (fun W => hasPage_any A n c f W hn)
  have HN := Lib.hid hf
  have HD := Lib.hid (decide_eq_false hf)
  by_cases h1 : 0 ≤ f ∧ f < pagesN n
  · rw [decide_eq_true h1] at HH
    have h2 : ¬ (s.size : Int) = 128 := fun h => hf ⟨h1.1, h1.2, by omega⟩
    clear h1 hf hm
    go_enter Try.func34, Try.ntmps34
    go_wp2_with (first | (go_at_call 27; refine (HC.out).mono ?_; rintro e w1 ⟨⟨A1, c1, rfl, hm1, ho1⟩, hb1⟩) | (go_at_call 37; refine (HH.out _).mono ?_; rintro e w2 ⟨rfl, m2, rfl⟩))
    go_ret2
    exact ⟨⟨A1, c1, l, by rw [HD.out]; rfl, hm1, fun h => absurd h HN.out, fun _ => rfl⟩, below_drewN hb1 _⟩
  · rw [decide_eq_false h1] at HH
    clear h1 hf hm
    go_enter Try.func34, Try.ntmps34
    go_wp2_with (first | (go_at_call 27; refine (HC.out).mono ?_; rintro e w1 ⟨⟨A1, c1, rfl, hm1, ho1⟩, hb1⟩) | (go_at_call 37; refine (HH.out _).mono ?_; rintro e w2 ⟨rfl, m2, rfl⟩))
    go_ret2
    exact ⟨⟨A1, c1, l, by rw [HD.out]; rfl, hm1, fun h => absurd h HN.out, fun _ => rfl⟩, below_drewN hb1 _⟩
theorem set_page (A : Option Addr) (n c : Nat) (f : Int) (l : List Int) (s : ByteArray) (w : World) (hm : Mem w A n c l) (hs : s.size ≤ 1000) :
    Calls Try.prog 34 #[.slice A n c, .int .i64 f, .string s] w (SetPost n l f s w) := by
  by_cases hf : 0 ≤ f ∧ f < pagesN n ∧ s.size = 128
  · obtain ⟨k, rfl⟩ : ∃ k : Nat, f = k := ⟨f.toNat, by omega⟩
    exact set_yes A n c k l s w hm (by omega) hf.2.2
  · exact set_no A n c f l s w hm hf hs
/-- The bytes of a page as a string. -/
def pageS (l : List Int) (f : Nat) : ByteArray := S8 (bytesL (pageL l f))
end Go.Proofs.Ytackgjmmeojpiaa
