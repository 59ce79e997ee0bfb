import Derived.Test.YtackgjmmeojpiaaPmFn8
import Derived.Lib.AppendStr
namespace Go.Proofs.Ytackgjmmeojpiaa
set_option linter.unusedVariables false
set_option linter.unusedSimpArgs false
open Go.ChangeShapes Go.WideShapes Go.ChangeAt Go.RowKit Go.Proofs.Ytackgjmmeojpiaa.Num Go.Proofs.Ytackgjmmeojpiaa.Mem
theorem low_snoc (x : Int) (k : Nat) (hk : k < 4) : (lowL x).take (k + 1) = (lowL x).take k ++ [low x k] := by
  match k, hk with
  | 0, _ => rfl
  | 1, _ => rfl
  | 2, _ => rfl
  | 3, _ => rfl
theorem low_shift (x : Int) (k : Nat) (h0 : 0 ≤ x) : x / 2 ^ (8 * k) % 256 = (((low x k).toNat : Nat) : Int) := by
  rw [low_val x k h0, Int.pow_mul]
  rfl
set_option maxRecDepth 100000 in
set_option maxHeartbeats 1000000 in
theorem low_any (x : Int) (w : World) (h0 : 0 ≤ x) (h1 : x ≤ 4294967295) :
    Calls Try.prog 32 #[.int .u32 x, .int .i64 4] w fun e w' => e = .returned (.string (S8 (lowL x))) ∧ Below w.heap.size w w' := by
  obtain ⟨i0, hi, hz0, hz1, hz2⟩ := info_parts info_u8
  go_enter Try.func32, Try.ntmps32
  go_wp2
  go_loopw [5, 6] (fun b i wr => ∃ k : Nat, k ≤ 4 ∧ i = .int .i64 k ∧ wr.ownsRow w.heap.size 5 1 b k (u8s ((lowL x).take k)) ∧ Below w.heap.size w wr) (fun _ i _ => 4 - (intOf i).toNat)
  case atStart => exact ⟨0, Nat.zero_le _, rfl, World.ownsRow_nil _ _ _ _, Below.refl _ _⟩
  case round =>
    obtain ⟨k, hk, rfl, hown, hbel⟩ := hrel
    have hws : w.heap.size ≤ wr.heap.size := hbel.size
    by_cases hlt : k < 4
    · have HL := Lib.hid (low_snoc x k hlt)
      have HV := Lib.hid (low_shift x k h0)
      generalize (lowL x).take k = pre at hown HL
      go_wp2_with (at_builtin; refine wpList_append_own _ rfl _ _ 44 rfl (w.heap.size) 5 i0 (.int .u8 0) 1 1 Try.underlying44 hi hz0 hz1 hz2 rfl (by decide) _ _ _ rfl (hown.alloc _) ⟨wr.heap.size, 0, none⟩ 1 1 [.int .u8 (x / 2 ^ (8 * k) % 256)] rfl rfl (new_cell _ _ _) (one_cell _ _) (by unfold maxLen; omega) (by omega) (by simp; omega) ?_)
      intro v' w1 hown1 hgrow _
      rw [HV.out, u8s_snoc pre (low x k) _ rfl, ← HL.out] at hown1
      go_wp2
      go_roundw
      case rel => exact ⟨k + 1, by omega, by go_num, hown1, (hbel.alloc hws _).grown hgrow (by simp; omega) (fun k hk => (hown.lt k hk).1)⟩
      case measure => simp [intOf]; omega
    · obtain rfl : k = 4 := by omega
      have e4 : (lowL x).take 4 = lowL x := rfl
      rw [e4] at hown
      have hc := own_convert (P := Try.prog) Try.underlying44 Try.underlying5 Try.underlying9 _ _ hown rfl (by simp [lowL])
      clear hown
      go_wp2
      go_ret
      exact ⟨rfl, hbel⟩
theorem own_on {w w' : World} {base size n : Nat} {e : TypeId} {v : Value} {xs : List Value} (h : w.ownsRow base e size v n xs) (hb : Below w.heap.size w w') : w'.ownsRow base e size v n xs := by
  refine ⟨h.1, ?_⟩
  rcases h.2 with h0 | ⟨g, cap, cur, rfl, hbg, hg, h5⟩
  · exact .inl h0
  · exact .inr ⟨g, cap, cur, rfl, hbg, by rw [hb.block g (Array.getElem?_eq_some_iff.1 hg).1]; exact hg, h5⟩
theorem u8s_app (l r : List UInt8) : u8s l ++ u8s r = u8s (l ++ r) := by simp [u8s]
theorem strCells_S8 (l : List UInt8) : Lib.strCells (S8 l) = u8s l := by
  unfold Lib.strCells u8s
  rw [S8_list]
theorem page_refno (A : Option Addr) (n c : Nat) (f : Int) (w : World) (hn : n ≤ 1024) (hf : ¬ (0 ≤ f ∧ f < pagesN n)) :
    Calls Try.prog 22 #[.slice A n c, .int .i64 f] w fun e w' => e = .returned (.tuple #[.string { data := #[] }, .bool false]) ∧ Below w.heap.size w w' := by
  have HN := Lib.hid hf
  clear hf
  go_enter Try.func22, Try.ntmps22
  go_wp2_with (go_at_call 20; refine (pages_ref _ _ _ _ (by omega)).mono ?_; rintro e w2 ⟨rfl, m2, rfl⟩)
  all_goals first | (exfalso; have := HN.out; omega) | skip
  all_goals go_ret2
  all_goals first | exact ⟨rfl, below_drewN (Below.refl _ _) _⟩ | exact ⟨rfl, Below.refl _ _⟩
set_option maxRecDepth 100000 in
set_option maxHeartbeats 1000000 in
theorem page_ref (A : Option Addr) (n c f : Nat) (l : List Int) (w : World) (hm : Mem w A n c l) (hf : f < pagesN n) :
    Calls Try.prog 22 #[.slice A n c, .int .i64 f] w fun e w' => e = .returned (.tuple #[.string (pageS l f), .bool true]) ∧ Below w.heap.size w w' := by
  obtain ⟨i0, hi, hz0, hz1, hz2⟩ := info_parts info_u8
  have hn := hm.2.2.1
  have hp := pagesN_le n
  have HM := Lib.hid hm
  have HF : Hid (f < pagesN n) := hf
  have hfI : (f : Int) < pagesN n := by omega
  have hd : decide (pagesN n ≤ f) = false := by simp; omega
  have hd0 : decide ((f : Int) < 0) = false := by simp
  clear hf hm
  go_enter Try.func22, Try.ntmps22
  go_wp2_with (go_at_call 20; refine (pages_ref _ _ _ _ (by omega)).mono ?_; rintro e w2 ⟨rfl, m2, rfl⟩)
  all_goals first | (exfalso; omega) | skip
  go_loopw [6, 7] (fun b i wr => ∃ k : Nat, k ≤ 32 ∧ i = .int .i64 k ∧ wr.ownsRow w.heap.size 5 1 b (4 * k) (u8s (bytesL ((pageL l f).take k))) ∧ Below w.heap.size w wr) (fun _ i _ => 32 - (intOf i).toNat)
  case atStart => exact ⟨0, Nat.zero_le _, rfl, World.ownsRow_nil _ _ _ _, below_drewN (Below.refl _ _) _⟩
  case round =>
    obtain ⟨k, hk, rfl, hown, hbel⟩ := hrel
    have hws : w.heap.size ≤ wr.heap.size := hbel.size
    have hpl : (pageL l f).length = 32 := pageL_len (by rw [HM.out.1]; have := HF.out; omega)
    by_cases hlt : k < 32
    · obtain ⟨b, off, rfl, hc1, x0, x1⟩ := (HM.out.on hbel).at_ (k := 32 * f + k) (by have := HF.out; omega)
      have HB := Lib.hid (bytes_snoc (pageL l f) k (by omega))
      rw [pageL_wd hlt] at HB
      have hidx : (f : Int) * 32 + k < n := by have := HF.out; omega
      have eidx : ((f : Int) * 32 + k).toNat = 32 * f + k := by omega
      generalize wd l (32 * f + k) = x at hc1 x0 x1 HB
      generalize bytesL ((pageL l f).take k) = pre at hown HB
      clear hpl
      go_wp2_with (first
        | (go_at_call 32; refine (low_any _ _ (by omega) (by omega)).mono ?_; rintro e w3 ⟨rfl, hb3⟩; have hown3 := own_on hown hb3)
        | (at_builtin; refine Lib.wpList_append_own_string _ rfl _ _ 44 9 rfl (w.heap.size) 5 i0 Try.underlying44 Try.underlying9 hi hz0 hz1 hz2 _ _ _ rfl hown3 _ rfl (by rw [S8_size]; simp [lowL]; unfold maxLen; omega) (by rw [S8_size]; simp [lowL]; omega) (by have := hb3.size; omega) ?_))
      intro v' w1 hown1 hgrow _
      rw [strCells_S8, u8s_app, ← HB.out, S8_size] at hown1
      have hb4 : Below w.heap.size w w1 := (below_step hbel hb3).grown hgrow (by have := hb3.size; omega) (fun k hk => (hown3.lt k hk).1)
      go_wp2
      go_roundw
      case rel => exact ⟨k + 1, by omega, by go_num, by rw [Nat.mul_add]; exact hown1, hb4⟩
      case measure => simp [intOf]; omega
    · obtain rfl : k = 32 := by omega
      rw [List.take_of_length_le (by omega)] at hown
      have hc := own_convert (P := Try.prog) Try.underlying44 Try.underlying5 Try.underlying9 _ _ hown (by rw [bytesL_len, hpl]) (by intro h; have := congrArg List.length h; rw [bytesL_len, hpl] at this; simp at this)
      clear hown hpl
      go_wp2
      go_ret2
      exact ⟨rfl, hbel⟩
theorem stV_byte (l : List Int) (a : Int) (q : Nat) (v : Int) (ha : a = q) : stV l a 1 v = l.set (q / 4) (setB (wd l (q / 4)) (q % 4) v) := by
  subst ha
  unfold stV stW
  have e1 : ((q : Int) / 4).toNat = q / 4 := by omega
  have e2 : ((q : Int) % 4).toNat = q % 4 := by omega
  rw [e1, e2, if_neg (by decide)]
/-- What Page gives. -/
def pgS (n : Nat) (l : List Int) (f : Int) : ByteArray := if 0 ≤ f ∧ f < pagesN n then pageS l f.toNat else { data := #[] }
theorem pageS_size {l : List Int} {f : Nat} (h : 32 * f + 32 ≤ l.length) : (pageS l f).size = 128 := by
  unfold pageS; rw [S8_size, bytesL_len, pageL_len h]
theorem page_ref' (A : Option Addr) (n c : Nat) (f : Int) (l : List Int) (w : World) (hm : Mem w A n c l) :
    Calls Try.prog 22 #[.slice A n c, .int .i64 f] w fun e w' => e = .returned (.tuple #[.string (pgS n l f), .bool (decide (0 ≤ f ∧ f < pagesN n))]) ∧ Below w.heap.size w w' := by
  unfold pgS
  by_cases hf : 0 ≤ f ∧ f < pagesN n
  · obtain ⟨k, rfl⟩ : ∃ k : Nat, f = k := ⟨f.toNat, by omega⟩
    rw [if_pos hf, decide_eq_true hf]
    exact page_ref A n c k l w hm (by omega)
  · rw [if_neg hf, decide_eq_false hf]
    exact page_refno A n c f w hm.2.2.1 hf
end Go.Proofs.Ytackgjmmeojpiaa
