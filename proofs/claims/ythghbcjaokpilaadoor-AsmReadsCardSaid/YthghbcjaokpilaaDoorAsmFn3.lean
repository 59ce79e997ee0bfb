import Derived.Test.YthghbcjaokpilaaDoorAsmFn2
import Derived.Test.YthghbcjaokpilaaDoorAsmNum2
import Derived.Laws.Runes
import Derived.Lib.OthersKept
namespace Go.Proofs.YthghbcjaokpilaaDoor
set_option linter.unusedVariables false
set_option linter.unusedSimpArgs false
open Go.ChangeShapes Go.WideShapes Go.ChangeAt Go.RowKit Go.Proofs.YthghbcjaokpilaaDoor.Num Go.Proofs.YthghbcjaokpilaaDoor.Mem Go.Proofs.YthghbcjaokpilaaDoor.Asm
theorem no_high (l : Bs) (c : UInt8) (hc : 128 ≤ c.toNat) (hl : ∀ b ∈ l, b.toNat < 128) : Lib.indexByte l c = -1 := by
  induction l with
  | nil => rfl
  | cons b l ih =>
    have e : (b == c) = false := by
      rw [beq_eq_false_iff_ne]
      rintro rfl
      have := hl b (by simp); omega
    simp [Lib.indexByte, e, ih (fun d hd => hl d (by simp [hd]))]
def sepS : ByteArray := { data := #[32, 44, 58, 40, 41] }
theorem byte_high (a b : Nat) (c : UInt8) (w : World) (hc : 128 ≤ c.toNat) : Calls Tryd.prog 74 #[.string (({ data := #[32, 44, 58, 40, 41] } : ByteArray).extract a b), .int .u8 (c.toNat : Int)] w fun e w' => e = .returned (.int .i64 (-1)) ∧ w' = w :=
  (Tryd.strings_IndexByte _ _ w).mono fun e w' ⟨he, hw⟩ => ⟨by
    rw [he, u8_back, no_high _ c hc (fun d hd => ?_)]
    rw [extract_piece, S_list] at hd
    have : d ∈ ([32, 44, 58, 40, 41] : List UInt8) := List.mem_of_mem_drop (List.mem_of_mem_take hd)
    simp at this
    rcases this with rfl | rfl | rfl | rfl | rfl <;> decide, hw⟩
theorem enc_ex (r : Int) (hv : Utf8.valid r = true) (h128 : 128 ≤ r) : ∃ E : ByteArray, Utf8.encode r = E ∧ ∃ n : Nat, (n = 1 ∨ n = 2 ∨ n = 3) ∧ E.size = n + 1 ∧ ∃ h : n < E.size, 128 ≤ (E[n]'h).toNat := by
  obtain ⟨h1, h2, h3⟩ := encode_facts r hv h128
  refine ⟨_, rfl, (Utf8.encode r).size - 1, by omega, by omega, by omega, h3 (by omega)⟩
set_option maxRecDepth 100000 in
theorem rune_high1 (r : Int) (E : ByteArray) (w : World) (h0 : 128 ≤ r) (h1 : r ≤ 2147483647) (hr : r ≠ 65533) (hvr : Lib.validRune r = true) (hE : Utf8.encode r = E) (hsz : E.size = 1 + 1) (hlt : 1 < E.size) (hL : 128 ≤ (E[1]'hlt).toNat) : Calls Tryd.prog 65 #[.string { data := #[32, 44, 58, 40, 41] }, .int .i32 r] w fun e w' => e = .returned (.int .i64 (-1)) ∧ ∃ m, w' = w.drewN m := by
  have hconv : ∀ W, (convert 21 9 (.int .i32 r)).run Tryd.prog W = .ok (.string E) W := fun W => by
    rw [run_convert_int_string W 21 9 .i32 r (by rw [Tryd.underlying21]; rfl) Tryd.underlying9, hE]
  have hs3 : (E.size : Int) - 1 = 1 := by omega
  have hs1 : E.size ≤ 4 := by omega
  have hne : (((({ data := #[32, 44, 58, 40, 41] } : ByteArray)[1]'(by decide)).toNat : Int) != (E[1].toNat : Int)) = true := by
    rw [bne_iff_ne]
    show ((44 : Nat) : Int) ≠ _
    omega
  have hr1 : ¬ r < 128 := by omega
  clear hE hsz
  go_enter Tryd.func65, Tryd.ntmps65
  go_wp2_with (go_at_call 75; (with_reducible refine (Tryd.utf8_ValidRune _ _).mono ?_); rintro e w' ⟨rfl, rfl⟩)
  go_step3
  go_wp2
  go_loopw [9] (fun i wr => i = .int .i64 1 ∧ wr = w') (fun _ _ => 0)
  case atStart => exact ⟨rfl, rfl⟩
  case round =>
    obtain ⟨rfl, rfl⟩ := hrel
    have hi : (1 : Int) < E.size := by omega
    go_wp2
    go_step3
    go_wp2
    go_quiet (fail)
    go_wp2
    go_quiet ((go_at_call 74; exact quiet_same2 (byte_high _ _ _ _ hL)))
    go_wp2
    simp +zetaDelta only [Exit.noGoto_ret, Exit.inBlock, Exit.then]
    go_ret
    exact ⟨rfl, _, rfl⟩
set_option maxRecDepth 100000 in
theorem rune_high2 (r : Int) (E : ByteArray) (w : World) (h0 : 128 ≤ r) (h1 : r ≤ 2147483647) (hr : r ≠ 65533) (hvr : Lib.validRune r = true) (hE : Utf8.encode r = E) (hsz : E.size = 2 + 1) (hlt : 2 < E.size) (hL : 128 ≤ (E[2]'hlt).toNat) : Calls Tryd.prog 65 #[.string { data := #[32, 44, 58, 40, 41] }, .int .i32 r] w fun e w' => e = .returned (.int .i64 (-1)) ∧ ∃ m, w' = w.drewN m := by
  have hconv : ∀ W, (convert 21 9 (.int .i32 r)).run Tryd.prog W = .ok (.string E) W := fun W => by
    rw [run_convert_int_string W 21 9 .i32 r (by rw [Tryd.underlying21]; rfl) Tryd.underlying9, hE]
  have hs3 : (E.size : Int) - 1 = 2 := by omega
  have hs1 : E.size ≤ 4 := by omega
  have hne : (((({ data := #[32, 44, 58, 40, 41] } : ByteArray)[2]'(by decide)).toNat : Int) != (E[2].toNat : Int)) = true := by
    rw [bne_iff_ne]
    show ((58 : Nat) : Int) ≠ _
    omega
  have hr1 : ¬ r < 128 := by omega
  clear hE hsz
  go_enter Tryd.func65, Tryd.ntmps65
  go_wp2_with (go_at_call 75; (with_reducible refine (Tryd.utf8_ValidRune _ _).mono ?_); rintro e w' ⟨rfl, rfl⟩)
  go_step3
  go_wp2
  go_loopw [9] (fun i wr => i = .int .i64 2 ∧ wr = w') (fun _ _ => 0)
  case atStart => exact ⟨rfl, rfl⟩
  case round =>
    obtain ⟨rfl, rfl⟩ := hrel
    have hi : (2 : Int) < E.size := by omega
    go_wp2
    go_step3
    go_wp2
    go_quiet (fail)
    go_wp2
    go_quiet ((go_at_call 74; exact quiet_same2 (byte_high _ _ _ _ hL)))
    go_wp2
    simp +zetaDelta only [Exit.noGoto_ret, Exit.inBlock, Exit.then]
    go_ret
    exact ⟨rfl, _, rfl⟩
set_option maxRecDepth 100000 in
theorem rune_high3 (r : Int) (E : ByteArray) (w : World) (h0 : 128 ≤ r) (h1 : r ≤ 2147483647) (hr : r ≠ 65533) (hvr : Lib.validRune r = true) (hE : Utf8.encode r = E) (hsz : E.size = 3 + 1) (hlt : 3 < E.size) (hL : 128 ≤ (E[3]'hlt).toNat) : Calls Tryd.prog 65 #[.string { data := #[32, 44, 58, 40, 41] }, .int .i32 r] w fun e w' => e = .returned (.int .i64 (-1)) ∧ ∃ m, w' = w.drewN m := by
  have hconv : ∀ W, (convert 21 9 (.int .i32 r)).run Tryd.prog W = .ok (.string E) W := fun W => by
    rw [run_convert_int_string W 21 9 .i32 r (by rw [Tryd.underlying21]; rfl) Tryd.underlying9, hE]
  have hs3 : (E.size : Int) - 1 = 3 := by omega
  have hs1 : E.size ≤ 4 := by omega
  have hne : (((({ data := #[32, 44, 58, 40, 41] } : ByteArray)[3]'(by decide)).toNat : Int) != (E[3].toNat : Int)) = true := by
    rw [bne_iff_ne]
    show ((40 : Nat) : Int) ≠ _
    omega
  have hr1 : ¬ r < 128 := by omega
  clear hE hsz
  go_enter Tryd.func65, Tryd.ntmps65
  go_wp2_with (go_at_call 75; (with_reducible refine (Tryd.utf8_ValidRune _ _).mono ?_); rintro e w' ⟨rfl, rfl⟩)
  go_step3
  go_wp2
  go_loopw [9] (fun i wr => i = .int .i64 3 ∧ wr = w') (fun _ _ => 0)
  case atStart => exact ⟨rfl, rfl⟩
  case round =>
    obtain ⟨rfl, rfl⟩ := hrel
    have hi : (3 : Int) < E.size := by omega
    go_wp2
    go_step3
    go_wp2
    go_quiet (fail)
    go_wp2
    go_quiet ((go_at_call 74; exact quiet_same2 (byte_high _ _ _ _ hL)))
    go_wp2
    simp +zetaDelta only [Exit.noGoto_ret, Exit.inBlock, Exit.then]
    go_ret
    exact ⟨rfl, _, rfl⟩
theorem sep_at : ∀ k : Fin 5, (({ data := #[32, 44, 58, 40, 41] } : ByteArray)[k.val]'k.isLt).toNat < 128 := by decide
set_option maxRecDepth 100000 in
theorem rune_err (w : World) : Calls Tryd.prog 65 #[.string { data := #[32, 44, 58, 40, 41] }, .int .i32 65533] w fun e w' => e = .returned (.int .i64 (-1)) ∧ Below w.heap.size w w' := by
  go_enter Tryd.func65, Tryd.ntmps65
  go_wp2
  go_loopw [] (fun wr => ∃ k : Nat, k ≤ 5 ∧ wr = w.iter { data := #[32, 44, 58, 40, 41] } k) (fun wr => 5 - wr.iterPos w.heap.size)
  case atStart => exact ⟨0, by omega, rfl⟩
  case round =>
    obtain ⟨k, hk, rfl⟩ := hrel
    by_cases h5 : k < 5
    · have hp : k < ({ data := #[32, 44, 58, 40, 41] } : ByteArray).size := h5
      have ha : (({ data := #[32, 44, 58, 40, 41] } : ByteArray)[k]'hp).toNat < 128 := sep_at ⟨k, h5⟩
      have hnx : ∀ ty, (Instr.next (.pointer (some ⟨w.heap.size, 0, none⟩)) true ty).run Tryd.prog (w.iter { data := #[32, 44, 58, 40, 41] } k) = _ := fun ty => run_next_ascii w _ k ty hp ha
      have hne : (((({ data := #[32, 44, 58, 40, 41] } : ByteArray)[k]'hp).toNat : Int) == 65533) = false := by
        rw [beq_eq_false_iff_ne]; omega
      go_wp2
      go_roundw
      case rel => exact ⟨k + 1, by omega, rfl⟩
      case measure => simp; omega
    · have hp : ¬ k < ({ data := #[32, 44, 58, 40, 41] } : ByteArray).size := h5
      have hnx : ∀ ty, (Instr.next (.pointer (some ⟨w.heap.size, 0, none⟩)) true ty).run Tryd.prog (w.iter { data := #[32, 44, 58, 40, 41] } k) = _ := fun ty => run_next_end w _ k ty hp
      go_wp2
      first | go_ret | (simp +zetaDelta only [Exit.noGoto_ret, Exit.inBlock, Exit.then]; go_ret)
      exact ⟨rfl, (Below.refl _ _).alloc (Nat.le_refl _) _⟩
theorem decode_valid (s : ByteArray) (pos : Nat) : Utf8.valid ((Utf8.decode s pos).1 : Int) = true := by
  have hb : ∀ k, (s.get! (pos + k)).toNat < 256 := fun k => (s.get! (pos + k)).toNat_lt
  have h0 := hb 0; have h1 := hb 1; have h2 := hb 2; have h3 := hb 3
  simp only [Utf8.decode]
  repeat' split
  all_goals simp_all [Utf8.runeError, Utf8.valid]
  all_goals omega
theorem rune_high (r : Int) (w : World) (h0 : 128 ≤ r) (h1 : r ≤ 2147483647) (hv : Utf8.valid r = true) : Calls Tryd.prog 65 #[.string { data := #[32, 44, 58, 40, 41] }, .int .i32 r] w fun e w' => e = .returned (.int .i64 (-1)) ∧ Below w.heap.size w w' := by
  by_cases hr : r = 65533
  · subst hr; exact rune_err w
  · have hvr : Lib.validRune r = true := by
      unfold Lib.validRune
      unfold Utf8.valid at hv
      simp at hv ⊢; omega
    obtain ⟨E, hE, n, hn, hsz, hlt, hL⟩ := enc_ex r hv h0
    rcases hn with rfl | rfl | rfl
    · exact (rune_high1 r E w h0 h1 hr hvr hE hsz hlt hL).mono fun e w' ⟨he, m, hw⟩ => ⟨he, by subst hw; exact drewN_below _ _⟩
    · exact (rune_high2 r E w h0 h1 hr hvr hE hsz hlt hL).mono fun e w' ⟨he, m, hw⟩ => ⟨he, by subst hw; exact drewN_below _ _⟩
    · exact (rune_high3 r E w h0 h1 hr hvr hE hsz hlt hL).mono fun e w' ⟨he, m, hw⟩ => ⟨he, by subst hw; exact drewN_below _ _⟩
theorem sep_high (r : Int) (w : World) (h0 : 128 ≤ r) (h1 : r ≤ 2147483647) (hv : Utf8.valid r = true) : Calls Tryd.prog 55 #[.string { data := #[32, 44, 58, 40, 41] }, .int .i32 r] w fun e w' => e = .returned (.bool false) ∧ Below w.heap.size w w' := by
  have hr := fun w => rune_high r w h0 h1 hv
  go_enter Tryd.func55, Tryd.ntmps55
  go_wp2_with (go_at_call 65; (with_reducible refine (hr _).mono ?_); rintro e w' ⟨rfl, hb⟩)
  go_ret
  exact ⟨rfl, hb⟩
theorem sep_ix : ∀ c : Fin 256, decide (0 ≤ Lib.indexByte [32, 44, 58, 40, 41] (UInt8.ofNat c.val)) = sepB (UInt8.ofNat c.val) := by decide +kernel
theorem sep_low (c : UInt8) (w : World) (h : c.toNat < 128) : Calls Tryd.prog 55 #[.string { data := #[32, 44, 58, 40, 41] }, .int .i32 (c.toNat : Int)] w fun e w' => e = .returned (.bool (sepB c)) ∧ w = w' :=
  (Tryd.strings_ContainsRune_ascii _ (c.toNat : Int) w (by omega) (by omega)).mono fun e w' ⟨he, hw⟩ => ⟨by
    rw [he, u8_back]
    have := sep_ix ⟨c.toNat, c.toNat_lt⟩
    simp only [UInt8.ofNat_toNat] at this
    rw [← this], hw.symm⟩
end Go.Proofs.YthghbcjaokpilaaDoor
