import Derived.Test.YthghbcjaokpilaaDoorIsaFn3
import Derived.Deep.RegionWith
import Derived.Lib.ItoaNum
import Derived.Lib.ItoaLen
import Derived.Lib.EndianBits
namespace Go.Proofs.YthghbcjaokpilaaDoor
set_option linter.unusedVariables false
set_option linter.unusedSimpArgs false
open Go.Lib Go.ChangeShapes Go.WideShapes Go.ChangeAt Go.RowKit Go.Proofs.YthghbcjaokpilaaDoor.Num Go.Proofs.YthghbcjaokpilaaDoor.Isa Go.Proofs.YthghbcjaokpilaaDoor.Mem
/-- One byte of the call's own, as a string. -/
theorem conv1 (W : World) (b : Nat) (v : Int) (h0 : 0 ≤ v) (h1 : v ≤ 255) (h : W.cell? ⟨b, 0, none⟩ = some (.int .u8 v)) :
    (convert 139 9 (.slice (some ⟨b, 0, none⟩) 1 1)).run Tryd.prog W = .ok (.string ⟨#[UInt8.ofNat v.toNat]⟩) W := by
  rw [run_convert_bytes_string _ _ _ 5 _ _ _ Tryd.underlying139 Tryd.underlying5 Tryd.underlying9]
  refine bytes_string _ _ _ _ [UInt8.ofNat v.toNat] rfl fun j hj => ?_
  have : j = 0 := by simp at hj; omega
  subst this
  rw [show (⟨b, 0, none⟩ : Addr).add 0 = ⟨b, 0, none⟩ from rfl, h]
  simp; omega
def decS (n : Nat) : ByteArray := ⟨(Lib.decDigits n).toArray⟩
theorem decS_small (n : Nat) (h : n < 10) : decS n = ⟨#[UInt8.ofNat (48 + (n : Int)).toNat]⟩ := by
  unfold decS Lib.decDigits
  rw [dif_pos h]
  have : (48 + (n : Int)).toNat = 48 + n := by omega
  rw [this]
/-- The last digit as a string. -/
def dgS (n : Nat) : ByteArray := ⟨#[UInt8.ofNat (48 + (n : Int) % 10).toNat]⟩
theorem dgS_size (n : Nat) : (dgS n).size = 1 := rfl
theorem decS_size (n : Nat) (h : n < 18446744073709551616) : (decS n).size ≤ 20 := by
  have h1 := Lib.nDigits_le20 n h
  have h2 : (Lib.decDigits n).length = Lib.nDigits n := Lib.decDigits_length n
  show (Lib.decDigits n).toArray.size ≤ 20
  simp only [List.size_toArray]; omega
theorem decS_big (n : Nat) (h : ¬ n < 10) : decS n = decS (n / 10) ++ dgS n := by
  unfold dgS
  have : (48 + (n : Int) % 10).toNat = 48 + n % 10 := by omega
  rw [this]
  apply ByteArray.ext
  apply Array.toList_inj.1
  rw [ByteArray.data_append, Array.toList_append]
  unfold decS
  conv => lhs; unfold Lib.decDigits
  rw [dif_neg h]
theorem alloc1_cell (w : World) (v : Value) (T : TypeId) : (w.alloc (.cells #[v] T)).cell? ⟨w.heap.size, 0, none⟩ = some v := by simp
theorem digits_ref (n : Nat) : ∀ (w : World), n < 18446744073709551616 →
    Calls Tryd.prog 83 #[.int .u64 n] w fun e w' => e = .returned (.string (decS n)) ∧ Below w.heap.size w w' := by
  induction n using Nat.strongRecOn with
  | _ n ih =>
    intro w hn
    by_cases h : n < 10
    · have hc : ∀ W b, W.cell? ⟨b, 0, none⟩ = some (.int .u8 (48 + n)) → (convert 139 9 (.slice (some ⟨b, 0, none⟩) 1 1)).run Tryd.prog W = .ok (.string (decS n)) W := fun W b hW => by
        rw [conv1 W b _ (by omega) (by omega) hW, decS_small n h]
      have h10 : (n : Int) < 10 := by omega
      go_enter Tryd.func83, Tryd.ntmps83
      go_wp2
      go_ret
      exact ⟨rfl, (Below.refl _ _).alloc (Nat.le_refl _) _⟩
    · have h10 : ¬ (n : Int) < 10 := by omega
      go_enter Tryd.func83, Tryd.ntmps83
      go_wp2
      have hv : IntKind.u8.wrap (IntKind.u64.wrap (48 + (n : Int).tmod 10)) = 48 + (n : Int) % 10 := by
        have ht : (n : Int).tmod 10 = (n : Int) % 10 := Int.tmod_eq_emod_of_nonneg (by omega)
        rw [ht, wraps_u64 _ (by omega) (by omega), wraps_u8 _ (by omega) (by omega)]
      have hc : ∀ W b, W.cell? ⟨b, 0, none⟩ = some (.int .u8 (IntKind.u8.wrap (IntKind.u64.wrap (48 + (n : Int).tmod 10)))) → (convert 139 9 (.slice (some ⟨b, 0, none⟩) 1 1)).run Tryd.prog W = .ok (.string (dgS n)) W := fun W b hW => by
        rw [hv] at hW; exact conv1 W b _ (by omega) (by omega) hW
      clear hv
      have hs1 := decS_size (n / 10) (by omega)
      have hs2 := dgS_size n
      have hs3 : ¬ 9223372036854775807 < (decS (n / 10)).size + 1 := by omega
      have hq : IntKind.u64.wrap ((n : Int) / 10) = ((n / 10 : Nat) : Int) := by
        rw [wraps_u64 _ (by omega) (by omega)]; omega
      have ihq : ∀ W, Calls Tryd.prog 83 #[.int .u64 (IntKind.u64.wrap ((n : Int) / 10))] W fun e w' => e = .returned (.string (decS (n / 10))) ∧ Below W.heap.size W w' := fun W => by
        rw [hq]; exact ih (n / 10) (by omega) W (by omega)
      clear ih hq
      go_region_with (first | (go_at_call 83; refine (ihq _).mono ?_; rintro e w' ⟨rfl, hb1⟩; try have hcc := hc w' w.heap.size (still (alloc1_cell w.drew (.int .u8 (IntKind.u8.wrap (IntKind.u64.wrap (48 + (n : Int).tmod 10)))) 5) hb1)))
      all_goals go_wp2
      all_goals go_ret
      all_goals refine ⟨by rw [decS_big n h]; rfl, ?_⟩
      all_goals first
        | exact below_step (below_step (Below.refl _ w).drew hb1) ((Below.refl _ _).alloc (Nat.le_refl _) _)
        | exact below_step (((Below.refl _ w).alloc (Nat.le_refl _) _).drew) hb1
        | exact below_step (((Below.refl _ w).drew).alloc (Nat.le_refl _) _) hb1
/-- A number in decimal digits. -/
def itoaS (n : Int) : ByteArray := ⟨(Lib.itoa n).toArray⟩
theorem itoaS_size (n : Int) (h0 : -9223372036854775808 ≤ n) (h1 : n ≤ 9223372036854775807) : (itoaS n).size ≤ 21 := by
  have := Lib.itoa_length_le n h0 h1
  show (Lib.itoa n).toArray.size ≤ 21
  simpa using this
theorem itoaS_pos (n : Int) (h : 0 ≤ n) : itoaS n = decS n.toNat := by
  unfold itoaS decS Lib.itoa; rw [if_neg (by omega)]
theorem itoaS_neg (n : Int) (h : n < 0) : itoaS n = { data := #[45] } ++ decS n.natAbs := by
  apply ByteArray.ext
  apply Array.toList_inj.1
  rw [ByteArray.data_append, Array.toList_append]
  unfold itoaS decS Lib.itoa; rw [if_pos h]; rfl
theorem decimal_ref (n : Int) (w : World) (h0 : -9223372036854775808 ≤ n) (h1 : n ≤ 9223372036854775807) :
    Calls Tryd.prog 71 #[.int .i64 n] w fun e w' => e = .returned (.string (itoaS n)) ∧ Below w.heap.size w w' := by
  by_cases h : n < 0
  · rw [itoaS_neg n h]
    have hd := decS_size n.natAbs (by omega)
    have hcall : ∀ (x : Int) (W : World), x = n.natAbs → Calls Tryd.prog 83 #[.int .u64 x] W fun e w' => e = .returned (.string (decS n.natAbs)) ∧ Below W.heap.size W w' := fun x W hx => by
      subst hx; exact digits_ref _ W (by omega)
    go_enter Tryd.func71, Tryd.ntmps71
    go_wp2_with (go_at_call 83; refine (hcall _ _ (by omega)).mono ?_; rintro e w' ⟨rfl, hb1⟩)
    go_ret
    exact ⟨rfl, hb1⟩
  · rw [itoaS_pos n (by omega)]
    obtain ⟨k, rfl⟩ : ∃ k : Nat, n = k := ⟨n.toNat, by omega⟩
    rw [Int.toNat_natCast]
    go_enter Tryd.func71, Tryd.ntmps71
    go_wp2_with (go_at_call 83; refine (digits_ref k _ (by omega)).mono ?_; rintro e w' ⟨rfl, hb1⟩)
    go_ret
    exact ⟨rfl, hb1⟩
end Go.Proofs.YthghbcjaokpilaaDoor
