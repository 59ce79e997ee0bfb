import Derived.Test.YthghbcjaokpilaaDoorIsaFn4
import Derived.Test.YthghbcjaokpilaaDoorShelf
import Derived.Lib.LaidTab
import Derived.Lib.QuietBelow
import Derived.Lib.SmallJoins
namespace Go.Proofs.YthghbcjaokpilaaDoor
set_option linter.unusedVariables false
set_option linter.unusedSimpArgs false
open Go.Lib Go.ChangeShapes Go.WideShapes Go.ChangeAt Go.RowKit Go.Proofs.YthghbcjaokpilaaDoor.Num Go.Proofs.YthghbcjaokpilaaDoor.Isa Go.Proofs.YthghbcjaokpilaaDoor.Mem
/-- The operations' names, at their numbers. -/
def names : List (List UInt8) := [[], [97, 100, 100], [115, 117, 98], [97, 110, 100], [111, 114], [120, 111, 114], [115, 104, 108], [115, 104, 114], [115, 97, 114], [109, 117, 108], [100, 105, 118], [114, 101, 109], [115, 108, 116], [115, 108, 116, 117], [], [], [97, 100, 100, 105], [97, 110, 100, 105], [111, 114, 105], [120, 111, 114, 105], [115, 104, 108, 105], [115, 104, 114, 105], [115, 97, 114, 105], [115, 108, 116, 105], [108, 117, 105], [], [], [], [], [], [], [], [108, 119], [108, 98], [108, 98, 117], [115, 119], [115, 98], [], [], [], [98, 101, 113], [98, 110, 101], [98, 108, 116], [98, 103, 101], [98, 108, 116, 117], [98, 103, 101, 117], [], [], [106, 97, 108], [106, 97, 108, 114], [], [], [], [], [], [], [101, 99, 97, 108, 108], [101, 114, 101, 116], [99, 115, 114, 114], [99, 115, 114, 119], [105, 110], [111, 117, 116], [119, 102, 105], [102, 108, 117, 115, 104], [104, 97, 108, 116]]
def mn (k : Nat) : List UInt8 := names.getD k []
def mnS (k : Nat) : ByteArray := ⟨(mn k).toArray⟩
theorem mn_len_fin : ∀ k : Fin 65, (mn k.val).length ≤ 5 := by decide +kernel
theorem mn_out (k : Nat) (h : 65 ≤ k) : mn k = [] := by
  unfold mn; rw [List.getD_eq_getElem?_getD, List.getElem?_eq_none (by simpa [names] using h)]; rfl
theorem mn_none : ∀ k : Fin 65, ¬ (1 ≤ k.val ∧ k.val ≤ 13) → ¬ (16 ≤ k.val ∧ k.val ≤ 24) → ¬ (32 ≤ k.val ∧ k.val ≤ 36) → ¬ (40 ≤ k.val ∧ k.val ≤ 45) → ¬ (56 ≤ k.val ∧ k.val ≤ 64) → ¬ k.val = 48 → ¬ k.val = 49 → mn k.val = [] := by decide +kernel
theorem mn_len (k : Nat) : (mn k).length ≤ 5 := by
  by_cases h : k < 65
  · exact mn_len_fin ⟨k, h⟩
  · rw [mn_out k (by omega)]; simp
theorem mnS_size (k : Nat) : (mnS k).size ≤ 5 := by
  have := mn_len k
  show (mn k).toArray.size ≤ 5
  simpa using this
def regS (n : Int) : ByteArray := { data := #[114] } ++ itoaS n
theorem regS_size (n : Int) (h0 : 0 ≤ n) (h1 : n ≤ 15) : (regS n).size ≤ 22 := by
  have := itoaS_size n (by omega) (by omega)
  unfold regS
  rw [ByteArray.size_append]
  show 1 + _ ≤ _; omega
theorem reg_rref (n : Int) (w : World) (h0 : 0 ≤ n) (h1 : n ≤ 15) :
    Calls Tryd.prog 60 #[.int .i64 n] w fun e w' => e = .returned (.string (regS n)) ∧ Below w.heap.size w w' := by
  have hs := itoaS_size n (by omega) (by omega)
  go_enter Tryd.func60, Tryd.ntmps60
  go_wp2_with (go_at_call 71; refine (decimal_ref n _ (by omega) (by omega)).mono ?_; rintro e w' ⟨rfl, hb1⟩)
  go_ret
  exact ⟨rfl, hb1⟩
theorem tab1 : ∀ j : Nat, j < 13 → ([Value.string { data := #[97, 100, 100] }, Value.string { data := #[115, 117, 98] }, Value.string { data := #[97, 110, 100] }, Value.string { data := #[111, 114] }, Value.string { data := #[120, 111, 114] }, Value.string { data := #[115, 104, 108] }, Value.string { data := #[115, 104, 114] }, Value.string { data := #[115, 97, 114] }, Value.string { data := #[109, 117, 108] }, Value.string { data := #[100, 105, 118] }, Value.string { data := #[114, 101, 109] }, Value.string { data := #[115, 108, 116] }, Value.string { data := #[115, 108, 116, 117] }])[j]? = some (.string (mnS (j + 1))) := by
  intro j hj
  match j, hj with
  | 0, _ => rfl
  | 1, _ => rfl
  | 2, _ => rfl
  | 3, _ => rfl
  | 4, _ => rfl
  | 5, _ => rfl
  | 6, _ => rfl
  | 7, _ => rfl
  | 8, _ => rfl
  | 9, _ => rfl
  | 10, _ => rfl
  | 11, _ => rfl
  | 12, _ => rfl
theorem tab16 : ∀ j : Nat, j < 9 → ([Value.string { data := #[97, 100, 100, 105] }, Value.string { data := #[97, 110, 100, 105] }, Value.string { data := #[111, 114, 105] }, Value.string { data := #[120, 111, 114, 105] }, Value.string { data := #[115, 104, 108, 105] }, Value.string { data := #[115, 104, 114, 105] }, Value.string { data := #[115, 97, 114, 105] }, Value.string { data := #[115, 108, 116, 105] }, Value.string { data := #[108, 117, 105] }])[j]? = some (.string (mnS (j + 16))) := by
  intro j hj
  match j, hj with
  | 0, _ => rfl
  | 1, _ => rfl
  | 2, _ => rfl
  | 3, _ => rfl
  | 4, _ => rfl
  | 5, _ => rfl
  | 6, _ => rfl
  | 7, _ => rfl
  | 8, _ => rfl
theorem tab32 : ∀ j : Nat, j < 5 → ([Value.string { data := #[108, 119] }, Value.string { data := #[108, 98] }, Value.string { data := #[108, 98, 117] }, Value.string { data := #[115, 119] }, Value.string { data := #[115, 98] }])[j]? = some (.string (mnS (j + 32))) := by
  intro j hj
  match j, hj with
  | 0, _ => rfl
  | 1, _ => rfl
  | 2, _ => rfl
  | 3, _ => rfl
  | 4, _ => rfl
theorem tab40 : ∀ j : Nat, j < 6 → ([Value.string { data := #[98, 101, 113] }, Value.string { data := #[98, 110, 101] }, Value.string { data := #[98, 108, 116] }, Value.string { data := #[98, 103, 101] }, Value.string { data := #[98, 108, 116, 117] }, Value.string { data := #[98, 103, 101, 117] }])[j]? = some (.string (mnS (j + 40))) := by
  intro j hj
  match j, hj with
  | 0, _ => rfl
  | 1, _ => rfl
  | 2, _ => rfl
  | 3, _ => rfl
  | 4, _ => rfl
  | 5, _ => rfl
theorem tab56 : ∀ j : Nat, j < 9 → ([Value.string { data := #[101, 99, 97, 108, 108] }, Value.string { data := #[101, 114, 101, 116] }, Value.string { data := #[99, 115, 114, 114] }, Value.string { data := #[99, 115, 114, 119] }, Value.string { data := #[105, 110] }, Value.string { data := #[111, 117, 116] }, Value.string { data := #[119, 102, 105] }, Value.string { data := #[102, 108, 117, 115, 104] }, Value.string { data := #[104, 97, 108, 116] }])[j]? = some (.string (mnS (j + 56))) := by
  intro j hj
  match j, hj with
  | 0, _ => rfl
  | 1, _ => rfl
  | 2, _ => rfl
  | 3, _ => rfl
  | 4, _ => rfl
  | 5, _ => rfl
  | 6, _ => rfl
  | 7, _ => rfl
  | 8, _ => rfl
theorem mnemonic_1 (j : Nat) (hj : j < 13) (w : World) :
    Calls Tryd.prog 52 #[.int .i64 ((j : Int) + 1)] w fun e w' => e = .returned (.string (mnS (j + 1))) ∧ Below w.heap.size w w' := by
  have ht := tab1 j hj
  have hj' : (j : Int) < 13 := by omega
  go_enter Tryd.func52, Tryd.ntmps52
  go_wp2
  all_goals first | (exfalso; omega) | skip
  all_goals go_ret
  obtain ⟨_, e⟩ := List.getElem?_eq_some_iff.1 ht
  exact ⟨congrArg Ending.returned e, (Below.refl _ _).alloc (Nat.le_refl _) _⟩
theorem mnemonic_16 (j : Nat) (hj : j < 9) (w : World) :
    Calls Tryd.prog 52 #[.int .i64 ((j : Int) + 16)] w fun e w' => e = .returned (.string (mnS (j + 16))) ∧ Below w.heap.size w w' := by
  have ht := tab16 j hj
  have hj' : (j : Int) < 9 := by omega
  go_enter Tryd.func52, Tryd.ntmps52
  go_wp2
  all_goals first | (exfalso; omega) | skip
  all_goals go_ret
  obtain ⟨_, e⟩ := List.getElem?_eq_some_iff.1 ht
  exact ⟨congrArg Ending.returned e, (Below.refl _ _).alloc (Nat.le_refl _) _⟩
theorem mnemonic_32 (j : Nat) (hj : j < 5) (w : World) :
    Calls Tryd.prog 52 #[.int .i64 ((j : Int) + 32)] w fun e w' => e = .returned (.string (mnS (j + 32))) ∧ Below w.heap.size w w' := by
  have ht := tab32 j hj
  have hj' : (j : Int) < 5 := by omega
  go_enter Tryd.func52, Tryd.ntmps52
  go_wp2
  all_goals first | (exfalso; omega) | skip
  all_goals go_ret
  obtain ⟨_, e⟩ := List.getElem?_eq_some_iff.1 ht
  exact ⟨congrArg Ending.returned e, (Below.refl _ _).alloc (Nat.le_refl _) _⟩
theorem mnemonic_40 (j : Nat) (hj : j < 6) (w : World) :
    Calls Tryd.prog 52 #[.int .i64 ((j : Int) + 40)] w fun e w' => e = .returned (.string (mnS (j + 40))) ∧ Below w.heap.size w w' := by
  have ht := tab40 j hj
  have hj' : (j : Int) < 6 := by omega
  go_enter Tryd.func52, Tryd.ntmps52
  go_wp2
  all_goals first | (exfalso; omega) | skip
  all_goals go_ret
  obtain ⟨_, e⟩ := List.getElem?_eq_some_iff.1 ht
  exact ⟨congrArg Ending.returned e, (Below.refl _ _).alloc (Nat.le_refl _) _⟩
set_option maxHeartbeats 2000000 in
theorem mnemonic_56 (j : Nat) (hj : j < 9) (w : World) :
    Calls Tryd.prog 52 #[.int .i64 ((j : Int) + 56)] w fun e w' => e = .returned (.string (mnS (j + 56))) ∧ Below w.heap.size w w' := by
  have ht := tab56 j hj
  have hj' : (j : Int) < 9 := by omega
  go_enter Tryd.func52, Tryd.ntmps52
  go_wp2
  all_goals first | (exfalso; omega) | skip
  all_goals go_ret
  obtain ⟨_, e⟩ := List.getElem?_eq_some_iff.1 ht
  exact ⟨congrArg Ending.returned e, (Below.refl _ _).alloc (Nat.le_refl _) _⟩
set_option maxHeartbeats 2000000 in
theorem mnemonic_no (op : Nat) (w : World) (h1 : ¬ (1 ≤ op ∧ op ≤ 13)) (h2 : ¬ (16 ≤ op ∧ op ≤ 24)) (h3 : ¬ (32 ≤ op ∧ op ≤ 36)) (h4 : ¬ (40 ≤ op ∧ op ≤ 45)) (h5 : ¬ (56 ≤ op ∧ op ≤ 64)) :
    Calls Tryd.prog 52 #[.int .i64 op] w fun e w' => e = .returned (.string (mnS op)) ∧ Below w.heap.size w w' := by
  by_cases h48 : op = 48
  · subst h48
    go_enter Tryd.func52, Tryd.ntmps52
    go_wp2
    go_ret
    exact ⟨rfl, Below.refl _ _⟩
  · by_cases h49 : op = 49
    · subst h49
      go_enter Tryd.func52, Tryd.ntmps52
      go_wp2
      go_ret
      exact ⟨rfl, Below.refl _ _⟩
    · have he : mnS op = { data := #[] } := by
        by_cases h : op < 65
        · have := mn_none ⟨op, h⟩ h1 h2 h3 h4 h5 h48 h49
          unfold mnS; rw [this]
        · unfold mnS; rw [mn_out op (by omega)]
      rw [he]
      clear he
      have a1 : ¬ (1 ≤ (op : Int) ∧ (op : Int) ≤ 13) := by omega
      have a2 : ¬ (16 ≤ (op : Int) ∧ (op : Int) ≤ 24) := by omega
      have a3 : ¬ (32 ≤ (op : Int) ∧ (op : Int) ≤ 36) := by omega
      have a4 : ¬ (40 ≤ (op : Int) ∧ (op : Int) ≤ 45) := by omega
      have a5 : ¬ (56 ≤ (op : Int) ∧ (op : Int) ≤ 64) := by omega
      have a6 : ¬ (op : Int) = 48 := by omega
      have a7 : ¬ (op : Int) = 49 := by omega
      go_enter Tryd.func52, Tryd.ntmps52
      go_wp2
      all_goals first | (exfalso; omega) | skip
      all_goals go_ret
      all_goals exact ⟨rfl, Below.refl _ _⟩
theorem mnemonic_ref (op : Nat) (w : World) :
    Calls Tryd.prog 52 #[.int .i64 op] w fun e w' => e = .returned (.string (mnS op)) ∧ Below w.heap.size w w' := by
  by_cases h1 : 1 ≤ op ∧ op ≤ 13
  · obtain ⟨j, rfl⟩ : ∃ j : Nat, op = j + 1 := ⟨op - 1, by omega⟩
    exact mnemonic_1 j (by omega) w
  by_cases h2 : 16 ≤ op ∧ op ≤ 24
  · obtain ⟨j, rfl⟩ : ∃ j : Nat, op = j + 16 := ⟨op - 16, by omega⟩
    exact mnemonic_16 j (by omega) w
  by_cases h3 : 32 ≤ op ∧ op ≤ 36
  · obtain ⟨j, rfl⟩ : ∃ j : Nat, op = j + 32 := ⟨op - 32, by omega⟩
    exact mnemonic_32 j (by omega) w
  by_cases h4 : 40 ≤ op ∧ op ≤ 45
  · obtain ⟨j, rfl⟩ : ∃ j : Nat, op = j + 40 := ⟨op - 40, by omega⟩
    exact mnemonic_40 j (by omega) w
  by_cases h5 : 56 ≤ op ∧ op ≤ 64
  · obtain ⟨j, rfl⟩ : ∃ j : Nat, op = j + 56 := ⟨op - 56, by omega⟩
    exact mnemonic_56 j (by omega) w
  exact mnemonic_no op w h1 h2 h3 h4 h5
end Go.Proofs.YthghbcjaokpilaaDoor
