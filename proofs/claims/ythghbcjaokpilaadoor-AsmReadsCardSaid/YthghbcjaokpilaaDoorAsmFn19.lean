import Derived.Test.YthghbcjaokpilaaDoorAsmGb
import Derived.Test.YthghbcjaokpilaaDoorIsaFn9
namespace Go.Proofs.YthghbcjaokpilaaDoor
set_option linter.unusedVariables false
set_option linter.unusedSimpArgs false
open Go.ChangeShapes Go.WideShapes Go.ChangeAt Go.RowKit Go.Proofs.YthghbcjaokpilaaDoor.Num Go.Proofs.YthghbcjaokpilaaDoor.Isa Go.Proofs.YthghbcjaokpilaaDoor.Mem Go.Proofs.YthghbcjaokpilaaDoor.Asm
/-- The fragments of the statements' sources. -/
def PCS : List Bs := [[97, 100, 100, 32, 114, 49, 44, 32, 114, 50, 44, 32, 114, 51], [97, 100, 100, 105, 32, 114, 52, 44, 32, 114, 53, 44, 32, 45, 55], [108, 119, 32, 114, 49, 44, 32, 56, 40, 114, 50, 41], [32, 115, 119, 32, 32, 114, 49, 32, 44, 48, 32, 40, 32, 114, 50, 32, 41, 32], [98, 101, 113, 32, 114, 49, 44, 32, 114, 50, 44, 32, 97], [106, 97, 108, 32, 114, 49, 53, 44, 32, 98], [106, 97, 108, 114, 32, 114, 48, 44, 32, 114, 49, 53, 44, 32, 48], [108, 105, 32, 114, 51, 44, 32, 48, 120, 49, 50, 51, 52, 53], [108, 105, 32, 114, 51, 44, 32, 97], [46, 119, 111, 114, 100, 32, 45, 49], [46, 119, 111, 114, 100, 32, 98], [46, 115, 112, 97, 99, 101, 32, 51], [97, 58], [98, 58, 32, 110, 111, 112], [99, 32, 58, 32, 104, 97, 108, 116, 32, 59, 32, 101, 110, 100], [109, 118, 32, 114, 49, 44, 32, 114, 50], [], [59, 32, 99, 111, 109, 109, 101, 110, 116], [101, 99, 97, 108, 108], [99, 115, 114, 119, 32, 114, 49, 44, 32, 55], [105, 110, 32, 114, 49, 44, 32, 49, 50], [115, 104, 108, 105, 32, 114, 49, 44, 32, 114, 49, 44, 32, 51, 50], [97, 100, 100, 105, 32, 114, 49, 44, 32, 114, 49, 44, 32, 51, 50, 55, 54, 56], [108, 119, 32, 114, 49, 44, 32, 114, 50], [97], [46, 115, 112, 97, 99, 101, 32, 49, 48, 50, 53], [114, 49, 58, 32, 110, 111, 112], [98, 58], [111, 117, 116, 32, 114, 50, 44, 32, 48], [108, 117, 105, 32, 114, 49, 44, 32, 54, 53, 53, 51, 54], [98, 101, 113, 32, 114, 49, 44, 32, 114, 50, 44, 32, 53], [106, 97, 108, 32, 114, 49, 44, 32, 45, 51, 50, 55, 54, 57], [120, 121, 122, 32, 114, 49], [108, 105, 32, 114, 49, 54, 44, 32, 49], [115, 108, 116, 105, 32, 114, 49, 44, 32, 114, 50, 44, 32, 49, 50, 51, 52, 53, 54, 55, 56, 57, 48, 49], [46, 119, 111, 114, 100, 32, 52, 50, 57, 52, 57, 54, 55, 50, 57, 54]]
theorem pcs_len : PCS.length = 36 := rfl
set_option maxHeartbeats 4000000 in
set_option maxRecDepth 100000 in
theorem pieces_asm (w : World) : Calls Tryd.prog 15 #[] w fun e w' => e = .returned (.slice (some ⟨w.heap.size, 0, none⟩) 36 36) ∧ w' = w.alloc (.cells (PCS.map strV).toArray 9) := by
  go_enter Tryd.func15, Tryd.ntmps15
  go_wp2
  go_ret
  exact ⟨rfl, rfl⟩
def srcOfL (zs : List Int) : Bs := (zs.map fun z => PCS.getD (z % 36).toNat [] ++ [10]).flatten
theorem srcOfL_snoc (zs : List Int) (k : Nat) (h : k < zs.length) : srcOfL (zs.take (k + 1)) = srcOfL (zs.take k) ++ (PCS.getD (zs.getD k 0 % 36).toNat [] ++ [10]) := by
  unfold srcOfL
  rw [List.take_succ_eq_append_getElem h, List.map_append, List.flatten_append]
  congr 1
  simp [List.getD, h]
theorem pcs_small : ∀ p ∈ PCS, p.length ≤ 30 := by decide +kernel
theorem pcs_get (k : Nat) : (PCS.getD k []).length ≤ 30 := by
  by_cases h : k < PCS.length
  · have := pcs_small _ (List.getElem_mem h)
    simpa [List.getD, h] using this
  · simp [List.getD, List.getElem?_eq_none (Nat.le_of_not_lt h)]
theorem srcOfL_len (zs : List Int) : (srcOfL zs).length ≤ 31 * zs.length := by
  unfold srcOfL
  induction zs with
  | nil => simp
  | cons z zs ih =>
    have := pcs_get (z % 36).toNat
    simp only [List.map_cons, List.flatten_cons, List.length_append, List.length_cons, List.length_nil] at ih ⊢
    omega
set_option maxHeartbeats 4000000 in
set_option maxRecDepth 100000 in
theorem source_some (b off len cap : Nat) (zs : List Int) (w : World) (hl : len ≤ 1000) (hz : zs.length = len) (hb : b < w.heap.size)
    (hc : Hid (∀ j, j < len → w.cell? ⟨b, off + j, none⟩ = some (.int .i64 (zs.getD j 0)))) (hw : Hid (∀ j, j < len → -9223372036854775808 ≤ zs.getD j 0 ∧ zs.getD j 0 ≤ 9223372036854775807)) :
    Calls Tryd.prog 7 #[.slice (some ⟨b, off, none⟩) len cap] w fun e w' => e = .returned (.string (S (srcOfL zs))) ∧ Below w.heap.size w w' := by
  have HP := Lib.hid pieces_asm
  go_enter Tryd.func7, Tryd.ntmps7
  go_wp2_with (go_at_call 15; (with_reducible refine (HP.out _).mono ?_); rintro e w1 ⟨rfl, hw1⟩; have HW1 := Lib.hid hw1; clear hw1)
  go_loopw [4, 5] (fun s i wr => ∃ k : Nat, k ≤ len ∧ i = .int .i64 k ∧ s = .string (S (srcOfL (zs.take k))) ∧ Below w.heap.size w wr ∧ wr.heap[w.heap.size]? = some (.cells (PCS.map strV).toArray 9 (0, 0))) (fun _ i _ => len - (intOf i).toNat)
  case atStart => exact ⟨0, Nat.zero_le _, rfl, rfl, by rw [HW1.out]; exact (Below.refl _ _).alloc (Nat.le_refl _) _, by rw [HW1.out]; exact al_new _ _ _ rfl⟩
  case round =>
    obtain ⟨k, hk, rfl, rfl, hbw, hp⟩ := hrel
    by_cases hlt : k < len
    · have h1 := still (hc.out k hlt) hbw
      have hwk := hw.out k hlt
      have hsn := srcOfL_snoc zs k (by omega)
      generalize zs.getD k 0 = z at *
      have hr0 : 0 ≤ z % 36 := by omega
      have hr1 : z % 36 < 36 := by omega
      obtain ⟨r, hr⟩ : ∃ r : Nat, z % 36 = r := ⟨(z % 36).toNat, by omega⟩
      rw [hr, Int.toNat_natCast] at hsn
      have hr36 : r < 36 := by omega
      have c0 : wr.cell? ⟨w.heap.size, r, none⟩ = some (.string (S (PCS.getD r []))) := cell_blk hp r (by
        rw [List.getElem?_toArray, List.getElem?_map, List.getElem?_eq_getElem (by rw [pcs_len]; exact hr36)]
        simp [strV, List.getD, List.getElem?_eq_getElem (show r < PCS.length by rw [pcs_len]; exact hr36)])
      have hlt1 := lt_of_block hp
      have z1 : (S (PCS.getD r [])).size ≤ 30 := by rw [S_size]; exact pcs_get r
      have z2 : (S (srcOfL (zs.take k))).size ≤ 31000 := by
        rw [S_size]; have := srcOfL_len (zs.take k); rw [List.length_take] at this; omega
      have hst : S (srcOfL (zs.take k)) ++ S (PCS.getD r []) ++ { data := #[10] } = S (srcOfL (zs.take (k + 1))) := by
        apply ba_ext
        rw [hsn, S_list]
        simp [ByteArray.data_append, S]
      have HBW := Lib.hid hbw
      have HPP := Lib.hid hp
      have HR := Lib.hid (fun W => round_anyI z 36 W (by decide) (by decide) hwk.1 hwk.2)
      rw [hr] at HR
      generalize PCS.getD r [] = pr at *
      clear hsn hbw hp hr
      go_wp2_with (go_at_call 8; (with_reducible refine (HR.out _).mono ?_); rintro e w3 ⟨rfl, m, rfl⟩)
      go_roundw
      case rel => exact ⟨k + 1, by omega, by go_num, rfl, below_drewN HBW.out m, heap_below HPP.out (drewN_below wr m)⟩
      case measure => simp [intOf]; omega
    · have e : k = len := by omega
      subst e
      have hz2 : zs.take k = zs := List.take_of_length_le (by omega)
      rw [hz2]
      clear hz2
      go_wp2
      go_ret
      exact ⟨rfl, hbw⟩
set_option maxHeartbeats 4000000 in
theorem source_zero (a : Option Addr) (cap : Nat) (w : World) :
    Calls Tryd.prog 7 #[.slice a 0 cap] w fun e w' => e = .returned (.string (S (srcOfL []))) ∧ Below w.heap.size w w' := by
  have HP := Lib.hid pieces_asm
  go_enter Tryd.func7, Tryd.ntmps7
  go_wp2_with (go_at_call 15; (with_reducible refine (HP.out _).mono ?_); rintro e w1 ⟨rfl, rfl⟩)
  go_loopw [4, 5] (fun s i wr => i = .int .i64 0 ∧ s = .string (S (srcOfL [])) ∧ Below w.heap.size w wr) (fun _ _ _ => 0)
  case atStart => exact ⟨rfl, rfl, (Below.refl _ _).alloc (Nat.le_refl _) _⟩
  case round =>
    obtain ⟨rfl, rfl, hbw⟩ := hrel
    go_wp2
    go_ret
    exact ⟨rfl, hbw⟩
def SymOk (syms : List (Bs × Nat)) (n : Nat) : Prop := syms.Pairwise (fun a b => a.1 ≠ b.1 ∧ a.2 ≤ b.2) ∧ ∀ s ∈ syms, s.2 % 4 = 0 ∧ s.2 ≤ 4 * n
theorem look_none {syms : List (Bs × Nat)} {lab : Bs} (h : lookS syms lab = none) : ∀ s ∈ syms, s.1 ≠ lab := by
  intro s hs e
  have hf : syms.find? (fun s => s.1 == lab) = none := by simpa [lookS] using h
  have := List.find?_eq_none.1 hf s hs
  simp [e] at this
theorem add_sym {syms : List (Bs × Nat)} {ds : List Draft} {lab : Bs} {n : Nat} (h : SymOk syms ds.length) (ht : ¬ (lab ≠ [] ∧ (lookS syms lab).isSome = true)) (hn : ds.length ≤ n) : SymOk (addSyms syms ds lab) n := by
  unfold addSyms
  by_cases h0 : lab = []
  · rw [if_pos h0]
    exact ⟨h.1, fun s hs => ⟨(h.2 s hs).1, by have := (h.2 s hs).2; omega⟩⟩
  · rw [if_neg h0]
    have hl : lookS syms lab = none := by
      cases hx : lookS syms lab with
      | none => rfl
      | some x => exact absurd ⟨h0, by rw [hx]; rfl⟩ ht
    refine ⟨List.pairwise_append.2 ⟨h.1, by simp, fun a ha b hb => ?_⟩, fun s hs => ?_⟩
    · simp at hb; subst hb
      exact ⟨look_none hl a ha, (h.2 a ha).2⟩
    · rcases List.mem_append.1 hs with hs | hs
      · exact ⟨(h.2 s hs).1, by have := (h.2 s hs).2; omega⟩
      · simp at hs; subst hs; simp; omega
theorem read_sym : ∀ (ls : List Bs) (i : Nat) (syms : List (Bs × Nat)) (ds : List Draft) (r : List (Bs × Nat) × List Draft), readL ls i syms ds = .inr r → SymOk syms ds.length → SymOk r.1 r.2.length
  | [], i, syms, ds, r, h, hk => by simp [readL] at h; subst h; exact hk
  | l :: ls, i, syms, ds, r, h, hk => by
    cases hl : lineR l with
    | none => rw [read_none hl] at h; cases h
    | some x =>
      obtain ⟨lab, dd⟩ := x
      by_cases ht : lab ≠ [] ∧ (lookS syms lab).isSome = true
      · rw [read_twice hl ht] at h; cases h
      · by_cases hb : 1024 < (ds ++ numbered ((i : Int) + 1) dd).length
        · rw [read_large hl ht hb] at h; cases h
        · rw [read_next hl ht hb] at h
          exact read_sym ls _ _ _ r h (add_sym hk ht (by simp))
theorem codeL_len (syms : List (Bs × Nat)) : ∀ (ds : List Draft) (acc ws : List Int), codeL syms ds acc = .inr ws → ws.length = acc.length + ds.length
  | [], acc, ws, h => by simp [codeL] at h; subst h; simp
  | d :: ds, acc, ws, h => by
    by_cases hr : (finL syms d (4 * (acc.length : Int))).2 = 0
    · rw [code_ok hr] at h; have := codeL_len syms ds _ ws h; simp at this ⊢; omega
    · rw [code_bad hr] at h; cases h
theorem trans_sym {src : Bs} {ws : List Int} {syms : List (Bs × Nat)} (h : transL src = .inr (ws, syms)) : SymOk syms ws.length ∧ ws.length ≤ 1024 := by
  unfold transL at h
  split at h
  · cases h
  · cases hr : readL (linesL src) 0 [] [] with
    | inl r => rw [hr] at h; cases h
    | inr r =>
      rw [hr] at h
      dsimp only at h
      cases hc : codeL r.1 r.2 [] with
      | inl e => rw [hc] at h; cases h
      | inr w2 =>
        rw [hc] at h
        injection h with h
        injection h with h1 h2
        subst h1
        subst h2
        have hl := codeL_len _ _ _ _ hc
        have hk := read_sym _ _ _ _ _ hr ⟨by simp, by simp⟩
        have ho := read_ok _ _ _ _ _ hr ⟨by simp, by simp, by simp⟩
        simp at hl
        rw [hl]
        exact ⟨hk, ho.2.2⟩
theorem trans_err {src : Bs} {e l : Int} (h : transL src = .inl (e, l)) : e ≠ 0 := by
  unfold transL at h
  split at h
  · injection h with h; injection h with h1 h2; subst h1; decide
  · cases hr : readL (linesL src) 0 [] [] with
    | inl r =>
      rw [hr] at h
      injection h with h; injection h with h1 h2; subst h1
      have := read_errs _ _ _ _ _ hr
      omega
    | inr r =>
      rw [hr] at h
      dsimp only at h
      cases hc : codeL r.1 r.2 [] with
      | inl e' =>
        rw [hc] at h
        injection h with h
        have := code_errs _ _ _ _ hc
        rw [h] at this
        exact this
      | inr w2 => rw [hc] at h; cases h
end Go.Proofs.YthghbcjaokpilaaDoor
