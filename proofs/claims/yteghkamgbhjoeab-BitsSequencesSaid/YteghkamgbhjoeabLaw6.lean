import Derived.Test.YteghkamgbhjoeabLaw5
namespace Go.Proofs.Yteghkamgbhjoeab
set_option linter.unusedVariables false
open Go.ChangeShapes Go.WideShapes Go.ChangeAt Go.RowKit Go.Proofs.Yteghkamgbhjoeab.Num Go.Proofs.Yteghkamgbhjoeab.Mem
/-- The encodings of the numbers from k on, m of them. -/
def encAll (zs : List Int) : ByteArray := ⟨(zs.flatMap fun z => enc z.toNat).toArray⟩
theorem encAll_list (zs : List Int) : (encAll zs).data.toList = zs.flatMap fun z => enc z.toNat := by simp [encAll]
theorem encAll_snoc (zs : List Int) (k : Nat) (h : k < zs.length) : encAll (zs.take k) ++ encS (zs.getD k 0).toNat = encAll (zs.take (k + 1)) := by
  apply ByteArray.ext
  apply Array.toList_inj.1
  rw [ByteArray.data_append, Array.toList_append, encAll_list, encAll_list, encS_list, List.take_succ_eq_append_getElem h, List.flatMap_append]
  simp [List.getD, h]
theorem encAll_le (zs : List Int) : (encAll zs).size ≤ 10 * zs.length := by
  show (zs.flatMap fun z => enc z.toNat).toArray.size ≤ _
  induction zs with
  | nil => simp
  | cons z zs ih =>
    have := enc_le z.toNat
    simp only [List.flatMap_cons, List.size_toArray, List.length_append, List.length_cons] at ih ⊢
    omega
theorem size_list (s : ByteArray) : s.size = s.data.toList.length := by show s.data.size = _; simp
/-- What is left from the k-th number on. -/
def encFrom (zs : List Int) (k : Nat) : ByteArray := encAll (zs.drop k)
theorem encFrom_list (zs : List Int) (k : Nat) (h : k < zs.length) : (encFrom zs k).data.toList = enc (zs.getD k 0).toNat ++ (encFrom zs (k + 1)).data.toList := by
  rw [encFrom, encFrom, encAll_list, encAll_list, List.drop_eq_getElem_cons h, List.flatMap_cons]
  simp [List.getD, h]
theorem encFrom_cut (zs : List Int) (k : Nat) (h : k < zs.length) : (encFrom zs k).extract (encS (zs.getD k 0).toNat).size (encFrom zs k).size = encFrom zs (k + 1) := by
  apply ByteArray.ext
  apply Array.toList_inj.1
  have e := encFrom_list zs k h
  have e2 : (encFrom zs k).size = (encFrom zs k).data.toList.length := size_list _
  rw [ByteArray.data_extract, Array.toList_extract, e2, e, encS_size]
  simp
  exact List.take_of_length_le (by rw [size_list]; exact Nat.le_refl _)
theorem encFrom_ge (zs : List Int) (k : Nat) (h : k < zs.length) : (encS (zs.getD k 0).toNat).size ≤ (encFrom zs k).size := by
  have e := encFrom_list zs k h
  have e2 : (encFrom zs k).size = (encFrom zs k).data.toList.length := size_list _
  rw [e2, e, encS_size]; simp
theorem encFrom_le (zs : List Int) (k : Nat) : (encFrom zs k).size ≤ 10 * zs.length := by
  have := encAll_le (zs.drop k)
  rw [List.length_drop] at this
  show (encAll (zs.drop k)).size ≤ _
  omega
theorem encFrom_end (zs : List Int) (k : Nat) (h : zs.length ≤ k) : encFrom zs k = { data := #[] } := by
  rw [encFrom, List.drop_eq_nil_of_le h]; rfl
theorem encFrom_zero (zs : List Int) : encAll zs = encFrom zs 0 := rfl
theorem uv_from (zs : List Int) (k : Nat) (n : Nat) (w : World) (h : k < zs.length) (hl : zs.length ≤ 60) (hn : zs.getD k 0 = (n : Int)) (hx : Hid (n < 18446744073709551616)) :
    Calls Try.prog 8 #[.string (encFrom zs k)] w fun e w' => e = .returned (.tuple #[.int .u64 n, .int .i64 (encS n).size, .bool true]) ∧ Below w.heap.size w w' := by
  have h1 := encFrom_le zs k
  refine (uvarint_any _ w (by unfold maxLen; omega)).mono fun e w' ⟨he, m, hw⟩ => ⟨?_, by rw [hw]; exact drewN_below _ _⟩
  rw [he, encFrom_list zs k h, hn, Int.toNat_natCast, dec_enc n _ hx.out, encS_size]; rfl
/-- A slice of numbers that came in: nil, or a row of cells (the shell's own words). -/
def IsRow (k : IntKind) (w : World) (a : Option Addr) (len cap : Nat) (zs : List Int) : Prop :=
  (a = none ∧ len = 0 ∧ cap = 0 ∧ zs = []) ∨
  ∃ x, a = some x ∧ len ≤ cap ∧ cap ≤ maxLen ∧ zs.length = cap ∧ (∀ i, i < zs.length → w.cell? (x.add i) = some (.int k (zs.getD i 0))) ∧ ∀ n ∈ zs, (Lit.int k n).wf = true
set_option maxRecDepth 100000 in
theorem seq_some (b off len cap : Nat) (zs : List Int) (w : World) (hl : len ≤ 60) (hz : zs.length = len) (hb : b < w.heap.size)
    (hc : Hid (∀ j, j < len → w.cell? ⟨b, off + j, none⟩ = some (.int .u64 (zs.getD j 0)))) (hw : Hid (∀ j, j < len → 0 ≤ zs.getD j 0 ∧ zs.getD j 0 < 18446744073709551616)) :
    Calls Try.prog 4 #[.slice (some ⟨b, off, none⟩) len cap] w fun e w' => e = .returned (.bool true) ∧ Below w.heap.size w w' := by
  go_enter Try.func4, Try.ntmps4
  go_wp2
  all_goals first | (exfalso; omega) | skip
  go_loopw [3, 4] (fun s i wr => ∃ k : Nat, k ≤ len ∧ i = .int .i64 k ∧ s = .string (encAll (zs.take k)) ∧ Below w.heap.size w wr) (fun _ i _ => len - (intOf i).toNat)
  case atStart => exact ⟨0, Nat.zero_le _, rfl, rfl, Below.refl _ _⟩
  case round =>
    obtain ⟨k, hk, rfl, rfl, hbel⟩ := hrel
    by_cases hlt : k < len
    · obtain ⟨n, hn⟩ : ∃ n : Nat, zs.getD k 0 = (n : Int) := ⟨(zs.getD k 0).toNat, by have := hw.out k hlt; omega⟩
      have hx : Hid (n < 18446744073709551616) := by have := hw.out k hlt; show _ < _; omega
      have hcell : wr.cell? ⟨b, off + k, none⟩ = some (.int .u64 n) := by rw [hbel.cell hb, hc.out k hlt, hn]
      have hs := encAll_le (zs.take k)
      have hs2 : (encAll (zs.take k)).size ≤ 600 := by rw [List.length_take] at hs; omega
      have hs3 := encS_le n
      have HS : Hid (encAll (zs.take k) ++ encS n = encAll (zs.take (k + 1))) := by have := encAll_snoc zs k (by omega); rw [hn, Int.toNat_natCast] at this; exact this
      clear hs
      go_wp2_with (go_at_call 10; refine (put_any n _ hx).mono ?_; rintro e w' ⟨rfl, hb1⟩)
      go_roundw
      case rel => exact ⟨k + 1, by omega, by go_num, by rw [HS.out], below_step hbel hb1⟩
      case measure => simp [intOf]; omega
    · obtain rfl : len = k := by omega
      rw [List.take_of_length_le (by omega), encFrom_zero]
      go_wp2
      go_loopw [3, 5] (fun s i wr => ∃ k : Nat, k ≤ len ∧ i = .int .i64 k ∧ s = .string (encFrom zs k) ∧ Below w.heap.size w wr) (fun _ i _ => len - (intOf i).toNat)
      case atStart => exact ⟨0, Nat.zero_le _, rfl, rfl, hbel⟩
      case round =>
        clear hbel
        obtain ⟨k, hk, rfl, rfl, hbel⟩ := hrel
        by_cases hlt : k < len
        · obtain ⟨n, hn⟩ : ∃ n : Nat, zs.getD k 0 = (n : Int) := ⟨(zs.getD k 0).toNat, by have := hw.out k hlt; omega⟩
          have hx : Hid (n < 18446744073709551616) := by have := hw.out k hlt; show _ < _; omega
          have h1 := encFrom_le zs k
          have h2 : (encFrom zs k).size ≤ 600 := by omega
          have h3 := encFrom_ge zs k (by omega)
          have h4 := encFrom_cut zs k (by omega)
          rw [hn, Int.toNat_natCast] at h3 h4
          have h5 := encS_pos n
          have hcell : ∀ W, Below w.heap.size w W → W.cell? ⟨b, off + k, none⟩ = some (.int .u64 n) := fun W hW => by rw [hW.cell hb, hc.out k hlt, hn]
          have HN := Lib.hid hn
          have HC := Lib.hid hcell
          clear h1 hn hcell
          go_wp2_with (go_at_call 8; refine (uv_from zs k n _ (by omega) (by omega) HN.out hx).mono ?_; rintro e w' ⟨rfl, hb1⟩; have hcc := HC.out _ (below_step hbel hb1))
          go_roundw
          case rel => exact ⟨k + 1, by omega, by go_num, rfl, below_step hbel hb1⟩
          case measure => simp [intOf]; omega
        · obtain rfl : len = k := by omega
          rw [encFrom_end zs len (by omega)]
          go_wp2_with (go_at_call 7; refine (awake_any _).mono ?_; rintro e w' ⟨rfl, n7, rfl⟩)
          go_ret
          exact ⟨rfl, below_drewN hbel _⟩
set_option maxRecDepth 100000 in
theorem seq_zero (a : Option Addr) (cap : Nat) (w : World) :
    Calls Try.prog 4 #[.slice a 0 cap] w fun e w' => e = .returned (.bool true) ∧ Below w.heap.size w w' := by
  go_enter Try.func4, Try.ntmps4
  go_wp2
  refine wp_loop_rounds 1 ?_
  rw [rounds_succ]
  go_wp2
  refine wp_loop_rounds 1 ?_
  rw [rounds_succ]
  go_wp2_with (go_at_call 7; refine (awake_any _).mono ?_; rintro e w' ⟨rfl, n7, rfl⟩)
  go_ret
  exact ⟨rfl, drewN_below _ _⟩
theorem seq_long (a : Option Addr) (len cap : Nat) (w : World) (h : 60 < len) :
    Calls Try.prog 4 #[.slice a len cap] w fun e w' => e = .returned (.bool true) ∧ Below w.heap.size w w' := by
  go_enter Try.func4, Try.ntmps4
  go_wp2_with (go_at_call 7; refine (awake_any _).mono ?_; rintro e w' ⟨rfl, n7, rfl⟩)
  all_goals first | (exfalso; omega) | skip
  go_ret
  exact ⟨rfl, drewN_below _ _⟩
theorem sequences_walk (a : Option Addr) (len cap : Nat) (zs : List Int) (w : World) (h : IsRow .u64 w a len cap zs) :
    Calls Try.prog 4 #[.slice a len cap] w fun e w' => e = .returned (.bool true) ∧ Below w.heap.size w w' := by
  by_cases h0 : len = 0
  · subst h0; exact seq_zero a cap w
  · by_cases h60 : 60 < len
    · exact seq_long a len cap w h60
    · rcases h with ⟨_, hl, _⟩ | ⟨⟨b, off, spot⟩, rfl, hlc, hm, hz, hc, hw⟩
      · exact absurd hl h0
      · have c0 := hc 0 (by omega)
        have hspot : spot = none := by simpa [Addr.add] using World.cell?_spot c0
        subst hspot
        rw [add_plain] at c0
        have ht : ∀ j, j < len → (zs.take len).getD j 0 = zs.getD j 0 := fun j hj => by simp [List.getD, hj]
        refine seq_some b off len cap (zs.take len) w (by omega) (by rw [List.length_take]; omega) (World.block_lt_of_cell? w _ c0) (Lib.hid fun j hj => ?_) (Lib.hid fun j hj => ?_)
        · rw [ht j hj, ← add_plain]; exact hc j (by omega)
        · rw [ht j hj]
          have hj' : j < zs.length := by omega
          have h2 : zs.getD j 0 = zs[j] := by simp [List.getD, hj']
          have := wf_u64 (hw zs[j] (List.getElem_mem hj'))
          rw [h2]; omega
end Go.Proofs.Yteghkamgbhjoeab
