import Derived.Test.YteghkamgbhjoeabLaw4
import Derived.Lib.ConvBytes
namespace Go.Proofs.Yteghkamgbhjoeab
set_option linter.unusedVariables false
open Go.ChangeShapes Go.WideShapes Go.ChangeAt Go.RowKit Go.Proofs.Yteghkamgbhjoeab.Num Go.Proofs.Yteghkamgbhjoeab.Mem
theorem wf_u8 {a : Int} (h : (Lit.int .u8 a).wf = true) : 0 ≤ a ∧ a ≤ 255 := by simpa [Lit.wf, IntKind.min, IntKind.max, IntKind.bits, IntKind.signed] using h
/-- '[]byte(s)', one byte stored, and back. -/
def put1 (s : ByteArray) (k : Nat) (b : UInt8) : ByteArray := ⟨(s.data.toList.set k b).toArray⟩
theorem put1_list (s : ByteArray) (k : Nat) (b : UInt8) : (put1 s k b).data.toList = s.data.toList.set k b := by simp [put1]
theorem put1_size (s : ByteArray) (k : Nat) (b : UInt8) : (put1 s k b).size = s.size := by show (s.data.toList.set k b).toArray.size = s.data.size; simp
def stored1 (w : World) (e : TypeId) (s : ByteArray) (k : Nat) (b : Int) : World := (Lib.bytesWorld w e s).setCell ⟨w.heap.size, k, none⟩ (.int .u8 b)
theorem stored1_below (w : World) (e : TypeId) (s : ByteArray) (k : Nat) (b : Int) : Below w.heap.size w (stored1 w e s k b) :=
  (show Below w.heap.size w (Lib.bytesWorld w e s) from ⟨rfl, rfl, rfl, by rw [Lib.bytesWorld_size]; omega, fun j hj => Lib.bytesWorld_at_old w e s j hj⟩).setCell (p := ⟨w.heap.size, k, none⟩) (Nat.le_refl _) _
theorem stored1_cell (w : World) (e : TypeId) (s : ByteArray) (k : Nat) (b : UInt8) (hk : k < s.size) : ∀ j, (hj : j < (s.data.toList.set k b).length) →
    (stored1 w e s k b.toNat).cell? ((⟨w.heap.size, 0, none⟩ : Addr).add j) = some (.int .u8 ((s.data.toList.set k b)[j].toNat : Int)) := by
  intro j hj
  have hj' : j < s.size := by simpa using hj
  have h0 := Lib.bytesWorld_cell w e s k hk
  rw [add_plain, Nat.zero_add]
  by_cases e1 : k = j
  · subst e1
    rw [stored1, World.cell?_setCell_same _ _ _ h0, List.getElem_set_self]
  · rw [stored1, World.cell?_setCell_other _ _ _ _ (by intro h; injection h with _ h2; exact e1 h2), Lib.bytesWorld_cell w e s j hj', List.getElem_set_ne e1]
    simp [List.getD, hj']
theorem hash_below (h : Int) (s : ByteArray) (w : World) (hs : s.size ≤ maxLen) :
    Calls Try.prog 13 #[.int .u64 h, .string s] w fun e w' => e = .returned (.int .u64 (hash h s.data.toList)) ∧ Below w.heap.size w w' :=
  (hash_any h s w hs).mono fun _ _ ⟨he, _, hw⟩ => ⟨he, by rw [hw]; exact drewN_below _ _⟩
theorem hashr_below (h : Int) (s : ByteArray) (w : World) (hs : s.size ≤ maxLen) :
    Calls Try.prog 14 #[.int .u64 h, .string s] w fun e w' => e = .returned (.int .u64 (hash h s.data.toList)) ∧ Below w.heap.size w w' :=
  (hash_ref h s w hs).mono fun _ _ ⟨he, _, hw⟩ => ⟨he, by rw [hw]; exact drewN_below _ _⟩
set_option maxRecDepth 100000 in
theorem distinct_walk (s : ByteArray) (i b : Int) (hs : s.size ≤ maxLen) (w1 : (Lit.int .i64 i).wf = true) (w2 : (Lit.int .u8 b).wf = true) (w : World) :
    Calls Try.prog 6 #[.string s, .int .i64 i, .int .u8 b] w fun e w' => e = .returned (.bool true) ∧ Below w.heap.size w w' := by
  have hs0 := hs
  unfold maxLen at hs
  have hb := wf_u8 w2
  by_cases c : 1 ≤ s.size ∧ s.size ≤ 200 ∧ 0 ≤ i ∧ i < s.size
  · obtain ⟨c1, c2, c3, c4⟩ := c
    obtain ⟨k, rfl⟩ : ∃ k : Nat, i = k := ⟨i.toNat, by omega⟩
    obtain ⟨v, hv, rfl⟩ : ∃ v : UInt8, True ∧ b = (v.toNat : Int) := ⟨UInt8.ofNat b.toNat, trivial, by rw [u8n _ (by omega)]; omega⟩
    have hk : k < s.size := by omega
    by_cases e : s[k] = v
    · subst e
      go_enter Try.func6, Try.ntmps6
      go_wp2_with (go_at_call 7; refine (awake_any _).mono ?_; rintro e w' ⟨rfl, n7, rfl⟩)
      all_goals first | (exfalso; omega) | skip
      all_goals go_ret
      all_goals exact ⟨rfl, drewN_below _ _⟩
    · have hne : ((s[k].toNat : Int) == (v.toNat : Int)) = false := by
        have : s[k].toNat ≠ v.toNat := fun h => e (UInt8.toNat_inj.1 h)
        rw [beq_eq_false_iff_ne]; omega
      have hh : (hash 0 s.data.toList != hash 0 (s.data.toList.set k v)) = true := by
        have := hash_distinct s.data.toList k v (by simpa using hk) e
        simpa using this
      have hconv : (convert 9 34 (.string s)).run Try.prog w = .ok (.slice (some ⟨w.heap.size, 0, none⟩) s.size (grownCap w s.size 0 5)) (Lib.bytesWorld w 5 s) := Lib.run_convert_string_bytes w _ _ _ s Try.underlying9 Try.underlying34 Try.underlying5
      have hcell := Lib.bytesWorld_cell w 5 s k hk
      have hfr : (Lib.bytesWorld w 5 s).frozen? ⟨w.heap.size, k, none⟩ = false := by
        simp [World.frozen?, Lib.bytesWorld_at_new, Lib.bytesCells]; omega
      have hback : ∀ d os, (convert 34 9 (.slice (some ⟨w.heap.size, 0, none⟩) s.size (grownCap w s.size 0 5))).run Try.prog («Sort».grow (redrawn (stored1 w 5 s k v.toNat) d) os) = .ok (.string (put1 s k v)) («Sort».grow (redrawn (stored1 w 5 s k v.toNat) d) os) := fun d os => by
        rw [run_convert_bytes_string _ _ _ 5 _ _ _ Try.underlying34 Try.underlying5 Try.underlying9]
        refine bytes_string _ _ _ _ (s.data.toList.set k v) (by simp) fun j hj => ?_
        exact cell_regrown (stored1_cell w _ s k v hk j hj) d os
      go_enter Try.func6, Try.ntmps6
      go_wp2
      all_goals first | (exfalso; omega) | skip
      change Code.wp _ _ _ _ (stored1 w 5 s k v.toNat)
      have hbel := stored1_below w 5 s k v.toNat
      have hq1 := put1_list s k v
      have hp : (put1 s k v).size ≤ maxLen := by rw [put1_size]; exact hs0
      generalize stored1 w 5 s k v.toNat = w2 at *
      refine wp_region_quiet_below (by kernel_rfl) (by kernel_rfl) ?_
      repeat (go_big_quiet_step (first
        | (go_at_call 13; exact Calls.regrown_of (hash_below _ _ _ (by first | exact hs0 | exact hp)))
        | (go_at_call 14; exact Calls.regrown_of (hashr_below _ _ _ hs0))
        | (go_at_call 7; exact Calls.regrown_of (awake_below _))))
      refine wpQuiet_nil ?_
      rintro W1 ⟨p, rfl⟩
      go_wp2
      go_ret
      exact ⟨rfl, below_step hbel (below_regrown _ _ _)⟩
  · go_enter Try.func6, Try.ntmps6
    go_wp2_with (go_at_call 7; refine (awake_any _).mono ?_; rintro e w' ⟨rfl, n7, rfl⟩)
    all_goals first | (exfalso; omega) | skip
    all_goals go_ret
    all_goals exact ⟨rfl, drewN_below _ _⟩
end Go.Proofs.Yteghkamgbhjoeab
