import Derived.Test.YtmifhijkfofbcaaFn
import Derived.Test.YtmifhijkfofbcaaMem
import Derived.Below
import Derived.IntWalk
import Derived.Lib.Hide
import Derived.Lib.ConvBytes
import Derived.Laws.ResultCell
namespace Go.Proofs.Ytmifhijkfofbcaa
set_option linter.unusedVariables false
set_option linter.unusedSimpArgs false
open Go.ChangeShapes Go.WideShapes Go.ChangeAt Go.RowKit Go.Proofs.Ytmifhijkfofbcaa.Num Go.Proofs.Ytmifhijkfofbcaa.Mem
theorem rndD (n k : Int) (hk : 1 ≤ k) : (n.tmod k < 0 → n % k = n.tmod k + k ∧ -k < n.tmod k) ∧ (0 ≤ n.tmod k → n % k = n.tmod k ∧ n.tmod k < k) := by
  obtain ⟨h1, h2, h3, h4, h5⟩ := tdiv_facts n k (by omega)
  obtain ⟨h6, h7⟩ := h4 (by omega)
  have e : n % k = n.tmod k % k := by
    conv => lhs; rw [← h1]
    rw [Int.add_comm, Int.add_mul_emod_self_left]
  refine ⟨fun h => ⟨?_, h6⟩, fun h => ⟨?_, h7⟩⟩
  · rw [e]
    have : n.tmod k % k = (n.tmod k + k) % k := by simp
    rw [this, Int.emod_eq_of_lt (by omega) (by omega)]
  · rw [e, Int.emod_eq_of_lt h h7]
theorem roundD (n k : Int) (w : World) (hk : 1 ≤ k) (hk' : k ≤ 1000000) (h0 : -9223372036854775808 ≤ n) (h1 : n ≤ 9223372036854775807) :
    Calls Try.prog 7 #[.int .i64 n, .int .i64 k] w fun e w' => e = .returned (.int .i64 (n % k)) ∧ w = w' := by
  have hz : ¬ k = 0 := by omega
  have hr := Lib.hid (rndD n k hk)
  go_enter Try.func7, Try.ntmps7
  go_wp2
  all_goals go_ret
  all_goals refine ⟨ret_int ?_, rfl⟩
  · have := (hr.out.1 (by assumption)).2
    rw [(hr.out.1 (by assumption)).1]
    (try unfold wrap64); omega
  · rw [(hr.out.2 (by assumption)).1]
/-- One byte of the call's own, as a string. -/
theorem dv_conv1 (W : World) (b : Nat) (v : Int) (h0 : 0 ≤ v) (h1 : v ≤ 255) (h : W.cell? ⟨b, 0, none⟩ = some (.int .u8 v)) :
    (convert 35 9 (.slice (some ⟨b, 0, none⟩) 1 1)).run Try.prog W = .ok (.string ⟨#[UInt8.ofNat v.toNat]⟩) W := by
  rw [run_convert_bytes_string _ _ _ 5 _ _ _ Try.underlying35 Try.underlying5 Try.underlying9]
  refine bytes_string _ _ _ _ [UInt8.ofNat v.toNat] rfl fun j hj => ?_
  have : j = 0 := by simp at hj; omega
  subst this
  rw [show (⟨b, 0, none⟩ : Addr).add 0 = ⟨b, 0, none⟩ from rfl, h]
  simp; omega
/-- The string of one byte. -/
def bS (v : Int) : ByteArray := ⟨#[UInt8.ofNat v.toNat]⟩
/-- A console's keys after a byte was typed. -/
def tyS (s : ByteArray) (v : Int) : ByteArray := if 16 ≤ s.size then s else s ++ bS v
def conV (s : ByteArray) : Value := .agg #[.string s]
theorem dvC {a b : World} {p : Addr} {v : Value} (h : a.cell? p = some v) (hb : Below a.heap.size a b) (hp : p.block < a.heap.size) : b.cell? p = some v := by rw [hb.cell hp]; exact h
theorem dvF {a b : World} {p : Addr} (h : a.frozen? p = false) (hb : Below a.heap.size a b) (hp : p.block < a.heap.size) : b.frozen? p = false := by rw [hb.frozen hp]; exact h
theorem ret_con {s t : ByteArray} {k : IntKind} {a b : Int} (h : s = t) (h' : a = b) : Ending.returned (.tuple #[.agg #[.string s], .int k a]) = .returned (.tuple #[conV t, .int k b]) := by rw [h, h']; rfl
theorem ret_conb {s t : ByteArray} {a b : Bool} (h : s = t) (h' : a = b) : Ending.returned (.tuple #[.agg #[.string s], .bool a]) = .returned (.tuple #[conV t, .bool b]) := by rw [h, h']; rfl
theorem bS_size (v : Int) : (bS v).size = 1 := rfl
theorem type_any (s : ByteArray) (b : Int) (w : World) (h0 : 0 ≤ b) (h1 : b ≤ 255) :
    Calls Try.prog 8 #[conV s, .int .u8 b] w fun e w' => e = .returned (.tuple #[conV (tyS s b), .bool (decide (s.size < 16))]) ∧ Below w.heap.size w w' := by
  have hc : ∀ W b', W.cell? ⟨b', 0, none⟩ = some (.int .u8 b) → (convert 35 9 (.slice (some ⟨b', 0, none⟩) 1 1)).run Try.prog W = .ok (.string (bS b)) W := fun W b' hW => dv_conv1 W b' b h0 h1 hW
  have hbs := bS_size b
  unfold conV
  go_enter Try.func8, Try.ntmps8
  go_wp2
  all_goals first | (exfalso; omega) | skip
  · refine bodyPost_ret (v := .tuple #[.agg #[.string s], .bool false]) (by rw [results_cell_tmp rfl]; go_simp) rfl ⟨ret_conb (by unfold tyS; rw [if_pos (by omega)]) (by simp; omega), by (repeat' (first | with_reducible exact Below.refl _ _ | with_reducible assumption | with_reducible apply below_drewN | with_reducible apply Below.drew | with_reducible apply Below.setCell | with_reducible apply Below.alloc | (simp; done) | (simp; omega)))⟩
  · refine bodyPost_ret (v := .tuple #[.agg #[.string (s ++ bS b)], .bool true]) (by rw [results_cell_tmp rfl]; go_simp) rfl ⟨ret_conb (by unfold tyS; rw [if_neg (by omega)]) (by simp; omega), by (repeat' (first | with_reducible exact Below.refl _ _ | with_reducible assumption | with_reducible apply below_drewN | with_reducible apply Below.drew | with_reducible apply Below.setCell | with_reducible apply Below.alloc | (simp; done) | (simp; omega)))⟩
theorem type_ref (s : ByteArray) (b : Int) (w : World) (h0 : 0 ≤ b) (h1 : b ≤ 255) :
    Calls Try.prog 9 #[conV s, .int .u8 b] w fun e w' => e = .returned (.tuple #[conV (tyS s b), .bool (decide (s.size < 16))]) ∧ Below w.heap.size w w' := by
  have hc : ∀ W b', W.cell? ⟨b', 0, none⟩ = some (.int .u8 b) → (convert 35 9 (.slice (some ⟨b', 0, none⟩) 1 1)).run Try.prog W = .ok (.string (bS b)) W := fun W b' hW => dv_conv1 W b' b h0 h1 hW
  have hbs := bS_size b
  unfold conV
  go_enter Try.func9, Try.ntmps9
  go_wp2
  all_goals first | (exfalso; omega) | skip
  · refine bodyPost_ret (v := .tuple #[.agg #[.string s], .bool false]) (by rw [results_cell_tmp rfl]; go_simp) rfl ⟨ret_conb (by unfold tyS; rw [if_pos (by omega)]) (by simp; omega), by (repeat' (first | with_reducible exact Below.refl _ _ | with_reducible assumption | with_reducible apply below_drewN | with_reducible apply Below.drew | with_reducible apply Below.setCell | with_reducible apply Below.alloc | (simp; done) | (simp; omega)))⟩
  · refine bodyPost_ret (v := .tuple #[.agg #[.string (s ++ bS b)], .bool true]) (by rw [results_cell_tmp rfl]; go_simp) rfl ⟨ret_conb (by unfold tyS; rw [if_neg (by omega)]) (by simp; omega), by (repeat' (first | with_reducible exact Below.refl _ _ | with_reducible assumption | with_reducible apply below_drewN | with_reducible apply Below.drew | with_reducible apply Below.setCell | with_reducible apply Below.alloc | (simp; done) | (simp; omega)))⟩
theorem empty_size (s : ByteArray) : (!s.toList.isEmpty) = decide (0 < s.size) := by
  have h : s.toList.length = s.size := by rw [ByteArray.toList_eq]; simp
  cases hs : s.toList with
  | nil => rw [hs] at h; simp at h; simp [← h]
  | cons x l => rw [hs] at h; simp at h; simp [← h]
theorem pending_any (s : ByteArray) (w : World) :
    Calls Try.prog 12 #[conV s] w fun e w' => e = .returned (.bool (decide (0 < s.size))) ∧ Below w.heap.size w w' := by
  unfold conV
  go_enter Try.func12, Try.ntmps12
  go_wp2
  go_ret
  exact ⟨ret_bool (empty_size s), by (repeat' (first | with_reducible exact Below.refl _ _ | with_reducible assumption | with_reducible apply below_drewN | with_reducible apply Below.drew | with_reducible apply Below.setCell | with_reducible apply Below.alloc | (simp; done) | (simp; omega)))⟩
theorem pending_ref (s : ByteArray) (w : World) :
    Calls Try.prog 13 #[conV s] w fun e w' => e = .returned (.bool (decide (0 < s.size))) ∧ Below w.heap.size w w' := by
  unfold conV
  go_enter Try.func13, Try.ntmps13
  go_wp2
  go_ret
  exact ⟨rfl, by (repeat' (first | with_reducible exact Below.refl _ _ | with_reducible assumption | with_reducible apply below_drewN | with_reducible apply Below.drew | with_reducible apply Below.setCell | with_reducible apply Below.alloc | (simp; done) | (simp; omega)))⟩
theorem cmay_any (s : ByteArray) (w : World) :
    Calls Try.prog 14 #[conV s] w fun e w' => e = .returned (.bool (decide (s.size ≤ 16))) ∧ Below w.heap.size w w' := by
  unfold conV
  go_enter Try.func14, Try.ntmps14
  go_wp2
  go_ret
  exact ⟨ret_bool (by simp; omega), by (repeat' (first | with_reducible exact Below.refl _ _ | with_reducible assumption | with_reducible apply below_drewN | with_reducible apply Below.drew | with_reducible apply Below.setCell | with_reducible apply Below.alloc | (simp; done) | (simp; omega)))⟩
theorem cmay_ref (s : ByteArray) (w : World) :
    Calls Try.prog 15 #[conV s] w fun e w' => e = .returned (.bool (decide (s.size ≤ 16))) ∧ Below w.heap.size w w' := by
  unfold conV
  go_enter Try.func15, Try.ntmps15
  go_wp2
  go_ret
  exact ⟨ret_bool (by simp; omega), by (repeat' (first | with_reducible exact Below.refl _ _ | with_reducible assumption | with_reducible apply below_drewN | with_reducible apply Below.drew | with_reducible apply Below.setCell | with_reducible apply Below.alloc | (simp; done) | (simp; omega)))⟩
/-- The key that is read, and the keys that are left. -/
def kyV (s : ByteArray) : Int := if h : 0 < s.size then (s[0].toNat : Int) else 4294967295
def kyS (s : ByteArray) : ByteArray := if 0 < s.size then s.extract 1 s.size else s
def inS (s : ByteArray) (p : Int) : ByteArray := if p = 0 then kyS s else s
def inV (s : ByteArray) (p : Int) : Int := if p = 0 then kyV s else if p = 1 then (s.size : Int) % 4294967296 else 0
theorem kyV_pos {s : ByteArray} (h : 0 < s.size) : kyV s = (s[0].toNat : Int) % 4294967296 := by
  unfold kyV; rw [dif_pos h]; have := s[0].toNat_lt; omega
theorem takeKey_any (s : ByteArray) (w : World) :
    Calls Try.prog 16 #[conV s] w fun e w' => e = .returned (.tuple #[conV (kyS s), .int .u32 (kyV s)]) ∧ Below w.heap.size w w' := by
  have HP := Lib.hid (pending_any s)
  unfold conV at HP
  unfold conV
  go_enter Try.func16, Try.ntmps16
  go_wp2_with (go_at_call 12; (with_reducible refine (HP.out _).mono ?_); rintro e w1 ⟨rfl, hb1⟩; have c0 := dvC (p := ⟨w.heap.size, 0, none⟩) (v := .string s) (by simp [go_sem]) hb1 (by simp <;> omega); have c1 := dvC (p := ⟨w.heap.size + 1, 0, none⟩) (v := .string ⟨#[]⟩) (by simp [go_sem]) hb1 (by simp <;> omega); have z0 := dvF (p := ⟨w.heap.size, 0, none⟩) (by simp [go_sem]) hb1 (by simp <;> omega); have z1 := dvF (p := ⟨w.heap.size + 1, 0, none⟩) (by simp [go_sem]) hb1 (by simp <;> omega); have bel : Below w.heap.size w w1 := Below.trans (by (repeat' (first | with_reducible exact Below.refl _ _ | with_reducible assumption | with_reducible apply below_drewN | with_reducible apply Below.drew | with_reducible apply Below.setCell | with_reducible apply Below.alloc | (simp; done) | (simp; omega)))) (hb1.mono (by simp <;> omega)); clear hb1)
  all_goals first | (exfalso; simp_all; done) | skip
  · have h0 : ¬ 0 < s.size := by simpa using ‹(!decide (0 < s.size)) = true›
    refine bodyPost_ret (v := .tuple #[.agg #[.string s], .int .u32 4294967295]) (by rw [results_cell_tmp rfl]; go_simp) rfl ⟨ret_con (by unfold kyS; rw [if_neg h0]) (by unfold kyV; rw [dif_neg h0]), by (repeat' (first | with_reducible exact Below.refl _ _ | with_reducible assumption | with_reducible apply below_drewN | with_reducible apply Below.drew | with_reducible apply Below.setCell | with_reducible apply Below.alloc | (simp; done) | (simp; omega)))⟩
  · have h0 : 0 < s.size := by assumption
    refine bodyPost_ret (v := .tuple #[.agg #[.string (s.extract 1 s.size)], .int .u32 (↑s[0].toNat % 4294967296)]) (by rw [results_cell_tmp rfl]; go_simp) rfl ⟨ret_con (by unfold kyS; rw [if_pos h0]) (kyV_pos h0).symm, by (repeat' (first | with_reducible exact Below.refl _ _ | with_reducible assumption | with_reducible apply below_drewN | with_reducible apply Below.drew | with_reducible apply Below.setCell | with_reducible apply Below.alloc | (simp; done) | (simp; omega)))⟩
theorem in_ref (s : ByteArray) (p : Int) (w : World) :
    Calls Try.prog 11 #[conV s, .int .i64 p] w fun e w' => e = .returned (.tuple #[conV (inS s p), .int .u32 (inV s p)]) ∧ Below w.heap.size w w' := by
  unfold conV
  by_cases hs : 0 < s.size
  · have e0 : ((s.size : Int) == 0) = false := by rw [beq_eq_false_iff_ne]; omega
    go_enter Try.func11, Try.ntmps11
    go_wp2
    all_goals first | (exfalso; omega) | skip
    all_goals (try go_region)
    all_goals go_wp2
    · refine bodyPost_ret (v := .tuple #[.agg #[.string (s.extract 1 s.size)], .int .u32 (↑s[0].toNat % 4294967296)]) (by rw [results_cell_tmp rfl]; go_simp) rfl ⟨ret_con (by simp [inS, kyS, *]) (by simp [inV, kyV_pos hs, *]), by (repeat' (first | with_reducible exact Below.refl _ _ | with_reducible assumption | with_reducible apply below_drewN | with_reducible apply Below.drew | with_reducible apply Below.setCell | with_reducible apply Below.alloc | (simp; done) | (simp; omega)))⟩
    · refine bodyPost_ret (v := .tuple #[.agg #[.string s], .int .u32 (↑s.size % 4294967296)]) (by rw [results_cell_tmp rfl]; go_simp) rfl ⟨ret_con (by simp [inS, *]) (by simp_all [inV]), by (repeat' (first | with_reducible exact Below.refl _ _ | with_reducible assumption | with_reducible apply below_drewN | with_reducible apply Below.drew | with_reducible apply Below.setCell | with_reducible apply Below.alloc | (simp; done) | (simp; omega)))⟩
    · refine bodyPost_ret (v := .tuple #[.agg #[.string s], .int .u32 0]) (by rw [results_cell_tmp rfl]; go_simp) rfl ⟨ret_con (by simp [inS, *]) (by simp_all [inV]), by (repeat' (first | with_reducible exact Below.refl _ _ | with_reducible assumption | with_reducible apply below_drewN | with_reducible apply Below.drew | with_reducible apply Below.setCell | with_reducible apply Below.alloc | (simp; done) | (simp; omega)))⟩
  · have e0 : s.size = 0 := by omega
    go_enter Try.func11, Try.ntmps11
    go_wp2
    all_goals first | (exfalso; omega) | skip
    all_goals (try go_region)
    all_goals go_wp2
    · refine bodyPost_ret (v := .tuple #[.agg #[.string s], .int .u32 4294967295]) (by rw [results_cell_tmp rfl]; go_simp) rfl ⟨ret_con (by simp [inS, kyS, *]) (by simp [inV, kyV, *]), by (repeat' (first | with_reducible exact Below.refl _ _ | with_reducible assumption | with_reducible apply below_drewN | with_reducible apply Below.drew | with_reducible apply Below.setCell | with_reducible apply Below.alloc | (simp; done) | (simp; omega)))⟩
    · refine bodyPost_ret (v := .tuple #[.agg #[.string s], .int .u32 0]) (by rw [results_cell_tmp rfl]; go_simp) rfl ⟨ret_con (by simp [inS, *]) (by simp_all [inV]), by (repeat' (first | with_reducible exact Below.refl _ _ | with_reducible assumption | with_reducible apply below_drewN | with_reducible apply Below.drew | with_reducible apply Below.setCell | with_reducible apply Below.alloc | (simp; done) | (simp; omega)))⟩
    · refine bodyPost_ret (v := .tuple #[.agg #[.string s], .int .u32 0]) (by rw [results_cell_tmp rfl]; go_simp) rfl ⟨ret_con (by simp [inS, *]) (by simp_all [inV]), by (repeat' (first | with_reducible exact Below.refl _ _ | with_reducible assumption | with_reducible apply below_drewN | with_reducible apply Below.drew | with_reducible apply Below.setCell | with_reducible apply Below.alloc | (simp; done) | (simp; omega)))⟩
theorem in_any (s : ByteArray) (p : Int) (w : World) :
    Calls Try.prog 10 #[conV s, .int .i64 p] w fun e w' => e = .returned (.tuple #[conV (inS s p), .int .u32 (inV s p)]) ∧ Below w.heap.size w w' := by
  have HT := Lib.hid (takeKey_any s)
  unfold conV at HT
  unfold conV
  go_enter Try.func10, Try.ntmps10
  go_wp2_with (go_at_call 16; (with_reducible refine (HT.out _).mono ?_); rintro e w1 ⟨rfl, hb1⟩; have c0 := dvC (p := ⟨w.heap.size, 0, none⟩) (v := .string s) (by simp [go_sem]) hb1 (by simp <;> omega); have c1 := dvC (p := ⟨w.heap.size + 1, 0, none⟩) (v := .string ⟨#[]⟩) (by simp [go_sem]) hb1 (by simp <;> omega); have z0 := dvF (p := ⟨w.heap.size, 0, none⟩) (by simp [go_sem]) hb1 (by simp <;> omega); have z1 := dvF (p := ⟨w.heap.size + 1, 0, none⟩) (by simp [go_sem]) hb1 (by simp <;> omega); have bel : Below w.heap.size w w1 := Below.trans (by (repeat' (first | with_reducible exact Below.refl _ _ | with_reducible assumption | with_reducible apply below_drewN | with_reducible apply Below.drew | with_reducible apply Below.setCell | with_reducible apply Below.alloc | (simp; done) | (simp; omega)))) (hb1.mono (by simp <;> omega)); clear hb1)
  all_goals (try go_region)
  all_goals go_wp2
  · have h0 : p = 0 := by simpa using ‹(p == 0) = true›
    refine bodyPost_ret (v := .tuple #[.agg #[.string (kyS s)], .int .u32 (kyV s)]) (by rw [results_cell_tmp rfl]; go_simp) rfl ⟨ret_con (by simp [inS, h0]) (by simp [inV, h0]), by (repeat' (first | with_reducible exact Below.refl _ _ | with_reducible assumption | with_reducible apply below_drewN | with_reducible apply Below.drew | with_reducible apply Below.setCell | with_reducible apply Below.alloc | (simp; done) | (simp; omega)))⟩
  · refine bodyPost_ret (v := .tuple #[.agg #[.string s], .int .u32 (↑s.size % 4294967296)]) (by rw [results_cell_tmp rfl]; go_simp) rfl ⟨ret_con (by simp_all [inS]) (by simp_all [inV]), by (repeat' (first | with_reducible exact Below.refl _ _ | with_reducible assumption | with_reducible apply below_drewN | with_reducible apply Below.drew | with_reducible apply Below.setCell | with_reducible apply Below.alloc | (simp; done) | (simp; omega)))⟩
  · refine bodyPost_ret (v := .tuple #[.agg #[.string s], .int .u32 0]) (by rw [results_cell_tmp rfl]; go_simp) rfl ⟨ret_con (by simp_all [inS]) (by simp_all [inV]), by (repeat' (first | with_reducible exact Below.refl _ _ | with_reducible assumption | with_reducible apply below_drewN | with_reducible apply Below.drew | with_reducible apply Below.setCell | with_reducible apply Below.alloc | (simp; done) | (simp; omega)))⟩
end Go.Proofs.Ytmifhijkfofbcaa
