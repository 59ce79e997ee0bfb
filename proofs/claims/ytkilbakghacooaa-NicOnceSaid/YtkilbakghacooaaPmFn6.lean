import Derived.Test.YtkilbakghacooaaPmFn5
import Derived.Test.YtkilbakghacooaaMem
namespace Go.Proofs.Ytkilbakghacooaa
set_option linter.unusedVariables false
set_option linter.unusedSimpArgs false
set_option maxRecDepth 20000
open Go.ChangeShapes Go.WideShapes Go.ChangeAt Go.RowKit Go.Proofs.Ytkilbakghacooaa.Num Go.Proofs.Ytkilbakghacooaa.Mem
theorem info_u8 : (Try.prog.info? 5).map (fun i => (i.zero, i.size, i.bytes)) = some (some (.int .u8 0), 1, 1) := by kernel_rfl
theorem mk_bytes (N : Int) (n : Nat) (hN : N = (n : Int)) (hn : n ≤ 4096) (w : World) : (Instr.makeSlice 59 (.int .i64 0) (.int .i64 N)).run Try.prog w = .ok (.slice (some ⟨w.heap.size, 0, none⟩) 0 n) (w.alloc (.cells (Array.replicate n (.int .u8 0)) 5)) := by
  obtain ⟨i0, hi0, hz0, hz1, hz2⟩ := info_parts info_u8
  subst hN
  have h := run_make (P := Try.prog) w 59 5 i0 (.int .u8 0) Try.underlying59 hi0 hz0 .i64 .i64 0 n (by omega) (by omega) (by rw [hz2]; omega) (by omega)
  rw [h, hz1]
  simp only [Int.toNat_natCast, Nat.mul_one, Int.toNat_zero]
  congr 3
  have e : (Value.int IntKind.u8 0).cells = #[Value.int .u8 0] := rfl
  rw [e]
  apply Array.toList_inj.1
  rw [toList_madeCells_one]
  simp
theorem new_cells (w : World) (xs : List Value) (T : TypeId) : ∀ j u, xs[j]? = some u → (w.alloc (.cells xs.toArray T)).cell? ((⟨w.heap.size, 0, none⟩ : Addr).add j) = some u := by
  intro j u h
  rw [add_plain, World.cell?_alloc_at _ _ _ _ rfl]
  simpa using h
theorem low_val (x : Int) (i : Nat) (h0 : 0 ≤ x) : (((low x i).toNat : Nat) : Int) = x / 256 ^ i % 256 := by
  obtain ⟨X, rfl⟩ : ∃ X : Nat, x = X := ⟨x.toNat, by omega⟩
  unfold low
  have hp : (256 : Int) ^ i = ((256 ^ i : Nat) : Int) := by simp
  rw [hp, ← Int.natCast_ediv]
  simp
theorem bytes_snoc (l : List Int) (k : Nat) (hk : k < l.length) : bytesL (l.take (k + 1)) = bytesL (l.take k) ++ lowL (wd l k) := by
  unfold bytesL
  rw [List.take_succ_eq_append_getElem hk, List.flatMap_append]
  have : wd l k = l[k] := by simp [wd, List.getD, hk]
  simp [this]
theorem u8s_low (s : List UInt8) (x v0 v1 v2 v3 : Int) (h0 : v0 = x / 256 ^ 0 % 256) (h1 : v1 = x / 256 ^ 1 % 256) (h2 : v2 = x / 256 ^ 2 % 256) (h3 : v3 = x / 256 ^ 3 % 256) (hx : 0 ≤ x) :
    u8s s ++ [Value.int .u8 v0, .int .u8 v1, .int .u8 v2, .int .u8 v3] = u8s (s ++ lowL x) := by
  subst h0 h1 h2 h3
  simp only [u8s, lowL, List.map_append, List.map_cons, List.map_nil, low_val _ _ hx]
set_option maxRecDepth 100000 in
set_option maxHeartbeats 1000000 in
theorem text_any (A : Option Addr) (n c : Nat) (l : List Int) (w : World) (hm : Mem w A n c l) (hn0 : 0 < n) :
    Calls Try.prog 47 #[.slice A n c] w fun e w' => e = .returned (.string (S8 (bytesL l))) ∧ Below w.heap.size w w' := by
  obtain ⟨i0, hi, hz0, hz1, hz2⟩ := info_parts info_u8
  have hn := hm.2.2.1
  have hmk := mk_bytes ((n : Int) * 4) (4 * n) (by omega) (by omega)
  have HM := Lib.hid hm
  clear hm
  go_enter Try.func47, Try.ntmps47
  go_wp2
  go_loopw [3, 12] (fun b i wr => ∃ k : Nat, k ≤ n ∧ i = .int .i64 k ∧ wr.ownsRow w.heap.size 5 1 b (4 * k) (u8s (bytesL (l.take k))) ∧ Below w.heap.size w wr) (fun _ i _ => n - (intOf i).toNat)
  case atStart => exact ⟨0, Nat.zero_le _, rfl, World.ownsRow_made w _ (4 * n) (Nat.le_refl _) (by unfold maxLen; omega) (by simp), (Below.refl _ _).alloc (Nat.le_refl _) _⟩
  case round =>
    obtain ⟨k, hk, rfl, hown, hbel⟩ := hrel
    have hws : w.heap.size ≤ wr.heap.size := hbel.size
    by_cases hlt : k < n
    · obtain ⟨bb, off, rfl, hc1, x0, x1⟩ := (HM.out.on hbel).at_ hlt
      have HB := Lib.hid (bytes_snoc l k (by rw [HM.out.1]; exact hlt))
      generalize wd l k = x at hc1 x0 x1 HB
      go_wp2_with (at_builtin; refine wpList_append_own _ rfl _ _ 59 rfl (w.heap.size) 5 i0 (.int .u8 0) 1 1 Try.underlying59 hi hz0 hz1 hz2 rfl (by decide) _ _ _ rfl (hown.alloc _) ⟨wr.heap.size, 0, none⟩ 4 4 [.int .u8 (x % 256), .int .u8 (x / 256 % 256), .int .u8 (x / 65536 % 256), .int .u8 (x / 16777216)] rfl rfl (new_cells _ _ _) (by intro u hu; simp at hu; rcases hu with rfl | rfl | rfl | rfl <;> rfl) (by unfold maxLen; omega) (by omega) (by simp; omega) ?_)
      intro v' w1 hown1 hgrow _
      rw [u8s_low _ x _ _ _ _ (by omega) (by omega) (by omega) (by omega) x0, ← HB.out] at hown1
      go_wp2
      go_roundw
      case rel => exact ⟨k + 1, by omega, by go_num, by rw [Nat.mul_add]; exact hown1, (hbel.alloc hws _).grown hgrow (by simp; omega) (fun k hk => (hown.lt k hk).1)⟩
      case measure => simp [intOf]; omega
    · obtain rfl : n = k := by omega
      have hl : l.length = n := HM.out.1
      rw [List.take_of_length_le (by omega)] at hown
      have hc := own_convert (P := Try.prog) Try.underlying59 Try.underlying5 Try.underlying9 _ _ hown (by rw [bytesL_len, hl]) (by intro h; have := congrArg List.length h; rw [bytesL_len] at this; simp at this; omega)
      clear hown hl
      go_wp2
      go_ret
      exact ⟨rfl, hbel⟩
end Go.Proofs.Ytkilbakghacooaa
