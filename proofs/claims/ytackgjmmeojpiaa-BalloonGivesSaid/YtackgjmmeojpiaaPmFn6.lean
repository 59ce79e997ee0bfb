import Derived.Test.YtackgjmmeojpiaaPmFn5
import Derived.Test.YtackgjmmeojpiaaMem
namespace Go.Proofs.Ytackgjmmeojpiaa
set_option linter.unusedVariables false
set_option linter.unusedSimpArgs false
set_option maxRecDepth 20000
open Go.ChangeShapes Go.WideShapes Go.ChangeAt Go.RowKit Go.Proofs.Ytackgjmmeojpiaa.Num Go.Proofs.Ytackgjmmeojpiaa.Mem
theorem info_u8 : (Try.prog.info? 5).map (fun i => (i.zero, i.size, i.bytes)) = some (some (.int .u8 0), 1, 1) := by kernel_rfl
theorem mk_bytes (N : Int) (n : Nat) (hN : N = (n : Int)) (hn : n ≤ 4096) (w : World) : (Instr.makeSlice 44 (.int .i64 0) (.int .i64 N)).run Try.prog w = .ok (.slice (some ⟨w.heap.size, 0, none⟩) 0 n) (w.alloc (.cells (Array.replicate n (.int .u8 0)) 5)) := by
  obtain ⟨i0, hi0, hz0, hz1, hz2⟩ := info_parts info_u8
  subst hN
  have h := run_make (P := Try.prog) w 44 5 i0 (.int .u8 0) Try.underlying44 hi0 hz0 .i64 .i64 0 n (by omega) (by omega) (by rw [hz2]; omega) (by omega)
  rw [h, hz1]
  simp only [Int.toNat_natCast, Nat.mul_one, Int.toNat_zero]
  congr 3
  have e : (Value.int IntKind.u8 0).cells = #[Value.int .u8 0] := rfl
  rw [e]
  apply Array.toList_inj.1
  rw [toList_madeCells_one]
  simp
theorem new_cells (w : World) (xs : List Value) (T : TypeId) : ∀ j u, xs[j]? = some u → (w.alloc (.cells xs.toArray T)).cell? ((⟨w.heap.size, 0, none⟩ : Addr).add j) = some u := by
  intro j u h
  rw [add_plain, World.cell?_alloc_at _ _ _ _ rfl]
  simpa using h
theorem low_val (x : Int) (i : Nat) (h0 : 0 ≤ x) : (((low x i).toNat : Nat) : Int) = x / 256 ^ i % 256 := by
  obtain ⟨X, rfl⟩ : ∃ X : Nat, x = X := ⟨x.toNat, by omega⟩
  unfold low
  have hp : (256 : Int) ^ i = ((256 ^ i : Nat) : Int) := by simp
  rw [hp, ← Int.natCast_ediv]
  simp
theorem bytes_snoc (l : List Int) (k : Nat) (hk : k < l.length) : bytesL (l.take (k + 1)) = bytesL (l.take k) ++ lowL (wd l k) := by
  unfold bytesL
  rw [List.take_succ_eq_append_getElem hk, List.flatMap_append]
  have : wd l k = l[k] := by simp [wd, List.getD, hk]
  simp [this]
theorem u8s_low (s : List UInt8) (x v0 v1 v2 v3 : Int) (h0 : v0 = x / 256 ^ 0 % 256) (h1 : v1 = x / 256 ^ 1 % 256) (h2 : v2 = x / 256 ^ 2 % 256) (h3 : v3 = x / 256 ^ 3 % 256) (hx : 0 ≤ x) :
    u8s s ++ [Value.int .u8 v0, .int .u8 v1, .int .u8 v2, .int .u8 v3] = u8s (s ++ lowL x) := by
  subst h0 h1 h2 h3
  simp only [u8s, lowL, List.map_append, List.map_cons, List.map_nil, low_val _ _ hx]
end Go.Proofs.Ytackgjmmeojpiaa
