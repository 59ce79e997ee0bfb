import Derived.Test.YtkilbakghacooaaPmFn6
namespace Go.Proofs.Ytkilbakghacooaa
set_option linter.unusedVariables false
set_option linter.unusedSimpArgs false
open Go.ChangeShapes Go.WideShapes Go.ChangeAt Go.RowKit Go.Proofs.Ytkilbakghacooaa.Num Go.Proofs.Ytkilbakghacooaa.Mem
/- The made data and events. -/
def datL (n : Int) (k : Nat) : List UInt8 := (List.range k).map fun i => UInt8.ofNat (mixK n ((i / 9 : Nat) : Int) % 256).toNat
def datS (n : Int) (k : Nat) : ByteArray := ⟨(datL n k).toArray⟩
theorem datL_len (n : Int) (k : Nat) : (datL n k).length = k := by simp [datL]
theorem datS_size (n : Int) (k : Nat) : (datS n k).size = k := by show (datL n k).toArray.size = k; simp [datL_len]
theorem datL_succ (n : Int) (k : Nat) : datL n (k + 1) = datL n k ++ [UInt8.ofNat (mixK n ((k / 9 : Nat) : Int) % 256).toNat] := by
  unfold datL; rw [List.range_succ, List.map_append]; rfl
theorem conv_nil (w : World) : (convert 59 9 (.slice none 0 0)).run Try.prog w = .ok (.string ⟨#[]⟩) w := by kernel_rfl
theorem u8s_one (s : List UInt8) (x : Int) : u8s s ++ [Value.int .u8 (x % 256)] = u8s (s ++ [UInt8.ofNat (x % 256).toNat]) := by
  have e : (((UInt8.ofNat (x % 256).toNat).toNat : Nat) : Int) = x % 256 := by
    rw [UInt8.toNat_ofNat']; omega
  simp only [u8s, List.map_append, List.map_cons, List.map_nil, e]
set_option maxRecDepth 100000 in
set_option maxHeartbeats 1000000 in
theorem dat_any (n : Int) (k : Nat) (w : World) (h0 : -9223372036854775808 ≤ n) (h1 : n ≤ 9223372036854775807) (hk : k ≤ 1000) :
    Calls Try.prog 17 #[.int .i64 n, .int .i64 k] w fun e w' => e = .returned (.string (datS n k)) ∧ Below w.heap.size w w' := by
  obtain ⟨i0, hi, hz0, hz1, hz2⟩ := info_parts info_u8
  have HMX := Lib.hid (fun j W (hj : j ≤ 1000) => mix_any n ((j : Nat) : Int) W h0 h1 (by omega) (by omega))
  go_enter Try.func17, Try.ntmps17
  go_wp2
  go_loopw [5, 6] (fun b i wr => ∃ j : Nat, j ≤ k ∧ i = .int .i64 j ∧ (j = 0 → b = .slice none 0 0) ∧ wr.ownsRow w.heap.size 5 1 b j (u8s (datL n j)) ∧ Below w.heap.size w wr) (fun _ i _ => k - (intOf i).toNat)
  case atStart => exact ⟨0, Nat.zero_le _, rfl, fun _ => rfl, World.ownsRow_nil _ _ _ _, Below.refl _ _⟩
  case round =>
    obtain ⟨j, hj, rfl, hb0, hown, hbel⟩ := hrel
    have hws : w.heap.size ≤ wr.heap.size := hbel.size
    by_cases hlt : j < k
    · have hlt' : (j : Int) < k := by omega
      have e9' : (j : Int) / 9 = ((j / 9 : Nat) : Int) := by omega
      have hmb := mixK_bd n ((j / 9 : Nat) : Int)
      have HB := Lib.hid (datL_succ n j)
      have HM := Lib.hid (fun W => HMX.out (j / 9) W (by omega))
      generalize mixK n ((j / 9 : Nat) : Int) = x at *
      generalize j / 9 = q at *
      clear hb0
      go_wp2_with (first
        | (go_at_call 18; (with_reducible refine (HM.out _).mono ?_); rintro e w1 ⟨rfl, rfl⟩)
        | (at_builtin; refine wpList_append_own _ rfl _ _ 59 rfl (w.heap.size) 5 i0 (.int .u8 0) 1 1 Try.underlying59 hi hz0 hz1 hz2 rfl (by decide) _ _ _ rfl (hown.alloc _) ⟨wr.heap.size, 0, none⟩ 1 1 [.int .u8 (x % 256)] rfl rfl (new_cells _ _ _) (by intro u hu; simp at hu; subst hu; rfl) (by unfold maxLen; omega) (by omega) (by simp; omega) ?_))
      intro v' w1 hown1 hgrow _
      rw [u8s_one _ x, ← HB.out] at hown1
      go_wp2
      go_roundw
      case rel => exact ⟨j + 1, by omega, by go_num, fun h => absurd h (by omega), hown1, (hbel.alloc hws _).grown hgrow (by simp; omega) (fun k hk => (hown.lt k hk).1)⟩
      case measure => simp [intOf]; omega
    · obtain rfl : j = k := by omega
      by_cases hk0 : j = 0
      · subst hk0
        obtain rfl := hb0 rfl
        clear hown
        have hc : (convert 59 9 (.slice none 0 0)).run Try.prog wr = .ok (.string ⟨#[]⟩) wr := conv_nil wr
        go_wp2
        go_ret
        exact ⟨rfl, hbel⟩
      · have hc := own_convert (P := Try.prog) Try.underlying59 Try.underlying5 Try.underlying9 _ _ hown (datL_len n j).symm (by intro h; have := congrArg List.length h; rw [datL_len] at this; simp at this; omega)
        clear hown hb0
        go_wp2
        go_ret
        exact ⟨rfl, hbel⟩
def evV (K N : Int) (D : ByteArray) : Value := .agg #[.int .i64 K, .int .u32 N, .string D]
theorem results_oneE {fn : Func} {p : Tmp} {ty : TypeId} (h : fn.results = #[.cell p ty]) (tmps : Array Value) (P : Program) (w : World) :
    (results fn tmps).run P w = ((asAddr (tmps.getD p undef)).run P w).andThen fun a w₁ => (loadVar ty a).run P w₁ := by
  simp only [results, h]
  simp [Sem.run_bind, Result.andThen]
end Go.Proofs.Ytkilbakghacooaa
