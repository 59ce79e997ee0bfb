import Derived.Test.YtackgjmmeojpiaaPmFn6
namespace Go.Proofs.Ytackgjmmeojpiaa
set_option linter.unusedVariables false
set_option linter.unusedSimpArgs false
open Go.ChangeShapes Go.WideShapes Go.ChangeAt Go.RowKit Go.Proofs.Ytackgjmmeojpiaa.Num Go.Proofs.Ytackgjmmeojpiaa.Mem
/- The made data and events. -/
def datL (n : Int) (k : Nat) : List UInt8 := (List.range k).map fun i => UInt8.ofNat (mixK n ((i / 9 : Nat) : Int) % 256).toNat
def datS (n : Int) (k : Nat) : ByteArray := ⟨(datL n k).toArray⟩
theorem datL_len (n : Int) (k : Nat) : (datL n k).length = k := by simp [datL]
theorem datS_size (n : Int) (k : Nat) : (datS n k).size = k := by show (datL n k).toArray.size = k; simp [datL_len]
theorem datL_succ (n : Int) (k : Nat) : datL n (k + 1) = datL n k ++ [UInt8.ofNat (mixK n ((k / 9 : Nat) : Int) % 256).toNat] := by
  unfold datL; rw [List.range_succ, List.map_append]; rfl
theorem conv_nil (w : World) : (convert 44 9 (.slice none 0 0)).run Try.prog w = .ok (.string ⟨#[]⟩) w := by kernel_rfl
theorem u8s_one (s : List UInt8) (x : Int) : u8s s ++ [Value.int .u8 (x % 256)] = u8s (s ++ [UInt8.ofNat (x % 256).toNat]) := by
  have e : (((UInt8.ofNat (x % 256).toNat).toNat : Nat) : Int) = x % 256 := by
    rw [UInt8.toNat_ofNat']; omega
  simp only [u8s, List.map_append, List.map_cons, List.map_nil, e]
def evV (K N : Int) (D : ByteArray) : Value := .agg #[.int .i64 K, .int .u32 N, .string D]
theorem results_oneE {fn : Func} {p : Tmp} {ty : TypeId} (h : fn.results = #[.cell p ty]) (tmps : Array Value) (P : Program) (w : World) :
    (results fn tmps).run P w = ((asAddr (tmps.getD p undef)).run P w).andThen fun a w₁ => (loadVar ty a).run P w₁ := by
  simp only [results, h]
  simp [Sem.run_bind, Result.andThen]
end Go.Proofs.Ytackgjmmeojpiaa
