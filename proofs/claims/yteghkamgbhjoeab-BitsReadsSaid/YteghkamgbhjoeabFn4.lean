import Derived.Test.YteghkamgbhjoeabFn3
namespace Go.Proofs.Yteghkamgbhjoeab
set_option linter.unusedVariables false
open Go.ChangeShapes Go.WideShapes Go.ChangeAt Go.RowKit Go.Proofs.Yteghkamgbhjoeab.Num Go.Proofs.Yteghkamgbhjoeab.Mem
theorem info_u8 : (Try.prog.info? 5).map (fun i => (i.zero, i.size, i.bytes)) = some (some (.int .u8 0), 1, 1) := by kernel_rfl
theorem or128r (y : Nat) (hy : y < 18446744073709551616) : bits .or .u8 (bits .and .u64 (y : Int) 127 % 256) 128 = (((UInt8.ofNat (y % 128 + 128)).toNat : Nat) : Int) := by
  have e1 : bits .and .u64 (y : Int) 127 = ((y % 128 : Nat) : Int) := by
    rw [show (127 : Int) = ((127 : Nat) : Int) from rfl, u64_and_nat y 127 hy (by decide), nat_mask7]
  have e2 : bits .or .u8 ((y % 128 : Nat) : Int) 128 = ((y % 128 + 128 : Nat) : Int) := by
    rw [show (128 : Int) = ((128 : Nat) : Int) from rfl, u8_or_nat _ 128 (by omega) (by decide), Nat.or_comm, nat_join 7 128 _ (by decide) (by omega), Nat.add_comm]
  have e3 : ((y % 128 : Nat) : Int) % 256 = ((y % 128 : Nat) : Int) := by omega
  rw [e1, e3, e2, u8n _ (by omega)]
end Go.Proofs.Yteghkamgbhjoeab
