import Derived.Test.YtfnfbdjbdbifaaaDoorCpGe
import Derived.Test.YtfnfbdjbdbifaaaDoorCpAluR
namespace Go.Proofs.YtfnfbdjbdbifaaaDoor
set_option linter.unusedVariables false
set_option linter.unusedSimpArgs false
open Go.ChangeShapes Go.WideShapes Go.ChangeAt Go.RowKit Go.Proofs.YtfnfbdjbdbifaaaDoor.Num Go.Proofs.YtfnfbdjbdbifaaaDoor.Mem Go.Proofs.YtfnfbdjbdbifaaaDoor.Isa
theorem alu_any (op a b : Int) (w : World) (a0 : 0 ≤ a) (a1 : a ≤ 4294967295) (b0 : 0 ≤ b) (b1 : b ≤ 4294967295) :
    Calls Tryd.prog 32 #[.int .i64 op, .int .u32 a, .int .u32 b] w (AluPost op a b w) := by
  rcases alu_cases op with ho | ho
  · by_cases h1 : op = 1 ∨ op = 3 ∨ op = 4 ∨ op = 5 ∨ op = 9 ∨ op = 16 ∨ op = 17 ∨ op = 18 ∨ op = 19
    · exact alu_g1 op a b w a0 a1 b0 b1 h1
    by_cases h2 : op = 6 ∨ op = 7 ∨ op = 8 ∨ op = 20 ∨ op = 21 ∨ op = 22
    · exact alu_g2 op a b w a0 a1 b0 b1 h2
    by_cases h3 : op = 10 ∨ op = 11
    · exact alu_g3 op a b w a0 a1 b0 b1 h3
    by_cases h4 : op = 12 ∨ op = 13 ∨ op = 23
    · exact alu_g4 op a b w a0 a1 b0 b1 h4
    exact alu_g5 op a b w a0 a1 b0 b1 (by omega)
  · exact alu_no op a b w ho
end Go.Proofs.YtfnfbdjbdbifaaaDoor
