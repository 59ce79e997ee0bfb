import Derived.Test.YthghbcjaokpilaaDoorIsaFn5
namespace Go.Proofs.YthghbcjaokpilaaDoor
set_option linter.unusedVariables false
set_option linter.unusedSimpArgs false
open Go.Lib Go.ChangeShapes Go.WideShapes Go.ChangeAt Go.RowKit Go.Proofs.YthghbcjaokpilaaDoor.Num Go.Proofs.YthghbcjaokpilaaDoor.Isa Go.Proofs.YthghbcjaokpilaaDoor.Mem
/-- An instruction as a text. -/
def fmtS (op a b c m : Int) : ByteArray :=
  if ¬ Ok op a b c m then { data := #[] }
  else if lay op = 1 then mnS op.toNat ++ { data := #[32] } ++ regS a ++ { data := #[44, 32] } ++ regS b ++ { data := #[44, 32] } ++ regS c
  else if lay op = 2 then mnS op.toNat ++ { data := #[32] } ++ regS a ++ { data := #[44, 32] } ++ regS b ++ { data := #[44, 32] } ++ itoaS m
  else if lay op = 3 then mnS op.toNat ++ { data := #[32] } ++ regS a ++ { data := #[44, 32] } ++ itoaS m ++ { data := #[40] } ++ regS b ++ { data := #[41] }
  else if lay op = 4 then mnS op.toNat ++ { data := #[32] } ++ regS a ++ { data := #[44, 32] } ++ itoaS m
  else mnS op.toNat
theorem ret_str {a b : ByteArray} (h : a = b) : Ending.returned (.string a) = .returned (.string b) := by rw [h]
end Go.Proofs.YthghbcjaokpilaaDoor
