import Derived.Test.YthghbcjaokpilaaDoorFn2
import Derived.Test.YthghbcjaokpilaaDoorMem
namespace Go.Proofs.YthghbcjaokpilaaDoor
set_option linter.unusedVariables false
set_option linter.unusedSimpArgs false
open Go.ChangeShapes Go.WideShapes Go.ChangeAt Go.RowKit Go.Proofs.YthghbcjaokpilaaDoor.Num Go.Proofs.YthghbcjaokpilaaDoor.Mem
section
variable {P : Program} {K : Act → World → Prop} {Q : Exit → Act → World → Prop} {n m : Nat} {a : Act} {w : World}
theorem then_exit (h : Q (.exit n) a w) : Exit.then K Q (.exit n) a w := h
theorem then_ret (h : Q .ret a w) : Exit.then K Q .ret a w := h
theorem then_normal (h : K a w) : Exit.then K Q .normal a w := h
theorem blk_hit (h : Q .normal a w) : Exit.inBlock n Q (.exit n) a w := by
  show (if n = n then Q .normal a w else Q (.exit n) a w)
  rw [if_pos rfl]; exact h
theorem blk_pass (hne : ¬ m = n) (h : Q (.exit m) a w) : Exit.inBlock n Q (.exit m) a w := by
  show (if m = n then Q .normal a w else Q (.exit m) a w)
  rw [if_neg hne]; exact h
theorem blk_ret (h : Q .ret a w) : Exit.inBlock n Q .ret a w := h
theorem blk_normal (h : Q .normal a w) : Exit.inBlock n Q .normal a w := h
end
end Go.Proofs.YthghbcjaokpilaaDoor
