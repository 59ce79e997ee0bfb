import Derived.Test.YtfnfbdjbdbifaaaDoorCpGa
import Derived.Test.YtfnfbdjbdbifaaaDoorCpEx2
import Derived.Test.YtfnfbdjbdbifaaaDoorPmRow
namespace Go.Proofs.YtfnfbdjbdbifaaaDoor
set_option linter.unusedVariables false
set_option linter.unusedSimpArgs false
set_option maxRecDepth 20000
open Go.ChangeShapes Go.WideShapes Go.ChangeAt Go.RowKit Go.Proofs.YtfnfbdjbdbifaaaDoor.Num Go.Proofs.YtfnfbdjbdbifaaaDoor.Mem Go.Proofs.YtfnfbdjbdbifaaaDoor.Isa
theorem halt_ok : Ok 64 0 0 0 0 := by decide
theorem row_intsC {w : World} {a : Option Addr} {len cap : Nat} {zs : List Int} (h : IsRow .i64 w a len cap zs) : Ints w a len (fun i => zs.getD i 0) ∧ len ≤ 9223372036854775807 := by
  refine ⟨row_ints h, ?_⟩
  rcases h with ⟨rfl, rfl, rfl, rfl⟩ | ⟨x, rfl, hl, hm, hz, hc, hw⟩
  · omega
  · unfold maxLen at hm; omega
abbrev IsRowI (w : World) (a : Option Addr) (len cap : Nat) (zs : List Int) : Prop := IsRow .i64 w a len cap zs
end Go.Proofs.YtfnfbdjbdbifaaaDoor
