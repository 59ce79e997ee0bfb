/-
  DERIVED. GIVEN WITH THE SEED: THE CARDS: each row of YtfnfbdjbdbifaaaDoorRows.lean that lists a variable, with what it lists TIED to the program's text (the seventh form; the later family's looks); each row that meets fmt, with fmt's text TOLD by the authors' own Lean function (tested against real Go, not proved from fmt's source: count such statements apart). THE CARD IS WHAT COUNTS. Prove the row's statement (the work); the ties are given (YtfnfbdjbdbifaaaDoorTie.lean); close each card by the builder's one call (the guide's Derived/Test/ToyasCard.lean, 'card_holds'). Laid BY PROGRAM, IN A SANDBOX (cutbox-door.mjs). By AI agents, Wed Nov 11 2026. No macro, syntax, notation, axiom, sorry.
-/
import Derived.Test.YtfnfbdjbdbifaaaDoorRows
import GoSem.ClaimSeven
namespace Go.Proofs.YtfnfbdjbdbifaaaDoor
namespace Rows

/-- THE TIED CARD OF 'vmfleetlaw6.CpuInstructions'. -/
def cpuInstructionsCard : Claim7 := { stood := { row := cpuInstructionsRow, standIns := [], harness := (true, "0ae0c41a5f411817781cd912164f6c2d3c7668011d84a349d8dcd1c54b276669"), looks := false }, kinds := [], alts := [], laidByText := true, laidKinds := [.data], laidTests := true, laidLooks := .later }
def CpuInstructionsCardSaid : Prop := Claim7.holds Tryd.pinned (.plain (OpenSpec.ofChange cpuInstructionsSpec)) cpuInstructionsCard

/-- THE TIED CARD OF 'vmfleetlaw6.CpuUser'. -/
def cpuUserCard : Claim7 := { stood := { row := cpuUserRow, standIns := [], harness := (true, "0ae0c41a5f411817781cd912164f6c2d3c7668011d84a349d8dcd1c54b276669"), looks := false }, kinds := [], alts := [], laidByText := true, laidKinds := [.data], laidTests := true, laidLooks := .later }
def CpuUserCardSaid : Prop := Claim7.holds Tryd.pinned (.plain (OpenSpec.ofChange cpuUserSpec)) cpuUserCard

/-- THE SECOND FORM's CARD OF 'vmfleetlaw6.CpuInstructions'. -/
def cpuInstructionsUptoCard : Claim7 := { stood := { row := cpuInstructionsUptoRow, standIns := [], harness := (true, "0ae0c41a5f411817781cd912164f6c2d3c7668011d84a349d8dcd1c54b276669"), looks := false }, kinds := [], alts := [], laidByText := true, laidKinds := [.data], laidTests := true, laidLooks := .later }
def CpuInstructionsUptoCardSaid : Prop := Claim7.holds Tryd.pinned (.plain (OpenSpec.upto cpuInstructionsSpec)) cpuInstructionsUptoCard

/-- THE SECOND FORM's CARD OF 'vmfleetlaw6.CpuUser'. -/
def cpuUserUptoCard : Claim7 := { stood := { row := cpuUserUptoRow, standIns := [], harness := (true, "0ae0c41a5f411817781cd912164f6c2d3c7668011d84a349d8dcd1c54b276669"), looks := false }, kinds := [], alts := [], laidByText := true, laidKinds := [.data], laidTests := true, laidLooks := .later }
def CpuUserUptoCardSaid : Prop := Claim7.holds Tryd.pinned (.plain (OpenSpec.upto cpuUserSpec)) cpuUserUptoCard
end Rows
end Go.Proofs.YtfnfbdjbdbifaaaDoor
