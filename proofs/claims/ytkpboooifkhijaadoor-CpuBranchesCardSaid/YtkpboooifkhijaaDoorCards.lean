/-
  DERIVED. GIVEN WITH THE SEED: THE CARDS: each row of YtkpboooifkhijaaDoorRows.lean that lists a variable, with what it lists TIED to the program's text (the seventh form; the later family's looks); each row that meets fmt, with fmt's text TOLD by the authors' own Lean function (tested against real Go, not proved from fmt's source: count such statements apart). THE CARD IS WHAT COUNTS. Prove the row's statement (the work); the ties are given (YtkpboooifkhijaaDoorTie.lean); close each card by the builder's one call (the guide's Derived/Test/ToyasCard.lean, 'card_holds'). Laid BY PROGRAM, IN A SANDBOX (cutbox-door.mjs). By AI agents, Wed Nov 11 2026. No macro, syntax, notation, axiom, sorry.
-/
import Derived.Test.YtkpboooifkhijaaDoorRows
import GoSem.ClaimSeven
namespace Go.Proofs.YtkpboooifkhijaaDoor
namespace Rows

/-- THE TIED CARD OF 'vmfleetlaw6.CpuInstructions'. -/
def cpuInstructionsCard : Claim7 := { stood := { row := cpuInstructionsRow, standIns := [], harness := (true, "589fedb00ba1f1ff588442abd2fd97d246fca25d45aa3d95c4ce987df9739927"), looks := false }, kinds := [], alts := [], laidByText := true, laidKinds := [.data], laidTests := true, laidLooks := .later }
def CpuInstructionsCardSaid : Prop := Claim7.holds Tryd.pinned (.plain (OpenSpec.ofChange cpuInstructionsSpec)) cpuInstructionsCard

/-- THE TIED CARD OF 'vmfleetlaw6.CpuUser'. -/
def cpuUserCard : Claim7 := { stood := { row := cpuUserRow, standIns := [], harness := (true, "589fedb00ba1f1ff588442abd2fd97d246fca25d45aa3d95c4ce987df9739927"), looks := false }, kinds := [], alts := [], laidByText := true, laidKinds := [.data], laidTests := true, laidLooks := .later }
def CpuUserCardSaid : Prop := Claim7.holds Tryd.pinned (.plain (OpenSpec.ofChange cpuUserSpec)) cpuUserCard

/-- THE TIED CARD OF 'vmfleetlaw6.CpuBranches'. -/
def cpuBranchesCard : Claim7 := { stood := { row := cpuBranchesRow, standIns := [], harness := (true, "589fedb00ba1f1ff588442abd2fd97d246fca25d45aa3d95c4ce987df9739927"), looks := false }, kinds := [], alts := [], laidByText := true, laidKinds := [.data], laidTests := true, laidLooks := .later }
def CpuBranchesCardSaid : Prop := Claim7.holds Tryd.pinned (.plain (OpenSpec.ofChange cpuBranchesSpec)) cpuBranchesCard

/-- THE TIED CARD OF 'vmfleetlaw6.CpuTransfers'. -/
def cpuTransfersCard : Claim7 := { stood := { row := cpuTransfersRow, standIns := [], harness := (true, "589fedb00ba1f1ff588442abd2fd97d246fca25d45aa3d95c4ce987df9739927"), looks := false }, kinds := [], alts := [], laidByText := true, laidKinds := [.data], laidTests := true, laidLooks := .later }
def CpuTransfersCardSaid : Prop := Claim7.holds Tryd.pinned (.plain (OpenSpec.ofChange cpuTransfersSpec)) cpuTransfersCard

/-- THE TIED CARD OF 'vmfleetlaw6.CpuPrivilege'. -/
def cpuPrivilegeCard : Claim7 := { stood := { row := cpuPrivilegeRow, standIns := [], harness := (true, "589fedb00ba1f1ff588442abd2fd97d246fca25d45aa3d95c4ce987df9739927"), looks := false }, kinds := [], alts := [], laidByText := true, laidKinds := [.data], laidTests := true, laidLooks := .later }
def CpuPrivilegeCardSaid : Prop := Claim7.holds Tryd.pinned (.plain (OpenSpec.ofChange cpuPrivilegeSpec)) cpuPrivilegeCard

/-- THE TIED CARD OF 'vmfleetlaw6.CpuLinks'. -/
def cpuLinksCard : Claim7 := { stood := { row := cpuLinksRow, standIns := [], harness := (true, "589fedb00ba1f1ff588442abd2fd97d246fca25d45aa3d95c4ce987df9739927"), looks := false }, kinds := [], alts := [], laidByText := true, laidKinds := [.data], laidTests := true, laidLooks := .later }
def CpuLinksCardSaid : Prop := Claim7.holds Tryd.pinned (.plain (OpenSpec.ofChange cpuLinksSpec)) cpuLinksCard

/-- THE SECOND FORM's CARD OF 'vmfleetlaw6.CpuInstructions'. -/
def cpuInstructionsUptoCard : Claim7 := { stood := { row := cpuInstructionsUptoRow, standIns := [], harness := (true, "589fedb00ba1f1ff588442abd2fd97d246fca25d45aa3d95c4ce987df9739927"), looks := false }, kinds := [], alts := [], laidByText := true, laidKinds := [.data], laidTests := true, laidLooks := .later }
def CpuInstructionsUptoCardSaid : Prop := Claim7.holds Tryd.pinned (.plain (OpenSpec.upto cpuInstructionsSpec)) cpuInstructionsUptoCard

/-- THE SECOND FORM's CARD OF 'vmfleetlaw6.CpuUser'. -/
def cpuUserUptoCard : Claim7 := { stood := { row := cpuUserUptoRow, standIns := [], harness := (true, "589fedb00ba1f1ff588442abd2fd97d246fca25d45aa3d95c4ce987df9739927"), looks := false }, kinds := [], alts := [], laidByText := true, laidKinds := [.data], laidTests := true, laidLooks := .later }
def CpuUserUptoCardSaid : Prop := Claim7.holds Tryd.pinned (.plain (OpenSpec.upto cpuUserSpec)) cpuUserUptoCard

/-- THE SECOND FORM's CARD OF 'vmfleetlaw6.CpuBranches'. -/
def cpuBranchesUptoCard : Claim7 := { stood := { row := cpuBranchesUptoRow, standIns := [], harness := (true, "589fedb00ba1f1ff588442abd2fd97d246fca25d45aa3d95c4ce987df9739927"), looks := false }, kinds := [], alts := [], laidByText := true, laidKinds := [.data], laidTests := true, laidLooks := .later }
def CpuBranchesUptoCardSaid : Prop := Claim7.holds Tryd.pinned (.plain (OpenSpec.upto cpuBranchesSpec)) cpuBranchesUptoCard

/-- THE SECOND FORM's CARD OF 'vmfleetlaw6.CpuTransfers'. -/
def cpuTransfersUptoCard : Claim7 := { stood := { row := cpuTransfersUptoRow, standIns := [], harness := (true, "589fedb00ba1f1ff588442abd2fd97d246fca25d45aa3d95c4ce987df9739927"), looks := false }, kinds := [], alts := [], laidByText := true, laidKinds := [.data], laidTests := true, laidLooks := .later }
def CpuTransfersUptoCardSaid : Prop := Claim7.holds Tryd.pinned (.plain (OpenSpec.upto cpuTransfersSpec)) cpuTransfersUptoCard

/-- THE SECOND FORM's CARD OF 'vmfleetlaw6.CpuPrivilege'. -/
def cpuPrivilegeUptoCard : Claim7 := { stood := { row := cpuPrivilegeUptoRow, standIns := [], harness := (true, "589fedb00ba1f1ff588442abd2fd97d246fca25d45aa3d95c4ce987df9739927"), looks := false }, kinds := [], alts := [], laidByText := true, laidKinds := [.data], laidTests := true, laidLooks := .later }
def CpuPrivilegeUptoCardSaid : Prop := Claim7.holds Tryd.pinned (.plain (OpenSpec.upto cpuPrivilegeSpec)) cpuPrivilegeUptoCard

/-- THE SECOND FORM's CARD OF 'vmfleetlaw6.CpuLinks'. -/
def cpuLinksUptoCard : Claim7 := { stood := { row := cpuLinksUptoRow, standIns := [], harness := (true, "589fedb00ba1f1ff588442abd2fd97d246fca25d45aa3d95c4ce987df9739927"), looks := false }, kinds := [], alts := [], laidByText := true, laidKinds := [.data], laidTests := true, laidLooks := .later }
def CpuLinksUptoCardSaid : Prop := Claim7.holds Tryd.pinned (.plain (OpenSpec.upto cpuLinksSpec)) cpuLinksUptoCard
end Rows
end Go.Proofs.YtkpboooifkhijaaDoor
