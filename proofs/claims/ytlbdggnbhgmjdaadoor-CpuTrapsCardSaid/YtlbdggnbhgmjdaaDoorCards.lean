/-
  DERIVED. GIVEN WITH THE SEED: THE CARDS: each row of YtlbdggnbhgmjdaaDoorRows.lean that lists a variable, with what it lists TIED to the program's text (the seventh form; the later family's looks); each row that meets fmt, with fmt's text TOLD by the authors' own Lean function (tested against real Go, not proved from fmt's source: count such statements apart). THE CARD IS WHAT COUNTS. Prove the row's statement (the work); the ties are given (YtlbdggnbhgmjdaaDoorTie.lean); close each card by the builder's one call (the guide's Derived/Test/ToyasCard.lean, 'card_holds'). Laid BY PROGRAM, IN A SANDBOX (cutbox-door.mjs). By AI agents, Wed Nov 11 2026. No macro, syntax, notation, axiom, sorry.
-/
import Derived.Test.YtlbdggnbhgmjdaaDoorRows
import GoSem.ClaimSeven
namespace Go.Proofs.YtlbdggnbhgmjdaaDoor
namespace Rows

/-- THE TIED CARD OF 'vmfleetlaw6.CpuComputes'. -/
def cpuComputesCard : Claim7 := { stood := { row := cpuComputesRow, standIns := [], harness := (true, "a0fcf346d36e70f660551f77d4f33a46d5fa013b02394020fef22e7519cf29a3"), looks := false }, kinds := [], alts := [], laidByText := true, laidKinds := [.data], laidTests := true, laidLooks := .later }
def CpuComputesCardSaid : Prop := Claim7.holds Tryd.pinned (.plain (OpenSpec.ofChange cpuComputesSpec)) cpuComputesCard

/-- THE TIED CARD OF 'vmfleetlaw6.CpuTraps'. -/
def cpuTrapsCard : Claim7 := { stood := { row := cpuTrapsRow, standIns := [], harness := (true, "a0fcf346d36e70f660551f77d4f33a46d5fa013b02394020fef22e7519cf29a3"), looks := false }, kinds := [], alts := [], laidByText := true, laidKinds := [.data], laidTests := true, laidLooks := .later }
def CpuTrapsCardSaid : Prop := Claim7.holds Tryd.pinned (.plain (OpenSpec.ofChange cpuTrapsSpec)) cpuTrapsCard

/-- THE TIED CARD OF 'vmfleetlaw6.CpuReturns'. -/
def cpuReturnsCard : Claim7 := { stood := { row := cpuReturnsRow, standIns := [], harness := (true, "a0fcf346d36e70f660551f77d4f33a46d5fa013b02394020fef22e7519cf29a3"), looks := false }, kinds := [], alts := [], laidByText := true, laidKinds := [.data], laidTests := true, laidLooks := .later }
def CpuReturnsCardSaid : Prop := Claim7.holds Tryd.pinned (.plain (OpenSpec.ofChange cpuReturnsSpec)) cpuReturnsCard

/-- THE TIED CARD OF 'vmfleetlaw6.CpuInstructions'. -/
def cpuInstructionsCard : Claim7 := { stood := { row := cpuInstructionsRow, standIns := [], harness := (true, "a0fcf346d36e70f660551f77d4f33a46d5fa013b02394020fef22e7519cf29a3"), looks := false }, kinds := [], alts := [], laidByText := true, laidKinds := [.data], laidTests := true, laidLooks := .later }
def CpuInstructionsCardSaid : Prop := Claim7.holds Tryd.pinned (.plain (OpenSpec.ofChange cpuInstructionsSpec)) cpuInstructionsCard

/-- THE TIED CARD OF 'vmfleetlaw6.CpuUser'. -/
def cpuUserCard : Claim7 := { stood := { row := cpuUserRow, standIns := [], harness := (true, "a0fcf346d36e70f660551f77d4f33a46d5fa013b02394020fef22e7519cf29a3"), looks := false }, kinds := [], alts := [], laidByText := true, laidKinds := [.data], laidTests := true, laidLooks := .later }
def CpuUserCardSaid : Prop := Claim7.holds Tryd.pinned (.plain (OpenSpec.ofChange cpuUserSpec)) cpuUserCard

/-- THE TIED CARD OF 'vmfleetlaw6.CpuAlgebra'. -/
def cpuAlgebraCard : Claim7 := { stood := { row := cpuAlgebraRow, standIns := [], harness := (true, "a0fcf346d36e70f660551f77d4f33a46d5fa013b02394020fef22e7519cf29a3"), looks := false }, kinds := [], alts := [], laidByText := true, laidKinds := [.data], laidTests := true, laidLooks := .later }
def CpuAlgebraCardSaid : Prop := Claim7.holds Tryd.pinned (.plain (OpenSpec.ofChange cpuAlgebraSpec)) cpuAlgebraCard

/-- THE TIED CARD OF 'vmfleetlaw6.CpuBranches'. -/
def cpuBranchesCard : Claim7 := { stood := { row := cpuBranchesRow, standIns := [], harness := (true, "a0fcf346d36e70f660551f77d4f33a46d5fa013b02394020fef22e7519cf29a3"), looks := false }, kinds := [], alts := [], laidByText := true, laidKinds := [.data], laidTests := true, laidLooks := .later }
def CpuBranchesCardSaid : Prop := Claim7.holds Tryd.pinned (.plain (OpenSpec.ofChange cpuBranchesSpec)) cpuBranchesCard

/-- THE TIED CARD OF 'vmfleetlaw6.CpuTransfers'. -/
def cpuTransfersCard : Claim7 := { stood := { row := cpuTransfersRow, standIns := [], harness := (true, "a0fcf346d36e70f660551f77d4f33a46d5fa013b02394020fef22e7519cf29a3"), looks := false }, kinds := [], alts := [], laidByText := true, laidKinds := [.data], laidTests := true, laidLooks := .later }
def CpuTransfersCardSaid : Prop := Claim7.holds Tryd.pinned (.plain (OpenSpec.ofChange cpuTransfersSpec)) cpuTransfersCard

/-- THE TIED CARD OF 'vmfleetlaw6.CpuPrivilege'. -/
def cpuPrivilegeCard : Claim7 := { stood := { row := cpuPrivilegeRow, standIns := [], harness := (true, "a0fcf346d36e70f660551f77d4f33a46d5fa013b02394020fef22e7519cf29a3"), looks := false }, kinds := [], alts := [], laidByText := true, laidKinds := [.data], laidTests := true, laidLooks := .later }
def CpuPrivilegeCardSaid : Prop := Claim7.holds Tryd.pinned (.plain (OpenSpec.ofChange cpuPrivilegeSpec)) cpuPrivilegeCard

/-- THE TIED CARD OF 'vmfleetlaw6.CpuLinks'. -/
def cpuLinksCard : Claim7 := { stood := { row := cpuLinksRow, standIns := [], harness := (true, "a0fcf346d36e70f660551f77d4f33a46d5fa013b02394020fef22e7519cf29a3"), looks := false }, kinds := [], alts := [], laidByText := true, laidKinds := [.data], laidTests := true, laidLooks := .later }
def CpuLinksCardSaid : Prop := Claim7.holds Tryd.pinned (.plain (OpenSpec.ofChange cpuLinksSpec)) cpuLinksCard

/-- THE SECOND FORM's CARD OF 'vmfleetlaw6.CpuComputes'. -/
def cpuComputesUptoCard : Claim7 := { stood := { row := cpuComputesUptoRow, standIns := [], harness := (true, "a0fcf346d36e70f660551f77d4f33a46d5fa013b02394020fef22e7519cf29a3"), looks := false }, kinds := [], alts := [], laidByText := true, laidKinds := [.data], laidTests := true, laidLooks := .later }
def CpuComputesUptoCardSaid : Prop := Claim7.holds Tryd.pinned (.plain (OpenSpec.upto cpuComputesSpec)) cpuComputesUptoCard

/-- THE SECOND FORM's CARD OF 'vmfleetlaw6.CpuTraps'. -/
def cpuTrapsUptoCard : Claim7 := { stood := { row := cpuTrapsUptoRow, standIns := [], harness := (true, "a0fcf346d36e70f660551f77d4f33a46d5fa013b02394020fef22e7519cf29a3"), looks := false }, kinds := [], alts := [], laidByText := true, laidKinds := [.data], laidTests := true, laidLooks := .later }
def CpuTrapsUptoCardSaid : Prop := Claim7.holds Tryd.pinned (.plain (OpenSpec.upto cpuTrapsSpec)) cpuTrapsUptoCard

/-- THE SECOND FORM's CARD OF 'vmfleetlaw6.CpuReturns'. -/
def cpuReturnsUptoCard : Claim7 := { stood := { row := cpuReturnsUptoRow, standIns := [], harness := (true, "a0fcf346d36e70f660551f77d4f33a46d5fa013b02394020fef22e7519cf29a3"), looks := false }, kinds := [], alts := [], laidByText := true, laidKinds := [.data], laidTests := true, laidLooks := .later }
def CpuReturnsUptoCardSaid : Prop := Claim7.holds Tryd.pinned (.plain (OpenSpec.upto cpuReturnsSpec)) cpuReturnsUptoCard

/-- THE SECOND FORM's CARD OF 'vmfleetlaw6.CpuInstructions'. -/
def cpuInstructionsUptoCard : Claim7 := { stood := { row := cpuInstructionsUptoRow, standIns := [], harness := (true, "a0fcf346d36e70f660551f77d4f33a46d5fa013b02394020fef22e7519cf29a3"), looks := false }, kinds := [], alts := [], laidByText := true, laidKinds := [.data], laidTests := true, laidLooks := .later }
def CpuInstructionsUptoCardSaid : Prop := Claim7.holds Tryd.pinned (.plain (OpenSpec.upto cpuInstructionsSpec)) cpuInstructionsUptoCard

/-- THE SECOND FORM's CARD OF 'vmfleetlaw6.CpuUser'. -/
def cpuUserUptoCard : Claim7 := { stood := { row := cpuUserUptoRow, standIns := [], harness := (true, "a0fcf346d36e70f660551f77d4f33a46d5fa013b02394020fef22e7519cf29a3"), looks := false }, kinds := [], alts := [], laidByText := true, laidKinds := [.data], laidTests := true, laidLooks := .later }
def CpuUserUptoCardSaid : Prop := Claim7.holds Tryd.pinned (.plain (OpenSpec.upto cpuUserSpec)) cpuUserUptoCard

/-- THE SECOND FORM's CARD OF 'vmfleetlaw6.CpuAlgebra'. -/
def cpuAlgebraUptoCard : Claim7 := { stood := { row := cpuAlgebraUptoRow, standIns := [], harness := (true, "a0fcf346d36e70f660551f77d4f33a46d5fa013b02394020fef22e7519cf29a3"), looks := false }, kinds := [], alts := [], laidByText := true, laidKinds := [.data], laidTests := true, laidLooks := .later }
def CpuAlgebraUptoCardSaid : Prop := Claim7.holds Tryd.pinned (.plain (OpenSpec.upto cpuAlgebraSpec)) cpuAlgebraUptoCard

/-- THE SECOND FORM's CARD OF 'vmfleetlaw6.CpuBranches'. -/
def cpuBranchesUptoCard : Claim7 := { stood := { row := cpuBranchesUptoRow, standIns := [], harness := (true, "a0fcf346d36e70f660551f77d4f33a46d5fa013b02394020fef22e7519cf29a3"), looks := false }, kinds := [], alts := [], laidByText := true, laidKinds := [.data], laidTests := true, laidLooks := .later }
def CpuBranchesUptoCardSaid : Prop := Claim7.holds Tryd.pinned (.plain (OpenSpec.upto cpuBranchesSpec)) cpuBranchesUptoCard

/-- THE SECOND FORM's CARD OF 'vmfleetlaw6.CpuTransfers'. -/
def cpuTransfersUptoCard : Claim7 := { stood := { row := cpuTransfersUptoRow, standIns := [], harness := (true, "a0fcf346d36e70f660551f77d4f33a46d5fa013b02394020fef22e7519cf29a3"), looks := false }, kinds := [], alts := [], laidByText := true, laidKinds := [.data], laidTests := true, laidLooks := .later }
def CpuTransfersUptoCardSaid : Prop := Claim7.holds Tryd.pinned (.plain (OpenSpec.upto cpuTransfersSpec)) cpuTransfersUptoCard

/-- THE SECOND FORM's CARD OF 'vmfleetlaw6.CpuPrivilege'. -/
def cpuPrivilegeUptoCard : Claim7 := { stood := { row := cpuPrivilegeUptoRow, standIns := [], harness := (true, "a0fcf346d36e70f660551f77d4f33a46d5fa013b02394020fef22e7519cf29a3"), looks := false }, kinds := [], alts := [], laidByText := true, laidKinds := [.data], laidTests := true, laidLooks := .later }
def CpuPrivilegeUptoCardSaid : Prop := Claim7.holds Tryd.pinned (.plain (OpenSpec.upto cpuPrivilegeSpec)) cpuPrivilegeUptoCard

/-- THE SECOND FORM's CARD OF 'vmfleetlaw6.CpuLinks'. -/
def cpuLinksUptoCard : Claim7 := { stood := { row := cpuLinksUptoRow, standIns := [], harness := (true, "a0fcf346d36e70f660551f77d4f33a46d5fa013b02394020fef22e7519cf29a3"), looks := false }, kinds := [], alts := [], laidByText := true, laidKinds := [.data], laidTests := true, laidLooks := .later }
def CpuLinksUptoCardSaid : Prop := Claim7.holds Tryd.pinned (.plain (OpenSpec.upto cpuLinksSpec)) cpuLinksUptoCard
end Rows
end Go.Proofs.YtlbdggnbhgmjdaaDoor
