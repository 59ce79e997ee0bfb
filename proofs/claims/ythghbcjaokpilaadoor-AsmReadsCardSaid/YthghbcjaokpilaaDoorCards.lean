/-
  DERIVED. GIVEN WITH THE SEED: THE CARDS: each row of YthghbcjaokpilaaDoorRows.lean that lists a variable, with what it lists TIED to the program's text (the seventh form; the later family's looks); each row that meets fmt, with fmt's text TOLD by the authors' own Lean function (tested against real Go, not proved from fmt's source: count such statements apart). THE CARD IS WHAT COUNTS. Prove the row's statement (the work); the ties are given (YthghbcjaokpilaaDoorTie.lean); close each card by the builder's one call (the guide's Derived/Test/ToyasCard.lean, 'card_holds'). Laid BY PROGRAM, IN A SANDBOX (cutbox-door.mjs). By AI agents, Wed Nov 11 2026. No macro, syntax, notation, axiom, sorry.
-/
import Derived.Test.YthghbcjaokpilaaDoorRows
import GoSem.ClaimSeven
namespace Go.Proofs.YthghbcjaokpilaaDoor
namespace Rows

/-- THE TIED CARD OF 'vmfleetlaw3.AsmReads'. -/
def asmReadsCard : Claim7 := { stood := { row := asmReadsRow, standIns := [], harness := (true, "31117e1a37b628da86735ecdecc371f5a4e49f7d5e98085c692f4240661c407d"), looks := false }, kinds := [], alts := [], laidByText := true, laidKinds := [.data, .data, .data], laidTests := true, laidLooks := .later }
def AsmReadsCardSaid : Prop := Claim7.holds Tryd.pinned (.plain (OpenSpec.ofChange asmReadsSpec)) asmReadsCard

/-- THE TIED CARD OF 'vmfleetlaw3.AsmSources'. -/
def asmSourcesCard : Claim7 := { stood := { row := asmSourcesRow, standIns := [], harness := (true, "31117e1a37b628da86735ecdecc371f5a4e49f7d5e98085c692f4240661c407d"), looks := false }, kinds := [], alts := [], laidByText := true, laidKinds := [.data, .data, .data], laidTests := true, laidLooks := .later }
def AsmSourcesCardSaid : Prop := Claim7.holds Tryd.pinned (.plain (OpenSpec.ofChange asmSourcesSpec)) asmSourcesCard

/-- THE SECOND FORM's CARD OF 'vmfleetlaw3.AsmReads'. -/
def asmReadsUptoCard : Claim7 := { stood := { row := asmReadsUptoRow, standIns := [], harness := (true, "31117e1a37b628da86735ecdecc371f5a4e49f7d5e98085c692f4240661c407d"), looks := false }, kinds := [], alts := [], laidByText := true, laidKinds := [.data, .data, .data], laidTests := true, laidLooks := .later }
def AsmReadsUptoCardSaid : Prop := Claim7.holds Tryd.pinned (.plain (OpenSpec.upto asmReadsSpec)) asmReadsUptoCard

/-- THE SECOND FORM's CARD OF 'vmfleetlaw3.AsmSources'. -/
def asmSourcesUptoCard : Claim7 := { stood := { row := asmSourcesUptoRow, standIns := [], harness := (true, "31117e1a37b628da86735ecdecc371f5a4e49f7d5e98085c692f4240661c407d"), looks := false }, kinds := [], alts := [], laidByText := true, laidKinds := [.data, .data, .data], laidTests := true, laidLooks := .later }
def AsmSourcesUptoCardSaid : Prop := Claim7.holds Tryd.pinned (.plain (OpenSpec.upto asmSourcesSpec)) asmSourcesUptoCard
end Rows
end Go.Proofs.YthghbcjaokpilaaDoor
