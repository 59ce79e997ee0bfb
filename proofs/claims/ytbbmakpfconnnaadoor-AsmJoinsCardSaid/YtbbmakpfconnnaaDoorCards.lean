/-
  DERIVED. GIVEN WITH THE SEED: THE CARDS: each row of YtbbmakpfconnnaaDoorRows.lean that lists a variable, with what it lists TIED to the program's text (the seventh form; the later family's looks); each row that meets fmt, with fmt's text TOLD by the authors' own Lean function (tested against real Go, not proved from fmt's source: count such statements apart). THE CARD IS WHAT COUNTS. Prove the row's statement (the work); the ties are given (YtbbmakpfconnnaaDoorTie.lean); close each card by the builder's one call (the guide's Derived/Test/ToyasCard.lean, 'card_holds'). Laid BY PROGRAM, IN A SANDBOX (cutbox-door.mjs). By AI agents, Wed Nov 11 2026. No macro, syntax, notation, axiom, sorry.
-/
import Derived.Test.YtbbmakpfconnnaaDoorRows
import GoSem.ClaimSeven
namespace Go.Proofs.YtbbmakpfconnnaaDoor
namespace Rows

/-- THE TIED CARD OF 'vmfleetlaw3.AsmReads'. -/
def asmReadsCard : Claim7 := { stood := { row := asmReadsRow, standIns := [], harness := (true, "6c1814092c10003462c603621f014ad6b351dfab20d6020feb7611b017628cba"), looks := false }, kinds := [], alts := [], laidByText := true, laidKinds := [.data, .data, .data], laidTests := true, laidLooks := .later }
def AsmReadsCardSaid : Prop := Claim7.holds Tryd.pinned (.plain (OpenSpec.ofChange asmReadsSpec)) asmReadsCard

/-- THE TIED CARD OF 'vmfleetlaw3.AsmSources'. -/
def asmSourcesCard : Claim7 := { stood := { row := asmSourcesRow, standIns := [], harness := (true, "6c1814092c10003462c603621f014ad6b351dfab20d6020feb7611b017628cba"), looks := false }, kinds := [], alts := [], laidByText := true, laidKinds := [.data, .data, .data], laidTests := true, laidLooks := .later }
def AsmSourcesCardSaid : Prop := Claim7.holds Tryd.pinned (.plain (OpenSpec.ofChange asmSourcesSpec)) asmSourcesCard

/-- THE TIED CARD OF 'vmfleetlaw3.AsmJoins'. -/
def asmJoinsCard : Claim7 := { stood := { row := asmJoinsRow, standIns := [], harness := (true, "6c1814092c10003462c603621f014ad6b351dfab20d6020feb7611b017628cba"), looks := false }, kinds := [], alts := [], laidByText := true, laidKinds := [.data, .data, .data, .data], laidTests := true, laidLooks := .later }
def AsmJoinsCardSaid : Prop := Claim7.holds Tryd.pinned (.plain (OpenSpec.ofChange asmJoinsSpec)) asmJoinsCard

/-- THE TIED CARD OF 'vmfleetlaw3.AsmSpaces'. -/
def asmSpacesCard : Claim7 := { stood := { row := asmSpacesRow, standIns := [], harness := (true, "6c1814092c10003462c603621f014ad6b351dfab20d6020feb7611b017628cba"), looks := false }, kinds := [], alts := [], laidByText := true, laidKinds := [.data, .data, .data, .data], laidTests := true, laidLooks := .later }
def AsmSpacesCardSaid : Prop := Claim7.holds Tryd.pinned (.plain (OpenSpec.ofChange asmSpacesSpec)) asmSpacesCard

/-- THE SECOND FORM's CARD OF 'vmfleetlaw3.AsmReads'. -/
def asmReadsUptoCard : Claim7 := { stood := { row := asmReadsUptoRow, standIns := [], harness := (true, "6c1814092c10003462c603621f014ad6b351dfab20d6020feb7611b017628cba"), looks := false }, kinds := [], alts := [], laidByText := true, laidKinds := [.data, .data, .data], laidTests := true, laidLooks := .later }
def AsmReadsUptoCardSaid : Prop := Claim7.holds Tryd.pinned (.plain (OpenSpec.upto asmReadsSpec)) asmReadsUptoCard

/-- THE SECOND FORM's CARD OF 'vmfleetlaw3.AsmSources'. -/
def asmSourcesUptoCard : Claim7 := { stood := { row := asmSourcesUptoRow, standIns := [], harness := (true, "6c1814092c10003462c603621f014ad6b351dfab20d6020feb7611b017628cba"), looks := false }, kinds := [], alts := [], laidByText := true, laidKinds := [.data, .data, .data], laidTests := true, laidLooks := .later }
def AsmSourcesUptoCardSaid : Prop := Claim7.holds Tryd.pinned (.plain (OpenSpec.upto asmSourcesSpec)) asmSourcesUptoCard

/-- THE SECOND FORM's CARD OF 'vmfleetlaw3.AsmJoins'. -/
def asmJoinsUptoCard : Claim7 := { stood := { row := asmJoinsUptoRow, standIns := [], harness := (true, "6c1814092c10003462c603621f014ad6b351dfab20d6020feb7611b017628cba"), looks := false }, kinds := [], alts := [], laidByText := true, laidKinds := [.data, .data, .data, .data], laidTests := true, laidLooks := .later }
def AsmJoinsUptoCardSaid : Prop := Claim7.holds Tryd.pinned (.plain (OpenSpec.upto asmJoinsSpec)) asmJoinsUptoCard

/-- THE SECOND FORM's CARD OF 'vmfleetlaw3.AsmSpaces'. -/
def asmSpacesUptoCard : Claim7 := { stood := { row := asmSpacesUptoRow, standIns := [], harness := (true, "6c1814092c10003462c603621f014ad6b351dfab20d6020feb7611b017628cba"), looks := false }, kinds := [], alts := [], laidByText := true, laidKinds := [.data, .data, .data, .data], laidTests := true, laidLooks := .later }
def AsmSpacesUptoCardSaid : Prop := Claim7.holds Tryd.pinned (.plain (OpenSpec.upto asmSpacesSpec)) asmSpacesUptoCard
end Rows
end Go.Proofs.YtbbmakpfconnnaaDoor
