/-
  NARROWER THAN 'FOR EVERY INPUT', by the rows' own cells (each row's printed sentence says how): CpuInstructions: laid · CpuUser: laid.
  DERIVED. THE GIVEN ROWS OF THIS SEAT. 2 by the template 'for every input the law returns true; each argument reads behind the call as it read before'; 0 by the template 'total and deterministic' (their statements: YtfnfbdjbdbifaaaDoorTotals.lean).
  GIVEN WITH THE SEED: the statements are not yours to turn. If you find one false, say at which input.
  Laid BY PROGRAM, IN A SANDBOX (cutbox-rows.mjs): the forced cells as the released guide's own fill.sh prints them over the translation 9f52f3c660d3b6df… (all of the seat's roots in one cut). By AI agents, Wed Nov 11 2026. No macro, syntax, notation, axiom, sorry.
-/
import Derived.Test.YtfnfbdjbdbifaaaDoorChecked
import GoSem.Claim
import GoSem.ClaimJoined
import GoSem.ClaimMapViews
import Derived.JoinedTies
import Derived.KernelRfl
namespace Go.Proofs.YtfnfbdjbdbifaaaDoor
/- THE CELL 'sum', in the pinned program and in every row, IS THE sha256 OF THE DUMP (.gsa) THAT YtfnfbdjbdbifaaaDoorProg.lean LOADS. Nothing in Lean hashes anything: it is a label: what it is worth is what the hold of that sum in a sandbox is worth. -/
noncomputable def Tryd.pinned : Pinned := { name := "ytfnfbdjbdbifaaadoor", sum := "9f52f3c660d3b6df3d02220794719b37a5e95d60e786d4cb27b8ae6be3cc6f2a", checked := Tryd.checked }
namespace Rows
def none {H : Type} : Left H := { results := [], args := [] }

/- WHAT THE LISTED PACKAGE-LEVEL VARIABLES READ AS WHEN THE CALL BEGINS. Each datum BY PROGRAM (the guide's laid-datum.mjs) off the statement by which the dump's own 'gosem.cut.vars' lays the variable. In a bare row this is a premise. The card (YtfnfbdjbdbifaaaDoorCards.lean) ties it to the program's text. -/
def laid_vmfleet_cpu_keptBits {H : Type} : DataW H := .agg [.lit (.int .u32 31), .lit (.int .u32 4294967292), .lit (.int .u32 4294967292), .lit (.int .u32 4294967295), .lit (.int .u32 4294967295), .lit (.int .u32 4294967295), .lit (.int .u32 255), .lit (.int .u32 31)]

/-- 'vmfleetlaw6.CpuInstructions': WHATEVER THE INPUT: true; the input reads as it did. -/
def cpuInstructionsSpec : ChangeSpec := { name := "cpuInstructions", fn := fun _ => fun
  | [d1, d2, d3] => { results := [.lit (.bool true)], args := [d1, d2, d3] }
  | _ => none }
def cpuInstructionsRow : OpenClaim := { program := "ytfnfbdjbdbifaaadoor", sum := "9f52f3c660d3b6df3d02220794719b37a5e95d60e786d4cb27b8ae6be3cc6f2a", func := "vmfleet/vmfleetlaw6.CpuInstructions", spec := "cpuInstructions", named := ["vmfleet/cpu.keptBits"], apart := false, laid := [("vmfleet/cpu.keptBits", laid_vmfleet_cpu_keptBits)] }
def CpuInstructionsSaid : Prop := cpuInstructionsRow.holds Tryd.pinned (OpenSpec.ofChange cpuInstructionsSpec)

/-- ITS FALSE NEIGHBOUR: 'it returns false'. Refute it at one input. -/
def cpuInstructionsWrong : ChangeSpec := { name := "cpuInstructions", fn := fun _ => fun
  | [d1, d2, d3] => { results := [.lit (.bool false)], args := [d1, d2, d3] }
  | _ => none }
def CpuInstructionsWrongFalsely : Prop := cpuInstructionsRow.holds Tryd.pinned (OpenSpec.ofChange cpuInstructionsWrong)

/-- 'vmfleetlaw6.CpuUser': WHATEVER THE INPUT: true; the input reads as it did. -/
def cpuUserSpec : ChangeSpec := { name := "cpuUser", fn := fun _ => fun
  | [d1, d2, d3, d4] => { results := [.lit (.bool true)], args := [d1, d2, d3, d4] }
  | _ => none }
def cpuUserRow : OpenClaim := { program := "ytfnfbdjbdbifaaadoor", sum := "9f52f3c660d3b6df3d02220794719b37a5e95d60e786d4cb27b8ae6be3cc6f2a", func := "vmfleet/vmfleetlaw6.CpuUser", spec := "cpuUser", named := ["vmfleet/cpu.keptBits"], apart := false, laid := [("vmfleet/cpu.keptBits", laid_vmfleet_cpu_keptBits)] }
def CpuUserSaid : Prop := cpuUserRow.holds Tryd.pinned (OpenSpec.ofChange cpuUserSpec)

/-- ITS FALSE NEIGHBOUR: 'it returns false'. Refute it at one input. -/
def cpuUserWrong : ChangeSpec := { name := "cpuUser", fn := fun _ => fun
  | [d1, d2, d3, d4] => { results := [.lit (.bool false)], args := [d1, d2, d3, d4] }
  | _ => none }
def CpuUserWrongFalsely : Prop := cpuUserRow.holds Tryd.pinned (OpenSpec.ofChange cpuUserWrong)

/- THE SECOND FORM. 'bulk': how many values and letters a reading holds, each counted each time it is reached (what is shared counts as often as it is met; a slice's spare places count too). A statement '..UptoSaid' is the law's where the arguments, and the package variables that the reading takes, are together of bulk at most 1048576: NARROWER than '..Said'. Prove '..Said' where nothing that the law and all that it calls make is longer than what came in: it says more and counts as full. Else prove '..UptoSaid'. A law counts once. -/
mutual
def uptoBulk {H : Type} : DataW H → Nat
  | .lit (.string bytes) => bytes.length + 1
  | .lit _ => 1
  | .nil => 1
  | .ptr d => uptoBulk d + 1
  | .slice elems spare => uptoBulkAll elems + uptoBulkAll spare + 1
  | .agg parts => uptoBulkAll parts + 1
  | .iface _ d => uptoBulk d + 1
  | .map entries => uptoBulkEntries entries + 1
  | .held _ => 1
def uptoBulkAll {H : Type} : List (DataW H) → Nat
  | [] => 0
  | d :: r => uptoBulk d + uptoBulkAll r
def uptoBulkEntries {H : Type} : List (Lit × DataW H) → Nat
  | [] => 0
  | x :: r => uptoBulkEntry x + uptoBulkEntries r
def uptoBulkEntry {H : Type} : Lit × DataW H → Nat
  | (.string bytes, d) => bytes.length + uptoBulk d + 1
  | (_, d) => uptoBulk d + 1
 end
def uptoSmall : (H : Type) → List (DataW H) → Bool := fun _ ds => decide (uptoBulkAll ds ≤ 1048576)
def OpenSpec.upto (s : _root_.Go.ChangeSpec) : _root_.Go.OpenSpec := { _root_.Go.OpenSpec.ofChange s with cond := some uptoSmall }

/-- 'vmfleetlaw6.CpuInstructions', WHERE WHAT IT READS IS OF BULK AT MOST 1048576: true; the input reads as it did. -/
def cpuInstructionsUptoRow : OpenClaim := { program := "ytfnfbdjbdbifaaadoor", sum := "9f52f3c660d3b6df3d02220794719b37a5e95d60e786d4cb27b8ae6be3cc6f2a", func := "vmfleet/vmfleetlaw6.CpuInstructions", spec := "cpuInstructions", named := ["vmfleet/cpu.keptBits"], apart := false, laid := [("vmfleet/cpu.keptBits", laid_vmfleet_cpu_keptBits)], narrowed := true }
def CpuInstructionsUptoSaid : Prop := cpuInstructionsUptoRow.holds Tryd.pinned (OpenSpec.upto cpuInstructionsSpec)

/-- 'vmfleetlaw6.CpuUser', WHERE WHAT IT READS IS OF BULK AT MOST 1048576: true; the input reads as it did. -/
def cpuUserUptoRow : OpenClaim := { program := "ytfnfbdjbdbifaaadoor", sum := "9f52f3c660d3b6df3d02220794719b37a5e95d60e786d4cb27b8ae6be3cc6f2a", func := "vmfleet/vmfleetlaw6.CpuUser", spec := "cpuUser", named := ["vmfleet/cpu.keptBits"], apart := false, laid := [("vmfleet/cpu.keptBits", laid_vmfleet_cpu_keptBits)], narrowed := true }
def CpuUserUptoSaid : Prop := cpuUserUptoRow.holds Tryd.pinned (OpenSpec.upto cpuUserSpec)

end Rows
end Go.Proofs.YtfnfbdjbdbifaaaDoor
