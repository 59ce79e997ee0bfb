/-
  NARROWER THAN 'FOR EVERY INPUT', by the rows' own cells (each row's printed sentence says how): CpuInstructions: laid · CpuUser: laid · CpuBranches: laid · CpuTransfers: laid · CpuPrivilege: laid · CpuLinks: laid.
  DERIVED. THE GIVEN ROWS OF THIS SEAT. 6 by the template 'for every input the law returns true; each argument reads behind the call as it read before'; 0 by the template 'total and deterministic' (their statements: YtkpboooifkhijaaDoorTotals.lean).
  GIVEN WITH THE SEED: the statements are not yours to turn. If you find one false, say at which input.
  Laid BY PROGRAM, IN A SANDBOX (cutbox-rows.mjs): the forced cells as the released guide's own fill.sh prints them over the translation 1b2882c71152968a… (all of the seat's roots in one cut). By AI agents, Wed Nov 11 2026. No macro, syntax, notation, axiom, sorry.
-/
import Derived.Test.YtkpboooifkhijaaDoorChecked
import GoSem.Claim
import GoSem.ClaimJoined
import GoSem.ClaimMapViews
import Derived.JoinedTies
import Derived.KernelRfl
namespace Go.Proofs.YtkpboooifkhijaaDoor
/- THE CELL 'sum', in the pinned program and in every row, IS THE sha256 OF THE DUMP (.gsa) THAT YtkpboooifkhijaaDoorProg.lean LOADS. Nothing in Lean hashes anything: it is a label: what it is worth is what the hold of that sum in a sandbox is worth. -/
noncomputable def Tryd.pinned : Pinned := { name := "ytkpboooifkhijaadoor", sum := "1b2882c71152968a8a28038621fa643645a217ef25b1ea031a0b6f724917be8a", checked := Tryd.checked }
namespace Rows
def none {H : Type} : Left H := { results := [], args := [] }

/- WHAT THE LISTED PACKAGE-LEVEL VARIABLES READ AS WHEN THE CALL BEGINS. Each datum BY PROGRAM (the guide's laid-datum.mjs) off the statement by which the dump's own 'gosem.cut.vars' lays the variable. In a bare row this is a premise. The card (YtkpboooifkhijaaDoorCards.lean) ties it to the program's text. -/
def laid_vmfleet_cpu_keptBits {H : Type} : DataW H := .agg [.lit (.int .u32 31), .lit (.int .u32 4294967292), .lit (.int .u32 4294967292), .lit (.int .u32 4294967295), .lit (.int .u32 4294967295), .lit (.int .u32 4294967295), .lit (.int .u32 255), .lit (.int .u32 31)]

/-- 'vmfleetlaw6.CpuInstructions': WHATEVER THE INPUT: true; the input reads as it did. -/
def cpuInstructionsSpec : ChangeSpec := { name := "cpuInstructions", fn := fun _ => fun
  | [d1, d2, d3] => { results := [.lit (.bool true)], args := [d1, d2, d3] }
  | _ => none }
def cpuInstructionsRow : OpenClaim := { program := "ytkpboooifkhijaadoor", sum := "1b2882c71152968a8a28038621fa643645a217ef25b1ea031a0b6f724917be8a", func := "vmfleet/vmfleetlaw6.CpuInstructions", spec := "cpuInstructions", named := ["vmfleet/cpu.keptBits"], apart := false, laid := [("vmfleet/cpu.keptBits", laid_vmfleet_cpu_keptBits)] }
def CpuInstructionsSaid : Prop := cpuInstructionsRow.holds Tryd.pinned (OpenSpec.ofChange cpuInstructionsSpec)

/-- ITS FALSE NEIGHBOUR: 'it returns false'. Refute it at one input. -/
def cpuInstructionsWrong : ChangeSpec := { name := "cpuInstructions", fn := fun _ => fun
  | [d1, d2, d3] => { results := [.lit (.bool false)], args := [d1, d2, d3] }
  | _ => none }
def CpuInstructionsWrongFalsely : Prop := cpuInstructionsRow.holds Tryd.pinned (OpenSpec.ofChange cpuInstructionsWrong)

/-- 'vmfleetlaw6.CpuUser': WHATEVER THE INPUT: true; the input reads as it did. -/
def cpuUserSpec : ChangeSpec := { name := "cpuUser", fn := fun _ => fun
  | [d1, d2, d3, d4] => { results := [.lit (.bool true)], args := [d1, d2, d3, d4] }
  | _ => none }
def cpuUserRow : OpenClaim := { program := "ytkpboooifkhijaadoor", sum := "1b2882c71152968a8a28038621fa643645a217ef25b1ea031a0b6f724917be8a", func := "vmfleet/vmfleetlaw6.CpuUser", spec := "cpuUser", named := ["vmfleet/cpu.keptBits"], apart := false, laid := [("vmfleet/cpu.keptBits", laid_vmfleet_cpu_keptBits)] }
def CpuUserSaid : Prop := cpuUserRow.holds Tryd.pinned (OpenSpec.ofChange cpuUserSpec)

/-- ITS FALSE NEIGHBOUR: 'it returns false'. Refute it at one input. -/
def cpuUserWrong : ChangeSpec := { name := "cpuUser", fn := fun _ => fun
  | [d1, d2, d3, d4] => { results := [.lit (.bool false)], args := [d1, d2, d3, d4] }
  | _ => none }
def CpuUserWrongFalsely : Prop := cpuUserRow.holds Tryd.pinned (OpenSpec.ofChange cpuUserWrong)

/-- 'vmfleetlaw6.CpuBranches': WHATEVER THE INPUT: true; the input reads as it did. -/
def cpuBranchesSpec : ChangeSpec := { name := "cpuBranches", fn := fun _ => fun
  | [d1, d2, d3, d4] => { results := [.lit (.bool true)], args := [d1, d2, d3, d4] }
  | _ => none }
def cpuBranchesRow : OpenClaim := { program := "ytkpboooifkhijaadoor", sum := "1b2882c71152968a8a28038621fa643645a217ef25b1ea031a0b6f724917be8a", func := "vmfleet/vmfleetlaw6.CpuBranches", spec := "cpuBranches", named := ["vmfleet/cpu.keptBits"], apart := false, laid := [("vmfleet/cpu.keptBits", laid_vmfleet_cpu_keptBits)] }
def CpuBranchesSaid : Prop := cpuBranchesRow.holds Tryd.pinned (OpenSpec.ofChange cpuBranchesSpec)

/-- ITS FALSE NEIGHBOUR: 'it returns false'. Refute it at one input. -/
def cpuBranchesWrong : ChangeSpec := { name := "cpuBranches", fn := fun _ => fun
  | [d1, d2, d3, d4] => { results := [.lit (.bool false)], args := [d1, d2, d3, d4] }
  | _ => none }
def CpuBranchesWrongFalsely : Prop := cpuBranchesRow.holds Tryd.pinned (OpenSpec.ofChange cpuBranchesWrong)

/-- 'vmfleetlaw6.CpuTransfers': WHATEVER THE INPUT: true; the input reads as it did. -/
def cpuTransfersSpec : ChangeSpec := { name := "cpuTransfers", fn := fun _ => fun
  | [d1, d2, d3, d4] => { results := [.lit (.bool true)], args := [d1, d2, d3, d4] }
  | _ => none }
def cpuTransfersRow : OpenClaim := { program := "ytkpboooifkhijaadoor", sum := "1b2882c71152968a8a28038621fa643645a217ef25b1ea031a0b6f724917be8a", func := "vmfleet/vmfleetlaw6.CpuTransfers", spec := "cpuTransfers", named := ["vmfleet/cpu.keptBits"], apart := false, laid := [("vmfleet/cpu.keptBits", laid_vmfleet_cpu_keptBits)] }
def CpuTransfersSaid : Prop := cpuTransfersRow.holds Tryd.pinned (OpenSpec.ofChange cpuTransfersSpec)

/-- ITS FALSE NEIGHBOUR: 'it returns false'. Refute it at one input. -/
def cpuTransfersWrong : ChangeSpec := { name := "cpuTransfers", fn := fun _ => fun
  | [d1, d2, d3, d4] => { results := [.lit (.bool false)], args := [d1, d2, d3, d4] }
  | _ => none }
def CpuTransfersWrongFalsely : Prop := cpuTransfersRow.holds Tryd.pinned (OpenSpec.ofChange cpuTransfersWrong)

/-- 'vmfleetlaw6.CpuPrivilege': WHATEVER THE INPUT: true; the input reads as it did. -/
def cpuPrivilegeSpec : ChangeSpec := { name := "cpuPrivilege", fn := fun _ => fun
  | [d1, d2, d3] => { results := [.lit (.bool true)], args := [d1, d2, d3] }
  | _ => none }
def cpuPrivilegeRow : OpenClaim := { program := "ytkpboooifkhijaadoor", sum := "1b2882c71152968a8a28038621fa643645a217ef25b1ea031a0b6f724917be8a", func := "vmfleet/vmfleetlaw6.CpuPrivilege", spec := "cpuPrivilege", named := ["vmfleet/cpu.keptBits"], apart := false, laid := [("vmfleet/cpu.keptBits", laid_vmfleet_cpu_keptBits)] }
def CpuPrivilegeSaid : Prop := cpuPrivilegeRow.holds Tryd.pinned (OpenSpec.ofChange cpuPrivilegeSpec)

/-- ITS FALSE NEIGHBOUR: 'it returns false'. Refute it at one input. -/
def cpuPrivilegeWrong : ChangeSpec := { name := "cpuPrivilege", fn := fun _ => fun
  | [d1, d2, d3] => { results := [.lit (.bool false)], args := [d1, d2, d3] }
  | _ => none }
def CpuPrivilegeWrongFalsely : Prop := cpuPrivilegeRow.holds Tryd.pinned (OpenSpec.ofChange cpuPrivilegeWrong)

/-- 'vmfleetlaw6.CpuLinks': WHATEVER THE INPUT: true; the input reads as it did. -/
def cpuLinksSpec : ChangeSpec := { name := "cpuLinks", fn := fun _ => fun
  | [d1, d2, d3] => { results := [.lit (.bool true)], args := [d1, d2, d3] }
  | _ => none }
def cpuLinksRow : OpenClaim := { program := "ytkpboooifkhijaadoor", sum := "1b2882c71152968a8a28038621fa643645a217ef25b1ea031a0b6f724917be8a", func := "vmfleet/vmfleetlaw6.CpuLinks", spec := "cpuLinks", named := ["vmfleet/cpu.keptBits"], apart := false, laid := [("vmfleet/cpu.keptBits", laid_vmfleet_cpu_keptBits)] }
def CpuLinksSaid : Prop := cpuLinksRow.holds Tryd.pinned (OpenSpec.ofChange cpuLinksSpec)

/-- ITS FALSE NEIGHBOUR: 'it returns false'. Refute it at one input. -/
def cpuLinksWrong : ChangeSpec := { name := "cpuLinks", fn := fun _ => fun
  | [d1, d2, d3] => { results := [.lit (.bool false)], args := [d1, d2, d3] }
  | _ => none }
def CpuLinksWrongFalsely : Prop := cpuLinksRow.holds Tryd.pinned (OpenSpec.ofChange cpuLinksWrong)

/- THE SECOND FORM. 'bulk': how many values and letters a reading holds, each counted each time it is reached (what is shared counts as often as it is met; a slice's spare places count too). A statement '..UptoSaid' is the law's where the arguments, and the package variables that the reading takes, are together of bulk at most 1048576: NARROWER than '..Said'. Prove '..Said' where nothing that the law and all that it calls make is longer than what came in: it says more and counts as full. Else prove '..UptoSaid'. A law counts once. -/
mutual
def uptoBulk {H : Type} : DataW H → Nat
  | .lit (.string bytes) => bytes.length + 1
  | .lit _ => 1
  | .nil => 1
  | .ptr d => uptoBulk d + 1
  | .slice elems spare => uptoBulkAll elems + uptoBulkAll spare + 1
  | .agg parts => uptoBulkAll parts + 1
  | .iface _ d => uptoBulk d + 1
  | .map entries => uptoBulkEntries entries + 1
  | .held _ => 1
def uptoBulkAll {H : Type} : List (DataW H) → Nat
  | [] => 0
  | d :: r => uptoBulk d + uptoBulkAll r
def uptoBulkEntries {H : Type} : List (Lit × DataW H) → Nat
  | [] => 0
  | x :: r => uptoBulkEntry x + uptoBulkEntries r
def uptoBulkEntry {H : Type} : Lit × DataW H → Nat
  | (.string bytes, d) => bytes.length + uptoBulk d + 1
  | (_, d) => uptoBulk d + 1
 end
def uptoSmall : (H : Type) → List (DataW H) → Bool := fun _ ds => decide (uptoBulkAll ds ≤ 1048576)
def OpenSpec.upto (s : _root_.Go.ChangeSpec) : _root_.Go.OpenSpec := { _root_.Go.OpenSpec.ofChange s with cond := some uptoSmall }

/-- 'vmfleetlaw6.CpuInstructions', WHERE WHAT IT READS IS OF BULK AT MOST 1048576: true; the input reads as it did. -/
def cpuInstructionsUptoRow : OpenClaim := { program := "ytkpboooifkhijaadoor", sum := "1b2882c71152968a8a28038621fa643645a217ef25b1ea031a0b6f724917be8a", func := "vmfleet/vmfleetlaw6.CpuInstructions", spec := "cpuInstructions", named := ["vmfleet/cpu.keptBits"], apart := false, laid := [("vmfleet/cpu.keptBits", laid_vmfleet_cpu_keptBits)], narrowed := true }
def CpuInstructionsUptoSaid : Prop := cpuInstructionsUptoRow.holds Tryd.pinned (OpenSpec.upto cpuInstructionsSpec)

/-- 'vmfleetlaw6.CpuUser', WHERE WHAT IT READS IS OF BULK AT MOST 1048576: true; the input reads as it did. -/
def cpuUserUptoRow : OpenClaim := { program := "ytkpboooifkhijaadoor", sum := "1b2882c71152968a8a28038621fa643645a217ef25b1ea031a0b6f724917be8a", func := "vmfleet/vmfleetlaw6.CpuUser", spec := "cpuUser", named := ["vmfleet/cpu.keptBits"], apart := false, laid := [("vmfleet/cpu.keptBits", laid_vmfleet_cpu_keptBits)], narrowed := true }
def CpuUserUptoSaid : Prop := cpuUserUptoRow.holds Tryd.pinned (OpenSpec.upto cpuUserSpec)

/-- 'vmfleetlaw6.CpuBranches', WHERE WHAT IT READS IS OF BULK AT MOST 1048576: true; the input reads as it did. -/
def cpuBranchesUptoRow : OpenClaim := { program := "ytkpboooifkhijaadoor", sum := "1b2882c71152968a8a28038621fa643645a217ef25b1ea031a0b6f724917be8a", func := "vmfleet/vmfleetlaw6.CpuBranches", spec := "cpuBranches", named := ["vmfleet/cpu.keptBits"], apart := false, laid := [("vmfleet/cpu.keptBits", laid_vmfleet_cpu_keptBits)], narrowed := true }
def CpuBranchesUptoSaid : Prop := cpuBranchesUptoRow.holds Tryd.pinned (OpenSpec.upto cpuBranchesSpec)

/-- 'vmfleetlaw6.CpuTransfers', WHERE WHAT IT READS IS OF BULK AT MOST 1048576: true; the input reads as it did. -/
def cpuTransfersUptoRow : OpenClaim := { program := "ytkpboooifkhijaadoor", sum := "1b2882c71152968a8a28038621fa643645a217ef25b1ea031a0b6f724917be8a", func := "vmfleet/vmfleetlaw6.CpuTransfers", spec := "cpuTransfers", named := ["vmfleet/cpu.keptBits"], apart := false, laid := [("vmfleet/cpu.keptBits", laid_vmfleet_cpu_keptBits)], narrowed := true }
def CpuTransfersUptoSaid : Prop := cpuTransfersUptoRow.holds Tryd.pinned (OpenSpec.upto cpuTransfersSpec)

/-- 'vmfleetlaw6.CpuPrivilege', WHERE WHAT IT READS IS OF BULK AT MOST 1048576: true; the input reads as it did. -/
def cpuPrivilegeUptoRow : OpenClaim := { program := "ytkpboooifkhijaadoor", sum := "1b2882c71152968a8a28038621fa643645a217ef25b1ea031a0b6f724917be8a", func := "vmfleet/vmfleetlaw6.CpuPrivilege", spec := "cpuPrivilege", named := ["vmfleet/cpu.keptBits"], apart := false, laid := [("vmfleet/cpu.keptBits", laid_vmfleet_cpu_keptBits)], narrowed := true }
def CpuPrivilegeUptoSaid : Prop := cpuPrivilegeUptoRow.holds Tryd.pinned (OpenSpec.upto cpuPrivilegeSpec)

/-- 'vmfleetlaw6.CpuLinks', WHERE WHAT IT READS IS OF BULK AT MOST 1048576: true; the input reads as it did. -/
def cpuLinksUptoRow : OpenClaim := { program := "ytkpboooifkhijaadoor", sum := "1b2882c71152968a8a28038621fa643645a217ef25b1ea031a0b6f724917be8a", func := "vmfleet/vmfleetlaw6.CpuLinks", spec := "cpuLinks", named := ["vmfleet/cpu.keptBits"], apart := false, laid := [("vmfleet/cpu.keptBits", laid_vmfleet_cpu_keptBits)], narrowed := true }
def CpuLinksUptoSaid : Prop := cpuLinksUptoRow.holds Tryd.pinned (OpenSpec.upto cpuLinksSpec)

end Rows
end Go.Proofs.YtkpboooifkhijaaDoor
