/-
  NARROWER THAN 'FOR EVERY INPUT', by the rows' own cells (each row's printed sentence says how): CpuPolls: laid · CpuPorts: laid.
  DERIVED. THE GIVEN ROWS OF THIS SEAT. 2 by the template 'for every input the law returns true; each argument reads behind the call as it read before'; 0 by the template 'total and deterministic' (their statements: YthkcloapiefggaaDoorTotals.lean).
  GIVEN WITH THE SEED: the statements are not yours to turn. If you find one false, say at which input.
  Laid BY PROGRAM, IN A SANDBOX (cutbox-rows.mjs): the forced cells as the released guide's own fill.sh prints them over the translation b1205609b1c04f3a… (all of the seat's roots in one cut). By AI agents, Wed Nov 11 2026. No macro, syntax, notation, axiom, sorry.
-/
import Derived.Test.YthkcloapiefggaaDoorChecked
import GoSem.Claim
import GoSem.ClaimJoined
import GoSem.ClaimMapViews
import Derived.JoinedTies
import Derived.KernelRfl
namespace Go.Proofs.YthkcloapiefggaaDoor
/- THE CELL 'sum', in the pinned program and in every row, IS THE sha256 OF THE DUMP (.gsa) THAT YthkcloapiefggaaDoorProg.lean LOADS. Nothing in Lean hashes anything: it is a label: what it is worth is what the hold of that sum in a sandbox is worth. -/
noncomputable def Tryd.pinned : Pinned := { name := "ythkcloapiefggaadoor", sum := "b1205609b1c04f3acc33d2af1b4a2c5f3c903f90df4c0a5fea868c00b1d9ab45", checked := Tryd.checked }
namespace Rows
def none {H : Type} : Left H := { results := [], args := [] }

/- WHAT THE LISTED PACKAGE-LEVEL VARIABLES READ AS WHEN THE CALL BEGINS. Each datum BY PROGRAM (the guide's laid-datum.mjs) off the statement by which the dump's own 'gosem.cut.vars' lays the variable. In a bare row this is a premise. The card (YthkcloapiefggaaDoorCards.lean) ties it to the program's text. -/
def laid_vellum_isa_formats {H : Type} : DataW H := .agg [.agg [.lit (.int .u8 0), .lit (.int .u8 5), .lit (.int .u8 0), .lit (.int .u8 1), .agg [.lit (.int .u8 0), .lit (.int .u8 0), .lit (.int .u8 0), .lit (.int .u8 0)], .lit (.string []), .lit (.string [])], .agg [.lit (.int .u8 16), .lit (.int .u8 19), .lit (.int .u8 0), .lit (.int .u8 2), .agg [.lit (.int .u8 1), .lit (.int .u8 0), .lit (.int .u8 0), .lit (.int .u8 0)], .lit (.string []), .lit (.string [68])], .agg [.lit (.int .u8 20), .lit (.int .u8 21), .lit (.int .u8 0), .lit (.int .u8 2), .agg [.lit (.int .u8 5), .lit (.int .u8 0), .lit (.int .u8 0), .lit (.int .u8 0)], .lit (.string []), .lit (.string [110])], .agg [.lit (.int .u8 32), .lit (.int .u8 46), .lit (.int .u8 0), .lit (.int .u8 2), .agg [.lit (.int .u8 3), .lit (.int .u8 0), .lit (.int .u8 0), .lit (.int .u8 0)], .lit (.string []), .lit (.string [68, 44, 32, 83])], .agg [.lit (.int .u8 32), .lit (.int .u8 46), .lit (.int .u8 16), .lit (.int .u8 3), .agg [.lit (.int .u8 1), .lit (.int .u8 4), .lit (.int .u8 0), .lit (.int .u8 0)], .lit (.string [46, 98]), .lit (.string [68, 44, 32, 105])], .agg [.lit (.int .u8 32), .lit (.int .u8 46), .lit (.int .u8 32), .lit (.int .u8 4), .agg [.lit (.int .u8 1), .lit (.int .u8 6), .lit (.int .u8 0), .lit (.int .u8 0)], .lit (.string [46, 119]), .lit (.string [68, 44, 32, 105])], .agg [.lit (.int .u8 80), .lit (.int .u8 83), .lit (.int .u8 0), .lit (.int .u8 3), .agg [.lit (.int .u8 3), .lit (.int .u8 4), .lit (.int .u8 0), .lit (.int .u8 0)], .lit (.string []), .lit (.string [68, 44, 32, 91, 83, 111, 93])], .agg [.lit (.int .u8 80), .lit (.int .u8 83), .lit (.int .u8 8), .lit (.int .u8 4), .agg [.lit (.int .u8 3), .lit (.int .u8 6), .lit (.int .u8 0), .lit (.int .u8 0)], .lit (.string [46, 119]), .lit (.string [68, 44, 32, 91, 83, 111, 93])], .agg [.lit (.int .u8 84), .lit (.int .u8 87), .lit (.int .u8 0), .lit (.int .u8 4), .agg [.lit (.int .u8 1), .lit (.int .u8 6), .lit (.int .u8 0), .lit (.int .u8 0)], .lit (.string []), .lit (.string [68, 44, 32, 91, 97, 93])], .agg [.lit (.int .u8 96), .lit (.int .u8 109), .lit (.int .u8 0), .lit (.int .u8 2), .agg [.lit (.int .u8 4), .lit (.int .u8 0), .lit (.int .u8 0), .lit (.int .u8 0)], .lit (.string []), .lit (.string [116])], .agg [.lit (.int .u8 96), .lit (.int .u8 109), .lit (.int .u8 16), .lit (.int .u8 3), .agg [.lit (.int .u8 6), .lit (.int .u8 0), .lit (.int .u8 0), .lit (.int .u8 0)], .lit (.string [46, 119]), .lit (.string [116])], .agg [.lit (.int .u8 128), .lit (.int .u8 128), .lit (.int .u8 0), .lit (.int .u8 2), .agg [.lit (.int .u8 4), .lit (.int .u8 0), .lit (.int .u8 0), .lit (.int .u8 0)], .lit (.string []), .lit (.string [116])], .agg [.lit (.int .u8 129), .lit (.int .u8 130), .lit (.int .u8 0), .lit (.int .u8 3), .agg [.lit (.int .u8 6), .lit (.int .u8 0), .lit (.int .u8 0), .lit (.int .u8 0)], .lit (.string []), .lit (.string [116])], .agg [.lit (.int .u8 131), .lit (.int .u8 132), .lit (.int .u8 0), .lit (.int .u8 4), .agg [.lit (.int .u8 8), .lit (.int .u8 6), .lit (.int .u8 0), .lit (.int .u8 0)], .lit (.string []), .lit (.string [98, 58, 97])], .agg [.lit (.int .u8 133), .lit (.int .u8 133), .lit (.int .u8 0), .lit (.int .u8 7), .agg [.lit (.int .u8 1), .lit (.int .u8 9), .lit (.int .u8 6), .lit (.int .u8 7)], .lit (.string []), .lit (.string [68, 44, 32, 98, 44, 32, 116, 44, 32, 120])], .agg [.lit (.int .u8 134), .lit (.int .u8 134), .lit (.int .u8 0), .lit (.int .u8 4), .agg [.lit (.int .u8 1), .lit (.int .u8 6), .lit (.int .u8 0), .lit (.int .u8 0)], .lit (.string []), .lit (.string [68, 44, 32, 97])], .agg [.lit (.int .u8 144), .lit (.int .u8 144), .lit (.int .u8 0), .lit (.int .u8 3), .agg [.lit (.int .u8 1), .lit (.int .u8 5), .lit (.int .u8 0), .lit (.int .u8 0)], .lit (.string []), .lit (.string [68, 44, 32, 110])], .agg [.lit (.int .u8 145), .lit (.int .u8 145), .lit (.int .u8 0), .lit (.int .u8 3), .agg [.lit (.int .u8 1), .lit (.int .u8 5), .lit (.int .u8 0), .lit (.int .u8 0)], .lit (.string []), .lit (.string [110, 44, 32, 68])], .agg [.lit (.int .u8 146), .lit (.int .u8 147), .lit (.int .u8 0), .lit (.int .u8 5), .agg [.lit (.int .u8 3), .lit (.int .u8 8), .lit (.int .u8 6), .lit (.int .u8 0)], .lit (.string []), .lit (.string [68, 44, 32, 98, 58, 91, 83, 43, 97, 93])], .agg [.lit (.int .u8 150), .lit (.int .u8 150), .lit (.int .u8 0), .lit (.int .u8 6), .agg [.lit (.int .u8 2), .lit (.int .u8 6), .lit (.int .u8 7), .lit (.int .u8 0)], .lit (.string []), .lit (.string [91, 83, 111, 93, 44, 32, 121])], .agg [.lit (.int .u8 160), .lit (.int .u8 161), .lit (.int .u8 0), .lit (.int .u8 3), .agg [.lit (.int .u8 1), .lit (.int .u8 5), .lit (.int .u8 0), .lit (.int .u8 0)], .lit (.string []), .lit (.string [68, 44, 32, 110])], .agg [.lit (.int .u8 162), .lit (.int .u8 163), .lit (.int .u8 0), .lit (.int .u8 3), .agg [.lit (.int .u8 1), .lit (.int .u8 4), .lit (.int .u8 0), .lit (.int .u8 0)], .lit (.string []), .lit (.string [68, 44, 32, 105])]]

/-- 'vellumlaw04.CpuPolls': WHATEVER THE INPUT: true; the input reads as it did. -/
def cpuPollsSpec : ChangeSpec := { name := "cpuPolls", fn := fun _ => fun
  | [d1, d2, d3] => { results := [.lit (.bool true)], args := [d1, d2, d3] }
  | _ => none }
def cpuPollsRow : OpenClaim := { program := "ythkcloapiefggaadoor", sum := "b1205609b1c04f3acc33d2af1b4a2c5f3c903f90df4c0a5fea868c00b1d9ab45", func := "vellum/vellumlaw04.CpuPolls", spec := "cpuPolls", unfollowed := true, recurses := true, named := ["vellum/isa.formats"], apart := false, laid := [("vellum/isa.formats", laid_vellum_isa_formats)] }
def CpuPollsSaid : Prop := cpuPollsRow.holds Tryd.pinned (OpenSpec.ofChange cpuPollsSpec)

/-- ITS FALSE NEIGHBOUR: 'it returns false'. Refute it at one input. -/
def cpuPollsWrong : ChangeSpec := { name := "cpuPolls", fn := fun _ => fun
  | [d1, d2, d3] => { results := [.lit (.bool false)], args := [d1, d2, d3] }
  | _ => none }
def CpuPollsWrongFalsely : Prop := cpuPollsRow.holds Tryd.pinned (OpenSpec.ofChange cpuPollsWrong)

/-- 'vellumlaw04.CpuPorts': WHATEVER THE INPUT: true; the input reads as it did. -/
def cpuPortsSpec : ChangeSpec := { name := "cpuPorts", fn := fun _ => fun
  | [d1, d2, d3] => { results := [.lit (.bool true)], args := [d1, d2, d3] }
  | _ => none }
def cpuPortsRow : OpenClaim := { program := "ythkcloapiefggaadoor", sum := "b1205609b1c04f3acc33d2af1b4a2c5f3c903f90df4c0a5fea868c00b1d9ab45", func := "vellum/vellumlaw04.CpuPorts", spec := "cpuPorts", unfollowed := true, recurses := true, named := ["vellum/isa.formats"], apart := false, laid := [("vellum/isa.formats", laid_vellum_isa_formats)] }
def CpuPortsSaid : Prop := cpuPortsRow.holds Tryd.pinned (OpenSpec.ofChange cpuPortsSpec)

/-- ITS FALSE NEIGHBOUR: 'it returns false'. Refute it at one input. -/
def cpuPortsWrong : ChangeSpec := { name := "cpuPorts", fn := fun _ => fun
  | [d1, d2, d3] => { results := [.lit (.bool false)], args := [d1, d2, d3] }
  | _ => none }
def CpuPortsWrongFalsely : Prop := cpuPortsRow.holds Tryd.pinned (OpenSpec.ofChange cpuPortsWrong)

/- THE SECOND FORM. 'bulk': how many values and letters a reading holds, each counted each time it is reached (what is shared counts as often as it is met; a slice's spare places count too). A statement '..UptoSaid' is the law's where the arguments, and the package variables that the reading takes, are together of bulk at most 1048576: NARROWER than '..Said'. Prove '..Said' where nothing that the law and all that it calls make is longer than what came in: it says more and counts as full. Else prove '..UptoSaid'. A law counts once. -/
mutual
def uptoBulk {H : Type} : DataW H → Nat
  | .lit (.string bytes) => bytes.length + 1
  | .lit _ => 1
  | .nil => 1
  | .ptr d => uptoBulk d + 1
  | .slice elems spare => uptoBulkAll elems + uptoBulkAll spare + 1
  | .agg parts => uptoBulkAll parts + 1
  | .iface _ d => uptoBulk d + 1
  | .map entries => uptoBulkEntries entries + 1
  | .held _ => 1
def uptoBulkAll {H : Type} : List (DataW H) → Nat
  | [] => 0
  | d :: r => uptoBulk d + uptoBulkAll r
def uptoBulkEntries {H : Type} : List (Lit × DataW H) → Nat
  | [] => 0
  | x :: r => uptoBulkEntry x + uptoBulkEntries r
def uptoBulkEntry {H : Type} : Lit × DataW H → Nat
  | (.string bytes, d) => bytes.length + uptoBulk d + 1
  | (_, d) => uptoBulk d + 1
 end
def uptoSmall : (H : Type) → List (DataW H) → Bool := fun _ ds => decide (uptoBulkAll ds ≤ 1048576)
def OpenSpec.upto (s : _root_.Go.ChangeSpec) : _root_.Go.OpenSpec := { _root_.Go.OpenSpec.ofChange s with cond := some uptoSmall }

/-- 'vellumlaw04.CpuPolls', WHERE WHAT IT READS IS OF BULK AT MOST 1048576: true; the input reads as it did. -/
def cpuPollsUptoRow : OpenClaim := { program := "ythkcloapiefggaadoor", sum := "b1205609b1c04f3acc33d2af1b4a2c5f3c903f90df4c0a5fea868c00b1d9ab45", func := "vellum/vellumlaw04.CpuPolls", spec := "cpuPolls", unfollowed := true, recurses := true, named := ["vellum/isa.formats"], apart := false, laid := [("vellum/isa.formats", laid_vellum_isa_formats)], narrowed := true }
def CpuPollsUptoSaid : Prop := cpuPollsUptoRow.holds Tryd.pinned (OpenSpec.upto cpuPollsSpec)

/-- 'vellumlaw04.CpuPorts', WHERE WHAT IT READS IS OF BULK AT MOST 1048576: true; the input reads as it did. -/
def cpuPortsUptoRow : OpenClaim := { program := "ythkcloapiefggaadoor", sum := "b1205609b1c04f3acc33d2af1b4a2c5f3c903f90df4c0a5fea868c00b1d9ab45", func := "vellum/vellumlaw04.CpuPorts", spec := "cpuPorts", unfollowed := true, recurses := true, named := ["vellum/isa.formats"], apart := false, laid := [("vellum/isa.formats", laid_vellum_isa_formats)], narrowed := true }
def CpuPortsUptoSaid : Prop := cpuPortsUptoRow.holds Tryd.pinned (OpenSpec.upto cpuPortsSpec)

end Rows
end Go.Proofs.YthkcloapiefggaaDoor
