/-
  NARROWER THAN 'FOR EVERY INPUT', by the rows' own cells (each row's printed sentence says how): CpuRuns: laid · CpuSteps: laid · CpuSingle: laid · CpuFetch: laid · CpuSplits: laid · CpuArith: laid · CpuStack: laid · CpuCalls: laid · CpuSame: laid.
  DERIVED. THE GIVEN ROWS OF THIS SEAT. 9 by the template 'for every input the law returns true; each argument reads behind the call as it read before'; 0 by the template 'total and deterministic' (their statements: YthkcloapiefggaaGreatDoorTotals.lean).
  GIVEN WITH THE SEED: the statements are not yours to turn. If you find one false, say at which input.
  Laid BY PROGRAM, IN A SANDBOX (cutbox-rows.mjs): the forced cells as the released guide's own fill.sh prints them over the translation 034a86dcc7c4d444… (all of the seat's roots in one cut). By AI agents, Wed Nov 11 2026. No macro, syntax, notation, axiom, sorry.
-/
import Derived.Test.YthkcloapiefggaaGreatDoorChecked
import GoSem.Claim
import GoSem.ClaimJoined
import GoSem.ClaimMapViews
import Derived.JoinedTies
import Derived.KernelRfl
namespace Go.Proofs.YthkcloapiefggaaGreatDoor
/- THE CELL 'sum', in the pinned program and in every row, IS THE sha256 OF THE DUMP (.gsa) THAT YthkcloapiefggaaGreatDoorProg.lean LOADS. Nothing in Lean hashes anything: it is a label: what it is worth is what the hold of that sum in a sandbox is worth. -/
noncomputable def Tryz.pinned : Pinned := { name := "ythkcloapiefggaagreatdoor", sum := "034a86dcc7c4d44499bb559a331413c65c5e2632b3d7c8f9870841efd1541e80", checked := Tryz.checked }
namespace Rows
def none {H : Type} : Left H := { results := [], args := [] }

/- WHAT THE LISTED PACKAGE-LEVEL VARIABLES READ AS WHEN THE CALL BEGINS. Each datum BY PROGRAM (the guide's laid-datum.mjs) off the statement by which the dump's own 'gosem.cut.vars' lays the variable. In a bare row this is a premise. The card (YthkcloapiefggaaGreatDoorCards.lean) ties it to the program's text. -/
def laid_vellum_isa_formats {H : Type} : DataW H := .agg [.agg [.lit (.int .u8 0), .lit (.int .u8 5), .lit (.int .u8 0), .lit (.int .u8 1), .agg [.lit (.int .u8 0), .lit (.int .u8 0), .lit (.int .u8 0), .lit (.int .u8 0)], .lit (.string []), .lit (.string [])], .agg [.lit (.int .u8 16), .lit (.int .u8 19), .lit (.int .u8 0), .lit (.int .u8 2), .agg [.lit (.int .u8 1), .lit (.int .u8 0), .lit (.int .u8 0), .lit (.int .u8 0)], .lit (.string []), .lit (.string [68])], .agg [.lit (.int .u8 20), .lit (.int .u8 21), .lit (.int .u8 0), .lit (.int .u8 2), .agg [.lit (.int .u8 5), .lit (.int .u8 0), .lit (.int .u8 0), .lit (.int .u8 0)], .lit (.string []), .lit (.string [110])], .agg [.lit (.int .u8 32), .lit (.int .u8 46), .lit (.int .u8 0), .lit (.int .u8 2), .agg [.lit (.int .u8 3), .lit (.int .u8 0), .lit (.int .u8 0), .lit (.int .u8 0)], .lit (.string []), .lit (.string [68, 44, 32, 83])], .agg [.lit (.int .u8 32), .lit (.int .u8 46), .lit (.int .u8 16), .lit (.int .u8 3), .agg [.lit (.int .u8 1), .lit (.int .u8 4), .lit (.int .u8 0), .lit (.int .u8 0)], .lit (.string [46, 98]), .lit (.string [68, 44, 32, 105])], .agg [.lit (.int .u8 32), .lit (.int .u8 46), .lit (.int .u8 32), .lit (.int .u8 4), .agg [.lit (.int .u8 1), .lit (.int .u8 6), .lit (.int .u8 0), .lit (.int .u8 0)], .lit (.string [46, 119]), .lit (.string [68, 44, 32, 105])], .agg [.lit (.int .u8 80), .lit (.int .u8 83), .lit (.int .u8 0), .lit (.int .u8 3), .agg [.lit (.int .u8 3), .lit (.int .u8 4), .lit (.int .u8 0), .lit (.int .u8 0)], .lit (.string []), .lit (.string [68, 44, 32, 91, 83, 111, 93])], .agg [.lit (.int .u8 80), .lit (.int .u8 83), .lit (.int .u8 8), .lit (.int .u8 4), .agg [.lit (.int .u8 3), .lit (.int .u8 6), .lit (.int .u8 0), .lit (.int .u8 0)], .lit (.string [46, 119]), .lit (.string [68, 44, 32, 91, 83, 111, 93])], .agg [.lit (.int .u8 84), .lit (.int .u8 87), .lit (.int .u8 0), .lit (.int .u8 4), .agg [.lit (.int .u8 1), .lit (.int .u8 6), .lit (.int .u8 0), .lit (.int .u8 0)], .lit (.string []), .lit (.string [68, 44, 32, 91, 97, 93])], .agg [.lit (.int .u8 96), .lit (.int .u8 109), .lit (.int .u8 0), .lit (.int .u8 2), .agg [.lit (.int .u8 4), .lit (.int .u8 0), .lit (.int .u8 0), .lit (.int .u8 0)], .lit (.string []), .lit (.string [116])], .agg [.lit (.int .u8 96), .lit (.int .u8 109), .lit (.int .u8 16), .lit (.int .u8 3), .agg [.lit (.int .u8 6), .lit (.int .u8 0), .lit (.int .u8 0), .lit (.int .u8 0)], .lit (.string [46, 119]), .lit (.string [116])], .agg [.lit (.int .u8 128), .lit (.int .u8 128), .lit (.int .u8 0), .lit (.int .u8 2), .agg [.lit (.int .u8 4), .lit (.int .u8 0), .lit (.int .u8 0), .lit (.int .u8 0)], .lit (.string []), .lit (.string [116])], .agg [.lit (.int .u8 129), .lit (.int .u8 130), .lit (.int .u8 0), .lit (.int .u8 3), .agg [.lit (.int .u8 6), .lit (.int .u8 0), .lit (.int .u8 0), .lit (.int .u8 0)], .lit (.string []), .lit (.string [116])], .agg [.lit (.int .u8 131), .lit (.int .u8 132), .lit (.int .u8 0), .lit (.int .u8 4), .agg [.lit (.int .u8 8), .lit (.int .u8 6), .lit (.int .u8 0), .lit (.int .u8 0)], .lit (.string []), .lit (.string [98, 58, 97])], .agg [.lit (.int .u8 133), .lit (.int .u8 133), .lit (.int .u8 0), .lit (.int .u8 7), .agg [.lit (.int .u8 1), .lit (.int .u8 9), .lit (.int .u8 6), .lit (.int .u8 7)], .lit (.string []), .lit (.string [68, 44, 32, 98, 44, 32, 116, 44, 32, 120])], .agg [.lit (.int .u8 134), .lit (.int .u8 134), .lit (.int .u8 0), .lit (.int .u8 4), .agg [.lit (.int .u8 1), .lit (.int .u8 6), .lit (.int .u8 0), .lit (.int .u8 0)], .lit (.string []), .lit (.string [68, 44, 32, 97])], .agg [.lit (.int .u8 144), .lit (.int .u8 144), .lit (.int .u8 0), .lit (.int .u8 3), .agg [.lit (.int .u8 1), .lit (.int .u8 5), .lit (.int .u8 0), .lit (.int .u8 0)], .lit (.string []), .lit (.string [68, 44, 32, 110])], .agg [.lit (.int .u8 145), .lit (.int .u8 145), .lit (.int .u8 0), .lit (.int .u8 3), .agg [.lit (.int .u8 1), .lit (.int .u8 5), .lit (.int .u8 0), .lit (.int .u8 0)], .lit (.string []), .lit (.string [110, 44, 32, 68])], .agg [.lit (.int .u8 146), .lit (.int .u8 147), .lit (.int .u8 0), .lit (.int .u8 5), .agg [.lit (.int .u8 3), .lit (.int .u8 8), .lit (.int .u8 6), .lit (.int .u8 0)], .lit (.string []), .lit (.string [68, 44, 32, 98, 58, 91, 83, 43, 97, 93])], .agg [.lit (.int .u8 150), .lit (.int .u8 150), .lit (.int .u8 0), .lit (.int .u8 6), .agg [.lit (.int .u8 2), .lit (.int .u8 6), .lit (.int .u8 7), .lit (.int .u8 0)], .lit (.string []), .lit (.string [91, 83, 111, 93, 44, 32, 121])], .agg [.lit (.int .u8 160), .lit (.int .u8 161), .lit (.int .u8 0), .lit (.int .u8 3), .agg [.lit (.int .u8 1), .lit (.int .u8 5), .lit (.int .u8 0), .lit (.int .u8 0)], .lit (.string []), .lit (.string [68, 44, 32, 110])], .agg [.lit (.int .u8 162), .lit (.int .u8 163), .lit (.int .u8 0), .lit (.int .u8 3), .agg [.lit (.int .u8 1), .lit (.int .u8 4), .lit (.int .u8 0), .lit (.int .u8 0)], .lit (.string []), .lit (.string [68, 44, 32, 105])]]

/-- 'vellumlaw04.CpuRuns': WHATEVER THE INPUT: true; the input reads as it did. -/
def cpuRunsSpec : ChangeSpec := { name := "cpuRuns", fn := fun _ => fun
  | [d1, d2] => { results := [.lit (.bool true)], args := [d1, d2] }
  | _ => none }
def cpuRunsRow : OpenClaim := { program := "ythkcloapiefggaagreatdoor", sum := "034a86dcc7c4d44499bb559a331413c65c5e2632b3d7c8f9870841efd1541e80", func := "vellum/vellumlaw04.CpuRuns", spec := "cpuRuns", unfollowed := true, recurses := true, named := ["vellum/isa.formats"], apart := false, laid := [("vellum/isa.formats", laid_vellum_isa_formats)] }
def CpuRunsSaid : Prop := cpuRunsRow.holds Tryz.pinned (OpenSpec.ofChange cpuRunsSpec)

/-- ITS FALSE NEIGHBOUR: 'it returns false'. Refute it at one input. -/
def cpuRunsWrong : ChangeSpec := { name := "cpuRuns", fn := fun _ => fun
  | [d1, d2] => { results := [.lit (.bool false)], args := [d1, d2] }
  | _ => none }
def CpuRunsWrongFalsely : Prop := cpuRunsRow.holds Tryz.pinned (OpenSpec.ofChange cpuRunsWrong)

/-- 'vellumlaw04.CpuSteps': WHATEVER THE INPUT: true; the input reads as it did. -/
def cpuStepsSpec : ChangeSpec := { name := "cpuSteps", fn := fun _ => fun
  | [d1, d2] => { results := [.lit (.bool true)], args := [d1, d2] }
  | _ => none }
def cpuStepsRow : OpenClaim := { program := "ythkcloapiefggaagreatdoor", sum := "034a86dcc7c4d44499bb559a331413c65c5e2632b3d7c8f9870841efd1541e80", func := "vellum/vellumlaw04.CpuSteps", spec := "cpuSteps", unfollowed := true, recurses := true, named := ["vellum/isa.formats"], apart := false, laid := [("vellum/isa.formats", laid_vellum_isa_formats)] }
def CpuStepsSaid : Prop := cpuStepsRow.holds Tryz.pinned (OpenSpec.ofChange cpuStepsSpec)

/-- ITS FALSE NEIGHBOUR: 'it returns false'. Refute it at one input. -/
def cpuStepsWrong : ChangeSpec := { name := "cpuSteps", fn := fun _ => fun
  | [d1, d2] => { results := [.lit (.bool false)], args := [d1, d2] }
  | _ => none }
def CpuStepsWrongFalsely : Prop := cpuStepsRow.holds Tryz.pinned (OpenSpec.ofChange cpuStepsWrong)

/-- 'vellumlaw04.CpuSingle': WHATEVER THE INPUT: true; the input reads as it did. -/
def cpuSingleSpec : ChangeSpec := { name := "cpuSingle", fn := fun _ => fun
  | [d1, d2, d3] => { results := [.lit (.bool true)], args := [d1, d2, d3] }
  | _ => none }
def cpuSingleRow : OpenClaim := { program := "ythkcloapiefggaagreatdoor", sum := "034a86dcc7c4d44499bb559a331413c65c5e2632b3d7c8f9870841efd1541e80", func := "vellum/vellumlaw04.CpuSingle", spec := "cpuSingle", unfollowed := true, recurses := true, named := ["vellum/isa.formats"], apart := false, laid := [("vellum/isa.formats", laid_vellum_isa_formats)] }
def CpuSingleSaid : Prop := cpuSingleRow.holds Tryz.pinned (OpenSpec.ofChange cpuSingleSpec)

/-- ITS FALSE NEIGHBOUR: 'it returns false'. Refute it at one input. -/
def cpuSingleWrong : ChangeSpec := { name := "cpuSingle", fn := fun _ => fun
  | [d1, d2, d3] => { results := [.lit (.bool false)], args := [d1, d2, d3] }
  | _ => none }
def CpuSingleWrongFalsely : Prop := cpuSingleRow.holds Tryz.pinned (OpenSpec.ofChange cpuSingleWrong)

/-- 'vellumlaw04.CpuFetch': WHATEVER THE INPUT: true; the input reads as it did. -/
def cpuFetchSpec : ChangeSpec := { name := "cpuFetch", fn := fun _ => fun
  | [d1, d2, d3] => { results := [.lit (.bool true)], args := [d1, d2, d3] }
  | _ => none }
def cpuFetchRow : OpenClaim := { program := "ythkcloapiefggaagreatdoor", sum := "034a86dcc7c4d44499bb559a331413c65c5e2632b3d7c8f9870841efd1541e80", func := "vellum/vellumlaw04.CpuFetch", spec := "cpuFetch", unfollowed := true, recurses := true, named := ["vellum/isa.formats"], apart := false, laid := [("vellum/isa.formats", laid_vellum_isa_formats)] }
def CpuFetchSaid : Prop := cpuFetchRow.holds Tryz.pinned (OpenSpec.ofChange cpuFetchSpec)

/-- ITS FALSE NEIGHBOUR: 'it returns false'. Refute it at one input. -/
def cpuFetchWrong : ChangeSpec := { name := "cpuFetch", fn := fun _ => fun
  | [d1, d2, d3] => { results := [.lit (.bool false)], args := [d1, d2, d3] }
  | _ => none }
def CpuFetchWrongFalsely : Prop := cpuFetchRow.holds Tryz.pinned (OpenSpec.ofChange cpuFetchWrong)

/-- 'vellumlaw04.CpuSplits': WHATEVER THE INPUT: true; the input reads as it did. -/
def cpuSplitsSpec : ChangeSpec := { name := "cpuSplits", fn := fun _ => fun
  | [d1, d2] => { results := [.lit (.bool true)], args := [d1, d2] }
  | _ => none }
def cpuSplitsRow : OpenClaim := { program := "ythkcloapiefggaagreatdoor", sum := "034a86dcc7c4d44499bb559a331413c65c5e2632b3d7c8f9870841efd1541e80", func := "vellum/vellumlaw04.CpuSplits", spec := "cpuSplits", unfollowed := true, recurses := true, named := ["vellum/isa.formats"], apart := false, laid := [("vellum/isa.formats", laid_vellum_isa_formats)] }
def CpuSplitsSaid : Prop := cpuSplitsRow.holds Tryz.pinned (OpenSpec.ofChange cpuSplitsSpec)

/-- ITS FALSE NEIGHBOUR: 'it returns false'. Refute it at one input. -/
def cpuSplitsWrong : ChangeSpec := { name := "cpuSplits", fn := fun _ => fun
  | [d1, d2] => { results := [.lit (.bool false)], args := [d1, d2] }
  | _ => none }
def CpuSplitsWrongFalsely : Prop := cpuSplitsRow.holds Tryz.pinned (OpenSpec.ofChange cpuSplitsWrong)

/-- 'vellumlaw04.CpuArith': WHATEVER THE INPUT: true; the input reads as it did. -/
def cpuArithSpec : ChangeSpec := { name := "cpuArith", fn := fun _ => fun
  | [d1, d2, d3] => { results := [.lit (.bool true)], args := [d1, d2, d3] }
  | _ => none }
def cpuArithRow : OpenClaim := { program := "ythkcloapiefggaagreatdoor", sum := "034a86dcc7c4d44499bb559a331413c65c5e2632b3d7c8f9870841efd1541e80", func := "vellum/vellumlaw04.CpuArith", spec := "cpuArith", unfollowed := true, recurses := true, named := ["vellum/isa.formats"], apart := false, laid := [("vellum/isa.formats", laid_vellum_isa_formats)] }
def CpuArithSaid : Prop := cpuArithRow.holds Tryz.pinned (OpenSpec.ofChange cpuArithSpec)

/-- ITS FALSE NEIGHBOUR: 'it returns false'. Refute it at one input. -/
def cpuArithWrong : ChangeSpec := { name := "cpuArith", fn := fun _ => fun
  | [d1, d2, d3] => { results := [.lit (.bool false)], args := [d1, d2, d3] }
  | _ => none }
def CpuArithWrongFalsely : Prop := cpuArithRow.holds Tryz.pinned (OpenSpec.ofChange cpuArithWrong)

/-- 'vellumlaw04.CpuStack': WHATEVER THE INPUT: true; the input reads as it did. -/
def cpuStackSpec : ChangeSpec := { name := "cpuStack", fn := fun _ => fun
  | [d1, d2] => { results := [.lit (.bool true)], args := [d1, d2] }
  | _ => none }
def cpuStackRow : OpenClaim := { program := "ythkcloapiefggaagreatdoor", sum := "034a86dcc7c4d44499bb559a331413c65c5e2632b3d7c8f9870841efd1541e80", func := "vellum/vellumlaw04.CpuStack", spec := "cpuStack", unfollowed := true, recurses := true, named := ["vellum/isa.formats"], apart := false, laid := [("vellum/isa.formats", laid_vellum_isa_formats)] }
def CpuStackSaid : Prop := cpuStackRow.holds Tryz.pinned (OpenSpec.ofChange cpuStackSpec)

/-- ITS FALSE NEIGHBOUR: 'it returns false'. Refute it at one input. -/
def cpuStackWrong : ChangeSpec := { name := "cpuStack", fn := fun _ => fun
  | [d1, d2] => { results := [.lit (.bool false)], args := [d1, d2] }
  | _ => none }
def CpuStackWrongFalsely : Prop := cpuStackRow.holds Tryz.pinned (OpenSpec.ofChange cpuStackWrong)

/-- 'vellumlaw04.CpuCalls': WHATEVER THE INPUT: true; the input reads as it did. -/
def cpuCallsSpec : ChangeSpec := { name := "cpuCalls", fn := fun _ => fun
  | [d1, d2, d3] => { results := [.lit (.bool true)], args := [d1, d2, d3] }
  | _ => none }
def cpuCallsRow : OpenClaim := { program := "ythkcloapiefggaagreatdoor", sum := "034a86dcc7c4d44499bb559a331413c65c5e2632b3d7c8f9870841efd1541e80", func := "vellum/vellumlaw04.CpuCalls", spec := "cpuCalls", unfollowed := true, recurses := true, named := ["vellum/isa.formats"], apart := false, laid := [("vellum/isa.formats", laid_vellum_isa_formats)] }
def CpuCallsSaid : Prop := cpuCallsRow.holds Tryz.pinned (OpenSpec.ofChange cpuCallsSpec)

/-- ITS FALSE NEIGHBOUR: 'it returns false'. Refute it at one input. -/
def cpuCallsWrong : ChangeSpec := { name := "cpuCalls", fn := fun _ => fun
  | [d1, d2, d3] => { results := [.lit (.bool false)], args := [d1, d2, d3] }
  | _ => none }
def CpuCallsWrongFalsely : Prop := cpuCallsRow.holds Tryz.pinned (OpenSpec.ofChange cpuCallsWrong)

/-- 'vellumlaw04.CpuSame': WHATEVER THE INPUT: true; the input reads as it did. -/
def cpuSameSpec : ChangeSpec := { name := "cpuSame", fn := fun _ => fun
  | [d1, d2, d3] => { results := [.lit (.bool true)], args := [d1, d2, d3] }
  | _ => none }
def cpuSameRow : OpenClaim := { program := "ythkcloapiefggaagreatdoor", sum := "034a86dcc7c4d44499bb559a331413c65c5e2632b3d7c8f9870841efd1541e80", func := "vellum/vellumlaw04.CpuSame", spec := "cpuSame", unfollowed := true, recurses := true, named := ["vellum/isa.formats"], apart := false, laid := [("vellum/isa.formats", laid_vellum_isa_formats)] }
def CpuSameSaid : Prop := cpuSameRow.holds Tryz.pinned (OpenSpec.ofChange cpuSameSpec)

/-- ITS FALSE NEIGHBOUR: 'it returns false'. Refute it at one input. -/
def cpuSameWrong : ChangeSpec := { name := "cpuSame", fn := fun _ => fun
  | [d1, d2, d3] => { results := [.lit (.bool false)], args := [d1, d2, d3] }
  | _ => none }
def CpuSameWrongFalsely : Prop := cpuSameRow.holds Tryz.pinned (OpenSpec.ofChange cpuSameWrong)

/- THE SECOND FORM. 'bulk': how many values and letters a reading holds, each counted each time it is reached (what is shared counts as often as it is met; a slice's spare places count too). A statement '..UptoSaid' is the law's where the arguments, and the package variables that the reading takes, are together of bulk at most 1048576: NARROWER than '..Said'. Prove '..Said' where nothing that the law and all that it calls make is longer than what came in: it says more and counts as full. Else prove '..UptoSaid'. A law counts once. -/
mutual
def uptoBulk {H : Type} : DataW H → Nat
  | .lit (.string bytes) => bytes.length + 1
  | .lit _ => 1
  | .nil => 1
  | .ptr d => uptoBulk d + 1
  | .slice elems spare => uptoBulkAll elems + uptoBulkAll spare + 1
  | .agg parts => uptoBulkAll parts + 1
  | .iface _ d => uptoBulk d + 1
  | .map entries => uptoBulkEntries entries + 1
  | .held _ => 1
def uptoBulkAll {H : Type} : List (DataW H) → Nat
  | [] => 0
  | d :: r => uptoBulk d + uptoBulkAll r
def uptoBulkEntries {H : Type} : List (Lit × DataW H) → Nat
  | [] => 0
  | x :: r => uptoBulkEntry x + uptoBulkEntries r
def uptoBulkEntry {H : Type} : Lit × DataW H → Nat
  | (.string bytes, d) => bytes.length + uptoBulk d + 1
  | (_, d) => uptoBulk d + 1
 end
def uptoSmall : (H : Type) → List (DataW H) → Bool := fun _ ds => decide (uptoBulkAll ds ≤ 1048576)
def OpenSpec.upto (s : _root_.Go.ChangeSpec) : _root_.Go.OpenSpec := { _root_.Go.OpenSpec.ofChange s with cond := some uptoSmall }

/-- 'vellumlaw04.CpuRuns', WHERE WHAT IT READS IS OF BULK AT MOST 1048576: true; the input reads as it did. -/
def cpuRunsUptoRow : OpenClaim := { program := "ythkcloapiefggaagreatdoor", sum := "034a86dcc7c4d44499bb559a331413c65c5e2632b3d7c8f9870841efd1541e80", func := "vellum/vellumlaw04.CpuRuns", spec := "cpuRuns", unfollowed := true, recurses := true, named := ["vellum/isa.formats"], apart := false, laid := [("vellum/isa.formats", laid_vellum_isa_formats)], narrowed := true }
def CpuRunsUptoSaid : Prop := cpuRunsUptoRow.holds Tryz.pinned (OpenSpec.upto cpuRunsSpec)

/-- 'vellumlaw04.CpuSteps', WHERE WHAT IT READS IS OF BULK AT MOST 1048576: true; the input reads as it did. -/
def cpuStepsUptoRow : OpenClaim := { program := "ythkcloapiefggaagreatdoor", sum := "034a86dcc7c4d44499bb559a331413c65c5e2632b3d7c8f9870841efd1541e80", func := "vellum/vellumlaw04.CpuSteps", spec := "cpuSteps", unfollowed := true, recurses := true, named := ["vellum/isa.formats"], apart := false, laid := [("vellum/isa.formats", laid_vellum_isa_formats)], narrowed := true }
def CpuStepsUptoSaid : Prop := cpuStepsUptoRow.holds Tryz.pinned (OpenSpec.upto cpuStepsSpec)

/-- 'vellumlaw04.CpuSingle', WHERE WHAT IT READS IS OF BULK AT MOST 1048576: true; the input reads as it did. -/
def cpuSingleUptoRow : OpenClaim := { program := "ythkcloapiefggaagreatdoor", sum := "034a86dcc7c4d44499bb559a331413c65c5e2632b3d7c8f9870841efd1541e80", func := "vellum/vellumlaw04.CpuSingle", spec := "cpuSingle", unfollowed := true, recurses := true, named := ["vellum/isa.formats"], apart := false, laid := [("vellum/isa.formats", laid_vellum_isa_formats)], narrowed := true }
def CpuSingleUptoSaid : Prop := cpuSingleUptoRow.holds Tryz.pinned (OpenSpec.upto cpuSingleSpec)

/-- 'vellumlaw04.CpuFetch', WHERE WHAT IT READS IS OF BULK AT MOST 1048576: true; the input reads as it did. -/
def cpuFetchUptoRow : OpenClaim := { program := "ythkcloapiefggaagreatdoor", sum := "034a86dcc7c4d44499bb559a331413c65c5e2632b3d7c8f9870841efd1541e80", func := "vellum/vellumlaw04.CpuFetch", spec := "cpuFetch", unfollowed := true, recurses := true, named := ["vellum/isa.formats"], apart := false, laid := [("vellum/isa.formats", laid_vellum_isa_formats)], narrowed := true }
def CpuFetchUptoSaid : Prop := cpuFetchUptoRow.holds Tryz.pinned (OpenSpec.upto cpuFetchSpec)

/-- 'vellumlaw04.CpuSplits', WHERE WHAT IT READS IS OF BULK AT MOST 1048576: true; the input reads as it did. -/
def cpuSplitsUptoRow : OpenClaim := { program := "ythkcloapiefggaagreatdoor", sum := "034a86dcc7c4d44499bb559a331413c65c5e2632b3d7c8f9870841efd1541e80", func := "vellum/vellumlaw04.CpuSplits", spec := "cpuSplits", unfollowed := true, recurses := true, named := ["vellum/isa.formats"], apart := false, laid := [("vellum/isa.formats", laid_vellum_isa_formats)], narrowed := true }
def CpuSplitsUptoSaid : Prop := cpuSplitsUptoRow.holds Tryz.pinned (OpenSpec.upto cpuSplitsSpec)

/-- 'vellumlaw04.CpuArith', WHERE WHAT IT READS IS OF BULK AT MOST 1048576: true; the input reads as it did. -/
def cpuArithUptoRow : OpenClaim := { program := "ythkcloapiefggaagreatdoor", sum := "034a86dcc7c4d44499bb559a331413c65c5e2632b3d7c8f9870841efd1541e80", func := "vellum/vellumlaw04.CpuArith", spec := "cpuArith", unfollowed := true, recurses := true, named := ["vellum/isa.formats"], apart := false, laid := [("vellum/isa.formats", laid_vellum_isa_formats)], narrowed := true }
def CpuArithUptoSaid : Prop := cpuArithUptoRow.holds Tryz.pinned (OpenSpec.upto cpuArithSpec)

/-- 'vellumlaw04.CpuStack', WHERE WHAT IT READS IS OF BULK AT MOST 1048576: true; the input reads as it did. -/
def cpuStackUptoRow : OpenClaim := { program := "ythkcloapiefggaagreatdoor", sum := "034a86dcc7c4d44499bb559a331413c65c5e2632b3d7c8f9870841efd1541e80", func := "vellum/vellumlaw04.CpuStack", spec := "cpuStack", unfollowed := true, recurses := true, named := ["vellum/isa.formats"], apart := false, laid := [("vellum/isa.formats", laid_vellum_isa_formats)], narrowed := true }
def CpuStackUptoSaid : Prop := cpuStackUptoRow.holds Tryz.pinned (OpenSpec.upto cpuStackSpec)

/-- 'vellumlaw04.CpuCalls', WHERE WHAT IT READS IS OF BULK AT MOST 1048576: true; the input reads as it did. -/
def cpuCallsUptoRow : OpenClaim := { program := "ythkcloapiefggaagreatdoor", sum := "034a86dcc7c4d44499bb559a331413c65c5e2632b3d7c8f9870841efd1541e80", func := "vellum/vellumlaw04.CpuCalls", spec := "cpuCalls", unfollowed := true, recurses := true, named := ["vellum/isa.formats"], apart := false, laid := [("vellum/isa.formats", laid_vellum_isa_formats)], narrowed := true }
def CpuCallsUptoSaid : Prop := cpuCallsUptoRow.holds Tryz.pinned (OpenSpec.upto cpuCallsSpec)

/-- 'vellumlaw04.CpuSame', WHERE WHAT IT READS IS OF BULK AT MOST 1048576: true; the input reads as it did. -/
def cpuSameUptoRow : OpenClaim := { program := "ythkcloapiefggaagreatdoor", sum := "034a86dcc7c4d44499bb559a331413c65c5e2632b3d7c8f9870841efd1541e80", func := "vellum/vellumlaw04.CpuSame", spec := "cpuSame", unfollowed := true, recurses := true, named := ["vellum/isa.formats"], apart := false, laid := [("vellum/isa.formats", laid_vellum_isa_formats)], narrowed := true }
def CpuSameUptoSaid : Prop := cpuSameUptoRow.holds Tryz.pinned (OpenSpec.upto cpuSameSpec)

end Rows
end Go.Proofs.YthkcloapiefggaaGreatDoor
