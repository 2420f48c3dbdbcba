/-
  DERIVED. GIVEN WITH THE SEED: THE CARDS: each row of YthkcloapiefggaaGreatDoorRows.lean that lists a variable, with what it lists TIED to the program's text (the seventh form; the later family's looks); each row that meets fmt, with fmt's text TOLD by the authors' own Lean function (tested against real Go, not proved from fmt's source: count such statements apart). THE CARD IS WHAT COUNTS. Prove the row's statement (the work); the ties are given (YthkcloapiefggaaGreatDoorTie.lean); close each card by the builder's one call (the guide's Derived/Test/ToyasCard.lean, 'card_holds'). Laid BY PROGRAM, IN A SANDBOX (cutbox-door.mjs). By AI agents, Wed Nov 11 2026. No macro, syntax, notation, axiom, sorry.
-/
import Derived.Test.YthkcloapiefggaaGreatDoorRows
import GoSem.ClaimSeven
namespace Go.Proofs.YthkcloapiefggaaGreatDoor
namespace Rows

/-- THE TIED CARD OF 'vellumlaw04.CpuRuns'. -/
def cpuRunsCard : Claim7 := { stood := { row := cpuRunsRow, standIns := [], harness := (true, "d9f8d61743282063d8d135a9bb44825baa4bec56861086fe7aad0bf960af692c"), looks := true }, kinds := [], alts := [], laidByText := true, laidKinds := [.data], laidTests := true, laidLooks := .later }
def CpuRunsCardSaid : Prop := Claim7.holds Tryz.pinned (.plain (OpenSpec.ofChange cpuRunsSpec)) cpuRunsCard

/-- THE TIED CARD OF 'vellumlaw04.CpuSteps'. -/
def cpuStepsCard : Claim7 := { stood := { row := cpuStepsRow, standIns := [], harness := (true, "d9f8d61743282063d8d135a9bb44825baa4bec56861086fe7aad0bf960af692c"), looks := true }, kinds := [], alts := [], laidByText := true, laidKinds := [.data], laidTests := true, laidLooks := .later }
def CpuStepsCardSaid : Prop := Claim7.holds Tryz.pinned (.plain (OpenSpec.ofChange cpuStepsSpec)) cpuStepsCard

/-- THE TIED CARD OF 'vellumlaw04.CpuSingle'. -/
def cpuSingleCard : Claim7 := { stood := { row := cpuSingleRow, standIns := [], harness := (true, "d9f8d61743282063d8d135a9bb44825baa4bec56861086fe7aad0bf960af692c"), looks := true }, kinds := [], alts := [], laidByText := true, laidKinds := [.data], laidTests := true, laidLooks := .later }
def CpuSingleCardSaid : Prop := Claim7.holds Tryz.pinned (.plain (OpenSpec.ofChange cpuSingleSpec)) cpuSingleCard

/-- THE TIED CARD OF 'vellumlaw04.CpuFetch'. -/
def cpuFetchCard : Claim7 := { stood := { row := cpuFetchRow, standIns := [], harness := (true, "d9f8d61743282063d8d135a9bb44825baa4bec56861086fe7aad0bf960af692c"), looks := true }, kinds := [], alts := [], laidByText := true, laidKinds := [.data], laidTests := true, laidLooks := .later }
def CpuFetchCardSaid : Prop := Claim7.holds Tryz.pinned (.plain (OpenSpec.ofChange cpuFetchSpec)) cpuFetchCard

/-- THE TIED CARD OF 'vellumlaw04.CpuSplits'. -/
def cpuSplitsCard : Claim7 := { stood := { row := cpuSplitsRow, standIns := [], harness := (true, "d9f8d61743282063d8d135a9bb44825baa4bec56861086fe7aad0bf960af692c"), looks := true }, kinds := [], alts := [], laidByText := true, laidKinds := [.data], laidTests := true, laidLooks := .later }
def CpuSplitsCardSaid : Prop := Claim7.holds Tryz.pinned (.plain (OpenSpec.ofChange cpuSplitsSpec)) cpuSplitsCard

/-- THE TIED CARD OF 'vellumlaw04.CpuArith'. -/
def cpuArithCard : Claim7 := { stood := { row := cpuArithRow, standIns := [], harness := (true, "d9f8d61743282063d8d135a9bb44825baa4bec56861086fe7aad0bf960af692c"), looks := true }, kinds := [], alts := [], laidByText := true, laidKinds := [.data], laidTests := true, laidLooks := .later }
def CpuArithCardSaid : Prop := Claim7.holds Tryz.pinned (.plain (OpenSpec.ofChange cpuArithSpec)) cpuArithCard

/-- THE TIED CARD OF 'vellumlaw04.CpuStack'. -/
def cpuStackCard : Claim7 := { stood := { row := cpuStackRow, standIns := [], harness := (true, "d9f8d61743282063d8d135a9bb44825baa4bec56861086fe7aad0bf960af692c"), looks := true }, kinds := [], alts := [], laidByText := true, laidKinds := [.data], laidTests := true, laidLooks := .later }
def CpuStackCardSaid : Prop := Claim7.holds Tryz.pinned (.plain (OpenSpec.ofChange cpuStackSpec)) cpuStackCard

/-- THE TIED CARD OF 'vellumlaw04.CpuCalls'. -/
def cpuCallsCard : Claim7 := { stood := { row := cpuCallsRow, standIns := [], harness := (true, "d9f8d61743282063d8d135a9bb44825baa4bec56861086fe7aad0bf960af692c"), looks := true }, kinds := [], alts := [], laidByText := true, laidKinds := [.data], laidTests := true, laidLooks := .later }
def CpuCallsCardSaid : Prop := Claim7.holds Tryz.pinned (.plain (OpenSpec.ofChange cpuCallsSpec)) cpuCallsCard

/-- THE TIED CARD OF 'vellumlaw04.CpuSame'. -/
def cpuSameCard : Claim7 := { stood := { row := cpuSameRow, standIns := [], harness := (true, "d9f8d61743282063d8d135a9bb44825baa4bec56861086fe7aad0bf960af692c"), looks := true }, kinds := [], alts := [], laidByText := true, laidKinds := [.data], laidTests := true, laidLooks := .later }
def CpuSameCardSaid : Prop := Claim7.holds Tryz.pinned (.plain (OpenSpec.ofChange cpuSameSpec)) cpuSameCard

/-- THE SECOND FORM's CARD OF 'vellumlaw04.CpuRuns'. -/
def cpuRunsUptoCard : Claim7 := { stood := { row := cpuRunsUptoRow, standIns := [], harness := (true, "d9f8d61743282063d8d135a9bb44825baa4bec56861086fe7aad0bf960af692c"), looks := true }, kinds := [], alts := [], laidByText := true, laidKinds := [.data], laidTests := true, laidLooks := .later }
def CpuRunsUptoCardSaid : Prop := Claim7.holds Tryz.pinned (.plain (OpenSpec.upto cpuRunsSpec)) cpuRunsUptoCard

/-- THE SECOND FORM's CARD OF 'vellumlaw04.CpuSteps'. -/
def cpuStepsUptoCard : Claim7 := { stood := { row := cpuStepsUptoRow, standIns := [], harness := (true, "d9f8d61743282063d8d135a9bb44825baa4bec56861086fe7aad0bf960af692c"), looks := true }, kinds := [], alts := [], laidByText := true, laidKinds := [.data], laidTests := true, laidLooks := .later }
def CpuStepsUptoCardSaid : Prop := Claim7.holds Tryz.pinned (.plain (OpenSpec.upto cpuStepsSpec)) cpuStepsUptoCard

/-- THE SECOND FORM's CARD OF 'vellumlaw04.CpuSingle'. -/
def cpuSingleUptoCard : Claim7 := { stood := { row := cpuSingleUptoRow, standIns := [], harness := (true, "d9f8d61743282063d8d135a9bb44825baa4bec56861086fe7aad0bf960af692c"), looks := true }, kinds := [], alts := [], laidByText := true, laidKinds := [.data], laidTests := true, laidLooks := .later }
def CpuSingleUptoCardSaid : Prop := Claim7.holds Tryz.pinned (.plain (OpenSpec.upto cpuSingleSpec)) cpuSingleUptoCard

/-- THE SECOND FORM's CARD OF 'vellumlaw04.CpuFetch'. -/
def cpuFetchUptoCard : Claim7 := { stood := { row := cpuFetchUptoRow, standIns := [], harness := (true, "d9f8d61743282063d8d135a9bb44825baa4bec56861086fe7aad0bf960af692c"), looks := true }, kinds := [], alts := [], laidByText := true, laidKinds := [.data], laidTests := true, laidLooks := .later }
def CpuFetchUptoCardSaid : Prop := Claim7.holds Tryz.pinned (.plain (OpenSpec.upto cpuFetchSpec)) cpuFetchUptoCard

/-- THE SECOND FORM's CARD OF 'vellumlaw04.CpuSplits'. -/
def cpuSplitsUptoCard : Claim7 := { stood := { row := cpuSplitsUptoRow, standIns := [], harness := (true, "d9f8d61743282063d8d135a9bb44825baa4bec56861086fe7aad0bf960af692c"), looks := true }, kinds := [], alts := [], laidByText := true, laidKinds := [.data], laidTests := true, laidLooks := .later }
def CpuSplitsUptoCardSaid : Prop := Claim7.holds Tryz.pinned (.plain (OpenSpec.upto cpuSplitsSpec)) cpuSplitsUptoCard

/-- THE SECOND FORM's CARD OF 'vellumlaw04.CpuArith'. -/
def cpuArithUptoCard : Claim7 := { stood := { row := cpuArithUptoRow, standIns := [], harness := (true, "d9f8d61743282063d8d135a9bb44825baa4bec56861086fe7aad0bf960af692c"), looks := true }, kinds := [], alts := [], laidByText := true, laidKinds := [.data], laidTests := true, laidLooks := .later }
def CpuArithUptoCardSaid : Prop := Claim7.holds Tryz.pinned (.plain (OpenSpec.upto cpuArithSpec)) cpuArithUptoCard

/-- THE SECOND FORM's CARD OF 'vellumlaw04.CpuStack'. -/
def cpuStackUptoCard : Claim7 := { stood := { row := cpuStackUptoRow, standIns := [], harness := (true, "d9f8d61743282063d8d135a9bb44825baa4bec56861086fe7aad0bf960af692c"), looks := true }, kinds := [], alts := [], laidByText := true, laidKinds := [.data], laidTests := true, laidLooks := .later }
def CpuStackUptoCardSaid : Prop := Claim7.holds Tryz.pinned (.plain (OpenSpec.upto cpuStackSpec)) cpuStackUptoCard

/-- THE SECOND FORM's CARD OF 'vellumlaw04.CpuCalls'. -/
def cpuCallsUptoCard : Claim7 := { stood := { row := cpuCallsUptoRow, standIns := [], harness := (true, "d9f8d61743282063d8d135a9bb44825baa4bec56861086fe7aad0bf960af692c"), looks := true }, kinds := [], alts := [], laidByText := true, laidKinds := [.data], laidTests := true, laidLooks := .later }
def CpuCallsUptoCardSaid : Prop := Claim7.holds Tryz.pinned (.plain (OpenSpec.upto cpuCallsSpec)) cpuCallsUptoCard

/-- THE SECOND FORM's CARD OF 'vellumlaw04.CpuSame'. -/
def cpuSameUptoCard : Claim7 := { stood := { row := cpuSameUptoRow, standIns := [], harness := (true, "d9f8d61743282063d8d135a9bb44825baa4bec56861086fe7aad0bf960af692c"), looks := true }, kinds := [], alts := [], laidByText := true, laidKinds := [.data], laidTests := true, laidLooks := .later }
def CpuSameUptoCardSaid : Prop := Claim7.holds Tryz.pinned (.plain (OpenSpec.upto cpuSameSpec)) cpuSameUptoCard
end Rows
end Go.Proofs.YthkcloapiefggaaGreatDoor
