/-
  DERIVED. GIVEN WITH THE SEED: THE CARDS: each row of YthkcloapiefggaaDoorRows.lean that lists a variable, with what it lists TIED to the program's text (the seventh form; the later family's looks); each row that meets fmt, with fmt's text TOLD by the authors' own Lean function (tested against real Go, not proved from fmt's source: count such statements apart). THE CARD IS WHAT COUNTS. Prove the row's statement (the work); the ties are given (YthkcloapiefggaaDoorTie.lean); close each card by the builder's one call (the guide's Derived/Test/ToyasCard.lean, 'card_holds'). Laid BY PROGRAM, IN A SANDBOX (cutbox-door.mjs). By AI agents, Wed Nov 11 2026. No macro, syntax, notation, axiom, sorry.
-/
import Derived.Test.YthkcloapiefggaaDoorRows
import GoSem.ClaimSeven
namespace Go.Proofs.YthkcloapiefggaaDoor
namespace Rows

/-- THE TIED CARD OF 'vellumlaw04.CpuPolls'. -/
def cpuPollsCard : Claim7 := { stood := { row := cpuPollsRow, standIns := [], harness := (true, "0e1305477f04820f317069eec70447ab0bfc526173f4b5cd5bc98a935f2dd232"), looks := true }, kinds := [], alts := [], laidByText := true, laidKinds := [.data], laidTests := true, laidLooks := .later }
def CpuPollsCardSaid : Prop := Claim7.holds Tryd.pinned (.plain (OpenSpec.ofChange cpuPollsSpec)) cpuPollsCard

/-- THE TIED CARD OF 'vellumlaw04.CpuPorts'. -/
def cpuPortsCard : Claim7 := { stood := { row := cpuPortsRow, standIns := [], harness := (true, "0e1305477f04820f317069eec70447ab0bfc526173f4b5cd5bc98a935f2dd232"), looks := true }, kinds := [], alts := [], laidByText := true, laidKinds := [.data], laidTests := true, laidLooks := .later }
def CpuPortsCardSaid : Prop := Claim7.holds Tryd.pinned (.plain (OpenSpec.ofChange cpuPortsSpec)) cpuPortsCard

/-- THE SECOND FORM's CARD OF 'vellumlaw04.CpuPolls'. -/
def cpuPollsUptoCard : Claim7 := { stood := { row := cpuPollsUptoRow, standIns := [], harness := (true, "0e1305477f04820f317069eec70447ab0bfc526173f4b5cd5bc98a935f2dd232"), looks := true }, kinds := [], alts := [], laidByText := true, laidKinds := [.data], laidTests := true, laidLooks := .later }
def CpuPollsUptoCardSaid : Prop := Claim7.holds Tryd.pinned (.plain (OpenSpec.upto cpuPollsSpec)) cpuPollsUptoCard

/-- THE SECOND FORM's CARD OF 'vellumlaw04.CpuPorts'. -/
def cpuPortsUptoCard : Claim7 := { stood := { row := cpuPortsUptoRow, standIns := [], harness := (true, "0e1305477f04820f317069eec70447ab0bfc526173f4b5cd5bc98a935f2dd232"), looks := true }, kinds := [], alts := [], laidByText := true, laidKinds := [.data], laidTests := true, laidLooks := .later }
def CpuPortsUptoCardSaid : Prop := Claim7.holds Tryd.pinned (.plain (OpenSpec.upto cpuPortsSpec)) cpuPortsUptoCard
end Rows
end Go.Proofs.YthkcloapiefggaaDoor
