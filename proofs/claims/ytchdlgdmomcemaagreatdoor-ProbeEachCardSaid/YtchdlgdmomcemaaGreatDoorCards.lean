/-
  DERIVED. GIVEN WITH THE SEED: THE CARDS: each row of YtchdlgdmomcemaaGreatDoorRows.lean that lists a variable, with what it lists TIED to the program's text (the seventh form; the later family's looks); each row that meets fmt, with fmt's text TOLD by the authors' own Lean function (tested against real Go, not proved from fmt's source: count such statements apart). THE CARD IS WHAT COUNTS. Prove the row's statement (the work); the ties are given (YtchdlgdmomcemaaGreatDoorTie.lean); close each card by the builder's one call (the guide's Derived/Test/ToyasCard.lean, 'card_holds'). Laid BY PROGRAM, IN A SANDBOX (cutbox-door.mjs). By AI agents, Wed Nov 11 2026. No macro, syntax, notation, axiom, sorry.
-/
import Derived.Test.YtchdlgdmomcemaaGreatDoorRows
import GoSem.ClaimSeven
namespace Go.Proofs.YtchdlgdmomcemaaGreatDoor
namespace Rows

/-- THE TIED CARD OF 'ladinglaw12.ProbeReads'. -/
def probeReadsCard : Claim7 := { stood := { row := probeReadsRow, standIns := [], harness := (true, "5cf30ca96b4e4edd05dbbef1a8e0a7f378ba046bfbb963bcbd1634d3fda59990"), looks := true }, kinds := [], alts := [], laidByText := true, laidKinds := [.data, .data, .handle], laidTests := true, laidLooks := .later }
def ProbeReadsCardSaid : Prop := Claim7.holds Tryz.pinned (.plain (OpenSpec.ofChange probeReadsSpec)) probeReadsCard

/-- THE TIED CARD OF 'ladinglaw12.ProbeEach'. -/
def probeEachCard : Claim7 := { stood := { row := probeEachRow, standIns := [], harness := (true, "5cf30ca96b4e4edd05dbbef1a8e0a7f378ba046bfbb963bcbd1634d3fda59990"), looks := true }, kinds := [], alts := [], laidByText := true, laidKinds := [.data, .data], laidTests := true, laidLooks := .later }
def ProbeEachCardSaid : Prop := Claim7.holds Tryz.pinned (.plain (OpenSpec.ofChange probeEachSpec)) probeEachCard

/-- THE SECOND FORM's CARD OF 'ladinglaw12.ProbeReads'. -/
def probeReadsUptoCard : Claim7 := { stood := { row := probeReadsUptoRow, standIns := [], harness := (true, "5cf30ca96b4e4edd05dbbef1a8e0a7f378ba046bfbb963bcbd1634d3fda59990"), looks := true }, kinds := [], alts := [], laidByText := true, laidKinds := [.data, .data, .handle], laidTests := true, laidLooks := .later }
def ProbeReadsUptoCardSaid : Prop := Claim7.holds Tryz.pinned (.plain (OpenSpec.upto probeReadsSpec)) probeReadsUptoCard

/-- THE SECOND FORM's CARD OF 'ladinglaw12.ProbeEach'. -/
def probeEachUptoCard : Claim7 := { stood := { row := probeEachUptoRow, standIns := [], harness := (true, "5cf30ca96b4e4edd05dbbef1a8e0a7f378ba046bfbb963bcbd1634d3fda59990"), looks := true }, kinds := [], alts := [], laidByText := true, laidKinds := [.data, .data], laidTests := true, laidLooks := .later }
def ProbeEachUptoCardSaid : Prop := Claim7.holds Tryz.pinned (.plain (OpenSpec.upto probeEachSpec)) probeEachUptoCard
end Rows
end Go.Proofs.YtchdlgdmomcemaaGreatDoor
