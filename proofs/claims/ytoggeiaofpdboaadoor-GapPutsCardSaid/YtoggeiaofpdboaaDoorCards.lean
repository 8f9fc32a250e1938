/-
  DERIVED. GIVEN WITH THE SEED: THE CARDS: each row of YtoggeiaofpdboaaDoorRows.lean that lists a variable, with what it lists TIED to the program's text (the seventh form; the later family's looks); each row that meets fmt, with fmt's text TOLD by the authors' own Lean function (tested against real Go, not proved from fmt's source: count such statements apart). THE CARD IS WHAT COUNTS. Prove the row's statement (the work); the ties are given (YtoggeiaofpdboaaDoorTie.lean); close each card by the builder's one call (the guide's Derived/Test/ToyasCard.lean, 'card_holds'). Laid BY PROGRAM, IN A SANDBOX (cutbox-door.mjs). By AI agents, Wed Nov 11 2026. No macro, syntax, notation, axiom, sorry.
-/
import Derived.Test.YtoggeiaofpdboaaDoorRows
import GoSem.ClaimSeven
namespace Go.Proofs.YtoggeiaofpdboaaDoor
namespace Rows

/-- THE TIED CARD OF 'ladinglaw06.GapPuts'. -/
def gapPutsCard : Claim7 := { stood := { row := gapPutsRow, standIns := [], harness := (true, "8d87cab14fef75048cdf37b0b62a850ac544ead7521a4a52dfea8ca4cdbf0283"), looks := true }, kinds := [], alts := [], laidByText := true, laidKinds := [.handle], laidTests := true, laidLooks := .later }
def GapPutsCardSaid : Prop := Claim7.holds Tryd.pinned (.plain (OpenSpec.ofChange gapPutsSpec)) gapPutsCard

/-- THE TIED CARD OF 'ladinglaw06.GapGets'. -/
def gapGetsCard : Claim7 := { stood := { row := gapGetsRow, standIns := [], harness := (true, "8d87cab14fef75048cdf37b0b62a850ac544ead7521a4a52dfea8ca4cdbf0283"), looks := true }, kinds := [], alts := [], laidByText := true, laidKinds := [.handle], laidTests := true, laidLooks := .later }
def GapGetsCardSaid : Prop := Claim7.holds Tryd.pinned (.plain (OpenSpec.ofChange gapGetsSpec)) gapGetsCard

/-- THE SECOND FORM's CARD OF 'ladinglaw06.GapPuts'. -/
def gapPutsUptoCard : Claim7 := { stood := { row := gapPutsUptoRow, standIns := [], harness := (true, "8d87cab14fef75048cdf37b0b62a850ac544ead7521a4a52dfea8ca4cdbf0283"), looks := true }, kinds := [], alts := [], laidByText := true, laidKinds := [.handle], laidTests := true, laidLooks := .later }
def GapPutsUptoCardSaid : Prop := Claim7.holds Tryd.pinned (.plain (OpenSpec.upto gapPutsSpec)) gapPutsUptoCard

/-- THE SECOND FORM's CARD OF 'ladinglaw06.GapGets'. -/
def gapGetsUptoCard : Claim7 := { stood := { row := gapGetsUptoRow, standIns := [], harness := (true, "8d87cab14fef75048cdf37b0b62a850ac544ead7521a4a52dfea8ca4cdbf0283"), looks := true }, kinds := [], alts := [], laidByText := true, laidKinds := [.handle], laidTests := true, laidLooks := .later }
def GapGetsUptoCardSaid : Prop := Claim7.holds Tryd.pinned (.plain (OpenSpec.upto gapGetsSpec)) gapGetsUptoCard
end Rows
end Go.Proofs.YtoggeiaofpdboaaDoor
