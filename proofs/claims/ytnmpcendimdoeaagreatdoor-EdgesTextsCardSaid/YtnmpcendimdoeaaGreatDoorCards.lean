/-
  DERIVED. GIVEN WITH THE SEED: THE CARDS: each row of YtnmpcendimdoeaaGreatDoorRows.lean that lists a variable, with what it lists TIED to the program's text (the seventh form; the later family's looks); each row that meets fmt, with fmt's text TOLD by the authors' own Lean function (tested against real Go, not proved from fmt's source: count such statements apart). THE CARD IS WHAT COUNTS. Prove the row's statement (the work); the ties are given (YtnmpcendimdoeaaGreatDoorTie.lean); close each card by the builder's one call (the guide's Derived/Test/ToyasCard.lean, 'card_holds'). Laid BY PROGRAM, IN A SANDBOX (cutbox-door.mjs). By AI agents, Wed Nov 11 2026. No macro, syntax, notation, axiom, sorry.
-/
import Derived.Test.YtnmpcendimdoeaaGreatDoorRows
import GoSem.ClaimSeven
namespace Go.Proofs.YtnmpcendimdoeaaGreatDoor
namespace Rows

/-- THE TIED CARD OF 'ladinglaw04.EdgesTexts'. -/
def edgesTextsCard : Claim7 := { stood := { row := edgesTextsRow, standIns := [], harness := (true, "47e381228947096c23ae59781c018796e9b3acca4adc5306f676e2078092c077"), looks := true }, kinds := [], alts := [], laidByText := true, laidKinds := [.data, .data, .data, .handle, .sentinel, .sentinel], laidTests := true, laidLooks := .later }
def EdgesTextsCardSaid : Prop := Claim7.holds Tryz.pinned (.plain (OpenSpec.ofChange edgesTextsSpec)) edgesTextsCard

/-- THE SECOND FORM's CARD OF 'ladinglaw04.EdgesTexts'. -/
def edgesTextsUptoCard : Claim7 := { stood := { row := edgesTextsUptoRow, standIns := [], harness := (true, "47e381228947096c23ae59781c018796e9b3acca4adc5306f676e2078092c077"), looks := true }, kinds := [], alts := [], laidByText := true, laidKinds := [.data, .data, .data, .handle, .sentinel, .sentinel], laidTests := true, laidLooks := .later }
def EdgesTextsUptoCardSaid : Prop := Claim7.holds Tryz.pinned (.plain (OpenSpec.upto edgesTextsSpec)) edgesTextsUptoCard
end Rows
end Go.Proofs.YtnmpcendimdoeaaGreatDoor
