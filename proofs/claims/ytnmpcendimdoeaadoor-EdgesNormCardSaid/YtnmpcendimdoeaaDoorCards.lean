/-
  DERIVED. GIVEN WITH THE SEED: THE CARDS: each row of YtnmpcendimdoeaaDoorRows.lean that lists a variable, with what it lists TIED to the program's text (the seventh form; the later family's looks); each row that meets fmt, with fmt's text TOLD by the authors' own Lean function (tested against real Go, not proved from fmt's source: count such statements apart). THE CARD IS WHAT COUNTS. Prove the row's statement (the work); the ties are given (YtnmpcendimdoeaaDoorTie.lean); close each card by the builder's one call (the guide's Derived/Test/ToyasCard.lean, 'card_holds'). Laid BY PROGRAM, IN A SANDBOX (cutbox-door.mjs). By AI agents, Wed Nov 11 2026. No macro, syntax, notation, axiom, sorry.
-/
import Derived.Test.YtnmpcendimdoeaaDoorRows
import GoSem.ClaimSeven
namespace Go.Proofs.YtnmpcendimdoeaaDoor
namespace Rows

/-- THE TIED CARD OF 'ladinglaw04.EdgesNorm'. -/
def edgesNormCard : Claim7 := { stood := { row := edgesNormRow, standIns := [], harness := (true, "cfe2091b6fe5d52df04848378f6a3859e0684989dfee9efda50c0db2489105df"), looks := true }, kinds := [], alts := [], laidByText := true, laidKinds := [.handle], laidTests := true, laidLooks := .later }
def EdgesNormCardSaid : Prop := Claim7.holds Tryd.pinned (.plain (OpenSpec.ofChange edgesNormSpec)) edgesNormCard

/-- THE SECOND FORM's CARD OF 'ladinglaw04.EdgesNorm'. -/
def edgesNormUptoCard : Claim7 := { stood := { row := edgesNormUptoRow, standIns := [], harness := (true, "cfe2091b6fe5d52df04848378f6a3859e0684989dfee9efda50c0db2489105df"), looks := true }, kinds := [], alts := [], laidByText := true, laidKinds := [.handle], laidTests := true, laidLooks := .later }
def EdgesNormUptoCardSaid : Prop := Claim7.holds Tryd.pinned (.plain (OpenSpec.upto edgesNormSpec)) edgesNormUptoCard
end Rows
end Go.Proofs.YtnmpcendimdoeaaDoor
