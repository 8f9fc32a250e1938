/-
  DERIVED. GIVEN WITH THE SEED: THE CARDS: each row of YtkbkdbnmpicidaaDoorRows.lean that lists a variable, with what it lists TIED to the program's text (the seventh form; the later family's looks); each row that meets fmt, with fmt's text TOLD by the authors' own Lean function (tested against real Go, not proved from fmt's source: count such statements apart). THE CARD IS WHAT COUNTS. Prove the row's statement (the work); the ties are given (YtkbkdbnmpicidaaDoorTie.lean); close each card by the builder's one call (the guide's Derived/Test/ToyasCard.lean, 'card_holds'). Laid BY PROGRAM, IN A SANDBOX (cutbox-door.mjs). By AI agents, Wed Nov 11 2026. No macro, syntax, notation, axiom, sorry.
-/
import Derived.Test.YtkbkdbnmpicidaaDoorRows
import GoSem.ClaimSeven
namespace Go.Proofs.YtkbkdbnmpicidaaDoor
namespace Rows

/-- THE TIED CARD OF 'ladinglaw08.BlockReads'. -/
def blockReadsCard : Claim7 := { stood := { row := blockReadsRow, standIns := [], harness := (true, "8994d0a17a70686bd81e205f35c9c27dccee6352e1cc23e50483f75f5c3b6704"), looks := true }, kinds := [], alts := [], laidByText := true, laidKinds := [.handle], laidTests := true, laidLooks := .later }
def BlockReadsCardSaid : Prop := Claim7.holds Tryd.pinned (.plain (OpenSpec.ofChange blockReadsSpec)) blockReadsCard

/-- THE TIED CARD OF 'ladinglaw08.BlockLacks'. -/
def blockLacksCard : Claim7 := { stood := { row := blockLacksRow, standIns := [], harness := (true, "8994d0a17a70686bd81e205f35c9c27dccee6352e1cc23e50483f75f5c3b6704"), looks := true }, kinds := [], alts := [], laidByText := true, laidKinds := [.handle], laidTests := true, laidLooks := .later }
def BlockLacksCardSaid : Prop := Claim7.holds Tryd.pinned (.plain (OpenSpec.ofChange blockLacksSpec)) blockLacksCard

/-- THE TIED CARD OF 'ladinglaw08.BlockApart'. -/
def blockApartCard : Claim7 := { stood := { row := blockApartRow, standIns := [], harness := (true, "8994d0a17a70686bd81e205f35c9c27dccee6352e1cc23e50483f75f5c3b6704"), looks := true }, kinds := [], alts := [], laidByText := true, laidKinds := [.handle], laidTests := true, laidLooks := .later }
def BlockApartCardSaid : Prop := Claim7.holds Tryd.pinned (.plain (OpenSpec.ofChange blockApartSpec)) blockApartCard

/-- THE SECOND FORM's CARD OF 'ladinglaw08.BlockReads'. -/
def blockReadsUptoCard : Claim7 := { stood := { row := blockReadsUptoRow, standIns := [], harness := (true, "8994d0a17a70686bd81e205f35c9c27dccee6352e1cc23e50483f75f5c3b6704"), looks := true }, kinds := [], alts := [], laidByText := true, laidKinds := [.handle], laidTests := true, laidLooks := .later }
def BlockReadsUptoCardSaid : Prop := Claim7.holds Tryd.pinned (.plain (OpenSpec.upto blockReadsSpec)) blockReadsUptoCard

/-- THE SECOND FORM's CARD OF 'ladinglaw08.BlockLacks'. -/
def blockLacksUptoCard : Claim7 := { stood := { row := blockLacksUptoRow, standIns := [], harness := (true, "8994d0a17a70686bd81e205f35c9c27dccee6352e1cc23e50483f75f5c3b6704"), looks := true }, kinds := [], alts := [], laidByText := true, laidKinds := [.handle], laidTests := true, laidLooks := .later }
def BlockLacksUptoCardSaid : Prop := Claim7.holds Tryd.pinned (.plain (OpenSpec.upto blockLacksSpec)) blockLacksUptoCard

/-- THE SECOND FORM's CARD OF 'ladinglaw08.BlockApart'. -/
def blockApartUptoCard : Claim7 := { stood := { row := blockApartUptoRow, standIns := [], harness := (true, "8994d0a17a70686bd81e205f35c9c27dccee6352e1cc23e50483f75f5c3b6704"), looks := true }, kinds := [], alts := [], laidByText := true, laidKinds := [.handle], laidTests := true, laidLooks := .later }
def BlockApartUptoCardSaid : Prop := Claim7.holds Tryd.pinned (.plain (OpenSpec.upto blockApartSpec)) blockApartUptoCard
end Rows
end Go.Proofs.YtkbkdbnmpicidaaDoor
