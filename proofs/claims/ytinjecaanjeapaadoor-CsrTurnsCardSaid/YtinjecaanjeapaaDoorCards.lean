/-
  DERIVED. GIVEN WITH THE SEED: THE CARDS: each row of YtinjecaanjeapaaDoorRows.lean that lists a variable, with what it lists TIED to the program's text (the seventh form; the later family's looks); each row that meets fmt, with fmt's text TOLD by the authors' own Lean function (tested against real Go, not proved from fmt's source: count such statements apart). THE CARD IS WHAT COUNTS. Prove the row's statement (the work); the ties are given (YtinjecaanjeapaaDoorTie.lean); close each card by the builder's one call (the guide's Derived/Test/ToyasCard.lean, 'card_holds'). Laid BY PROGRAM, IN A SANDBOX (cutbox-door.mjs). By AI agents, Wed Nov 11 2026. No macro, syntax, notation, axiom, sorry.
-/
import Derived.Test.YtinjecaanjeapaaDoorRows
import GoSem.ClaimSeven
namespace Go.Proofs.YtinjecaanjeapaaDoor
namespace Rows

/-- THE TIED CARD OF 'ladinglaw05.CsrRows'. -/
def csrRowsCard : Claim7 := { stood := { row := csrRowsRow, standIns := [], harness := (true, "64f5e952546685f755393d6e249d61d32a1b07935711c7f7cafafbe45babad4f"), looks := true }, kinds := [], alts := [], laidByText := true, laidKinds := [.handle], laidTests := true, laidLooks := .later }
def CsrRowsCardSaid : Prop := Claim7.holds Tryd.pinned (.plain (OpenSpec.ofChange csrRowsSpec)) csrRowsCard

/-- THE TIED CARD OF 'ladinglaw05.CsrTurns'. -/
def csrTurnsCard : Claim7 := { stood := { row := csrTurnsRow, standIns := [], harness := (true, "64f5e952546685f755393d6e249d61d32a1b07935711c7f7cafafbe45babad4f"), looks := true }, kinds := [], alts := [], laidByText := true, laidKinds := [.handle], laidTests := true, laidLooks := .later }
def CsrTurnsCardSaid : Prop := Claim7.holds Tryd.pinned (.plain (OpenSpec.ofChange csrTurnsSpec)) csrTurnsCard

/-- THE SECOND FORM's CARD OF 'ladinglaw05.CsrRows'. -/
def csrRowsUptoCard : Claim7 := { stood := { row := csrRowsUptoRow, standIns := [], harness := (true, "64f5e952546685f755393d6e249d61d32a1b07935711c7f7cafafbe45babad4f"), looks := true }, kinds := [], alts := [], laidByText := true, laidKinds := [.handle], laidTests := true, laidLooks := .later }
def CsrRowsUptoCardSaid : Prop := Claim7.holds Tryd.pinned (.plain (OpenSpec.upto csrRowsSpec)) csrRowsUptoCard

/-- THE SECOND FORM's CARD OF 'ladinglaw05.CsrTurns'. -/
def csrTurnsUptoCard : Claim7 := { stood := { row := csrTurnsUptoRow, standIns := [], harness := (true, "64f5e952546685f755393d6e249d61d32a1b07935711c7f7cafafbe45babad4f"), looks := true }, kinds := [], alts := [], laidByText := true, laidKinds := [.handle], laidTests := true, laidLooks := .later }
def CsrTurnsUptoCardSaid : Prop := Claim7.holds Tryd.pinned (.plain (OpenSpec.upto csrTurnsSpec)) csrTurnsUptoCard
end Rows
end Go.Proofs.YtinjecaanjeapaaDoor
