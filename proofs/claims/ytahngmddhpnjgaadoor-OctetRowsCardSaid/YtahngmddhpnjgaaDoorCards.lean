/-
  DERIVED. GIVEN WITH THE SEED: THE CARDS: each row of YtahngmddhpnjgaaDoorRows.lean that lists a variable, with what it lists TIED to the program's text (the seventh form; the later family's looks); each row that meets fmt, with fmt's text TOLD by the authors' own Lean function (tested against real Go, not proved from fmt's source: count such statements apart). THE CARD IS WHAT COUNTS. Prove the row's statement (the work); the ties are given (YtahngmddhpnjgaaDoorTie.lean); close each card by the builder's one call (the guide's Derived/Test/ToyasCard.lean, 'card_holds'). Laid BY PROGRAM, IN A SANDBOX (cutbox-door.mjs). By AI agents, Wed Nov 11 2026. No macro, syntax, notation, axiom, sorry.
-/
import Derived.Test.YtahngmddhpnjgaaDoorRows
import GoSem.ClaimSeven
namespace Go.Proofs.YtahngmddhpnjgaaDoor
namespace Rows

/-- THE TIED CARD OF 'ladinglaw01.OctetFixed'. -/
def octetFixedCard : Claim7 := { stood := { row := octetFixedRow, standIns := [], harness := (true, "2b05d305e78292c21b25997a8863f4906f3a583c385149fe01336abc85e7f309"), looks := true }, kinds := [], alts := [], laidByText := true, laidKinds := [.handle], laidTests := true, laidLooks := .later }
def OctetFixedCardSaid : Prop := Claim7.holds Tryd.pinned (.plain (OpenSpec.ofChange octetFixedSpec)) octetFixedCard

/-- THE TIED CARD OF 'ladinglaw01.OctetShort'. -/
def octetShortCard : Claim7 := { stood := { row := octetShortRow, standIns := [], harness := (true, "2b05d305e78292c21b25997a8863f4906f3a583c385149fe01336abc85e7f309"), looks := true }, kinds := [], alts := [], laidByText := true, laidKinds := [.handle], laidTests := true, laidLooks := .later }
def OctetShortCardSaid : Prop := Claim7.holds Tryd.pinned (.plain (OpenSpec.ofChange octetShortSpec)) octetShortCard

/-- THE TIED CARD OF 'ladinglaw01.OctetRows'. -/
def octetRowsCard : Claim7 := { stood := { row := octetRowsRow, standIns := [], harness := (true, "2b05d305e78292c21b25997a8863f4906f3a583c385149fe01336abc85e7f309"), looks := true }, kinds := [], alts := [], laidByText := true, laidKinds := [.handle], laidTests := true, laidLooks := .later }
def OctetRowsCardSaid : Prop := Claim7.holds Tryd.pinned (.plain (OpenSpec.ofChange octetRowsSpec)) octetRowsCard

/-- THE SECOND FORM's CARD OF 'ladinglaw01.OctetFixed'. -/
def octetFixedUptoCard : Claim7 := { stood := { row := octetFixedUptoRow, standIns := [], harness := (true, "2b05d305e78292c21b25997a8863f4906f3a583c385149fe01336abc85e7f309"), looks := true }, kinds := [], alts := [], laidByText := true, laidKinds := [.handle], laidTests := true, laidLooks := .later }
def OctetFixedUptoCardSaid : Prop := Claim7.holds Tryd.pinned (.plain (OpenSpec.upto octetFixedSpec)) octetFixedUptoCard

/-- THE SECOND FORM's CARD OF 'ladinglaw01.OctetShort'. -/
def octetShortUptoCard : Claim7 := { stood := { row := octetShortUptoRow, standIns := [], harness := (true, "2b05d305e78292c21b25997a8863f4906f3a583c385149fe01336abc85e7f309"), looks := true }, kinds := [], alts := [], laidByText := true, laidKinds := [.handle], laidTests := true, laidLooks := .later }
def OctetShortUptoCardSaid : Prop := Claim7.holds Tryd.pinned (.plain (OpenSpec.upto octetShortSpec)) octetShortUptoCard

/-- THE SECOND FORM's CARD OF 'ladinglaw01.OctetRows'. -/
def octetRowsUptoCard : Claim7 := { stood := { row := octetRowsUptoRow, standIns := [], harness := (true, "2b05d305e78292c21b25997a8863f4906f3a583c385149fe01336abc85e7f309"), looks := true }, kinds := [], alts := [], laidByText := true, laidKinds := [.handle], laidTests := true, laidLooks := .later }
def OctetRowsUptoCardSaid : Prop := Claim7.holds Tryd.pinned (.plain (OpenSpec.upto octetRowsSpec)) octetRowsUptoCard
end Rows
end Go.Proofs.YtahngmddhpnjgaaDoor
