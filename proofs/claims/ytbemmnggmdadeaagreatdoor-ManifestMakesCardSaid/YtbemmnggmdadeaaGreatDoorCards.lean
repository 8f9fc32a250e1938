/-
  DERIVED. GIVEN WITH THE SEED: THE CARDS: each row of YtbemmnggmdadeaaGreatDoorRows.lean that lists a variable, with what it lists TIED to the program's text (the seventh form; the later family's looks); each row that meets fmt, with fmt's text TOLD by the authors' own Lean function (tested against real Go, not proved from fmt's source: count such statements apart). THE CARD IS WHAT COUNTS. Prove the row's statement (the work); the ties are given (YtbemmnggmdadeaaGreatDoorTie.lean); close each card by the builder's one call (the guide's Derived/Test/ToyasCard.lean, 'card_holds'). Laid BY PROGRAM, IN A SANDBOX (cutbox-door.mjs). By AI agents, Wed Nov 11 2026. No macro, syntax, notation, axiom, sorry.
-/
import Derived.Test.YtbemmnggmdadeaaGreatDoorRows
import GoSem.ClaimSeven
namespace Go.Proofs.YtbemmnggmdadeaaGreatDoor
namespace Rows

/-- THE TIED CARD OF 'ladinglaw10.ManifestMakes'. -/
def manifestMakesCard : Claim7 := { stood := { row := manifestMakesRow, standIns := [], harness := (true, "e4cac09ef7094fbdb6d689131acf2a28258f3a772424cde35656d5fb55188061"), looks := true }, kinds := [], alts := [], laidByText := true, laidKinds := [.data, .data, .handle], laidTests := true, laidLooks := .later }
def ManifestMakesCardSaid : Prop := Claim7.holds Tryz.pinned (.plain (OpenSpec.ofChange manifestMakesSpec)) manifestMakesCard

/-- THE TIED CARD OF 'ladinglaw10.ManifestGets'. -/
def manifestGetsCard : Claim7 := { stood := { row := manifestGetsRow, standIns := [], harness := (true, "e4cac09ef7094fbdb6d689131acf2a28258f3a772424cde35656d5fb55188061"), looks := true }, kinds := [], alts := [], laidByText := true, laidKinds := [.data, .data, .handle], laidTests := true, laidLooks := .later }
def ManifestGetsCardSaid : Prop := Claim7.holds Tryz.pinned (.plain (OpenSpec.ofChange manifestGetsSpec)) manifestGetsCard

/-- THE TIED CARD OF 'ladinglaw10.ManifestSame'. -/
def manifestSameCard : Claim7 := { stood := { row := manifestSameRow, standIns := [], harness := (true, "e4cac09ef7094fbdb6d689131acf2a28258f3a772424cde35656d5fb55188061"), looks := true }, kinds := [], alts := [], laidByText := true, laidKinds := [.data, .data], laidTests := true, laidLooks := .later }
def ManifestSameCardSaid : Prop := Claim7.holds Tryz.pinned (.plain (OpenSpec.ofChange manifestSameSpec)) manifestSameCard

/-- THE TIED CARD OF 'ladinglaw10.ManifestVersions'. -/
def manifestVersionsCard : Claim7 := { stood := { row := manifestVersionsRow, standIns := [], harness := (true, "e4cac09ef7094fbdb6d689131acf2a28258f3a772424cde35656d5fb55188061"), looks := true }, kinds := [], alts := [], laidByText := true, laidKinds := [.data, .data, .handle], laidTests := true, laidLooks := .later }
def ManifestVersionsCardSaid : Prop := Claim7.holds Tryz.pinned (.plain (OpenSpec.ofChange manifestVersionsSpec)) manifestVersionsCard

/-- THE TIED CARD OF 'ladinglaw10.ManifestWhere'. -/
def manifestWhereCard : Claim7 := { stood := { row := manifestWhereRow, standIns := [], harness := (true, "e4cac09ef7094fbdb6d689131acf2a28258f3a772424cde35656d5fb55188061"), looks := true }, kinds := [], alts := [], laidByText := true, laidKinds := [.data, .data], laidTests := true, laidLooks := .later }
def ManifestWhereCardSaid : Prop := Claim7.holds Tryz.pinned (.plain (OpenSpec.ofChange manifestWhereSpec)) manifestWhereCard

/-- THE SECOND FORM's CARD OF 'ladinglaw10.ManifestMakes'. -/
def manifestMakesUptoCard : Claim7 := { stood := { row := manifestMakesUptoRow, standIns := [], harness := (true, "e4cac09ef7094fbdb6d689131acf2a28258f3a772424cde35656d5fb55188061"), looks := true }, kinds := [], alts := [], laidByText := true, laidKinds := [.data, .data, .handle], laidTests := true, laidLooks := .later }
def ManifestMakesUptoCardSaid : Prop := Claim7.holds Tryz.pinned (.plain (OpenSpec.upto manifestMakesSpec)) manifestMakesUptoCard

/-- THE SECOND FORM's CARD OF 'ladinglaw10.ManifestGets'. -/
def manifestGetsUptoCard : Claim7 := { stood := { row := manifestGetsUptoRow, standIns := [], harness := (true, "e4cac09ef7094fbdb6d689131acf2a28258f3a772424cde35656d5fb55188061"), looks := true }, kinds := [], alts := [], laidByText := true, laidKinds := [.data, .data, .handle], laidTests := true, laidLooks := .later }
def ManifestGetsUptoCardSaid : Prop := Claim7.holds Tryz.pinned (.plain (OpenSpec.upto manifestGetsSpec)) manifestGetsUptoCard

/-- THE SECOND FORM's CARD OF 'ladinglaw10.ManifestSame'. -/
def manifestSameUptoCard : Claim7 := { stood := { row := manifestSameUptoRow, standIns := [], harness := (true, "e4cac09ef7094fbdb6d689131acf2a28258f3a772424cde35656d5fb55188061"), looks := true }, kinds := [], alts := [], laidByText := true, laidKinds := [.data, .data], laidTests := true, laidLooks := .later }
def ManifestSameUptoCardSaid : Prop := Claim7.holds Tryz.pinned (.plain (OpenSpec.upto manifestSameSpec)) manifestSameUptoCard

/-- THE SECOND FORM's CARD OF 'ladinglaw10.ManifestVersions'. -/
def manifestVersionsUptoCard : Claim7 := { stood := { row := manifestVersionsUptoRow, standIns := [], harness := (true, "e4cac09ef7094fbdb6d689131acf2a28258f3a772424cde35656d5fb55188061"), looks := true }, kinds := [], alts := [], laidByText := true, laidKinds := [.data, .data, .handle], laidTests := true, laidLooks := .later }
def ManifestVersionsUptoCardSaid : Prop := Claim7.holds Tryz.pinned (.plain (OpenSpec.upto manifestVersionsSpec)) manifestVersionsUptoCard

/-- THE SECOND FORM's CARD OF 'ladinglaw10.ManifestWhere'. -/
def manifestWhereUptoCard : Claim7 := { stood := { row := manifestWhereUptoRow, standIns := [], harness := (true, "e4cac09ef7094fbdb6d689131acf2a28258f3a772424cde35656d5fb55188061"), looks := true }, kinds := [], alts := [], laidByText := true, laidKinds := [.data, .data], laidTests := true, laidLooks := .later }
def ManifestWhereUptoCardSaid : Prop := Claim7.holds Tryz.pinned (.plain (OpenSpec.upto manifestWhereSpec)) manifestWhereUptoCard
end Rows
end Go.Proofs.YtbemmnggmdadeaaGreatDoor
