/-
  DERIVED. GIVEN WITH THE SEED: THE CARDS: each row of YtaikghenimfjcaaDoorRows.lean that lists a variable, with what it lists TIED to the program's text (the seventh form; the later family's looks); each row that meets fmt, with fmt's text TOLD by the authors' own Lean function (tested against real Go, not proved from fmt's source: count such statements apart). THE CARD IS WHAT COUNTS. Prove the row's statement (the work); the ties are given (YtaikghenimfjcaaDoorTie.lean); close each card by the builder's one call (the guide's Derived/Test/ToyasCard.lean, 'card_holds'). Laid BY PROGRAM, IN A SANDBOX (cutbox-door.mjs). By AI agents, Wed Nov 11 2026. No macro, syntax, notation, axiom, sorry.
-/
import Derived.Test.YtaikghenimfjcaaDoorRows
import GoSem.ClaimSeven
namespace Go.Proofs.YtaikghenimfjcaaDoor
namespace Rows

/-- THE TIED CARD OF 'ladinglaw11.AskSearches'. -/
def askSearchesCard : Claim7 := { stood := { row := askSearchesRow, standIns := [], harness := (true, "f95b26298f232658d1673165005594366fe313c2656073ae1b733cd9463a73e6"), looks := true }, kinds := [], alts := [], laidByText := true, laidKinds := [.handle], laidTests := true, laidLooks := .later }
def AskSearchesCardSaid : Prop := Claim7.holds Tryd.pinned (.plain (OpenSpec.ofChange askSearchesSpec)) askSearchesCard

/-- THE TIED CARD OF 'ladinglaw11.AskPaths'. -/
def askPathsCard : Claim7 := { stood := { row := askPathsRow, standIns := [], harness := (true, "f95b26298f232658d1673165005594366fe313c2656073ae1b733cd9463a73e6"), looks := true }, kinds := [], alts := [], laidByText := true, laidKinds := [.handle], laidTests := true, laidLooks := .later }
def AskPathsCardSaid : Prop := Claim7.holds Tryd.pinned (.plain (OpenSpec.ofChange askPathsSpec)) askPathsCard

/-- THE TIED CARD OF 'ladinglaw11.AskTurned'. -/
def askTurnedCard : Claim7 := { stood := { row := askTurnedRow, standIns := [], harness := (true, "f95b26298f232658d1673165005594366fe313c2656073ae1b733cd9463a73e6"), looks := true }, kinds := [], alts := [], laidByText := true, laidKinds := [.handle], laidTests := true, laidLooks := .later }
def AskTurnedCardSaid : Prop := Claim7.holds Tryd.pinned (.plain (OpenSpec.ofChange askTurnedSpec)) askTurnedCard

/-- THE SECOND FORM's CARD OF 'ladinglaw11.AskSearches'. -/
def askSearchesUptoCard : Claim7 := { stood := { row := askSearchesUptoRow, standIns := [], harness := (true, "f95b26298f232658d1673165005594366fe313c2656073ae1b733cd9463a73e6"), looks := true }, kinds := [], alts := [], laidByText := true, laidKinds := [.handle], laidTests := true, laidLooks := .later }
def AskSearchesUptoCardSaid : Prop := Claim7.holds Tryd.pinned (.plain (OpenSpec.upto askSearchesSpec)) askSearchesUptoCard

/-- THE SECOND FORM's CARD OF 'ladinglaw11.AskPaths'. -/
def askPathsUptoCard : Claim7 := { stood := { row := askPathsUptoRow, standIns := [], harness := (true, "f95b26298f232658d1673165005594366fe313c2656073ae1b733cd9463a73e6"), looks := true }, kinds := [], alts := [], laidByText := true, laidKinds := [.handle], laidTests := true, laidLooks := .later }
def AskPathsUptoCardSaid : Prop := Claim7.holds Tryd.pinned (.plain (OpenSpec.upto askPathsSpec)) askPathsUptoCard

/-- THE SECOND FORM's CARD OF 'ladinglaw11.AskTurned'. -/
def askTurnedUptoCard : Claim7 := { stood := { row := askTurnedUptoRow, standIns := [], harness := (true, "f95b26298f232658d1673165005594366fe313c2656073ae1b733cd9463a73e6"), looks := true }, kinds := [], alts := [], laidByText := true, laidKinds := [.handle], laidTests := true, laidLooks := .later }
def AskTurnedUptoCardSaid : Prop := Claim7.holds Tryd.pinned (.plain (OpenSpec.upto askTurnedSpec)) askTurnedUptoCard
end Rows
end Go.Proofs.YtaikghenimfjcaaDoor
