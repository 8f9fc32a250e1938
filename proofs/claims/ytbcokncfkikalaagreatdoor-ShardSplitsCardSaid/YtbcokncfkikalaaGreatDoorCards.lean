/-
  DERIVED. GIVEN WITH THE SEED: THE CARDS: each row of YtbcokncfkikalaaGreatDoorRows.lean that lists a variable, with what it lists TIED to the program's text (the seventh form; the later family's looks); each row that meets fmt, with fmt's text TOLD by the authors' own Lean function (tested against real Go, not proved from fmt's source: count such statements apart). THE CARD IS WHAT COUNTS. Prove the row's statement (the work); the ties are given (YtbcokncfkikalaaGreatDoorTie.lean); close each card by the builder's one call (the guide's Derived/Test/ToyasCard.lean, 'card_holds'). Laid BY PROGRAM, IN A SANDBOX (cutbox-door.mjs). By AI agents, Wed Nov 11 2026. No macro, syntax, notation, axiom, sorry.
-/
import Derived.Test.YtbcokncfkikalaaGreatDoorRows
import GoSem.ClaimSeven
namespace Go.Proofs.YtbcokncfkikalaaGreatDoor
namespace Rows

/-- THE TIED CARD OF 'ladinglaw07.ShardPuts'. -/
def shardPutsCard : Claim7 := { stood := { row := shardPutsRow, standIns := [], harness := (true, "ee221693312d11516825785b870baefd48f66660de6b87998b52a36820cb7b17"), looks := true }, kinds := [], alts := [], laidByText := true, laidKinds := [.handle], laidTests := true, laidLooks := .later }
def ShardPutsCardSaid : Prop := Claim7.holds Tryz.pinned (.plain (OpenSpec.ofChange shardPutsSpec)) shardPutsCard

/-- THE TIED CARD OF 'ladinglaw07.ShardGets'. -/
def shardGetsCard : Claim7 := { stood := { row := shardGetsRow, standIns := [], harness := (true, "ee221693312d11516825785b870baefd48f66660de6b87998b52a36820cb7b17"), looks := true }, kinds := [], alts := [], laidByText := true, laidKinds := [.handle], laidTests := true, laidLooks := .later }
def ShardGetsCardSaid : Prop := Claim7.holds Tryz.pinned (.plain (OpenSpec.ofChange shardGetsSpec)) shardGetsCard

/-- THE TIED CARD OF 'ladinglaw07.ShardSplits'. -/
def shardSplitsCard : Claim7 := { stood := { row := shardSplitsRow, standIns := [], harness := (true, "ee221693312d11516825785b870baefd48f66660de6b87998b52a36820cb7b17"), looks := true }, kinds := [], alts := [], laidByText := true, laidKinds := [.handle], laidTests := true, laidLooks := .later }
def ShardSplitsCardSaid : Prop := Claim7.holds Tryz.pinned (.plain (OpenSpec.ofChange shardSplitsSpec)) shardSplitsCard

/-- THE SECOND FORM's CARD OF 'ladinglaw07.ShardPuts'. -/
def shardPutsUptoCard : Claim7 := { stood := { row := shardPutsUptoRow, standIns := [], harness := (true, "ee221693312d11516825785b870baefd48f66660de6b87998b52a36820cb7b17"), looks := true }, kinds := [], alts := [], laidByText := true, laidKinds := [.handle], laidTests := true, laidLooks := .later }
def ShardPutsUptoCardSaid : Prop := Claim7.holds Tryz.pinned (.plain (OpenSpec.upto shardPutsSpec)) shardPutsUptoCard

/-- THE SECOND FORM's CARD OF 'ladinglaw07.ShardGets'. -/
def shardGetsUptoCard : Claim7 := { stood := { row := shardGetsUptoRow, standIns := [], harness := (true, "ee221693312d11516825785b870baefd48f66660de6b87998b52a36820cb7b17"), looks := true }, kinds := [], alts := [], laidByText := true, laidKinds := [.handle], laidTests := true, laidLooks := .later }
def ShardGetsUptoCardSaid : Prop := Claim7.holds Tryz.pinned (.plain (OpenSpec.upto shardGetsSpec)) shardGetsUptoCard

/-- THE SECOND FORM's CARD OF 'ladinglaw07.ShardSplits'. -/
def shardSplitsUptoCard : Claim7 := { stood := { row := shardSplitsUptoRow, standIns := [], harness := (true, "ee221693312d11516825785b870baefd48f66660de6b87998b52a36820cb7b17"), looks := true }, kinds := [], alts := [], laidByText := true, laidKinds := [.handle], laidTests := true, laidLooks := .later }
def ShardSplitsUptoCardSaid : Prop := Claim7.holds Tryz.pinned (.plain (OpenSpec.upto shardSplitsSpec)) shardSplitsUptoCard
end Rows
end Go.Proofs.YtbcokncfkikalaaGreatDoor
