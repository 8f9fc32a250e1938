/-
  DERIVED. GIVEN WITH THE SEED: THE CARDS: each row of YtcamanopfhbchaaDoorRows.lean that lists a variable, with what it lists TIED to the program's text (the seventh form; the later family's looks); each row that meets fmt, with fmt's text TOLD by the authors' own Lean function (tested against real Go, not proved from fmt's source: count such statements apart). THE CARD IS WHAT COUNTS. Prove the row's statement (the work); the ties are given (YtcamanopfhbchaaDoorTie.lean); close each card by the builder's one call (the guide's Derived/Test/ToyasCard.lean, 'card_holds'). Laid BY PROGRAM, IN A SANDBOX (cutbox-door.mjs). By AI agents, Wed Nov 11 2026. No macro, syntax, notation, axiom, sorry.
-/
import Derived.Test.YtcamanopfhbchaaDoorRows
import GoSem.ClaimSeven
namespace Go.Proofs.YtcamanopfhbchaaDoor
namespace Rows

/-- THE TIED CARD OF 'ladinglaw09.MerkleTrees'. -/
def merkleTreesCard : Claim7 := { stood := { row := merkleTreesRow, standIns := [], harness := (true, "072f561e506ded19dd56ad71596763ed32db83e1bc71e5432e141a9d0ee40dbf"), looks := true }, kinds := [], alts := [], laidByText := true, laidKinds := [.data, .data, .handle], laidTests := true, laidLooks := .later }
def MerkleTreesCardSaid : Prop := Claim7.holds Tryd.pinned (.plain (OpenSpec.ofChange merkleTreesSpec)) merkleTreesCard

/-- THE TIED CARD OF 'ladinglaw09.MerkleProves'. -/
def merkleProvesCard : Claim7 := { stood := { row := merkleProvesRow, standIns := [], harness := (true, "072f561e506ded19dd56ad71596763ed32db83e1bc71e5432e141a9d0ee40dbf"), looks := true }, kinds := [], alts := [], laidByText := true, laidKinds := [.data, .data, .handle], laidTests := true, laidLooks := .later }
def MerkleProvesCardSaid : Prop := Claim7.holds Tryd.pinned (.plain (OpenSpec.ofChange merkleProvesSpec)) merkleProvesCard

/-- THE TIED CARD OF 'ladinglaw09.MerkleUps'. -/
def merkleUpsCard : Claim7 := { stood := { row := merkleUpsRow, standIns := [], harness := (true, "072f561e506ded19dd56ad71596763ed32db83e1bc71e5432e141a9d0ee40dbf"), looks := true }, kinds := [], alts := [], laidByText := true, laidKinds := [.data, .data, .handle], laidTests := true, laidLooks := .later }
def MerkleUpsCardSaid : Prop := Claim7.holds Tryd.pinned (.plain (OpenSpec.ofChange merkleUpsSpec)) merkleUpsCard

/-- THE TIED CARD OF 'ladinglaw09.MerkleApart'. -/
def merkleApartCard : Claim7 := { stood := { row := merkleApartRow, standIns := [], harness := (true, "072f561e506ded19dd56ad71596763ed32db83e1bc71e5432e141a9d0ee40dbf"), looks := true }, kinds := [], alts := [], laidByText := true, laidKinds := [.data, .data], laidTests := true, laidLooks := .later }
def MerkleApartCardSaid : Prop := Claim7.holds Tryd.pinned (.plain (OpenSpec.ofChange merkleApartSpec)) merkleApartCard

/-- THE TIED CARD OF 'ladinglaw09.MerkleUnlike'. -/
def merkleUnlikeCard : Claim7 := { stood := { row := merkleUnlikeRow, standIns := [], harness := (true, "072f561e506ded19dd56ad71596763ed32db83e1bc71e5432e141a9d0ee40dbf"), looks := true }, kinds := [], alts := [], laidByText := true, laidKinds := [.data, .data], laidTests := true, laidLooks := .later }
def MerkleUnlikeCardSaid : Prop := Claim7.holds Tryd.pinned (.plain (OpenSpec.ofChange merkleUnlikeSpec)) merkleUnlikeCard

/-- THE SECOND FORM's CARD OF 'ladinglaw09.MerkleTrees'. -/
def merkleTreesUptoCard : Claim7 := { stood := { row := merkleTreesUptoRow, standIns := [], harness := (true, "072f561e506ded19dd56ad71596763ed32db83e1bc71e5432e141a9d0ee40dbf"), looks := true }, kinds := [], alts := [], laidByText := true, laidKinds := [.data, .data, .handle], laidTests := true, laidLooks := .later }
def MerkleTreesUptoCardSaid : Prop := Claim7.holds Tryd.pinned (.plain (OpenSpec.upto merkleTreesSpec)) merkleTreesUptoCard

/-- THE SECOND FORM's CARD OF 'ladinglaw09.MerkleProves'. -/
def merkleProvesUptoCard : Claim7 := { stood := { row := merkleProvesUptoRow, standIns := [], harness := (true, "072f561e506ded19dd56ad71596763ed32db83e1bc71e5432e141a9d0ee40dbf"), looks := true }, kinds := [], alts := [], laidByText := true, laidKinds := [.data, .data, .handle], laidTests := true, laidLooks := .later }
def MerkleProvesUptoCardSaid : Prop := Claim7.holds Tryd.pinned (.plain (OpenSpec.upto merkleProvesSpec)) merkleProvesUptoCard

/-- THE SECOND FORM's CARD OF 'ladinglaw09.MerkleUps'. -/
def merkleUpsUptoCard : Claim7 := { stood := { row := merkleUpsUptoRow, standIns := [], harness := (true, "072f561e506ded19dd56ad71596763ed32db83e1bc71e5432e141a9d0ee40dbf"), looks := true }, kinds := [], alts := [], laidByText := true, laidKinds := [.data, .data, .handle], laidTests := true, laidLooks := .later }
def MerkleUpsUptoCardSaid : Prop := Claim7.holds Tryd.pinned (.plain (OpenSpec.upto merkleUpsSpec)) merkleUpsUptoCard

/-- THE SECOND FORM's CARD OF 'ladinglaw09.MerkleApart'. -/
def merkleApartUptoCard : Claim7 := { stood := { row := merkleApartUptoRow, standIns := [], harness := (true, "072f561e506ded19dd56ad71596763ed32db83e1bc71e5432e141a9d0ee40dbf"), looks := true }, kinds := [], alts := [], laidByText := true, laidKinds := [.data, .data], laidTests := true, laidLooks := .later }
def MerkleApartUptoCardSaid : Prop := Claim7.holds Tryd.pinned (.plain (OpenSpec.upto merkleApartSpec)) merkleApartUptoCard

/-- THE SECOND FORM's CARD OF 'ladinglaw09.MerkleUnlike'. -/
def merkleUnlikeUptoCard : Claim7 := { stood := { row := merkleUnlikeUptoRow, standIns := [], harness := (true, "072f561e506ded19dd56ad71596763ed32db83e1bc71e5432e141a9d0ee40dbf"), looks := true }, kinds := [], alts := [], laidByText := true, laidKinds := [.data, .data], laidTests := true, laidLooks := .later }
def MerkleUnlikeUptoCardSaid : Prop := Claim7.holds Tryd.pinned (.plain (OpenSpec.upto merkleUnlikeSpec)) merkleUnlikeUptoCard
end Rows
end Go.Proofs.YtcamanopfhbchaaDoor
