/-
  DERIVED. GIVEN WITH THE SEED: THE CARDS: each row of YtkhjadecichlkaaDoorRows.lean that lists a variable, with what it lists TIED to the program's text (the seventh form; the later family's looks); each row that meets fmt, with fmt's text TOLD by the authors' own Lean function (tested against real Go, not proved from fmt's source: count such statements apart). THE CARD IS WHAT COUNTS. Prove the row's statement (the work); the ties are given (YtkhjadecichlkaaDoorTie.lean); close each card by the builder's one call (the guide's Derived/Test/ToyasCard.lean, 'card_holds'). Laid BY PROGRAM, IN A SANDBOX (cutbox-door.mjs). By AI agents, Wed Nov 11 2026. No macro, syntax, notation, axiom, sorry.
-/
import Derived.Test.YtkhjadecichlkaaDoorRows
import GoSem.ClaimSeven
namespace Go.Proofs.YtkhjadecichlkaaDoor
namespace Rows

/-- THE TIED CARD OF 'mastheadlaw08.MerkleRoots'. -/
def merkleRootsCard : Claim7 := { stood := { row := merkleRootsRow, standIns := [], harness := (true, "45fec89cccde28ca86786f091fc1943331885204381ed9dc6db67ad71ae49257"), looks := false }, kinds := [], alts := [], laidByText := true, laidKinds := [.data, .data], laidTests := true, laidLooks := .later }
def MerkleRootsCardSaid : Prop := Claim7.holds Tryd.pinned (.plain (OpenSpec.ofChange merkleRootsSpec)) merkleRootsCard

/-- THE TIED CARD OF 'mastheadlaw08.MerkleAbove'. -/
def merkleAboveCard : Claim7 := { stood := { row := merkleAboveRow, standIns := [], harness := (true, "45fec89cccde28ca86786f091fc1943331885204381ed9dc6db67ad71ae49257"), looks := false }, kinds := [], alts := [], laidByText := true, laidKinds := [.data, .data], laidTests := true, laidLooks := .later }
def MerkleAboveCardSaid : Prop := Claim7.holds Tryd.pinned (.plain (OpenSpec.ofChange merkleAboveSpec)) merkleAboveCard

/-- THE TIED CARD OF 'mastheadlaw08.MerkleDoubled'. -/
def merkleDoubledCard : Claim7 := { stood := { row := merkleDoubledRow, standIns := [], harness := (true, "45fec89cccde28ca86786f091fc1943331885204381ed9dc6db67ad71ae49257"), looks := false }, kinds := [], alts := [], laidByText := true, laidKinds := [.data, .data], laidTests := true, laidLooks := .later }
def MerkleDoubledCardSaid : Prop := Claim7.holds Tryd.pinned (.plain (OpenSpec.ofChange merkleDoubledSpec)) merkleDoubledCard

/-- THE TIED CARD OF 'mastheadlaw08.MerkleTwice'. -/
def merkleTwiceCard : Claim7 := { stood := { row := merkleTwiceRow, standIns := [], harness := (true, "45fec89cccde28ca86786f091fc1943331885204381ed9dc6db67ad71ae49257"), looks := false }, kinds := [], alts := [], laidByText := true, laidKinds := [.data, .data], laidTests := true, laidLooks := .later }
def MerkleTwiceCardSaid : Prop := Claim7.holds Tryd.pinned (.plain (OpenSpec.ofChange merkleTwiceSpec)) merkleTwiceCard

/-- THE TIED CARD OF 'mastheadlaw08.MerkleDepths'. -/
def merkleDepthsCard : Claim7 := { stood := { row := merkleDepthsRow, standIns := [], harness := (true, "45fec89cccde28ca86786f091fc1943331885204381ed9dc6db67ad71ae49257"), looks := false }, kinds := [], alts := [], laidByText := true, laidKinds := [.data, .data], laidTests := true, laidLooks := .later }
def MerkleDepthsCardSaid : Prop := Claim7.holds Tryd.pinned (.plain (OpenSpec.ofChange merkleDepthsSpec)) merkleDepthsCard

/-- THE TIED CARD OF 'mastheadlaw08.MerkleApart'. -/
def merkleApartCard : Claim7 := { stood := { row := merkleApartRow, standIns := [], harness := (true, "45fec89cccde28ca86786f091fc1943331885204381ed9dc6db67ad71ae49257"), looks := false }, kinds := [], alts := [], laidByText := true, laidKinds := [.data, .data], laidTests := true, laidLooks := .later }
def MerkleApartCardSaid : Prop := Claim7.holds Tryd.pinned (.plain (OpenSpec.ofChange merkleApartSpec)) merkleApartCard

/-- THE SECOND FORM's CARD OF 'mastheadlaw08.MerkleRoots'. -/
def merkleRootsUptoCard : Claim7 := { stood := { row := merkleRootsUptoRow, standIns := [], harness := (true, "45fec89cccde28ca86786f091fc1943331885204381ed9dc6db67ad71ae49257"), looks := false }, kinds := [], alts := [], laidByText := true, laidKinds := [.data, .data], laidTests := true, laidLooks := .later }
def MerkleRootsUptoCardSaid : Prop := Claim7.holds Tryd.pinned (.plain (OpenSpec.upto merkleRootsSpec)) merkleRootsUptoCard

/-- THE SECOND FORM's CARD OF 'mastheadlaw08.MerkleAbove'. -/
def merkleAboveUptoCard : Claim7 := { stood := { row := merkleAboveUptoRow, standIns := [], harness := (true, "45fec89cccde28ca86786f091fc1943331885204381ed9dc6db67ad71ae49257"), looks := false }, kinds := [], alts := [], laidByText := true, laidKinds := [.data, .data], laidTests := true, laidLooks := .later }
def MerkleAboveUptoCardSaid : Prop := Claim7.holds Tryd.pinned (.plain (OpenSpec.upto merkleAboveSpec)) merkleAboveUptoCard

/-- THE SECOND FORM's CARD OF 'mastheadlaw08.MerkleDoubled'. -/
def merkleDoubledUptoCard : Claim7 := { stood := { row := merkleDoubledUptoRow, standIns := [], harness := (true, "45fec89cccde28ca86786f091fc1943331885204381ed9dc6db67ad71ae49257"), looks := false }, kinds := [], alts := [], laidByText := true, laidKinds := [.data, .data], laidTests := true, laidLooks := .later }
def MerkleDoubledUptoCardSaid : Prop := Claim7.holds Tryd.pinned (.plain (OpenSpec.upto merkleDoubledSpec)) merkleDoubledUptoCard

/-- THE SECOND FORM's CARD OF 'mastheadlaw08.MerkleTwice'. -/
def merkleTwiceUptoCard : Claim7 := { stood := { row := merkleTwiceUptoRow, standIns := [], harness := (true, "45fec89cccde28ca86786f091fc1943331885204381ed9dc6db67ad71ae49257"), looks := false }, kinds := [], alts := [], laidByText := true, laidKinds := [.data, .data], laidTests := true, laidLooks := .later }
def MerkleTwiceUptoCardSaid : Prop := Claim7.holds Tryd.pinned (.plain (OpenSpec.upto merkleTwiceSpec)) merkleTwiceUptoCard

/-- THE SECOND FORM's CARD OF 'mastheadlaw08.MerkleDepths'. -/
def merkleDepthsUptoCard : Claim7 := { stood := { row := merkleDepthsUptoRow, standIns := [], harness := (true, "45fec89cccde28ca86786f091fc1943331885204381ed9dc6db67ad71ae49257"), looks := false }, kinds := [], alts := [], laidByText := true, laidKinds := [.data, .data], laidTests := true, laidLooks := .later }
def MerkleDepthsUptoCardSaid : Prop := Claim7.holds Tryd.pinned (.plain (OpenSpec.upto merkleDepthsSpec)) merkleDepthsUptoCard

/-- THE SECOND FORM's CARD OF 'mastheadlaw08.MerkleApart'. -/
def merkleApartUptoCard : Claim7 := { stood := { row := merkleApartUptoRow, standIns := [], harness := (true, "45fec89cccde28ca86786f091fc1943331885204381ed9dc6db67ad71ae49257"), looks := false }, kinds := [], alts := [], laidByText := true, laidKinds := [.data, .data], laidTests := true, laidLooks := .later }
def MerkleApartUptoCardSaid : Prop := Claim7.holds Tryd.pinned (.plain (OpenSpec.upto merkleApartSpec)) merkleApartUptoCard
end Rows
end Go.Proofs.YtkhjadecichlkaaDoor
