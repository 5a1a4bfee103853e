/-
  DERIVED. GIVEN WITH THE SEED: THE CARDS: each row of YtnfcnjboeocnmaaDoorRows.lean that lists a variable, with what it lists TIED to the program's text (the seventh form; the later family's looks); each row that meets fmt, with fmt's text TOLD by the authors' own Lean function (tested against real Go, not proved from fmt's source: count such statements apart). THE CARD IS WHAT COUNTS. Prove the row's statement (the work); the ties are given (YtnfcnjboeocnmaaDoorTie.lean); close each card by the builder's one call (the guide's Derived/Test/ToyasCard.lean, 'card_holds'). Laid BY PROGRAM, IN A SANDBOX (cutbox-door.mjs). By AI agents, Wed Nov 11 2026. No macro, syntax, notation, axiom, sorry.
-/
import Derived.Test.YtnfcnjboeocnmaaDoorRows
import GoSem.ClaimSeven
namespace Go.Proofs.YtnfcnjboeocnmaaDoor
namespace Rows

/-- THE TIED CARD OF 'mastheadlaw09.BranchMakes'. -/
def branchMakesCard : Claim7 := { stood := { row := branchMakesRow, standIns := [], harness := (true, "63d7f3907fd023c95f1c62dd95ca7da7cd178bf37c3b65d70fe2a52eed239652"), looks := false }, kinds := [], alts := [], laidByText := true, laidKinds := [.data, .data], laidTests := true, laidLooks := .later }
def BranchMakesCardSaid : Prop := Claim7.holds Tryd.pinned (.plain (OpenSpec.ofChange branchMakesSpec)) branchMakesCard

/-- THE TIED CARD OF 'mastheadlaw09.BranchUps'. -/
def branchUpsCard : Claim7 := { stood := { row := branchUpsRow, standIns := [], harness := (true, "63d7f3907fd023c95f1c62dd95ca7da7cd178bf37c3b65d70fe2a52eed239652"), looks := false }, kinds := [], alts := [], laidByText := true, laidKinds := [.data, .data], laidTests := true, laidLooks := .later }
def BranchUpsCardSaid : Prop := Claim7.holds Tryd.pinned (.plain (OpenSpec.ofChange branchUpsSpec)) branchUpsCard

/-- THE TIED CARD OF 'mastheadlaw09.BranchBent'. -/
def branchBentCard : Claim7 := { stood := { row := branchBentRow, standIns := [], harness := (true, "63d7f3907fd023c95f1c62dd95ca7da7cd178bf37c3b65d70fe2a52eed239652"), looks := false }, kinds := [], alts := [], laidByText := true, laidKinds := [.data, .data], laidTests := true, laidLooks := .later }
def BranchBentCardSaid : Prop := Claim7.holds Tryd.pinned (.plain (OpenSpec.ofChange branchBentSpec)) branchBentCard

/-- THE TIED CARD OF 'mastheadlaw09.BranchLevels'. -/
def branchLevelsCard : Claim7 := { stood := { row := branchLevelsRow, standIns := [], harness := (true, "63d7f3907fd023c95f1c62dd95ca7da7cd178bf37c3b65d70fe2a52eed239652"), looks := false }, kinds := [], alts := [], laidByText := true, laidKinds := [.data, .data], laidTests := true, laidLooks := .later }
def BranchLevelsCardSaid : Prop := Claim7.holds Tryd.pinned (.plain (OpenSpec.ofChange branchLevelsSpec)) branchLevelsCard

/-- THE TIED CARD OF 'mastheadlaw09.BranchTwice'. -/
def branchTwiceCard : Claim7 := { stood := { row := branchTwiceRow, standIns := [], harness := (true, "63d7f3907fd023c95f1c62dd95ca7da7cd178bf37c3b65d70fe2a52eed239652"), looks := false }, kinds := [], alts := [], laidByText := true, laidKinds := [.data, .data], laidTests := true, laidLooks := .later }
def BranchTwiceCardSaid : Prop := Claim7.holds Tryd.pinned (.plain (OpenSpec.ofChange branchTwiceSpec)) branchTwiceCard

/-- THE SECOND FORM's CARD OF 'mastheadlaw09.BranchMakes'. -/
def branchMakesUptoCard : Claim7 := { stood := { row := branchMakesUptoRow, standIns := [], harness := (true, "63d7f3907fd023c95f1c62dd95ca7da7cd178bf37c3b65d70fe2a52eed239652"), looks := false }, kinds := [], alts := [], laidByText := true, laidKinds := [.data, .data], laidTests := true, laidLooks := .later }
def BranchMakesUptoCardSaid : Prop := Claim7.holds Tryd.pinned (.plain (OpenSpec.upto branchMakesSpec)) branchMakesUptoCard

/-- THE SECOND FORM's CARD OF 'mastheadlaw09.BranchUps'. -/
def branchUpsUptoCard : Claim7 := { stood := { row := branchUpsUptoRow, standIns := [], harness := (true, "63d7f3907fd023c95f1c62dd95ca7da7cd178bf37c3b65d70fe2a52eed239652"), looks := false }, kinds := [], alts := [], laidByText := true, laidKinds := [.data, .data], laidTests := true, laidLooks := .later }
def BranchUpsUptoCardSaid : Prop := Claim7.holds Tryd.pinned (.plain (OpenSpec.upto branchUpsSpec)) branchUpsUptoCard

/-- THE SECOND FORM's CARD OF 'mastheadlaw09.BranchBent'. -/
def branchBentUptoCard : Claim7 := { stood := { row := branchBentUptoRow, standIns := [], harness := (true, "63d7f3907fd023c95f1c62dd95ca7da7cd178bf37c3b65d70fe2a52eed239652"), looks := false }, kinds := [], alts := [], laidByText := true, laidKinds := [.data, .data], laidTests := true, laidLooks := .later }
def BranchBentUptoCardSaid : Prop := Claim7.holds Tryd.pinned (.plain (OpenSpec.upto branchBentSpec)) branchBentUptoCard

/-- THE SECOND FORM's CARD OF 'mastheadlaw09.BranchLevels'. -/
def branchLevelsUptoCard : Claim7 := { stood := { row := branchLevelsUptoRow, standIns := [], harness := (true, "63d7f3907fd023c95f1c62dd95ca7da7cd178bf37c3b65d70fe2a52eed239652"), looks := false }, kinds := [], alts := [], laidByText := true, laidKinds := [.data, .data], laidTests := true, laidLooks := .later }
def BranchLevelsUptoCardSaid : Prop := Claim7.holds Tryd.pinned (.plain (OpenSpec.upto branchLevelsSpec)) branchLevelsUptoCard

/-- THE SECOND FORM's CARD OF 'mastheadlaw09.BranchTwice'. -/
def branchTwiceUptoCard : Claim7 := { stood := { row := branchTwiceUptoRow, standIns := [], harness := (true, "63d7f3907fd023c95f1c62dd95ca7da7cd178bf37c3b65d70fe2a52eed239652"), looks := false }, kinds := [], alts := [], laidByText := true, laidKinds := [.data, .data], laidTests := true, laidLooks := .later }
def BranchTwiceUptoCardSaid : Prop := Claim7.holds Tryd.pinned (.plain (OpenSpec.upto branchTwiceSpec)) branchTwiceUptoCard
end Rows
end Go.Proofs.YtnfcnjboeocnmaaDoor
