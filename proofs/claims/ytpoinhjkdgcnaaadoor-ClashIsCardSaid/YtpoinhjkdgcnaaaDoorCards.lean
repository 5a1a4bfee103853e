/-
  DERIVED. GIVEN WITH THE SEED: THE CARDS: each row of YtpoinhjkdgcnaaaDoorRows.lean that lists a variable, with what it lists TIED to the program's text (the seventh form; the later family's looks); each row that meets fmt, with fmt's text TOLD by the authors' own Lean function (tested against real Go, not proved from fmt's source: count such statements apart). THE CARD IS WHAT COUNTS. Prove the row's statement (the work); the ties are given (YtpoinhjkdgcnaaaDoorTie.lean); close each card by the builder's one call (the guide's Derived/Test/ToyasCard.lean, 'card_holds'). Laid BY PROGRAM, IN A SANDBOX (cutbox-door.mjs). By AI agents, Wed Nov 11 2026. No macro, syntax, notation, axiom, sorry.
-/
import Derived.Test.YtpoinhjkdgcnaaaDoorRows
import GoSem.ClaimSeven
namespace Go.Proofs.YtpoinhjkdgcnaaaDoor
namespace Rows

/-- THE TIED CARD OF 'mastheadlaw10.ClashTexts'. -/
def clashTextsCard : Claim7 := { stood := { row := clashTextsRow, standIns := [], harness := (true, "091eb721b86ac1452079bb6d69945dc8f772eca45a91af8df4ad37b1e8ce037c"), looks := false }, kinds := [], alts := [], laidByText := true, laidKinds := [.data, .data], laidTests := true, laidLooks := .later }
def ClashTextsCardSaid : Prop := Claim7.holds Tryd.pinned (.plain (OpenSpec.ofChange clashTextsSpec)) clashTextsCard

/-- THE TIED CARD OF 'mastheadlaw10.ClashFinds'. -/
def clashFindsCard : Claim7 := { stood := { row := clashFindsRow, standIns := [], harness := (true, "091eb721b86ac1452079bb6d69945dc8f772eca45a91af8df4ad37b1e8ce037c"), looks := false }, kinds := [], alts := [], laidByText := true, laidKinds := [.data, .data], laidTests := true, laidLooks := .later }
def ClashFindsCardSaid : Prop := Claim7.holds Tryd.pinned (.plain (OpenSpec.ofChange clashFindsSpec)) clashFindsCard

/-- THE TIED CARD OF 'mastheadlaw10.ClashIs'. -/
def clashIsCard : Claim7 := { stood := { row := clashIsRow, standIns := [], harness := (true, "091eb721b86ac1452079bb6d69945dc8f772eca45a91af8df4ad37b1e8ce037c"), looks := false }, kinds := [], alts := [], laidByText := true, laidKinds := [.data, .data], laidTests := true, laidLooks := .later }
def ClashIsCardSaid : Prop := Claim7.holds Tryd.pinned (.plain (OpenSpec.ofChange clashIsSpec)) clashIsCard

/-- THE TIED CARD OF 'mastheadlaw10.ClashOr'. -/
def clashOrCard : Claim7 := { stood := { row := clashOrRow, standIns := [], harness := (true, "091eb721b86ac1452079bb6d69945dc8f772eca45a91af8df4ad37b1e8ce037c"), looks := false }, kinds := [], alts := [], laidByText := true, laidKinds := [.data, .data], laidTests := true, laidLooks := .later }
def ClashOrCardSaid : Prop := Claim7.holds Tryd.pinned (.plain (OpenSpec.ofChange clashOrSpec)) clashOrCard

/-- THE TIED CARD OF 'mastheadlaw10.ClashInner'. -/
def clashInnerCard : Claim7 := { stood := { row := clashInnerRow, standIns := [], harness := (true, "091eb721b86ac1452079bb6d69945dc8f772eca45a91af8df4ad37b1e8ce037c"), looks := false }, kinds := [], alts := [], laidByText := true, laidKinds := [.data, .data], laidTests := true, laidLooks := .later }
def ClashInnerCardSaid : Prop := Claim7.holds Tryd.pinned (.plain (OpenSpec.ofChange clashInnerSpec)) clashInnerCard

/-- THE SECOND FORM's CARD OF 'mastheadlaw10.ClashTexts'. -/
def clashTextsUptoCard : Claim7 := { stood := { row := clashTextsUptoRow, standIns := [], harness := (true, "091eb721b86ac1452079bb6d69945dc8f772eca45a91af8df4ad37b1e8ce037c"), looks := false }, kinds := [], alts := [], laidByText := true, laidKinds := [.data, .data], laidTests := true, laidLooks := .later }
def ClashTextsUptoCardSaid : Prop := Claim7.holds Tryd.pinned (.plain (OpenSpec.upto clashTextsSpec)) clashTextsUptoCard

/-- THE SECOND FORM's CARD OF 'mastheadlaw10.ClashFinds'. -/
def clashFindsUptoCard : Claim7 := { stood := { row := clashFindsUptoRow, standIns := [], harness := (true, "091eb721b86ac1452079bb6d69945dc8f772eca45a91af8df4ad37b1e8ce037c"), looks := false }, kinds := [], alts := [], laidByText := true, laidKinds := [.data, .data], laidTests := true, laidLooks := .later }
def ClashFindsUptoCardSaid : Prop := Claim7.holds Tryd.pinned (.plain (OpenSpec.upto clashFindsSpec)) clashFindsUptoCard

/-- THE SECOND FORM's CARD OF 'mastheadlaw10.ClashIs'. -/
def clashIsUptoCard : Claim7 := { stood := { row := clashIsUptoRow, standIns := [], harness := (true, "091eb721b86ac1452079bb6d69945dc8f772eca45a91af8df4ad37b1e8ce037c"), looks := false }, kinds := [], alts := [], laidByText := true, laidKinds := [.data, .data], laidTests := true, laidLooks := .later }
def ClashIsUptoCardSaid : Prop := Claim7.holds Tryd.pinned (.plain (OpenSpec.upto clashIsSpec)) clashIsUptoCard

/-- THE SECOND FORM's CARD OF 'mastheadlaw10.ClashOr'. -/
def clashOrUptoCard : Claim7 := { stood := { row := clashOrUptoRow, standIns := [], harness := (true, "091eb721b86ac1452079bb6d69945dc8f772eca45a91af8df4ad37b1e8ce037c"), looks := false }, kinds := [], alts := [], laidByText := true, laidKinds := [.data, .data], laidTests := true, laidLooks := .later }
def ClashOrUptoCardSaid : Prop := Claim7.holds Tryd.pinned (.plain (OpenSpec.upto clashOrSpec)) clashOrUptoCard

/-- THE SECOND FORM's CARD OF 'mastheadlaw10.ClashInner'. -/
def clashInnerUptoCard : Claim7 := { stood := { row := clashInnerUptoRow, standIns := [], harness := (true, "091eb721b86ac1452079bb6d69945dc8f772eca45a91af8df4ad37b1e8ce037c"), looks := false }, kinds := [], alts := [], laidByText := true, laidKinds := [.data, .data], laidTests := true, laidLooks := .later }
def ClashInnerUptoCardSaid : Prop := Claim7.holds Tryd.pinned (.plain (OpenSpec.upto clashInnerSpec)) clashInnerUptoCard
end Rows
end Go.Proofs.YtpoinhjkdgcnaaaDoor
