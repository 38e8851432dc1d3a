/-
  DERIVED. GIVEN WITH THE SEED: THE CARDS: each row of YtklkgbaejehfpaaDoorRows.lean that lists a variable, with what it lists TIED to the program's text (the seventh form; the later family's looks); each row that meets fmt, with fmt's text TOLD by the authors' own Lean function (tested against real Go, not proved from fmt's source: count such statements apart). THE CARD IS WHAT COUNTS. Prove the row's statement (the work); the ties are given (YtklkgbaejehfpaaDoorTie.lean); close each card by the builder's one call (the guide's Derived/Test/ToyasCard.lean, 'card_holds'). Laid BY PROGRAM, IN A SANDBOX (cutbox-door.mjs). By AI agents, Wed Nov 11 2026. No macro, syntax, notation, axiom, sorry.
-/
import Derived.Test.YtklkgbaejehfpaaDoorRows
import GoSem.ClaimSeven
namespace Go.Proofs.YtklkgbaejehfpaaDoor
namespace Rows

/-- THE TIED CARD OF 'terrierlaw04.PageCodes'. -/
def pageCodesCard : Claim7 := { stood := { row := pageCodesRow, standIns := [], harness := (true, "bc016278000f95f27a0b52f36798b6b3a66ddf8b7f6b4658d564dce8d6e5526d"), looks := false }, kinds := [], alts := [], laidByText := true, laidKinds := [.data], laidTests := true, laidLooks := .later }
def PageCodesCardSaid : Prop := Claim7.holds Tryd.pinned (.plain (OpenSpec.ofChange pageCodesSpec)) pageCodesCard

/-- THE TIED CARD OF 'terrierlaw04.PageReads'. -/
def pageReadsCard : Claim7 := { stood := { row := pageReadsRow, standIns := [], harness := (true, "bc016278000f95f27a0b52f36798b6b3a66ddf8b7f6b4658d564dce8d6e5526d"), looks := false }, kinds := [], alts := [], laidByText := true, laidKinds := [.data], laidTests := true, laidLooks := .later }
def PageReadsCardSaid : Prop := Claim7.holds Tryd.pinned (.plain (OpenSpec.ofChange pageReadsSpec)) pageReadsCard

/-- THE TIED CARD OF 'terrierlaw04.PageBack'. -/
def pageBackCard : Claim7 := { stood := { row := pageBackRow, standIns := [], harness := (true, "bc016278000f95f27a0b52f36798b6b3a66ddf8b7f6b4658d564dce8d6e5526d"), looks := false }, kinds := [], alts := [], laidByText := true, laidKinds := [.data], laidTests := true, laidLooks := .later }
def PageBackCardSaid : Prop := Claim7.holds Tryd.pinned (.plain (OpenSpec.ofChange pageBackSpec)) pageBackCard

/-- THE TIED CARD OF 'terrierlaw04.PageTurned'. -/
def pageTurnedCard : Claim7 := { stood := { row := pageTurnedRow, standIns := [], harness := (true, "bc016278000f95f27a0b52f36798b6b3a66ddf8b7f6b4658d564dce8d6e5526d"), looks := false }, kinds := [], alts := [], laidByText := true, laidKinds := [.data], laidTests := true, laidLooks := .later }
def PageTurnedCardSaid : Prop := Claim7.holds Tryd.pinned (.plain (OpenSpec.ofChange pageTurnedSpec)) pageTurnedCard

/-- THE TIED CARD OF 'terrierlaw04.PageUsed'. -/
def pageUsedCard : Claim7 := { stood := { row := pageUsedRow, standIns := [], harness := (true, "bc016278000f95f27a0b52f36798b6b3a66ddf8b7f6b4658d564dce8d6e5526d"), looks := false }, kinds := [], alts := [], laidByText := true, laidKinds := [.data], laidTests := true, laidLooks := .later }
def PageUsedCardSaid : Prop := Claim7.holds Tryd.pinned (.plain (OpenSpec.ofChange pageUsedSpec)) pageUsedCard

/-- THE TIED CARD OF 'terrierlaw04.PagePieces'. -/
def pagePiecesCard : Claim7 := { stood := { row := pagePiecesRow, standIns := [], harness := (true, "bc016278000f95f27a0b52f36798b6b3a66ddf8b7f6b4658d564dce8d6e5526d"), looks := false }, kinds := [], alts := [], laidByText := true, laidKinds := [.data], laidTests := true, laidLooks := .later }
def PagePiecesCardSaid : Prop := Claim7.holds Tryd.pinned (.plain (OpenSpec.ofChange pagePiecesSpec)) pagePiecesCard

/-- THE SECOND FORM's CARD OF 'terrierlaw04.PageCodes'. -/
def pageCodesUptoCard : Claim7 := { stood := { row := pageCodesUptoRow, standIns := [], harness := (true, "bc016278000f95f27a0b52f36798b6b3a66ddf8b7f6b4658d564dce8d6e5526d"), looks := false }, kinds := [], alts := [], laidByText := true, laidKinds := [.data], laidTests := true, laidLooks := .later }
def PageCodesUptoCardSaid : Prop := Claim7.holds Tryd.pinned (.plain (OpenSpec.upto pageCodesSpec)) pageCodesUptoCard

/-- THE SECOND FORM's CARD OF 'terrierlaw04.PageReads'. -/
def pageReadsUptoCard : Claim7 := { stood := { row := pageReadsUptoRow, standIns := [], harness := (true, "bc016278000f95f27a0b52f36798b6b3a66ddf8b7f6b4658d564dce8d6e5526d"), looks := false }, kinds := [], alts := [], laidByText := true, laidKinds := [.data], laidTests := true, laidLooks := .later }
def PageReadsUptoCardSaid : Prop := Claim7.holds Tryd.pinned (.plain (OpenSpec.upto pageReadsSpec)) pageReadsUptoCard

/-- THE SECOND FORM's CARD OF 'terrierlaw04.PageBack'. -/
def pageBackUptoCard : Claim7 := { stood := { row := pageBackUptoRow, standIns := [], harness := (true, "bc016278000f95f27a0b52f36798b6b3a66ddf8b7f6b4658d564dce8d6e5526d"), looks := false }, kinds := [], alts := [], laidByText := true, laidKinds := [.data], laidTests := true, laidLooks := .later }
def PageBackUptoCardSaid : Prop := Claim7.holds Tryd.pinned (.plain (OpenSpec.upto pageBackSpec)) pageBackUptoCard

/-- THE SECOND FORM's CARD OF 'terrierlaw04.PageTurned'. -/
def pageTurnedUptoCard : Claim7 := { stood := { row := pageTurnedUptoRow, standIns := [], harness := (true, "bc016278000f95f27a0b52f36798b6b3a66ddf8b7f6b4658d564dce8d6e5526d"), looks := false }, kinds := [], alts := [], laidByText := true, laidKinds := [.data], laidTests := true, laidLooks := .later }
def PageTurnedUptoCardSaid : Prop := Claim7.holds Tryd.pinned (.plain (OpenSpec.upto pageTurnedSpec)) pageTurnedUptoCard

/-- THE SECOND FORM's CARD OF 'terrierlaw04.PageUsed'. -/
def pageUsedUptoCard : Claim7 := { stood := { row := pageUsedUptoRow, standIns := [], harness := (true, "bc016278000f95f27a0b52f36798b6b3a66ddf8b7f6b4658d564dce8d6e5526d"), looks := false }, kinds := [], alts := [], laidByText := true, laidKinds := [.data], laidTests := true, laidLooks := .later }
def PageUsedUptoCardSaid : Prop := Claim7.holds Tryd.pinned (.plain (OpenSpec.upto pageUsedSpec)) pageUsedUptoCard

/-- THE SECOND FORM's CARD OF 'terrierlaw04.PagePieces'. -/
def pagePiecesUptoCard : Claim7 := { stood := { row := pagePiecesUptoRow, standIns := [], harness := (true, "bc016278000f95f27a0b52f36798b6b3a66ddf8b7f6b4658d564dce8d6e5526d"), looks := false }, kinds := [], alts := [], laidByText := true, laidKinds := [.data], laidTests := true, laidLooks := .later }
def PagePiecesUptoCardSaid : Prop := Claim7.holds Tryd.pinned (.plain (OpenSpec.upto pagePiecesSpec)) pagePiecesUptoCard
end Rows
end Go.Proofs.YtklkgbaejehfpaaDoor
