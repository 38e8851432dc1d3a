/-
  DERIVED. GIVEN WITH THE SEED: THE CARDS: each row of YtfgpkgenahlikaaDoorRows.lean that lists a variable, with what it lists TIED to the program's text (the seventh form; the later family's looks); each row that meets fmt, with fmt's text TOLD by the authors' own Lean function (tested against real Go, not proved from fmt's source: count such statements apart). THE CARD IS WHAT COUNTS. Prove the row's statement (the work); the ties are given (YtfgpkgenahlikaaDoorTie.lean); close each card by the builder's one call (the guide's Derived/Test/ToyasCard.lean, 'card_holds'). Laid BY PROGRAM, IN A SANDBOX (cutbox-door.mjs). By AI agents, Wed Nov 11 2026. No macro, syntax, notation, axiom, sorry.
-/
import Derived.Test.YtfgpkgenahlikaaDoorRows
import GoSem.ClaimSeven
namespace Go.Proofs.YtfgpkgenahlikaaDoor
namespace Rows

/-- THE TIED CARD OF 'terrierlaw04.PageCodes'. -/
def pageCodesCard : Claim7 := { stood := { row := pageCodesRow, standIns := [], harness := (true, "dc227a51af5e7840347826ea4d0d21b883027ae57a96cde9cc096c4b4a8c5695"), looks := false }, kinds := [], alts := [], laidByText := true, laidKinds := [.data], laidTests := true, laidLooks := .later }
def PageCodesCardSaid : Prop := Claim7.holds Tryd.pinned (.plain (OpenSpec.ofChange pageCodesSpec)) pageCodesCard

/-- THE TIED CARD OF 'terrierlaw04.PageReads'. -/
def pageReadsCard : Claim7 := { stood := { row := pageReadsRow, standIns := [], harness := (true, "dc227a51af5e7840347826ea4d0d21b883027ae57a96cde9cc096c4b4a8c5695"), looks := false }, kinds := [], alts := [], laidByText := true, laidKinds := [.data], laidTests := true, laidLooks := .later }
def PageReadsCardSaid : Prop := Claim7.holds Tryd.pinned (.plain (OpenSpec.ofChange pageReadsSpec)) pageReadsCard

/-- THE TIED CARD OF 'terrierlaw05.MetaCodes'. -/
def metaCodesCard : Claim7 := { stood := { row := metaCodesRow, standIns := [], harness := (true, "dc227a51af5e7840347826ea4d0d21b883027ae57a96cde9cc096c4b4a8c5695"), looks := false }, kinds := [], alts := [], laidByText := true, laidKinds := [.data], laidTests := true, laidLooks := .later }
def MetaCodesCardSaid : Prop := Claim7.holds Tryd.pinned (.plain (OpenSpec.ofChange metaCodesSpec)) metaCodesCard

/-- THE TIED CARD OF 'terrierlaw05.MetaReads'. -/
def metaReadsCard : Claim7 := { stood := { row := metaReadsRow, standIns := [], harness := (true, "dc227a51af5e7840347826ea4d0d21b883027ae57a96cde9cc096c4b4a8c5695"), looks := false }, kinds := [], alts := [], laidByText := true, laidKinds := [.data], laidTests := true, laidLooks := .later }
def MetaReadsCardSaid : Prop := Claim7.holds Tryd.pinned (.plain (OpenSpec.ofChange metaReadsSpec)) metaReadsCard

/-- THE TIED CARD OF 'terrierlaw05.MetaChooses'. -/
def metaChoosesCard : Claim7 := { stood := { row := metaChoosesRow, standIns := [], harness := (true, "dc227a51af5e7840347826ea4d0d21b883027ae57a96cde9cc096c4b4a8c5695"), looks := false }, kinds := [], alts := [], laidByText := true, laidKinds := [.data], laidTests := true, laidLooks := .later }
def MetaChoosesCardSaid : Prop := Claim7.holds Tryd.pinned (.plain (OpenSpec.ofChange metaChoosesSpec)) metaChoosesCard

/-- THE TIED CARD OF 'terrierlaw05.MetaBack'. -/
def metaBackCard : Claim7 := { stood := { row := metaBackRow, standIns := [], harness := (true, "dc227a51af5e7840347826ea4d0d21b883027ae57a96cde9cc096c4b4a8c5695"), looks := false }, kinds := [], alts := [], laidByText := true, laidKinds := [.data], laidTests := true, laidLooks := .later }
def MetaBackCardSaid : Prop := Claim7.holds Tryd.pinned (.plain (OpenSpec.ofChange metaBackSpec)) metaBackCard

/-- THE TIED CARD OF 'terrierlaw05.MetaTurns'. -/
def metaTurnsCard : Claim7 := { stood := { row := metaTurnsRow, standIns := [], harness := (true, "dc227a51af5e7840347826ea4d0d21b883027ae57a96cde9cc096c4b4a8c5695"), looks := false }, kinds := [], alts := [], laidByText := true, laidKinds := [.data], laidTests := true, laidLooks := .later }
def MetaTurnsCardSaid : Prop := Claim7.holds Tryd.pinned (.plain (OpenSpec.ofChange metaTurnsSpec)) metaTurnsCard

/-- THE TIED CARD OF 'terrierlaw05.MetaPlaces'. -/
def metaPlacesCard : Claim7 := { stood := { row := metaPlacesRow, standIns := [], harness := (true, "dc227a51af5e7840347826ea4d0d21b883027ae57a96cde9cc096c4b4a8c5695"), looks := false }, kinds := [], alts := [], laidByText := true, laidKinds := [.data], laidTests := true, laidLooks := .later }
def MetaPlacesCardSaid : Prop := Claim7.holds Tryd.pinned (.plain (OpenSpec.ofChange metaPlacesSpec)) metaPlacesCard

/-- THE SECOND FORM's CARD OF 'terrierlaw04.PageCodes'. -/
def pageCodesUptoCard : Claim7 := { stood := { row := pageCodesUptoRow, standIns := [], harness := (true, "dc227a51af5e7840347826ea4d0d21b883027ae57a96cde9cc096c4b4a8c5695"), looks := false }, kinds := [], alts := [], laidByText := true, laidKinds := [.data], laidTests := true, laidLooks := .later }
def PageCodesUptoCardSaid : Prop := Claim7.holds Tryd.pinned (.plain (OpenSpec.upto pageCodesSpec)) pageCodesUptoCard

/-- THE SECOND FORM's CARD OF 'terrierlaw04.PageReads'. -/
def pageReadsUptoCard : Claim7 := { stood := { row := pageReadsUptoRow, standIns := [], harness := (true, "dc227a51af5e7840347826ea4d0d21b883027ae57a96cde9cc096c4b4a8c5695"), looks := false }, kinds := [], alts := [], laidByText := true, laidKinds := [.data], laidTests := true, laidLooks := .later }
def PageReadsUptoCardSaid : Prop := Claim7.holds Tryd.pinned (.plain (OpenSpec.upto pageReadsSpec)) pageReadsUptoCard

/-- THE SECOND FORM's CARD OF 'terrierlaw05.MetaCodes'. -/
def metaCodesUptoCard : Claim7 := { stood := { row := metaCodesUptoRow, standIns := [], harness := (true, "dc227a51af5e7840347826ea4d0d21b883027ae57a96cde9cc096c4b4a8c5695"), looks := false }, kinds := [], alts := [], laidByText := true, laidKinds := [.data], laidTests := true, laidLooks := .later }
def MetaCodesUptoCardSaid : Prop := Claim7.holds Tryd.pinned (.plain (OpenSpec.upto metaCodesSpec)) metaCodesUptoCard

/-- THE SECOND FORM's CARD OF 'terrierlaw05.MetaReads'. -/
def metaReadsUptoCard : Claim7 := { stood := { row := metaReadsUptoRow, standIns := [], harness := (true, "dc227a51af5e7840347826ea4d0d21b883027ae57a96cde9cc096c4b4a8c5695"), looks := false }, kinds := [], alts := [], laidByText := true, laidKinds := [.data], laidTests := true, laidLooks := .later }
def MetaReadsUptoCardSaid : Prop := Claim7.holds Tryd.pinned (.plain (OpenSpec.upto metaReadsSpec)) metaReadsUptoCard

/-- THE SECOND FORM's CARD OF 'terrierlaw05.MetaChooses'. -/
def metaChoosesUptoCard : Claim7 := { stood := { row := metaChoosesUptoRow, standIns := [], harness := (true, "dc227a51af5e7840347826ea4d0d21b883027ae57a96cde9cc096c4b4a8c5695"), looks := false }, kinds := [], alts := [], laidByText := true, laidKinds := [.data], laidTests := true, laidLooks := .later }
def MetaChoosesUptoCardSaid : Prop := Claim7.holds Tryd.pinned (.plain (OpenSpec.upto metaChoosesSpec)) metaChoosesUptoCard

/-- THE SECOND FORM's CARD OF 'terrierlaw05.MetaBack'. -/
def metaBackUptoCard : Claim7 := { stood := { row := metaBackUptoRow, standIns := [], harness := (true, "dc227a51af5e7840347826ea4d0d21b883027ae57a96cde9cc096c4b4a8c5695"), looks := false }, kinds := [], alts := [], laidByText := true, laidKinds := [.data], laidTests := true, laidLooks := .later }
def MetaBackUptoCardSaid : Prop := Claim7.holds Tryd.pinned (.plain (OpenSpec.upto metaBackSpec)) metaBackUptoCard

/-- THE SECOND FORM's CARD OF 'terrierlaw05.MetaTurns'. -/
def metaTurnsUptoCard : Claim7 := { stood := { row := metaTurnsUptoRow, standIns := [], harness := (true, "dc227a51af5e7840347826ea4d0d21b883027ae57a96cde9cc096c4b4a8c5695"), looks := false }, kinds := [], alts := [], laidByText := true, laidKinds := [.data], laidTests := true, laidLooks := .later }
def MetaTurnsUptoCardSaid : Prop := Claim7.holds Tryd.pinned (.plain (OpenSpec.upto metaTurnsSpec)) metaTurnsUptoCard

/-- THE SECOND FORM's CARD OF 'terrierlaw05.MetaPlaces'. -/
def metaPlacesUptoCard : Claim7 := { stood := { row := metaPlacesUptoRow, standIns := [], harness := (true, "dc227a51af5e7840347826ea4d0d21b883027ae57a96cde9cc096c4b4a8c5695"), looks := false }, kinds := [], alts := [], laidByText := true, laidKinds := [.data], laidTests := true, laidLooks := .later }
def MetaPlacesUptoCardSaid : Prop := Claim7.holds Tryd.pinned (.plain (OpenSpec.upto metaPlacesSpec)) metaPlacesUptoCard
end Rows
end Go.Proofs.YtfgpkgenahlikaaDoor
