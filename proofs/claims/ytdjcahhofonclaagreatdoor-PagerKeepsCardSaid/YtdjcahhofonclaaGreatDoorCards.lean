/-
  DERIVED. GIVEN WITH THE SEED: THE CARDS: each row of YtdjcahhofonclaaGreatDoorRows.lean that lists a variable, with what it lists TIED to the program's text (the seventh form; the later family's looks); each row that meets fmt, with fmt's text TOLD by the authors' own Lean function (tested against real Go, not proved from fmt's source: count such statements apart). THE CARD IS WHAT COUNTS. Prove the row's statement (the work); the ties are given (YtdjcahhofonclaaGreatDoorTie.lean); close each card by the builder's one call (the guide's Derived/Test/ToyasCard.lean, 'card_holds'). Laid BY PROGRAM, IN A SANDBOX (cutbox-door.mjs). By AI agents, Wed Nov 11 2026. No macro, syntax, notation, axiom, sorry.
-/
import Derived.Test.YtdjcahhofonclaaGreatDoorRows
import GoSem.ClaimSeven
namespace Go.Proofs.YtdjcahhofonclaaGreatDoor
namespace Rows

/-- THE TIED CARD OF 'terrierlaw07.PagerKeeps'. -/
def pagerKeepsCard : Claim7 := { stood := { row := pagerKeepsRow, standIns := [], harness := (true, "43b925dec059e07fe0b0bd3012dad00e5bacb4770016a539ad6bb0408f7d1d5f"), looks := true }, kinds := [], alts := [], laidByText := true, laidKinds := [.data], laidTests := true, laidLooks := .later }
def PagerKeepsCardSaid : Prop := Claim7.holds Tryz.pinned (.plain (OpenSpec.ofChange pagerKeepsSpec)) pagerKeepsCard

/-- THE TIED CARD OF 'terrierlaw07.PagerUndoes'. -/
def pagerUndoesCard : Claim7 := { stood := { row := pagerUndoesRow, standIns := [], harness := (true, "43b925dec059e07fe0b0bd3012dad00e5bacb4770016a539ad6bb0408f7d1d5f"), looks := true }, kinds := [], alts := [], laidByText := true, laidKinds := [.data], laidTests := true, laidLooks := .later }
def PagerUndoesCardSaid : Prop := Claim7.holds Tryz.pinned (.plain (OpenSpec.ofChange pagerUndoesSpec)) pagerUndoesCard

/-- THE TIED CARD OF 'terrierlaw07.PagerFills'. -/
def pagerFillsCard : Claim7 := { stood := { row := pagerFillsRow, standIns := [], harness := (true, "43b925dec059e07fe0b0bd3012dad00e5bacb4770016a539ad6bb0408f7d1d5f"), looks := true }, kinds := [], alts := [], laidByText := true, laidKinds := [.data], laidTests := true, laidLooks := .later }
def PagerFillsCardSaid : Prop := Claim7.holds Tryz.pinned (.plain (OpenSpec.ofChange pagerFillsSpec)) pagerFillsCard

/-- THE TIED CARD OF 'terrierlaw07.PagerOpens'. -/
def pagerOpensCard : Claim7 := { stood := { row := pagerOpensRow, standIns := [], harness := (true, "43b925dec059e07fe0b0bd3012dad00e5bacb4770016a539ad6bb0408f7d1d5f"), looks := true }, kinds := [], alts := [], laidByText := true, laidKinds := [.data], laidTests := true, laidLooks := .later }
def PagerOpensCardSaid : Prop := Claim7.holds Tryz.pinned (.plain (OpenSpec.ofChange pagerOpensSpec)) pagerOpensCard

/-- THE TIED CARD OF 'terrierlaw07.PagerAgain'. -/
def pagerAgainCard : Claim7 := { stood := { row := pagerAgainRow, standIns := [], harness := (true, "43b925dec059e07fe0b0bd3012dad00e5bacb4770016a539ad6bb0408f7d1d5f"), looks := true }, kinds := [], alts := [], laidByText := true, laidKinds := [.data], laidTests := true, laidLooks := .later }
def PagerAgainCardSaid : Prop := Claim7.holds Tryz.pinned (.plain (OpenSpec.ofChange pagerAgainSpec)) pagerAgainCard

/-- THE SECOND FORM's CARD OF 'terrierlaw07.PagerKeeps'. -/
def pagerKeepsUptoCard : Claim7 := { stood := { row := pagerKeepsUptoRow, standIns := [], harness := (true, "43b925dec059e07fe0b0bd3012dad00e5bacb4770016a539ad6bb0408f7d1d5f"), looks := true }, kinds := [], alts := [], laidByText := true, laidKinds := [.data], laidTests := true, laidLooks := .later }
def PagerKeepsUptoCardSaid : Prop := Claim7.holds Tryz.pinned (.plain (OpenSpec.upto pagerKeepsSpec)) pagerKeepsUptoCard

/-- THE SECOND FORM's CARD OF 'terrierlaw07.PagerUndoes'. -/
def pagerUndoesUptoCard : Claim7 := { stood := { row := pagerUndoesUptoRow, standIns := [], harness := (true, "43b925dec059e07fe0b0bd3012dad00e5bacb4770016a539ad6bb0408f7d1d5f"), looks := true }, kinds := [], alts := [], laidByText := true, laidKinds := [.data], laidTests := true, laidLooks := .later }
def PagerUndoesUptoCardSaid : Prop := Claim7.holds Tryz.pinned (.plain (OpenSpec.upto pagerUndoesSpec)) pagerUndoesUptoCard

/-- THE SECOND FORM's CARD OF 'terrierlaw07.PagerFills'. -/
def pagerFillsUptoCard : Claim7 := { stood := { row := pagerFillsUptoRow, standIns := [], harness := (true, "43b925dec059e07fe0b0bd3012dad00e5bacb4770016a539ad6bb0408f7d1d5f"), looks := true }, kinds := [], alts := [], laidByText := true, laidKinds := [.data], laidTests := true, laidLooks := .later }
def PagerFillsUptoCardSaid : Prop := Claim7.holds Tryz.pinned (.plain (OpenSpec.upto pagerFillsSpec)) pagerFillsUptoCard

/-- THE SECOND FORM's CARD OF 'terrierlaw07.PagerOpens'. -/
def pagerOpensUptoCard : Claim7 := { stood := { row := pagerOpensUptoRow, standIns := [], harness := (true, "43b925dec059e07fe0b0bd3012dad00e5bacb4770016a539ad6bb0408f7d1d5f"), looks := true }, kinds := [], alts := [], laidByText := true, laidKinds := [.data], laidTests := true, laidLooks := .later }
def PagerOpensUptoCardSaid : Prop := Claim7.holds Tryz.pinned (.plain (OpenSpec.upto pagerOpensSpec)) pagerOpensUptoCard

/-- THE SECOND FORM's CARD OF 'terrierlaw07.PagerAgain'. -/
def pagerAgainUptoCard : Claim7 := { stood := { row := pagerAgainUptoRow, standIns := [], harness := (true, "43b925dec059e07fe0b0bd3012dad00e5bacb4770016a539ad6bb0408f7d1d5f"), looks := true }, kinds := [], alts := [], laidByText := true, laidKinds := [.data], laidTests := true, laidLooks := .later }
def PagerAgainUptoCardSaid : Prop := Claim7.holds Tryz.pinned (.plain (OpenSpec.upto pagerAgainSpec)) pagerAgainUptoCard
end Rows
end Go.Proofs.YtdjcahhofonclaaGreatDoor
