/-
  NARROWER THAN 'FOR EVERY INPUT', by the rows' own cells (each row's printed sentence says how): PageCodes: laid · PageReads: laid · PageBack: laid · PageTurned: laid · PageUsed: laid · PagePieces: laid.
  DERIVED. THE GIVEN ROWS OF THIS SEAT. 6 by the template 'for every input the law returns true; each argument reads behind the call as it read before'; 0 by the template 'total and deterministic' (their statements: YtklkgbaejehfpaaDoorTotals.lean).
  GIVEN WITH THE SEED: the statements are not yours to turn. If you find one false, say at which input.
  Laid BY PROGRAM, IN A SANDBOX (cutbox-rows.mjs): the forced cells as the released guide's own fill.sh prints them over the translation 20ab0463796cd8ed… (all of the seat's roots in one cut). By AI agents, Wed Nov 11 2026. No macro, syntax, notation, axiom, sorry.
-/
import Derived.Test.YtklkgbaejehfpaaDoorChecked
import GoSem.Claim
import GoSem.ClaimJoined
import GoSem.ClaimMapViews
import Derived.JoinedTies
import Derived.KernelRfl
namespace Go.Proofs.YtklkgbaejehfpaaDoor
/- THE CELL 'sum', in the pinned program and in every row, IS THE sha256 OF THE DUMP (.gsa) THAT YtklkgbaejehfpaaDoorProg.lean LOADS. Nothing in Lean hashes anything: it is a label: what it is worth is what the hold of that sum in a sandbox is worth. -/
noncomputable def Tryd.pinned : Pinned := { name := "ytklkgbaejehfpaadoor", sum := "20ab0463796cd8ed646c7cde9db04d5427ddb137afe56c77fa02fa962bdce833", checked := Tryd.checked }
namespace Rows
def none {H : Type} : Left H := { results := [], args := [] }

/- WHAT THE LISTED PACKAGE-LEVEL VARIABLES READ AS WHEN THE CALL BEGINS. Each datum BY PROGRAM (the guide's laid-datum.mjs) off the statement by which the dump's own 'gosem.cut.vars' lays the variable. In a bare row this is a premise. The card (YtklkgbaejehfpaaDoorCards.lean) ties it to the program's text. -/
def laid_terrier_sum_fours {H : Type} : DataW H := .agg [.lit (.int .u32 0), .lit (.int .u32 274646895), .lit (.int .u32 549293790), .lit (.int .u32 820201905), .lit (.int .u32 1098587580), .lit (.int .u32 1361435347), .lit (.int .u32 1640403810), .lit (.int .u32 1905808397), .lit (.int .u32 2197175160), .lit (.int .u32 2460548119), .lit (.int .u32 2722870694), .lit (.int .u32 2987750089), .lit (.int .u32 3280807620), .lit (.int .u32 3553878443), .lit (.int .u32 3811616794), .lit (.int .u32 4084100981)]

/-- 'terrierlaw04.PageCodes': WHATEVER THE INPUT: true; the input reads as it did. -/
def pageCodesSpec : ChangeSpec := { name := "pageCodes", fn := fun _ => fun
  | [d] => { results := [.lit (.bool true)], args := [d] }
  | _ => none }
def pageCodesRow : OpenClaim := { program := "ytklkgbaejehfpaadoor", sum := "20ab0463796cd8ed646c7cde9db04d5427ddb137afe56c77fa02fa962bdce833", func := "terrier/terrierlaw04.PageCodes", spec := "pageCodes", inPlace := ["internal/bytealg.Compare"], unfollowed := true, recurses := true, named := ["terrier/sum.fours"], apart := false, laid := [("terrier/sum.fours", laid_terrier_sum_fours)] }
def PageCodesSaid : Prop := pageCodesRow.holds Tryd.pinned (OpenSpec.ofChange pageCodesSpec)

/-- ITS FALSE NEIGHBOUR: 'it returns false'. Refute it at one input. -/
def pageCodesWrong : ChangeSpec := { name := "pageCodes", fn := fun _ => fun
  | [d] => { results := [.lit (.bool false)], args := [d] }
  | _ => none }
def PageCodesWrongFalsely : Prop := pageCodesRow.holds Tryd.pinned (OpenSpec.ofChange pageCodesWrong)

/-- 'terrierlaw04.PageReads': WHATEVER THE INPUT: true; the input reads as it did. -/
def pageReadsSpec : ChangeSpec := { name := "pageReads", fn := fun _ => fun
  | [d1, d2] => { results := [.lit (.bool true)], args := [d1, d2] }
  | _ => none }
def pageReadsRow : OpenClaim := { program := "ytklkgbaejehfpaadoor", sum := "20ab0463796cd8ed646c7cde9db04d5427ddb137afe56c77fa02fa962bdce833", func := "terrier/terrierlaw04.PageReads", spec := "pageReads", inPlace := ["internal/bytealg.Compare"], unfollowed := true, recurses := true, named := ["terrier/sum.fours"], apart := false, laid := [("terrier/sum.fours", laid_terrier_sum_fours)] }
def PageReadsSaid : Prop := pageReadsRow.holds Tryd.pinned (OpenSpec.ofChange pageReadsSpec)

/-- ITS FALSE NEIGHBOUR: 'it returns false'. Refute it at one input. -/
def pageReadsWrong : ChangeSpec := { name := "pageReads", fn := fun _ => fun
  | [d1, d2] => { results := [.lit (.bool false)], args := [d1, d2] }
  | _ => none }
def PageReadsWrongFalsely : Prop := pageReadsRow.holds Tryd.pinned (OpenSpec.ofChange pageReadsWrong)

/-- 'terrierlaw04.PageBack': WHATEVER THE INPUT: true; the input reads as it did. -/
def pageBackSpec : ChangeSpec := { name := "pageBack", fn := fun _ => fun
  | [d1, d2] => { results := [.lit (.bool true)], args := [d1, d2] }
  | _ => none }
def pageBackRow : OpenClaim := { program := "ytklkgbaejehfpaadoor", sum := "20ab0463796cd8ed646c7cde9db04d5427ddb137afe56c77fa02fa962bdce833", func := "terrier/terrierlaw04.PageBack", spec := "pageBack", inPlace := ["internal/bytealg.Compare"], unfollowed := true, recurses := true, named := ["terrier/sum.fours"], apart := false, laid := [("terrier/sum.fours", laid_terrier_sum_fours)] }
def PageBackSaid : Prop := pageBackRow.holds Tryd.pinned (OpenSpec.ofChange pageBackSpec)

/-- ITS FALSE NEIGHBOUR: 'it returns false'. Refute it at one input. -/
def pageBackWrong : ChangeSpec := { name := "pageBack", fn := fun _ => fun
  | [d1, d2] => { results := [.lit (.bool false)], args := [d1, d2] }
  | _ => none }
def PageBackWrongFalsely : Prop := pageBackRow.holds Tryd.pinned (OpenSpec.ofChange pageBackWrong)

/-- 'terrierlaw04.PageTurned': WHATEVER THE INPUT: true; the input reads as it did. -/
def pageTurnedSpec : ChangeSpec := { name := "pageTurned", fn := fun _ => fun
  | [d1, d2, d3] => { results := [.lit (.bool true)], args := [d1, d2, d3] }
  | _ => none }
def pageTurnedRow : OpenClaim := { program := "ytklkgbaejehfpaadoor", sum := "20ab0463796cd8ed646c7cde9db04d5427ddb137afe56c77fa02fa962bdce833", func := "terrier/terrierlaw04.PageTurned", spec := "pageTurned", inPlace := ["internal/bytealg.Compare"], unfollowed := true, recurses := true, named := ["terrier/sum.fours"], apart := false, laid := [("terrier/sum.fours", laid_terrier_sum_fours)] }
def PageTurnedSaid : Prop := pageTurnedRow.holds Tryd.pinned (OpenSpec.ofChange pageTurnedSpec)

/-- ITS FALSE NEIGHBOUR: 'it returns false'. Refute it at one input. -/
def pageTurnedWrong : ChangeSpec := { name := "pageTurned", fn := fun _ => fun
  | [d1, d2, d3] => { results := [.lit (.bool false)], args := [d1, d2, d3] }
  | _ => none }
def PageTurnedWrongFalsely : Prop := pageTurnedRow.holds Tryd.pinned (OpenSpec.ofChange pageTurnedWrong)

/-- 'terrierlaw04.PageUsed': WHATEVER THE INPUT: true; the input reads as it did. -/
def pageUsedSpec : ChangeSpec := { name := "pageUsed", fn := fun _ => fun
  | [d1, d2] => { results := [.lit (.bool true)], args := [d1, d2] }
  | _ => none }
def pageUsedRow : OpenClaim := { program := "ytklkgbaejehfpaadoor", sum := "20ab0463796cd8ed646c7cde9db04d5427ddb137afe56c77fa02fa962bdce833", func := "terrier/terrierlaw04.PageUsed", spec := "pageUsed", inPlace := ["internal/bytealg.Compare"], unfollowed := true, recurses := true, named := ["terrier/sum.fours"], apart := false, laid := [("terrier/sum.fours", laid_terrier_sum_fours)] }
def PageUsedSaid : Prop := pageUsedRow.holds Tryd.pinned (OpenSpec.ofChange pageUsedSpec)

/-- ITS FALSE NEIGHBOUR: 'it returns false'. Refute it at one input. -/
def pageUsedWrong : ChangeSpec := { name := "pageUsed", fn := fun _ => fun
  | [d1, d2] => { results := [.lit (.bool false)], args := [d1, d2] }
  | _ => none }
def PageUsedWrongFalsely : Prop := pageUsedRow.holds Tryd.pinned (OpenSpec.ofChange pageUsedWrong)

/-- 'terrierlaw04.PagePieces': WHATEVER THE INPUT: true; the input reads as it did. -/
def pagePiecesSpec : ChangeSpec := { name := "pagePieces", fn := fun _ => fun
  | [d1, d2, d3] => { results := [.lit (.bool true)], args := [d1, d2, d3] }
  | _ => none }
def pagePiecesRow : OpenClaim := { program := "ytklkgbaejehfpaadoor", sum := "20ab0463796cd8ed646c7cde9db04d5427ddb137afe56c77fa02fa962bdce833", func := "terrier/terrierlaw04.PagePieces", spec := "pagePieces", inPlace := ["internal/bytealg.Compare"], unfollowed := true, recurses := true, named := ["terrier/sum.fours"], apart := false, laid := [("terrier/sum.fours", laid_terrier_sum_fours)] }
def PagePiecesSaid : Prop := pagePiecesRow.holds Tryd.pinned (OpenSpec.ofChange pagePiecesSpec)

/-- ITS FALSE NEIGHBOUR: 'it returns false'. Refute it at one input. -/
def pagePiecesWrong : ChangeSpec := { name := "pagePieces", fn := fun _ => fun
  | [d1, d2, d3] => { results := [.lit (.bool false)], args := [d1, d2, d3] }
  | _ => none }
def PagePiecesWrongFalsely : Prop := pagePiecesRow.holds Tryd.pinned (OpenSpec.ofChange pagePiecesWrong)

/- THE SECOND FORM. 'bulk': how many values and letters a reading holds, each counted each time it is reached (what is shared counts as often as it is met; a slice's spare places count too). A statement '..UptoSaid' is the law's where the arguments, and the package variables that the reading takes, are together of bulk at most 1048576: NARROWER than '..Said'. Prove '..Said' where nothing that the law and all that it calls make is longer than what came in: it says more and counts as full. Else prove '..UptoSaid'. A law counts once. -/
mutual
def uptoBulk {H : Type} : DataW H → Nat
  | .lit (.string bytes) => bytes.length + 1
  | .lit _ => 1
  | .nil => 1
  | .ptr d => uptoBulk d + 1
  | .slice elems spare => uptoBulkAll elems + uptoBulkAll spare + 1
  | .agg parts => uptoBulkAll parts + 1
  | .iface _ d => uptoBulk d + 1
  | .map entries => uptoBulkEntries entries + 1
  | .held _ => 1
def uptoBulkAll {H : Type} : List (DataW H) → Nat
  | [] => 0
  | d :: r => uptoBulk d + uptoBulkAll r
def uptoBulkEntries {H : Type} : List (Lit × DataW H) → Nat
  | [] => 0
  | x :: r => uptoBulkEntry x + uptoBulkEntries r
def uptoBulkEntry {H : Type} : Lit × DataW H → Nat
  | (.string bytes, d) => bytes.length + uptoBulk d + 1
  | (_, d) => uptoBulk d + 1
 end
def uptoSmall : (H : Type) → List (DataW H) → Bool := fun _ ds => decide (uptoBulkAll ds ≤ 1048576)
def OpenSpec.upto (s : _root_.Go.ChangeSpec) : _root_.Go.OpenSpec := { _root_.Go.OpenSpec.ofChange s with cond := some uptoSmall }

/-- 'terrierlaw04.PageCodes', WHERE WHAT IT READS IS OF BULK AT MOST 1048576: true; the input reads as it did. -/
def pageCodesUptoRow : OpenClaim := { program := "ytklkgbaejehfpaadoor", sum := "20ab0463796cd8ed646c7cde9db04d5427ddb137afe56c77fa02fa962bdce833", func := "terrier/terrierlaw04.PageCodes", spec := "pageCodes", inPlace := ["internal/bytealg.Compare"], unfollowed := true, recurses := true, named := ["terrier/sum.fours"], apart := false, laid := [("terrier/sum.fours", laid_terrier_sum_fours)], narrowed := true }
def PageCodesUptoSaid : Prop := pageCodesUptoRow.holds Tryd.pinned (OpenSpec.upto pageCodesSpec)

/-- 'terrierlaw04.PageReads', WHERE WHAT IT READS IS OF BULK AT MOST 1048576: true; the input reads as it did. -/
def pageReadsUptoRow : OpenClaim := { program := "ytklkgbaejehfpaadoor", sum := "20ab0463796cd8ed646c7cde9db04d5427ddb137afe56c77fa02fa962bdce833", func := "terrier/terrierlaw04.PageReads", spec := "pageReads", inPlace := ["internal/bytealg.Compare"], unfollowed := true, recurses := true, named := ["terrier/sum.fours"], apart := false, laid := [("terrier/sum.fours", laid_terrier_sum_fours)], narrowed := true }
def PageReadsUptoSaid : Prop := pageReadsUptoRow.holds Tryd.pinned (OpenSpec.upto pageReadsSpec)

/-- 'terrierlaw04.PageBack', WHERE WHAT IT READS IS OF BULK AT MOST 1048576: true; the input reads as it did. -/
def pageBackUptoRow : OpenClaim := { program := "ytklkgbaejehfpaadoor", sum := "20ab0463796cd8ed646c7cde9db04d5427ddb137afe56c77fa02fa962bdce833", func := "terrier/terrierlaw04.PageBack", spec := "pageBack", inPlace := ["internal/bytealg.Compare"], unfollowed := true, recurses := true, named := ["terrier/sum.fours"], apart := false, laid := [("terrier/sum.fours", laid_terrier_sum_fours)], narrowed := true }
def PageBackUptoSaid : Prop := pageBackUptoRow.holds Tryd.pinned (OpenSpec.upto pageBackSpec)

/-- 'terrierlaw04.PageTurned', WHERE WHAT IT READS IS OF BULK AT MOST 1048576: true; the input reads as it did. -/
def pageTurnedUptoRow : OpenClaim := { program := "ytklkgbaejehfpaadoor", sum := "20ab0463796cd8ed646c7cde9db04d5427ddb137afe56c77fa02fa962bdce833", func := "terrier/terrierlaw04.PageTurned", spec := "pageTurned", inPlace := ["internal/bytealg.Compare"], unfollowed := true, recurses := true, named := ["terrier/sum.fours"], apart := false, laid := [("terrier/sum.fours", laid_terrier_sum_fours)], narrowed := true }
def PageTurnedUptoSaid : Prop := pageTurnedUptoRow.holds Tryd.pinned (OpenSpec.upto pageTurnedSpec)

/-- 'terrierlaw04.PageUsed', WHERE WHAT IT READS IS OF BULK AT MOST 1048576: true; the input reads as it did. -/
def pageUsedUptoRow : OpenClaim := { program := "ytklkgbaejehfpaadoor", sum := "20ab0463796cd8ed646c7cde9db04d5427ddb137afe56c77fa02fa962bdce833", func := "terrier/terrierlaw04.PageUsed", spec := "pageUsed", inPlace := ["internal/bytealg.Compare"], unfollowed := true, recurses := true, named := ["terrier/sum.fours"], apart := false, laid := [("terrier/sum.fours", laid_terrier_sum_fours)], narrowed := true }
def PageUsedUptoSaid : Prop := pageUsedUptoRow.holds Tryd.pinned (OpenSpec.upto pageUsedSpec)

/-- 'terrierlaw04.PagePieces', WHERE WHAT IT READS IS OF BULK AT MOST 1048576: true; the input reads as it did. -/
def pagePiecesUptoRow : OpenClaim := { program := "ytklkgbaejehfpaadoor", sum := "20ab0463796cd8ed646c7cde9db04d5427ddb137afe56c77fa02fa962bdce833", func := "terrier/terrierlaw04.PagePieces", spec := "pagePieces", inPlace := ["internal/bytealg.Compare"], unfollowed := true, recurses := true, named := ["terrier/sum.fours"], apart := false, laid := [("terrier/sum.fours", laid_terrier_sum_fours)], narrowed := true }
def PagePiecesUptoSaid : Prop := pagePiecesUptoRow.holds Tryd.pinned (OpenSpec.upto pagePiecesSpec)

end Rows
end Go.Proofs.YtklkgbaejehfpaaDoor
