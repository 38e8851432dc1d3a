/-
  NARROWER THAN 'FOR EVERY INPUT', by the rows' own cells (each row's printed sentence says how): PageCodes: laid · PageReads: laid · MetaCodes: laid · MetaReads: laid · MetaChooses: laid · MetaBack: laid · MetaTurns: laid · MetaPlaces: laid.
  DERIVED. THE GIVEN ROWS OF THIS SEAT. 8 by the template 'for every input the law returns true; each argument reads behind the call as it read before'; 0 by the template 'total and deterministic' (their statements: YtfgpkgenahlikaaDoorTotals.lean).
  GIVEN WITH THE SEED: the statements are not yours to turn. If you find one false, say at which input.
  Laid BY PROGRAM, IN A SANDBOX (cutbox-rows.mjs): the forced cells as the released guide's own fill.sh prints them over the translation a994fb782807d035… (all of the seat's roots in one cut). By AI agents, Wed Nov 11 2026. No macro, syntax, notation, axiom, sorry.
-/
import Derived.Test.YtfgpkgenahlikaaDoorChecked
import GoSem.Claim
import GoSem.ClaimJoined
import GoSem.ClaimMapViews
import Derived.JoinedTies
import Derived.KernelRfl
namespace Go.Proofs.YtfgpkgenahlikaaDoor
/- THE CELL 'sum', in the pinned program and in every row, IS THE sha256 OF THE DUMP (.gsa) THAT YtfgpkgenahlikaaDoorProg.lean LOADS. Nothing in Lean hashes anything: it is a label: what it is worth is what the hold of that sum in a sandbox is worth. -/
noncomputable def Tryd.pinned : Pinned := { name := "ytfgpkgenahlikaadoor", sum := "a994fb782807d035f38a1799f615c5e90463b47001fd417615986c329c5ba910", checked := Tryd.checked }
namespace Rows
def none {H : Type} : Left H := { results := [], args := [] }

/- WHAT THE LISTED PACKAGE-LEVEL VARIABLES READ AS WHEN THE CALL BEGINS. Each datum BY PROGRAM (the guide's laid-datum.mjs) off the statement by which the dump's own 'gosem.cut.vars' lays the variable. In a bare row this is a premise. The card (YtfgpkgenahlikaaDoorCards.lean) ties it to the program's text. -/
def laid_terrier_sum_fours {H : Type} : DataW H := .agg [.lit (.int .u32 0), .lit (.int .u32 274646895), .lit (.int .u32 549293790), .lit (.int .u32 820201905), .lit (.int .u32 1098587580), .lit (.int .u32 1361435347), .lit (.int .u32 1640403810), .lit (.int .u32 1905808397), .lit (.int .u32 2197175160), .lit (.int .u32 2460548119), .lit (.int .u32 2722870694), .lit (.int .u32 2987750089), .lit (.int .u32 3280807620), .lit (.int .u32 3553878443), .lit (.int .u32 3811616794), .lit (.int .u32 4084100981)]

/-- 'terrierlaw04.PageCodes': WHATEVER THE INPUT: true; the input reads as it did. -/
def pageCodesSpec : ChangeSpec := { name := "pageCodes", fn := fun _ => fun
  | [d] => { results := [.lit (.bool true)], args := [d] }
  | _ => none }
def pageCodesRow : OpenClaim := { program := "ytfgpkgenahlikaadoor", sum := "a994fb782807d035f38a1799f615c5e90463b47001fd417615986c329c5ba910", func := "terrier/terrierlaw04.PageCodes", spec := "pageCodes", inPlace := ["internal/bytealg.Compare"], unfollowed := true, recurses := true, named := ["terrier/sum.fours"], apart := false, laid := [("terrier/sum.fours", laid_terrier_sum_fours)] }
def PageCodesSaid : Prop := pageCodesRow.holds Tryd.pinned (OpenSpec.ofChange pageCodesSpec)

/-- ITS FALSE NEIGHBOUR: 'it returns false'. Refute it at one input. -/
def pageCodesWrong : ChangeSpec := { name := "pageCodes", fn := fun _ => fun
  | [d] => { results := [.lit (.bool false)], args := [d] }
  | _ => none }
def PageCodesWrongFalsely : Prop := pageCodesRow.holds Tryd.pinned (OpenSpec.ofChange pageCodesWrong)

/-- 'terrierlaw04.PageReads': WHATEVER THE INPUT: true; the input reads as it did. -/
def pageReadsSpec : ChangeSpec := { name := "pageReads", fn := fun _ => fun
  | [d1, d2] => { results := [.lit (.bool true)], args := [d1, d2] }
  | _ => none }
def pageReadsRow : OpenClaim := { program := "ytfgpkgenahlikaadoor", sum := "a994fb782807d035f38a1799f615c5e90463b47001fd417615986c329c5ba910", func := "terrier/terrierlaw04.PageReads", spec := "pageReads", inPlace := ["internal/bytealg.Compare"], unfollowed := true, recurses := true, named := ["terrier/sum.fours"], apart := false, laid := [("terrier/sum.fours", laid_terrier_sum_fours)] }
def PageReadsSaid : Prop := pageReadsRow.holds Tryd.pinned (OpenSpec.ofChange pageReadsSpec)

/-- ITS FALSE NEIGHBOUR: 'it returns false'. Refute it at one input. -/
def pageReadsWrong : ChangeSpec := { name := "pageReads", fn := fun _ => fun
  | [d1, d2] => { results := [.lit (.bool false)], args := [d1, d2] }
  | _ => none }
def PageReadsWrongFalsely : Prop := pageReadsRow.holds Tryd.pinned (OpenSpec.ofChange pageReadsWrong)

/-- 'terrierlaw05.MetaCodes': WHATEVER THE INPUT: true; the input reads as it did. -/
def metaCodesSpec : ChangeSpec := { name := "metaCodes", fn := fun _ => fun
  | [d] => { results := [.lit (.bool true)], args := [d] }
  | _ => none }
def metaCodesRow : OpenClaim := { program := "ytfgpkgenahlikaadoor", sum := "a994fb782807d035f38a1799f615c5e90463b47001fd417615986c329c5ba910", func := "terrier/terrierlaw05.MetaCodes", spec := "metaCodes", named := ["terrier/sum.fours"], apart := false, laid := [("terrier/sum.fours", laid_terrier_sum_fours)] }
def MetaCodesSaid : Prop := metaCodesRow.holds Tryd.pinned (OpenSpec.ofChange metaCodesSpec)

/-- ITS FALSE NEIGHBOUR: 'it returns false'. Refute it at one input. -/
def metaCodesWrong : ChangeSpec := { name := "metaCodes", fn := fun _ => fun
  | [d] => { results := [.lit (.bool false)], args := [d] }
  | _ => none }
def MetaCodesWrongFalsely : Prop := metaCodesRow.holds Tryd.pinned (OpenSpec.ofChange metaCodesWrong)

/-- 'terrierlaw05.MetaReads': WHATEVER THE INPUT: true; the input reads as it did. -/
def metaReadsSpec : ChangeSpec := { name := "metaReads", fn := fun _ => fun
  | [d1, d2] => { results := [.lit (.bool true)], args := [d1, d2] }
  | _ => none }
def metaReadsRow : OpenClaim := { program := "ytfgpkgenahlikaadoor", sum := "a994fb782807d035f38a1799f615c5e90463b47001fd417615986c329c5ba910", func := "terrier/terrierlaw05.MetaReads", spec := "metaReads", named := ["terrier/sum.fours"], apart := false, laid := [("terrier/sum.fours", laid_terrier_sum_fours)] }
def MetaReadsSaid : Prop := metaReadsRow.holds Tryd.pinned (OpenSpec.ofChange metaReadsSpec)

/-- ITS FALSE NEIGHBOUR: 'it returns false'. Refute it at one input. -/
def metaReadsWrong : ChangeSpec := { name := "metaReads", fn := fun _ => fun
  | [d1, d2] => { results := [.lit (.bool false)], args := [d1, d2] }
  | _ => none }
def MetaReadsWrongFalsely : Prop := metaReadsRow.holds Tryd.pinned (OpenSpec.ofChange metaReadsWrong)

/-- 'terrierlaw05.MetaChooses': WHATEVER THE INPUT: true; the input reads as it did. -/
def metaChoosesSpec : ChangeSpec := { name := "metaChooses", fn := fun _ => fun
  | [d1, d2] => { results := [.lit (.bool true)], args := [d1, d2] }
  | _ => none }
def metaChoosesRow : OpenClaim := { program := "ytfgpkgenahlikaadoor", sum := "a994fb782807d035f38a1799f615c5e90463b47001fd417615986c329c5ba910", func := "terrier/terrierlaw05.MetaChooses", spec := "metaChooses", named := ["terrier/sum.fours"], apart := false, laid := [("terrier/sum.fours", laid_terrier_sum_fours)] }
def MetaChoosesSaid : Prop := metaChoosesRow.holds Tryd.pinned (OpenSpec.ofChange metaChoosesSpec)

/-- ITS FALSE NEIGHBOUR: 'it returns false'. Refute it at one input. -/
def metaChoosesWrong : ChangeSpec := { name := "metaChooses", fn := fun _ => fun
  | [d1, d2] => { results := [.lit (.bool false)], args := [d1, d2] }
  | _ => none }
def MetaChoosesWrongFalsely : Prop := metaChoosesRow.holds Tryd.pinned (OpenSpec.ofChange metaChoosesWrong)

/-- 'terrierlaw05.MetaBack': WHATEVER THE INPUT: true; the input reads as it did. -/
def metaBackSpec : ChangeSpec := { name := "metaBack", fn := fun _ => fun
  | [d1, d2] => { results := [.lit (.bool true)], args := [d1, d2] }
  | _ => none }
def metaBackRow : OpenClaim := { program := "ytfgpkgenahlikaadoor", sum := "a994fb782807d035f38a1799f615c5e90463b47001fd417615986c329c5ba910", func := "terrier/terrierlaw05.MetaBack", spec := "metaBack", named := ["terrier/sum.fours"], apart := false, laid := [("terrier/sum.fours", laid_terrier_sum_fours)] }
def MetaBackSaid : Prop := metaBackRow.holds Tryd.pinned (OpenSpec.ofChange metaBackSpec)

/-- ITS FALSE NEIGHBOUR: 'it returns false'. Refute it at one input. -/
def metaBackWrong : ChangeSpec := { name := "metaBack", fn := fun _ => fun
  | [d1, d2] => { results := [.lit (.bool false)], args := [d1, d2] }
  | _ => none }
def MetaBackWrongFalsely : Prop := metaBackRow.holds Tryd.pinned (OpenSpec.ofChange metaBackWrong)

/-- 'terrierlaw05.MetaTurns': WHATEVER THE INPUT: true; the input reads as it did. -/
def metaTurnsSpec : ChangeSpec := { name := "metaTurns", fn := fun _ => fun
  | [d1, d2, d3, d4] => { results := [.lit (.bool true)], args := [d1, d2, d3, d4] }
  | _ => none }
def metaTurnsRow : OpenClaim := { program := "ytfgpkgenahlikaadoor", sum := "a994fb782807d035f38a1799f615c5e90463b47001fd417615986c329c5ba910", func := "terrier/terrierlaw05.MetaTurns", spec := "metaTurns", named := ["terrier/sum.fours"], apart := false, laid := [("terrier/sum.fours", laid_terrier_sum_fours)] }
def MetaTurnsSaid : Prop := metaTurnsRow.holds Tryd.pinned (OpenSpec.ofChange metaTurnsSpec)

/-- ITS FALSE NEIGHBOUR: 'it returns false'. Refute it at one input. -/
def metaTurnsWrong : ChangeSpec := { name := "metaTurns", fn := fun _ => fun
  | [d1, d2, d3, d4] => { results := [.lit (.bool false)], args := [d1, d2, d3, d4] }
  | _ => none }
def MetaTurnsWrongFalsely : Prop := metaTurnsRow.holds Tryd.pinned (OpenSpec.ofChange metaTurnsWrong)

/-- 'terrierlaw05.MetaPlaces': WHATEVER THE INPUT: true; the input reads as it did. -/
def metaPlacesSpec : ChangeSpec := { name := "metaPlaces", fn := fun _ => fun
  | [d1, d2] => { results := [.lit (.bool true)], args := [d1, d2] }
  | _ => none }
def metaPlacesRow : OpenClaim := { program := "ytfgpkgenahlikaadoor", sum := "a994fb782807d035f38a1799f615c5e90463b47001fd417615986c329c5ba910", func := "terrier/terrierlaw05.MetaPlaces", spec := "metaPlaces", named := ["terrier/sum.fours"], apart := false, laid := [("terrier/sum.fours", laid_terrier_sum_fours)] }
def MetaPlacesSaid : Prop := metaPlacesRow.holds Tryd.pinned (OpenSpec.ofChange metaPlacesSpec)

/-- ITS FALSE NEIGHBOUR: 'it returns false'. Refute it at one input. -/
def metaPlacesWrong : ChangeSpec := { name := "metaPlaces", fn := fun _ => fun
  | [d1, d2] => { results := [.lit (.bool false)], args := [d1, d2] }
  | _ => none }
def MetaPlacesWrongFalsely : Prop := metaPlacesRow.holds Tryd.pinned (OpenSpec.ofChange metaPlacesWrong)

/- THE SECOND FORM. 'bulk': how many values and letters a reading holds, each counted each time it is reached (what is shared counts as often as it is met; a slice's spare places count too). A statement '..UptoSaid' is the law's where the arguments, and the package variables that the reading takes, are together of bulk at most 1048576: NARROWER than '..Said'. Prove '..Said' where nothing that the law and all that it calls make is longer than what came in: it says more and counts as full. Else prove '..UptoSaid'. A law counts once. -/
mutual
def uptoBulk {H : Type} : DataW H → Nat
  | .lit (.string bytes) => bytes.length + 1
  | .lit _ => 1
  | .nil => 1
  | .ptr d => uptoBulk d + 1
  | .slice elems spare => uptoBulkAll elems + uptoBulkAll spare + 1
  | .agg parts => uptoBulkAll parts + 1
  | .iface _ d => uptoBulk d + 1
  | .map entries => uptoBulkEntries entries + 1
  | .held _ => 1
def uptoBulkAll {H : Type} : List (DataW H) → Nat
  | [] => 0
  | d :: r => uptoBulk d + uptoBulkAll r
def uptoBulkEntries {H : Type} : List (Lit × DataW H) → Nat
  | [] => 0
  | x :: r => uptoBulkEntry x + uptoBulkEntries r
def uptoBulkEntry {H : Type} : Lit × DataW H → Nat
  | (.string bytes, d) => bytes.length + uptoBulk d + 1
  | (_, d) => uptoBulk d + 1
 end
def uptoSmall : (H : Type) → List (DataW H) → Bool := fun _ ds => decide (uptoBulkAll ds ≤ 1048576)
def OpenSpec.upto (s : _root_.Go.ChangeSpec) : _root_.Go.OpenSpec := { _root_.Go.OpenSpec.ofChange s with cond := some uptoSmall }

/-- 'terrierlaw04.PageCodes', WHERE WHAT IT READS IS OF BULK AT MOST 1048576: true; the input reads as it did. -/
def pageCodesUptoRow : OpenClaim := { program := "ytfgpkgenahlikaadoor", sum := "a994fb782807d035f38a1799f615c5e90463b47001fd417615986c329c5ba910", func := "terrier/terrierlaw04.PageCodes", spec := "pageCodes", inPlace := ["internal/bytealg.Compare"], unfollowed := true, recurses := true, named := ["terrier/sum.fours"], apart := false, laid := [("terrier/sum.fours", laid_terrier_sum_fours)], narrowed := true }
def PageCodesUptoSaid : Prop := pageCodesUptoRow.holds Tryd.pinned (OpenSpec.upto pageCodesSpec)

/-- 'terrierlaw04.PageReads', WHERE WHAT IT READS IS OF BULK AT MOST 1048576: true; the input reads as it did. -/
def pageReadsUptoRow : OpenClaim := { program := "ytfgpkgenahlikaadoor", sum := "a994fb782807d035f38a1799f615c5e90463b47001fd417615986c329c5ba910", func := "terrier/terrierlaw04.PageReads", spec := "pageReads", inPlace := ["internal/bytealg.Compare"], unfollowed := true, recurses := true, named := ["terrier/sum.fours"], apart := false, laid := [("terrier/sum.fours", laid_terrier_sum_fours)], narrowed := true }
def PageReadsUptoSaid : Prop := pageReadsUptoRow.holds Tryd.pinned (OpenSpec.upto pageReadsSpec)

/-- 'terrierlaw05.MetaCodes', WHERE WHAT IT READS IS OF BULK AT MOST 1048576: true; the input reads as it did. -/
def metaCodesUptoRow : OpenClaim := { program := "ytfgpkgenahlikaadoor", sum := "a994fb782807d035f38a1799f615c5e90463b47001fd417615986c329c5ba910", func := "terrier/terrierlaw05.MetaCodes", spec := "metaCodes", named := ["terrier/sum.fours"], apart := false, laid := [("terrier/sum.fours", laid_terrier_sum_fours)], narrowed := true }
def MetaCodesUptoSaid : Prop := metaCodesUptoRow.holds Tryd.pinned (OpenSpec.upto metaCodesSpec)

/-- 'terrierlaw05.MetaReads', WHERE WHAT IT READS IS OF BULK AT MOST 1048576: true; the input reads as it did. -/
def metaReadsUptoRow : OpenClaim := { program := "ytfgpkgenahlikaadoor", sum := "a994fb782807d035f38a1799f615c5e90463b47001fd417615986c329c5ba910", func := "terrier/terrierlaw05.MetaReads", spec := "metaReads", named := ["terrier/sum.fours"], apart := false, laid := [("terrier/sum.fours", laid_terrier_sum_fours)], narrowed := true }
def MetaReadsUptoSaid : Prop := metaReadsUptoRow.holds Tryd.pinned (OpenSpec.upto metaReadsSpec)

/-- 'terrierlaw05.MetaChooses', WHERE WHAT IT READS IS OF BULK AT MOST 1048576: true; the input reads as it did. -/
def metaChoosesUptoRow : OpenClaim := { program := "ytfgpkgenahlikaadoor", sum := "a994fb782807d035f38a1799f615c5e90463b47001fd417615986c329c5ba910", func := "terrier/terrierlaw05.MetaChooses", spec := "metaChooses", named := ["terrier/sum.fours"], apart := false, laid := [("terrier/sum.fours", laid_terrier_sum_fours)], narrowed := true }
def MetaChoosesUptoSaid : Prop := metaChoosesUptoRow.holds Tryd.pinned (OpenSpec.upto metaChoosesSpec)

/-- 'terrierlaw05.MetaBack', WHERE WHAT IT READS IS OF BULK AT MOST 1048576: true; the input reads as it did. -/
def metaBackUptoRow : OpenClaim := { program := "ytfgpkgenahlikaadoor", sum := "a994fb782807d035f38a1799f615c5e90463b47001fd417615986c329c5ba910", func := "terrier/terrierlaw05.MetaBack", spec := "metaBack", named := ["terrier/sum.fours"], apart := false, laid := [("terrier/sum.fours", laid_terrier_sum_fours)], narrowed := true }
def MetaBackUptoSaid : Prop := metaBackUptoRow.holds Tryd.pinned (OpenSpec.upto metaBackSpec)

/-- 'terrierlaw05.MetaTurns', WHERE WHAT IT READS IS OF BULK AT MOST 1048576: true; the input reads as it did. -/
def metaTurnsUptoRow : OpenClaim := { program := "ytfgpkgenahlikaadoor", sum := "a994fb782807d035f38a1799f615c5e90463b47001fd417615986c329c5ba910", func := "terrier/terrierlaw05.MetaTurns", spec := "metaTurns", named := ["terrier/sum.fours"], apart := false, laid := [("terrier/sum.fours", laid_terrier_sum_fours)], narrowed := true }
def MetaTurnsUptoSaid : Prop := metaTurnsUptoRow.holds Tryd.pinned (OpenSpec.upto metaTurnsSpec)

/-- 'terrierlaw05.MetaPlaces', WHERE WHAT IT READS IS OF BULK AT MOST 1048576: true; the input reads as it did. -/
def metaPlacesUptoRow : OpenClaim := { program := "ytfgpkgenahlikaadoor", sum := "a994fb782807d035f38a1799f615c5e90463b47001fd417615986c329c5ba910", func := "terrier/terrierlaw05.MetaPlaces", spec := "metaPlaces", named := ["terrier/sum.fours"], apart := false, laid := [("terrier/sum.fours", laid_terrier_sum_fours)], narrowed := true }
def MetaPlacesUptoSaid : Prop := metaPlacesUptoRow.holds Tryd.pinned (OpenSpec.upto metaPlacesSpec)

end Rows
end Go.Proofs.YtfgpkgenahlikaaDoor
