/-
  NARROWER THAN 'FOR EVERY INPUT', by the rows' own cells (each row's printed sentence says how): PagerKeeps: laid · PagerUndoes: laid · PagerFills: laid · PagerOpens: laid · PagerAgain: laid.
  DERIVED. THE GIVEN ROWS OF THIS SEAT. 5 by the template 'for every input the law returns true; each argument reads behind the call as it read before'; 0 by the template 'total and deterministic' (their statements: YtdjcahhofonclaaGreatDoorTotals.lean).
  GIVEN WITH THE SEED: the statements are not yours to turn. If you find one false, say at which input.
  Laid BY PROGRAM, IN A SANDBOX (cutbox-rows.mjs): the forced cells as the released guide's own fill.sh prints them over the translation 69721b5b7444d70b… (all of the seat's roots in one cut). By AI agents, Wed Nov 11 2026. No macro, syntax, notation, axiom, sorry.
-/
import Derived.Test.YtdjcahhofonclaaGreatDoorChecked
import GoSem.Claim
import GoSem.ClaimJoined
import GoSem.ClaimMapViews
import Derived.JoinedTies
import Derived.KernelRfl
namespace Go.Proofs.YtdjcahhofonclaaGreatDoor
/- THE CELL 'sum', in the pinned program and in every row, IS THE sha256 OF THE DUMP (.gsa) THAT YtdjcahhofonclaaGreatDoorProg.lean LOADS. Nothing in Lean hashes anything: it is a label: what it is worth is what the hold of that sum in a sandbox is worth. -/
noncomputable def Tryz.pinned : Pinned := { name := "ytdjcahhofonclaagreatdoor", sum := "69721b5b7444d70be4d63127be206741461d82b6abfe2f29121617a311cb9792", checked := Tryz.checked }
namespace Rows
def none {H : Type} : Left H := { results := [], args := [] }

/- WHAT THE LISTED PACKAGE-LEVEL VARIABLES READ AS WHEN THE CALL BEGINS. Each datum BY PROGRAM (the guide's laid-datum.mjs) off the statement by which the dump's own 'gosem.cut.vars' lays the variable. In a bare row this is a premise. The card (YtdjcahhofonclaaGreatDoorCards.lean) ties it to the program's text. -/
def laid_terrier_sum_fours {H : Type} : DataW H := .agg [.lit (.int .u32 0), .lit (.int .u32 274646895), .lit (.int .u32 549293790), .lit (.int .u32 820201905), .lit (.int .u32 1098587580), .lit (.int .u32 1361435347), .lit (.int .u32 1640403810), .lit (.int .u32 1905808397), .lit (.int .u32 2197175160), .lit (.int .u32 2460548119), .lit (.int .u32 2722870694), .lit (.int .u32 2987750089), .lit (.int .u32 3280807620), .lit (.int .u32 3553878443), .lit (.int .u32 3811616794), .lit (.int .u32 4084100981)]

/-- 'terrierlaw07.PagerKeeps': WHATEVER THE INPUT: true; the input reads as it did. -/
def pagerKeepsSpec : ChangeSpec := { name := "pagerKeeps", fn := fun _ => fun
  | [d1, d2, d3, d4, d5, d6] => { results := [.lit (.bool true)], args := [d1, d2, d3, d4, d5, d6] }
  | _ => none }
def pagerKeepsRow : OpenClaim := { program := "ytdjcahhofonclaagreatdoor", sum := "69721b5b7444d70be4d63127be206741461d82b6abfe2f29121617a311cb9792", func := "terrier/terrierlaw07.PagerKeeps", spec := "pagerKeeps", inPlace := ["internal/bytealg.Compare", "sync/atomic.AddInt64", "slices.overlaps[int]"], unfollowed := true, recurses := true, named := ["terrier/sum.fours"], apart := false, laid := [("terrier/sum.fours", laid_terrier_sum_fours)] }
def PagerKeepsSaid : Prop := pagerKeepsRow.holds Tryz.pinned (OpenSpec.ofChange pagerKeepsSpec)

/-- ITS FALSE NEIGHBOUR: 'it returns false'. Refute it at one input. -/
def pagerKeepsWrong : ChangeSpec := { name := "pagerKeeps", fn := fun _ => fun
  | [d1, d2, d3, d4, d5, d6] => { results := [.lit (.bool false)], args := [d1, d2, d3, d4, d5, d6] }
  | _ => none }
def PagerKeepsWrongFalsely : Prop := pagerKeepsRow.holds Tryz.pinned (OpenSpec.ofChange pagerKeepsWrong)

/-- 'terrierlaw07.PagerUndoes': WHATEVER THE INPUT: true; the input reads as it did. -/
def pagerUndoesSpec : ChangeSpec := { name := "pagerUndoes", fn := fun _ => fun
  | [d1, d2, d3, d4] => { results := [.lit (.bool true)], args := [d1, d2, d3, d4] }
  | _ => none }
def pagerUndoesRow : OpenClaim := { program := "ytdjcahhofonclaagreatdoor", sum := "69721b5b7444d70be4d63127be206741461d82b6abfe2f29121617a311cb9792", func := "terrier/terrierlaw07.PagerUndoes", spec := "pagerUndoes", inPlace := ["internal/bytealg.Compare", "sync/atomic.AddInt64", "slices.overlaps[int]", "maps.clone"], unfollowed := true, recurses := true, named := ["terrier/sum.fours"], apart := false, laid := [("terrier/sum.fours", laid_terrier_sum_fours)] }
def PagerUndoesSaid : Prop := pagerUndoesRow.holds Tryz.pinned (OpenSpec.ofChange pagerUndoesSpec)

/-- ITS FALSE NEIGHBOUR: 'it returns false'. Refute it at one input. -/
def pagerUndoesWrong : ChangeSpec := { name := "pagerUndoes", fn := fun _ => fun
  | [d1, d2, d3, d4] => { results := [.lit (.bool false)], args := [d1, d2, d3, d4] }
  | _ => none }
def PagerUndoesWrongFalsely : Prop := pagerUndoesRow.holds Tryz.pinned (OpenSpec.ofChange pagerUndoesWrong)

/-- 'terrierlaw07.PagerFills': WHATEVER THE INPUT: true; the input reads as it did. -/
def pagerFillsSpec : ChangeSpec := { name := "pagerFills", fn := fun _ => fun
  | [d1, d2] => { results := [.lit (.bool true)], args := [d1, d2] }
  | _ => none }
def pagerFillsRow : OpenClaim := { program := "ytdjcahhofonclaagreatdoor", sum := "69721b5b7444d70be4d63127be206741461d82b6abfe2f29121617a311cb9792", func := "terrier/terrierlaw07.PagerFills", spec := "pagerFills", inPlace := ["internal/bytealg.Compare", "sync/atomic.AddInt64", "slices.overlaps[int]"], unfollowed := true, recurses := true, named := ["terrier/sum.fours"], apart := false, laid := [("terrier/sum.fours", laid_terrier_sum_fours)] }
def PagerFillsSaid : Prop := pagerFillsRow.holds Tryz.pinned (OpenSpec.ofChange pagerFillsSpec)

/-- ITS FALSE NEIGHBOUR: 'it returns false'. Refute it at one input. -/
def pagerFillsWrong : ChangeSpec := { name := "pagerFills", fn := fun _ => fun
  | [d1, d2] => { results := [.lit (.bool false)], args := [d1, d2] }
  | _ => none }
def PagerFillsWrongFalsely : Prop := pagerFillsRow.holds Tryz.pinned (OpenSpec.ofChange pagerFillsWrong)

/-- 'terrierlaw07.PagerOpens': WHATEVER THE INPUT: true; the input reads as it did. -/
def pagerOpensSpec : ChangeSpec := { name := "pagerOpens", fn := fun _ => fun
  | [d1, d2, d3, d4] => { results := [.lit (.bool true)], args := [d1, d2, d3, d4] }
  | _ => none }
def pagerOpensRow : OpenClaim := { program := "ytdjcahhofonclaagreatdoor", sum := "69721b5b7444d70be4d63127be206741461d82b6abfe2f29121617a311cb9792", func := "terrier/terrierlaw07.PagerOpens", spec := "pagerOpens", inPlace := ["internal/bytealg.Compare", "sync/atomic.AddInt64", "slices.overlaps[int]"], unfollowed := true, recurses := true, named := ["terrier/sum.fours"], apart := false, laid := [("terrier/sum.fours", laid_terrier_sum_fours)] }
def PagerOpensSaid : Prop := pagerOpensRow.holds Tryz.pinned (OpenSpec.ofChange pagerOpensSpec)

/-- ITS FALSE NEIGHBOUR: 'it returns false'. Refute it at one input. -/
def pagerOpensWrong : ChangeSpec := { name := "pagerOpens", fn := fun _ => fun
  | [d1, d2, d3, d4] => { results := [.lit (.bool false)], args := [d1, d2, d3, d4] }
  | _ => none }
def PagerOpensWrongFalsely : Prop := pagerOpensRow.holds Tryz.pinned (OpenSpec.ofChange pagerOpensWrong)

/-- 'terrierlaw07.PagerAgain': WHATEVER THE INPUT: true; the input reads as it did. -/
def pagerAgainSpec : ChangeSpec := { name := "pagerAgain", fn := fun _ => fun
  | [d1, d2, d3] => { results := [.lit (.bool true)], args := [d1, d2, d3] }
  | _ => none }
def pagerAgainRow : OpenClaim := { program := "ytdjcahhofonclaagreatdoor", sum := "69721b5b7444d70be4d63127be206741461d82b6abfe2f29121617a311cb9792", func := "terrier/terrierlaw07.PagerAgain", spec := "pagerAgain", inPlace := ["internal/bytealg.Compare", "sync/atomic.AddInt64", "slices.overlaps[int]"], unfollowed := true, recurses := true, named := ["terrier/sum.fours"], apart := false, laid := [("terrier/sum.fours", laid_terrier_sum_fours)] }
def PagerAgainSaid : Prop := pagerAgainRow.holds Tryz.pinned (OpenSpec.ofChange pagerAgainSpec)

/-- ITS FALSE NEIGHBOUR: 'it returns false'. Refute it at one input. -/
def pagerAgainWrong : ChangeSpec := { name := "pagerAgain", fn := fun _ => fun
  | [d1, d2, d3] => { results := [.lit (.bool false)], args := [d1, d2, d3] }
  | _ => none }
def PagerAgainWrongFalsely : Prop := pagerAgainRow.holds Tryz.pinned (OpenSpec.ofChange pagerAgainWrong)

/- THE SECOND FORM. 'bulk': how many values and letters a reading holds, each counted each time it is reached (what is shared counts as often as it is met; a slice's spare places count too). A statement '..UptoSaid' is the law's where the arguments, and the package variables that the reading takes, are together of bulk at most 1048576: NARROWER than '..Said'. Prove '..Said' where nothing that the law and all that it calls make is longer than what came in: it says more and counts as full. Else prove '..UptoSaid'. A law counts once. -/
mutual
def uptoBulk {H : Type} : DataW H → Nat
  | .lit (.string bytes) => bytes.length + 1
  | .lit _ => 1
  | .nil => 1
  | .ptr d => uptoBulk d + 1
  | .slice elems spare => uptoBulkAll elems + uptoBulkAll spare + 1
  | .agg parts => uptoBulkAll parts + 1
  | .iface _ d => uptoBulk d + 1
  | .map entries => uptoBulkEntries entries + 1
  | .held _ => 1
def uptoBulkAll {H : Type} : List (DataW H) → Nat
  | [] => 0
  | d :: r => uptoBulk d + uptoBulkAll r
def uptoBulkEntries {H : Type} : List (Lit × DataW H) → Nat
  | [] => 0
  | x :: r => uptoBulkEntry x + uptoBulkEntries r
def uptoBulkEntry {H : Type} : Lit × DataW H → Nat
  | (.string bytes, d) => bytes.length + uptoBulk d + 1
  | (_, d) => uptoBulk d + 1
 end
def uptoSmall : (H : Type) → List (DataW H) → Bool := fun _ ds => decide (uptoBulkAll ds ≤ 1048576)
def OpenSpec.upto (s : _root_.Go.ChangeSpec) : _root_.Go.OpenSpec := { _root_.Go.OpenSpec.ofChange s with cond := some uptoSmall }

/-- 'terrierlaw07.PagerKeeps', WHERE WHAT IT READS IS OF BULK AT MOST 1048576: true; the input reads as it did. -/
def pagerKeepsUptoRow : OpenClaim := { program := "ytdjcahhofonclaagreatdoor", sum := "69721b5b7444d70be4d63127be206741461d82b6abfe2f29121617a311cb9792", func := "terrier/terrierlaw07.PagerKeeps", spec := "pagerKeeps", inPlace := ["internal/bytealg.Compare", "sync/atomic.AddInt64", "slices.overlaps[int]"], unfollowed := true, recurses := true, named := ["terrier/sum.fours"], apart := false, laid := [("terrier/sum.fours", laid_terrier_sum_fours)], narrowed := true }
def PagerKeepsUptoSaid : Prop := pagerKeepsUptoRow.holds Tryz.pinned (OpenSpec.upto pagerKeepsSpec)

/-- 'terrierlaw07.PagerUndoes', WHERE WHAT IT READS IS OF BULK AT MOST 1048576: true; the input reads as it did. -/
def pagerUndoesUptoRow : OpenClaim := { program := "ytdjcahhofonclaagreatdoor", sum := "69721b5b7444d70be4d63127be206741461d82b6abfe2f29121617a311cb9792", func := "terrier/terrierlaw07.PagerUndoes", spec := "pagerUndoes", inPlace := ["internal/bytealg.Compare", "sync/atomic.AddInt64", "slices.overlaps[int]", "maps.clone"], unfollowed := true, recurses := true, named := ["terrier/sum.fours"], apart := false, laid := [("terrier/sum.fours", laid_terrier_sum_fours)], narrowed := true }
def PagerUndoesUptoSaid : Prop := pagerUndoesUptoRow.holds Tryz.pinned (OpenSpec.upto pagerUndoesSpec)

/-- 'terrierlaw07.PagerFills', WHERE WHAT IT READS IS OF BULK AT MOST 1048576: true; the input reads as it did. -/
def pagerFillsUptoRow : OpenClaim := { program := "ytdjcahhofonclaagreatdoor", sum := "69721b5b7444d70be4d63127be206741461d82b6abfe2f29121617a311cb9792", func := "terrier/terrierlaw07.PagerFills", spec := "pagerFills", inPlace := ["internal/bytealg.Compare", "sync/atomic.AddInt64", "slices.overlaps[int]"], unfollowed := true, recurses := true, named := ["terrier/sum.fours"], apart := false, laid := [("terrier/sum.fours", laid_terrier_sum_fours)], narrowed := true }
def PagerFillsUptoSaid : Prop := pagerFillsUptoRow.holds Tryz.pinned (OpenSpec.upto pagerFillsSpec)

/-- 'terrierlaw07.PagerOpens', WHERE WHAT IT READS IS OF BULK AT MOST 1048576: true; the input reads as it did. -/
def pagerOpensUptoRow : OpenClaim := { program := "ytdjcahhofonclaagreatdoor", sum := "69721b5b7444d70be4d63127be206741461d82b6abfe2f29121617a311cb9792", func := "terrier/terrierlaw07.PagerOpens", spec := "pagerOpens", inPlace := ["internal/bytealg.Compare", "sync/atomic.AddInt64", "slices.overlaps[int]"], unfollowed := true, recurses := true, named := ["terrier/sum.fours"], apart := false, laid := [("terrier/sum.fours", laid_terrier_sum_fours)], narrowed := true }
def PagerOpensUptoSaid : Prop := pagerOpensUptoRow.holds Tryz.pinned (OpenSpec.upto pagerOpensSpec)

/-- 'terrierlaw07.PagerAgain', WHERE WHAT IT READS IS OF BULK AT MOST 1048576: true; the input reads as it did. -/
def pagerAgainUptoRow : OpenClaim := { program := "ytdjcahhofonclaagreatdoor", sum := "69721b5b7444d70be4d63127be206741461d82b6abfe2f29121617a311cb9792", func := "terrier/terrierlaw07.PagerAgain", spec := "pagerAgain", inPlace := ["internal/bytealg.Compare", "sync/atomic.AddInt64", "slices.overlaps[int]"], unfollowed := true, recurses := true, named := ["terrier/sum.fours"], apart := false, laid := [("terrier/sum.fours", laid_terrier_sum_fours)], narrowed := true }
def PagerAgainUptoSaid : Prop := pagerAgainUptoRow.holds Tryz.pinned (OpenSpec.upto pagerAgainSpec)

end Rows
end Go.Proofs.YtdjcahhofonclaaGreatDoor
