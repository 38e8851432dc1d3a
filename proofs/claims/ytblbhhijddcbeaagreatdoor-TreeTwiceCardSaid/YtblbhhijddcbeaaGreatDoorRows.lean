/-
  NARROWER THAN 'FOR EVERY INPUT', by the rows' own cells (each row's printed sentence says how): TreeStays: laid · TreeOrders: laid · TreeApart: laid · TreeTwice: laid · TreeLimits: laid · TreeSpoilt: laid.
  DERIVED. THE GIVEN ROWS OF THIS SEAT. 6 by the template 'for every input the law returns true; each argument reads behind the call as it read before'; 0 by the template 'total and deterministic' (their statements: YtblbhhijddcbeaaGreatDoorTotals.lean).
  GIVEN WITH THE SEED: the statements are not yours to turn. If you find one false, say at which input.
  Laid BY PROGRAM, IN A SANDBOX (cutbox-rows.mjs): the forced cells as the released guide's own fill.sh prints them over the translation ad14a1692cb40076… (all of the seat's roots in one cut). By AI agents, Wed Nov 11 2026. No macro, syntax, notation, axiom, sorry.
-/
import Derived.Test.YtblbhhijddcbeaaGreatDoorChecked
import GoSem.Claim
import GoSem.ClaimJoined
import GoSem.ClaimMapViews
import Derived.JoinedTies
import Derived.KernelRfl
namespace Go.Proofs.YtblbhhijddcbeaaGreatDoor
/- THE CELL 'sum', in the pinned program and in every row, IS THE sha256 OF THE DUMP (.gsa) THAT YtblbhhijddcbeaaGreatDoorProg.lean LOADS. Nothing in Lean hashes anything: it is a label: what it is worth is what the hold of that sum in a sandbox is worth. -/
noncomputable def Tryz.pinned : Pinned := { name := "ytblbhhijddcbeaagreatdoor", sum := "ad14a1692cb400769faa38a24cd58a6c9a1832cba6483acf27bc08da32ed267a", checked := Tryz.checked }
namespace Rows
def none {H : Type} : Left H := { results := [], args := [] }

/- WHAT THE LISTED PACKAGE-LEVEL VARIABLES READ AS WHEN THE CALL BEGINS. Each datum BY PROGRAM (the guide's laid-datum.mjs) off the statement by which the dump's own 'gosem.cut.vars' lays the variable. In a bare row this is a premise. The card (YtblbhhijddcbeaaGreatDoorCards.lean) ties it to the program's text. -/
def laid_terrier_sum_fours {H : Type} : DataW H := .agg [.lit (.int .u32 0), .lit (.int .u32 274646895), .lit (.int .u32 549293790), .lit (.int .u32 820201905), .lit (.int .u32 1098587580), .lit (.int .u32 1361435347), .lit (.int .u32 1640403810), .lit (.int .u32 1905808397), .lit (.int .u32 2197175160), .lit (.int .u32 2460548119), .lit (.int .u32 2722870694), .lit (.int .u32 2987750089), .lit (.int .u32 3280807620), .lit (.int .u32 3553878443), .lit (.int .u32 3811616794), .lit (.int .u32 4084100981)]

/-- 'terrierlaw08.TreeStays': WHATEVER THE INPUT: true; the input reads as it did. -/
def treeStaysSpec : ChangeSpec := { name := "treeStays", fn := fun _ => fun
  | [d1, d2, d3] => { results := [.lit (.bool true)], args := [d1, d2, d3] }
  | _ => none }
def treeStaysRow : OpenClaim := { program := "ytblbhhijddcbeaagreatdoor", sum := "ad14a1692cb400769faa38a24cd58a6c9a1832cba6483acf27bc08da32ed267a", func := "terrier/terrierlaw08.TreeStays", spec := "treeStays", inPlace := ["internal/bytealg.Compare", "sync/atomic.AddInt64", "slices.overlaps[int]", "slices.overlaps[terrier/page.Item]", "slices.overlaps[terrier/page.Kid]", "maps.clone"], unfollowed := true, recurses := true, named := ["terrier/sum.fours"], apart := false, laid := [("terrier/sum.fours", laid_terrier_sum_fours)] }
def TreeStaysSaid : Prop := treeStaysRow.holds Tryz.pinned (OpenSpec.ofChange treeStaysSpec)

/-- ITS FALSE NEIGHBOUR: 'it returns false'. Refute it at one input. -/
def treeStaysWrong : ChangeSpec := { name := "treeStays", fn := fun _ => fun
  | [d1, d2, d3] => { results := [.lit (.bool false)], args := [d1, d2, d3] }
  | _ => none }
def TreeStaysWrongFalsely : Prop := treeStaysRow.holds Tryz.pinned (OpenSpec.ofChange treeStaysWrong)

/-- 'terrierlaw08.TreeOrders': WHATEVER THE INPUT: true; the input reads as it did. -/
def treeOrdersSpec : ChangeSpec := { name := "treeOrders", fn := fun _ => fun
  | [d1, d2, d3] => { results := [.lit (.bool true)], args := [d1, d2, d3] }
  | _ => none }
def treeOrdersRow : OpenClaim := { program := "ytblbhhijddcbeaagreatdoor", sum := "ad14a1692cb400769faa38a24cd58a6c9a1832cba6483acf27bc08da32ed267a", func := "terrier/terrierlaw08.TreeOrders", spec := "treeOrders", inPlace := ["internal/bytealg.Compare", "sync/atomic.AddInt64", "slices.overlaps[int]", "slices.overlaps[terrier/page.Item]", "slices.overlaps[terrier/page.Kid]"], unfollowed := true, recurses := true, named := ["terrier/sum.fours"], apart := false, laid := [("terrier/sum.fours", laid_terrier_sum_fours)] }
def TreeOrdersSaid : Prop := treeOrdersRow.holds Tryz.pinned (OpenSpec.ofChange treeOrdersSpec)

/-- ITS FALSE NEIGHBOUR: 'it returns false'. Refute it at one input. -/
def treeOrdersWrong : ChangeSpec := { name := "treeOrders", fn := fun _ => fun
  | [d1, d2, d3] => { results := [.lit (.bool false)], args := [d1, d2, d3] }
  | _ => none }
def TreeOrdersWrongFalsely : Prop := treeOrdersRow.holds Tryz.pinned (OpenSpec.ofChange treeOrdersWrong)

/-- 'terrierlaw08.TreeApart': WHATEVER THE INPUT: true; the input reads as it did. -/
def treeApartSpec : ChangeSpec := { name := "treeApart", fn := fun _ => fun
  | [d1, d2, d3, d4] => { results := [.lit (.bool true)], args := [d1, d2, d3, d4] }
  | _ => none }
def treeApartRow : OpenClaim := { program := "ytblbhhijddcbeaagreatdoor", sum := "ad14a1692cb400769faa38a24cd58a6c9a1832cba6483acf27bc08da32ed267a", func := "terrier/terrierlaw08.TreeApart", spec := "treeApart", inPlace := ["internal/bytealg.Compare", "sync/atomic.AddInt64", "slices.overlaps[int]", "slices.overlaps[terrier/page.Item]", "slices.overlaps[terrier/page.Kid]", "maps.clone"], unfollowed := true, recurses := true, named := ["terrier/sum.fours"], apart := false, laid := [("terrier/sum.fours", laid_terrier_sum_fours)] }
def TreeApartSaid : Prop := treeApartRow.holds Tryz.pinned (OpenSpec.ofChange treeApartSpec)

/-- ITS FALSE NEIGHBOUR: 'it returns false'. Refute it at one input. -/
def treeApartWrong : ChangeSpec := { name := "treeApart", fn := fun _ => fun
  | [d1, d2, d3, d4] => { results := [.lit (.bool false)], args := [d1, d2, d3, d4] }
  | _ => none }
def TreeApartWrongFalsely : Prop := treeApartRow.holds Tryz.pinned (OpenSpec.ofChange treeApartWrong)

/-- 'terrierlaw08.TreeTwice': WHATEVER THE INPUT: true; the input reads as it did. -/
def treeTwiceSpec : ChangeSpec := { name := "treeTwice", fn := fun _ => fun
  | [d1, d2, d3, d4] => { results := [.lit (.bool true)], args := [d1, d2, d3, d4] }
  | _ => none }
def treeTwiceRow : OpenClaim := { program := "ytblbhhijddcbeaagreatdoor", sum := "ad14a1692cb400769faa38a24cd58a6c9a1832cba6483acf27bc08da32ed267a", func := "terrier/terrierlaw08.TreeTwice", spec := "treeTwice", inPlace := ["internal/bytealg.Compare", "sync/atomic.AddInt64", "slices.overlaps[int]", "slices.overlaps[terrier/page.Item]", "slices.overlaps[terrier/page.Kid]"], unfollowed := true, recurses := true, named := ["terrier/sum.fours"], apart := false, laid := [("terrier/sum.fours", laid_terrier_sum_fours)] }
def TreeTwiceSaid : Prop := treeTwiceRow.holds Tryz.pinned (OpenSpec.ofChange treeTwiceSpec)

/-- ITS FALSE NEIGHBOUR: 'it returns false'. Refute it at one input. -/
def treeTwiceWrong : ChangeSpec := { name := "treeTwice", fn := fun _ => fun
  | [d1, d2, d3, d4] => { results := [.lit (.bool false)], args := [d1, d2, d3, d4] }
  | _ => none }
def TreeTwiceWrongFalsely : Prop := treeTwiceRow.holds Tryz.pinned (OpenSpec.ofChange treeTwiceWrong)

/-- 'terrierlaw08.TreeLimits': WHATEVER THE INPUT: true; the input reads as it did. -/
def treeLimitsSpec : ChangeSpec := { name := "treeLimits", fn := fun _ => fun
  | [d1, d2, d3, d4, d5] => { results := [.lit (.bool true)], args := [d1, d2, d3, d4, d5] }
  | _ => none }
def treeLimitsRow : OpenClaim := { program := "ytblbhhijddcbeaagreatdoor", sum := "ad14a1692cb400769faa38a24cd58a6c9a1832cba6483acf27bc08da32ed267a", func := "terrier/terrierlaw08.TreeLimits", spec := "treeLimits", inPlace := ["internal/bytealg.Compare", "sync/atomic.AddInt64", "slices.overlaps[int]", "slices.overlaps[terrier/page.Item]", "slices.overlaps[terrier/page.Kid]", "maps.clone"], unfollowed := true, recurses := true, named := ["terrier/sum.fours"], apart := false, laid := [("terrier/sum.fours", laid_terrier_sum_fours)] }
def TreeLimitsSaid : Prop := treeLimitsRow.holds Tryz.pinned (OpenSpec.ofChange treeLimitsSpec)

/-- ITS FALSE NEIGHBOUR: 'it returns false'. Refute it at one input. -/
def treeLimitsWrong : ChangeSpec := { name := "treeLimits", fn := fun _ => fun
  | [d1, d2, d3, d4, d5] => { results := [.lit (.bool false)], args := [d1, d2, d3, d4, d5] }
  | _ => none }
def TreeLimitsWrongFalsely : Prop := treeLimitsRow.holds Tryz.pinned (OpenSpec.ofChange treeLimitsWrong)

/-- 'terrierlaw08.TreeSpoilt': WHATEVER THE INPUT: true; the input reads as it did. -/
def treeSpoiltSpec : ChangeSpec := { name := "treeSpoilt", fn := fun _ => fun
  | [d1, d2, d3, d4] => { results := [.lit (.bool true)], args := [d1, d2, d3, d4] }
  | _ => none }
def treeSpoiltRow : OpenClaim := { program := "ytblbhhijddcbeaagreatdoor", sum := "ad14a1692cb400769faa38a24cd58a6c9a1832cba6483acf27bc08da32ed267a", func := "terrier/terrierlaw08.TreeSpoilt", spec := "treeSpoilt", inPlace := ["internal/bytealg.Compare", "sync/atomic.AddInt64", "slices.overlaps[int]", "slices.overlaps[terrier/page.Item]", "slices.overlaps[terrier/page.Kid]", "maps.clone"], unfollowed := true, recurses := true, named := ["terrier/sum.fours"], apart := false, laid := [("terrier/sum.fours", laid_terrier_sum_fours)] }
def TreeSpoiltSaid : Prop := treeSpoiltRow.holds Tryz.pinned (OpenSpec.ofChange treeSpoiltSpec)

/-- ITS FALSE NEIGHBOUR: 'it returns false'. Refute it at one input. -/
def treeSpoiltWrong : ChangeSpec := { name := "treeSpoilt", fn := fun _ => fun
  | [d1, d2, d3, d4] => { results := [.lit (.bool false)], args := [d1, d2, d3, d4] }
  | _ => none }
def TreeSpoiltWrongFalsely : Prop := treeSpoiltRow.holds Tryz.pinned (OpenSpec.ofChange treeSpoiltWrong)

/- THE SECOND FORM. 'bulk': how many values and letters a reading holds, each counted each time it is reached (what is shared counts as often as it is met; a slice's spare places count too). A statement '..UptoSaid' is the law's where the arguments, and the package variables that the reading takes, are together of bulk at most 1048576: NARROWER than '..Said'. Prove '..Said' where nothing that the law and all that it calls make is longer than what came in: it says more and counts as full. Else prove '..UptoSaid'. A law counts once. -/
mutual
def uptoBulk {H : Type} : DataW H → Nat
  | .lit (.string bytes) => bytes.length + 1
  | .lit _ => 1
  | .nil => 1
  | .ptr d => uptoBulk d + 1
  | .slice elems spare => uptoBulkAll elems + uptoBulkAll spare + 1
  | .agg parts => uptoBulkAll parts + 1
  | .iface _ d => uptoBulk d + 1
  | .map entries => uptoBulkEntries entries + 1
  | .held _ => 1
def uptoBulkAll {H : Type} : List (DataW H) → Nat
  | [] => 0
  | d :: r => uptoBulk d + uptoBulkAll r
def uptoBulkEntries {H : Type} : List (Lit × DataW H) → Nat
  | [] => 0
  | x :: r => uptoBulkEntry x + uptoBulkEntries r
def uptoBulkEntry {H : Type} : Lit × DataW H → Nat
  | (.string bytes, d) => bytes.length + uptoBulk d + 1
  | (_, d) => uptoBulk d + 1
 end
def uptoSmall : (H : Type) → List (DataW H) → Bool := fun _ ds => decide (uptoBulkAll ds ≤ 1048576)
def OpenSpec.upto (s : _root_.Go.ChangeSpec) : _root_.Go.OpenSpec := { _root_.Go.OpenSpec.ofChange s with cond := some uptoSmall }

/-- 'terrierlaw08.TreeStays', WHERE WHAT IT READS IS OF BULK AT MOST 1048576: true; the input reads as it did. -/
def treeStaysUptoRow : OpenClaim := { program := "ytblbhhijddcbeaagreatdoor", sum := "ad14a1692cb400769faa38a24cd58a6c9a1832cba6483acf27bc08da32ed267a", func := "terrier/terrierlaw08.TreeStays", spec := "treeStays", inPlace := ["internal/bytealg.Compare", "sync/atomic.AddInt64", "slices.overlaps[int]", "slices.overlaps[terrier/page.Item]", "slices.overlaps[terrier/page.Kid]", "maps.clone"], unfollowed := true, recurses := true, named := ["terrier/sum.fours"], apart := false, laid := [("terrier/sum.fours", laid_terrier_sum_fours)], narrowed := true }
def TreeStaysUptoSaid : Prop := treeStaysUptoRow.holds Tryz.pinned (OpenSpec.upto treeStaysSpec)

/-- 'terrierlaw08.TreeOrders', WHERE WHAT IT READS IS OF BULK AT MOST 1048576: true; the input reads as it did. -/
def treeOrdersUptoRow : OpenClaim := { program := "ytblbhhijddcbeaagreatdoor", sum := "ad14a1692cb400769faa38a24cd58a6c9a1832cba6483acf27bc08da32ed267a", func := "terrier/terrierlaw08.TreeOrders", spec := "treeOrders", inPlace := ["internal/bytealg.Compare", "sync/atomic.AddInt64", "slices.overlaps[int]", "slices.overlaps[terrier/page.Item]", "slices.overlaps[terrier/page.Kid]"], unfollowed := true, recurses := true, named := ["terrier/sum.fours"], apart := false, laid := [("terrier/sum.fours", laid_terrier_sum_fours)], narrowed := true }
def TreeOrdersUptoSaid : Prop := treeOrdersUptoRow.holds Tryz.pinned (OpenSpec.upto treeOrdersSpec)

/-- 'terrierlaw08.TreeApart', WHERE WHAT IT READS IS OF BULK AT MOST 1048576: true; the input reads as it did. -/
def treeApartUptoRow : OpenClaim := { program := "ytblbhhijddcbeaagreatdoor", sum := "ad14a1692cb400769faa38a24cd58a6c9a1832cba6483acf27bc08da32ed267a", func := "terrier/terrierlaw08.TreeApart", spec := "treeApart", inPlace := ["internal/bytealg.Compare", "sync/atomic.AddInt64", "slices.overlaps[int]", "slices.overlaps[terrier/page.Item]", "slices.overlaps[terrier/page.Kid]", "maps.clone"], unfollowed := true, recurses := true, named := ["terrier/sum.fours"], apart := false, laid := [("terrier/sum.fours", laid_terrier_sum_fours)], narrowed := true }
def TreeApartUptoSaid : Prop := treeApartUptoRow.holds Tryz.pinned (OpenSpec.upto treeApartSpec)

/-- 'terrierlaw08.TreeTwice', WHERE WHAT IT READS IS OF BULK AT MOST 1048576: true; the input reads as it did. -/
def treeTwiceUptoRow : OpenClaim := { program := "ytblbhhijddcbeaagreatdoor", sum := "ad14a1692cb400769faa38a24cd58a6c9a1832cba6483acf27bc08da32ed267a", func := "terrier/terrierlaw08.TreeTwice", spec := "treeTwice", inPlace := ["internal/bytealg.Compare", "sync/atomic.AddInt64", "slices.overlaps[int]", "slices.overlaps[terrier/page.Item]", "slices.overlaps[terrier/page.Kid]"], unfollowed := true, recurses := true, named := ["terrier/sum.fours"], apart := false, laid := [("terrier/sum.fours", laid_terrier_sum_fours)], narrowed := true }
def TreeTwiceUptoSaid : Prop := treeTwiceUptoRow.holds Tryz.pinned (OpenSpec.upto treeTwiceSpec)

/-- 'terrierlaw08.TreeLimits', WHERE WHAT IT READS IS OF BULK AT MOST 1048576: true; the input reads as it did. -/
def treeLimitsUptoRow : OpenClaim := { program := "ytblbhhijddcbeaagreatdoor", sum := "ad14a1692cb400769faa38a24cd58a6c9a1832cba6483acf27bc08da32ed267a", func := "terrier/terrierlaw08.TreeLimits", spec := "treeLimits", inPlace := ["internal/bytealg.Compare", "sync/atomic.AddInt64", "slices.overlaps[int]", "slices.overlaps[terrier/page.Item]", "slices.overlaps[terrier/page.Kid]", "maps.clone"], unfollowed := true, recurses := true, named := ["terrier/sum.fours"], apart := false, laid := [("terrier/sum.fours", laid_terrier_sum_fours)], narrowed := true }
def TreeLimitsUptoSaid : Prop := treeLimitsUptoRow.holds Tryz.pinned (OpenSpec.upto treeLimitsSpec)

/-- 'terrierlaw08.TreeSpoilt', WHERE WHAT IT READS IS OF BULK AT MOST 1048576: true; the input reads as it did. -/
def treeSpoiltUptoRow : OpenClaim := { program := "ytblbhhijddcbeaagreatdoor", sum := "ad14a1692cb400769faa38a24cd58a6c9a1832cba6483acf27bc08da32ed267a", func := "terrier/terrierlaw08.TreeSpoilt", spec := "treeSpoilt", inPlace := ["internal/bytealg.Compare", "sync/atomic.AddInt64", "slices.overlaps[int]", "slices.overlaps[terrier/page.Item]", "slices.overlaps[terrier/page.Kid]", "maps.clone"], unfollowed := true, recurses := true, named := ["terrier/sum.fours"], apart := false, laid := [("terrier/sum.fours", laid_terrier_sum_fours)], narrowed := true }
def TreeSpoiltUptoSaid : Prop := treeSpoiltUptoRow.holds Tryz.pinned (OpenSpec.upto treeSpoiltSpec)

end Rows
end Go.Proofs.YtblbhhijddcbeaaGreatDoor
