/-
  No cell of these rows narrows 'for every input' (looked for: loops, veiled, ifaces, maps, wideKeys, modest, calm, conditions, laid).
  DERIVED. THE GIVEN ROWS OF THIS SEAT. 5 by the template 'for every input the law returns true; each argument reads behind the call as it read before'; 0 by the template 'total and deterministic' (their statements: YtlckeebbjnhejaaGreatTotals.lean).
  GIVEN WITH THE SEED: the statements are not yours to turn. If you find one false, say at which input.
  Laid BY PROGRAM, IN A SANDBOX (cutbox-rows.mjs): the forced cells as the released guide's own fill.sh prints them over the translation 7b11dd7af1c16fd1… (all of the seat's roots in one cut). By AI agents, Wed Nov 11 2026. No macro, syntax, notation, axiom, sorry.
-/
import Derived.Test.YtlckeebbjnhejaaGreatChecked
import GoSem.Claim
import GoSem.ClaimJoined
import GoSem.ClaimMapViews
import Derived.JoinedTies
import Derived.KernelRfl
namespace Go.Proofs.YtlckeebbjnhejaaGreat
/- THE CELL 'sum', in the pinned program and in every row, IS THE sha256 OF THE DUMP (.gsa) THAT YtlckeebbjnhejaaGreatProg.lean LOADS. Nothing in Lean hashes anything: it is a label: what it is worth is what the hold of that sum in a sandbox is worth. -/
noncomputable def Tryz.pinned : Pinned := { name := "ytlckeebbjnhejaagreat", sum := "7b11dd7af1c16fd1fe58c9de58dbfd18409bee0c11b6a63aaf09c62b820815e6", checked := Tryz.checked }
namespace Rows
def none {H : Type} : Left H := { results := [], args := [] }

/-- 'terrierlaw12.IndexGets': WHATEVER THE INPUT: true; the input reads as it did. -/
def indexGetsSpec : ChangeSpec := { name := "indexGets", fn := fun _ => fun
  | [d1, d2, d3] => { results := [.lit (.bool true)], args := [d1, d2, d3] }
  | _ => none }
def indexGetsRow : OpenClaim := { program := "ytlckeebbjnhejaagreat", sum := "7b11dd7af1c16fd1fe58c9de58dbfd18409bee0c11b6a63aaf09c62b820815e6", func := "terrier/terrierlaw12.IndexGets", spec := "indexGets", inPlace := ["internal/bytealg.Compare", "slices.overlaps[terrier/index.entry]"], unfollowed := true, recurses := true, apart := false }
def IndexGetsSaid : Prop := indexGetsRow.holds Tryz.pinned (OpenSpec.ofChange indexGetsSpec)

/-- ITS FALSE NEIGHBOUR: 'it returns false'. Refute it at one input. -/
def indexGetsWrong : ChangeSpec := { name := "indexGets", fn := fun _ => fun
  | [d1, d2, d3] => { results := [.lit (.bool false)], args := [d1, d2, d3] }
  | _ => none }
def IndexGetsWrongFalsely : Prop := indexGetsRow.holds Tryz.pinned (OpenSpec.ofChange indexGetsWrong)

/-- 'terrierlaw12.IndexCompacts': WHATEVER THE INPUT: true; the input reads as it did. -/
def indexCompactsSpec : ChangeSpec := { name := "indexCompacts", fn := fun _ => fun
  | [d1, d2, d3, d4, d5] => { results := [.lit (.bool true)], args := [d1, d2, d3, d4, d5] }
  | _ => none }
def indexCompactsRow : OpenClaim := { program := "ytlckeebbjnhejaagreat", sum := "7b11dd7af1c16fd1fe58c9de58dbfd18409bee0c11b6a63aaf09c62b820815e6", func := "terrier/terrierlaw12.IndexCompacts", spec := "indexCompacts", inPlace := ["internal/bytealg.Compare", "slices.overlaps[terrier/index.entry]"], unfollowed := true, recurses := true, apart := false }
def IndexCompactsSaid : Prop := indexCompactsRow.holds Tryz.pinned (OpenSpec.ofChange indexCompactsSpec)

/-- ITS FALSE NEIGHBOUR: 'it returns false'. Refute it at one input. -/
def indexCompactsWrong : ChangeSpec := { name := "indexCompacts", fn := fun _ => fun
  | [d1, d2, d3, d4, d5] => { results := [.lit (.bool false)], args := [d1, d2, d3, d4, d5] }
  | _ => none }
def IndexCompactsWrongFalsely : Prop := indexCompactsRow.holds Tryz.pinned (OpenSpec.ofChange indexCompactsWrong)

/-- 'terrierlaw12.IndexParts': WHATEVER THE INPUT: true; the input reads as it did. -/
def indexPartsSpec : ChangeSpec := { name := "indexParts", fn := fun _ => fun
  | [d1, d2, d3, d4, d5] => { results := [.lit (.bool true)], args := [d1, d2, d3, d4, d5] }
  | _ => none }
def indexPartsRow : OpenClaim := { program := "ytlckeebbjnhejaagreat", sum := "7b11dd7af1c16fd1fe58c9de58dbfd18409bee0c11b6a63aaf09c62b820815e6", func := "terrier/terrierlaw12.IndexParts", spec := "indexParts", inPlace := ["internal/bytealg.Compare", "slices.overlaps[terrier/index.entry]"], unfollowed := true, recurses := true, apart := false }
def IndexPartsSaid : Prop := indexPartsRow.holds Tryz.pinned (OpenSpec.ofChange indexPartsSpec)

/-- ITS FALSE NEIGHBOUR: 'it returns false'. Refute it at one input. -/
def indexPartsWrong : ChangeSpec := { name := "indexParts", fn := fun _ => fun
  | [d1, d2, d3, d4, d5] => { results := [.lit (.bool false)], args := [d1, d2, d3, d4, d5] }
  | _ => none }
def IndexPartsWrongFalsely : Prop := indexPartsRow.holds Tryz.pinned (OpenSpec.ofChange indexPartsWrong)

/-- 'terrierlaw12.IndexCopies': WHATEVER THE INPUT: true; the input reads as it did. -/
def indexCopiesSpec : ChangeSpec := { name := "indexCopies", fn := fun _ => fun
  | [d1, d2, d3] => { results := [.lit (.bool true)], args := [d1, d2, d3] }
  | _ => none }
def indexCopiesRow : OpenClaim := { program := "ytlckeebbjnhejaagreat", sum := "7b11dd7af1c16fd1fe58c9de58dbfd18409bee0c11b6a63aaf09c62b820815e6", func := "terrier/terrierlaw12.IndexCopies", spec := "indexCopies", inPlace := ["internal/bytealg.Compare", "slices.overlaps[terrier/index.entry]"], unfollowed := true, recurses := true, apart := false }
def IndexCopiesSaid : Prop := indexCopiesRow.holds Tryz.pinned (OpenSpec.ofChange indexCopiesSpec)

/-- ITS FALSE NEIGHBOUR: 'it returns false'. Refute it at one input. -/
def indexCopiesWrong : ChangeSpec := { name := "indexCopies", fn := fun _ => fun
  | [d1, d2, d3] => { results := [.lit (.bool false)], args := [d1, d2, d3] }
  | _ => none }
def IndexCopiesWrongFalsely : Prop := indexCopiesRow.holds Tryz.pinned (OpenSpec.ofChange indexCopiesWrong)

/-- 'terrierlaw12.IndexSplits': WHATEVER THE INPUT: true; the input reads as it did. -/
def indexSplitsSpec : ChangeSpec := { name := "indexSplits", fn := fun _ => fun
  | [d1, d2] => { results := [.lit (.bool true)], args := [d1, d2] }
  | _ => none }
def indexSplitsRow : OpenClaim := { program := "ytlckeebbjnhejaagreat", sum := "7b11dd7af1c16fd1fe58c9de58dbfd18409bee0c11b6a63aaf09c62b820815e6", func := "terrier/terrierlaw12.IndexSplits", spec := "indexSplits", inPlace := ["internal/bytealg.Compare", "slices.overlaps[terrier/index.entry]"], unfollowed := true, recurses := true, apart := false }
def IndexSplitsSaid : Prop := indexSplitsRow.holds Tryz.pinned (OpenSpec.ofChange indexSplitsSpec)

/-- ITS FALSE NEIGHBOUR: 'it returns false'. Refute it at one input. -/
def indexSplitsWrong : ChangeSpec := { name := "indexSplits", fn := fun _ => fun
  | [d1, d2] => { results := [.lit (.bool false)], args := [d1, d2] }
  | _ => none }
def IndexSplitsWrongFalsely : Prop := indexSplitsRow.holds Tryz.pinned (OpenSpec.ofChange indexSplitsWrong)

/- THE SECOND FORM. 'bulk': how many values and letters a reading holds, each counted each time it is reached (what is shared counts as often as it is met; a slice's spare places count too). A statement '..UptoSaid' is the law's where the arguments, and the package variables that the reading takes, are together of bulk at most 1048576: NARROWER than '..Said'. Prove '..Said' where nothing that the law and all that it calls make is longer than what came in: it says more and counts as full. Else prove '..UptoSaid'. A law counts once. -/
mutual
def uptoBulk {H : Type} : DataW H → Nat
  | .lit (.string bytes) => bytes.length + 1
  | .lit _ => 1
  | .nil => 1
  | .ptr d => uptoBulk d + 1
  | .slice elems spare => uptoBulkAll elems + uptoBulkAll spare + 1
  | .agg parts => uptoBulkAll parts + 1
  | .iface _ d => uptoBulk d + 1
  | .map entries => uptoBulkEntries entries + 1
  | .held _ => 1
def uptoBulkAll {H : Type} : List (DataW H) → Nat
  | [] => 0
  | d :: r => uptoBulk d + uptoBulkAll r
def uptoBulkEntries {H : Type} : List (Lit × DataW H) → Nat
  | [] => 0
  | x :: r => uptoBulkEntry x + uptoBulkEntries r
def uptoBulkEntry {H : Type} : Lit × DataW H → Nat
  | (.string bytes, d) => bytes.length + uptoBulk d + 1
  | (_, d) => uptoBulk d + 1
 end
def uptoSmall : (H : Type) → List (DataW H) → Bool := fun _ ds => decide (uptoBulkAll ds ≤ 1048576)
def OpenSpec.upto (s : _root_.Go.ChangeSpec) : _root_.Go.OpenSpec := { _root_.Go.OpenSpec.ofChange s with cond := some uptoSmall }

/-- 'terrierlaw12.IndexGets', WHERE WHAT IT READS IS OF BULK AT MOST 1048576: true; the input reads as it did. -/
def indexGetsUptoRow : OpenClaim := { program := "ytlckeebbjnhejaagreat", sum := "7b11dd7af1c16fd1fe58c9de58dbfd18409bee0c11b6a63aaf09c62b820815e6", func := "terrier/terrierlaw12.IndexGets", spec := "indexGets", inPlace := ["internal/bytealg.Compare", "slices.overlaps[terrier/index.entry]"], unfollowed := true, recurses := true, apart := false, narrowed := true }
def IndexGetsUptoSaid : Prop := indexGetsUptoRow.holds Tryz.pinned (OpenSpec.upto indexGetsSpec)

/-- 'terrierlaw12.IndexCompacts', WHERE WHAT IT READS IS OF BULK AT MOST 1048576: true; the input reads as it did. -/
def indexCompactsUptoRow : OpenClaim := { program := "ytlckeebbjnhejaagreat", sum := "7b11dd7af1c16fd1fe58c9de58dbfd18409bee0c11b6a63aaf09c62b820815e6", func := "terrier/terrierlaw12.IndexCompacts", spec := "indexCompacts", inPlace := ["internal/bytealg.Compare", "slices.overlaps[terrier/index.entry]"], unfollowed := true, recurses := true, apart := false, narrowed := true }
def IndexCompactsUptoSaid : Prop := indexCompactsUptoRow.holds Tryz.pinned (OpenSpec.upto indexCompactsSpec)

/-- 'terrierlaw12.IndexParts', WHERE WHAT IT READS IS OF BULK AT MOST 1048576: true; the input reads as it did. -/
def indexPartsUptoRow : OpenClaim := { program := "ytlckeebbjnhejaagreat", sum := "7b11dd7af1c16fd1fe58c9de58dbfd18409bee0c11b6a63aaf09c62b820815e6", func := "terrier/terrierlaw12.IndexParts", spec := "indexParts", inPlace := ["internal/bytealg.Compare", "slices.overlaps[terrier/index.entry]"], unfollowed := true, recurses := true, apart := false, narrowed := true }
def IndexPartsUptoSaid : Prop := indexPartsUptoRow.holds Tryz.pinned (OpenSpec.upto indexPartsSpec)

/-- 'terrierlaw12.IndexCopies', WHERE WHAT IT READS IS OF BULK AT MOST 1048576: true; the input reads as it did. -/
def indexCopiesUptoRow : OpenClaim := { program := "ytlckeebbjnhejaagreat", sum := "7b11dd7af1c16fd1fe58c9de58dbfd18409bee0c11b6a63aaf09c62b820815e6", func := "terrier/terrierlaw12.IndexCopies", spec := "indexCopies", inPlace := ["internal/bytealg.Compare", "slices.overlaps[terrier/index.entry]"], unfollowed := true, recurses := true, apart := false, narrowed := true }
def IndexCopiesUptoSaid : Prop := indexCopiesUptoRow.holds Tryz.pinned (OpenSpec.upto indexCopiesSpec)

/-- 'terrierlaw12.IndexSplits', WHERE WHAT IT READS IS OF BULK AT MOST 1048576: true; the input reads as it did. -/
def indexSplitsUptoRow : OpenClaim := { program := "ytlckeebbjnhejaagreat", sum := "7b11dd7af1c16fd1fe58c9de58dbfd18409bee0c11b6a63aaf09c62b820815e6", func := "terrier/terrierlaw12.IndexSplits", spec := "indexSplits", inPlace := ["internal/bytealg.Compare", "slices.overlaps[terrier/index.entry]"], unfollowed := true, recurses := true, apart := false, narrowed := true }
def IndexSplitsUptoSaid : Prop := indexSplitsUptoRow.holds Tryz.pinned (OpenSpec.upto indexSplitsSpec)

end Rows
end Go.Proofs.YtlckeebbjnhejaaGreat
