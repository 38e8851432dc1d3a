/-
  No cell of these rows narrows 'for every input' (looked for: loops, veiled, ifaces, maps, wideKeys, modest, calm, conditions, laid).
  DERIVED. THE GIVEN ROWS OF THIS SEAT. 4 by the template 'for every input the law returns true; each argument reads behind the call as it read before'; 0 by the template 'total and deterministic' (their statements: YthpaliagmnclfaaTotals.lean).
  GIVEN WITH THE SEED: the statements are not yours to turn. If you find one false, say at which input.
  Laid BY PROGRAM, IN A SANDBOX (cutbox-rows.mjs): the forced cells as the released guide's own fill.sh prints them over the translation 39493244cf2a69eb… (all of the seat's roots in one cut). By AI agents, Wed Nov 11 2026. No macro, syntax, notation, axiom, sorry.
-/
import Derived.Test.YthpaliagmnclfaaChecked
import GoSem.Claim
import GoSem.ClaimJoined
import GoSem.ClaimMapViews
import Derived.JoinedTies
import Derived.KernelRfl
namespace Go.Proofs.Ythpaliagmnclfaa
/- THE CELL 'sum', in the pinned program and in every row, IS THE sha256 OF THE DUMP (.gsa) THAT YthpaliagmnclfaaProg.lean LOADS. Nothing in Lean hashes anything: it is a label: what it is worth is what the hold of that sum in a sandbox is worth. -/
noncomputable def Try.pinned : Pinned := { name := "ythpaliagmnclfaa", sum := "39493244cf2a69ebe3b32afd3d7cf1eba03a7257c77daa6077f3a5503810bd7a", checked := Try.checked }
namespace Rows
def none {H : Type} : Left H := { results := [], args := [] }

/-- 'terrierlaw11.GensCompacts': WHATEVER THE INPUT: true; the input reads as it did. -/
def gensCompactsSpec : ChangeSpec := { name := "gensCompacts", fn := fun _ => fun
  | [d1, d2, d3] => { results := [.lit (.bool true)], args := [d1, d2, d3] }
  | _ => none }
def gensCompactsRow : OpenClaim := { program := "ythpaliagmnclfaa", sum := "39493244cf2a69ebe3b32afd3d7cf1eba03a7257c77daa6077f3a5503810bd7a", func := "terrier/terrierlaw11.GensCompacts", spec := "gensCompacts", unfollowed := true, recurses := true, apart := false }
def GensCompactsSaid : Prop := gensCompactsRow.holds Try.pinned (OpenSpec.ofChange gensCompactsSpec)

/-- ITS FALSE NEIGHBOUR: 'it returns false'. Refute it at one input. -/
def gensCompactsWrong : ChangeSpec := { name := "gensCompacts", fn := fun _ => fun
  | [d1, d2, d3] => { results := [.lit (.bool false)], args := [d1, d2, d3] }
  | _ => none }
def GensCompactsWrongFalsely : Prop := gensCompactsRow.holds Try.pinned (OpenSpec.ofChange gensCompactsWrong)

/-- 'terrierlaw11.GensVersions': WHATEVER THE INPUT: true; the input reads as it did. -/
def gensVersionsSpec : ChangeSpec := { name := "gensVersions", fn := fun _ => fun
  | [d1, d2] => { results := [.lit (.bool true)], args := [d1, d2] }
  | _ => none }
def gensVersionsRow : OpenClaim := { program := "ythpaliagmnclfaa", sum := "39493244cf2a69ebe3b32afd3d7cf1eba03a7257c77daa6077f3a5503810bd7a", func := "terrier/terrierlaw11.GensVersions", spec := "gensVersions", unfollowed := true, recurses := true, apart := false }
def GensVersionsSaid : Prop := gensVersionsRow.holds Try.pinned (OpenSpec.ofChange gensVersionsSpec)

/-- ITS FALSE NEIGHBOUR: 'it returns false'. Refute it at one input. -/
def gensVersionsWrong : ChangeSpec := { name := "gensVersions", fn := fun _ => fun
  | [d1, d2] => { results := [.lit (.bool false)], args := [d1, d2] }
  | _ => none }
def GensVersionsWrongFalsely : Prop := gensVersionsRow.holds Try.pinned (OpenSpec.ofChange gensVersionsWrong)

/-- 'terrierlaw11.GensCopies': WHATEVER THE INPUT: true; the input reads as it did. -/
def gensCopiesSpec : ChangeSpec := { name := "gensCopies", fn := fun _ => fun
  | [d1, d2, d3] => { results := [.lit (.bool true)], args := [d1, d2, d3] }
  | _ => none }
def gensCopiesRow : OpenClaim := { program := "ythpaliagmnclfaa", sum := "39493244cf2a69ebe3b32afd3d7cf1eba03a7257c77daa6077f3a5503810bd7a", func := "terrier/terrierlaw11.GensCopies", spec := "gensCopies", unfollowed := true, recurses := true, apart := false }
def GensCopiesSaid : Prop := gensCopiesRow.holds Try.pinned (OpenSpec.ofChange gensCopiesSpec)

/-- ITS FALSE NEIGHBOUR: 'it returns false'. Refute it at one input. -/
def gensCopiesWrong : ChangeSpec := { name := "gensCopies", fn := fun _ => fun
  | [d1, d2, d3] => { results := [.lit (.bool false)], args := [d1, d2, d3] }
  | _ => none }
def GensCopiesWrongFalsely : Prop := gensCopiesRow.holds Try.pinned (OpenSpec.ofChange gensCopiesWrong)

/-- 'terrierlaw11.GensSuffix': WHATEVER THE INPUT: true; the input reads as it did. -/
def gensSuffixSpec : ChangeSpec := { name := "gensSuffix", fn := fun _ => fun
  | [d1, d2] => { results := [.lit (.bool true)], args := [d1, d2] }
  | _ => none }
def gensSuffixRow : OpenClaim := { program := "ythpaliagmnclfaa", sum := "39493244cf2a69ebe3b32afd3d7cf1eba03a7257c77daa6077f3a5503810bd7a", func := "terrier/terrierlaw11.GensSuffix", spec := "gensSuffix", unfollowed := true, recurses := true, apart := false }
def GensSuffixSaid : Prop := gensSuffixRow.holds Try.pinned (OpenSpec.ofChange gensSuffixSpec)

/-- ITS FALSE NEIGHBOUR: 'it returns false'. Refute it at one input. -/
def gensSuffixWrong : ChangeSpec := { name := "gensSuffix", fn := fun _ => fun
  | [d1, d2] => { results := [.lit (.bool false)], args := [d1, d2] }
  | _ => none }
def GensSuffixWrongFalsely : Prop := gensSuffixRow.holds Try.pinned (OpenSpec.ofChange gensSuffixWrong)

/- THE SECOND FORM. 'bulk': how many values and letters a reading holds, each counted each time it is reached (what is shared counts as often as it is met; a slice's spare places count too). A statement '..UptoSaid' is the law's where the arguments, and the package variables that the reading takes, are together of bulk at most 1048576: NARROWER than '..Said'. Prove '..Said' where nothing that the law and all that it calls make is longer than what came in: it says more and counts as full. Else prove '..UptoSaid'. A law counts once. -/
mutual
def uptoBulk {H : Type} : DataW H → Nat
  | .lit (.string bytes) => bytes.length + 1
  | .lit _ => 1
  | .nil => 1
  | .ptr d => uptoBulk d + 1
  | .slice elems spare => uptoBulkAll elems + uptoBulkAll spare + 1
  | .agg parts => uptoBulkAll parts + 1
  | .iface _ d => uptoBulk d + 1
  | .map entries => uptoBulkEntries entries + 1
  | .held _ => 1
def uptoBulkAll {H : Type} : List (DataW H) → Nat
  | [] => 0
  | d :: r => uptoBulk d + uptoBulkAll r
def uptoBulkEntries {H : Type} : List (Lit × DataW H) → Nat
  | [] => 0
  | x :: r => uptoBulkEntry x + uptoBulkEntries r
def uptoBulkEntry {H : Type} : Lit × DataW H → Nat
  | (.string bytes, d) => bytes.length + uptoBulk d + 1
  | (_, d) => uptoBulk d + 1
 end
def uptoSmall : (H : Type) → List (DataW H) → Bool := fun _ ds => decide (uptoBulkAll ds ≤ 1048576)
def OpenSpec.upto (s : _root_.Go.ChangeSpec) : _root_.Go.OpenSpec := { _root_.Go.OpenSpec.ofChange s with cond := some uptoSmall }

/-- 'terrierlaw11.GensCompacts', WHERE WHAT IT READS IS OF BULK AT MOST 1048576: true; the input reads as it did. -/
def gensCompactsUptoRow : OpenClaim := { program := "ythpaliagmnclfaa", sum := "39493244cf2a69ebe3b32afd3d7cf1eba03a7257c77daa6077f3a5503810bd7a", func := "terrier/terrierlaw11.GensCompacts", spec := "gensCompacts", unfollowed := true, recurses := true, apart := false, narrowed := true }
def GensCompactsUptoSaid : Prop := gensCompactsUptoRow.holds Try.pinned (OpenSpec.upto gensCompactsSpec)

/-- 'terrierlaw11.GensVersions', WHERE WHAT IT READS IS OF BULK AT MOST 1048576: true; the input reads as it did. -/
def gensVersionsUptoRow : OpenClaim := { program := "ythpaliagmnclfaa", sum := "39493244cf2a69ebe3b32afd3d7cf1eba03a7257c77daa6077f3a5503810bd7a", func := "terrier/terrierlaw11.GensVersions", spec := "gensVersions", unfollowed := true, recurses := true, apart := false, narrowed := true }
def GensVersionsUptoSaid : Prop := gensVersionsUptoRow.holds Try.pinned (OpenSpec.upto gensVersionsSpec)

/-- 'terrierlaw11.GensCopies', WHERE WHAT IT READS IS OF BULK AT MOST 1048576: true; the input reads as it did. -/
def gensCopiesUptoRow : OpenClaim := { program := "ythpaliagmnclfaa", sum := "39493244cf2a69ebe3b32afd3d7cf1eba03a7257c77daa6077f3a5503810bd7a", func := "terrier/terrierlaw11.GensCopies", spec := "gensCopies", unfollowed := true, recurses := true, apart := false, narrowed := true }
def GensCopiesUptoSaid : Prop := gensCopiesUptoRow.holds Try.pinned (OpenSpec.upto gensCopiesSpec)

/-- 'terrierlaw11.GensSuffix', WHERE WHAT IT READS IS OF BULK AT MOST 1048576: true; the input reads as it did. -/
def gensSuffixUptoRow : OpenClaim := { program := "ythpaliagmnclfaa", sum := "39493244cf2a69ebe3b32afd3d7cf1eba03a7257c77daa6077f3a5503810bd7a", func := "terrier/terrierlaw11.GensSuffix", spec := "gensSuffix", unfollowed := true, recurses := true, apart := false, narrowed := true }
def GensSuffixUptoSaid : Prop := gensSuffixUptoRow.holds Try.pinned (OpenSpec.upto gensSuffixSpec)

end Rows
end Go.Proofs.Ythpaliagmnclfaa
