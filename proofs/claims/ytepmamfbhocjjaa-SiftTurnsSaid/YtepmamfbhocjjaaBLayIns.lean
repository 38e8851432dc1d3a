/-
  Texts laid together: LayIns.
-/
import Derived.Test.YtepmamfbhocjjaaRows
import Derived.Shelf.SlSortCmp.InsertionK
section
/-
  The kit's contract for slices.insertionSortCmpFunc at structs, laid at this translation: a table of numbers and its facts a function. Nothing is claimed here of the Go text.
-/
namespace Go.Proofs.Ytepmamfbhocjjaa
open Go.Shelf
def Try.insA_ren : Go.Shelf.Ren := ⟨fun | 20 => 30 | n => n, fun | 24 => 37 | 22 => 25 | 3 => 3 | 25 => 49 | 4 => 4 | 0 => 0 | n => n, fun | n => n⟩
theorem Try.insA : Go.Proofs.SlLaysF0.n20 Try.prog Try.insA_ren := {
  mixed := by kernel_rfl
  f20 := ⟨Try.f30.name, by decide, Try.func30.trans (congrArg some (by kernel_rfl))⟩
  t0 := Try.underlying0
  a0 := Try.isAgg0
  z0 := Try.sizeOf0
  v0 := Try.zeroValue0
  t3 := Try.underlying3
  a3 := Try.isAgg3
  z3 := Try.sizeOf3
  v3 := Try.zeroValue3
  t4 := Try.underlying4
  a4 := Try.isAgg4
  z4 := Try.sizeOf4
  v4 := Try.zeroValue4
  t22 := Try.underlying25
  a22 := Try.isAgg25
  z22 := Try.sizeOf25
  v22 := Try.zeroValue25
  t25 := Try.underlying49
  a25 := Try.isAgg49
  z25 := Try.sizeOf49
  v25 := Try.zeroValue49 }
end Go.Proofs.Ytepmamfbhocjjaa
end
