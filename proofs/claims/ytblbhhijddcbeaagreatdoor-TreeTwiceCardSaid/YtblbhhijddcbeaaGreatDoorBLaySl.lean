/- LaySl -/
import Derived.Test.YtblbhhijddcbeaaGreatDoorRows
import Derived.Shelf.Slices.SearchI
import Derived.Shelf.Slices.Delete
import Derived.Shelf.Slices.Clone
import Derived.Shelf.Slices.Empties
import Derived.Shelf.Spec.SlicesInsert
import Derived.Shelf.Spec.SlicesInsertGrow
section
/-
 The kit's contracts for slices.BinarySearch, Insert, Delete and Clone at []int, laid at this translation: tables of numbers and their facts a function. Nothing is claimed here of the Go text.
-/
namespace Go.Proofs.YtblbhhijddcbeaaGreatDoor
open Go.Shelf
def Tryz.searchA_ren : Go.Shelf.Ren := ⟨fun | 25 => 136 | 31 => 161 | 32 => 189 | 37 => 211 | n => n, fun | 22 => 60 | 3 => 3 | 4 => 4 | 40 => 28 | 0 => 0 | n => n, fun | n => n⟩
theorem Tryz.searchA : Go.Proofs.Lays2.n25 Tryz.prog Tryz.searchA_ren := {
 mixed := by kernel_rfl
 f25 := Tryz.func136.trans (congrArg some (by kernel_rfl))
 f31 := Tryz.func161.trans (congrArg some (by kernel_rfl))
 f32 := Tryz.func189.trans (congrArg some (by kernel_rfl))
 f37 := Tryz.func211.trans (congrArg some (by kernel_rfl))
 t0 := Tryz.underlying0
 a0 := Tryz.isAgg0
 z0 := Tryz.sizeOf0
 v0 := Tryz.zeroValue0
 t3 := Tryz.underlying3
 a3 := Tryz.isAgg3
 z3 := Tryz.sizeOf3
 v3 := Tryz.zeroValue3
 t4 := Tryz.underlying4
 a4 := Tryz.isAgg4
 z4 := Tryz.sizeOf4
 v4 := Tryz.zeroValue4
 t22 := Tryz.underlying60
 a22 := Tryz.isAgg60
 z22 := Tryz.sizeOf60
 v22 := Tryz.zeroValue60
 t40 := Tryz.underlying28
 a40 := Tryz.isAgg28
 z40 := Tryz.sizeOf28
 v40 := Tryz.zeroValue28 }
def Tryz.insertA_ren : Go.Shelf.Ren := ⟨fun | 21 => 137 | 27 => 190 | 28 => 191 | 35 => 238 | 39 => 249 | n => n, fun | 22 => 60 | 3 => 3 | 4 => 4 | 0 => 0 | n => n, fun | n => n⟩
theorem Tryz.insertA : Go.Proofs.Lays2.n21 Tryz.prog Tryz.insertA_ren := {
 mixed := by kernel_rfl
 f21 := Tryz.func137.trans (congrArg some (by kernel_rfl))
 f27 := Tryz.func190.trans (congrArg some (by kernel_rfl))
 f28 := Tryz.func191.trans (congrArg some (by kernel_rfl))
 f35 := Tryz.func238.trans (congrArg some (by kernel_rfl))
 f39 := Tryz.func249.trans (congrArg some (by kernel_rfl))
 t0 := Tryz.underlying0
 a0 := Tryz.isAgg0
 z0 := Tryz.sizeOf0
 v0 := Tryz.zeroValue0
 t3 := Tryz.underlying3
 a3 := Tryz.isAgg3
 z3 := Tryz.sizeOf3
 v3 := Tryz.zeroValue3
 t4 := Tryz.underlying4
 a4 := Tryz.isAgg4
 z4 := Tryz.sizeOf4
 v4 := Tryz.zeroValue4
 t22 := Tryz.underlying60
 a22 := Tryz.isAgg60
 z22 := Tryz.sizeOf60
 v22 := Tryz.zeroValue60
 i3 := by kernel_rfl }
def Tryz.deleteA_ren : Go.Shelf.Ren := ⟨fun | 23 => 168 | n => n, fun | 22 => 60 | 3 => 3 | 4 => 4 | 0 => 0 | n => n, fun | n => n⟩
theorem Tryz.deleteA : Go.Proofs.Lays2.n23 Tryz.prog Tryz.deleteA_ren := {
 mixed := by kernel_rfl
 f23 := Tryz.func168.trans (congrArg some (by kernel_rfl))
 t0 := Tryz.underlying0
 a0 := Tryz.isAgg0
 z0 := Tryz.sizeOf0
 v0 := Tryz.zeroValue0
 t3 := Tryz.underlying3
 a3 := Tryz.isAgg3
 z3 := Tryz.sizeOf3
 v3 := Tryz.zeroValue3
 t4 := Tryz.underlying4
 a4 := Tryz.isAgg4
 z4 := Tryz.sizeOf4
 v4 := Tryz.zeroValue4
 t22 := Tryz.underlying60
 a22 := Tryz.isAgg60
 z22 := Tryz.sizeOf60
 v22 := Tryz.zeroValue60
 i3 := by kernel_rfl }
def Tryz.cloneA_ren : Go.Shelf.Ren := ⟨fun | 15 => 132 | n => n, fun | 22 => 60 | 3 => 3 | 4 => 4 | n => n, fun | n => n⟩
theorem Tryz.cloneA : Go.Proofs.Lays2.n15 Tryz.prog Tryz.cloneA_ren := {
 mixed := by kernel_rfl
 f15 := Tryz.func132.trans (congrArg some (by kernel_rfl))
 t3 := Tryz.underlying3
 a3 := Tryz.isAgg3
 z3 := Tryz.sizeOf3
 v3 := Tryz.zeroValue3
 t4 := Tryz.underlying4
 a4 := Tryz.isAgg4
 z4 := Tryz.sizeOf4
 v4 := Tryz.zeroValue4
 t22 := Tryz.underlying60
 a22 := Tryz.isAgg60
 z22 := Tryz.sizeOf60
 v22 := Tryz.zeroValue60
 i3 := by kernel_rfl }
end Go.Proofs.YtblbhhijddcbeaaGreatDoor
end
