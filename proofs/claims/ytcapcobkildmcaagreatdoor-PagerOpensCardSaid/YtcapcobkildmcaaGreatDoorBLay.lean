/- Lay -/
import Derived.Test.YtcapcobkildmcaaGreatDoorRows
import Derived.Shelf.SlIterI.Nil
import Derived.Shelf.SortM.Plain
import Derived.Shelf.SortM.SortNone
section
/-
 The kit's contracts for slices.Sorted over maps.Keys, laid at this translation: two tables of numbers and their facts a function. Nothing is claimed here of the Go text.
-/
namespace Go.Proofs.YtcapcobkildmcaaGreatDoor
open Go.Shelf
def Tryz.keysA_ren : Go.Shelf.Ren := ⟨fun | 7 => 107 | 10 => 168 | n => n, fun | 23 => 74 | 26 => 3 | 3 => 46 | 28 => 219 | 0 => 0 | 27 => 218 | 33 => 229 | 4 => 4 | n => n, fun | n => n⟩
theorem Tryz.keysA : Go.Proofs.SlLaysZI.n7 Tryz.prog Tryz.keysA_ren := {
 mixed := by kernel_rfl
 f7 := ⟨Tryz.f107.name, by decide, Tryz.func107.trans (congrArg some (by kernel_rfl))⟩
 f10 := ⟨Tryz.f168.name, by decide, Tryz.func168.trans (congrArg some (by kernel_rfl))⟩
 t0 := Tryz.underlying0
 a0 := Tryz.isAgg0
 z0 := Tryz.sizeOf0
 v0 := Tryz.zeroValue0
 t4 := Tryz.underlying4
 a4 := Tryz.isAgg4
 z4 := Tryz.sizeOf4
 v4 := Tryz.zeroValue4
 t23 := Tryz.underlying74
 a23 := Tryz.isAgg74
 z23 := Tryz.sizeOf74
 v23 := Tryz.zeroValue74
 t26 := Tryz.underlying3
 a26 := Tryz.isAgg3
 z26 := Tryz.sizeOf3
 v26 := Tryz.zeroValue3
 t27 := Tryz.underlying218
 a27 := Tryz.isAgg218
 z27 := Tryz.sizeOf218
 v27 := Tryz.zeroValue218
 t28 := Tryz.underlying219
 a28 := Tryz.isAgg219
 z28 := Tryz.sizeOf219
 v28 := Tryz.zeroValue219
 t33 := Tryz.underlying229
 a33 := Tryz.isAgg229
 z33 := Tryz.sizeOf229
 v33 := Tryz.zeroValue229 }
def Tryz.sortedA_ren : Go.Shelf.Ren := ⟨fun | 6 => 106 | 8 => 167 | 9 => 74 | 11 => 230 | 13 => 139 | 12 => 138 | 23 => 202 | 24 => 203 | 14 => 193 | 15 => 194 | 16 => 195 | 17 => 196 | 18 => 197 | 19 => 198 | 20 => 199 | 21 => 200 | 22 => 201 | 25 => 251 | 26 => 252 | 27 => 253 | 28 => 254 | 29 => 255 | 30 => 256 | 31 => 279 | n => n, fun | 26 => 3 | 28 => 219 | 24 => 60 | 0 => 0 | 3 => 3 | 37 => 28 | 48 => 324 | 50 => 72 | 4 => 4 | 40 => 318 | 39 => 317 | 45 => 159 | 5 => 5 | 9 => 9 | 51 => 367 | 55 => 370 | 57 => 389 | 58 => 390 | 33 => 229 | n => n, fun | n => n⟩
theorem Tryz.sortedA : Go.Proofs.SlLaysZI.n6 Tryz.prog Tryz.sortedA_ren := {
 mixed := by kernel_rfl
 f6 := ⟨Tryz.f106.name, by decide, Tryz.func106.trans (congrArg some (by kernel_rfl))⟩
 f8 := ⟨Tryz.f167.name, by decide, Tryz.func167.trans (congrArg some (by kernel_rfl))⟩
 f11 := ⟨Tryz.f230.name, by decide, Tryz.func230.trans (congrArg some (by kernel_rfl))⟩
 t0 := Tryz.underlying0
 a0 := Tryz.isAgg0
 z0 := Tryz.sizeOf0
 v0 := Tryz.zeroValue0
 t24 := Tryz.underlying60
 a24 := Tryz.isAgg60
 z24 := Tryz.sizeOf60
 v24 := Tryz.zeroValue60
 t26 := Tryz.underlying3
 a26 := Tryz.isAgg3
 z26 := Tryz.sizeOf3
 v26 := Tryz.zeroValue3
 t28 := Tryz.underlying219
 a28 := Tryz.isAgg219
 z28 := Tryz.sizeOf219
 v28 := Tryz.zeroValue219
 i26 := by kernel_rfl }
def Tryz.sortA_ren : Go.Shelf.Ren := ⟨fun | 5 => 74 | 8 => 139 | 7 => 138 | 19 => 202 | 20 => 203 | 10 => 193 | 11 => 194 | 12 => 195 | 13 => 196 | 14 => 197 | 15 => 198 | 16 => 199 | 17 => 200 | 18 => 201 | 30 => 251 | 31 => 252 | 32 => 253 | 33 => 254 | 34 => 255 | 35 => 256 | 40 => 279 | n => n, fun | 23 => 60 | 25 => 3 | 3 => 3 | 32 => 28 | 22 => 60 | 0 => 0 | 44 => 324 | 46 => 72 | 4 => 4 | 36 => 318 | 35 => 317 | 41 => 159 | 5 => 5 | 9 => 9 | 53 => 367 | 57 => 370 | 63 => 389 | 64 => 390 | n => n, fun | n => n⟩
theorem Tryz.sortA : Go.Proofs.SlLaysM.n5 Tryz.prog Tryz.sortA_ren := {
 mixed := by kernel_rfl
 f5 := ⟨Tryz.f74.name, by decide, Tryz.func74.trans (congrArg some (by kernel_rfl))⟩
 f7 := ⟨Tryz.f138.name, by decide, Tryz.func138.trans (congrArg some (by kernel_rfl))⟩
 f8 := Tryz.func139.trans (congrArg some (by kernel_rfl))
 f10 := ⟨Tryz.f193.name, by decide, Tryz.func193.trans (congrArg some (by kernel_rfl))⟩
 f11 := ⟨Tryz.f194.name, by decide, Tryz.func194.trans (congrArg some (by kernel_rfl))⟩
 f12 := ⟨Tryz.f195.name, by decide, Tryz.func195.trans (congrArg some (by kernel_rfl))⟩
 f13 := ⟨Tryz.f196.name, by decide, Tryz.func196.trans (congrArg some (by kernel_rfl))⟩
 f14 := ⟨Tryz.f197.name, by decide, Tryz.func197.trans (congrArg some (by kernel_rfl))⟩
 f15 := ⟨Tryz.f198.name, by decide, Tryz.func198.trans (congrArg some (by kernel_rfl))⟩
 f16 := ⟨Tryz.f199.name, by decide, Tryz.func199.trans (congrArg some (by kernel_rfl))⟩
 f17 := ⟨Tryz.f200.name, by decide, Tryz.func200.trans (congrArg some (by kernel_rfl))⟩
 f18 := ⟨Tryz.f201.name, by decide, Tryz.func201.trans (congrArg some (by kernel_rfl))⟩
 f19 := Tryz.func202.trans (congrArg some (by kernel_rfl))
 f20 := Tryz.func203.trans (congrArg some (by kernel_rfl))
 f30 := ⟨Tryz.f251.name, by decide, Tryz.func251.trans (congrArg some (by kernel_rfl))⟩
 f31 := Tryz.func252.trans (congrArg some (by kernel_rfl))
 f32 := Tryz.func253.trans (congrArg some (by kernel_rfl))
 f33 := ⟨Tryz.f254.name, by decide, Tryz.func254.trans (congrArg some (by kernel_rfl))⟩
 f34 := ⟨Tryz.f255.name, by decide, Tryz.func255.trans (congrArg some (by kernel_rfl))⟩
 f35 := ⟨Tryz.f256.name, by decide, Tryz.func256.trans (congrArg some (by kernel_rfl))⟩
 f40 := ⟨Tryz.f279.name, by decide, Tryz.func279.trans (congrArg some (by kernel_rfl))⟩
 t0 := Tryz.underlying0
 a0 := Tryz.isAgg0
 z0 := Tryz.sizeOf0
 v0 := Tryz.zeroValue0
 t3 := Tryz.underlying3
 a3 := Tryz.isAgg3
 z3 := Tryz.sizeOf3
 v3 := Tryz.zeroValue3
 t4 := Tryz.underlying4
 a4 := Tryz.isAgg4
 z4 := Tryz.sizeOf4
 v4 := Tryz.zeroValue4
 t5 := Tryz.underlying5
 a5 := Tryz.isAgg5
 z5 := Tryz.sizeOf5
 v5 := Tryz.zeroValue5
 t9 := Tryz.underlying9
 a9 := Tryz.isAgg9
 z9 := Tryz.sizeOf9
 v9 := Tryz.zeroValue9
 t22 := Tryz.underlying60
 a22 := Tryz.isAgg60
 z22 := Tryz.sizeOf60
 v22 := Tryz.zeroValue60
 t23 := Tryz.underlying60
 a23 := Tryz.isAgg60
 z23 := Tryz.sizeOf60
 v23 := Tryz.zeroValue60
 t25 := Tryz.underlying3
 a25 := Tryz.isAgg3
 z25 := Tryz.sizeOf3
 v25 := Tryz.zeroValue3
 t32 := Tryz.underlying28
 a32 := Tryz.isAgg28
 z32 := Tryz.sizeOf28
 v32 := Tryz.zeroValue28
 t35 := Tryz.underlying317
 a35 := Tryz.isAgg317
 z35 := Tryz.sizeOf317
 v35 := Tryz.zeroValue317
 t36 := Tryz.underlying318
 a36 := Tryz.isAgg318
 z36 := Tryz.sizeOf318
 v36 := Tryz.zeroValue318
 t41 := Tryz.underlying159
 a41 := Tryz.isAgg159
 z41 := Tryz.sizeOf159
 v41 := Tryz.zeroValue159
 t44 := Tryz.underlying324
 a44 := Tryz.isAgg324
 z44 := Tryz.sizeOf324
 v44 := Tryz.zeroValue324
 t46 := Tryz.underlying72
 a46 := Tryz.isAgg72
 z46 := Tryz.sizeOf72
 v46 := Tryz.zeroValue72
 t53 := Tryz.underlying367
 a53 := Tryz.isAgg367
 z53 := Tryz.sizeOf367
 v53 := Tryz.zeroValue367
 t57 := Tryz.underlying370
 a57 := Tryz.isAgg370
 z57 := Tryz.sizeOf370
 v57 := Tryz.zeroValue370
 t63 := Tryz.underlying389
 a63 := Tryz.isAgg389
 z63 := Tryz.sizeOf389
 v63 := Tryz.zeroValue389
 t64 := Tryz.underlying390
 a64 := Tryz.isAgg390
 z64 := Tryz.sizeOf390
 v64 := Tryz.zeroValue390 }
end Go.Proofs.YtcapcobkildmcaaGreatDoor
end
