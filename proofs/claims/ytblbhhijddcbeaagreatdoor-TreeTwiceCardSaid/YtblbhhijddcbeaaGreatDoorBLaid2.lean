/- Laid2 -/
import Derived.Test.YtblbhhijddcbeaaGreatDoorBSeal
import Derived.Test.YtblbhhijddcbeaaGreatDoorTie
import Derived.Test.YtblbhhijddcbeaaGreatDoorCards
import Derived.Lib.LaidTab
import Derived.LaidMore
import Derived.LaidLaws
import Derived.SevenTiedAt
section
/-
 What the rows' condition on the table of sixteen gives the walks; a heap that meets it.
-/
namespace Go.Proofs.YtblbhhijddcbeaaGreatDoor
open Go.ChangeShapes Go.WideShapes Go.ChangeAt Go.RowKit Crc
set_option linter.unusedVariables false
def foursZ : List Int := [0, 274646895, 549293790, 820201905, 1098587580, 1361435347, 1640403810, 1905808397, 2197175160, 2460548119, 2722870694, 2987750089, 3280807620, 3553878443, 3811616794, 4084100981]
theorem foursZ_is : ∀ i, i < 16 → foursZ.getD i 0 = ((it 4 i : Nat) : Int) := by decide +kernel
def laidAll : List (String × DataW Unit) := [("terrier/sum.fours", Rows.laid_terrier_sum_fours)]
theorem laidAll_is : laidAll = [("terrier/sum.fours", Lib.tabData .u32 foursZ)] := by kernel_rfl
theorem gFours : Tryz.prog.globalNamed "terrier/sum.fours" = some 1 := by kernel_rfl
theorem tFours : (Tryz.prog.globals[1]?).map (·.type) = some 352 := by kernel_rfl
theorem fours_of_laid {W : World} (h : laidMetH Tryz.prog laidAll W) : Fours W := by
 rw [MakeChecks.laidMetH_plain _ _ _ (by kernel_rfl), laidAll_is] at h; have ht := Lib.tabIs_of_head gFours tFours Tryz.underlying352 Tryz.underlying272 (by kernel_rfl) (by kernel_rfl) h; intro i hi; have := ht.cell gFours i (by simpa [foursZ] using hi)
 rwa [foursZ_is i hi] at this
theorem door_met (os : Os) (args : Array Value) : laidMetH Tryz.prog laidAll ((World.doorLaid Tryz.prog 400 os).forCall (fun _ _ => 0) ⟨#[], args, []⟩).memory :=
 laidMetH_of_parts3 (fuel := 8) (laidMet_of_run' 8 (by kernel_rfl) (by kernel_rfl)) (by kernel_rfl) (by kernel_rfl)
end Go.Proofs.YtblbhhijddcbeaaGreatDoor
end
