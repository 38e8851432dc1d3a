/-
  What octets.Put, its helpers and the document's own Put, Fits and Same answer, call by call.
-/
import Derived.Test.YthpaliagmnclfaaNum
namespace Go.Proofs.Ythpaliagmnclfaa
open Go.ChangeShapes Go.WideShapes Go.ChangeAt Go.RowKit

theorem u8info : (Try.prog.info? 5).map (fun i => (i.zero, i.size, i.bytes)) = some (some (.int .u8 0), 1, 1) := by kernel_rfl

/-- What stands in the new row after k rounds. -/
def putCells (n s k : Nat) : List UInt8 := List.replicate (s - k) 0 ++ be n k
theorem putCells_length (n s k : Nat) (h : k ≤ s) : (putCells n s k).length = s := by simp [putCells, be_length]; omega
theorem putCells_next (n s k : Nat) (h : k < s) : (cellsOf (putCells n s k)).set (s - 1 - k) (byteV (UInt8.ofNat (n / 256 ^ k))) = cellsOf (putCells n s (k + 1)) := by
  have e1 : s - k = (s - (k + 1)) + 1 := by omega
  unfold putCells
  rw [be_cons, e1, List.replicate_succ', cellsOf_append, cellsOf_append, cellsOf_append]
  rw [show s - 1 - k = (cellsOf (List.replicate (s - (k + 1)) 0)).length by rw [cellsOf_length, List.length_replicate]; omega]
  simp [cellsOf]

end Go.Proofs.Ythpaliagmnclfaa
