/-
  What octets.Put, its helpers and the document's own Put, Fits and Same answer, call by call.
-/
import Derived.Test.YtfmljiidgaoihaaNum
namespace Go.Proofs.Ytfmljiidgaoihaa
open Go.ChangeShapes Go.WideShapes Go.ChangeAt Go.RowKit

theorem u8info : (Try.prog.info? 5).map (fun i => (i.zero, i.size, i.bytes)) = some (some (.int .u8 0), 1, 1) := by kernel_rfl

/-- What stands in the new row after k rounds. -/
def putCells (n s k : Nat) : List UInt8 := List.replicate (s - k) 0 ++ be n k
theorem putCells_length (n s k : Nat) (h : k ≤ s) : (putCells n s k).length = s := by simp [putCells, be_length]; omega
theorem putCells_next (n s k : Nat) (h : k < s) : (cellsOf (putCells n s k)).set (s - 1 - k) (byteV (UInt8.ofNat (n / 256 ^ k))) = cellsOf (putCells n s (k + 1)) := by
  have e1 : s - k = (s - (k + 1)) + 1 := by omega
  unfold putCells
  rw [be_cons, e1, List.replicate_succ', cellsOf_append, cellsOf_append, cellsOf_append]
  rw [show s - 1 - k = (cellsOf (List.replicate (s - (k + 1)) 0)).length by rw [cellsOf_length, List.length_replicate]; omega]
  simp [cellsOf]

/-- Same: two slices of bytes as texts. -/
theorem same_any (A B : Option Addr) (n m c d : Nat) (xs ys : List UInt8) (w : World) (h1 : Rd w A n xs) (h2 : Rd w B m ys) (b : Bool) (hb : decide (xs = ys) = b) :
    Calls Try.prog 25 #[.slice A n c, .slice B m d] w fun e w' => e = .returned (.bool b) ∧ w = w' := by
  have c1 := h1.string (P := Try.prog) c 26 5 9 Try.underlying26 Try.underlying5 Try.underlying9
  have c2 := h2.string (P := Try.prog) d 26 5 9 Try.underlying26 Try.underlying5 Try.underlying9
  have hbb : ((strOf xs).toList == (strOf ys).toList) = b := by
    rw [strOf_toList, strOf_toList, ← hb]
    by_cases h : xs = ys
    · simp [h]
    · simp [h]
  clear hb h1 h2
  generalize strOf xs = s1 at c1 hbb
  generalize strOf ys = s2 at c2 hbb
  cases b <;> (go_enter Try.func25, Try.ntmps25; go_wp2; go_ret; exact ⟨rfl, rfl⟩)
end Go.Proofs.Ytfmljiidgaoihaa
