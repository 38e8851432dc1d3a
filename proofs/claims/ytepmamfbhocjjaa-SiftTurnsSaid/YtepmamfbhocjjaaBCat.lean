/-
  Texts laid together: Cat.
-/
import Derived.Test.YtepmamfbhocjjaaBPart
import Derived.Test.YtepmamfbhocjjaaBBase
import Derived.Lib.AppendZeros
section
/-
  What the library's slices.Grow of nil and slices.Concat of rows of bytes answer.
-/
namespace Go.Proofs.Ytepmamfbhocjjaa
open Go.ChangeShapes Go.WideShapes Go.ChangeAt Go.RowKit
set_option linter.unusedVariables false

theorem own_empty (w : World) (g cap : Nat) (Z : Array Value) (e : TypeId) (h : w.heap[g]? = some (.cells Z e (0, 0))) (hz : Z.size = cap) (hc : cap ≤ maxLen) {base : Nat} (hb : base ≤ g) : w.ownsRow base e 1 (.slice (some ⟨g, 0, none⟩) 0 cap) 0 (cellsOf []) :=
  ⟨by simp [cellsOf], .inr ⟨g, cap, Z, rfl, hb, h, Nat.zero_le _, hc, by omega, by simp [cellsOf]⟩⟩
/-- The first k rows, one behind the other; how many bytes these are. -/
def catX (X : Nat → List UInt8) : Nat → List UInt8
  | 0 => []
  | k + 1 => catX X k ++ X k
theorem catX_le (X : Nat → List UInt8) {k m : Nat} (h : k ≤ m) : (catX X k).length ≤ (catX X m).length := by
  induction m with
  | zero => obtain rfl : k = 0 := by omega
            exact Nat.le_refl _
  | succ m ih =>
    rcases Nat.lt_succ_iff_lt_or_eq.1 (Nat.lt_succ_of_le h) with h' | h'
    · have := ih (by omega)
      rw [show catX X (m + 1) = catX X m ++ X m from rfl, List.length_append]
      omega
    · subst h'; exact Nat.le_refl _
theorem catX_list (L : List Part) : catX (fun i => (L.getD i .none).xs) L.length = (L.map Part.xs).flatten := by
  have key : ∀ k, k ≤ L.length → catX (fun i => (L.getD i .none).xs) k = ((L.take k).map Part.xs).flatten := by
    intro k
    induction k with
    | zero => intro _; rfl
    | succ k ih =>
      intro hk
      rw [catX, ih (by omega), List.take_succ_eq_append_getElem (by omega), List.map_append, List.flatten_append]
      simp [show k < L.length by omega]
  have := key L.length (Nat.le_refl _)
  rwa [List.take_length] at this
theorem RdRows.below {w w' : World} {A : Option Addr} {n : Nat} {B : Nat → Option Addr} {C : Nat → Nat} {X : Nat → List UInt8} (h : RdRows w A n B C X) (hb : Below w.heap.size w w') : RdRows w' A n B C X :=
  ⟨fun hn => by
    obtain ⟨a, e, hc⟩ := h.cell hn
    exact ⟨a, e, fun i hi => (hb.cell (World.block_lt_of_cell? w _ (hc i hi))).trans (hc i hi)⟩, fun i hi => (h.row i hi).below hb, h.room⟩
end Go.Proofs.Ytepmamfbhocjjaa
end
