/-
  A slice of bytes apart from a block: what stands there reads on while nothing but that block, and what is new, turns. No program is named.
-/
import Derived.Test.YtcmjgkgdeaiifaaPart
namespace Go.Proofs.Ytcmjgkgdeaiifaa
open Go.ChangeShapes Go.WideShapes Go.ChangeAt Go.RowKit
set_option linter.unusedVariables false
/-- The bytes of a slice of bytes lie apart from block g. -/
def apartA (A : Option Addr) (n g : Nat) : Prop := ∀ a, A = some a → 0 < n → a.block ≠ g
theorem Rd.fresh {w : World} {A : Option Addr} {n g : Nat} {xs : List UInt8} (h : Rd w A n xs) (hg : w.heap.size ≤ g) : apartA A n g := fun a e h0 => by
  obtain ⟨b, e', hb⟩ := h.lt h0
  rw [e] at e'
  obtain rfl := Option.some.inj e'
  omega
theorem Rd.grown {w w' : World} {A : Option Addr} {n g : Nat} {xs : List UInt8} (h : Rd w A n xs) (ha : apartA A n g) (hg : w.grownBy w' (some g)) : Rd w' A n xs := by
  refine ⟨h.1, fun h0 => ?_⟩
  obtain ⟨a, e, hc⟩ := h.2 h0
  refine ⟨a, e, fun j hj => ?_⟩
  have hb : (a.add j).block < w.heap.size := World.block_lt_of_cell? w _ (hc j hj)
  rw [World.cell?_of_block (w := w) (hg.block _ hb (fun e' => ha a e h0 (by rw [add_block] at e'; exact (Option.some.inj e'))))]
  exact hc j hj
end Go.Proofs.Ytcmjgkgdeaiifaa
