/-
  Texts laid together: Gro.
-/
import Derived.Test.YtepmamfbhocjjaaBCmp
import Derived.Sort.Grow
section
/-
  A world that has come of another one by draws and new blocks alone. No program is named.
-/
namespace Go.Proofs.Ytepmamfbhocjjaa
open Go.ChangeShapes Go.WideShapes Go.ChangeAt Go.RowKit
set_option linter.unusedVariables false
/-- A world that has come of another one by draws and new blocks alone. -/
def Gro (w w' : World) : Prop := ∃ q os, w' = Sort.grow (w.drewN q) os
theorem Gro.refl (w : World) : Gro w w := ⟨0, #[], by rw [Sort.grow_empty]; rfl⟩
theorem Gro.alloc {w w' : World} (h : Gro w w') (o : Obj) : Gro w (w'.alloc o) := by
  obtain ⟨q, os, rfl⟩ := h
  exact ⟨q, os ++ #[o], by rw [Sort.alloc_eq_grow, Sort.grow_grow]⟩
theorem Gro.alloc_eq {w w' W : World} (h : Gro w w') {o : Obj} (e : W = w'.alloc o) : Gro w W := by subst e; exact h.alloc o
theorem Gro.drew {w w' : World} (h : Gro w w') : Gro w w'.drew := by
  obtain ⟨q, os, rfl⟩ := h
  exact ⟨q + 1, os, rfl⟩
theorem Gro.trans {a b c : World} (h : Gro a b) (k : Gro b c) : Gro a c := by
  obtain ⟨q, os, rfl⟩ := h
  obtain ⟨q', os', rfl⟩ := k
  exact ⟨q + q', os ++ os', by
    show ({ heap := (a.heap ++ os) ++ os', tape := a.tape, drawn := a.drawn + q + q', os := a.os, output := a.output } : World) = { heap := a.heap ++ (os ++ os'), tape := a.tape, drawn := a.drawn + (q + q'), os := a.os, output := a.output }
    rw [Array.append_assoc, Nat.add_assoc]⟩
/-- .. and what is written into a block that is new. -/
theorem Gro.set_new {w w' : World} (h : Gro w w') (b o : Nat) (v : Value) (hb : w.heap.size ≤ b) : Gro w (w'.setCell ⟨b, o, none⟩ v) := by
  obtain ⟨q, os, rfl⟩ := h
  exact ⟨q, _, by rw [Sort.setCell_eq, Sort.mapBlock_grow_new _ _ _ _ (by exact hb)]⟩
theorem Gro.below {w w' : World} (h : Gro w w') : Below w.heap.size w w' := by
  obtain ⟨q, os, rfl⟩ := h
  refine ⟨rfl, rfl, rfl, ?_, fun i hi => ?_⟩
  · show w.heap.size ≤ (w.heap ++ os).size
    simp
  · show (w.heap ++ os)[i]? = _
    exact Array.getElem?_append_left hi
end Go.Proofs.Ytepmamfbhocjjaa
end
