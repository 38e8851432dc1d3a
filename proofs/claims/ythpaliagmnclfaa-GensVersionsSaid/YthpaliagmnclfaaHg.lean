/-
  Two histories of a law's own, side by side; what Get and Compact tell, written flat.
-/
import Derived.Test.YthpaliagmnclfaaGq
import Derived.Test.YthpaliagmnclfaaGr
import Derived.Test.YthpaliagmnclfaaGs
import Derived.Test.YthpaliagmnclfaaHe
namespace Go.Proofs.Ythpaliagmnclfaa
open Go.ChangeShapes Go.WideShapes Go.ChangeAt Go.RowKit Go.Deep
set_option linter.unusedVariables false
set_option linter.unusedSimpArgs false

/-- What is told, with zeros for nothing. -/
def fnd (o : Option (Rv × Int × Int)) : Rv × Int × Int := o.getD ((0, 0), 0, 0)
theorem getV_fnd (o : Option (Rv × Int × Int)) : getV o = .tuple #[.agg #[.int .i64 (fnd o).1.1, .int .i64 (fnd o).1.2, .int .i64 (fnd o).2.1, .int .i64 (fnd o).2.2], .bool o.isSome] := by cases o <;> rfl
theorem compV_fnd (o : Option (Rv × Int × Int)) : compV o = .tuple #[.agg #[.int .i64 (fnd o).1.1, .int .i64 (fnd o).1.2], .bool o.isSome] := by cases o <;> rfl
theorem eql_found (q1 q2 c v q1' q2' c' v' : Int) (w : World) : (binOp .eql 33 (.agg #[.int .i64 q1, .int .i64 q2, .int .i64 c, .int .i64 v]) (.agg #[.int .i64 q1', .int .i64 q2', .int .i64 c', .int .i64 v'])).run Try.prog w = .ok (.bool (decide (q1 = q1' ∧ q2 = q2' ∧ c = c' ∧ v = v'))) w := by
  go_simp
  by_cases h1 : q1 = q1' <;> by_cases h2 : q2 = q2' <;> by_cases h3 : c = c' <;> by_cases h4 : v = v' <;> simp [h1, h2, h3, h4]
theorem get_f {w : World} {r : Nat} {F : Nat → Prop} {gs : List Gn} (h : Gs w r F gs) (hi : GInv gs) {N : Nat} (hN : BdG gs N) (hn : N ≤ 900000) (m : Int) {o : Option (Rv × Int × Int)} (ho : getG gs m = o) :
    Calls Try.prog 11 #[.pointer (some ⟨r, 0, none⟩), .int .i64 m] w fun e w' => e = .returned (.tuple #[.agg #[.int .i64 (fnd o).1.1, .int .i64 (fnd o).1.2, .int .i64 (fnd o).2.1, .int .i64 (fnd o).2.2], .bool o.isSome]) ∧ Below w.heap.size w w' := by
  have := gget_any h hi hN hn m
  rw [ho, getV_fnd] at this
  exact this
theorem compact_f {w : World} {r : Nat} {F : Nat → Prop} {gs : List Gn} (h : Gs w r F gs) (hi : GInv gs) {N : Nat} (hN : BdG gs N) (hn : N ≤ 900000) (m : Int) {o : Option (Rv × Int × Int)} (ho : getG gs m = o) :
    Calls Try.prog 10 #[.pointer (some ⟨r, 0, none⟩), .int .i64 m] w fun e w' => e = .returned (.tuple #[.agg #[.int .i64 (fnd o).1.1, .int .i64 (fnd o).1.2], .bool o.isSome]) ∧ GLeft w r F (compactG gs m) w' := by
  have := gcompact_any h hi hN hn m
  rw [ho, compV_fnd] at this
  exact this
/-- One history of its own, all of it made since w. -/
structure One (w W : World) (r : Nat) (F : Nat → Prop) (gs : List Gn) : Prop where
  g : Gs W r F gs
  lo : ∀ j, F j → w.heap.size ≤ j
  bel : Below w.heap.size w W
theorem One.below {w W W' : World} {r : Nat} {F : Nat → Prop} {gs : List Gn} (h : One w W r F gs) (hb : Below W.heap.size W W') : One w W' r F gs := ⟨h.g.below hb, h.lo, bel_to hb h.bel⟩
/-- Behind what turns only memory of its own. -/
theorem bel_left {w W W' : World} {T : Nat → Prop} (h : Below w.heap.size w W) (t : Turned W W' T) (hT : ∀ j, T j → w.heap.size ≤ j) : Below w.heap.size w W' :=
  ((Turned.of_below h (fun _ => False)).chain t (fun j hj e => by have := hT j e; omega)).below_
theorem One.left {w W W' : World} {r : Nat} {F : Nat → Prop} {gs gs' : List Gn} (h : One w W r F gs) (hl : GLeft W r F gs' W') : ∃ F', One w W' r F' gs' ∧ (∀ j, F' j → F j ∨ W.heap.size ≤ j) := by
  obtain ⟨F', k1, k2, k3⟩ := hl
  refine ⟨F', ⟨k1, fun j hj => ?_, bel_left h.bel k3 h.lo⟩, k2⟩
  rcases k2 j hj with e | e
  · exact h.lo j e
  · exact Nat.le_trans h.bel.size e
/-- Another one stands. -/
theorem One.other {w W W' : World} {r r' : Nat} {F F' : Nat → Prop} {gs gs' gs2 : List Gn} (h : One w W r F gs) (h' : One w W r' F' gs') (hd : ∀ j, F j → ¬ F' j) (hl : GLeft W r' F' gs2 W') : One w W' r F gs := by
  obtain ⟨_, _, _, k3⟩ := hl
  exact ⟨h.g.turned k3 hd, h.lo, bel_left h.bel k3 h'.lo⟩
theorem One.copy {w W W' : World} {r' : Nat} {F' : Nat → Prop} {gs : List Gn} (h : Below w.heap.size w W) (hg : Gs W' r' F' gs) (hf : ∀ j, F' j → W.heap.size ≤ j) (hb : Below W.heap.size W W') : One w W' r' F' gs := ⟨hg, fun j hj => Nat.le_trans h.size (hf j hj), bel_to hb h⟩
theorem apart_of {W : World} {r : Nat} {F F' : Nat → Prop} {gs : List Gn} (h : Gs W r F gs) (hf : ∀ j, F' j → W.heap.size ≤ j) : ∀ j, F j → ¬ F' j := fun j h1 h2 => by have := h.lt h1; have := hf j h2; omega
end Go.Proofs.Ythpaliagmnclfaa
