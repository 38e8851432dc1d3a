/-
  Texts laid together: Down.
-/
import Derived.Test.YtlckeebbjnhejaaGreatBTu
import Derived.RangeFuncNested
section
/-
  Indexes from the last one down; two blocks that stay as they were. No program is named.
-/
namespace Go.Proofs.YtlckeebbjnhejaaGreat
open Go.ChangeShapes Go.WideShapes Go.ChangeAt Go.RowKit
set_option linter.unusedVariables false
/-- Indexes from the last one down to q. -/
def downTo (len q : Nat) : List Nat := (List.range (len - q)).map fun i => len - 1 - i
theorem downTo_self (len : Nat) : downTo len len = [] := by simp [downTo]
theorem downTo_step {len q : Nat} (h : q < len) : downTo len q = downTo len (q + 1) ++ [q] := by
  unfold downTo
  rw [show len - q = len - (q + 1) + 1 by omega, List.range_succ, List.map_append]
  congr 1
  simp
  omega
theorem downTo_length (len q : Nat) : (downTo len q).length = len - q := by simp [downTo]
/-- These two blocks are as they were. -/
def Two2 (x y : Nat) (W W' : World) : Prop := W'.heap[x]? = W.heap[x]? ∧ W'.heap[y]? = W.heap[y]?
theorem Two2.t {x y : Nat} {A B C : World} (h : Two2 x y A B) (k : Two2 x y B C) : Two2 x y A C := ⟨k.1.trans h.1, k.2.trans h.2⟩
theorem Two2.c {x y : Nat} {A B : World} (h : Two2 x y A B) {p : Addr} (hp : p.block = x ∨ p.block = y) : B.cell? p = A.cell? p := by
  refine World.cell?_of_block ?_
  rcases hp with e | e <;> rw [e]
  · exact h.1
  · exact h.2
theorem Turned.chain {w w1 w2 : World} {T U : Nat → Prop} (h : Turned w w1 T) (k : Turned w1 w2 U) (hn : ∀ j, j < w.heap.size → U j → T j) : Turned w w2 T :=
  ⟨k.os.trans h.os, k.tape.trans h.tape, k.output.trans h.output, Nat.le_trans h.size k.size, fun i hi ht => (k.block i (Nat.lt_of_lt_of_le hi h.size) (fun e => ht (hn i hi e))).trans (h.block i hi ht)⟩
theorem Turned.obj {W Y : World} {T : Nat → Prop} (t : Turned W Y T) {D : Nat} {o : Obj} (hK : W.heap[D]? = some o) (hn : ¬ T D) : Y.heap[D]? = some o := (t.block D (Array.getElem?_eq_some_iff.1 hK).1 hn).trans hK
theorem putObj_turned (Y : World) (D : Nat) (o : Obj) : Turned Y (Y.putObj D o) (fun k => k = D) := Turned.of_grown (grownBy_putObj' Y D o) (fun j e => (Option.some.inj e).symm)
theorem Turned.below_ {w w' : World} (h : Turned w w' (fun _ => False)) : Below w.heap.size w w' := ⟨h.os, h.tape, h.output, h.size, fun i hi => h.block i hi id⟩
/-- Behind what turns only memory of its own. -/
theorem bel_left {w W W' : World} {T : Nat → Prop} (h : Below w.heap.size w W) (t : Turned W W' T) (hT : ∀ j, T j → w.heap.size ≤ j) : Below w.heap.size w W' :=
  ((Turned.of_below h (fun _ => False)).chain t (fun j hj e => by have := hT j e; omega)).below_
end Go.Proofs.YtlckeebbjnhejaaGreat
end
