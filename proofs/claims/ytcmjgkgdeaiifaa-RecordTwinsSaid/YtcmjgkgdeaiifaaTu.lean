/-
  What has turned in memory, by a set of blocks; many cells written at once. No program is named.
-/
import Derived.Test.YtcmjgkgdeaiifaaBase
import Derived.Laws.IdiomCopy
import Derived.Deep.QuietTactic
namespace Go.Proofs.Ytcmjgkgdeaiifaa
open Go.ChangeShapes Go.WideShapes Go.ChangeAt Go.RowKit
set_option linter.unusedVariables false

/-! ### what has turned -/
/-- Nothing but the blocks of T, and what is new, has turned. -/
structure Turned (w w' : World) (T : Nat → Prop) : Prop where
  os : w'.os = w.os
  tape : w'.tape = w.tape
  output : w'.output = w.output
  size : w.heap.size ≤ w'.heap.size
  block : ∀ k, k < w.heap.size → ¬ T k → w'.heap[k]? = w.heap[k]?
section
variable {w w' w'' : World} {T T' : Nat → Prop}
theorem Turned.refl (w : World) (T : Nat → Prop) : Turned w w T := ⟨rfl, rfl, rfl, Nat.le_refl _, fun _ _ _ => rfl⟩
theorem Turned.trans (h : Turned w w' T) (k : Turned w' w'' T) : Turned w w'' T :=
  ⟨k.os.trans h.os, k.tape.trans h.tape, k.output.trans h.output, Nat.le_trans h.size k.size, fun i hi hn => (k.block i (Nat.lt_of_lt_of_le hi h.size) hn).trans (h.block i hi hn)⟩
theorem Turned.mono (h : Turned w w' T) (hT : ∀ k, k < w.heap.size → T k → T' k) : Turned w w' T' := ⟨h.os, h.tape, h.output, h.size, fun k hk hn => h.block k hk fun e => hn (hT k hk e)⟩
theorem Turned.drewN (h : Turned w w' T) (q : Nat) : Turned w (w'.drewN q) T := ⟨h.os, h.tape, h.output, h.size, h.block⟩
theorem Turned.drew (h : Turned w w' T) : Turned w w'.drew T := ⟨h.os, h.tape, h.output, h.size, h.block⟩
theorem Turned.of_below (h : Below w.heap.size w w') (T : Nat → Prop) : Turned w w' T := ⟨h.os, h.tape, h.output, h.size, fun k hk _ => h.block k hk⟩
theorem Turned.of_grown {row : Option Nat} (h : w.grownBy w' row) (hr : ∀ j, row = some j → T j) : Turned w w' T :=
  ⟨h.os, h.tape, h.output, h.size, fun k hk hn => h.block k hk fun e => hn (hr k e.symm)⟩
theorem Turned.grown {row : Option Nat} (h : Turned w w' T) (g : w'.grownBy w'' row) (hr : ∀ j, j < w.heap.size → row = some j → T j) : Turned w w'' T :=
  ⟨g.os.trans h.os, g.tape.trans h.tape, g.output.trans h.output, Nat.le_trans h.size g.size, fun k hk hn => (g.block k (Nat.lt_of_lt_of_le hk h.size) fun e => hn (hr k hk e.symm)).trans (h.block k hk hn)⟩
theorem Turned.setCell (h : Turned w w' T) {p : Addr} (hp : p.block < w.heap.size → T p.block) (u : Value) : Turned w (w'.setCell p u) T :=
  ⟨h.os, h.tape, h.output, by simpa [World.setCell] using h.size, fun k hk hn => (Below.heap_setCell w' p u k (fun e => hn (by rw [e]; exact hp (by rw [← e]; exact hk)))).trans (h.block k hk hn)⟩
theorem Turned.alloc (h : Turned w w' T) (o : Obj) : Turned w (w'.alloc o) T :=
  h.trans (Turned.of_grown (World.grownBy_alloc w' o none) (fun _ e => by cases e))
theorem Turned.only_new {B : Nat} {a : World} (h : Below B a w) (k : Turned w w' T) (hB : B ≤ w.heap.size) (hT : ∀ i, T i → B ≤ i) : Below B a w' :=
  ⟨k.os.trans h.os, k.tape.trans h.tape, k.output.trans h.output, Nat.le_trans h.size k.size, fun i hi => (k.block i (Nat.lt_of_lt_of_le hi hB) fun e => by have := hT i e; omega).trans (h.block i hi)⟩
theorem Turned.then_below {B : Nat} (h : Turned w w' T) (k : Below B w' w'') (hB : ∀ i, i < w.heap.size → B ≤ i → T i) : Turned w w'' T :=
  ⟨k.os.trans h.os, k.tape.trans h.tape, k.output.trans h.output, Nat.le_trans h.size k.size, fun i hi hn => (k.block i (by have := hB i hi; rcases Nat.lt_or_ge i B with h | h; exact h; exact absurd (this h) hn)).trans (h.block i hi hn)⟩
theorem Turned.blk {g : Nat} {t : TypeId} {cs : List Value} (h : Turned w w' T) (hb : Blk w g t cs) (hn : ¬ T g) : Blk w' g t cs := (h.block g hb.lt hn).trans hb
theorem Turned.rd {A : Option Addr} {n : Nat} {xs : List UInt8} (t : Turned w w' T) (h : Rd w A n xs) (hn : ∀ a, A = some a → ¬ T a.block) : Rd w' A n xs := by
  refine ⟨h.1, fun h0 => ?_⟩
  obtain ⟨a, e, hc⟩ := h.2 h0
  refine ⟨a, e, fun j hj => ?_⟩
  have hb : (a.add j).block < w.heap.size := World.block_lt_of_cell? w _ (hc j hj)
  rw [World.cell?_of_block (w := w) (t.block _ hb (by rw [add_block]; exact hn a e))]
  exact hc j hj
end

/-! ### many cells at once -/
theorem grown_setCells (b : Nat) : ∀ (vs : List Value) (o : Nat) (w : World), w.grownBy (w.setCells b o vs) (some b) ∧ (w.setCells b o vs).heap.size = w.heap.size
  | [], _, w => ⟨⟨rfl, rfl, rfl, Nat.le_refl _, fun _ _ _ => rfl⟩, rfl⟩
  | v :: r, o, w => by
    obtain ⟨g, hs⟩ := grown_setCells b r (o + 1) (w.setCell ⟨b, o, none⟩ v)
    have h1 : (w.setCell ⟨b, o, none⟩ v).heap.size = w.heap.size := by simp [World.setCell]
    refine ⟨⟨g.os, g.tape, g.output, by rw [← h1]; exact g.size, fun k hk hn => ?_⟩, hs.trans h1⟩
    exact (g.block k (by rw [h1]; exact hk) hn).trans (Below.heap_setCell w ⟨b, o, none⟩ v k (fun e => hn (by rw [e])))
theorem shape_setCells (b : Nat) (t : TypeId) : ∀ (vs : List Value) (o : Nat) (w : World) (cur : Array Value), w.heap[b]? = some (.cells cur t (0, 0)) →
    ∃ cur', (w.setCells b o vs).heap[b]? = some (.cells cur' t (0, 0)) ∧ cur'.size = cur.size
  | [], _, w, cur, h => ⟨cur, h, rfl⟩
  | v :: r, o, w, cur, h => by
    have h1 : (w.setCell ⟨b, o, none⟩ v).heap[b]? = some (.cells (cur.setIfInBounds o v) t (0, 0)) := by simp [World.setCell, Array.getElem?_modify, h]
    obtain ⟨cur', h2, h3⟩ := shape_setCells b t r (o + 1) _ _ h1
    exact ⟨cur', h2, by simpa using h3⟩

end Go.Proofs.Ytcmjgkgdeaiifaa
