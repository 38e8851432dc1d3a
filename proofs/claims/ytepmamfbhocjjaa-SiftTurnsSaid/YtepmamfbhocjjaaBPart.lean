/-
  Texts laid together: Part Ap.
-/
import Derived.Test.YtepmamfbhocjjaaBRows2
import Derived.Lib.SlBytesConst
import Derived.Lib.ConvBytes
import Derived.Deep.Draws
section
/-
  A row of slices that the call has laid; a literal converted to its own type.
-/
namespace Go.Proofs.Ytepmamfbhocjjaa
open Go.ChangeShapes Go.WideShapes Go.ChangeAt Go.RowKit
set_option linter.unusedVariables false

/-- A row of slices that the call has laid into a new block: where each one lies, its room, its bytes. -/
structure Part where
  at_ : Option Addr
  room : Nat
  xs : List UInt8
def Part.val (p : Part) : Value := .slice p.at_ p.xs.length p.room
def Part.none : Part := ⟨.none, 0, []⟩
theorem rows_new (w : World) (t : TypeId) (f : Nat × Nat) (L : List Part) (h : ∀ p ∈ L, Rd w p.at_ p.xs.length p.xs ∧ p.xs.length ≤ p.room) :
    RdRows (w.alloc (.cells (L.map Part.val).toArray t f)) (some ⟨w.heap.size, 0, none⟩) L.length (fun i => (L.getD i .none).at_) (fun i => (L.getD i .none).room) (fun i => (L.getD i .none).xs) := by
  refine ⟨fun _ => ⟨_, rfl, fun i hi => ?_⟩, fun i hi => ?_, fun i hi => ?_⟩
  · have hadd : (⟨w.heap.size, 0, none⟩ : Addr).add i = ⟨w.heap.size, i, none⟩ := by unfold Addr.add; split <;> simp_all
    rw [hadd, cell_of_row _ w.heap.size i (L.map Part.val).toArray t f (heap_alloc_new w _)]
    simp [hi, Part.val]
  · have := (h (L[i]) (List.getElem_mem hi)).1.alloc (.cells (L.map Part.val).toArray t f)
    simpa [hi] using this
  · have := (h (L[i]) (List.getElem_mem hi)).2
    simpa [hi] using this
theorem conv_lit (w : World) (C : Array Value) (n c : Nat) : (convert 22 22 (.slice (some ⟨w.heap.size, 0, none⟩) n c)).run Try.prog (w.alloc (.cells C 5)) = .ok (.slice (some ⟨w.heap.size, 0, none⟩) n c) (w.alloc (.cells C 5 (C.size, C.size + 1))) :=
  Lib.run_convert_bytes_const (P := Try.prog) w 22 5 C n c Try.underlying22 Try.underlying5
theorem Rd.marked (W : World) (t : TypeId) (xs : List UInt8) (f : Nat × Nat) : Rd (W.alloc (.cells (cellsOf xs).toArray t f)) (some ⟨W.heap.size, 0, none⟩) xs.length xs := by
  refine ⟨rfl, fun _ => ⟨_, rfl, fun j hj => ?_⟩⟩
  have hadd : (⟨W.heap.size, 0, none⟩ : Addr).add j = ⟨W.heap.size, j, none⟩ := by unfold Addr.add; split <;> simp_all
  rw [hadd, cell_of_row _ W.heap.size j (cellsOf xs).toArray t f (heap_alloc_new W _)]
  simpa using cellsOf_get xs j hj
theorem bel_to {w w1 w2 : World} (h : Below w1.heap.size w1 w2) (hb : Below w.heap.size w w1) : Below w.heap.size w w2 := hb.trans (h.mono hb.size)
/-- What was there reads as it did. -/
def Keeps (w w' : World) : Prop := w.heap.size ≤ w'.heap.size ∧ ∀ p : Addr, p.block < w.heap.size → w'.cell? p = w.cell? p
theorem Keeps.refl (w : World) : Keeps w w := ⟨Nat.le_refl _, fun _ _ => rfl⟩
theorem Keeps.trans {a b c : World} (h : Keeps a b) (k : Keeps b c) : Keeps a c := ⟨Nat.le_trans h.1 k.1, fun p hp => (k.2 p (Nat.lt_of_lt_of_le hp h.1)).trans (h.2 p hp)⟩
theorem Keeps.alloc (w : World) (o : Obj) : Keeps w (w.alloc o) := ⟨by simp, fun p hp => World.cell?_alloc_lt w o p hp⟩
theorem Keeps.of_below {w w' : World} (h : Below w.heap.size w w') : Keeps w w' := ⟨h.size, fun p hp => h.cell hp⟩
theorem Keeps.drewN (w : World) (q : Nat) : Keeps w (w.drewN q) := ⟨Nat.le_refl _, fun _ _ => rfl⟩
theorem Keeps.drew (w : World) : Keeps w w.drew := ⟨Nat.le_refl _, fun _ _ => rfl⟩
theorem Keeps.cell_ {w w' : World} (h : Keeps w w') {p : Addr} {v : Value} (hc : w.cell? p = some v) : w'.cell? p = some v := (h.2 p (World.block_lt_of_cell? w _ hc)).trans hc
theorem Rd.keeps {w w' : World} {A : Option Addr} {n : Nat} {xs : List UInt8} (h : Rd w A n xs) (k : Keeps w w') : Rd w' A n xs := h.keep k.2
theorem bytesWorld_below_ (w : World) (e : TypeId) (s : ByteArray) : Below w.heap.size w (Lib.bytesWorld w e s) :=
  ⟨rfl, rfl, rfl, by rw [Lib.bytesWorld_size]; omega, fun j hj => Lib.bytesWorld_at_old w e s j hj⟩
theorem bytesWorld_rd (w : World) (e : TypeId) (s : ByteArray) : Rd (Lib.bytesWorld w e s) (some ⟨w.heap.size, 0, none⟩) s.size s.data.toList := by
  refine ⟨by simp, fun _ => ⟨_, rfl, fun j h => ?_⟩⟩
  have h0 : j < s.size := by have h := h; rw [Array.length_toList] at h; exact h
  have h1 := Lib.bytesWorld_cell w e s j h0
  rw [show (⟨w.heap.size, 0, none⟩ : Addr).add j = ⟨w.heap.size, j, none⟩ from by unfold Addr.add; split <;> simp_all, h1]
  have h2 : s.data.toList.getD j 0 = s.data.toList[j] := by rw [List.getD_eq_getElem?_getD, List.getElem?_eq_getElem h]; rfl
  rw [h2]
  rfl
theorem name_world {K : Act → World → Prop} {a : Act} {w : World} (h : ∀ W, W = w → K a W) : K a w := h w rfl
end Go.Proofs.Ytepmamfbhocjjaa
end

section
/-
  A slice of bytes apart from a block: what stands there reads on while nothing but that block, and what is new, turns. No program is named.
-/
namespace Go.Proofs.Ytepmamfbhocjjaa
open Go.ChangeShapes Go.WideShapes Go.ChangeAt Go.RowKit
set_option linter.unusedVariables false
/-- The bytes of a slice of bytes lie apart from block g. -/
def apartA (A : Option Addr) (n g : Nat) : Prop := ∀ a, A = some a → 0 < n → a.block ≠ g
theorem Rd.fresh {w : World} {A : Option Addr} {n g : Nat} {xs : List UInt8} (h : Rd w A n xs) (hg : w.heap.size ≤ g) : apartA A n g := fun a e h0 => by
  obtain ⟨b, e', hb⟩ := h.lt h0
  rw [e] at e'
  obtain rfl := Option.some.inj e'
  omega
theorem Rd.grown {w w' : World} {A : Option Addr} {n g : Nat} {xs : List UInt8} (h : Rd w A n xs) (ha : apartA A n g) (hg : w.grownBy w' (some g)) : Rd w' A n xs := by
  refine ⟨h.1, fun h0 => ?_⟩
  obtain ⟨a, e, hc⟩ := h.2 h0
  refine ⟨a, e, fun j hj => ?_⟩
  have hb : (a.add j).block < w.heap.size := World.block_lt_of_cell? w _ (hc j hj)
  rw [World.cell?_of_block (w := w) (hg.block _ hb (fun e' => ha a e h0 (by rw [add_block] at e'; exact (Option.some.inj e'))))]
  exact hc j hj
end Go.Proofs.Ytepmamfbhocjjaa
end
