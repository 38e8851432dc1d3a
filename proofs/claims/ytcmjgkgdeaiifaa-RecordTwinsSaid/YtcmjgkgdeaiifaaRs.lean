/-
  A reader beside a struct under way: what a store into the struct leaves.
-/
import Derived.Test.YtcmjgkgdeaiifaaRg
namespace Go.Proofs.Ytcmjgkgdeaiifaa
open Go.ChangeShapes Go.WideShapes Go.ChangeAt Go.RowKit
set_option linter.unusedVariables false
section
variable {w w' w0 : World} {r g : Nat} {A : Option Addr} {n c : Nat} {xs : List UInt8} {s : Rst} {t : TypeId} {cs : List Value}
theorem Blk.only (h : Blk w g t cs) (k : Only w w' r) (hne : g ≠ r) : Blk w' g t cs := (k.block g h.lt (fun e => hne (Option.some.inj e))).trans h
theorem RS.set_ (h : RS w r A n c xs s) (hg : r ≠ g) (ha : apartA A n g) (i : Nat) (u : Value) : RS (w.setCell ⟨g, i, none⟩ u) r A n c xs s :=
  ⟨⟨h.1.1.far hg u, h.1.2.grown ha ((Only.refl w g).setCell i u)⟩, h.2⟩
theorem RS.apart (h : RS w r A n c xs s) (hg : w.heap.size ≤ g) : apartA A n g := h.1.2.fresh hg
theorem RS.alloc (h : RS w r A n c xs s) (o : Obj) : RS (w.alloc o) r A n c xs s := h.below ((Below.refl _ _).alloc (Nat.le_refl _) o)
theorem Rd.only (h : Rd w A n xs) (ha : apartA A n r) (k : Only w w' r) : Rd w' A n xs := h.grown ha k
end
end Go.Proofs.Ytcmjgkgdeaiifaa
