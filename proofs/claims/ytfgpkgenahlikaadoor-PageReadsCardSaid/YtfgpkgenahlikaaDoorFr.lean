/-
  What is read of bytes that stand one behind the other. No program is named.
-/
import Derived.Test.YtfgpkgenahlikaaDoorRg
namespace Go.Proofs.YtfgpkgenahlikaaDoor
open Go.ChangeShapes Go.WideShapes Go.ChangeAt Go.RowKit
set_option linter.unusedVariables false
set_option linter.unusedSimpArgs false

/-- From pos on there stands zs. -/
def Fro (ys : List UInt8) (pos : Nat) (zs : List UInt8) : Prop := ys.drop pos = zs ∧ pos ≤ ys.length
theorem Fro.skip {ys zs xs : List UInt8} {pos k : Nat} (h : Fro ys pos (xs ++ zs)) (hk : xs.length = k) : Fro ys (pos + k) zs ∧ part ys pos k = xs ∧ pos + k ≤ ys.length := by
  subst hk
  have hl := congrArg List.length h.1
  rw [List.length_drop, List.length_append] at hl
  have hp := h.2
  refine ⟨⟨?_, by omega⟩, ?_, by omega⟩
  · rw [← List.drop_drop, h.1, List.drop_left]
  · unfold part
    rw [h.1, List.take_left]
theorem Fro.num {ys zs : List UInt8} {pos k v : Nat} (h : Fro ys pos (be v k ++ zs)) (hv : v < 256 ^ k) : rnum ys k (pos, 0) = (v, (pos + k, 0)) ∧ Fro ys (pos + k) zs := by
  obtain ⟨h1, h2, h3⟩ := h.skip (be_length v k)
  refine ⟨?_, h1⟩
  unfold rnum
  simp only [ne_eq, not_true_eq_false, if_false, h3, if_true, h2, num_be v k hv]
theorem Fro.bytes {ys zs b : List UInt8} {pos k : Nat} (h : Fro ys pos (b ++ zs)) (hk : b.length = k) : rbytes ys k (pos, 0) = (b, (pos + k, 0)) ∧ Fro ys (pos + k) zs := by
  obtain ⟨h1, h2, h3⟩ := h.skip hk
  refine ⟨?_, h1⟩
  unfold rbytes
  simp only [ne_eq, not_true_eq_false, if_false, h3, if_true, h2]
end Go.Proofs.YtfgpkgenahlikaaDoor
