/-
  An argument of type meta.Meta, opened.
-/
import Derived.Test.YtfgpkgenahlikaaDoorMa
import Derived.Deep.Slices
import Derived.Deep.Fields
namespace Go.Proofs.YtfgpkgenahlikaaDoor
open Go.ChangeShapes Go.WideShapes Go.ChangeAt Go.RowKit Go.Deep
set_option linter.unusedVariables false

section
variable {H : Type} {enc : TypeId × Value → H} {W : World}
set_option maxRecDepth 100000 in
theorem opened_meta {r : Reach} {b0 : Nat} {v : Value} {d : DataW H} {p : List MemPlace} (hv : Value.okWide Tryd.prog W r b0 50 v) (h : DataW.Trod enc Tryd.prog W 0 (fun _ => true) true 50 v d p) : ∃ m : Mt, v = m.val ∧ m.txn < 18446744073709551616 := by
  obtain ⟨cs, rfl, hsz⟩ := okWide_struct Tryd.underlying50 hv
  obtain ⟨l⟩ := cs
  have h4 : l.length = 4 := hsz.trans (by kernel_rfl)
  obtain ⟨fuel, hf⟩ := h
  have hf : DataW.trod enc Tryd.prog W 0 (fun _ => true) true fuel 50 l = some (d, p) := by simpa [Value.cells] using hf
  obtain ⟨xs, m, _, hx, hcl, hxl, hg⟩ := DataW.trod_struct Tryd.underlying50 hf
  match l, h4 with
  | [c0, c1, c2, c3], _ =>
    obtain ⟨x0, e0, _, hw⟩ := DataW.trod_int Tryd.underlying22 (show DataW.trod enc Tryd.prog W 0 (fun _ => true) true m 22 [c0] = some (xs[0]'(by rw [hxl]; decide)) from (hg 0 _ rfl).trans (List.getElem?_eq_getElem _))
    obtain ⟨x1, e1, _, _⟩ := DataW.trod_int Tryd.underlying3 (show DataW.trod enc Tryd.prog W 0 (fun _ => true) true m 3 [c1] = some (xs[1]'(by rw [hxl]; decide)) from (hg 1 _ rfl).trans (List.getElem?_eq_getElem _))
    obtain ⟨x2, e2, _, _⟩ := DataW.trod_int Tryd.underlying3 (show DataW.trod enc Tryd.prog W 0 (fun _ => true) true m 3 [c2] = some (xs[2]'(by rw [hxl]; decide)) from (hg 2 _ rfl).trans (List.getElem?_eq_getElem _))
    obtain ⟨x3, e3, _, _⟩ := DataW.trod_int Tryd.underlying3 (show DataW.trod enc Tryd.prog W 0 (fun _ => true) true m 3 [c3] = some (xs[3]'(by rw [hxl]; decide)) from (hg 3 _ rfl).trans (List.getElem?_eq_getElem _))
    have hr : 0 ≤ x0 ∧ x0 ≤ 18446744073709551615 := by simpa [Lit.wf, IntKind.min, IntKind.max, IntKind.signed, IntKind.bits] using hw
    obtain rfl : c0 = .int .u64 x0 := by simpa using e0
    obtain rfl : c1 = .int .i64 x1 := by simpa using e1
    obtain rfl : c2 = .int .i64 x2 := by simpa using e2
    obtain rfl : c3 = .int .i64 x3 := by simpa using e3
    exact ⟨⟨x0.toNat, x1, x2, x3⟩, by rw [Mt.val, show ((x0.toNat : Nat) : Int) = x0 by omega], by show x0.toNat < _; omega⟩
end
end Go.Proofs.YtfgpkgenahlikaaDoor
