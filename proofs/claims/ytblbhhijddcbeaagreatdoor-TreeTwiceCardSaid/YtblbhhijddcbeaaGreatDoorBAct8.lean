/- Act8 -/
import Derived.Test.YtblbhhijddcbeaaGreatDoorBPh
import Derived.Deep.Slices
import Derived.Deep.Fields
section
/-
 An argument of type terrierlaw08.Act, opened.
-/
namespace Go.Proofs.YtblbhhijddcbeaaGreatDoor
open Go.ChangeShapes Go.WideShapes Go.ChangeAt Go.RowKit Go.Deep
set_option linter.unusedVariables false
section
variable {H : Type} {enc : TypeId × Value → H} {W : World}
set_option maxRecDepth 100000 in
theorem opened_act8 {r : Reach} {b0 : Nat} {v : Value} {d : DataW H} {p : List MemPlace} (hv : Value.okWide Tryz.prog W r b0 48 v) (h : DataW.Trod enc Tryz.prog W 0 (fun _ => true) true 48 v d p) :
 ∃ (b : Bool) (A : Option Addr) (n c : Nat) (N X : Int), v = .agg #[.bool b, .slice A n c, .int .i64 N, .int .u8 X] := by
 obtain ⟨cs, rfl, hsz⟩ := okWide_struct Tryz.underlying48 hv; obtain ⟨l⟩ := cs; have h4 : l.length = 4 := hsz.trans (by kernel_rfl); obtain ⟨fuel, hf⟩ := h; have hf : DataW.trod enc Tryz.prog W 0 (fun _ => true) true fuel 48 l = some (d, p) := by simpa [Value.cells] using hf
 obtain ⟨xs, m, _, hx, hcl, hxl, hg⟩ := DataW.trod_struct Tryz.underlying48 hf
 match l, h4 with
 | [c0, c1, c2, c3], _ =>
   obtain ⟨x0, e0, _⟩ := DataW.trod_bool Tryz.underlying4 (show DataW.trod enc Tryz.prog W 0 (fun _ => true) true m 4 [c0] = some (xs[0]'(by rw [hxl]; decide)) from (hg 0 _ rfl).trans (List.getElem?_eq_getElem _)); have hs := DataW.trod_slice Tryz.underlying46 (show DataW.trod enc Tryz.prog W 0 (fun _ => true) true m 46 [c1] = some (xs[1]'(by rw [hxl]; decide)) from (hg 1 _ rfl).trans (List.getElem?_eq_getElem _)); obtain ⟨A, n, c, e1⟩ : ∃ A n c, c1 = .slice A n c := by
    rcases hs with ⟨e, _⟩ | ⟨a, len, cap, _, _, _, _, e, _⟩
    · exact ⟨none, 0, 0, by simpa using e⟩
    · exact ⟨some a, len, cap, by simpa using e⟩
   obtain ⟨x2, e2, _, _⟩ := DataW.trod_int Tryz.underlying3 (show DataW.trod enc Tryz.prog W 0 (fun _ => true) true m 3 [c2] = some (xs[2]'(by rw [hxl]; decide)) from (hg 2 _ rfl).trans (List.getElem?_eq_getElem _)); obtain ⟨x3, e3, _, _⟩ := DataW.trod_int Tryz.underlying5 (show DataW.trod enc Tryz.prog W 0 (fun _ => true) true m 5 [c3] = some (xs[3]'(by rw [hxl]; decide)) from (hg 3 _ rfl).trans (List.getElem?_eq_getElem _)); obtain rfl : c0 = .bool x0 := by simpa using e0
   obtain rfl := e1; obtain rfl : c2 = .int .i64 x2 := by simpa using e2
   obtain rfl : c3 = .int .u8 x3 := by simpa using e3
   exact ⟨x0, A, n, c, x2, x3, rfl⟩
end
end Go.Proofs.YtblbhhijddcbeaaGreatDoor
end
