/-
  Texts laid together: Opn.
-/
import Derived.Test.YtepmamfbhocjjaaBPart
import Derived.Deep.Slices
import Derived.Deep.Fields
import Derived.SizedLaws
section
/-
  What came in, opened, all slices in it within the form's own reach: a struct's fields, a slice of bytes, a number.
-/
namespace Go.Proofs.Ytepmamfbhocjjaa
open Go.ChangeShapes Go.WideShapes Go.ChangeAt Go.RowKit Go.Deep
set_option linter.unusedVariables false

section
variable {H : Type} {enc : TypeId × Value → H} {W : World} {fuel : Nat}
abbrev Tr (enc : TypeId × Value → H) (W : World) (fuel : Nat) (t : TypeId) (v : Value) (y : DataW H × List MemPlace) : Prop := DataW.trod enc Try.prog W 0 (fun _ => true) true fuel t [v] = some y
/-- All slices in it are within the form's own reach. -/
def Wt (d : DataW H) (t : TypeId) : Prop := ∀ n ∈ d.weights Try.prog t, n ≤ reachBytes
theorem wt_all {e : TypeId} : ∀ (es : List (DataW H)) (i : Nat) (d : DataW H), es[i]? = some d → ∀ n ∈ d.weights Try.prog e, n ∈ DataW.weightsAll Try.prog e es
  | x :: r, 0, d, h, n, hn => by
    obtain rfl := Option.some.inj h
    simp [DataW.weightsAll, hn]
  | x :: r, i + 1, d, h, n, hn => by
    have := wt_all r i d (by simpa using h) n hn
    simp [DataW.weightsAll, this]
  | [], i, d, h, n, hn => by simp at h
theorem wt_slice {t e : TypeId} {es sp : List (DataW H)} (ht : Try.prog.underlying t = some (.slice e)) (h : Wt (.slice es sp) t) : es.length * Try.prog.bytesOf e ≤ reachBytes ∧ ∀ (i : Nat) (d : DataW H), es[i]? = some d → Wt d e := by
  refine ⟨?_, fun i d hd n hn => h n ?_⟩
  · have := h ((es.length + sp.length) * Try.prog.bytesOf e) (by simp [DataW.weights, ht])
    rw [Nat.add_mul] at this
    omega
  · simp only [DataW.weights, ht, List.mem_cons, List.mem_append]
    exact .inr (.inl (wt_all es i d hd n hn))
theorem wt_struct {t : TypeId} {fs : Array Field} {ps : List (DataW H)} (ht : Try.prog.underlying t = some (.struct fs)) (h : Wt (.agg ps) t) {j : Nat} {f : Field} {d : DataW H} (hf : fs[j]? = some f) (hd : ps[j]? = some d) : Wt d f.type := fun n hn => h n (by
  simp only [DataW.weights, ht]
  exact DataW.weights_mem_each (j := j) (t := f.type) (d := d) (by simp [hf]) hd n hn)
theorem reach47 {n m : Nat} (h : n * m ≤ reachBytes) (hm : 1 ≤ m) : n ≤ 140737488351232 := by
  have : n * 1 ≤ n * m := Nat.mul_le_mul_left n hm
  simp only [reachBytes] at h
  omega
theorem bytes_of {v : Value} {y : DataW H × List MemPlace} (hw : Wt y.1 22) (h : Tr enc W fuel 22 v y) : ∃ (A : Option Addr) (n c : Nat) (xs : List UInt8), v = .slice A n c ∧ Rd W A n xs ∧ n ≤ c ∧ n ≤ 140737488351232 := by
  have h' : DataW.trod enc Try.prog W 0 (fun _ => true) true fuel 22 [v] = some y := h
  rcases open_ints Try.underlying22 Try.underlying5 (by kernel_rfl) h' with ⟨hcs, _⟩ | ⟨a, len, cap, zs, hcs, _, hl0, _, hz0, hy, _⟩
  · obtain rfl : v = .slice none 0 0 := by simpa using hcs
    exact ⟨none, 0, 0, [], rfl, Rd.nil_ _ _, Nat.le_refl _, Nat.zero_le _⟩
  · obtain rfl : v = .slice (some a) len cap := by simpa using hcs
    obtain ⟨xs, hr, h1, h2, _⟩ := opened_bytes (A := some a) (n := len) (c := cap) Try.underlying22 Try.underlying5 (by kernel_rfl) ⟨fuel, h'⟩
    rw [hy] at hw
    have h3 := (wt_slice Try.underlying22 hw).1
    simp only [if_true] at hz0
    have h4 : (lits (H := H) IntKind.u8 (zs.take len)).length = len := by simp [lits]; omega
    rw [h4] at h3
    exact ⟨some a, len, cap, xs, rfl, hr, h1, reach47 h3 (by rw [show Try.prog.bytesOf 5 = 1 by kernel_rfl]; omega)⟩
theorem int_of {v : Value} {y : DataW H × List MemPlace} (h : Tr enc W fuel 3 v y) : ∃ x : Int, v = .int .i64 x := by
  obtain ⟨x, e, _, _⟩ := DataW.trod_int Try.underlying3 h
  exact ⟨x, by simpa using e⟩
theorem fields_of {t : TypeId} {fs : Array Field} (hs : Try.prog.underlying t = some (.struct fs)) (hone : oneCellFields Try.prog fs = true) {cs : List Value} {x : DataW H × List MemPlace} (hw : Wt x.1 t) (h : DataW.trod enc Try.prog W 0 (fun _ => true) true fuel t cs = some x) :
    ∃ m, ∀ (j : Nat) (f : Field) (hj : j < cs.length), fs[j]? = some f → ∃ y : DataW H × List MemPlace, Wt y.1 f.type ∧ Tr enc W m f.type cs[j] y := by
  obtain ⟨xs, m, _, hx, hcl, hxl, hg⟩ := DataW.trod_struct hs h
  rw [hx] at hw
  refine ⟨m, fun j f hj hf => ?_⟩
  obtain ⟨ho, hk⟩ := hone_of hone j f hf
  have hjf : j < fs.size := (Array.getElem?_eq_some_iff.1 hf).1
  have h1 := hg j f hf
  rw [ho, hk] at h1
  have e : (cs.drop j).take 1 = [cs[j]] := by
    rw [List.drop_eq_getElem_cons hj]
    rfl
  rw [e] at h1
  exact ⟨xs[j]'(by omega), wt_struct hs hw hf (by simp [show j < xs.length by omega]), h1.trans (List.getElem?_eq_getElem (by omega))⟩
theorem i64_of {v : Value} {y : DataW H × List MemPlace} (h : Tr enc W fuel 2 v y) : ∃ x : Int, v = .int .i64 x ∧ -9223372036854775808 ≤ x ∧ x ≤ 9223372036854775807 := by
  obtain ⟨x, e, _, hw⟩ := DataW.trod_int Try.underlying2 h
  have hr : -9223372036854775808 ≤ x ∧ x ≤ 9223372036854775807 := by simpa [Lit.wf, IntKind.min, IntKind.max, IntKind.signed, IntKind.bits] using hw
  exact ⟨x, by simpa using e, hr⟩
end
end Go.Proofs.Ytepmamfbhocjjaa
end
