/-
  Plain words on a list of pages that were written, and how the document's own disk goes with the other. No program is named but by its types.
-/
import Derived.Test.YtfmljiidgaoihaaRfa
namespace Go.Proofs.Ytfmljiidgaoihaa
open Go.ChangeShapes Go.WideShapes Go.ChangeAt Go.RowKit
set_option linter.unusedVariables false

def rfind (l : List (Int × List UInt8)) (p : Int) : Option (List UInt8) := (l.find? (fun e => e.1 == p)).map (·.2)
theorem rfind_cons (e : Int × List UInt8) (l : List (Int × List UInt8)) (p : Int) : rfind (e :: l) p = if e.1 = p then some e.2 else rfind l p := by
  unfold rfind
  rw [List.find?_cons]
  by_cases h : e.1 = p
  · simp [h]
  · have : (e.1 == p) = false := by simpa using h
    rw [this, if_neg h]
theorem first_ix (l : List (Int × List UInt8)) (p : Int) :
    (∃ i, ∃ hi : i < l.length, l[i].1 = p ∧ (∀ j (hj : j < l.length), j < i → l[j].1 ≠ p) ∧ rfind l p = some l[i].2) ∨ ((∀ j (hj : j < l.length), l[j].1 ≠ p) ∧ rfind l p = none) := by
  induction l with
  | nil => exact .inr ⟨fun j hj => absurd hj (by simp), rfl⟩
  | cons e l ih =>
    rw [rfind_cons]
    by_cases h : e.1 = p
    · exact .inl ⟨0, by simp, h, fun j hj h0 => absurd h0 (by omega), by rw [if_pos h]; rfl⟩
    · rw [if_neg h]
      rcases ih with ⟨i, hi, h1, h2, h3⟩ | ⟨h1, h2⟩
      · refine .inl ⟨i + 1, by simpa using hi, h1, fun j hj hji => ?_, h3⟩
        cases j with
        | zero => exact h
        | succ j => exact h2 j (by simpa using hj) (by omega)
      · refine .inr ⟨fun j hj => ?_, h2⟩
        cases j with
        | zero => exact h
        | succ j => exact h1 j (by simpa using hj)
theorem rfind_set (l : List (Int × List UInt8)) (p : Int) (xs : List UInt8) (i : Nat) (hi : i < l.length) (hk : l[i].1 = p) (hf : ∀ j (hj : j < l.length), j < i → l[j].1 ≠ p) (y : Int) :
    rfind (l.set i (p, xs)) y = if y = p then some xs else rfind l y := by
  induction l generalizing i with
  | nil => simp at hi
  | cons e l ih =>
    cases i with
    | zero =>
      have hk' : e.1 = p := hk
      rw [List.set_cons_zero, rfind_cons, rfind_cons]
      by_cases hy : y = p
      · subst hy; simp
      · rw [if_neg hy, if_neg (fun h => hy h.symm), if_neg (fun h => hy (by rw [← h, hk']))]
    | succ i =>
      rw [List.set_cons_succ, rfind_cons, rfind_cons, ih i (by simpa using hi) hk (fun j hj hji => hf (j + 1) (by simpa using hj) (by omega))]
      have h0 := hf 0 (by simp) (by omega)
      have h0' : e.1 ≠ p := h0
      by_cases hy : y = p
      · subst hy; rw [if_neg h0', if_pos rfl, if_pos rfl]
      · rw [if_neg hy]; simp only [hy, if_false]
theorem rfind_append (l : List (Int × List UInt8)) (p : Int) (xs : List UInt8) (hf : ∀ j (hj : j < l.length), l[j].1 ≠ p) (y : Int) : rfind (l ++ [(p, xs)]) y = if y = p then some xs else rfind l y := by
  induction l with
  | nil =>
    rw [List.nil_append, rfind_cons]
    by_cases hy : y = p
    · subst hy; simp
    · rw [if_neg hy, if_neg (fun h => hy h.symm)]
  | cons e l ih =>
    rw [List.cons_append, rfind_cons, rfind_cons, ih (fun j hj => hf (j + 1) (by simpa using hj))]
    have h0 : e.1 ≠ p := hf 0 (by simp)
    by_cases hy : y = p
    · subst hy; rw [if_neg h0, if_pos rfl, if_pos rfl]
    · rw [if_neg hy]; simp only [hy, if_false]
theorem rfind_mem (l : List (Int × List UInt8)) (y : Int) : (rfind l y).isSome = true ↔ ∃ j, ∃ hj : j < l.length, l[j].1 = y := by
  rcases first_ix l y with ⟨i, hi, h1, _, h3⟩ | ⟨h1, h2⟩
  · rw [h3]; exact ⟨fun _ => ⟨i, hi, h1⟩, fun _ => rfl⟩
  · rw [h2]; exact ⟨fun h => (by cases h), fun ⟨j, hj, e⟩ => absurd e (h1 j hj)⟩

/-- The document's own disk goes with a disk. -/
structure Sim (S : St) (R : RSt) : Prop where
  pages : R.pages = S.pages
  done : R.done = S.done
  keys : (R.cache.map (·.1)).Nodup
  cache : ∀ y, rfind R.cache y = S.cache y
  dead : R.dead = decide (S.fuse = 0)
  fuse : S.fuse ≠ 0 → R.fuse = S.fuse
  lo : -1 ≤ R.fuse
  hi : R.fuse ≤ 9223372036854775807
  few : R.cache.length ≤ R.done
theorem Sim.hasE {S : St} {R : RSt} (h : Sim S R) (p : Int) : rhasE R p = if S.fuse = 0 then 10 else if p < 0 ∨ (S.pages.length : Int) ≤ p then 2 else 0 := by
  unfold rhasE
  rw [h.dead, h.pages]
  simp
theorem Sim.did {S : St} {R : RSt} (h : Sim S R) (hf : S.fuse ≠ 0) : Sim S.count R.did := by
  have hfu := h.fuse hf
  have hd : R.dead = false := by rw [h.dead]; simp [hf]
  refine ⟨h.pages, by show R.done + 1 = S.done + 1; rw [h.done], h.keys, h.cache, ?_, ?_, ?_, ?_, Nat.le_succ_of_le h.few⟩
  · show (if R.fuse = 1 then true else R.dead) = decide ((if 0 < S.fuse then S.fuse - 1 else S.fuse) = 0)
    rw [hfu, hd]
    by_cases h1 : S.fuse = 1
    · simp [h1]
    · by_cases h0 : 0 < S.fuse
      · simp only [h1, h0, if_true, if_false]; simp; omega
      · simp only [h1, h0, if_false]; simp [hf]
  · intro h1
    show (if 0 < R.fuse then R.fuse - 1 else R.fuse) = (if 0 < S.fuse then S.fuse - 1 else S.fuse)
    rw [hfu]
  · show -1 ≤ (if 0 < R.fuse then R.fuse - 1 else R.fuse)
    have := h.lo
    split <;> omega
  · show (if 0 < R.fuse then R.fuse - 1 else R.fuse) ≤ _
    have := h.hi
    split <;> omega
theorem Sim.set {S : St} {R : RSt} (h : Sim S R) {n : Int} (hn : n ≤ 9223372036854775807) : Sim (S.tryFuse n) { R with fuse := if n < 0 then -1 else n, dead := if n = 0 then true else R.dead } := by
  unfold St.tryFuse
  by_cases hf : S.fuse = 0
  · rw [if_pos hf]
    refine ⟨h.pages, h.done, h.keys, h.cache, ?_, fun h1 => absurd hf h1, ?_, ?_, h.few⟩
    · show (if n = 0 then true else R.dead) = _
      rw [h.dead, hf]; simp
    · show -1 ≤ (if n < 0 then -1 else n); split <;> omega
    · show (if n < 0 then -1 else n) ≤ _; split <;> omega
  · rw [if_neg hf]
    have hd : R.dead = false := by rw [h.dead]; simp [hf]
    refine ⟨h.pages, h.done, h.keys, h.cache, ?_, fun _ => ?_, ?_, ?_, h.few⟩
    · show (if n = 0 then true else R.dead) = decide (fuseOf n = 0)
      rw [hd]; unfold fuseOf
      by_cases h0 : n = 0
      · subst h0; simp
      · rw [if_neg h0]
        split
        · simp
        · simp [h0]
    · show (if n < 0 then -1 else n) = fuseOf n
      unfold fuseOf
      split <;> split <;> omega
    · show -1 ≤ (if n < 0 then -1 else n); split <;> omega
    · show (if n < 0 then -1 else n) ≤ _; split <;> omega
theorem Sim.find {S : St} {R : RSt} (h : Sim S R) {p : Nat} (hp : p < S.pages.length) : ((rfind R.cache (p : Int)).getD (R.pages.getD p [])) = S.page (p : Int) := by
  rw [h.cache, h.pages]
  unfold St.page
  rw [Int.toNat_natCast]
end Go.Proofs.Ytfmljiidgaoihaa
