/- Dq -/
import Derived.Test.YtblbhhijddcbeaaGreatDoorBDc
import Derived.Test.YtblbhhijddcbeaaGreatDoorBLay
section
/-
 What Cached answers: the keys of the cache, rising.
-/
namespace Go.Proofs.YtblbhhijddcbeaaGreatDoor
open Go.ChangeShapes Go.WideShapes Go.ChangeAt Go.RowKit Go.Maps Go.Sort Go.Shelf
set_option linter.unusedVariables false
theorem keys_facts {b nn : Nat} {D0 : DataW Value} {w : World} (hown : w.ownsMap Tryz.prog 3 valR b nn D0) : (intKeys D0).Nodup ∧ ∀ x, x ∈ intKeys D0 ↔ Maps.has D0 (.int .i64 x) = true := by
 obtain ⟨es, hD, hp, _⟩ := hown.entries keyI; obtain ⟨es', hD', hko⟩ := hown.keysOf; obtain rfl : es = es' := by rw [hD] at hD'; simpa using hD'
 subst hD; have hk : ∀ p ∈ es, ∃ x, p.1 = .int .i64 x := fun p hp => by obtain ⟨v, hv⟩ := hko p hp; obtain ⟨x, _, hx, _⟩ := Maps.keyOf_i64 Tryz.underlying3 hv; exact ⟨x, hx⟩
 refine ⟨?_, fun x => ?_⟩
 · show (es.map fun p => _root_.Go.intOf p.1).Nodup; refine List.pairwise_map.2 (hp.imp_of_mem fun {p q} hp' hq' hne e => hne ?_); obtain ⟨a, ha⟩ := hk p hp'; obtain ⟨b, hb⟩ := hk q hq'; rw [ha, hb] at e ⊢; exact congrArg _ e
 · rw [has_eq, List.any_eq_true]; show x ∈ es.map (fun p => _root_.Go.intOf p.1) ↔ _; rw [List.mem_map]; constructor
   · rintro ⟨p, hp', rfl⟩; obtain ⟨a, ha⟩ := hk p hp'; exact ⟨p, hp', by rw [ha]; simp [Lit.sameKey, _root_.Go.intOf]⟩
   · rintro ⟨p, hp', hs⟩; obtain ⟨a, ha⟩ := hk p hp'; rw [ha] at hs; exact ⟨p, hp', by rw [ha]; simpa [Lit.sameKey, _root_.Go.intOf] using hs⟩
theorem sorted_rising {ss : List Int} (h : ss.Nodup) : (ss.mergeSort (fun x y => decide (x ≤ y))).Pairwise (· < ·) := by
 have h1 := List.pairwise_mergeSort (le := fun x y : Int => decide (x ≤ y)) (fun a b c h1 h2 => by simp only [decide_eq_true_eq] at *; omega) (fun a b => by simp only [Bool.or_eq_true, decide_eq_true_eq]; omega) ss; have h2 : (ss.mergeSort (fun x y => decide (x ≤ y))).Nodup := (List.mergeSort_perm ss _).nodup_iff.2 h; have h3 := h1.and h2; exact h3.imp fun {a b} h => by
  have h4 := h.1; simp only [decide_eq_true_eq] at h4; have h5 : a ≠ b := h.2; omega
end Go.Proofs.YtblbhhijddcbeaaGreatDoor
end
