/- Rows3 -/
import Derived.Test.YtcapcobkildmcaaGreatDoorBBase
import Derived.Deep.Slices
section
namespace Go.Proofs.YtcapcobkildmcaaGreatDoor
open Go.ChangeShapes Go.WideShapes Go.ChangeAt Go.RowKit
set_option linter.unusedVariables false
set_option linter.unusedSimpArgs false
set_option maxRecDepth 100000
set_option maxHeartbeats 16000000
def RdVals (w : World) (A : Option Addr) (n : Nat) (V : Nat → Value) : Prop := 0 < n → ∃ a, A = some a ∧ ∀ i, i < n → w.cell? (a.add i) = some (V i)
section
variable {H : Type} {enc : TypeId × Value → H} {P : Program} {W : World} {t e : TypeId}
theorem opened_nums (ht : P.underlying t = some (.slice e)) (he : P.underlying e = some (.int .i64)) (ce : P.cellsOf e = 1) {A : Option Addr} {n c : Nat} {d : DataW H} {p : List MemPlace} (h : DataW.Trod enc P W 0 (fun _ => true) true t (.slice A n c) d p) :
 n ≤ c ∧ c ≤ maxLen ∧ ∃ Z : Nat → Int, RdVals W A n (fun i => .int .i64 (Z i)) ∧ ∀ i, i < n → (Lit.int .i64 (Z i)).wf = true := by
 obtain ⟨fuel, hf⟩ := h; rcases Go.Deep.open_slice ht hf with ⟨hcs, hx⟩ | ⟨a, len, cap, m, fu, D, Pl, hcs, _, hl, hm, hmm, hx, hr⟩
 · simp [Value.cells] at hcs; obtain ⟨rfl, rfl, rfl⟩ := hcs; exact ⟨Nat.le_refl _, Nat.zero_le _, fun _ => 0, fun h => absurd h (by omega), fun i hi => absurd hi (by omega)⟩
 · simp [Value.cells] at hcs; obtain ⟨rfl, rfl, rfl⟩ := hcs; simp only [if_true] at hmm; subst hmm; have each : ∀ i, ∃ x : Int, i < n → W.cell? (a.add i) = some (.int .i64 x) ∧ (Lit.int .i64 x).wf = true := by
    intro i; by_cases hi : i < n
    · obtain ⟨cs', hc, htr⟩ := hr i (by omega); rw [ce] at hc; obtain ⟨_, hcl, hat⟩ := World.cells?_some hc; obtain ⟨x, e0, _, wx⟩ := DataW.trod_int he htr; subst e0; have h0 := hat 0 (by omega); rw [add_add, Nat.add_zero, Nat.mul_one] at h0; exact ⟨x, fun _ => ⟨h0, wx⟩⟩
    · exact ⟨0, fun h => absurd h hi⟩
   exact ⟨hl, hm, fun i => Classical.choose (each i), fun _ => ⟨a, rfl, fun i hi => (Classical.choose_spec (each i) hi).1⟩, fun i hi => (Classical.choose_spec (each i) hi).2⟩
end
end Go.Proofs.YtcapcobkildmcaaGreatDoor
end
