/-
  Texts laid together: Rows2.
-/
import Derived.Test.YtepmamfbhocjjaaBBase
import Derived.Deep.Matrix
import Derived.Deep.Slices
section
/-
  Plain words for a slice of rows of bytes and a slice of pairs of numbers that came in, opened to cells; no program is named.
-/
namespace Go.Proofs.Ytepmamfbhocjjaa
open Go.ChangeShapes Go.WideShapes Go.ChangeAt Go.RowKit

/-- The slice at A of n slices of bytes: the i-th one lies at B i, with room C i, and reads as X i. -/
structure RdRows (w : World) (A : Option Addr) (n : Nat) (B : Nat → Option Addr) (C : Nat → Nat) (X : Nat → List UInt8) : Prop where
  cell : 0 < n → ∃ a, A = some a ∧ ∀ i, i < n → w.cell? (a.add i) = some (.slice (B i) (X i).length (C i))
  row : ∀ i, i < n → Rd w (B i) (X i).length (X i)
  room : ∀ i, i < n → (X i).length ≤ C i

theorem opened_rows {H : Type} {enc : TypeId × Value → H} {P : Program} {W : World} {t e q : TypeId} (ht : P.underlying t = some (.slice e)) (he : P.underlying e = some (.slice q)) (hq : P.underlying q = some (.int .u8)) (ce : P.cellsOf e = 1) (cq : P.cellsOf q = 1)
    {A : Option Addr} {n c : Nat} {d : DataW H} {p : List MemPlace} (h : DataW.Trod enc P W 0 (fun _ => true) true t (.slice A n c) d p) :
    n ≤ c ∧ c ≤ maxLen ∧ ∃ B C X, RdRows W A n B C X := by
  obtain ⟨fuel, hf⟩ := h
  rcases Go.Deep.open_int_rows ht he hq ce cq hf with ⟨hcs, hx⟩ | ⟨a, len, cap, B, L, C, Z, hcs, _, hl, hm, hx, hr⟩
  · simp [Value.cells] at hcs
    obtain ⟨rfl, rfl, rfl⟩ := hcs
    exact ⟨Nat.le_refl _, Nat.zero_le _, fun _ => none, fun _ => 0, fun _ => [], ⟨fun h => absurd h (by omega), fun i hi => absurd hi (by omega), fun i hi => absurd hi (by omega)⟩⟩
  · simp [Value.cells] at hcs
    obtain ⟨rfl, rfl, rfl⟩ := hcs
    have hlen : ∀ i, i < n → (((Z i).take (L i)).map fun z => UInt8.ofNat z.toNat).length = L i := fun i hi => by
      obtain ⟨_, h1, _, h2, _⟩ := hr i (by omega)
      simp
      omega
    refine ⟨hl, hm, B, C, fun i => ((Z i).take (L i)).map fun z => UInt8.ofNat z.toNat, ⟨fun _ => ⟨a, rfl, fun i hi => ?_⟩, fun i hi => ⟨rfl, fun hn => ?_⟩, fun i hi => ?_⟩⟩
    · rw [hlen i hi]; exact (hr i (by omega)).1
    · obtain ⟨_, h1, _, h2, h3, h4, h5⟩ := hr i (by omega)
      rw [hlen i hi] at hn
      cases hB : B i with
      | none => have := h4 hB; omega
      | some b =>
        refine ⟨b, rfl, fun j hj => ?_⟩
        rw [hlen i hi] at hj
        rw [(h5 b hB).2 j (by omega)]
        have hjz : j < (Z i).length := by omega
        have hw := h3 ((Z i)[j]'hjz) (List.getElem_mem _)
        have hrange : 0 ≤ (Z i)[j]'hjz ∧ (Z i)[j]'hjz ≤ 255 := by simpa [Lit.wf, IntKind.min, IntKind.max, IntKind.signed, IntKind.bits] using hw
        simp only [byteV, List.getElem_map, List.getElem_take, UInt8.toNat_ofNat']
        rw [List.getD_eq_getElem?_getD, List.getElem?_eq_getElem hjz]
        simp only [Option.getD_some, Option.some.injEq, Value.int.injEq, true_and]
        omega
    · rw [hlen i hi]; exact (hr i (by omega)).2.1

/-- The slice at A of n pairs of ints. -/
structure RdPairs (w : World) (A : Option Addr) (n : Nat) (K N : Nat → Int) : Prop where
  cell : 0 < n → ∃ a, A = some a ∧ ∀ i, i < n → w.cell? (a.add (i * 2)) = some (.int .i64 (K i)) ∧ w.cell? (a.add (i * 2 + 1)) = some (.int .i64 (N i))
  fits : ∀ i, i < n → (Lit.int .i64 (K i)).wf = true ∧ (Lit.int .i64 (N i)).wf = true

theorem opened_pairs {H : Type} {enc : TypeId × Value → H} {P : Program} {W : World} {t e : TypeId} {f0 f1 : Field} (ht : P.underlying t = some (.slice e)) (he : P.underlying e = some (.struct #[f0, f1])) (ce : P.cellsOf e = 2)
    (k0 : P.underlying f0.type = some (.int .i64)) (k1 : P.underlying f1.type = some (.int .i64)) (c0 : P.cellsOf f0.type = 1) (c1 : P.cellsOf f1.type = 1) (o0 : f0.offset = 0) (o1 : f1.offset = 1)
    {A : Option Addr} {n c : Nat} {d : DataW H} {p : List MemPlace} (h : DataW.Trod enc P W 0 (fun _ => true) true t (.slice A n c) d p) :
    n ≤ c ∧ c ≤ maxLen ∧ ∃ K N, RdPairs W A n K N := by
  obtain ⟨fuel, hf⟩ := h
  rcases Go.Deep.open_slice ht hf with ⟨hcs, hx⟩ | ⟨a, len, cap, m, fu, D, Pl, hcs, _, hl, hm, hmm, hx, hr⟩
  · simp [Value.cells] at hcs
    obtain ⟨rfl, rfl, rfl⟩ := hcs
    exact ⟨Nat.le_refl _, Nat.zero_le _, fun _ => 0, fun _ => 0, ⟨fun h => absurd h (by omega), fun i hi => absurd hi (by omega)⟩⟩
  · simp [Value.cells] at hcs
    obtain ⟨rfl, rfl, rfl⟩ := hcs
    simp only [if_true] at hmm
    subst hmm
    have each : ∀ i, i < n → ∃ x y : Int, W.cell? (a.add (i * 2)) = some (.int .i64 x) ∧ W.cell? (a.add (i * 2 + 1)) = some (.int .i64 y) ∧ (Lit.int .i64 x).wf = true ∧ (Lit.int .i64 y).wf = true := by
      intro i hi
      obtain ⟨cs', hc, htr⟩ := hr i (by omega)
      rw [ce] at hc
      obtain ⟨_, hcl, hat⟩ := World.cells?_some hc
      obtain ⟨y0, y1, fu', _, _, g0, g1⟩ := trod_struct2 he htr
      rw [o0, c0] at g0
      rw [o1, c1] at g1
      obtain ⟨x, e0, _, wx⟩ := DataW.trod_int k0 g0
      obtain ⟨y, e1, _, wy⟩ := DataW.trod_int k1 g1
      match cs', hcl with
      | [u, v], _ =>
        simp at e0 e1
        subst e0 e1
        have h0 := hat 0 (by omega)
        have h1 := hat 1 (by omega)
        rw [add_add, Nat.add_zero] at h0
        rw [add_add] at h1
        exact ⟨x, y, h0, h1, wx, wy⟩
    have pick : ∀ i, ∃ xy : Int × Int, i < n → W.cell? (a.add (i * 2)) = some (.int .i64 xy.1) ∧ W.cell? (a.add (i * 2 + 1)) = some (.int .i64 xy.2) ∧ (Lit.int .i64 xy.1).wf = true ∧ (Lit.int .i64 xy.2).wf = true := fun i => by
      by_cases hi : i < n
      · obtain ⟨x, y, h⟩ := each i hi
        exact ⟨(x, y), fun _ => h⟩
      · exact ⟨(0, 0), fun h => absurd h hi⟩
    refine ⟨hl, hm, fun i => (Classical.choose (pick i)).1, fun i => (Classical.choose (pick i)).2, ⟨fun _ => ⟨a, rfl, fun i hi => ?_⟩, fun i hi => ?_⟩⟩
    · have := Classical.choose_spec (pick i) hi
      exact ⟨this.1, this.2.1⟩
    · exact (Classical.choose_spec (pick i) hi).2.2
end Go.Proofs.Ytepmamfbhocjjaa
end
