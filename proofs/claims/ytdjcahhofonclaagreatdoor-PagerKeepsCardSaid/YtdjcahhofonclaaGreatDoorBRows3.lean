/-
  Texts laid together: Rows3 Rows4.
-/
import Derived.Test.YtdjcahhofonclaaGreatDoorBBase
import Derived.Deep.Slices
section
/-
  Plain words for a slice of truths, of numbers, and of acts (three numbers and a byte) that came in, opened to cells; no program is named.
-/
namespace Go.Proofs.YtdjcahhofonclaaGreatDoor
open Go.ChangeShapes Go.WideShapes Go.ChangeAt Go.RowKit

/-- The slice at A of n values, each one cell. -/
def RdVals (w : World) (A : Option Addr) (n : Nat) (V : Nat → Value) : Prop := 0 < n → ∃ a, A = some a ∧ ∀ i, i < n → w.cell? (a.add i) = some (V i)
theorem RdVals.below {w w' : World} {A : Option Addr} {n : Nat} {V : Nat → Value} (h : RdVals w A n V) (hb : Below w.heap.size w w') : RdVals w' A n V := fun hn => by
  obtain ⟨a, e, hc⟩ := h hn
  exact ⟨a, e, fun i hi => (hb.cell (World.block_lt_of_cell? w _ (hc i hi))).trans (hc i hi)⟩
theorem RdVals.at_ {w : World} {A : Option Addr} {n : Nat} {V : Nat → Value} (h : RdVals w A n V) {k : Nat} (hk : k < n) : ∃ a, A = some a ∧ w.cell? (a.add k) = some (V k) := by
  obtain ⟨a, e, hc⟩ := h (by omega)
  exact ⟨a, e, hc k hk⟩
/-- The slice at A of n acts. -/
def RdActs (w : World) (A : Option Addr) (n : Nat) (K P N X : Nat → Int) : Prop :=
  (0 < n → ∃ a, A = some a ∧ ∀ i, i < n → w.cell? (a.add (i * 4)) = some (.int .i64 (K i)) ∧ w.cell? (a.add (i * 4 + 1)) = some (.int .i64 (P i)) ∧ w.cell? (a.add (i * 4 + 2)) = some (.int .i64 (N i)) ∧ w.cell? (a.add (i * 4 + 3)) = some (.int .u8 (X i))) ∧
    ∀ i, i < n → ((Lit.int .i64 (K i)).wf = true ∧ (Lit.int .i64 (P i)).wf = true ∧ (Lit.int .i64 (N i)).wf = true) ∧ 0 ≤ X i ∧ X i ≤ 255
theorem RdActs.below {w w' : World} {A : Option Addr} {n : Nat} {K P N X : Nat → Int} (h : RdActs w A n K P N X) (hb : Below w.heap.size w w') : RdActs w' A n K P N X := ⟨fun hn => by
  obtain ⟨a, e, hc⟩ := h.1 hn
  refine ⟨a, e, fun i hi => ?_⟩
  obtain ⟨h0, h1, h2, h3⟩ := hc i hi
  exact ⟨(hb.cell (World.block_lt_of_cell? w _ h0)).trans h0, (hb.cell (World.block_lt_of_cell? w _ h1)).trans h1, (hb.cell (World.block_lt_of_cell? w _ h2)).trans h2, (hb.cell (World.block_lt_of_cell? w _ h3)).trans h3⟩, h.2⟩
theorem RdActs.at_ {w : World} {A : Option Addr} {n : Nat} {K P N X : Nat → Int} (h : RdActs w A n K P N X) {k : Nat} (hk : k < n) :
    ∃ a, A = some a ∧ w.cell? (a.add (k * 4)) = some (.int .i64 (K k)) ∧ w.cell? (a.add (k * 4 + 1)) = some (.int .i64 (P k)) ∧ w.cell? (a.add (k * 4 + 2)) = some (.int .i64 (N k)) ∧ w.cell? (a.add (k * 4 + 3)) = some (.int .u8 (X k)) := by
  obtain ⟨a, e, hc⟩ := h.1 (by omega)
  exact ⟨a, e, hc k hk⟩

/-- .. its cells by block and place. -/
theorem RdActs.there {w : World} {A : Option Addr} {n : Nat} {K P N X : Nat → Int} (h : RdActs w A n K P N X) {k : Nat} (hk : k < n) :
    ∃ b o, A = some ⟨b, o, none⟩ ∧ w.cell? ⟨b, o + k * 4, none⟩ = some (.int .i64 (K k)) ∧ w.cell? ⟨b, o + k * 4 + 1, none⟩ = some (.int .i64 (P k)) ∧ w.cell? ⟨b, o + k * 4 + 2, none⟩ = some (.int .i64 (N k)) ∧ w.cell? ⟨b, o + k * 4 + 3, none⟩ = some (.int .u8 (X k)) := by
  obtain ⟨⟨b, o, s⟩, e, hc⟩ := h.1 (by omega)
  have hs : s = none := by
    have := World.cell?_spot (hc 0 (by omega)).1
    simpa [Addr.add] using this
  subst hs
  obtain ⟨h0, h1, h2, h3⟩ := hc k hk
  have ha : ∀ j, (⟨b, o, none⟩ : Addr).add j = ⟨b, o + j, none⟩ := fun j => by unfold Addr.add; split <;> simp_all
  rw [ha] at h0 h1 h2 h3
  exact ⟨b, o, e, h0, h1, h2, h3⟩

section
variable {H : Type} {enc : TypeId × Value → H} {P : Program} {W : World} {t e : TypeId}
theorem opened_bools (ht : P.underlying t = some (.slice e)) (he : P.underlying e = some .bool) (ce : P.cellsOf e = 1) {A : Option Addr} {n c : Nat} {d : DataW H} {p : List MemPlace} (h : DataW.Trod enc P W 0 (fun _ => true) true t (.slice A n c) d p) :
    n ≤ c ∧ c ≤ maxLen ∧ ∃ B : Nat → Bool, RdVals W A n (fun i => .bool (B i)) := by
  obtain ⟨fuel, hf⟩ := h
  rcases Go.Deep.open_slice ht hf with ⟨hcs, hx⟩ | ⟨a, len, cap, m, fu, D, Pl, hcs, _, hl, hm, hmm, hx, hr⟩
  · simp [Value.cells] at hcs
    obtain ⟨rfl, rfl, rfl⟩ := hcs
    exact ⟨Nat.le_refl _, Nat.zero_le _, fun _ => false, fun h => absurd h (by omega)⟩
  · simp [Value.cells] at hcs
    obtain ⟨rfl, rfl, rfl⟩ := hcs
    simp only [if_true] at hmm
    subst hmm
    have each : ∀ i, ∃ x : Bool, i < n → W.cell? (a.add i) = some (.bool x) := by
      intro i
      by_cases hi : i < n
      · obtain ⟨cs', hc, htr⟩ := hr i (by omega)
        rw [ce] at hc
        obtain ⟨_, hcl, hat⟩ := World.cells?_some hc
        obtain ⟨x, e0, _⟩ := DataW.trod_bool he htr
        subst e0
        have h0 := hat 0 (by omega)
        rw [add_add, Nat.add_zero, Nat.mul_one] at h0
        exact ⟨x, fun _ => h0⟩
      · exact ⟨false, fun h => absurd h hi⟩
    exact ⟨hl, hm, fun i => Classical.choose (each i), fun _ => ⟨a, rfl, fun i hi => Classical.choose_spec (each i) hi⟩⟩
theorem opened_nums (ht : P.underlying t = some (.slice e)) (he : P.underlying e = some (.int .i64)) (ce : P.cellsOf e = 1) {A : Option Addr} {n c : Nat} {d : DataW H} {p : List MemPlace} (h : DataW.Trod enc P W 0 (fun _ => true) true t (.slice A n c) d p) :
    n ≤ c ∧ c ≤ maxLen ∧ ∃ Z : Nat → Int, RdVals W A n (fun i => .int .i64 (Z i)) ∧ ∀ i, i < n → (Lit.int .i64 (Z i)).wf = true := by
  obtain ⟨fuel, hf⟩ := h
  rcases Go.Deep.open_slice ht hf with ⟨hcs, hx⟩ | ⟨a, len, cap, m, fu, D, Pl, hcs, _, hl, hm, hmm, hx, hr⟩
  · simp [Value.cells] at hcs
    obtain ⟨rfl, rfl, rfl⟩ := hcs
    exact ⟨Nat.le_refl _, Nat.zero_le _, fun _ => 0, fun h => absurd h (by omega), fun i hi => absurd hi (by omega)⟩
  · simp [Value.cells] at hcs
    obtain ⟨rfl, rfl, rfl⟩ := hcs
    simp only [if_true] at hmm
    subst hmm
    have each : ∀ i, ∃ x : Int, i < n → W.cell? (a.add i) = some (.int .i64 x) ∧ (Lit.int .i64 x).wf = true := by
      intro i
      by_cases hi : i < n
      · obtain ⟨cs', hc, htr⟩ := hr i (by omega)
        rw [ce] at hc
        obtain ⟨_, hcl, hat⟩ := World.cells?_some hc
        obtain ⟨x, e0, _, wx⟩ := DataW.trod_int he htr
        subst e0
        have h0 := hat 0 (by omega)
        rw [add_add, Nat.add_zero, Nat.mul_one] at h0
        exact ⟨x, fun _ => ⟨h0, wx⟩⟩
      · exact ⟨0, fun h => absurd h hi⟩
    exact ⟨hl, hm, fun i => Classical.choose (each i), fun _ => ⟨a, rfl, fun i hi => (Classical.choose_spec (each i) hi).1⟩, fun i hi => (Classical.choose_spec (each i) hi).2⟩
theorem opened_acts {f0 f1 f2 f3 : Field} (ht : P.underlying t = some (.slice e)) (he : P.underlying e = some (.struct #[f0, f1, f2, f3])) (ce : P.cellsOf e = 4)
    (k0 : P.underlying f0.type = some (.int .i64)) (k1 : P.underlying f1.type = some (.int .i64)) (k2 : P.underlying f2.type = some (.int .i64)) (k3 : P.underlying f3.type = some (.int .u8))
    (c0 : P.cellsOf f0.type = 1) (c1 : P.cellsOf f1.type = 1) (c2 : P.cellsOf f2.type = 1) (c3 : P.cellsOf f3.type = 1) (o0 : f0.offset = 0) (o1 : f1.offset = 1) (o2 : f2.offset = 2) (o3 : f3.offset = 3)
    {A : Option Addr} {n c : Nat} {d : DataW H} {p : List MemPlace} (h : DataW.Trod enc P W 0 (fun _ => true) true t (.slice A n c) d p) :
    n ≤ c ∧ c ≤ maxLen ∧ ∃ K Pg N X, RdActs W A n K Pg N X := by
  obtain ⟨fuel, hf⟩ := h
  rcases Go.Deep.open_slice ht hf with ⟨hcs, hx⟩ | ⟨a, len, cap, m, fu, D, Pl, hcs, _, hl, hm, hmm, hx, hr⟩
  · simp [Value.cells] at hcs
    obtain ⟨rfl, rfl, rfl⟩ := hcs
    exact ⟨Nat.le_refl _, Nat.zero_le _, fun _ => 0, fun _ => 0, fun _ => 0, fun _ => 0, ⟨fun h => absurd h (by omega), fun i hi => absurd hi (by omega)⟩⟩
  · simp [Value.cells] at hcs
    obtain ⟨rfl, rfl, rfl⟩ := hcs
    simp only [if_true] at hmm
    subst hmm
    have each : ∀ i, i < n → ∃ x y z u : Int, (W.cell? (a.add (i * 4)) = some (.int .i64 x) ∧ W.cell? (a.add (i * 4 + 1)) = some (.int .i64 y) ∧ W.cell? (a.add (i * 4 + 2)) = some (.int .i64 z) ∧ W.cell? (a.add (i * 4 + 3)) = some (.int .u8 u)) ∧
        ((Lit.int .i64 x).wf = true ∧ (Lit.int .i64 y).wf = true ∧ (Lit.int .i64 z).wf = true) ∧ 0 ≤ u ∧ u ≤ 255 := by
      intro i hi
      obtain ⟨cs', hc, htr⟩ := hr i (by omega)
      rw [ce] at hc
      obtain ⟨_, hcl, hat⟩ := World.cells?_some hc
      obtain ⟨xs, fu', _, _, _, hlen, hg⟩ := DataW.trod_struct he htr
      match xs, hlen, cs', hcl with
      | [y0, y1, y2, y3], _, [v0, v1, v2, v3], _ =>
        have g0 := hg 0 f0 rfl
        have g1 := hg 1 f1 rfl
        have g2 := hg 2 f2 rfl
        have g3 := hg 3 f3 rfl
        rw [o0, c0] at g0
        rw [o1, c1] at g1
        rw [o2, c2] at g2
        rw [o3, c3] at g3
        obtain ⟨x, e0, _, wx⟩ := DataW.trod_int k0 (x := y0) (by simpa using g0)
        obtain ⟨y, e1, _, wy⟩ := DataW.trod_int k1 (x := y1) (by simpa using g1)
        obtain ⟨z, e2, _, wz⟩ := DataW.trod_int k2 (x := y2) (by simpa using g2)
        obtain ⟨u, e3, _, wu⟩ := DataW.trod_int k3 (x := y3) (by simpa using g3)
        simp at e0 e1 e2 e3
        subst e0 e1 e2 e3
        have h0 := hat 0 (by omega)
        have h1 := hat 1 (by omega)
        have h2 := hat 2 (by omega)
        have h3 := hat 3 (by omega)
        rw [add_add, Nat.add_zero] at h0
        rw [add_add] at h1 h2 h3
        have hu : 0 ≤ u ∧ u ≤ 255 := by simpa [Lit.wf, IntKind.min, IntKind.max, IntKind.signed, IntKind.bits] using wu
        exact ⟨x, y, z, u, ⟨h0, h1, h2, h3⟩, ⟨wx, wy, wz⟩, hu⟩
    have pick : ∀ i, ∃ q : Int × Int × Int × Int, i < n → (W.cell? (a.add (i * 4)) = some (.int .i64 q.1) ∧ W.cell? (a.add (i * 4 + 1)) = some (.int .i64 q.2.1) ∧ W.cell? (a.add (i * 4 + 2)) = some (.int .i64 q.2.2.1) ∧ W.cell? (a.add (i * 4 + 3)) = some (.int .u8 q.2.2.2)) ∧
        ((Lit.int .i64 q.1).wf = true ∧ (Lit.int .i64 q.2.1).wf = true ∧ (Lit.int .i64 q.2.2.1).wf = true) ∧ 0 ≤ q.2.2.2 ∧ q.2.2.2 ≤ 255 := fun i => by
      by_cases hi : i < n
      · obtain ⟨x, y, z, u, h⟩ := each i hi
        exact ⟨(x, y, z, u), fun _ => h⟩
      · exact ⟨(0, 0, 0, 0), fun h => absurd h hi⟩
    exact ⟨hl, hm, fun i => (Classical.choose (pick i)).1, fun i => (Classical.choose (pick i)).2.1, fun i => (Classical.choose (pick i)).2.2.1, fun i => (Classical.choose (pick i)).2.2.2,
      ⟨fun _ => ⟨a, rfl, fun i hi => (Classical.choose_spec (pick i) hi).1⟩, fun i hi => (Classical.choose_spec (pick i) hi).2⟩⟩
end
end Go.Proofs.YtdjcahhofonclaaGreatDoor
end

section
/-
  Plain words for a slice of strings that came in, opened to cells; no program is named.
-/
namespace Go.Proofs.YtdjcahhofonclaaGreatDoor
open Go.ChangeShapes Go.WideShapes Go.ChangeAt Go.RowKit

section
variable {H : Type} {enc : TypeId × Value → H} {P : Program} {W : World} {t e : TypeId}
theorem opened_strs (ht : P.underlying t = some (.slice e)) (he : P.underlying e = some .string) (ce : P.cellsOf e = 1) {A : Option Addr} {n c : Nat} {d : DataW H} {p : List MemPlace} (h : DataW.Trod enc P W 0 (fun _ => true) true t (.slice A n c) d p) :
    n ≤ c ∧ c ≤ maxLen ∧ ∃ X : Nat → ByteArray, RdVals W A n (fun i => .string (X i)) ∧ ∀ i, i < n → (X i).size ≤ maxLen := by
  obtain ⟨fuel, hf⟩ := h
  rcases Go.Deep.open_slice ht hf with ⟨hcs, hx⟩ | ⟨a, len, cap, m, fu, D, Pl, hcs, _, hl, hm, hmm, hx, hr⟩
  · simp [Value.cells] at hcs
    obtain ⟨rfl, rfl, rfl⟩ := hcs
    exact ⟨Nat.le_refl _, Nat.zero_le _, fun _ => ByteArray.empty, fun h => absurd h (by omega), fun i hi => absurd hi (by omega)⟩
  · simp [Value.cells] at hcs
    obtain ⟨rfl, rfl, rfl⟩ := hcs
    simp only [if_true] at hmm
    subst hmm
    have each : ∀ i, ∃ x : ByteArray, i < n → W.cell? (a.add i) = some (.string x) ∧ x.size ≤ maxLen := by
      intro i
      by_cases hi : i < n
      · obtain ⟨cs', hc, htr⟩ := hr i (by omega)
        rw [ce] at hc
        obtain ⟨_, hcl, hat⟩ := World.cells?_some hc
        obtain ⟨x, e0, _, wx⟩ := DataW.trod_string he htr
        subst e0
        have h0 := hat 0 (by omega)
        rw [add_add, Nat.add_zero, Nat.mul_one] at h0
        exact ⟨x, fun _ => ⟨h0, wx⟩⟩
      · exact ⟨ByteArray.empty, fun h => absurd h hi⟩
    exact ⟨hl, hm, fun i => Classical.choose (each i), fun _ => ⟨a, rfl, fun i hi => (Classical.choose_spec (each i) hi).1⟩, fun i hi => (Classical.choose_spec (each i) hi).2⟩
end
end Go.Proofs.YtdjcahhofonclaaGreatDoor
end
