/-
  What Cached answers beside the document's cache: the same keys, as one list.
-/
import Derived.Test.YtfmljiidgaoihaaRfn
namespace Go.Proofs.Ytfmljiidgaoihaa
open Go.ChangeShapes Go.WideShapes Go.ChangeAt Go.RowKit
set_option linter.unusedVariables false
theorem rising_unique : ∀ (l k : List Int), l.Pairwise (· < ·) → k.Pairwise (· < ·) → (∀ x, x ∈ l ↔ x ∈ k) → l = k := by
  intro l
  induction l with
  | nil =>
    intro k _ _ h
    cases k with
    | nil => rfl
    | cons b k => exact absurd ((h b).2 (List.mem_cons_self ..)) (by simp)
  | cons a l ih =>
    intro k hl hk h
    cases k with
    | nil => exact absurd ((h a).1 (List.mem_cons_self ..)) (by simp)
    | cons b k =>
      rw [List.pairwise_cons] at hl hk
      have hab : a = b := by
        have h1 := (h a).1 (List.mem_cons_self ..)
        have h2 := (h b).2 (List.mem_cons_self ..)
        rcases List.mem_cons.1 h1 with e | e
        · exact e
        · rcases List.mem_cons.1 h2 with e2 | e2
          · exact e2.symm
          · have h3 := hk.1 a e
            have h4 := hl.1 b e2
            omega
      subst hab
      have : l = k := ih k hl.2 hk.2 fun x => by
        constructor
        · intro hx
          rcases List.mem_cons.1 ((h x).1 (List.mem_cons_of_mem _ hx)) with e | e
          · have := hl.1 x hx; omega
          · exact e
        · intro hx
          rcases List.mem_cons.1 ((h x).2 (List.mem_cons_of_mem _ hx)) with e | e
          · have := hk.1 x hx; omega
          · exact e
      rw [this]
/-- The keys of the document's cache, rising. -/
def RSt.ks (R : RSt) : List Int := (R.cache.map (·.1)).mergeSort (fun x y => decide (x ≤ y))
theorem RSt.ks_length (R : RSt) : R.ks.length = R.cache.length := by
  unfold RSt.ks
  rw [(List.mergeSort_perm _ _).length_eq, List.length_map]
theorem Sim.ks_rise {S : St} {R : RSt} (h : Sim S R) : R.ks.Pairwise (· < ·) := sorted_rising h.keys
theorem RSt.mem_ks (R : RSt) (x : Int) : x ∈ R.ks ↔ ∃ j, ∃ hj : j < R.cache.length, R.cache[j].1 = x := by
  unfold RSt.ks
  rw [(List.mergeSort_perm _ _).mem_iff, List.mem_map]
  constructor
  · rintro ⟨e, he, rfl⟩
    obtain ⟨j, hj, rfl⟩ := List.getElem_of_mem he
    exact ⟨j, hj, rfl⟩
  · rintro ⟨j, hj, rfl⟩
    exact ⟨_, List.getElem_mem hj, rfl⟩
theorem Sim.mem_ks {S : St} {R : RSt} (h : Sim S R) (x : Int) : x ∈ R.ks ↔ (S.cache x).isSome = true := by
  rw [R.mem_ks, ← h.cache, rfind_mem]
def KsAt (w : World) (A : Option Addr) (n : Nat) (ks : List Int) : Prop := ks.length = n ∧ (0 < n → ∃ a, A = some a ∧ ∀ i (h : i < ks.length), w.cell? (a.add i) = some (.int .i64 ks[i]))
theorem KsAt.at_ {w : World} {A : Option Addr} {n : Nat} {ks : List Int} (h : KsAt w A n ks) {i : Nat} (hi : i < n) : ∃ b o x, A = some ⟨b, o, none⟩ ∧ w.cell? ⟨b, o + i, none⟩ = some (.int .i64 x) ∧ ∃ hk : i < ks.length, ks[i] = x := by
  obtain ⟨⟨b, o, s⟩, e, hc⟩ := h.2 (by omega)
  have hk : i < ks.length := by rw [h.1]; exact hi
  have h0 := hc i hk
  have hs : s = none := by
    have := World.cell?_spot (hc 0 (by omega))
    simpa [Addr.add] using this
  subst hs
  have ha : (⟨b, o, none⟩ : Addr).add i = ⟨b, o + i, none⟩ := by unfold Addr.add; split <;> simp_all
  rw [ha] at h0
  exact ⟨b, o, _, e, h0, hk, rfl⟩
theorem KsAt.below {w w' : World} {A : Option Addr} {n : Nat} {ks : List Int} (h : KsAt w A n ks) (hb : Below w.heap.size w w') : KsAt w' A n ks := ⟨h.1, fun hn => by
  obtain ⟨a, e, hc⟩ := h.2 hn
  exact ⟨a, e, fun i hi => (hb.cell (World.block_lt_of_cell? w _ (hc i hi))).trans (hc i hi)⟩⟩
theorem cached_ks (d : Dk) (S : St) (R : RSt) (n : Nat) (w : World) (h : Dsk w d S) (hs : Sim S R) (hd : S.done ≤ 10000) (hn : R.cache.length = n) :
    Calls Try.prog 20 #[.pointer (some ⟨d.r, 0, none⟩)] w fun e w' => ∃ A c, e = .returned (.slice A n c) ∧ Hid (KsAt w' A n R.ks ∧ Below w.heap.size w w') :=
  (cached_any d S w h (by omega)).mono fun e w' ⟨A, c, ks, h1, h2, h3, h4, h5⟩ => by
    have hk : ks = R.ks := rising_unique ks R.ks h2 hs.ks_rise fun x => (h3 x).trans (hs.mem_ks x).symm
    subst hk
    have hl : R.ks.length = n := by rw [R.ks_length]; exact hn
    rw [hl] at h1
    exact ⟨A, c, h1, kept ⟨⟨hl, fun h0 => h4 (by rw [hl]; exact h0)⟩, h5⟩⟩
theorem RSt.wf {S : St} {R : RSt} (h : Sim S R) (ho : S.ok) {x : Int} (hx : x ∈ R.ks) : 0 ≤ x ∧ x < 1024 := by
  have := (h.mem_ks x).1 hx
  obtain ⟨xs, e⟩ := Option.isSome_iff_exists.1 this
  have h1 := ho.2.2.1 x xs e
  have h2 := ho.2.1
  omega
/-- Seen so far. -/
def seen (l : List (Int × List UInt8)) (p : Int) (j : Nat) : Bool := (l.take j).any (fun e => e.1 == p)
theorem seen_zero (l : List (Int × List UInt8)) (p : Int) : seen l p 0 = false := by simp [seen]
theorem seen_succ (l : List (Int × List UInt8)) (p : Int) {j : Nat} (hj : j < l.length) : seen l p (j + 1) = (seen l p j || (l[j].1 == p)) := by
  unfold seen
  rw [List.take_succ_eq_append_getElem hj, List.any_append]
  simp
theorem seen_all {R : RSt} {p : Int} (hp : p ∈ R.ks) {n : Nat} (hn : R.cache.length = n) : seen R.cache p n = true := by
  obtain ⟨j, hj, e⟩ := (R.mem_ks p).1 hp
  unfold seen
  rw [List.take_of_length_le (by omega)]
  exact List.any_eq_true.2 ⟨_, List.getElem_mem hj, by simp [e]⟩
end Go.Proofs.Ytfmljiidgaoihaa
