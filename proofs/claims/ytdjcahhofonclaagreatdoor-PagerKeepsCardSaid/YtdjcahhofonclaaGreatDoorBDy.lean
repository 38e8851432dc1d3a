/-
  Texts laid together: Dy.
-/
import Derived.Test.YtdjcahhofonclaaGreatDoorBDa
import Derived.Shelf.SlMaps.Clone
import Derived.Deep.RegionHeld3
section
/-
  What Copy answers: a disk apart, with the same in it.
-/
namespace Go.Proofs.YtdjcahhofonclaaGreatDoor
open Go.ChangeShapes Go.WideShapes Go.ChangeAt Go.RowKit
set_option linter.unusedVariables false

/-- A contract that leaves the world, turned for a region that only reads. -/
theorem turnD {P : Program} {f : FuncId} {args : Array Value} {w : World} {v : Value} (h : Calls P f args w fun e w' => e = .returned v ∧ w = w') : Calls P f args w fun e w' => e = .returned v ∧ w' = w :=
  h.mono fun _ _ ⟨a, b⟩ => ⟨a, b.symm⟩
/-- All pages, cell by cell. -/
theorem PgAt.flat {w : World} {g cap : Nat} {ps : List (List UInt8)} (h : PgAt w g cap ps) : ps.flatten.length = ps.length * 256 ∧ ∀ j u, (cellsOf ps.flatten)[j]? = some u → w.cell? ((⟨g, 0, none⟩ : Addr).add j) = some u := by
  have key : ∀ (qs : List (List UInt8)) (s : Nat), (∀ i (hi : i < qs.length), qs[i].length = 256 ∧ w.rangeAt g ((s + i) * 256) (cellsOf qs[i])) → qs.flatten.length = qs.length * 256 ∧ ∀ j u, (cellsOf qs.flatten)[j]? = some u → w.cell? ⟨g, s * 256 + j, none⟩ = some u := by
    intro qs
    induction qs with
    | nil => intro s _; exact ⟨rfl, fun j u hu => by simp [cellsOf] at hu⟩
    | cons q qs ih =>
      intro s hq
      obtain ⟨h1, h2⟩ := hq 0 (by simp)
      have h1 : q.length = 256 := h1
      obtain ⟨h3, h4⟩ := ih (s + 1) (fun i hi => by
        have := hq (i + 1) (by simpa using hi)
        have e : s + (i + 1) = s + 1 + i := by omega
        rw [e] at this
        exact this)
      refine ⟨by rw [List.flatten_cons, List.length_append, h1, h3, List.length_cons]; omega, fun j u hu => ?_⟩
      rw [List.flatten_cons, cellsOf_append] at hu
      by_cases hj : j < 256
      · rw [List.getElem?_append_left (by rw [cellsOf_length, h1]; exact hj)] at hu
        exact h2 j u hu
      · rw [List.getElem?_append_right (by rw [cellsOf_length, h1]; omega), cellsOf_length, h1] at hu
        have := h4 (j - 256) u hu
        have e : (s + 1) * 256 + (j - 256) = s * 256 + j := by omega
        rw [e] at this
        exact this
  obtain ⟨cur, hb, hs, hc, hi⟩ := h
  obtain ⟨h1, h2⟩ := key ps 0 (fun i hi' => by rw [Nat.zero_add]; exact hi i hi')
  refine ⟨h1, fun j u hu => ?_⟩
  have := h2 j u hu
  rw [Addr.add_mid, Nat.zero_add]
  rwa [Nat.zero_mul, Nat.zero_add] at this
theorem PgAt.of_own {w : World} {base g cap n : Nat} {ps : List (List UInt8)} {cur : Array Value} (hn : ps.length = n) (hl : ∀ p ∈ ps, p.length = 256) (hg : w.heap[g]? = some (.cells cur 117 (0, 0))) (hc : n ≤ cap) (hs : cur.size = cap * 256) (ht : cur.toList.take (n * 256) = cellsOf ps.flatten) : PgAt w g cap ps := by
  refine ⟨cur, hg, hs, by omega, fun i hi => ⟨hl _ (List.getElem_mem hi), fun j u hu => ?_⟩⟩
  have key : ∀ (qs : List (List UInt8)), (∀ p ∈ qs, p.length = 256) → ∀ i (hi : i < qs.length) j, j < 256 → (cellsOf qs.flatten)[i * 256 + j]? = (cellsOf qs[i])[j]? := by
    intro qs
    induction qs with
    | nil => intro _ i hi; simp at hi
    | cons q qs ih =>
      intro hq i hi j hj
      have h1 := hq q (by simp)
      rw [List.flatten_cons, cellsOf_append]
      cases i with
      | zero => rw [List.getElem?_append_left (by rw [cellsOf_length, h1]; omega)]; simp
      | succ i =>
        rw [List.getElem?_append_right (by rw [cellsOf_length, h1]; omega), cellsOf_length, h1]
        have e : (i + 1) * 256 + j - 256 = i * 256 + j := by omega
        rw [e, ih (fun p hp => hq p (by simp [hp])) i (by simpa using hi) j hj]
        rfl
  have hj : j < 256 := by have := (List.getElem?_eq_some_iff.1 hu).1; rwa [cellsOf_length, hl _ (List.getElem_mem hi)] at this
  rw [cell_of_row w g _ cur _ _ hg]
  rw [← key ps hl i hi j hj, ← ht, List.getElem?_take] at hu
  split at hu
  · simpa using hu
  · cases hu
/-- Three cells of a disk. -/
def C3 (w : World) (d : Dk) (S : St) : Prop := w.cell? ⟨d.r, 0, none⟩ = some (.slice (some ⟨d.g, 0, none⟩) S.pages.length d.cap) ∧ w.cell? ⟨d.r, 1, none⟩ = some (.map (some d.m)) ∧ w.cell? ⟨d.r, 2, none⟩ = some (.int .i64 S.fuse)
theorem C3.of {w X : World} {d : Dk} {S : St} (h : Dsk w d S) (hX : Below w.heap.size w X) : X.cell? ⟨d.r, 0, none⟩ = some (.slice (some ⟨d.g, 0, none⟩) S.pages.length d.cap) ∧ X.cell? ⟨d.r, 1, none⟩ = some (.map (some d.m)) ∧ X.cell? ⟨d.r, 2, none⟩ = some (.int .i64 S.fuse) := ⟨(h.below hX).c0, (h.below hX).c1, (h.below hX).c2⟩
theorem below_on {w X w' : World} (h : Below X.heap.size X w') (hX : Below w.heap.size w X) : Below w.heap.size w w' := hX.trans (h.mono hX.size)
/-- The copy, laid but for its number. -/
def Laid3 (w : World) (d : Dk) (S : St) (b g m cap : Nat) (W1 : World) : Prop :=
  W1.cell? ⟨b, 3, none⟩ = some (.int .i64 0) ∧ W1.frozen? ⟨b, 3, none⟩ = false ∧ Dsk W1 d S ∧ Below w.heap.size w W1 ∧
    (Dsk (W1.drew.setCell ⟨b, 3, none⟩ (.int .i64 (S.done : Int))) ⟨b, g, m, cap⟩ S ∧ (∀ i, (⟨b, g, m, cap⟩ : Dk).own i → w.heap.size ≤ i) ∧ Below w.heap.size w (W1.drew.setCell ⟨b, 3, none⟩ (.int .i64 (S.done : Int))))
theorem copy_mid {w W0 : World} {d : Dk} {S : St} {k g m cap : Nat} (h : Dsk w d S) (hk : k ≤ S.done) (hp : PgAt W0 g cap S.pages) (hm : Mv W0 m k (fun x => (S.cache x).map pageV)) (hb : Below w.heap.size w W0) (hg : w.heap.size ≤ g) (hmm : w.heap.size ≤ m) :
    Laid3 w d S W0.heap.size g m cap (W0.alloc (.cells #[.slice (some ⟨g, 0, none⟩) S.pages.length cap, .map (some m), .int .i64 S.fuse, .int .i64 0] 112)) := by
  have hB := Blk.new W0 112 #[.slice (some ⟨g, 0, none⟩) S.pages.length cap, .map (some m), .int .i64 S.fuse, .int .i64 0]
  have hb1 : Below w.heap.size w (W0.alloc (.cells #[.slice (some ⟨g, 0, none⟩) S.pages.length cap, .map (some m), .int .i64 S.fuse, .int .i64 0] 112)) := hb.alloc hb.size _
  have hp1 := hp.keep (heap_alloc_lt W0 (.cells #[.slice (some ⟨g, 0, none⟩) S.pages.length cap, .map (some m), .int .i64 S.fuse, .int .i64 0] 112) hp.lt)
  have hm1 := hm.keep (heap_alloc_lt W0 (.cells #[.slice (some ⟨g, 0, none⟩) S.pages.length cap, .map (some m), .int .i64 S.fuse, .int .i64 0] 112) hm.lt)
  have lg := hp.lt
  have lm := hm.lt
  generalize (W0.alloc (.cells #[.slice (some ⟨g, 0, none⟩) S.pages.length cap, .map (some m), .int .i64 S.fuse, .int .i64 0] 112)) = W1 at hB hb1 hp1 hm1
  refine ⟨hB.cell 3, hB.frozen 3, h.below hb1, hb1, ⟨h.1, hB.set_ 3 _, hp1.keep (Below.heap_setCell W1 ⟨W0.heap.size, 3, none⟩ _ g (fun e => by have : g = W0.heap.size := e; omega)), k, hk, hm1.keep (Below.heap_setCell W1 ⟨W0.heap.size, 3, none⟩ _ m (fun e => by have : m = W0.heap.size := e; omega))⟩, ?_, ?_⟩
  · intro i hi
    have hi' : i = W0.heap.size ∨ i = g ∨ i = m := hi
    have := hb.size
    rcases hi' with rfl | rfl | rfl
    · exact this
    · exact hg
    · exact hmm
  · exact (hb1.drew).setCell (p := ⟨W0.heap.size, 3, none⟩) hb.size _
end Go.Proofs.YtdjcahhofonclaaGreatDoor
end
