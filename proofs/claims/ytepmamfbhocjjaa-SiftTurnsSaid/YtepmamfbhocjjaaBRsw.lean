/-
  Texts laid together: Rsw.
-/
import Derived.Test.YtepmamfbhocjjaaBTu
import Derived.Shelf.SlSortCmp.InsertionK
section
/-
  What is left of a row of the caller's own that the library sorts. No program is named.
-/
namespace Go.Proofs.Ytepmamfbhocjjaa
open Go.ChangeShapes Go.WideShapes Go.ChangeAt Go.RowKit
set_option linter.unusedVariables false
set_option linter.unusedSimpArgs false

theorem flat_at {α : Type} (enc : α → List Value) (k : Nat) (hk : ∀ x, (enc x).length = k) : ∀ (l : List α) (i : Nat) (h : i < l.length) (r : Nat), r < k → (l.flatMap enc)[i * k + r]? = (enc l[i])[r]?
  | p :: es, 0, _, r, hr => by rw [List.flatMap_cons, List.getElem?_append_left (by rw [hk]; omega)]; simp
  | p :: es, i + 1, h, r, hr => by
    rw [List.flatMap_cons, List.getElem?_append_right (by rw [hk, Nat.add_mul]; omega), hk, show (i + 1) * k + r - k = i * k + r by rw [Nat.add_mul]; omega, flat_at enc k hk es i (by simpa using h) r hr]
    simp
theorem flat_len {α : Type} (enc : α → List Value) (k : Nat) (hk : ∀ x, (enc x).length = k) : ∀ (l : List α), (l.flatMap enc).length = l.length * k
  | [] => by simp
  | p :: es => by rw [List.flatMap_cons, List.length_append, hk, flat_len enc k hk es, List.length_cons, Nat.add_mul]; omega
/-- A flat row's cell. -/
theorem flatK_get {α : Type} [Inhabited α] (enc : α → List Value) (k : Nat) (hk : ∀ x, (enc x).length = k) (d : Array α) (j : Nat) (hj : j < d.size * k) : (d.toList.flatMap enc)[j]? = some ((Sort.flatK enc k d)[j]!) := by
  have k0 : 0 < k := by
    rcases Nat.eq_zero_or_pos k with h | h
    · subst h; simp at hj
    · exact h
  have hq : j / k < d.size := (Nat.div_lt_iff_lt_mul k0).2 hj
  have hr : j % k < k := Nat.mod_lt _ k0
  have he : j = j / k * k + j % k := by rw [Nat.mul_comm]; exact (Nat.div_add_mod j k).symm
  have h1 := flat_at enc k hk d.toList (j / k) (by simpa using hq) (j % k) hr
  rw [← he] at h1
  rw [h1, Sort.get_flatK enc k d j hj]
  have h2 : d[j / k]! = d.toList[j / k]'(by simpa using hq) := by rw [getElem!_pos d (j / k) hq]; simp
  rw [h2, List.getElem?_eq_getElem (by rw [hk]; exact hr), getElem!_pos _ _ (by rw [hk]; exact hr)]
theorem row_sorted {α : Type} [Inhabited α] {w : World} {base g n c k : Nat} {e : TypeId} {xs : List Value} (enc : α → List Value) (hk : ∀ x, (enc x).length = k) (h : w.ownsRow base e k (.slice (some ⟨g, 0, none⟩) n c) n xs) (d : Array α) (hd : d.size = n) (m : Nat) (os : Array Obj) :
    (sortWorldK enc k w g 0 m d os).ownsRow base e k (.slice (some ⟨g, 0, none⟩) n c) n (d.toList.flatMap enc) ∧ Turned w (sortWorldK enc k w g 0 m d os) (fun j => j = g) := by
  rcases h.2 with ⟨e0, h0⟩ | ⟨g', cap, cur, hv, hb, hh, r1, r2, r3, r4⟩
  · cases e0
  · injection hv with hA _ hc
    injection hA with hA; injection hA with hA
    subst hA hc
    have hgl : g < w.heap.size := (Array.getElem?_eq_some_iff.1 hh).1
    have hsz : (sortWorldK enc k w g 0 m d os).heap = (w.heap.modify g (Sort.onCells (Sort.putCells id 0 (Sort.flatK enc k d)))) ++ os := rfl
    have hg2 : (sortWorldK enc k w g 0 m d os).heap[g]? = some (.cells (Sort.putCells id 0 (Sort.flatK enc k d) cur) e (0, 0)) := by
      rw [hsz, Array.getElem?_append_left (by simpa using hgl), Array.getElem?_modify, if_pos rfl, hh]
      rfl
    refine ⟨own_of_cells hg2 hb r1 r2 (by simp [Sort.putCells, r3]) (by rw [flat_len enc k hk]; simp [hd]) (fun j hj => ?_), rfl, rfl, rfl, by rw [hsz]; simp, fun i hi hn => ?_⟩
    · have hjc : j < cur.size := by rw [r3]; exact Nat.lt_of_lt_of_le hj (Nat.mul_le_mul_right _ r1)
      have hcell : (sortWorldK enc k w g 0 m d os).cell? ⟨g, j, none⟩ = (Sort.putCells id 0 (Sort.flatK enc k d) cur)[j]? := by
        have hB : Blk (sortWorldK enc k w g 0 m d os) g e (Sort.putCells id 0 (Sort.flatK enc k d) cur).toList := by simpa [Blk] using hg2
        rw [hB.cell, Array.getElem?_toList]
      rw [hcell, flatK_get enc k hk d j (by rw [hd]; exact hj)]
      unfold Sort.putCells
      rw [Array.getElem?_mapIdx, Array.getElem?_eq_getElem hjc, Option.map_some, if_pos ⟨Nat.zero_le _, by rw [Sort.size_flatK, hd]; omega⟩]
      rfl
    · rw [hsz, Array.getElem?_append_left (by simpa using hi), Array.getElem?_modify, if_neg (fun e => hn e.symm)]
end Go.Proofs.Ytepmamfbhocjjaa
end
