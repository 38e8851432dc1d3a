/-
  package gens: what is left of a history when one of its generations, or its row of them, has turned.
-/
import Derived.Test.YthpaliagmnclfaaGj
namespace Go.Proofs.Ythpaliagmnclfaa
open Go.ChangeShapes Go.WideShapes Go.ChangeAt Go.RowKit Go.Deep
set_option linter.unusedVariables false
set_option linter.unusedSimpArgs false

theorem gown_cl {w : World} {base sz n k : Nat} {e : TypeId} {v : Value} {xs : List Value} (h : w.ownsRow base e sz v n xs) {g : Nat} (hg : v.ownBlock = some g) : ∃ cur, w.heap[g]? = some (.cells cur e (0, 0)) := by
  rcases h.2 with ⟨rfl, _⟩ | ⟨g', cap, cur, rfl, hb, hh, _⟩
  · cases hg
  · obtain rfl : g' = g := by simpa [Value.ownBlock] using hg
    exact ⟨cur, hh⟩
theorem gfrozen {w : World} {g : Nat} {e : TypeId} {cur : Array Value} (h : w.heap[g]? = some (.cells cur e (0, 0))) (i : Nat) : w.frozen? ⟨g, i, none⟩ = false := by simp [World.frozen?, h]
theorem gown_set {w : World} {base size g n k : Nat} {e : TypeId} {xs : List Value} (h : w.ownsRow base e size (.slice (some ⟨g, 0, none⟩) n k) n xs) (i : Nat) (u : Value) : (w.setCell ⟨g, i, none⟩ u).ownsRow base e size (.slice (some ⟨g, 0, none⟩) n k) n (xs.set i u) := by
  rcases h.2 with ⟨h0, _⟩ | ⟨g', cap', cur, hv, hbg, hg, hnc, hcm, hcs, htake⟩
  · simp at h0
  · simp only [Value.slice.injEq, Option.some.injEq, Addr.mk.injEq, and_true, true_and] at hv
    obtain ⟨rfl, rfl⟩ := hv
    have hB : Blk w g e cur.toList := by simpa [Blk] using hg
    have h2 := hB.set_ i u
    refine ⟨by simp [h.1], .inr ⟨g, k, (cur.toList.set i u).toArray, rfl, hbg, by simpa [Blk] using h2, hnc, hcm, by simpa using hcs, ?_⟩⟩
    rw [show ((cur.toList.set i u).toArray).toList = cur.toList.set i u from rfl, List.take_set, htake]
theorem glC_set : ∀ (Ls : List GL) (i : Nat) (h : i < Ls.length) (j : Nat) (u : Value) (L' : GL), j < 5 → L'.cells = Ls[i].cells.set j u → (glC Ls).set (i * 5 + j) u = glC (Ls.set i L')
  | L :: Ls, 0, _, j, u, L', hj, e => by
    have e : L'.cells = L.cells.set j u := e
    rw [List.set_cons_zero, glC_cons, glC_cons, e, List.set_append_left _ _ (by simp [GL.cells]; omega)]
    simp
  | L :: Ls, i + 1, h, j, u, L', hj, e => by
    have := glC_set Ls i (by simpa using h) j u L' hj (by simpa using e)
    rw [List.set_cons_succ, glC_cons, glC_cons, ← this, List.set_append_right _ _ (by simp [GL.cells]; omega)]
    congr 2
    simp [GL.cells]; omega
/-- Blocks of unlike types are unlike. -/
theorem ne_of_types {w : World} {a b : Nat} {s t : TypeId} {c d : Array Value} {f f' : Nat × Nat} (h : w.heap[a]? = some (.cells c s f)) (k : w.heap[b]? = some (.cells d t f')) (hst : s ≠ t) : a ≠ b := by
  rintro rfl
  rw [h] at k
  injection k with k
  injection k with _ k _
  exact hst k
section
variable {w W2 : World} {r : Nat} {A : Option Addr} {n k : Nat} {Ls : List GL} {gs : List Gn}
theorem GsL.row_cl (h : GsL w r A n k Ls gs) {L : GL} (hL : L ∈ Ls) {g : Nat} (hg : L.row.ownBlock = some g) : ∃ cur, w.heap[g]? = some (.cells cur 29 (0, 0)) := by
  obtain ⟨i, hi, rfl⟩ := List.getElem_of_mem hL
  exact gown_cl (k := 0) (h.el i hi (by rw [h.gn, ← h.ln]; exact hi)).own hg
theorem GsL.r_row (h : GsL w r A n k Ls gs) {L : GL} (hL : L ∈ Ls) : L.row.ownBlock ≠ some r := fun e => by
  obtain ⟨c, hc⟩ := h.row_cl hL e
  have hb : w.heap[r]? = some (.cells #[.slice A n k] 54 (0, 0)) := h.box
  exact ne_of_types hb hc (by decide) rfl
theorem GsL.r_own (h : GsL w r A n k Ls gs) : (Value.slice A n k).ownBlock ≠ some r := fun e => by
  obtain ⟨c, hc⟩ := gown_cl (k := 0) h.own e
  have hb : w.heap[r]? = some (.cells #[.slice A n k] 54 (0, 0)) := h.box
  exact ne_of_types hb hc (by decide) rfl
theorem GsL.own_row (h : GsL w r A n k Ls gs) {L : GL} (hL : L ∈ Ls) {g : Nat} (hg : (Value.slice A n k).ownBlock = some g) : L.row.ownBlock ≠ some g := fun e => by
  obtain ⟨c, hc⟩ := h.row_cl hL e
  obtain ⟨d, hd⟩ := gown_cl (k := 0) h.own hg
  exact ne_of_types hc hd (by decide) rfl
/-- One generation has turned. -/
theorem GsL.left_at (h : GsL w r A n k Ls gs) {g : Nat} (hA : A = some ⟨g, 0, none⟩) (i : Nat) (hi : i < Ls.length) (L' : GL) (x' : Gn) (hown : W2.ownsRow 0 60 5 (.slice A n k) n (glC (Ls.set i L'))) (hat : GlAt W2 L' x')
    (t : Turned w W2 (fun j => j = g ∨ Ls[i].row.ownBlock = some j)) (hloc : ∀ j, L'.row.ownBlock = some j → Ls[i].row.ownBlock = some j ∨ w.heap.size ≤ j) :
    GsL W2 r A n k (Ls.set i L') (gs.set i x') ∧ (∀ j, footG r A n k (Ls.set i L') j → footG r A n k Ls j ∨ w.heap.size ≤ j) ∧ Turned w W2 (footG r A n k Ls) := by
  have hg : (Value.slice A n k).ownBlock = some g := by rw [hA]; rfl
  have hsz := t.size
  refine ⟨⟨t.blk h.box (fun e => ?_), by simp [h.ln], by simp [h.gn], hown, fun j h1 h2 => ?_, fun a b h1 h2 hab q hq => ?_⟩, fun j hj => ?_, t.mono fun j _ hj => ?_⟩
  · rcases e with e | e
    · exact h.r_own (by rw [e]; exact hg)
    · exact h.r_row (List.getElem_mem hi) e
  · rw [List.length_set] at h1 h2
    rw [List.getElem_set, List.getElem_set]
    by_cases hj : i = j
    · subst hj
      rw [if_pos rfl, if_pos rfl]
      exact hat
    · rw [if_neg hj, if_neg hj]
      refine (h.el j h1 h2).turned t (fun q hq e => ?_)
      rcases e with e | e
      · exact h.own_row (List.getElem_mem h1) (by rw [← e] at hg; exact hg) hq
      · exact h.ap i j hi h1 hj q e hq
  · rw [List.length_set] at h1 h2
    rw [List.getElem_set] at hq ⊢
    by_cases ha : i = a
    · subst ha
      rw [if_pos rfl] at hq
      rw [if_neg hab]
      rcases hloc q hq with e | e
      · exact h.ap i b hi h2 hab q e
      · intro e2
        have := h.lt (.inr (.inr ⟨_, List.getElem_mem h2, e2⟩))
        omega
    · rw [if_neg ha] at hq
      by_cases hb : i = b
      · subst hb
        rw [if_pos rfl]
        intro e2
        rcases hloc q e2 with e | e
        · exact h.ap a i h1 hi (fun e => ha e.symm) q hq e
        · have := h.lt (.inr (.inr ⟨_, List.getElem_mem h1, hq⟩))
          omega
      · rw [if_neg hb]
        exact h.ap a b h1 h2 hab q hq
  · rcases hj with e | e | ⟨L, hL, e⟩
    · exact .inl (.inl e)
    · exact .inl (.inr (.inl e))
    · rcases List.mem_or_eq_of_mem_set hL with hL | rfl
      · exact .inl (.inr (.inr ⟨L, hL, e⟩))
      · rcases hloc j e with e | e
        · exact .inl (.inr (.inr ⟨_, List.getElem_mem hi, e⟩))
        · exact .inr e
  · rcases hj with e | e
    · exact .inr (.inl (by rw [e]; exact hg))
    · exact .inr (.inr ⟨_, List.getElem_mem hi, e⟩)
/-- One generation more. -/
theorem GsL.left_more (h : GsL w r A n k Ls gs) {A' : Option Addr} {k' : Nat} (L' : GL) (x' : Gn) (hown : W2.ownsRow 0 60 5 (.slice A' (n + 1) k') (n + 1) (glC (Ls ++ [L']))) (hat : GlAt W2 L' x') (hbox : Blk W2 r 54 [.slice A' (n + 1) k'])
    (t : Turned w W2 (fun j => j = r ∨ (Value.slice A n k).ownBlock = some j)) (hloc : ∀ j, L'.row.ownBlock = some j → w.heap.size ≤ j) (hlocA : ∀ j, (Value.slice A' (n + 1) k').ownBlock = some j → (Value.slice A n k).ownBlock = some j ∨ w.heap.size ≤ j) :
    GsL W2 r A' (n + 1) k' (Ls ++ [L']) (gs ++ [x']) ∧ (∀ j, footG r A' (n + 1) k' (Ls ++ [L']) j → footG r A n k Ls j ∨ w.heap.size ≤ j) ∧ Turned w W2 (footG r A n k Ls) := by
  refine ⟨⟨hbox, by simp [h.ln], by simp [h.gn], hown, fun j h1 h2 => ?_, fun a b h1 h2 hab q hq => ?_⟩, fun j hj => ?_, t.mono fun j _ hj => hj.elim .inl fun e => .inr (.inl e)⟩
  · by_cases hj : j < Ls.length
    · rw [List.getElem_append_left hj, List.getElem_append_left (by rw [h.gn, ← h.ln]; exact hj)]
      refine (h.el j hj (by rw [h.gn, ← h.ln]; exact hj)).turned t (fun q hq e => ?_)
      rcases e with e | e
      · exact h.r_row (List.getElem_mem hj) (by rw [← e]; exact hq)
      · exact h.own_row (List.getElem_mem hj) e hq
    · have e1 : j = Ls.length := by simp at h1; omega
      subst e1
      rw [List.getElem_append_right (Nat.le_refl _), List.getElem_append_right (by rw [h.gn, ← h.ln]; exact Nat.le_refl _)]
      simpa using hat
  · have hcase : ∀ a (h1 : a < (Ls ++ [L']).length), (∃ h : a < Ls.length, (Ls ++ [L'])[a] = Ls[a]) ∨ (a = Ls.length ∧ (Ls ++ [L'])[a] = L') := fun a h1 => by
      by_cases ha : a < Ls.length
      · exact .inl ⟨ha, List.getElem_append_left ha⟩
      · have e1 : a = Ls.length := by simp at h1; omega
        subst e1
        exact .inr ⟨rfl, by rw [List.getElem_append_right (Nat.le_refl _)]; simp⟩
    rcases hcase a h1 with ⟨ha, ea⟩ | ⟨ha, ea⟩ <;> rcases hcase b h2 with ⟨hb, eb⟩ | ⟨hb, eb⟩ <;> rw [ea] at hq <;> rw [eb]
    · exact h.ap a b ha hb hab q hq
    · intro e2
      have h1 := h.lt (.inr (.inr ⟨_, List.getElem_mem ha, hq⟩))
      have h2 := hloc q e2
      omega
    · intro e2
      have h1 := h.lt (.inr (.inr ⟨_, List.getElem_mem hb, e2⟩))
      have h2 := hloc q hq
      omega
    · exact absurd (ha.trans hb.symm) hab
  · rcases hj with e | e | ⟨L, hL, e⟩
    · exact .inl (.inl e)
    · exact (hlocA j e).imp (fun e => .inr (.inl e)) id
    · rcases List.mem_append.1 hL with hL | hL
      · exact .inl (.inr (.inr ⟨L, hL, e⟩))
      · rw [List.mem_singleton.1 hL] at e
        exact .inr (hloc j e)
end
end Go.Proofs.Ythpaliagmnclfaa
