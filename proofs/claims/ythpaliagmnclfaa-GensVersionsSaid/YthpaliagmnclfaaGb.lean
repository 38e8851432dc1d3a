/-
  Laws of a key's history: what Compact leaves tells the same of all later Mains; entries from a Main on are the end of all; puts and tombstones keep the order.
-/
import Derived.Test.YthpaliagmnclfaaGa
namespace Go.Proofs.Ythpaliagmnclfaa
open Go.ChangeShapes Go.WideShapes Go.ChangeAt Go.RowKit
set_option linter.unusedVariables false
set_option linter.unusedSimpArgs false

theorem ltR_bnd {q : Rv} (h : rightR q.1 q.2 = true) (at_ : Int) : ltR q (bnd at_) = decide (q.1 ≤ at_) := by
  obtain ⟨m, s, e1, e2, _, _, h3⟩ := rightR_nat h
  rw [Bool.eq_iff_iff, ltR_iff, decide_eq_true_eq]
  simp only [bnd]
  omega
theorem ltR_low {q : Rv} (h : rightR q.1 q.2 = true) (m : Int) : ltR q (m, 0) = decide (q.1 < m) := by
  obtain ⟨k, s, e1, e2, _, _, h3⟩ := rightR_nat h
  rw [Bool.eq_iff_iff, ltR_iff, decide_eq_true_eq]
  simp only
  omega
theorem bnd_mono {q : Rv} {a m : Int} (h : a ≤ m) (hb : ltR q (bnd a) = true) : ltR q (bnd m) = true := by
  rw [ltR_iff] at *
  simp only [bnd] at *
  omega
theorem cntR_mono {ps : List Rv} {a m : Int} (h : a ≤ m) : cntR ps (bnd a) ≤ cntR ps (bnd m) := by
  unfold cntR
  exact List.countP_mono_left fun q _ hq => bnd_mono h hq
theorem cntR_drop {ps : List Rv} (hp : List.Pairwise (fun a b => ltR a b = true) ps) (b : Rv) (k : Nat) (hk : k ≤ cntR ps b) : cntR (ps.drop k) b = cntR ps b - k := by
  have hl := cntR_le ps b
  refine cut_uniq (fun p => ltR p b) (by rw [List.length_drop]; omega) (fun t h ht => ?_) (fun t h ht => ?_)
  · rw [List.length_drop] at h
    show ltR (ps.drop k)[t] b = true
    rw [List.getElem_drop, cntR_cut hp b]
    simp; omega
  · rw [List.length_drop] at h
    show ltR (ps.drop k)[t] b = false
    rw [List.getElem_drop, cntR_cut hp b]
    simp; omega
/-- What is told of a Main at or above the compacted one stays the same. -/
theorem get_compact {gs : List Gn} (h : GInv gs) {a m : Int} (ham : a ≤ m) : getG (compactG gs a) m = getG gs m := by
  induction gs with
  | nil => rfl
  | cons x r ih =>
    by_cases hb : endAt (bnd a) x = true
    · have e1 : compactG (x :: r) a = compactG r a := by unfold compactG; rw [show lookG (bnd a) (x :: r) = lookG (bnd a) r from if_pos hb]
      have hm : endAt (bnd m) x = true := by
        unfold endAt at hb ⊢
        rw [Bool.and_eq_true] at hb ⊢
        exact ⟨hb.1, bnd_mono ham hb.2⟩
      have e2 : getG (x :: r) m = getG r m := by unfold getG; rw [show lookG (bnd m) (x :: r) = lookG (bnd m) r from if_pos hm]
      rw [e1, e2, ih h.tail]
    · cases hp : cntR x.ps (bnd a) with
      | zero =>
        have e1 : compactG (x :: r) a = x :: r := by unfold compactG lookG; rw [if_neg hb, hp]
        rw [e1]
      | succ p =>
        have e1 : compactG (x :: r) a = { x with ps := x.ps.drop p, v := wrap64 (x.v + (p : Int)) } :: r := by unfold compactG lookG; rw [if_neg hb, hp]
        rw [e1]
        by_cases hm : endAt (bnd m) x = true
        · unfold getG lookG
          rw [if_pos hm, if_pos (show endAt (bnd m) { x with ps := x.ps.drop p, v := wrap64 (x.v + (p : Int)) } = true from hm)]
        · unfold getG lookG
          rw [if_neg hm, if_neg (show ¬ endAt (bnd m) { x with ps := x.ps.drop p, v := wrap64 (x.v + (p : Int)) } = true from hm)]
          have hps := h.puts (List.mem_cons_self ..)
          have hmn := cntR_mono (ps := x.ps) ham
          simp only
          rw [cntR_drop hps (bnd m) p (by omega)]
          obtain ⟨q, hq⟩ : ∃ q, cntR x.ps (bnd m) = p + q + 1 := ⟨cntR x.ps (bnd m) - p - 1, by omega⟩
          rw [hq, show p + q + 1 - p = q + 1 by omega]
          simp only [List.getElem?_drop]
          cases hx : x.ps[p + q]? with
          | none => rfl
          | some y =>
            simp only [wrap64_wrap_add, Option.some.injEq, Prod.mk.injEq, true_and]
            congr 1
            omega
theorem compact_twice {gs : List Gn} (h : GInv gs) (a : Int) (hv : ∀ x ∈ gs, wrap64 x.v = x.v) : compactG (compactG gs a) a = compactG gs a := by
  induction gs with
  | nil => rfl
  | cons x r ih =>
    by_cases hb : endAt (bnd a) x = true
    · have e1 : compactG (x :: r) a = compactG r a := by unfold compactG; rw [show lookG (bnd a) (x :: r) = lookG (bnd a) r from if_pos hb]
      rw [e1]
      exact ih h.tail (fun y hy => hv y (List.mem_cons_of_mem _ hy))
    · cases hp : cntR x.ps (bnd a) with
      | zero =>
        have e1 : compactG (x :: r) a = x :: r := by unfold compactG lookG; rw [if_neg hb, hp]
        rw [e1, e1]
      | succ p =>
        have e1 : compactG (x :: r) a = { x with ps := x.ps.drop p, v := wrap64 (x.v + (p : Int)) } :: r := by unfold compactG lookG; rw [if_neg hb, hp]
        rw [e1]
        unfold compactG lookG
        rw [if_neg (show ¬ endAt (bnd a) { x with ps := x.ps.drop p, v := wrap64 (x.v + (p : Int)) } = true from hb)]
        have hps := h.puts (List.mem_cons_self ..)
        simp only
        rw [cntR_drop hps (bnd a) p (by omega), hp, show p + 1 - p = 0 + 1 by omega]
        simp only [List.drop_zero]
        rw [show wrap64 (x.v + (p : Int)) + ((0 : Nat) : Int) = wrap64 (x.v + (p : Int)) by simp, wrap64_id_wrap]
theorem flat_sub {gs gs' : List Gn} (h : GInv gs) (hs : List.Sublist (flatG gs') (flatG gs)) (hne : ∀ x ∈ gs', x.ps ≠ []) (hen : ∀ x ∈ gs'.dropLast, x.ended = true) : GInv gs' :=
  ⟨hne, fun q hq => h.right q (hs.subset hq), h.rise.sublist hs, hen⟩
theorem compact_inv {gs : List Gn} (h : GInv gs) (a : Int) : GInv (compactG gs a) ∧ (∀ x ∈ compactG gs a, ∃ y ∈ gs, x.ps.length ≤ y.ps.length) ∧ (compactG gs a).length ≤ gs.length := by
  induction gs with
  | nil => exact ⟨GInv.nil, fun x hx => absurd hx (by simp [compactG, lookG]), Nat.le_refl _⟩
  | cons x r ih =>
    by_cases hb : endAt (bnd a) x = true
    · have e1 : compactG (x :: r) a = compactG r a := by unfold compactG; rw [show lookG (bnd a) (x :: r) = lookG (bnd a) r from if_pos hb]
      rw [e1]
      obtain ⟨i1, i2, i3⟩ := ih h.tail
      exact ⟨i1, fun y hy => by obtain ⟨z, hz, hl⟩ := i2 y hy; exact ⟨z, List.mem_cons_of_mem _ hz, hl⟩, by simp; omega⟩
    · cases hp : cntR x.ps (bnd a) with
      | zero =>
        have e1 : compactG (x :: r) a = x :: r := by unfold compactG lookG; rw [if_neg hb, hp]
        rw [e1]
        exact ⟨h, fun y hy => ⟨y, hy, Nat.le_refl _⟩, Nat.le_refl _⟩
      | succ p =>
        have e1 : compactG (x :: r) a = { x with ps := x.ps.drop p, v := wrap64 (x.v + (p : Int)) } :: r := by unfold compactG lookG; rw [if_neg hb, hp]
        rw [e1]
        obtain ⟨h1, h2, h3, h4, h5⟩ := h.head
        have hle := cntR_le x.ps (bnd a)
        have hsub : List.Sublist (Gn.revs { x with ps := x.ps.drop p, v := wrap64 (x.v + (p : Int)) }) x.revs := List.Sublist.append (List.drop_sublist _ _) (List.Sublist.refl _)
        refine ⟨GInv.cons h.tail (fun e => ?_) (h2.sublist hsub) (fun q hq => h3 q (hsub.subset hq)) (fun q hq b hb => h4 q (hsub.subset hq) b hb) h5, fun y hy => ?_, by simp⟩
        · have := congrArg List.length e
          simp only [List.length_drop, List.length_nil] at this
          omega
        · rcases List.mem_cons.1 hy with rfl | hy
          · exact ⟨x, List.mem_cons_self .., by simp⟩
          · exact ⟨y, List.mem_cons_of_mem _ hy, Nat.le_refl _⟩
theorem compact_v {gs : List Gn} (hv : ∀ x ∈ gs, wrap64 x.v = x.v) (a : Int) : ∀ x ∈ compactG gs a, wrap64 x.v = x.v := by
  induction gs with
  | nil => exact fun x hx => absurd hx (by simp [compactG, lookG])
  | cons x r ih =>
    by_cases hb : endAt (bnd a) x = true
    · have e1 : compactG (x :: r) a = compactG r a := by unfold compactG; rw [show lookG (bnd a) (x :: r) = lookG (bnd a) r from if_pos hb]
      rw [e1]
      exact ih fun y hy => hv y (List.mem_cons_of_mem _ hy)
    · cases hp : cntR x.ps (bnd a) with
      | zero =>
        have e1 : compactG (x :: r) a = x :: r := by unfold compactG lookG; rw [if_neg hb, hp]
        rw [e1]; exact hv
      | succ p =>
        have e1 : compactG (x :: r) a = { x with ps := x.ps.drop p, v := wrap64 (x.v + (p : Int)) } :: r := by unfold compactG lookG; rw [if_neg hb, hp]
        rw [e1]
        intro y hy
        rcases List.mem_cons.1 hy with rfl | hy
        · exact wrap64_id_wrap _
        · exact hv y (List.mem_cons_of_mem _ hy)
/-- The last revision; (0, 0): there is none. -/
def newestG (gs : List Gn) : Rv := (flatG gs).getLastD (0, 0)
theorem newest_above {gs : List Gn} (h : GInv gs) {r : Rv} (hr : rightR r.1 r.2 = true) (hn : ltR (newestG gs) r = true) : ∀ q ∈ flatG gs, ltR q r = true := by
  intro q hq
  unfold newestG at hn
  rcases List.eq_nil_or_concat (flatG gs) with e | ⟨l, z, e⟩
  · rw [e] at hq; simp at hq
  · rw [e] at hn hq
    have hp := h.rise
    rw [e, List.concat_eq_append, List.pairwise_append] at hp
    rw [List.concat_eq_append] at hq hn
    simp only [List.getLastD_eq_getLast?, List.getLast?_append, List.getLast?_singleton, Option.some_or, Option.getD_some] at hn
    rcases List.mem_append.1 hq with hq | hq
    · exact ltR_trans (hp.2.2 q hq z (by simp)) hn
    · rw [List.mem_singleton.1 hq]; exact hn
theorem flat_snoc (gs : List Gn) (x : Gn) : flatG (gs ++ [x]) = flatG gs ++ x.revs := by simp [flatG]
theorem snoc_inv {gs : List Gn} {x : Gn} (h : GInv gs) (hen : ∀ y ∈ gs, y.ended = true) (h1 : x.ps ≠ []) (h2 : ∀ q ∈ x.revs, rightR q.1 q.2 = true) (h3 : List.Pairwise (fun a b => ltR a b = true) (flatG gs ++ x.revs)) : GInv (gs ++ [x]) where
  ne y hy := by
    rcases List.mem_append.1 hy with hy | hy
    · exact h.ne y hy
    · rw [List.mem_singleton.1 hy]; exact h1
  right q hq := by
    rw [flat_snoc] at hq
    rcases List.mem_append.1 hq with hq | hq
    · exact h.right q hq
    · exact h2 q hq
  rise := by rw [flat_snoc]; exact h3
  en y hy := hen y (by simpa using hy)
theorem front_inv {gs : List Gn} {x : Gn} (h : GInv (gs ++ [x])) : GInv gs ∧ (∀ y ∈ gs, y.ended = true) ∧ x.ps ≠ [] ∧ (∀ q ∈ x.revs, rightR q.1 q.2 = true) ∧ List.Pairwise (fun a b => ltR a b = true) (flatG gs ++ x.revs) := by
  have hr := h.rise
  have hq := h.right
  rw [flat_snoc] at hr hq
  have hen : ∀ y ∈ gs, y.ended = true := fun y hy => h.en y (by simpa using hy)
  refine ⟨⟨fun y hy => h.ne y (List.mem_append.2 (.inl hy)), fun q k => hq q (List.mem_append.2 (.inl k)), (List.pairwise_append.1 hr).1, fun y hy => hen y (List.dropLast_subset _ hy)⟩, hen, h.ne x (by simp), fun q k => hq q (List.mem_append.2 (.inr k)), hr⟩
/-- A put behind a generation that goes on. -/
theorem put_more {gs : List Gn} {x : Gn} (h : GInv (gs ++ [x])) (hx : x.ended = false) {r : Rv} (hr : rightR r.1 r.2 = true) (hn : ltR (newestG (gs ++ [x])) r = true) : GInv (gs ++ [{ x with ps := x.ps ++ [r] }]) := by
  have ha := newest_above h hr hn
  obtain ⟨h1, h2, h3, h4, h5⟩ := front_inv h
  rw [flat_snoc] at ha
  have e : Gn.revs { x with ps := x.ps ++ [r] } = x.revs ++ [r] := by
    unfold Gn.revs
    rw [if_neg (by rw [show Gn.ended { x with ps := x.ps ++ [r] } = x.ended from rfl, hx]; simp), if_neg (by rw [hx]; simp)]
    simp
  refine snoc_inv h1 h2 (by simp) (fun q hq => ?_) ?_
  · rw [e] at hq
    rcases List.mem_append.1 hq with hq | hq
    · exact h4 q hq
    · rw [List.mem_singleton.1 hq]; exact hr
  · rw [e, ← List.append_assoc, List.pairwise_append]
    exact ⟨h5, by simp, fun a ka b kb => by rw [List.mem_singleton.1 kb]; exact ha a ka⟩
/-- A put that begins a generation. -/
theorem put_new {gs : List Gn} (h : GInv gs) (hen : ∀ y ∈ gs, y.ended = true) {r : Rv} (hr : rightR r.1 r.2 = true) (hn : ltR (newestG gs) r = true) (c v : Int) : GInv (gs ++ [⟨c, v, [r], (0, 0)⟩]) := by
  have ha := newest_above h hr hn
  have e : Gn.revs ⟨c, v, [r], (0, 0)⟩ = [r] := by simp [Gn.revs, Gn.ended]
  refine snoc_inv h hen (by simp) (fun q hq => ?_) ?_
  · rw [e] at hq
    rw [List.mem_singleton.1 hq]; exact hr
  · rw [e, List.pairwise_append]
    exact ⟨h.rise, by simp, fun a ka b kb => by rw [List.mem_singleton.1 kb]; exact ha a ka⟩
theorem tomb_inv {gs : List Gn} {x : Gn} (h : GInv (gs ++ [x])) (hx : x.ended = false) {r : Rv} (hr : rightR r.1 r.2 = true) (hn : ltR (newestG (gs ++ [x])) r = true) : GInv (gs ++ [{ x with e := r }]) := by
  have ha := newest_above h hr hn
  obtain ⟨h1, h2, h3, h4, h5⟩ := front_inv h
  rw [flat_snoc] at ha
  have hr0 : ¬ r = (0, 0) := by
    rintro rfl
    simp [rightR] at hr
  have e : Gn.revs { x with e := r } = x.revs ++ [r] := by
    unfold Gn.revs
    rw [if_pos (by unfold Gn.ended; simp [hr0]), if_neg (by rw [hx]; simp)]
    simp
  refine snoc_inv h1 h2 h3 (fun q hq => ?_) ?_
  · rw [e] at hq
    rcases List.mem_append.1 hq with hq | hq
    · exact h4 q hq
    · rw [List.mem_singleton.1 hq]; exact hr
  · rw [e, ← List.append_assoc, List.pairwise_append]
    exact ⟨h5, by simp, fun a ka b kb => by rw [List.mem_singleton.1 kb]; exact ha a ka⟩
end Go.Proofs.Ythpaliagmnclfaa
