/-
  Texts laid together: Hnd Hnl Swp.
-/
import Derived.Test.YtepmamfbhocjjaaBBase
import Derived.Deep.RegionHeld3
section
/-
  A drawn region by hand, operation by operation: laws that name an operation by its place and its slot alone. No program is named.
-/
namespace Go.Proofs.Ytepmamfbhocjjaa
section
variable {P : Program} {ops : Array Oper} {Q : Exit → Act → World → Prop} {md : Region.Mode} {S : World → Prop}
/-- Number i is not wanted: its slot stays undefined. -/
theorem hand_skip {fuel : Nat} {listed : Array Bool} {a : Act} {w : World} (i : Nat) (d : Option Tmp) (hi : (ops[i]?).map (·.dst) = some d) (hs : Region.noSelect ops = true) (hf : Region.free md ops listed i = true) (hr : (Region.ready md ops listed).contains i = true)
    (hw : (ops[i]?).map (fun o => Region.wanted o (yielded ops a.tmps)) = some false) (hQ : ∀ c a w, Q (.panic c) (a.put d undef) w → Q (.panic c) a w) (hS : S w)
    (h : wpAnyH P md ops Q S fuel (listed.setIfInBounds i true) (a.put d undef) w) : wpAnyH P md ops Q S (fuel + 1) listed a w := by
  cases ho : ops[i]? with
  | none => rw [ho] at hi; cases hi
  | some o =>
    rw [ho] at hi hw
    obtain rfl := Option.some.inj hi
    exact wpAnyH_take ho hs hf hr hQ (Or.inr ⟨Option.some.inj hw, rfl⟩) hS h
/-- Number i is taken: it yields v. -/
theorem hand_take {fuel : Nat} {listed : Array Bool} {a : Act} {w : World} (i : Nat) (d : Option Tmp) (v : Value) (hi : (ops[i]?).map (·.dst) = some d) (hs : Region.noSelect ops = true) (hf : Region.free md ops listed i = true) (hr : (Region.ready md ops listed).contains i = true)
    (hw : (ops[i]?).map (fun o => Region.wanted o (yielded ops a.tmps)) = some true) (hQ : ∀ c a w, Q (.panic c) (a.put d v) w → Q (.panic c) a w)
    (hy : ∀ o, ops[i]? = some o → ∀ w, S w → (execOp a.eval o).run P w = .ok (.value v) w) (hS : S w)
    (h : wpAnyH P md ops Q S fuel (listed.setIfInBounds i true) (a.put d v) w) : wpAnyH P md ops Q S (fuel + 1) listed a w := by
  cases ho : ops[i]? with
  | none => rw [ho] at hi; cases hi
  | some o =>
    rw [ho] at hi hw
    obtain rfl := Option.some.inj hi
    exact wpAnyH_take ho hs hf hr hQ (Or.inl ⟨Option.some.inj hw, hy o ho⟩) hS h
/-- Number i alone may come up next, and is wanted. -/
theorem hand_ready {fuel : Nat} {listed : Array Bool} {a : Act} {w : World} (i : Nat) (hr : Region.ready md ops listed = [i]) (hw : (ops[i]?).map (fun o => Region.wanted o (yielded ops a.tmps)) = some true)
    (h : ∀ o, ops[i]? = some o → ∀ K' : Act → World → Prop, Shut (∀ a w, S w → (S w → wpAnyH P md ops Q S fuel (listed.setIfInBounds i true) a w) → K' a w) → Oper.wp P o a w K' Q) : wpAnyH P md ops Q S (fuel + 1) listed a w := by
  refine wpAnyH_ready (rs := [i]) hr (by simp) ?_
  cases ho : ops[i]? with
  | none => rw [ho] at hw; cases hw
  | some o =>
    rw [ho] at hw
    refine AllReadyH.cons ho (fun K' hK => ?_) AllReadyH.nil
    rw [if_pos (Option.some.inj hw)]
    exact h o ho K' hK
/-- Two may come up next, both wanted. -/
theorem hand_ready2 {fuel : Nat} {listed : Array Bool} {a : Act} {w : World} (i j : Nat) (hr : Region.ready md ops listed = [i, j]) (hwi : (ops[i]?).map (fun o => Region.wanted o (yielded ops a.tmps)) = some true) (hwj : (ops[j]?).map (fun o => Region.wanted o (yielded ops a.tmps)) = some true)
    (hi : ∀ o, ops[i]? = some o → ∀ K' : Act → World → Prop, Shut (∀ a w, S w → (S w → wpAnyH P md ops Q S fuel (listed.setIfInBounds i true) a w) → K' a w) → Oper.wp P o a w K' Q)
    (hj : ∀ o, ops[j]? = some o → ∀ K' : Act → World → Prop, Shut (∀ a w, S w → (S w → wpAnyH P md ops Q S fuel (listed.setIfInBounds j true) a w) → K' a w) → Oper.wp P o a w K' Q) : wpAnyH P md ops Q S (fuel + 1) listed a w := by
  refine wpAnyH_ready (rs := [i, j]) hr (by simp) ?_
  cases hoi : ops[i]? with
  | none => rw [hoi] at hwi; cases hwi
  | some o =>
    cases hoj : ops[j]? with
    | none => rw [hoj] at hwj; cases hwj
    | some o' =>
      rw [hoi] at hwi
      rw [hoj] at hwj
      refine AllReadyH.cons hoi (fun K' hK => ?_) (AllReadyH.cons hoj (fun K' hK => ?_) AllReadyH.nil)
      · rw [if_pos (Option.some.inj hwi)]
        exact hi o hoi K' hK
      · rw [if_pos (Option.some.inj hwj)]
        exact hj o' hoj K' hK
/-- Three may come up next, all wanted. -/
theorem hand_ready3 {fuel : Nat} {listed : Array Bool} {a : Act} {w : World} (i j k : Nat) (hr : Region.ready md ops listed = [i, j, k]) (hwi : (ops[i]?).map (fun o => Region.wanted o (yielded ops a.tmps)) = some true) (hwj : (ops[j]?).map (fun o => Region.wanted o (yielded ops a.tmps)) = some true) (hwk : (ops[k]?).map (fun o => Region.wanted o (yielded ops a.tmps)) = some true)
    (hi : ∀ o, ops[i]? = some o → ∀ K' : Act → World → Prop, Shut (∀ a w, S w → (S w → wpAnyH P md ops Q S fuel (listed.setIfInBounds i true) a w) → K' a w) → Oper.wp P o a w K' Q)
    (hj : ∀ o, ops[j]? = some o → ∀ K' : Act → World → Prop, Shut (∀ a w, S w → (S w → wpAnyH P md ops Q S fuel (listed.setIfInBounds j true) a w) → K' a w) → Oper.wp P o a w K' Q)
    (hk : ∀ o, ops[k]? = some o → ∀ K' : Act → World → Prop, Shut (∀ a w, S w → (S w → wpAnyH P md ops Q S fuel (listed.setIfInBounds k true) a w) → K' a w) → Oper.wp P o a w K' Q) : wpAnyH P md ops Q S (fuel + 1) listed a w := by
  refine wpAnyH_ready (rs := [i, j, k]) hr (by simp) ?_
  cases hoi : ops[i]? with
  | none => rw [hoi] at hwi; cases hwi
  | some o =>
    cases hoj : ops[j]? with
    | none => rw [hoj] at hwj; cases hwj
    | some o' =>
      cases hok : ops[k]? with
      | none => rw [hok] at hwk; cases hwk
      | some o'' =>
        rw [hoi] at hwi
        rw [hoj] at hwj
        rw [hok] at hwk
        refine AllReadyH.cons hoi (fun K' hK => ?_) (AllReadyH.cons hoj (fun K' hK => ?_) (AllReadyH.cons hok (fun K' hK => ?_) AllReadyH.nil))
        · rw [if_pos (Option.some.inj hwi)]
          exact hi o hoi K' hK
        · rw [if_pos (Option.some.inj hwj)]
          exact hj o' hoj K' hK
        · rw [if_pos (Option.some.inj hwk)]
          exact hk o'' hok K' hK
/-! The same, with all that is the same at each place found by itself. -/
theorem hA {α : Type} (l : List α) (i : Nat) (u : α) : l.toArray.setIfInBounds i u = (l.set i u).toArray := List.setIfInBounds_toArray ..
theorem h0 {α : Type} (x u : α) (l : List α) : (x :: l).set 0 u = u :: l := rfl
theorem h1 {α : Type} (x u : α) (l : List α) (n : Nat) : (x :: l).set (n + 1) u = x :: l.set n u := rfl
theorem hT {fuel : Nat} {listed : Array Bool} {a a' : Act} {w : World} {v : Value} (i : Nat) (d : Option Tmp)
    (h : wpAnyH P md ops Q S fuel (listed.setIfInBounds i true) a' w)
    (hy : ∀ o, ops[i]? = some o → ∀ w, S w → (execOp a.eval o).run P w = .ok (.value v) w := by (intro o ho w hSw; (simp only [List.getElem?_toArray, List.getElem?_cons_succ, List.getElem?_cons_zero, Option.some.injEq] at ho); subst ho; (try dsimp only at hSw); go_simp; (first | done | with_reducible rfl)))
    (ha : a.put d v = a' := by ((try simp only [Act.put, hA, h0, h1]); (first | done | rfl)))
    (hi : (ops[i]?).map (·.dst) = some d := by kernel_rfl) (hs : Region.noSelect ops = true := by kernel_rfl) (hf : Region.free md ops listed i = true := by kernel_rfl) (hr : (Region.ready md ops listed).contains i = true := by kernel_rfl)
    (hw : (ops[i]?).map (fun o => Region.wanted o (yielded ops a.tmps)) = some true := by kernel_rfl) (hQ : ∀ c a w, Q (.panic c) (a.put d v) w → Q (.panic c) a w := by (exact fun _ _ _ h => h))
    (hS : S w := by assumption) : wpAnyH P md ops Q S (fuel + 1) listed a w := by
  subst ha
  exact hand_take i d v hi hs hf hr hw hQ hy hS h
theorem hU {fuel : Nat} {listed : Array Bool} {a a' : Act} {w : World} (i : Nat) (d : Option Tmp)
    (h : wpAnyH P md ops Q S fuel (listed.setIfInBounds i true) a' w)
    (ha : a.put d undef = a' := by ((try simp only [Act.put, hA, h0, h1]); (first | done | rfl)))
    (hi : (ops[i]?).map (·.dst) = some d := by kernel_rfl) (hs : Region.noSelect ops = true := by kernel_rfl) (hf : Region.free md ops listed i = true := by kernel_rfl) (hr : (Region.ready md ops listed).contains i = true := by kernel_rfl)
    (hw : (ops[i]?).map (fun o => Region.wanted o (yielded ops a.tmps)) = some false := by kernel_rfl) (hQ : ∀ c a w, Q (.panic c) (a.put d undef) w → Q (.panic c) a w := by (exact fun _ _ _ h => h))
    (hS : S w := by assumption) : wpAnyH P md ops Q S (fuel + 1) listed a w := by
  subst ha
  exact hand_skip i d hi hs hf hr hw hQ hS h
theorem hR {fuel : Nat} {listed : Array Bool} {a : Act} {w : World} {o : Oper} (i : Nat)
    (h : ∀ K' : Act → World → Prop, Shut (∀ a w, S w → (S w → wpAnyH P md ops Q S fuel (listed.setIfInBounds i true) a w) → K' a w) → Oper.wp P o a w K' Q)
    (ho : ops[i]? = some o := by ((simp only [List.getElem?_toArray, List.getElem?_cons_succ, List.getElem?_cons_zero]); (first | done | rfl)))
    (hr : Region.ready md ops listed = [i] := by kernel_rfl) (hw : (ops[i]?).map (fun o => Region.wanted o (yielded ops a.tmps)) = some true := by kernel_rfl) : wpAnyH P md ops Q S (fuel + 1) listed a w :=
  hand_ready i hr hw fun o' ho' K hK => by
    obtain rfl : o = o' := Option.some.inj (ho.symm.trans ho')
    exact h K hK
theorem hV {fuel : Nat} {listed : Array Bool} {a : Act} {w : World} {oi oj : Oper} (i j : Nat)
    (hi : ∀ K' : Act → World → Prop, Shut (∀ a w, S w → (S w → wpAnyH P md ops Q S fuel (listed.setIfInBounds i true) a w) → K' a w) → Oper.wp P oi a w K' Q)
    (hj : ∀ K' : Act → World → Prop, Shut (∀ a w, S w → (S w → wpAnyH P md ops Q S fuel (listed.setIfInBounds j true) a w) → K' a w) → Oper.wp P oj a w K' Q)
    (hoi : ops[i]? = some oi := by ((simp only [List.getElem?_toArray, List.getElem?_cons_succ, List.getElem?_cons_zero]); (first | done | rfl)))
    (hoj : ops[j]? = some oj := by ((simp only [List.getElem?_toArray, List.getElem?_cons_succ, List.getElem?_cons_zero]); (first | done | rfl)))
    (hr : Region.ready md ops listed = [i, j] := by kernel_rfl) (hwi : (ops[i]?).map (fun o => Region.wanted o (yielded ops a.tmps)) = some true := by kernel_rfl) (hwj : (ops[j]?).map (fun o => Region.wanted o (yielded ops a.tmps)) = some true := by kernel_rfl) : wpAnyH P md ops Q S (fuel + 1) listed a w := by
  refine wpAnyH_ready (rs := [i, j]) hr (by simp) ?_
  rw [hoi] at hwi
  rw [hoj] at hwj
  refine AllReadyH.cons hoi (fun K' hK => ?_) (AllReadyH.cons hoj (fun K' hK => ?_) AllReadyH.nil)
  · rw [if_pos (Option.some.inj hwi)]
    exact hi K' hK
  · rw [if_pos (Option.some.inj hwj)]
    exact hj K' hK
end
end Go.Proofs.Ytepmamfbhocjjaa
end

section
/-
  A drawn region by hand whose last operations write what its loads read: what the loads read has to hold only as long as none of the late operations has come up. No program is named.
-/
namespace Go.Proofs.Ytepmamfbhocjjaa
section
variable {P : Program} {ops : Array Oper} {Q : Exit → Act → World → Prop} {md : Region.Mode} {C : World → Prop} {late : List Nat}
/-- None of the late ones has come up. -/
def earlyB (late : List Nat) (listed : Array Bool) : Bool := late.all fun k => listed.getD k true == false
/-- Each late one waits for number i. -/
def waitB (md : Region.Mode) (ops : Array Oper) (late : List Nat) (i : Nat) : Bool := late.all fun k => k != i && match ops[k]? with | some o => o.after.any (fun e => Region.binds md e && e.on == i) | none => true
/-- Whatever order is picked from here on; C holds as long as no late one has come up. -/
def anyL (P : Program) (md : Region.Mode) (ops : Array Oper) (Q : Exit → Act → World → Prop) (C : World → Prop) (late : List Nat) : Nat → Array Bool → Act → World → Prop
  | 0, ls, a, w => Region.ready md ops ls = [] ∧ Q .normal a w
  | n + 1, ls, a, w => (Region.ready md ops ls = [] → Q .normal a w) ∧ ∀ i ∈ Region.ready md ops ls, wpOp P ops Q i (fun a' w' => (earlyB late (ls.setIfInBounds i true) = true → C w') ∧ anyL P md ops Q C late n (ls.setIfInBounds i true) a' w') a w
theorem any_of_L : ∀ (n : Nat) (ls : Array Bool) (a : Act) (w : World), anyL P md ops Q C late n ls a w → wpAny P md ops Q n ls a w
  | 0, _, _, _, h => h
  | n + 1, _, _, _, h => ⟨h.1, fun i hi => wpOp_mono (fun a' w' k => any_of_L n _ a' w' k.2) (h.2 i hi)⟩
theorem early_mem {ls : Array Bool} (h : earlyB late ls = true) {k : Nat} (hk : k ∈ late) : ls.getD k true = false := by
  have := List.all_eq_true.1 h k hk
  simpa using this
theorem early_set {ls : Array Bool} (h : earlyB late ls = true) {i : Nat} (hi : i ∉ late) : earlyB late (ls.setIfInBounds i true) = true :=
  List.all_eq_true.2 fun k hk => by
    have hne : i ≠ k := fun e => hi (by rw [e]; exact hk)
    rw [getD_set_ne true hne]
    simpa using early_mem h hk
theorem early_back {ls : Array Bool} {i : Nat} (h : earlyB late (ls.setIfInBounds i true) = true) (hi : i ∉ late) : earlyB late ls = true :=
  List.all_eq_true.2 fun k hk => by
    have := early_mem h hk
    have hne : i ≠ k := fun e => hi (by rw [e]; exact hk)
    rw [getD_set_ne true hne] at this
    simpa using this
theorem wait_not {i : Nat} (h : waitB md ops late i = true) {k : Nat} (hk : k ∈ late) {o : Oper} (ho : ops[k]? = some o) : k ≠ i ∧ ∃ e ∈ o.after, Region.binds md e = true ∧ e.on = i := by
  have h1 := List.all_eq_true.1 h k hk
  rw [ho] at h1
  simp only [Bool.and_eq_true, bne_iff_ne, ne_eq, Array.any_eq_true'] at h1
  obtain ⟨h2, e, he, h3⟩ := h1
  refine ⟨h2, e, he, ?_⟩
  simpa using h3
/-- An operation for which all late ones wait may be taken first. -/
theorem firstL {i : Nat} {oi : Oper} {v : Value} (hi : ops[i]? = some oi) (hsel : ∀ (j : Nat) (o : Oper) cs b, ops[j]? = some o → o.op ≠ .select cs b)
    (hQ : ∀ c a w, Q (.panic c) (a.put oi.dst v) w → Q (.panic c) a w) (hwt : waitB md ops late i = true) :
    ∀ (n : Nat) (ls : Array Bool) (a : Act) (w : World),
      (∀ j oj, ops[j]? = some oj → j ≠ i → ls.getD j true = false → (∀ e ∈ oj.after, Region.binds md e = true → e.on ≠ i) → oi.apart ops oj = true) →
      i ∈ Region.ready md ops ls → YieldsIf P ops C oi v a → earlyB late ls = true → C w →
      anyL P md ops Q C late n (ls.setIfInBounds i true) (a.put oi.dst v) w → anyL P md ops Q C late (n + 1) ls a w := by
  have hil : i ∉ late := fun hm => (wait_not hwt hm hi).1 rfl
  intro n
  induction n with
  | zero =>
    intro ls a w _ hr hy he hC H
    refine ⟨fun h => (by rw [h] at hr; cases hr), fun j hj => ?_⟩
    by_cases hji : j = i
    · subst hji; exact hy.wpOp hi hC ⟨fun _ => hC, H⟩
    · have h2 := ready_mono hj hji
      rw [H.1] at h2
      cases h2
  | succ n ih =>
    intro ls a w hfree hr hy he hC H
    refine ⟨fun h => (by rw [h] at hr; cases hr), fun j hj => ?_⟩
    by_cases hji : j = i
    · subst hji; exact hy.wpOp hi hC ⟨fun _ => hC, H⟩
    · have h1 := H.2 j (ready_mono hj hji)
      obtain ⟨hjun, oj, hoj, hall⟩ := mem_ready.1 hj
      have hun := (mem_ready.1 hr).1
      have hno : ∀ e ∈ oj.after, Region.binds md e = true → e.on ≠ i := fun e he hb heq => by
        have h3 := hall e he hb
        rw [heq] at h3
        have h4 : ls.getD i true = ls.getD i false := by
          by_cases hb : i < ls.size
          · simp [hb]
          · rw [Array.getD_eq_getD_getElem?, Array.getElem?_eq_none (Nat.le_of_not_lt hb)] at h3
            cases h3
        rw [h4, h3] at hun
        cases hun
      have hjl : j ∉ late := fun hm => by
        obtain ⟨_, e, he, hb, hon⟩ := wait_not hwt hm hoj
        exact hno e he hb hon
      have hej : earlyB late (ls.setIfInBounds j true) = true := early_set he hjl
      have hej2 : earlyB late ((ls.setIfInBounds i true).setIfInBounds j true) = true := early_set (early_set he hil) hjl
      have h2 := wpOp_putIf hoj (hfree j oj hoj hji hjun hno) (fun cs b => hsel i oi cs b hi) (fun cs b => hsel j oj cs b hoj) hQ hy h1
      refine wpOp_mono (fun a' w' h3 => ⟨fun _ => h3.2.1 hej2, ih (ls.setIfInBounds j true) a' w' (fun k ok hk hki hku hkn => hfree k ok hk hki ?_ hkn) (ready_mono hr (Ne.symm hji)) h3.1 hej (h3.2.1 hej2) ?_⟩) h2
      · by_cases hjk : j = k
        · subst hjk; exact hjun
        · rw [getD_set_ne true hjk] at hku; exact hku
      · rw [Array.setIfInBounds_comm _ _ hji]
        exact h3.2.2
/-- An operation that yields the same in whatever world may be taken first. -/
theorem firstP {i : Nat} {oi : Oper} {v : Value} (hi : ops[i]? = some oi) (hsel : ∀ (j : Nat) (o : Oper) cs b, ops[j]? = some o → o.op ≠ .select cs b)
    (hQ : ∀ c a w, Q (.panic c) (a.put oi.dst v) w → Q (.panic c) a w) (hil : i ∉ late) :
    ∀ (n : Nat) (ls : Array Bool) (a : Act) (w : World),
      (∀ j oj, ops[j]? = some oj → j ≠ i → ls.getD j true = false → (∀ e ∈ oj.after, Region.binds md e = true → e.on ≠ i) → oi.apart ops oj = true) →
      i ∈ Region.ready md ops ls → YieldsIf P ops (fun _ => True) oi v a → (earlyB late ls = true → C w) →
      anyL P md ops Q C late n (ls.setIfInBounds i true) (a.put oi.dst v) w → anyL P md ops Q C late (n + 1) ls a w := by
  intro n
  induction n with
  | zero =>
    intro ls a w _ hr hy hC H
    refine ⟨fun h => (by rw [h] at hr; cases hr), fun j hj => ?_⟩
    by_cases hji : j = i
    · subst hji; exact hy.wpOp hi trivial ⟨fun e => hC (early_back e hil), H⟩
    · have h2 := ready_mono hj hji
      rw [H.1] at h2
      cases h2
  | succ n ih =>
    intro ls a w hfree hr hy hC H
    refine ⟨fun h => (by rw [h] at hr; cases hr), fun j hj => ?_⟩
    by_cases hji : j = i
    · subst hji; exact hy.wpOp hi trivial ⟨fun e => hC (early_back e hil), H⟩
    · have h1 := H.2 j (ready_mono hj hji)
      obtain ⟨hjun, oj, hoj, hall⟩ := mem_ready.1 hj
      have hun := (mem_ready.1 hr).1
      have hno : ∀ e ∈ oj.after, Region.binds md e = true → e.on ≠ i := fun e he hb heq => by
        have h3 := hall e he hb
        rw [heq] at h3
        have h4 : ls.getD i true = ls.getD i false := by
          by_cases hb : i < ls.size
          · simp [hb]
          · rw [Array.getD_eq_getD_getElem?, Array.getElem?_eq_none (Nat.le_of_not_lt hb)] at h3
            cases h3
        rw [h4, h3] at hun
        cases hun
      have h2 := wpOp_putIf hoj (hfree j oj hoj hji hjun hno) (fun cs b => hsel i oi cs b hi) (fun cs b => hsel j oj cs b hoj) hQ hy h1
      have hcm : (ls.setIfInBounds i true).setIfInBounds j true = (ls.setIfInBounds j true).setIfInBounds i true := (Array.setIfInBounds_comm _ _ hji).symm
      refine wpOp_mono (fun a' w' h3 => ?_) h2
      rw [hcm] at h3
      have hc' : earlyB late (ls.setIfInBounds j true) = true → C w' := fun e => h3.2.1 (early_set e hil)
      refine ⟨hc', ih (ls.setIfInBounds j true) a' w' (fun k ok hk hki hku hkn => hfree k ok hk hki ?_ hkn) (ready_mono hr (Ne.symm hji)) h3.1 hc' h3.2.2⟩
      by_cases hjk : j = k
      · subst hjk; exact hjun
      · rw [getD_set_ne true hjk] at hku; exact hku
/-- The beginning. -/
theorem region_L {id : Nat} {a : Act} {w : World} (late : List Nat) (C : World → Prop) (hm : P.follows .mixedOrders = true) (hC : C w.drew) (h : C w.drew → anyL P .any ops Q C late ops.size (Array.replicate ops.size false) a w.drew) : (Code.region id ops true).wp P Q a w :=
  wp_region_any hm (any_of_L _ _ _ _ (h hC))
/-- Number i is taken: it yields v wherever C holds. -/
theorem take_L {n : Nat} {ls : Array Bool} {a a' : Act} {w : World} {v : Value} (i : Nat) (d : Option Tmp)
    (h : anyL P md ops Q C late n (ls.setIfInBounds i true) a' w)
    (hy : ∀ o, ops[i]? = some o → ∀ w, C w → (execOp a.eval o).run P w = .ok (.value v) w) (ha : a.put d v = a')
    (hi : (ops[i]?).map (·.dst) = some d := by kernel_rfl) (hs : Region.noSelect ops = true := by kernel_rfl) (hf : Region.free md ops ls i = true := by kernel_rfl) (hr : (Region.ready md ops ls).contains i = true := by kernel_rfl)
    (hw : (ops[i]?).map (fun o => Region.wanted o (yielded ops a.tmps)) = some true := by kernel_rfl) (hwt : waitB md ops late i = true := by kernel_rfl) (he : earlyB late ls = true := by kernel_rfl)
    (hQ : ∀ c a w, Q (.panic c) (a.put d v) w → Q (.panic c) a w := by (exact fun _ _ _ h => h)) (hC : C w := by assumption) : anyL P md ops Q C late (n + 1) ls a w := by
  subst ha
  cases ho : ops[i]? with
  | none => rw [ho] at hi; cases hi
  | some o =>
    rw [ho] at hi hw
    obtain rfl := Option.some.inj hi
    exact firstL ho (Region.noSelect_spec hs) hQ hwt n ls a w (Region.free_spec ho hf) (by simpa using hr) (Or.inl ⟨Option.some.inj hw, hy o ho⟩) he hC h
/-- Number i is taken: it yields v in whatever world. -/
theorem take_P {n : Nat} {ls : Array Bool} {a a' : Act} {w : World} {v : Value} (i : Nat) (d : Option Tmp)
    (h : anyL P md ops Q C late n (ls.setIfInBounds i true) a' w)
    (hy : ∀ o, ops[i]? = some o → ∀ w, (execOp a.eval o).run P w = .ok (.value v) w) (ha : a.put d v = a') (hC : earlyB late ls = true → C w)
    (hi : (ops[i]?).map (·.dst) = some d := by kernel_rfl) (hs : Region.noSelect ops = true := by kernel_rfl) (hf : Region.free md ops ls i = true := by kernel_rfl) (hr : (Region.ready md ops ls).contains i = true := by kernel_rfl)
    (hw : (ops[i]?).map (fun o => Region.wanted o (yielded ops a.tmps)) = some true := by kernel_rfl) (hil : late.contains i = false := by kernel_rfl)
    (hQ : ∀ c a w, Q (.panic c) (a.put d v) w → Q (.panic c) a w := by (exact fun _ _ _ h => h)) : anyL P md ops Q C late (n + 1) ls a w := by
  subst ha
  cases ho : ops[i]? with
  | none => rw [ho] at hi; cases hi
  | some o =>
    rw [ho] at hi hw
    obtain rfl := Option.some.inj hi
    exact firstP ho (Region.noSelect_spec hs) hQ (by simpa using hil) n ls a w (Region.free_spec ho hf) (by simpa using hr) (Or.inl ⟨Option.some.inj hw, fun w _ => hy o ho w⟩) hC h
/-- Number i alone may come up. -/
theorem ready_L {n : Nat} {ls : Array Bool} {a : Act} {w : World} (i : Nat)
    (h : ∀ o, ops[i]? = some o → ∀ K' : Act → World → Prop, Shut (∀ a w, (earlyB late (ls.setIfInBounds i true) = true → C w) → ((earlyB late (ls.setIfInBounds i true) = true → C w) → anyL P md ops Q C late n (ls.setIfInBounds i true) a w) → K' a w) → Oper.wp P o a w K' Q)
    (hr : Region.ready md ops ls = [i] := by kernel_rfl) (hw : (ops[i]?).map (fun o => Region.wanted o (yielded ops a.tmps)) = some true := by kernel_rfl) : anyL P md ops Q C late (n + 1) ls a w := by
  refine ⟨fun h0 => (by rw [hr] at h0; cases h0), fun j hj => ?_⟩
  rw [hr] at hj
  obtain rfl := List.mem_singleton.1 hj
  cases ho : ops[j]? with
  | none => rw [ho] at hw; cases hw
  | some o =>
    rw [ho] at hw
    refine wpOp_step ho (fun K' hK => ?_)
    rw [if_pos (Option.some.inj hw)]
    exact h o ho K' (fun a w hC hA => hK a w ⟨hC, hA hC⟩)
/-- Two may come up. -/
theorem two_L {n : Nat} {ls : Array Bool} {a : Act} {w : World} (i j : Nat)
    (hi : ∀ o, ops[i]? = some o → ∀ K' : Act → World → Prop, Shut (∀ a w, (earlyB late (ls.setIfInBounds i true) = true → C w) → ((earlyB late (ls.setIfInBounds i true) = true → C w) → anyL P md ops Q C late n (ls.setIfInBounds i true) a w) → K' a w) → Oper.wp P o a w K' Q)
    (hj : ∀ o, ops[j]? = some o → ∀ K' : Act → World → Prop, Shut (∀ a w, (earlyB late (ls.setIfInBounds j true) = true → C w) → ((earlyB late (ls.setIfInBounds j true) = true → C w) → anyL P md ops Q C late n (ls.setIfInBounds j true) a w) → K' a w) → Oper.wp P o a w K' Q)
    (hr : Region.ready md ops ls = [i, j] := by kernel_rfl) (hwi : (ops[i]?).map (fun o => Region.wanted o (yielded ops a.tmps)) = some true := by kernel_rfl) (hwj : (ops[j]?).map (fun o => Region.wanted o (yielded ops a.tmps)) = some true := by kernel_rfl) : anyL P md ops Q C late (n + 1) ls a w := by
  refine ⟨fun h0 => (by rw [hr] at h0; cases h0), fun k hk => ?_⟩
  rw [hr] at hk
  have hk : k = i ∨ k = j := by simpa using hk
  rcases hk with rfl | rfl
  · cases ho : ops[k]? with
    | none => rw [ho] at hwi; cases hwi
    | some o =>
      rw [ho] at hwi
      refine wpOp_step ho (fun K' hK => ?_)
      rw [if_pos (Option.some.inj hwi)]
      exact hi o ho K' (fun a w hC hA => hK a w ⟨hC, hA hC⟩)
  · cases ho : ops[k]? with
    | none => rw [ho] at hwj; cases hwj
    | some o =>
      rw [ho] at hwj
      refine wpOp_step ho (fun K' hK => ?_)
      rw [if_pos (Option.some.inj hwj)]
      exact hj o ho K' (fun a w hC hA => hK a w ⟨hC, hA hC⟩)
theorem done_L {ls : Array Bool} {a : Act} {w : World} (hr : Region.ready md ops ls = []) (h : Q .normal a w) : ∀ n, anyL P md ops Q C late n ls a w
  | 0 => ⟨hr, h⟩
  | _ + 1 => ⟨fun _ => h, by rw [hr]; simp⟩
end
end Go.Proofs.Ytepmamfbhocjjaa
end

section
/-
  A drawn region of fifteen operations: three calls, one behind the other, and three new boxes may come up in any order between one another; then three stores. One state with what has come up told by a number and three Bools: each operation is met once. No program is named.
-/
namespace Go.Proofs.Ytepmamfbhocjjaa
open Go.ChangeShapes Go.WideShapes Go.ChangeAt Go.RowKit
set_option linter.unusedVariables false
def lst15 (n : Nat) (b0 b1 b2 : Bool) : Array Bool := #[true, true, decide (1 ≤ n), true, true, decide (2 ≤ n), true, true, decide (3 ≤ n), b0, b1, b2, false, false, false]
def may15 (n : Nat) (b0 b1 b2 : Bool) (i : Nat) : Bool := (i == 2 && n == 0) || (i == 5 && n == 1) || (i == 8 && n == 2) || (i == 9 && !b0) || (i == 10 && !b1) || (i == 11 && !b2) || (i == 12 && n == 3 && b0 && b1 && b2)
def chk15 (ops : Array Oper) : Bool := [0, 1, 2, 3].all fun n => [false, true].all fun b0 => [false, true].all fun b1 => [false, true].all fun b2 =>
  !(Region.ready .any ops (lst15 n b0 b1 b2)).isEmpty && (Region.ready .any ops (lst15 n b0 b1 b2)).all fun i => may15 n b0 b1 b2 i
def low15 (ops : Array Oper) : Bool := [2, 5, 8, 9, 10, 11].all fun i => (ops[i]?).any fun o => o.guard.isNone
section
variable {P : Program} {ops : Array Oper} {Q : Exit → Act → World → Prop} {S : World → Prop}
theorem op_met {i : Nat} {o : Oper} {K : Act → World → Prop} {a : Act} {w : World} (h : ops[i]? = some o) (hg : o.guard = none) (hw : Oper.wp P o a w K Q) : wpOp P ops Q i K a w := by
  unfold Go.wpOp
  simp only [h]
  rw [if_pos (by simp [Region.wanted, hg])]
  exact .inl hw
theorem low_of (h : low15 ops = true) {i : Nat} (hi : i ∈ [2, 5, 8, 9, 10, 11]) : ∃ o, ops[i]? = some o ∧ o.guard = none := by
  have := List.all_eq_true.1 h i hi
  cases ho : ops[i]? with
  | none => rw [ho] at this; cases this
  | some o => rw [ho] at this; exact ⟨o, rfl, by simpa using this⟩
theorem sweep15 (hc : chk15 ops = true) (hl : low15 ops = true) (I : Nat → Bool → Bool → Bool → Act → World → Prop)
    (c2 : ∀ o, ops[2]? = some o → ∀ b0 b1 b2 a w, I 0 b0 b1 b2 a w → ∀ K : Act → World → Prop, Shut (∀ a' w', S w' → I 1 b0 b1 b2 a' w' → K a' w') → Oper.wp P o a w K Q)
    (c5 : ∀ o, ops[5]? = some o → ∀ b0 b1 b2 a w, I 1 b0 b1 b2 a w → ∀ K : Act → World → Prop, Shut (∀ a' w', S w' → I 2 b0 b1 b2 a' w' → K a' w') → Oper.wp P o a w K Q)
    (c8 : ∀ o, ops[8]? = some o → ∀ b0 b1 b2 a w, I 2 b0 b1 b2 a w → ∀ K : Act → World → Prop, Shut (∀ a' w', S w' → I 3 b0 b1 b2 a' w' → K a' w') → Oper.wp P o a w K Q)
    (w9 : ∀ o, ops[9]? = some o → ∀ n b1 b2 a w, I n false b1 b2 a w → ∀ K : Act → World → Prop, Shut (∀ a' w', S w' → I n true b1 b2 a' w' → K a' w') → Oper.wp P o a w K Q)
    (w10 : ∀ o, ops[10]? = some o → ∀ n b0 b2 a w, I n b0 false b2 a w → ∀ K : Act → World → Prop, Shut (∀ a' w', S w' → I n b0 true b2 a' w' → K a' w') → Oper.wp P o a w K Q)
    (w11 : ∀ o, ops[11]? = some o → ∀ n b0 b1 a w, I n b0 b1 false a w → ∀ K : Act → World → Prop, Shut (∀ a' w', S w' → I n b0 b1 true a' w' → K a' w') → Oper.wp P o a w K Q)
    (fin : ∀ a w, S w → I 3 true true true a w → wpAnyH P .any ops Q S 3 (lst15 3 true true true) a w) :
    ∀ (m n : Nat) (b0 b1 b2 : Bool) (a : Act) (w : World), n ≤ 3 → m + n + b0.toNat + b1.toNat + b2.toNat = 6 → S w → I n b0 b1 b2 a w → wpAnyH P .any ops Q S (m + 3) (lst15 n b0 b1 b2) a w := by
  intro m
  induction m with
  | zero =>
    intro n b0 b1 b2 a w hn hm hS hI
    have t0 := Bool.toNat_le b0
    have t1 := Bool.toNat_le b1
    have t2 := Bool.toNat_le b2
    obtain rfl : n = 3 := by omega
    obtain rfl : b0 = true := by cases b0 <;> simp at hm ⊢ <;> omega
    obtain rfl : b1 = true := by cases b1 <;> simp at hm ⊢ <;> omega
    obtain rfl : b2 = true := by cases b2 <;> simp at hm ⊢ <;> omega
    exact fin a w hS hI
  | succ m ih =>
    intro n b0 b1 b2 a w hn hm hS hI
    have hb : ∀ b : Bool, b ∈ [false, true] := fun b => by cases b <;> simp
    have hk := List.all_eq_true.1 (List.all_eq_true.1 (List.all_eq_true.1 (List.all_eq_true.1 hc n (by simp only [List.mem_cons, List.not_mem_nil, or_false]; omega)) b0 (hb b0)) b1 (hb b1)) b2 (hb b2)
    simp only [Bool.and_eq_true, Bool.not_eq_true'] at hk
    obtain ⟨hne, hall⟩ := hk
    have e : m + 1 + 3 = (m + 3) + 1 := by omega
    rw [e]
    refine ⟨fun h => (by rw [h] at hne; cases hne), fun i hi => ?_⟩
    have hmay := List.all_eq_true.1 hall i hi
    simp only [may15, Bool.or_eq_true, Bool.and_eq_true, beq_iff_eq, Bool.not_eq_true'] at hmay
    rcases hmay with (((((⟨rfl, rfl⟩ | ⟨rfl, rfl⟩) | ⟨rfl, rfl⟩) | ⟨rfl, rfl⟩) | ⟨rfl, rfl⟩) | ⟨rfl, rfl⟩) | ⟨⟨⟨⟨rfl, rfl⟩, rfl⟩, rfl⟩, rfl⟩
    · obtain ⟨o, ho, hg⟩ := low_of hl (i := 2) (by simp)
      exact op_met ho hg (c2 o ho b0 b1 b2 a w hI _ (fun a' w' hS' hI' => ⟨hS', ih 1 b0 b1 b2 a' w' (by omega) (by omega) hS' hI'⟩))
    · obtain ⟨o, ho, hg⟩ := low_of hl (i := 5) (by simp)
      exact op_met ho hg (c5 o ho b0 b1 b2 a w hI _ (fun a' w' hS' hI' => ⟨hS', ih 2 b0 b1 b2 a' w' (by omega) (by omega) hS' hI'⟩))
    · obtain ⟨o, ho, hg⟩ := low_of hl (i := 8) (by simp)
      exact op_met ho hg (c8 o ho b0 b1 b2 a w hI _ (fun a' w' hS' hI' => ⟨hS', ih 3 b0 b1 b2 a' w' (by omega) (by omega) hS' hI'⟩))
    · obtain ⟨o, ho, hg⟩ := low_of hl (i := 9) (by simp)
      exact op_met ho hg (w9 o ho n b1 b2 a w hI _ (fun a' w' hS' hI' => ⟨hS', ih n true b1 b2 a' w' hn (by simp at hm ⊢; omega) hS' hI'⟩))
    · obtain ⟨o, ho, hg⟩ := low_of hl (i := 10) (by simp)
      exact op_met ho hg (w10 o ho n b0 b2 a w hI _ (fun a' w' hS' hI' => ⟨hS', ih n b0 true b2 a' w' hn (by simp at hm ⊢; omega) hS' hI'⟩))
    · obtain ⟨o, ho, hg⟩ := low_of hl (i := 11) (by simp)
      exact op_met ho hg (w11 o ho n b0 b1 a w hI _ (fun a' w' hS' hI' => ⟨hS', ih n b0 b1 true a' w' hn (by simp at hm ⊢; omega) hS' hI'⟩))
    · simp at hm
theorem listed_is {fuel : Nat} {l l' : Array Bool} {a : Act} {w : World} (h : l = l') (hh : wpAnyH P .any ops Q S fuel l' a w) : wpAnyH P .any ops Q S fuel l a w := by
  rw [h]
  exact hh
abbrev put6 (a0 : Act) (s10 s11 s12 s52 s55 s58 : Value) : Act := (((((a0.put (some 10) s10).put (some 11) s11).put (some 12) s12).put (some 52) s52).put (some 55) s55).put (some 58) s58
theorem sweepP {a0 : Act} {w0 : World} (J : Nat → Bool → Bool → Bool → Value → Value → Value → Value → Value → Value → World → Prop)
    (c2 : ∀ o, ops[2]? = some o → ∀ b0 b1 b2 s10 s11 s12 s52 s55 s58 w, Hid (J 0 b0 b1 b2 s10 s11 s12 s52 s55 s58 w) → S w → ∀ K : Act → World → Prop, Shut (∀ a' w', S w' → (∃ v, a' = put6 a0 s10 s11 s12 v s55 s58 ∧ J 1 b0 b1 b2 s10 s11 s12 v s55 s58 w') → K a' w') → Oper.wp P o (put6 a0 s10 s11 s12 s52 s55 s58) w K Q)
    (c5 : ∀ o, ops[5]? = some o → ∀ b0 b1 b2 s10 s11 s12 s52 s55 s58 w, Hid (J 1 b0 b1 b2 s10 s11 s12 s52 s55 s58 w) → S w → ∀ K : Act → World → Prop, Shut (∀ a' w', S w' → (∃ v, a' = put6 a0 s10 s11 s12 s52 v s58 ∧ J 2 b0 b1 b2 s10 s11 s12 s52 v s58 w') → K a' w') → Oper.wp P o (put6 a0 s10 s11 s12 s52 s55 s58) w K Q)
    (c8 : ∀ o, ops[8]? = some o → ∀ b0 b1 b2 s10 s11 s12 s52 s55 s58 w, Hid (J 2 b0 b1 b2 s10 s11 s12 s52 s55 s58 w) → S w → ∀ K : Act → World → Prop, Shut (∀ a' w', S w' → (∃ v, a' = put6 a0 s10 s11 s12 s52 s55 v ∧ J 3 b0 b1 b2 s10 s11 s12 s52 s55 v w') → K a' w') → Oper.wp P o (put6 a0 s10 s11 s12 s52 s55 s58) w K Q)
    (w9 : ∀ o, ops[9]? = some o → ∀ n b1 b2 s10 s11 s12 s52 s55 s58 w, Hid (J n false b1 b2 s10 s11 s12 s52 s55 s58 w) → S w → ∀ K : Act → World → Prop, Shut (∀ a' w', S w' → (∃ v, a' = put6 a0 v s11 s12 s52 s55 s58 ∧ J n true b1 b2 v s11 s12 s52 s55 s58 w') → K a' w') → Oper.wp P o (put6 a0 s10 s11 s12 s52 s55 s58) w K Q)
    (w10 : ∀ o, ops[10]? = some o → ∀ n b0 b2 s10 s11 s12 s52 s55 s58 w, Hid (J n b0 false b2 s10 s11 s12 s52 s55 s58 w) → S w → ∀ K : Act → World → Prop, Shut (∀ a' w', S w' → (∃ v, a' = put6 a0 s10 v s12 s52 s55 s58 ∧ J n b0 true b2 s10 v s12 s52 s55 s58 w') → K a' w') → Oper.wp P o (put6 a0 s10 s11 s12 s52 s55 s58) w K Q)
    (w11 : ∀ o, ops[11]? = some o → ∀ n b0 b1 s10 s11 s12 s52 s55 s58 w, Hid (J n b0 b1 false s10 s11 s12 s52 s55 s58 w) → S w → ∀ K : Act → World → Prop, Shut (∀ a' w', S w' → (∃ v, a' = put6 a0 s10 s11 v s52 s55 s58 ∧ J n b0 b1 true s10 s11 v s52 s55 s58 w') → K a' w') → Oper.wp P o (put6 a0 s10 s11 s12 s52 s55 s58) w K Q)
    (fin : ∀ s10 s11 s12 s52 s55 s58 w, Hid (J 3 true true true s10 s11 s12 s52 s55 s58 w) → S w → wpAnyH P .any ops Q S 3 (lst15 3 true true true) (put6 a0 s10 s11 s12 s52 s55 s58) w)
    (hc : chk15 ops = true) (hl : low15 ops = true) (h0 : a0 = put6 a0 undef undef undef undef undef undef) (hS0 : S w0) (hJ0 : J 0 false false false undef undef undef undef undef undef w0) : wpAnyH P .any ops Q S 9 (lst15 0 false false false) a0 w0 := by
  refine sweep15 hc hl (fun n b0 b1 b2 a w => S w ∧ ∃ s10 s11 s12 s52 s55 s58, a = put6 a0 s10 s11 s12 s52 s55 s58 ∧ J n b0 b1 b2 s10 s11 s12 s52 s55 s58 w) ?_ ?_ ?_ ?_ ?_ ?_ ?_ 6 0 false false false a0 w0 (by omega) rfl hS0 ⟨hS0, _, _, _, _, _, _, h0, hJ0⟩
  · rintro o ho b0 b1 b2 a w ⟨hS, s10, s11, s12, s52, s55, s58, rfl, hJ⟩ K hK
    exact c2 o ho b0 b1 b2 s10 s11 s12 s52 s55 s58 w hJ hS K (fun a' w' hS' ⟨v, e, h⟩ => hK a' w' hS' ⟨hS', _, _, _, _, _, _, e, h⟩)
  · rintro o ho b0 b1 b2 a w ⟨hS, s10, s11, s12, s52, s55, s58, rfl, hJ⟩ K hK
    exact c5 o ho b0 b1 b2 s10 s11 s12 s52 s55 s58 w hJ hS K (fun a' w' hS' ⟨v, e, h⟩ => hK a' w' hS' ⟨hS', _, _, _, _, _, _, e, h⟩)
  · rintro o ho b0 b1 b2 a w ⟨hS, s10, s11, s12, s52, s55, s58, rfl, hJ⟩ K hK
    exact c8 o ho b0 b1 b2 s10 s11 s12 s52 s55 s58 w hJ hS K (fun a' w' hS' ⟨v, e, h⟩ => hK a' w' hS' ⟨hS', _, _, _, _, _, _, e, h⟩)
  · rintro o ho n b1 b2 a w ⟨hS, s10, s11, s12, s52, s55, s58, rfl, hJ⟩ K hK
    exact w9 o ho n b1 b2 s10 s11 s12 s52 s55 s58 w hJ hS K (fun a' w' hS' ⟨v, e, h⟩ => hK a' w' hS' ⟨hS', _, _, _, _, _, _, e, h⟩)
  · rintro o ho n b0 b2 a w ⟨hS, s10, s11, s12, s52, s55, s58, rfl, hJ⟩ K hK
    exact w10 o ho n b0 b2 s10 s11 s12 s52 s55 s58 w hJ hS K (fun a' w' hS' ⟨v, e, h⟩ => hK a' w' hS' ⟨hS', _, _, _, _, _, _, e, h⟩)
  · rintro o ho n b0 b1 a w ⟨hS, s10, s11, s12, s52, s55, s58, rfl, hJ⟩ K hK
    exact w11 o ho n b0 b1 s10 s11 s12 s52 s55 s58 w hJ hS K (fun a' w' hS' ⟨v, e, h⟩ => hK a' w' hS' ⟨hS', _, _, _, _, _, _, e, h⟩)
  · rintro a w hS ⟨-, s10, s11, s12, s52, s55, s58, rfl, hJ⟩
    exact fin s10 s11 s12 s52 s55 s58 w hJ hS
end
end Go.Proofs.Ytepmamfbhocjjaa
end
