/-
  A drawn region by hand whose last operations write what its loads read: what the loads read has to hold only as long as none of the late operations has come up. No program is named.
-/
import Derived.Test.YtcmjgkgdeaiifaaHnd
namespace Go.Proofs.Ytcmjgkgdeaiifaa
section
variable {P : Program} {ops : Array Oper} {Q : Exit → Act → World → Prop} {md : Region.Mode} {C : World → Prop} {late : List Nat}
/-- None of the late ones has come up. -/
def earlyB (late : List Nat) (listed : Array Bool) : Bool := late.all fun k => listed.getD k true == false
/-- Each late one waits for number i. -/
def waitB (md : Region.Mode) (ops : Array Oper) (late : List Nat) (i : Nat) : Bool := late.all fun k => k != i && match ops[k]? with | some o => o.after.any (fun e => Region.binds md e && e.on == i) | none => true
/-- Whatever order is picked from here on; C holds as long as no late one has come up. -/
def anyL (P : Program) (md : Region.Mode) (ops : Array Oper) (Q : Exit → Act → World → Prop) (C : World → Prop) (late : List Nat) : Nat → Array Bool → Act → World → Prop
  | 0, ls, a, w => Region.ready md ops ls = [] ∧ Q .normal a w
  | n + 1, ls, a, w => (Region.ready md ops ls = [] → Q .normal a w) ∧ ∀ i ∈ Region.ready md ops ls, wpOp P ops Q i (fun a' w' => (earlyB late (ls.setIfInBounds i true) = true → C w') ∧ anyL P md ops Q C late n (ls.setIfInBounds i true) a' w') a w
theorem any_of_L : ∀ (n : Nat) (ls : Array Bool) (a : Act) (w : World), anyL P md ops Q C late n ls a w → wpAny P md ops Q n ls a w
  | 0, _, _, _, h => h
  | n + 1, _, _, _, h => ⟨h.1, fun i hi => wpOp_mono (fun a' w' k => any_of_L n _ a' w' k.2) (h.2 i hi)⟩
theorem early_mem {ls : Array Bool} (h : earlyB late ls = true) {k : Nat} (hk : k ∈ late) : ls.getD k true = false := by
  have := List.all_eq_true.1 h k hk
  simpa using this
theorem early_set {ls : Array Bool} (h : earlyB late ls = true) {i : Nat} (hi : i ∉ late) : earlyB late (ls.setIfInBounds i true) = true :=
  List.all_eq_true.2 fun k hk => by
    have hne : i ≠ k := fun e => hi (by rw [e]; exact hk)
    rw [getD_set_ne true hne]
    simpa using early_mem h hk
theorem early_back {ls : Array Bool} {i : Nat} (h : earlyB late (ls.setIfInBounds i true) = true) (hi : i ∉ late) : earlyB late ls = true :=
  List.all_eq_true.2 fun k hk => by
    have := early_mem h hk
    have hne : i ≠ k := fun e => hi (by rw [e]; exact hk)
    rw [getD_set_ne true hne] at this
    simpa using this
theorem wait_not {i : Nat} (h : waitB md ops late i = true) {k : Nat} (hk : k ∈ late) {o : Oper} (ho : ops[k]? = some o) : k ≠ i ∧ ∃ e ∈ o.after, Region.binds md e = true ∧ e.on = i := by
  have h1 := List.all_eq_true.1 h k hk
  rw [ho] at h1
  simp only [Bool.and_eq_true, bne_iff_ne, ne_eq, Array.any_eq_true'] at h1
  obtain ⟨h2, e, he, h3⟩ := h1
  refine ⟨h2, e, he, ?_⟩
  simpa using h3
/-- An operation for which all late ones wait may be taken first. -/
theorem firstL {i : Nat} {oi : Oper} {v : Value} (hi : ops[i]? = some oi) (hsel : ∀ (j : Nat) (o : Oper) cs b, ops[j]? = some o → o.op ≠ .select cs b)
    (hQ : ∀ c a w, Q (.panic c) (a.put oi.dst v) w → Q (.panic c) a w) (hwt : waitB md ops late i = true) :
    ∀ (n : Nat) (ls : Array Bool) (a : Act) (w : World),
      (∀ j oj, ops[j]? = some oj → j ≠ i → ls.getD j true = false → (∀ e ∈ oj.after, Region.binds md e = true → e.on ≠ i) → oi.apart ops oj = true) →
      i ∈ Region.ready md ops ls → YieldsIf P ops C oi v a → earlyB late ls = true → C w →
      anyL P md ops Q C late n (ls.setIfInBounds i true) (a.put oi.dst v) w → anyL P md ops Q C late (n + 1) ls a w := by
  have hil : i ∉ late := fun hm => (wait_not hwt hm hi).1 rfl
  intro n
  induction n with
  | zero =>
    intro ls a w _ hr hy he hC H
    refine ⟨fun h => (by rw [h] at hr; cases hr), fun j hj => ?_⟩
    by_cases hji : j = i
    · subst hji; exact hy.wpOp hi hC ⟨fun _ => hC, H⟩
    · have h2 := ready_mono hj hji
      rw [H.1] at h2
      cases h2
  | succ n ih =>
    intro ls a w hfree hr hy he hC H
    refine ⟨fun h => (by rw [h] at hr; cases hr), fun j hj => ?_⟩
    by_cases hji : j = i
    · subst hji; exact hy.wpOp hi hC ⟨fun _ => hC, H⟩
    · have h1 := H.2 j (ready_mono hj hji)
      obtain ⟨hjun, oj, hoj, hall⟩ := mem_ready.1 hj
      have hun := (mem_ready.1 hr).1
      have hno : ∀ e ∈ oj.after, Region.binds md e = true → e.on ≠ i := fun e he hb heq => by
        have h3 := hall e he hb
        rw [heq] at h3
        have h4 : ls.getD i true = ls.getD i false := by
          by_cases hb : i < ls.size
          · simp [hb]
          · rw [Array.getD_eq_getD_getElem?, Array.getElem?_eq_none (Nat.le_of_not_lt hb)] at h3
            cases h3
        rw [h4, h3] at hun
        cases hun
      have hjl : j ∉ late := fun hm => by
        obtain ⟨_, e, he, hb, hon⟩ := wait_not hwt hm hoj
        exact hno e he hb hon
      have hej : earlyB late (ls.setIfInBounds j true) = true := early_set he hjl
      have hej2 : earlyB late ((ls.setIfInBounds i true).setIfInBounds j true) = true := early_set (early_set he hil) hjl
      have h2 := wpOp_putIf hoj (hfree j oj hoj hji hjun hno) (fun cs b => hsel i oi cs b hi) (fun cs b => hsel j oj cs b hoj) hQ hy h1
      refine wpOp_mono (fun a' w' h3 => ⟨fun _ => h3.2.1 hej2, ih (ls.setIfInBounds j true) a' w' (fun k ok hk hki hku hkn => hfree k ok hk hki ?_ hkn) (ready_mono hr (Ne.symm hji)) h3.1 hej (h3.2.1 hej2) ?_⟩) h2
      · by_cases hjk : j = k
        · subst hjk; exact hjun
        · rw [getD_set_ne true hjk] at hku; exact hku
      · rw [Array.setIfInBounds_comm _ _ hji]
        exact h3.2.2
/-- An operation that yields the same in whatever world may be taken first. -/
theorem firstP {i : Nat} {oi : Oper} {v : Value} (hi : ops[i]? = some oi) (hsel : ∀ (j : Nat) (o : Oper) cs b, ops[j]? = some o → o.op ≠ .select cs b)
    (hQ : ∀ c a w, Q (.panic c) (a.put oi.dst v) w → Q (.panic c) a w) (hil : i ∉ late) :
    ∀ (n : Nat) (ls : Array Bool) (a : Act) (w : World),
      (∀ j oj, ops[j]? = some oj → j ≠ i → ls.getD j true = false → (∀ e ∈ oj.after, Region.binds md e = true → e.on ≠ i) → oi.apart ops oj = true) →
      i ∈ Region.ready md ops ls → YieldsIf P ops (fun _ => True) oi v a → (earlyB late ls = true → C w) →
      anyL P md ops Q C late n (ls.setIfInBounds i true) (a.put oi.dst v) w → anyL P md ops Q C late (n + 1) ls a w := by
  intro n
  induction n with
  | zero =>
    intro ls a w _ hr hy hC H
    refine ⟨fun h => (by rw [h] at hr; cases hr), fun j hj => ?_⟩
    by_cases hji : j = i
    · subst hji; exact hy.wpOp hi trivial ⟨fun e => hC (early_back e hil), H⟩
    · have h2 := ready_mono hj hji
      rw [H.1] at h2
      cases h2
  | succ n ih =>
    intro ls a w hfree hr hy hC H
    refine ⟨fun h => (by rw [h] at hr; cases hr), fun j hj => ?_⟩
    by_cases hji : j = i
    · subst hji; exact hy.wpOp hi trivial ⟨fun e => hC (early_back e hil), H⟩
    · have h1 := H.2 j (ready_mono hj hji)
      obtain ⟨hjun, oj, hoj, hall⟩ := mem_ready.1 hj
      have hun := (mem_ready.1 hr).1
      have hno : ∀ e ∈ oj.after, Region.binds md e = true → e.on ≠ i := fun e he hb heq => by
        have h3 := hall e he hb
        rw [heq] at h3
        have h4 : ls.getD i true = ls.getD i false := by
          by_cases hb : i < ls.size
          · simp [hb]
          · rw [Array.getD_eq_getD_getElem?, Array.getElem?_eq_none (Nat.le_of_not_lt hb)] at h3
            cases h3
        rw [h4, h3] at hun
        cases hun
      have h2 := wpOp_putIf hoj (hfree j oj hoj hji hjun hno) (fun cs b => hsel i oi cs b hi) (fun cs b => hsel j oj cs b hoj) hQ hy h1
      have hcm : (ls.setIfInBounds i true).setIfInBounds j true = (ls.setIfInBounds j true).setIfInBounds i true := (Array.setIfInBounds_comm _ _ hji).symm
      refine wpOp_mono (fun a' w' h3 => ?_) h2
      rw [hcm] at h3
      have hc' : earlyB late (ls.setIfInBounds j true) = true → C w' := fun e => h3.2.1 (early_set e hil)
      refine ⟨hc', ih (ls.setIfInBounds j true) a' w' (fun k ok hk hki hku hkn => hfree k ok hk hki ?_ hkn) (ready_mono hr (Ne.symm hji)) h3.1 hc' h3.2.2⟩
      by_cases hjk : j = k
      · subst hjk; exact hjun
      · rw [getD_set_ne true hjk] at hku; exact hku
/-- The beginning. -/
theorem region_L {id : Nat} {a : Act} {w : World} (late : List Nat) (C : World → Prop) (hm : P.follows .mixedOrders = true) (hC : C w.drew) (h : C w.drew → anyL P .any ops Q C late ops.size (Array.replicate ops.size false) a w.drew) : (Code.region id ops true).wp P Q a w :=
  wp_region_any hm (any_of_L _ _ _ _ (h hC))
/-- Number i is taken: it yields v wherever C holds. -/
theorem take_L {n : Nat} {ls : Array Bool} {a a' : Act} {w : World} {v : Value} (i : Nat) (d : Option Tmp)
    (h : anyL P md ops Q C late n (ls.setIfInBounds i true) a' w)
    (hy : ∀ o, ops[i]? = some o → ∀ w, C w → (execOp a.eval o).run P w = .ok (.value v) w) (ha : a.put d v = a')
    (hi : (ops[i]?).map (·.dst) = some d := by kernel_rfl) (hs : Region.noSelect ops = true := by kernel_rfl) (hf : Region.free md ops ls i = true := by kernel_rfl) (hr : (Region.ready md ops ls).contains i = true := by kernel_rfl)
    (hw : (ops[i]?).map (fun o => Region.wanted o (yielded ops a.tmps)) = some true := by kernel_rfl) (hwt : waitB md ops late i = true := by kernel_rfl) (he : earlyB late ls = true := by kernel_rfl)
    (hQ : ∀ c a w, Q (.panic c) (a.put d v) w → Q (.panic c) a w := by (exact fun _ _ _ h => h)) (hC : C w := by assumption) : anyL P md ops Q C late (n + 1) ls a w := by
  subst ha
  cases ho : ops[i]? with
  | none => rw [ho] at hi; cases hi
  | some o =>
    rw [ho] at hi hw
    obtain rfl := Option.some.inj hi
    exact firstL ho (Region.noSelect_spec hs) hQ hwt n ls a w (Region.free_spec ho hf) (by simpa using hr) (Or.inl ⟨Option.some.inj hw, hy o ho⟩) he hC h
/-- Number i is taken: it yields v in whatever world. -/
theorem take_P {n : Nat} {ls : Array Bool} {a a' : Act} {w : World} {v : Value} (i : Nat) (d : Option Tmp)
    (h : anyL P md ops Q C late n (ls.setIfInBounds i true) a' w)
    (hy : ∀ o, ops[i]? = some o → ∀ w, (execOp a.eval o).run P w = .ok (.value v) w) (ha : a.put d v = a') (hC : earlyB late ls = true → C w)
    (hi : (ops[i]?).map (·.dst) = some d := by kernel_rfl) (hs : Region.noSelect ops = true := by kernel_rfl) (hf : Region.free md ops ls i = true := by kernel_rfl) (hr : (Region.ready md ops ls).contains i = true := by kernel_rfl)
    (hw : (ops[i]?).map (fun o => Region.wanted o (yielded ops a.tmps)) = some true := by kernel_rfl) (hil : late.contains i = false := by kernel_rfl)
    (hQ : ∀ c a w, Q (.panic c) (a.put d v) w → Q (.panic c) a w := by (exact fun _ _ _ h => h)) : anyL P md ops Q C late (n + 1) ls a w := by
  subst ha
  cases ho : ops[i]? with
  | none => rw [ho] at hi; cases hi
  | some o =>
    rw [ho] at hi hw
    obtain rfl := Option.some.inj hi
    exact firstP ho (Region.noSelect_spec hs) hQ (by simpa using hil) n ls a w (Region.free_spec ho hf) (by simpa using hr) (Or.inl ⟨Option.some.inj hw, fun w _ => hy o ho w⟩) hC h
/-- Number i alone may come up. -/
theorem ready_L {n : Nat} {ls : Array Bool} {a : Act} {w : World} (i : Nat)
    (h : ∀ o, ops[i]? = some o → ∀ K' : Act → World → Prop, Shut (∀ a w, (earlyB late (ls.setIfInBounds i true) = true → C w) → ((earlyB late (ls.setIfInBounds i true) = true → C w) → anyL P md ops Q C late n (ls.setIfInBounds i true) a w) → K' a w) → Oper.wp P o a w K' Q)
    (hr : Region.ready md ops ls = [i] := by kernel_rfl) (hw : (ops[i]?).map (fun o => Region.wanted o (yielded ops a.tmps)) = some true := by kernel_rfl) : anyL P md ops Q C late (n + 1) ls a w := by
  refine ⟨fun h0 => (by rw [hr] at h0; cases h0), fun j hj => ?_⟩
  rw [hr] at hj
  obtain rfl := List.mem_singleton.1 hj
  cases ho : ops[j]? with
  | none => rw [ho] at hw; cases hw
  | some o =>
    rw [ho] at hw
    refine wpOp_step ho (fun K' hK => ?_)
    rw [if_pos (Option.some.inj hw)]
    exact h o ho K' (fun a w hC hA => hK a w ⟨hC, hA hC⟩)
/-- Two may come up. -/
theorem two_L {n : Nat} {ls : Array Bool} {a : Act} {w : World} (i j : Nat)
    (hi : ∀ o, ops[i]? = some o → ∀ K' : Act → World → Prop, Shut (∀ a w, (earlyB late (ls.setIfInBounds i true) = true → C w) → ((earlyB late (ls.setIfInBounds i true) = true → C w) → anyL P md ops Q C late n (ls.setIfInBounds i true) a w) → K' a w) → Oper.wp P o a w K' Q)
    (hj : ∀ o, ops[j]? = some o → ∀ K' : Act → World → Prop, Shut (∀ a w, (earlyB late (ls.setIfInBounds j true) = true → C w) → ((earlyB late (ls.setIfInBounds j true) = true → C w) → anyL P md ops Q C late n (ls.setIfInBounds j true) a w) → K' a w) → Oper.wp P o a w K' Q)
    (hr : Region.ready md ops ls = [i, j] := by kernel_rfl) (hwi : (ops[i]?).map (fun o => Region.wanted o (yielded ops a.tmps)) = some true := by kernel_rfl) (hwj : (ops[j]?).map (fun o => Region.wanted o (yielded ops a.tmps)) = some true := by kernel_rfl) : anyL P md ops Q C late (n + 1) ls a w := by
  refine ⟨fun h0 => (by rw [hr] at h0; cases h0), fun k hk => ?_⟩
  rw [hr] at hk
  have hk : k = i ∨ k = j := by simpa using hk
  rcases hk with rfl | rfl
  · cases ho : ops[k]? with
    | none => rw [ho] at hwi; cases hwi
    | some o =>
      rw [ho] at hwi
      refine wpOp_step ho (fun K' hK => ?_)
      rw [if_pos (Option.some.inj hwi)]
      exact hi o ho K' (fun a w hC hA => hK a w ⟨hC, hA hC⟩)
  · cases ho : ops[k]? with
    | none => rw [ho] at hwj; cases hwj
    | some o =>
      rw [ho] at hwj
      refine wpOp_step ho (fun K' hK => ?_)
      rw [if_pos (Option.some.inj hwj)]
      exact hj o ho K' (fun a w hC hA => hK a w ⟨hC, hA hC⟩)
theorem done_L {ls : Array Bool} {a : Act} {w : World} (hr : Region.ready md ops ls = []) (h : Q .normal a w) : ∀ n, anyL P md ops Q C late n ls a w
  | 0 => ⟨hr, h⟩
  | _ + 1 => ⟨fun _ => h, by rw [hr]; simp⟩
end
end Go.Proofs.Ytcmjgkgdeaiifaa
