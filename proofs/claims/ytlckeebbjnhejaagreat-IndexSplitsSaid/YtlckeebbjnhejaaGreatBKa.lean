/-
  Texts laid together: Ka.
-/
import Derived.Test.YtlckeebbjnhejaaGreatBVo
import Derived.Test.YtlckeebbjnhejaaGreatBCmp
section
/-
  Package index as plain data: keys by rising keys with their histories; a key's place, what is in a range, what comes of a change. No program is named.
-/
namespace Go.Proofs.YtlckeebbjnhejaaGreat
open Go.ChangeShapes Go.WideShapes Go.ChangeAt Go.RowKit
set_option linter.unusedVariables false
set_option linter.unusedSimpArgs false

/-! ### the order of keys -/
theorem ahead_trans : ∀ {a b c : List UInt8}, ahead a b = true → ahead b c = true → ahead a c = true
  | _, _, [], _, h => by simp [ahead] at h
  | _, [], _ :: _, h, _ => by simp [ahead] at h
  | [], _ :: _, _ :: _, _, _ => by simp [ahead]
  | x :: a, y :: b, z :: c, h1, h2 => by
    unfold ahead at h1 h2 ⊢
    by_cases e1 : x = y
    · subst e1
      rw [if_pos rfl] at h1
      by_cases e2 : x = z
      · subst e2
        rw [if_pos rfl] at h2 ⊢
        exact ahead_trans h1 h2
      · rw [if_neg e2] at h2 ⊢
        exact h2
    · rw [if_neg e1] at h1
      by_cases e2 : y = z
      · subst e2
        rw [if_neg e1]
        exact h1
      · rw [if_neg e2] at h2
        have h1 : x < y := by simpa using h1
        have h2 : y < z := by simpa using h2
        rw [UInt8.lt_iff_toNat_lt] at h1 h2
        have e3 : ¬ x = z := fun e => by subst e; omega
        rw [if_neg e3]
        simp only [decide_eq_true_eq, UInt8.lt_iff_toNat_lt]
        omega
theorem ordB_neg {a b : List UInt8} : ordB a b < 0 ↔ ahead a b = true := by
  unfold ordB
  cases h : ahead a b
  · cases ahead b a <;> simp
  · simp
theorem ordB_zer {a b : List UInt8} : ordB a b = 0 ↔ a = b := by
  unfold ordB
  constructor
  · intro h
    cases h1 : ahead a b with
    | true => rw [h1] at h; simp at h
    | false =>
      cases h2 : ahead b a with
      | true => rw [h1, h2] at h; simp at h
      | false => exact ahead_eq a b h1 h2
  · rintro rfl
    simp [ahead_self]
theorem ahead_tri (a b : List UInt8) : ahead a b = true ∨ a = b ∨ ahead b a = true := by
  cases h1 : ahead a b with
  | true => exact .inl rfl
  | false =>
    cases h2 : ahead b a with
    | true => exact .inr (.inr rfl)
    | false => exact .inr (.inl (ahead_eq a b h1 h2))
theorem ahead_ne {a b : List UInt8} (h : ahead a b = true) : a ≠ b := fun e => by subst e; rw [ahead_self] at h; cases h

/-! ### rows by rising keys -/
abbrev PE := List UInt8 × List Gn
def RiseX (P : List PE) : Prop := List.Pairwise (fun a b => ahead a.1 b.1 = true) P
theorem RiseX.sub {P Q : List PE} (h : RiseX P) (s : List.Sublist Q P) : RiseX Q := List.Pairwise.sublist s h
/-- How many keys are ahead. -/
def plX (P : List PE) (k : List UInt8) : Nat := P.countP fun e => ahead e.1 k
theorem plX_le (P : List PE) (k : List UInt8) : plX P k ≤ P.length := List.countP_le_length
theorem plX_cut : ∀ {P : List PE}, RiseX P → ∀ (k : List UInt8) (t : Nat) (h : t < P.length), ahead P[t].1 k = decide (t < plX P k)
  | [], _, k, t, h => absurd h (by simp)
  | p :: r, hp, k, t, h => by
    have hp' := List.pairwise_cons.1 hp
    by_cases hb : ahead p.1 k = true
    · have e : plX (p :: r) k = plX r k + 1 := by unfold plX; exact List.countP_cons_of_pos (p := fun e : PE => ahead e.1 k) hb
      rw [e]
      cases t with
      | zero => simp [hb]
      | succ t =>
        have := plX_cut hp'.2 k t (by simpa using h)
        simpa using this
    · have e : plX (p :: r) k = 0 := by
        unfold plX
        rw [List.countP_eq_zero]
        intro y hy
        rcases List.mem_cons.1 hy with rfl | hy
        · exact hb
        · intro hyb
          exact hb (ahead_trans (hp'.1 y hy) hyb)
      rw [e]
      cases hv : ahead (p :: r)[t].1 k with
      | false => simp
      | true =>
        exfalso
        cases t with
        | zero => exact hb hv
        | succ t => exact hb (ahead_trans (hp'.1 _ (List.getElem_mem (by simpa using h))) hv)
/-- Is it there? -/
def knX (P : List PE) (k : List UInt8) : Bool := match P[plX P k]? with | some e => decide (e.1 = k) | none => false
/-- Its history. -/
def loX (P : List PE) (k : List UInt8) : List Gn := if knX P k then (match P[plX P k]? with | some e => e.2 | none => []) else []
/-- What comes of a history that it gets. -/
def chX (P : List PE) (k : List UInt8) (g : List Gn) : List PE := if knX P k then P.set (plX P k) (k, g) else P.take (plX P k) ++ (k, g) :: P.drop (plX P k)
theorem plX_pre {P : List PE} (h : RiseX P) (k : List UInt8) : ∀ e ∈ P.take (plX P k), ahead e.1 k = true := by
  intro e he
  obtain ⟨i, hi, rfl⟩ := List.getElem_of_mem he
  have hi' : i < plX P k := by rw [List.length_take] at hi; omega
  have hl : i < P.length := by rw [List.length_take] at hi; omega
  rw [List.getElem_take, plX_cut h k i hl]
  simpa using hi'
theorem plX_post {P : List PE} (h : RiseX P) (k : List UInt8) : ∀ e ∈ P.drop (plX P k), ahead e.1 k = false := by
  intro e he
  obtain ⟨i, hi, rfl⟩ := List.getElem_of_mem he
  have hl : plX P k + i < P.length := by rw [List.length_drop] at hi; omega
  rw [List.getElem_drop, plX_cut h k _ hl]
  simp
/-- A row parted at a key: what is ahead, the key itself, or none, what is behind. -/
theorem parted {P : List PE} (h : RiseX P) (k : List UInt8) : (knX P k = true ∧ ∃ Q e R, P = Q ++ e :: R ∧ Q.length = plX P k ∧ e.1 = k ∧ loX P k = e.2 ∧ (∀ g, chX P k g = Q ++ (k, g) :: R) ∧ (∀ x ∈ Q, ahead x.1 k = true) ∧ ∀ x ∈ R, ahead k x.1 = true) ∨
    (knX P k = false ∧ ∃ Q R, P = Q ++ R ∧ Q.length = plX P k ∧ loX P k = [] ∧ (∀ g, chX P k g = Q ++ (k, g) :: R) ∧ (∀ x ∈ Q, ahead x.1 k = true) ∧ ∀ x ∈ R, ahead k x.1 = true) := by
  have hq := plX_pre h k
  have hr := plX_post h k
  have hpl := plX_le P k
  have hlen : (P.take (plX P k)).length = plX P k := by rw [List.length_take]; omega
  cases hk : knX P k with
  | true =>
    refine .inl ⟨rfl, ?_⟩
    unfold knX at hk
    cases he : P[plX P k]? with
    | none => rw [he] at hk; cases hk
    | some e =>
      rw [he] at hk
      have hek : e.1 = k := by simpa using hk
      obtain ⟨hl, hel⟩ := List.getElem?_eq_some_iff.1 he
      have hd : P.drop (plX P k) = e :: P.drop (plX P k + 1) := by rw [List.drop_eq_getElem_cons hl, hel]
      have hP : P = P.take (plX P k) ++ e :: P.drop (plX P k + 1) := by rw [← hd, List.take_append_drop]
      refine ⟨P.take (plX P k), e, P.drop (plX P k + 1), hP, hlen, hek, ?_, ?_, hq, ?_⟩
      · unfold loX knX
        rw [he]
        simp [hek]
      · intro g
        unfold chX knX
        rw [he]
        simp only [hek, decide_true, if_true]
        rw [List.set_eq_take_append_cons_drop, if_pos hl]
      · intro x hx
        have hR : RiseX (e :: P.drop (plX P k + 1)) := h.sub (by rw [← hd]; exact List.drop_sublist _ _)
        have := (List.pairwise_cons.1 hR).1 x hx
        rwa [hek] at this
  | false =>
    refine .inr ⟨rfl, P.take (plX P k), P.drop (plX P k), (List.take_append_drop _ _).symm, hlen, by simp [loX, hk], fun g => by simp [chX, hk], hq, ?_⟩
    intro x hx
    have h0 := hr x hx
    rcases ahead_tri x.1 k with h1 | h1 | h1
    · rw [h0] at h1; cases h1
    · exfalso
      -- it would be the first one behind
      cases hd : P.drop (plX P k) with
      | nil => rw [hd] at hx; cases hx
      | cons y r =>
        rw [hd] at hx
        have hR : RiseX (y :: r) := h.sub (by rw [← hd]; exact List.drop_sublist _ _)
        have hyk : y.1 = k := by
          rcases List.mem_cons.1 hx with rfl | hx
          · exact h1
          · have := (List.pairwise_cons.1 hR).1 x hx
            rw [h1] at this
            have hy := hr y (by rw [hd]; exact List.mem_cons_self ..)
            rw [hy] at this; cases this
        have hg : P[plX P k]? = some y := by
          have := congrArg (fun l => l[0]?) hd
          simpa [List.getElem?_drop] using this
        unfold knX at hk
        rw [hg] at hk
        simp [hyk] at hk
    · exact h1
theorem chX_rise {P : List PE} (h : RiseX P) (k : List UInt8) (g : List Gn) : RiseX (chX P k g) := by
  rcases parted h k with ⟨_, Q, e, R, rfl, _, he, _, hc, h1, h2⟩ | ⟨_, Q, R, rfl, _, _, hc, h1, h2⟩
  · rw [hc]
    have hp := List.pairwise_append.1 h
    exact List.pairwise_append.2 ⟨hp.1, List.pairwise_cons.2 ⟨h2, (List.pairwise_cons.1 hp.2.1).2⟩, fun a ha b hb => by
      rcases List.mem_cons.1 hb with rfl | hb
      · exact h1 a ha
      · exact hp.2.2 a ha b (List.mem_cons_of_mem _ hb)⟩
  · rw [hc]
    have hp := List.pairwise_append.1 h
    exact List.pairwise_append.2 ⟨hp.1, List.pairwise_cons.2 ⟨h2, hp.2.1⟩, fun a ha b hb => by
      rcases List.mem_cons.1 hb with rfl | hb
      · exact h1 a ha
      · exact hp.2.2 a ha b hb⟩

/-! ### ranges -/
def inX (key end_ : List UInt8) (e : PE) : Bool := inB e.1 key end_
theorem in_not {k key end_ : List UInt8} (h : ahead k key = true) : inB k key end_ = false := by
  unfold inB
  by_cases h1 : end_ = []
  · rw [if_pos h1]
    simp only [decide_eq_false_iff_not]
    exact ahead_ne h
  · rw [if_neg h1, if_pos h]
theorem in_past {a b key end_ : List UInt8} (h : ahead a b = true) (hk : ahead a key = false) (hn : inB a key end_ = false) : inB b key end_ = false := by
  unfold inB at hn ⊢
  by_cases h1 : end_ = []
  · rw [if_pos h1] at hn ⊢
    simp only [decide_eq_false_iff_not] at hn ⊢
    intro e
    subst e
    exact absurd h (by rw [hk]; simp)
  · rw [if_neg h1] at hn ⊢
    rw [hk] at hn
    simp only [Bool.false_eq_true, if_false, Bool.or_eq_false_iff, decide_eq_false_iff_not] at hn
    by_cases h2 : ahead b key = true
    · rw [if_pos h2]
    · rw [if_neg h2]
      simp only [Bool.or_eq_false_iff, decide_eq_false_iff_not]
      refine ⟨hn.1, ?_⟩
      cases h3 : ahead b end_ with
      | false => rfl
      | true => rw [ahead_trans h h3] at hn; cases hn.2
/-- Those in a range stand together: behind the place of its key, as long as they are in. -/
theorem range_is {P : List PE} (h : RiseX P) (key end_ : List UInt8) : P.filter (inX key end_) = (P.drop (plX P key)).takeWhile (inX key end_) := by
  have e : P.filter (inX key end_) = (P.take (plX P key)).filter (inX key end_) ++ (P.drop (plX P key)).filter (inX key end_) := by rw [← List.filter_append, List.take_append_drop]
  have e1 : (P.take (plX P key)).filter (inX key end_) = [] := by
    rw [List.filter_eq_nil_iff]
    intro x hx
    unfold inX
    rw [in_not (plX_pre h key x hx)]
    simp
  rw [e, e1, List.nil_append]
  have hr := plX_post h key
  have hR : RiseX (P.drop (plX P key)) := h.sub (List.drop_sublist _ _)
  generalize P.drop (plX P key) = R at hr hR
  clear e e1 h
  induction R with
  | nil => rfl
  | cons y r ih =>
    have hp := List.pairwise_cons.1 hR
    cases hy : inX key end_ y with
    | true =>
      rw [List.filter_cons_of_pos hy, List.takeWhile_cons_of_pos hy, ih (fun x hx => hr x (List.mem_cons_of_mem _ hx)) hp.2]
    | false =>
      rw [List.filter_cons_of_neg (by simp [hy]), List.takeWhile_cons_of_neg (by simp [hy])]
      rw [List.filter_eq_nil_iff]
      intro x hx
      have := in_past (hp.1 x hx) (hr y (List.mem_cons_self ..)) (show inB y.1 key end_ = false from hy)
      unfold inX
      rw [this]
      simp
/-- How many of a row are in. -/
def cntX (P : List PE) (key end_ : List UInt8) : Nat := ((P.drop (plX P key)).takeWhile (inX key end_)).length
theorem range_take {P : List PE} (h : RiseX P) (key end_ : List UInt8) : P.filter (inX key end_) = (P.drop (plX P key)).take (cntX P key end_) := by
  rw [range_is h]
  unfold cntX
  generalize P.drop (plX P key) = R
  induction R with
  | nil => rfl
  | cons y r ih =>
    cases hy : inX key end_ y with
    | true => rw [List.takeWhile_cons_of_pos hy]; simp [← ih]
    | false => rw [List.takeWhile_cons_of_neg (by simp [hy])]; simp
theorem cntX_le (P : List PE) (key end_ : List UInt8) : plX P key + cntX P key end_ ≤ P.length := by
  have h1 := plX_le P key
  have h2 : cntX P key end_ ≤ (P.drop (plX P key)).length := (List.takeWhile_sublist (inX key end_)).length_le
  rw [List.length_drop] at h2
  omega
theorem takeWhile_uniq {α : Type} (f : α → Bool) : ∀ {l : List α} {m : Nat}, m ≤ l.length → (∀ t (h : t < l.length), t < m → f l[t] = true) → (∀ h : m < l.length, f l[m] = false) → (l.takeWhile f).length = m
  | [], m, hm, _, _ => by simp at hm; simp [hm]
  | x :: r, 0, _, _, h2 => by
    have := h2 (by simp)
    rw [List.takeWhile_cons_of_neg (by simpa using this)]
    rfl
  | x :: r, m + 1, hm, h1, h2 => by
    have h0 : f x = true := h1 0 (by simp) (by omega)
    rw [List.takeWhile_cons_of_pos h0, List.length_cons, takeWhile_uniq f (l := r) (m := m) (by simpa using hm) (fun t ht htm => by have := h1 (t + 1) (by simpa using ht) (by omega); simpa using this) (fun h => by have := h2 (by simpa using h); simpa using this)]
/-- What is told of a range. -/
def hitsX (P : List PE) (key end_ : List UInt8) (at_ : Int) : List (List UInt8 × (Rv × Int × Int)) := (P.filter (inX key end_)).filterMap fun e => (getG e.2 at_).map fun f => (e.1, f)
end Go.Proofs.YtlckeebbjnhejaaGreat
end
