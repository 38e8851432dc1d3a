/-
  A key's history as plain data: generations; what is told of a Main; what Compact leaves; the entries from a Main on. No program is named.
-/
import Derived.Test.YthpaliagmnclfaaVo
namespace Go.Proofs.Ythpaliagmnclfaa
open Go.ChangeShapes Go.WideShapes Go.ChangeAt Go.RowKit
set_option linter.unusedVariables false
set_option linter.unusedSimpArgs false

abbrev Rv := Int × Int
def ltR (a b : Rv) : Bool := decide (ordR a.1 a.2 b.1 b.2 < 0)
theorem ltR_iff {a b : Rv} : ltR a b = true ↔ a.1 < b.1 ∨ (a.1 = b.1 ∧ a.2 < b.2) := by
  unfold ltR ordR
  rw [decide_eq_true_eq]
  by_cases h1 : a.1 < b.1
  · simp [h1]
  · by_cases h2 : b.1 < a.1
    · simp [h1, h2]; omega
    · have : a.1 = b.1 := by omega
      by_cases h3 : a.2 < b.2
      · simp [h1, h2, h3, this]
      · by_cases h4 : b.2 < a.2 <;> simp [h1, h2, h3, h4, this]
theorem ltR_trans {a b c : Rv} (h : ltR a b = true) (k : ltR b c = true) : ltR a c = true := by
  rw [ltR_iff] at *; omega
theorem ltR_irr (a : Rv) : ltR a a = false := by
  cases h : ltR a a with
  | false => rfl
  | true => rw [ltR_iff] at h; omega
theorem ltR_asymm {a b : Rv} (h : ltR a b = true) : ltR b a = false := by
  cases k : ltR b a with
  | false => rfl
  | true => rw [ltR_iff] at h k; omega
theorem le_of_ordR {a b : Rv} : decide (ordR a.1 a.2 b.1 b.2 ≤ 0) = !ltR b a := by
  rw [Bool.eq_iff_iff]
  simp only [decide_eq_true_eq, Bool.not_eq_true', ← Bool.not_eq_true, ltR_iff]
  unfold ordR
  by_cases h1 : a.1 < b.1
  · simp [h1]; omega
  · by_cases h2 : b.1 < a.1
    · simp [h1, h2]
    · have : a.1 = b.1 := by omega
      by_cases h3 : a.2 < b.2
      · simp [h1, h2, h3, this]; omega
      · by_cases h4 : b.2 < a.2 <;> simp [h1, h2, h3, h4, this]
/-- A generation. -/
structure Gn where
  c : Int
  v : Int
  ps : List Rv
  e : Rv
def Gn.ended (x : Gn) : Bool := !(decide (x.e = (0, 0)))
def Gn.revs (x : Gn) : List Rv := x.ps ++ (if x.ended then [x.e] else [])
def flatG (gs : List Gn) : List Rv := gs.flatMap Gn.revs
structure GInv (gs : List Gn) : Prop where
  ne : ∀ x ∈ gs, x.ps ≠ []
  right : ∀ q ∈ flatG gs, rightR q.1 q.2 = true
  rise : List.Pairwise (fun a b => ltR a b = true) (flatG gs)
  en : ∀ x ∈ gs.dropLast, x.ended = true
theorem GInv.nil : GInv [] := ⟨fun x h => absurd h (by simp), fun q h => absurd h (by simp [flatG]), List.Pairwise.nil, fun x h => absurd h (by simp)⟩
theorem GInv.tail {x : Gn} {r : List Gn} (h : GInv (x :: r)) : GInv r where
  ne y hy := h.ne y (List.mem_cons_of_mem _ hy)
  right q hq := h.right q (by simp only [flatG, List.flatMap_cons, List.mem_append]; exact .inr hq)
  rise := by have := h.rise; simp only [flatG, List.flatMap_cons, List.pairwise_append] at this; exact this.2.1
  en y hy := h.en y (by
    cases r with
    | nil => simp at hy
    | cons z r => rw [List.dropLast_cons_cons]; exact List.mem_cons_of_mem _ hy)
theorem GInv.head {x : Gn} {r : List Gn} (h : GInv (x :: r)) : x.ps ≠ [] ∧ List.Pairwise (fun a b => ltR a b = true) x.revs ∧ (∀ q ∈ x.revs, rightR q.1 q.2 = true) ∧ (∀ a ∈ x.revs, ∀ b ∈ flatG r, ltR a b = true) ∧ (r ≠ [] → x.ended = true) := by
  have hr := h.rise
  simp only [flatG, List.flatMap_cons, List.pairwise_append] at hr
  refine ⟨h.ne x (List.mem_cons_self ..), hr.1, fun q hq => h.right q (by simp only [flatG, List.flatMap_cons, List.mem_append]; exact .inl hq), fun a ha b hb => hr.2.2 a ha b hb, fun hn => h.en x ?_⟩
  cases r with
  | nil => exact absurd rfl hn
  | cons z r => rw [List.dropLast_cons_cons]; exact List.mem_cons_self ..
theorem GInv.cons {x : Gn} {r : List Gn} (k : GInv r) (h1 : x.ps ≠ []) (h2 : List.Pairwise (fun a b => ltR a b = true) x.revs) (h3 : ∀ q ∈ x.revs, rightR q.1 q.2 = true) (h4 : ∀ a ∈ x.revs, ∀ b ∈ flatG r, ltR a b = true) (h5 : r ≠ [] → x.ended = true) : GInv (x :: r) where
  ne y hy := by
    rcases List.mem_cons.1 hy with rfl | hy
    · exact h1
    · exact k.ne y hy
  right q hq := by
    simp only [flatG, List.flatMap_cons, List.mem_append] at hq
    rcases hq with hq | hq
    · exact h3 q hq
    · exact k.right q hq
  rise := by
    simp only [flatG, List.flatMap_cons, List.pairwise_append]
    exact ⟨h2, k.rise, h4⟩
  en y hy := by
    cases r with
    | nil => simp at hy
    | cons z r =>
      rw [List.dropLast_cons_cons] at hy
      rcases List.mem_cons.1 hy with rfl | hy
      · exact h5 (by simp)
      · exact k.en y hy
theorem Gn.mem_e {x : Gn} (h : x.ended = true) : x.e ∈ x.revs := by unfold Gn.revs; rw [if_pos h]; simp
theorem Gn.mem_p {x : Gn} {q : Rv} (h : q ∈ x.ps) : q ∈ x.revs := by unfold Gn.revs; exact List.mem_append.2 (.inl h)
theorem GInv.puts {gs : List Gn} (h : GInv gs) {x : Gn} (hx : x ∈ gs) : List.Pairwise (fun a b => ltR a b = true) x.ps := by
  induction gs with
  | nil => simp at hx
  | cons y r ih =>
    rcases List.mem_cons.1 hx with rfl | hx
    · have := h.head.2.1
      unfold Gn.revs at this
      exact (List.pairwise_append.1 this).1
    · exact ih h.tail hx
/-- How many are below. -/
def cntR (ps : List Rv) (b : Rv) : Nat := ps.countP fun p => ltR p b
theorem cut_uniq {α : Type} (f : α → Bool) : ∀ {I : List α} {i : Nat}, i ≤ I.length → (∀ t (h : t < I.length), t < i → f I[t] = true) → (∀ t (h : t < I.length), i ≤ t → f I[t] = false) → I.countP f = i
  | [], i, hi, _, _ => by simp at hi; simp [hi]
  | x :: r, 0, _, _, h2 => by
    rw [List.countP_eq_zero]
    intro y hy
    obtain ⟨t, ht, rfl⟩ := List.getElem_of_mem hy
    have := h2 t ht (Nat.zero_le _)
    simpa using this
  | x :: r, i + 1, hi, h1, h2 => by
    have h0 := h1 0 (by simp) (by omega)
    have h0 : f x = true := h0
    have := cut_uniq f (I := r) (i := i) (by simpa using hi) (fun t ht hti => by have := h1 (t + 1) (by simpa using ht) (by omega); simpa using this) (fun t ht hti => by have := h2 (t + 1) (by simpa using ht) (by omega); simpa using this)
    rw [List.countP_cons_of_pos h0, this]
theorem cntR_sorted {ps : List Rv} (h : List.Pairwise (fun a b => ltR a b = true) ps) (b : Rv) : ∀ s t (hs : s < ps.length) (ht : t < ps.length), s ≤ t → ltR ps[t] b = true → ltR ps[s] b = true := by
  intro s t hs ht hst hb
  rcases Nat.lt_or_eq_of_le hst with hlt | rfl
  · exact ltR_trans ((List.pairwise_iff_getElem.1 h) s t hs ht hlt) hb
  · exact hb
theorem cntR_le (ps : List Rv) (b : Rv) : cntR ps b ≤ ps.length := List.countP_le_length
/-- Of rising ones just the first cntR are below. -/
theorem cntR_cut : ∀ {ps : List Rv}, List.Pairwise (fun a b => ltR a b = true) ps → ∀ (b : Rv) (t : Nat) (h : t < ps.length), ltR ps[t] b = decide (t < cntR ps b)
  | [], _, b, t, h => absurd h (by simp)
  | p :: r, hp, b, t, h => by
    have hp' := List.pairwise_cons.1 hp
    by_cases hb : ltR p b = true
    · have e : cntR (p :: r) b = cntR r b + 1 := by unfold cntR; exact List.countP_cons_of_pos (p := fun p => ltR p b) hb
      rw [e]
      cases t with
      | zero => simp [hb]
      | succ t =>
        have := cntR_cut hp'.2 b t (by simpa using h)
        simpa using this
    · have e : cntR (p :: r) b = 0 := by
        unfold cntR
        rw [List.countP_eq_zero]
        intro y hy
        rcases List.mem_cons.1 hy with rfl | hy
        · exact hb
        · intro hyb
          exact hb (ltR_trans (hp'.1 y hy) hyb)
      rw [e]
      have h1 := cntR_sorted hp b 0 t (by simp) h (Nat.zero_le _)
      cases hv : ltR (p :: r)[t] b with
      | false => simp
      | true => exact absurd (h1 hv) hb
def endAt (b : Rv) (x : Gn) : Bool := x.ended && ltR x.e b
/-- How many generations ended below b. -/
def ebl (gs : List Gn) (b : Rv) : Nat := gs.countP (endAt b)
theorem ebl_zero {x : Gn} {r : List Gn} (h : GInv (x :: r)) {b : Rv} (hb : endAt b x = false) : ebl (x :: r) b = 0 := by
  unfold ebl
  rw [List.countP_eq_zero]
  intro y hy hyb
  rcases List.mem_cons.1 hy with rfl | hy
  · rw [hb] at hyb; cases hyb
  · obtain ⟨_, _, _, h4, h5⟩ := h.head
    have hx := h5 (fun e => by rw [e] at hy; simp at hy)
    unfold endAt at hb hyb
    rw [hx, Bool.true_and] at hb
    rw [Bool.and_eq_true] at hyb
    have := ltR_trans (h4 x.e (Gn.mem_e hx) y.e (by unfold flatG; exact List.mem_flatMap.2 ⟨y, hy, Gn.mem_e hyb.1⟩)) hyb.2
    rw [this] at hb; cases hb
theorem ebl_succ {x : Gn} {r : List Gn} {b : Rv} (hb : endAt b x = true) : ebl (x :: r) b = ebl r b + 1 := by unfold ebl; rw [List.countP_cons_of_pos hb]
theorem ebl_le (gs : List Gn) (b : Rv) : ebl gs b ≤ gs.length := List.countP_le_length
/-- What the loop from the end finds. -/
theorem ebl_found : ∀ {gs : List Gn}, GInv gs → ∀ (b : Rv) (n : Nat), n ≤ gs.length → (∀ i (h : i < gs.length), n ≤ i → endAt b gs[i] = false) → (∀ (h : n - 1 < gs.length), 0 < n → endAt b gs[n - 1] = true) → ebl gs b = n
  | [], _, b, n, hn, _, _ => by simp at hn; simp [ebl, hn]
  | x :: r, hi, b, n, hn, h1, h2 => by
    cases n with
    | zero => exact ebl_zero hi (h1 0 (by simp) (Nat.le_refl _))
    | succ n =>
      have hx : endAt b x = true := by
        cases hv : endAt b x with
        | true => rfl
        | false =>
          have h0 := ebl_zero hi hv
          have h3 := h2 (by simp at hn ⊢; omega) (by omega)
          unfold ebl at h0
          rw [List.countP_eq_zero] at h0
          exact absurd h3 (h0 _ (List.getElem_mem _))
      rw [ebl_succ hx, ebl_found hi.tail b n (by simpa using hn) (fun i h hni => by have := h1 (i + 1) (by simpa using h) (by omega); simpa using this) (fun h h0 => by
        have := h2 (by simp at h ⊢; omega) (by omega)
        have e : (x :: r)[n + 1 - 1]'(by simp at h ⊢; omega) = r[n - 1] := by
          obtain ⟨m, rfl⟩ : ∃ m, n = m + 1 := ⟨n - 1, by omega⟩
          simp
        rw [e] at this
        exact this)]
/-- What is there of a bound on: the generations that haven't ended below it, and how many puts of the first one are below. -/
def lookG (b : Rv) : List Gn → List Gn × Nat
  | [] => ([], 0)
  | x :: r => if endAt b x then lookG b r else (x :: r, cntR x.ps b)
theorem lookG_drop {gs : List Gn} (h : GInv gs) (b : Rv) : (lookG b gs).1 = gs.drop (ebl gs b) ∧ (lookG b gs).2 = (match gs[ebl gs b]? with | some x => cntR x.ps b | none => 0) := by
  induction gs with
  | nil => simp [lookG, ebl]
  | cons x r ih =>
    unfold lookG
    by_cases hb : endAt b x = true
    · rw [if_pos hb, ebl_succ hb]
      simpa using ih h.tail
    · have hb : endAt b x = false := by simpa using hb
      rw [if_neg (by simp [hb]), ebl_zero h hb]
      simp
abbrev bnd (at_ : Int) : Rv := (at_, 9223372036854775807)
/-- What Get tells: Mod, Create, version. -/
def getG (gs : List Gn) (at_ : Int) : Option (Rv × Int × Int) :=
  match lookG (bnd at_) gs with
  | (x :: _, p + 1) => match x.ps[p]? with | some q => some (q, x.c, wrap64 (x.v + (p : Int))) | none => none
  | _ => none
def compactG (gs : List Gn) (at_ : Int) : List Gn :=
  match lookG (bnd at_) gs with
  | (x :: r, p + 1) => { x with ps := x.ps.drop p, v := wrap64 (x.v + (p : Int)) } :: r
  | (l, _) => l
/-- The entries from a Main on. -/
def entG (b : Rv) (x : Gn) : List (Rv × Bool) := (x.ps.drop (cntR x.ps b)).map (fun q => (q, false)) ++ (if x.ended then [(x.e, true)] else [])
def sinceG (gs : List Gn) (main : Int) : List (Rv × Bool) := (gs.drop (ebl gs (main, 0))).flatMap (entG (main, 0))
theorem wrap64_wrap_add (a b : Int) : wrap64 (wrap64 a + b) = wrap64 (a + b) := by
  simp only [wrap64]
  omega
theorem wrap64_id_wrap (a : Int) : wrap64 (wrap64 a) = wrap64 a := by
  have := wrap64_wrap_add a 0
  simpa using this
end Go.Proofs.Ythpaliagmnclfaa
