/-
  The entries from a Main on are the last ones of all entries; a row of entries read.
-/
import Derived.Test.YthpaliagmnclfaaGt
import Derived.Test.YthpaliagmnclfaaHe
namespace Go.Proofs.Ythpaliagmnclfaa
open Go.ChangeShapes Go.WideShapes Go.ChangeAt Go.RowKit Go.Deep
set_option linter.unusedVariables false
set_option linter.unusedSimpArgs false

/-- All entries of a generation, of a history. -/
def entAll (x : Gn) : List (Rv × Bool) := x.ps.map (fun q => (q, false)) ++ (if x.ended then [(x.e, true)] else [])
def allE (gs : List Gn) : List (Rv × Bool) := gs.flatMap entAll
theorem entAll_fst (x : Gn) : (entAll x).map (·.1) = x.revs := by
  unfold entAll Gn.revs
  rw [List.map_append, List.map_map]
  congr 1
  · exact List.map_id _
  · split <;> rfl
theorem allE_fst : ∀ gs : List Gn, (allE gs).map (·.1) = flatG gs
  | [] => rfl
  | x :: r => by
    have := allE_fst r
    unfold allE flatG at this ⊢
    rw [List.flatMap_cons, List.flatMap_cons, List.map_append, entAll_fst, this]
theorem mem_entAll {x : Gn} {p : Rv × Bool} (h : p ∈ entAll x) : p.1 ∈ x.revs := by rw [← entAll_fst]; exact List.mem_map.2 ⟨p, h, rfl⟩
theorem filter_puts {ps : List Rv} (hp : List.Pairwise (fun a b => ltR a b = true) ps) (b : Rv) : ps.drop (cntR ps b) = ps.filter (fun q => !ltR q b) := by
  induction ps with
  | nil => rfl
  | cons p r ih =>
    have hp' := List.pairwise_cons.1 hp
    by_cases hb : ltR p b = true
    · have e : cntR (p :: r) b = cntR r b + 1 := by unfold cntR; exact List.countP_cons_of_pos (p := fun p => ltR p b) hb
      rw [e, List.drop_succ_cons, ih hp'.2, List.filter_cons_of_neg (by simp [hb])]
    · have hb' : ltR p b = false := by simpa using hb
      have e : cntR (p :: r) b = 0 := by
        have := cntR_cut hp b 0 (by simp)
        simp only [List.getElem_cons_zero, hb'] at this
        have := of_decide_eq_false this.symm
        omega
      rw [e, List.drop_zero]
      refine (List.filter_eq_self.2 fun y hy => ?_).symm
      rcases List.mem_cons.1 hy with rfl | hy
      · simp [hb']
      · cases hv : ltR y b with
        | false => rfl
        | true => rw [ltR_trans (hp'.1 y hy) hv] at hb'; cases hb'
theorem entG_filter {x : Gn} {b : Rv} (hp : List.Pairwise (fun a b => ltR a b = true) x.ps) (hn : endAt b x = false) : entG b x = (entAll x).filter (fun p => !ltR p.1 b) := by
  unfold entG entAll
  rw [List.filter_append, filter_puts hp b, List.filter_map]
  congr 1
  unfold endAt at hn
  cases he : x.ended with
  | false => rfl
  | true => rw [he, Bool.true_and] at hn; simp [hn]
theorem since_filter : ∀ {gs : List Gn}, GInv gs → ∀ m : Int, sinceG gs m = (allE gs).filter (fun p => !ltR p.1 (m, 0))
  | [], _, m => rfl
  | x :: r, hi, m => by
    obtain ⟨h1, h2, h3, h4, h5⟩ := hi.head
    by_cases hb : endAt (m, 0) x = true
    · have e : sinceG (x :: r) m = sinceG r m := by unfold sinceG; rw [ebl_succ hb, List.drop_succ_cons]
      rw [e, since_filter hi.tail m]
      have e2 : allE (x :: r) = entAll x ++ allE r := by unfold allE; rw [List.flatMap_cons]
      rw [e2, List.filter_append]
      have : (entAll x).filter (fun p => !ltR p.1 (m, 0)) = [] := by
        rw [List.filter_eq_nil_iff]
        intro p hp
        unfold endAt at hb
        rw [Bool.and_eq_true] at hb
        have hm := mem_entAll hp
        unfold Gn.revs at h2 hm
        rw [if_pos hb.1] at h2 hm
        have : ltR p.1 (m, 0) = true := by
          rcases List.mem_append.1 hm with hm | hm
          · exact ltR_trans ((List.pairwise_append.1 h2).2.2 p.1 hm x.e (List.mem_singleton.2 rfl)) hb.2
          · rw [List.mem_singleton.1 hm]; exact hb.2
        simp [this]
      rw [this, List.nil_append]
    · have hb' : endAt (m, 0) x = false := by simpa using hb
      have hz := ebl_zero hi hb'
      have hall : ∀ y ∈ x :: r, endAt (m, 0) y = false := by
        unfold ebl at hz
        rw [List.countP_eq_zero] at hz
        intro y hy
        simpa using hz y hy
      unfold sinceG allE
      rw [hz, List.drop_zero, List.filter_flatMap]
      rw [List.flatMap_def, List.flatMap_def]
      refine congrArg List.flatten (List.map_congr_left fun y hy => ?_)
      exact entG_filter (hi.puts hy) (hall y hy)
theorem since_low {gs : List Gn} (hi : GInv gs) : sinceG gs (-9223372036854775808) = allE gs := by
  rw [since_filter hi]
  refine List.filter_eq_self.2 fun p hp => ?_
  have hm : p.1 ∈ flatG gs := by rw [← allE_fst]; exact List.mem_map.2 ⟨p, hp, rfl⟩
  rw [ltR_low (hi.right _ hm)]
  obtain ⟨k, s, e1, e2, _, _, h3⟩ := rightR_nat (hi.right _ hm)
  simp; omega
theorem filter_last {α : Type} (f : α → Bool) : ∀ {L : List α}, List.Pairwise (fun a b => f a = true → f b = true) L → L.filter f = L.drop (L.length - (L.filter f).length) ∧ ∀ i (h : i < L.length), f L[i] = decide (L.length - (L.filter f).length ≤ i)
  | [], _ => ⟨rfl, fun i h => absurd h (by simp)⟩
  | x :: r, hp => by
    have hp' := List.pairwise_cons.1 hp
    have hl := List.length_filter_le f r
    obtain ⟨k1, k2⟩ := filter_last f hp'.2
    by_cases hx : f x = true
    · have hr : r.filter f = r := List.filter_eq_self.2 fun y hy => hp'.1 y hy hx
      have e : (x :: r).filter f = x :: r := by rw [List.filter_cons_of_pos hx, hr]
      rw [e, Nat.sub_self, List.drop_zero]
      refine ⟨rfl, fun i h => ?_⟩
      cases i with
      | zero => simpa using hx
      | succ i =>
        have := hp'.1 (r[i]'(by simpa using h)) (List.getElem_mem _) hx
        simpa using this
    · have e : (x :: r).filter f = r.filter f := List.filter_cons_of_neg hx
      rw [e]
      have e2 : (x :: r).length - (r.filter f).length = r.length - (r.filter f).length + 1 := by rw [List.length_cons]; omega
      rw [e2, List.drop_succ_cons]
      refine ⟨k1, fun i h => ?_⟩
      cases i with
      | zero => simpa using hx
      | succ i =>
        have := k2 i (by simpa using h)
        rw [List.getElem_cons_succ, this]
        simp
/-- The law's own words about the entries. -/
theorem since_last {gs : List Gn} (hi : GInv gs) (m : Int) : (sinceG gs m).length ≤ (sinceG gs (-9223372036854775808)).length ∧ sinceG gs m = (sinceG gs (-9223372036854775808)).drop ((sinceG gs (-9223372036854775808)).length - (sinceG gs m).length) ∧
    ∀ i (h : i < (sinceG gs (-9223372036854775808)).length), decide (m ≤ (sinceG gs (-9223372036854775808))[i].1.1) = decide ((sinceG gs (-9223372036854775808)).length - (sinceG gs m).length ≤ i) := by
  rw [since_low hi, since_filter hi m]
  have hp : List.Pairwise (fun a b => (!ltR a.1 (m, 0)) = true → (!ltR b.1 (m, 0)) = true) (allE gs) := by
    have h := hi.rise
    rw [← allE_fst, List.pairwise_map] at h
    refine h.imp fun {a b} hab ha => ?_
    cases hv : ltR b.1 (m, 0) with
    | false => rfl
    | true => rw [ltR_trans hab hv] at ha; cases ha
  obtain ⟨k1, k2⟩ := filter_last (fun p : Rv × Bool => !ltR p.1 (m, 0)) hp
  refine ⟨List.length_filter_le _ _, k1, fun i h => ?_⟩
  have hm : (allE gs)[i].1 ∈ flatG gs := by rw [← allE_fst]; exact List.mem_map.2 ⟨_, List.getElem_mem h, rfl⟩
  have h2 := k2 i h
  simp only [ltR_low (hi.right _ hm)] at h2
  rw [← h2, ← decide_not, decide_eq_decide]
  omega
/-- How many entries there may be. -/
theorem entC_at : ∀ (es : List (Rv × Bool)) (i : Nat) (h : i < es.length), (entC es)[i * 3]? = some (.int .i64 es[i].1.1) ∧ (entC es)[i * 3 + 1]? = some (.int .i64 es[i].1.2) ∧ (entC es)[i * 3 + 2]? = some (.bool es[i].2)
  | p :: es, 0, _ => ⟨rfl, rfl, rfl⟩
  | p :: es, i + 1, h => by
    have := entC_at es i (by simpa using h)
    have e : entC (p :: es) = .int .i64 p.1.1 :: .int .i64 p.1.2 :: .bool p.2 :: entC es := rfl
    rw [e, show (i + 1) * 3 = i * 3 + 1 + 1 + 1 by omega]
    simpa using this
/-- A row of entries, whoever owns it. -/
def RdE (w : World) (A : Option Addr) (es : List (Rv × Bool)) : Prop := ∀ i (h : i < es.length), ∃ g o, A = some ⟨g, o, none⟩ ∧ w.cell? ⟨g, o + i * 3, none⟩ = some (.int .i64 es[i].1.1) ∧ w.cell? ⟨g, o + i * 3 + 1, none⟩ = some (.int .i64 es[i].1.2) ∧ w.cell? ⟨g, o + i * 3 + 2, none⟩ = some (.bool es[i].2)
theorem RdE.keeps {w w' : World} {A : Option Addr} {es : List (Rv × Bool)} (h : RdE w A es) (k : Keeps w w') : RdE w' A es := fun i hi => by
  obtain ⟨g, o, e, h0, h1, h2⟩ := h i hi
  exact ⟨g, o, e, k.cell_ h0, k.cell_ h1, k.cell_ h2⟩
theorem RdE.of_own {w : World} {base k : Nat} {A : Option Addr} {es : List (Rv × Bool)} (h : w.ownsRow base 51 3 (.slice A es.length k) es.length (entC es)) : RdE w A es := fun i hi => by
  obtain ⟨g, rfl, _, _, _, _, hc⟩ := gown_at h (by omega)
  obtain ⟨h0, h1, h2⟩ := entC_at es i hi
  exact ⟨g, 0, rfl, by rw [Nat.zero_add]; exact hc _ _ h0, by rw [Nat.zero_add]; exact hc _ _ h1, by rw [Nat.zero_add]; exact hc _ _ h2⟩
theorem neq_ent (a b : Rv) (s t : Bool) (w : World) : (binOp .neq 51 (.agg #[.int .i64 a.1, .int .i64 a.2, .bool s]) (.agg #[.int .i64 b.1, .int .i64 b.2, .bool t])).run Try.prog w = .ok (.bool (!(decide (((a, s) : Rv × Bool) = (b, t))))) w := by
  obtain ⟨a, a'⟩ := a
  obtain ⟨b, b'⟩ := b
  go_simp
  by_cases h1 : a = b <;> by_cases h2 : a' = b' <;> cases s <;> cases t <;> simp [h1, h2]
end Go.Proofs.Ythpaliagmnclfaa
