/-
  Each act keeps the order of a history; the law's own helper made: a history of acts. An argument []Act, opened.
-/
import Derived.Test.YthpaliagmnclfaaHb
import Derived.Deep.Slices
import Derived.Deep.Fields
namespace Go.Proofs.Ythpaliagmnclfaa
open Go.ChangeShapes Go.WideShapes Go.ChangeAt Go.RowKit Go.Deep
set_option linter.unusedVariables false
set_option linter.unusedSimpArgs false

/-! ### what each act keeps -/
def VOk (gs : List Gn) : Prop := ∀ x ∈ gs, wrap64 x.v = x.v
theorem mc_zero {gs : List Gn} {q : Rv} (h : mcG gs q = 0) : rightR q.1 q.2 = true ∧ ltR (newestG gs) q = true := by
  unfold mcG at h
  split at h
  · next h1 =>
    split at h
    · next h2 => exact ⟨h1, h2⟩
    · cases h
  · cases h
theorem snoc_cases (gs : List Gn) : gs = [] ∨ ∃ gi x, gs = gi ++ [x] := by
  rcases List.eq_nil_or_concat gs with e | ⟨l, x, e⟩
  · exact .inl e
  · exact .inr ⟨l, x, by rw [e, List.concat_eq_append]⟩
theorem addG_new {gs : List Gn} (h : goingG gs = false) (q : Rv) (c v : Int) : addG gs q c v = gs ++ [⟨c, v, [q], (0, 0)⟩] := by
  unfold addG
  unfold goingG at h
  cases hl : gs.getLast? with
  | none => rfl
  | some x => rw [hl] at h; simp only [Bool.not_eq_false'] at h; simp [h]
theorem addG_more {gi : List Gn} {x : Gn} (h : x.ended = false) (q : Rv) (c v : Int) : addG (gi ++ [x]) q c v = gi ++ [{ x with ps := x.ps ++ [q] }] := by simp [addG, h]
theorem all_ended {gs : List Gn} (h : GInv gs) (hg : goingG gs = false) : ∀ y ∈ gs, y.ended = true := by
  rcases snoc_cases gs with rfl | ⟨gi, x, rfl⟩
  · exact fun y hy => absurd hy (by simp)
  · have hx : x.ended = true := by simpa [goingG] using hg
    intro y hy
    rcases List.mem_append.1 hy with hy | hy
    · exact h.en y (by simpa using hy)
    · rw [List.mem_singleton.1 hy]; exact hx
theorem going_snoc {gs : List Gn} (hg : goingG gs = true) : ∃ gi x, gs = gi ++ [x] ∧ x.ended = false := by
  rcases snoc_cases gs with rfl | ⟨gi, x, rfl⟩
  · simp [goingG] at hg
  · exact ⟨gi, x, rfl, by simpa [goingG] using hg⟩
/-- An add keeps all. -/
theorem add_keeps {gs : List Gn} (h : GInv gs) {q : Rv} (hm : mcG gs q = 0) (c v : Int) {N : Nat} (hN : BdG gs N) : GInv (addG gs q c v) ∧ BdG (addG gs q c v) (N + 1) ∧ (VOk gs → wrap64 v = v → VOk (addG gs q c v)) := by
  obtain ⟨h1, h2⟩ := mc_zero hm
  cases hg : goingG gs
  · rw [addG_new hg]
    refine ⟨put_new h (all_ended h hg) h1 h2 c v, ⟨by have := hN.1; simp; omega, fun y hy => ?_⟩, fun hv hw y hy => ?_⟩
    · rcases List.mem_append.1 hy with hy | hy
      · have := hN.2 y hy; omega
      · rw [List.mem_singleton.1 hy]; simp
    · rcases List.mem_append.1 hy with hy | hy
      · exact hv y hy
      · rw [List.mem_singleton.1 hy]; exact hw
  · obtain ⟨gi, x, rfl, hx⟩ := going_snoc hg
    rw [addG_more hx]
    refine ⟨put_more h hx h1 h2, ⟨by have := hN.1; simp at this ⊢; omega, fun y hy => ?_⟩, fun hv hw y hy => ?_⟩
    · rcases List.mem_append.1 hy with hy | hy
      · have := hN.2 y (List.mem_append.2 (.inl hy)); omega
      · rw [List.mem_singleton.1 hy]
        have := hN.2 x (by simp)
        simp; omega
    · rcases List.mem_append.1 hy with hy | hy
      · exact hv y (List.mem_append.2 (.inl hy))
      · rw [List.mem_singleton.1 hy]; exact hv x (by simp)
theorem wrap64_next (gs : List Gn) (q : Rv) : wrap64 (nextG gs q).2 = (nextG gs q).2 := by
  unfold nextG
  split
  · split
    · show wrap64 1 = 1
      exact IntWalk.wrap64_in _ ⟨by omega, by omega⟩
    · exact wrap64_id_wrap _
  · show wrap64 1 = 1
    exact IntWalk.wrap64_in _ ⟨by omega, by omega⟩
theorem step_keeps {gs : List Gn} (h : GInv gs) (k : Int) (q : Rv) (c v : Int) (hw : wrap64 v = v) {N : Nat} (hN : BdG gs N) (hv : VOk gs) : GInv (stepG gs k q c v) ∧ BdG (stepG gs k q c v) (N + 1) ∧ VOk (stepG gs k q c v) := by
  have hT : GInv (tombG gs q) ∧ BdG (tombG gs q) (N + 1) ∧ VOk (tombG gs q) := by
    unfold tombG
    split
    · next hm =>
      split
      · next hg =>
        obtain ⟨gi, x, rfl, hx⟩ := going_snoc hg
        obtain ⟨h1, h2⟩ := mc_zero hm
        have e : endG (gi ++ [x]) q = gi ++ [{ x with e := q }] := by simp [endG]
        rw [e]
        refine ⟨tomb_inv h hx h1 h2, ⟨by have := hN.1; simp at this ⊢; omega, fun y hy => ?_⟩, fun y hy => ?_⟩
        · rcases List.mem_append.1 hy with hy | hy
          · have := hN.2 y (List.mem_append.2 (.inl hy)); omega
          · rw [List.mem_singleton.1 hy]
            have := hN.2 x (by simp)
            simp; omega
        · rcases List.mem_append.1 hy with hy | hy
          · exact hv y (List.mem_append.2 (.inl hy))
          · rw [List.mem_singleton.1 hy]; exact hv x (by simp)
      · exact ⟨h, hN.mono (Nat.le_succ _), hv⟩
    · exact ⟨h, hN.mono (Nat.le_succ _), hv⟩
  unfold stepG
  split
  · unfold putG
    split
    · next hm =>
      obtain ⟨k1, k2, k3⟩ := add_keeps h hm (nextG gs q).1 (nextG gs q).2 hN
      exact ⟨k1, k2, k3 hv (wrap64_next gs q)⟩
    · exact ⟨h, hN.mono (Nat.le_succ _), hv⟩
  · split
    · exact hT
    · split
      · obtain ⟨k1, k2, k3⟩ := compact_inv h q.1
        refine ⟨k1, ⟨by have := hN.1; omega, fun y hy => ?_⟩, compact_v hv q.1⟩
        obtain ⟨z, hz, hl⟩ := k2 y hy
        have := hN.2 z hz
        omega
      · split
        · unfold restG
          split
          · next hr =>
            have hm : mcG gs q = 0 := by
              unfold restC at hr
              split at hr
              · split at hr
                · cases hr
                · exact hr
              · cases hr
            obtain ⟨k1, k2, k3⟩ := add_keeps h hm c v hN
            exact ⟨k1, k2, k3 hv hw⟩
          · exact ⟨h, hN.mono (Nat.le_succ _), hv⟩
        · exact hT
/-! ### a slice of acts -/
/-- The slice at A of n acts. -/
def RdAc (w : World) (A : Option Addr) (n : Nat) (X : Nat → Ac) : Prop :=
  (∀ i, i < n → ∃ b o, A = some ⟨b, o, none⟩ ∧ w.cell? ⟨b, o + i * 6, none⟩ = some (.int .i64 (X i).k) ∧ w.cell? ⟨b, o + i * 6 + 1, none⟩ = some (.bool (X i).nx) ∧ w.cell? ⟨b, o + i * 6 + 2, none⟩ = some (.int .i64 (X i).m) ∧ w.cell? ⟨b, o + i * 6 + 3, none⟩ = some (.int .i64 (X i).s) ∧ w.cell? ⟨b, o + i * 6 + 4, none⟩ = some (.int .i64 (X i).c) ∧ w.cell? ⟨b, o + i * 6 + 5, none⟩ = some (.int .i64 (X i).v)) ∧
    ∀ i, i < n → wrap64 (X i).v = (X i).v
theorem RdAc.keeps {w w' : World} {A : Option Addr} {n : Nat} {X : Nat → Ac} (h : RdAc w A n X) (k : Keeps w w') : RdAc w' A n X := ⟨fun i hi => by
  obtain ⟨b, o, e, h0, h1, h2, h3, h4, h5⟩ := h.1 i hi
  exact ⟨b, o, e, k.cell_ h0, k.cell_ h1, k.cell_ h2, k.cell_ h3, k.cell_ h4, k.cell_ h5⟩, h.2⟩
section
variable {H : Type} {enc : TypeId × Value → H} {P : Program} {W : World} {t e : TypeId}
theorem opened_ac {f0 f1 f2 f3 f4 r0 r1 : Field} (ht : P.underlying t = some (.slice e)) (he : P.underlying e = some (.struct #[f0, f1, f2, f3, f4])) (ce : P.cellsOf e = 6)
    (k0 : P.underlying f0.type = some (.int .i64)) (k1 : P.underlying f1.type = some .bool) (k2 : P.underlying f2.type = some (.struct #[r0, r1])) (k3 : P.underlying f3.type = some (.int .i64)) (k4 : P.underlying f4.type = some (.int .i64))
    (q0 : P.underlying r0.type = some (.int .i64)) (q1 : P.underlying r1.type = some (.int .i64))
    (c0 : P.cellsOf f0.type = 1) (c1 : P.cellsOf f1.type = 1) (c2 : P.cellsOf f2.type = 2) (c3 : P.cellsOf f3.type = 1) (c4 : P.cellsOf f4.type = 1) (d0 : P.cellsOf r0.type = 1) (d1 : P.cellsOf r1.type = 1)
    (o0 : f0.offset = 0) (o1 : f1.offset = 1) (o2 : f2.offset = 2) (o3 : f3.offset = 4) (o4 : f4.offset = 5) (p0 : r0.offset = 0) (p1 : r1.offset = 1)
    {A : Option Addr} {n c : Nat} {d : DataW H} {p : List MemPlace} (h : DataW.Trod enc P W 0 (fun _ => true) true t (.slice A n c) d p) :
    n ≤ c ∧ c ≤ maxLen ∧ ∃ X, RdAc W A n X := by
  obtain ⟨fuel, hf⟩ := h
  rcases Go.Deep.open_slice ht hf with ⟨hcs, hx⟩ | ⟨a, len, cap, m, fu, D, Pl, hcs, _, hl, hm, hmm, hx, hr⟩
  · simp [Value.cells] at hcs
    obtain ⟨rfl, rfl, rfl⟩ := hcs
    exact ⟨Nat.le_refl _, Nat.zero_le _, fun _ => ⟨0, false, 0, 0, 0, 0⟩, fun i hi => absurd hi (by omega), fun i hi => absurd hi (by omega)⟩
  · simp [Value.cells] at hcs
    obtain ⟨rfl, rfl, rfl⟩ := hcs
    simp only [if_true] at hmm
    subst hmm
    have each : ∀ i, i < n → ∃ x : Ac, (W.cell? (a.add (i * 6)) = some (.int .i64 x.k) ∧ W.cell? (a.add (i * 6 + 1)) = some (.bool x.nx) ∧ W.cell? (a.add (i * 6 + 2)) = some (.int .i64 x.m) ∧ W.cell? (a.add (i * 6 + 3)) = some (.int .i64 x.s) ∧ W.cell? (a.add (i * 6 + 4)) = some (.int .i64 x.c) ∧ W.cell? (a.add (i * 6 + 5)) = some (.int .i64 x.v)) ∧ wrap64 x.v = x.v := by
      intro i hi
      obtain ⟨cs', hc, htr⟩ := hr i (by omega)
      rw [ce] at hc
      obtain ⟨_, hcl, hat⟩ := World.cells?_some hc
      obtain ⟨xs, fu', _, _, _, hlen, hg⟩ := DataW.trod_struct he htr
      match xs, hlen, cs', hcl with
      | [y0, y1, y2, y3, y4], _, [v0, v1, v2, v3, v4, v5], _ =>
        have g0 := hg 0 f0 rfl
        have g1 := hg 1 f1 rfl
        have g2 := hg 2 f2 rfl
        have g3 := hg 3 f3 rfl
        have g4 := hg 4 f4 rfl
        rw [o0, c0] at g0
        rw [o1, c1] at g1
        rw [o2, c2] at g2
        rw [o3, c3] at g3
        rw [o4, c4] at g4
        obtain ⟨x, e0, _, wx⟩ := DataW.trod_int k0 (x := y0) (by simpa using g0)
        obtain ⟨y, e1, _⟩ := DataW.trod_bool k1 (x := y1) (by simpa using g1)
        obtain ⟨zs, fu2, _, _, _, hlen2, hg2⟩ := DataW.trod_struct k2 g2
        match zs, hlen2 with
        | [z0, z1], _ =>
          have s0 := hg2 0 r0 rfl
          have s1 := hg2 1 r1 rfl
          rw [p0, d0] at s0
          rw [p1, d1] at s1
          obtain ⟨z, e2, _, wz⟩ := DataW.trod_int q0 (x := z0) (by simpa using s0)
          obtain ⟨z', e3, _, wz'⟩ := DataW.trod_int q1 (x := z1) (by simpa using s1)
          obtain ⟨u, e4, _, wu⟩ := DataW.trod_int k3 (x := y3) (by simpa using g3)
          obtain ⟨u', e5, _, wu'⟩ := DataW.trod_int k4 (x := y4) (by simpa using g4)
          simp at e0 e1 e2 e3 e4 e5
          subst e0 e1 e2 e3 e4 e5
          have h0 := hat 0 (by omega)
          have h1 := hat 1 (by omega)
          have h2 := hat 2 (by omega)
          have h3 := hat 3 (by omega)
          have h4 := hat 4 (by omega)
          have h5 := hat 5 (by omega)
          rw [add_add, Nat.add_zero] at h0
          rw [add_add] at h1 h2 h3 h4 h5
          refine ⟨⟨x, y, z, z', u, u'⟩, ⟨h0, h1, h2, h3, h4, h5⟩, ?_⟩
          have hw : -9223372036854775808 ≤ u' ∧ u' ≤ 9223372036854775807 := by simpa [Lit.wf, IntKind.min, IntKind.max, IntKind.signed, IntKind.bits] using wu'
          exact IntWalk.wrap64_in _ hw
    have pick : ∀ i, ∃ x : Ac, i < n → (W.cell? (a.add (i * 6)) = some (.int .i64 x.k) ∧ W.cell? (a.add (i * 6 + 1)) = some (.bool x.nx) ∧ W.cell? (a.add (i * 6 + 2)) = some (.int .i64 x.m) ∧ W.cell? (a.add (i * 6 + 3)) = some (.int .i64 x.s) ∧ W.cell? (a.add (i * 6 + 4)) = some (.int .i64 x.c) ∧ W.cell? (a.add (i * 6 + 5)) = some (.int .i64 x.v)) ∧ wrap64 x.v = x.v := fun i => by
      by_cases hi : i < n
      · obtain ⟨x, h⟩ := each i hi
        exact ⟨x, fun _ => h⟩
      · exact ⟨⟨0, false, 0, 0, 0, 0⟩, fun h => absurd h hi⟩
    obtain ⟨X, hX⟩ := Classical.axiomOfChoice pick
    refine ⟨hl, hm, X, fun i hi => ?_, fun i hi => (hX i hi).2⟩
    have hz := (hX 0 (by omega)).1.1
    obtain ⟨h0, h1, h2, h3, h4, h5⟩ := (hX i hi).1
    obtain ⟨b, o, s⟩ := a
    have hs : s = none := by
      have := World.cell?_spot hz
      simpa [Addr.add] using this
    subst hs
    rw [gadd_at] at h0 h1 h2 h3 h4 h5
    exact ⟨b, o, rfl, h0, h1, h2, h3, h4, h5⟩
end
end Go.Proofs.Ythpaliagmnclfaa
