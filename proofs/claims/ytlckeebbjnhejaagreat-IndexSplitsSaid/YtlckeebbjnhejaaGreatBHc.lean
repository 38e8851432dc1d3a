/-
  Texts laid together: Hc Hd He Hg.
-/
import Derived.Test.YtlckeebbjnhejaaGreatBHa
import Derived.Deep.Slices
import Derived.Deep.Fields
import Derived.Test.YtlckeebbjnhejaaGreatBGq
import Derived.Test.YtlckeebbjnhejaaGreatBGh
section
/-
  Each act keeps the order of a history; the law's own helper made: a history of acts. An argument []Act, opened.
-/
namespace Go.Proofs.YtlckeebbjnhejaaGreat
open Go.ChangeShapes Go.WideShapes Go.ChangeAt Go.RowKit Go.Deep
set_option linter.unusedVariables false
set_option linter.unusedSimpArgs false

/-! ### what each act keeps -/
def VOk (gs : List Gn) : Prop := ∀ x ∈ gs, wrap64 x.v = x.v
theorem mc_zero {gs : List Gn} {q : Rv} (h : mcG gs q = 0) : rightR q.1 q.2 = true ∧ ltR (newestG gs) q = true := by
  unfold mcG at h
  split at h
  · next h1 =>
    split at h
    · next h2 => exact ⟨h1, h2⟩
    · cases h
  · cases h
theorem snoc_cases (gs : List Gn) : gs = [] ∨ ∃ gi x, gs = gi ++ [x] := by
  rcases List.eq_nil_or_concat gs with e | ⟨l, x, e⟩
  · exact .inl e
  · exact .inr ⟨l, x, by rw [e, List.concat_eq_append]⟩
theorem addG_new {gs : List Gn} (h : goingG gs = false) (q : Rv) (c v : Int) : addG gs q c v = gs ++ [⟨c, v, [q], (0, 0)⟩] := by
  unfold addG
  unfold goingG at h
  cases hl : gs.getLast? with
  | none => rfl
  | some x => rw [hl] at h; simp only [Bool.not_eq_false'] at h; simp [h]
theorem addG_more {gi : List Gn} {x : Gn} (h : x.ended = false) (q : Rv) (c v : Int) : addG (gi ++ [x]) q c v = gi ++ [{ x with ps := x.ps ++ [q] }] := by simp [addG, h]
theorem all_ended {gs : List Gn} (h : GInv gs) (hg : goingG gs = false) : ∀ y ∈ gs, y.ended = true := by
  rcases snoc_cases gs with rfl | ⟨gi, x, rfl⟩
  · exact fun y hy => absurd hy (by simp)
  · have hx : x.ended = true := by simpa [goingG] using hg
    intro y hy
    rcases List.mem_append.1 hy with hy | hy
    · exact h.en y (by simpa using hy)
    · rw [List.mem_singleton.1 hy]; exact hx
theorem going_snoc {gs : List Gn} (hg : goingG gs = true) : ∃ gi x, gs = gi ++ [x] ∧ x.ended = false := by
  rcases snoc_cases gs with rfl | ⟨gi, x, rfl⟩
  · simp [goingG] at hg
  · exact ⟨gi, x, rfl, by simpa [goingG] using hg⟩
/-- An add keeps all. -/
theorem add_keeps {gs : List Gn} (h : GInv gs) {q : Rv} (hm : mcG gs q = 0) (c v : Int) {N : Nat} (hN : BdG gs N) : GInv (addG gs q c v) ∧ BdG (addG gs q c v) (N + 1) ∧ (VOk gs → wrap64 v = v → VOk (addG gs q c v)) := by
  obtain ⟨h1, h2⟩ := mc_zero hm
  cases hg : goingG gs
  · rw [addG_new hg]
    refine ⟨put_new h (all_ended h hg) h1 h2 c v, ⟨by have := hN.1; simp; omega, fun y hy => ?_⟩, fun hv hw y hy => ?_⟩
    · rcases List.mem_append.1 hy with hy | hy
      · have := hN.2 y hy; omega
      · rw [List.mem_singleton.1 hy]; simp
    · rcases List.mem_append.1 hy with hy | hy
      · exact hv y hy
      · rw [List.mem_singleton.1 hy]; exact hw
  · obtain ⟨gi, x, rfl, hx⟩ := going_snoc hg
    rw [addG_more hx]
    refine ⟨put_more h hx h1 h2, ⟨by have := hN.1; simp at this ⊢; omega, fun y hy => ?_⟩, fun hv hw y hy => ?_⟩
    · rcases List.mem_append.1 hy with hy | hy
      · have := hN.2 y (List.mem_append.2 (.inl hy)); omega
      · rw [List.mem_singleton.1 hy]
        have := hN.2 x (by simp)
        simp; omega
    · rcases List.mem_append.1 hy with hy | hy
      · exact hv y (List.mem_append.2 (.inl hy))
      · rw [List.mem_singleton.1 hy]; exact hv x (by simp)
theorem wrap64_next (gs : List Gn) (q : Rv) : wrap64 (nextG gs q).2 = (nextG gs q).2 := by
  unfold nextG
  split
  · split
    · show wrap64 1 = 1
      exact IntWalk.wrap64_in _ ⟨by omega, by omega⟩
    · exact wrap64_id_wrap _
  · show wrap64 1 = 1
    exact IntWalk.wrap64_in _ ⟨by omega, by omega⟩
theorem step_keeps {gs : List Gn} (h : GInv gs) (k : Int) (q : Rv) (c v : Int) (hw : wrap64 v = v) {N : Nat} (hN : BdG gs N) (hv : VOk gs) : GInv (stepG gs k q c v) ∧ BdG (stepG gs k q c v) (N + 1) ∧ VOk (stepG gs k q c v) := by
  have hT : GInv (tombG gs q) ∧ BdG (tombG gs q) (N + 1) ∧ VOk (tombG gs q) := by
    unfold tombG
    split
    · next hm =>
      split
      · next hg =>
        obtain ⟨gi, x, rfl, hx⟩ := going_snoc hg
        obtain ⟨h1, h2⟩ := mc_zero hm
        have e : endG (gi ++ [x]) q = gi ++ [{ x with e := q }] := by simp [endG]
        rw [e]
        refine ⟨tomb_inv h hx h1 h2, ⟨by have := hN.1; simp at this ⊢; omega, fun y hy => ?_⟩, fun y hy => ?_⟩
        · rcases List.mem_append.1 hy with hy | hy
          · have := hN.2 y (List.mem_append.2 (.inl hy)); omega
          · rw [List.mem_singleton.1 hy]
            have := hN.2 x (by simp)
            simp; omega
        · rcases List.mem_append.1 hy with hy | hy
          · exact hv y (List.mem_append.2 (.inl hy))
          · rw [List.mem_singleton.1 hy]; exact hv x (by simp)
      · exact ⟨h, hN.mono (Nat.le_succ _), hv⟩
    · exact ⟨h, hN.mono (Nat.le_succ _), hv⟩
  unfold stepG
  split
  · unfold putG
    split
    · next hm =>
      obtain ⟨k1, k2, k3⟩ := add_keeps h hm (nextG gs q).1 (nextG gs q).2 hN
      exact ⟨k1, k2, k3 hv (wrap64_next gs q)⟩
    · exact ⟨h, hN.mono (Nat.le_succ _), hv⟩
  · split
    · exact hT
    · split
      · obtain ⟨k1, k2, k3⟩ := compact_inv h q.1
        refine ⟨k1, ⟨by have := hN.1; omega, fun y hy => ?_⟩, compact_v hv q.1⟩
        obtain ⟨z, hz, hl⟩ := k2 y hy
        have := hN.2 z hz
        omega
      · split
        · unfold restG
          split
          · next hr =>
            have hm : mcG gs q = 0 := by
              unfold restC at hr
              split at hr
              · split at hr
                · cases hr
                · exact hr
              · cases hr
            obtain ⟨k1, k2, k3⟩ := add_keeps h hm c v hN
            exact ⟨k1, k2, k3 hv hw⟩
          · exact ⟨h, hN.mono (Nat.le_succ _), hv⟩
        · exact hT
/-! ### a slice of acts -/
/-- The slice at A of n acts. -/
def RdAc (w : World) (A : Option Addr) (n : Nat) (X : Nat → Ac) : Prop :=
  (∀ i, i < n → ∃ b o, A = some ⟨b, o, none⟩ ∧ w.cell? ⟨b, o + i * 6, none⟩ = some (.int .i64 (X i).k) ∧ w.cell? ⟨b, o + i * 6 + 1, none⟩ = some (.bool (X i).nx) ∧ w.cell? ⟨b, o + i * 6 + 2, none⟩ = some (.int .i64 (X i).m) ∧ w.cell? ⟨b, o + i * 6 + 3, none⟩ = some (.int .i64 (X i).s) ∧ w.cell? ⟨b, o + i * 6 + 4, none⟩ = some (.int .i64 (X i).c) ∧ w.cell? ⟨b, o + i * 6 + 5, none⟩ = some (.int .i64 (X i).v)) ∧
    ∀ i, i < n → wrap64 (X i).v = (X i).v
theorem RdAc.keeps {w w' : World} {A : Option Addr} {n : Nat} {X : Nat → Ac} (h : RdAc w A n X) (k : Keeps w w') : RdAc w' A n X := ⟨fun i hi => by
  obtain ⟨b, o, e, h0, h1, h2, h3, h4, h5⟩ := h.1 i hi
  exact ⟨b, o, e, k.cell_ h0, k.cell_ h1, k.cell_ h2, k.cell_ h3, k.cell_ h4, k.cell_ h5⟩, h.2⟩
section
variable {H : Type} {enc : TypeId × Value → H} {P : Program} {W : World} {t e : TypeId}
theorem opened_ac {f0 f1 f2 f3 f4 r0 r1 : Field} (ht : P.underlying t = some (.slice e)) (he : P.underlying e = some (.struct #[f0, f1, f2, f3, f4])) (ce : P.cellsOf e = 6)
    (k0 : P.underlying f0.type = some (.int .i64)) (k1 : P.underlying f1.type = some .bool) (k2 : P.underlying f2.type = some (.struct #[r0, r1])) (k3 : P.underlying f3.type = some (.int .i64)) (k4 : P.underlying f4.type = some (.int .i64))
    (q0 : P.underlying r0.type = some (.int .i64)) (q1 : P.underlying r1.type = some (.int .i64))
    (c0 : P.cellsOf f0.type = 1) (c1 : P.cellsOf f1.type = 1) (c2 : P.cellsOf f2.type = 2) (c3 : P.cellsOf f3.type = 1) (c4 : P.cellsOf f4.type = 1) (d0 : P.cellsOf r0.type = 1) (d1 : P.cellsOf r1.type = 1)
    (o0 : f0.offset = 0) (o1 : f1.offset = 1) (o2 : f2.offset = 2) (o3 : f3.offset = 4) (o4 : f4.offset = 5) (p0 : r0.offset = 0) (p1 : r1.offset = 1)
    {A : Option Addr} {n c : Nat} {d : DataW H} {p : List MemPlace} (h : DataW.Trod enc P W 0 (fun _ => true) true t (.slice A n c) d p) :
    n ≤ c ∧ c ≤ maxLen ∧ ∃ X, RdAc W A n X := by
  obtain ⟨fuel, hf⟩ := h
  rcases Go.Deep.open_slice ht hf with ⟨hcs, hx⟩ | ⟨a, len, cap, m, fu, D, Pl, hcs, _, hl, hm, hmm, hx, hr⟩
  · simp [Value.cells] at hcs
    obtain ⟨rfl, rfl, rfl⟩ := hcs
    exact ⟨Nat.le_refl _, Nat.zero_le _, fun _ => ⟨0, false, 0, 0, 0, 0⟩, fun i hi => absurd hi (by omega), fun i hi => absurd hi (by omega)⟩
  · simp [Value.cells] at hcs
    obtain ⟨rfl, rfl, rfl⟩ := hcs
    simp only [if_true] at hmm
    subst hmm
    have each : ∀ i, i < n → ∃ x : Ac, (W.cell? (a.add (i * 6)) = some (.int .i64 x.k) ∧ W.cell? (a.add (i * 6 + 1)) = some (.bool x.nx) ∧ W.cell? (a.add (i * 6 + 2)) = some (.int .i64 x.m) ∧ W.cell? (a.add (i * 6 + 3)) = some (.int .i64 x.s) ∧ W.cell? (a.add (i * 6 + 4)) = some (.int .i64 x.c) ∧ W.cell? (a.add (i * 6 + 5)) = some (.int .i64 x.v)) ∧ wrap64 x.v = x.v := by
      intro i hi
      obtain ⟨cs', hc, htr⟩ := hr i (by omega)
      rw [ce] at hc
      obtain ⟨_, hcl, hat⟩ := World.cells?_some hc
      obtain ⟨xs, fu', _, _, _, hlen, hg⟩ := DataW.trod_struct he htr
      match xs, hlen, cs', hcl with
      | [y0, y1, y2, y3, y4], _, [v0, v1, v2, v3, v4, v5], _ =>
        have g0 := hg 0 f0 rfl
        have g1 := hg 1 f1 rfl
        have g2 := hg 2 f2 rfl
        have g3 := hg 3 f3 rfl
        have g4 := hg 4 f4 rfl
        rw [o0, c0] at g0
        rw [o1, c1] at g1
        rw [o2, c2] at g2
        rw [o3, c3] at g3
        rw [o4, c4] at g4
        obtain ⟨x, e0, _, wx⟩ := DataW.trod_int k0 (x := y0) (by simpa using g0)
        obtain ⟨y, e1, _⟩ := DataW.trod_bool k1 (x := y1) (by simpa using g1)
        obtain ⟨zs, fu2, _, _, _, hlen2, hg2⟩ := DataW.trod_struct k2 g2
        match zs, hlen2 with
        | [z0, z1], _ =>
          have s0 := hg2 0 r0 rfl
          have s1 := hg2 1 r1 rfl
          rw [p0, d0] at s0
          rw [p1, d1] at s1
          obtain ⟨z, e2, _, wz⟩ := DataW.trod_int q0 (x := z0) (by simpa using s0)
          obtain ⟨z', e3, _, wz'⟩ := DataW.trod_int q1 (x := z1) (by simpa using s1)
          obtain ⟨u, e4, _, wu⟩ := DataW.trod_int k3 (x := y3) (by simpa using g3)
          obtain ⟨u', e5, _, wu'⟩ := DataW.trod_int k4 (x := y4) (by simpa using g4)
          simp at e0 e1 e2 e3 e4 e5
          subst e0 e1 e2 e3 e4 e5
          have h0 := hat 0 (by omega)
          have h1 := hat 1 (by omega)
          have h2 := hat 2 (by omega)
          have h3 := hat 3 (by omega)
          have h4 := hat 4 (by omega)
          have h5 := hat 5 (by omega)
          rw [add_add, Nat.add_zero] at h0
          rw [add_add] at h1 h2 h3 h4 h5
          refine ⟨⟨x, y, z, z', u, u'⟩, ⟨h0, h1, h2, h3, h4, h5⟩, ?_⟩
          have hw : -9223372036854775808 ≤ u' ∧ u' ≤ 9223372036854775807 := by simpa [Lit.wf, IntKind.min, IntKind.max, IntKind.signed, IntKind.bits] using wu'
          exact IntWalk.wrap64_in _ hw
    have pick : ∀ i, ∃ x : Ac, i < n → (W.cell? (a.add (i * 6)) = some (.int .i64 x.k) ∧ W.cell? (a.add (i * 6 + 1)) = some (.bool x.nx) ∧ W.cell? (a.add (i * 6 + 2)) = some (.int .i64 x.m) ∧ W.cell? (a.add (i * 6 + 3)) = some (.int .i64 x.s) ∧ W.cell? (a.add (i * 6 + 4)) = some (.int .i64 x.c) ∧ W.cell? (a.add (i * 6 + 5)) = some (.int .i64 x.v)) ∧ wrap64 x.v = x.v := fun i => by
      by_cases hi : i < n
      · obtain ⟨x, h⟩ := each i hi
        exact ⟨x, fun _ => h⟩
      · exact ⟨⟨0, false, 0, 0, 0, 0⟩, fun h => absurd h hi⟩
    obtain ⟨X, hX⟩ := Classical.axiomOfChoice pick
    refine ⟨hl, hm, X, fun i hi => ?_, fun i hi => (hX i hi).2⟩
    have hz := (hX 0 (by omega)).1.1
    obtain ⟨h0, h1, h2, h3, h4, h5⟩ := (hX i hi).1
    obtain ⟨b, o, s⟩ := a
    have hs : s = none := by
      have := World.cell?_spot hz
      simpa [Addr.add] using this
    subst hs
    rw [gadd_at] at h0 h1 h2 h3 h4 h5
    exact ⟨b, o, rfl, h0, h1, h2, h3, h4, h5⟩
end
end Go.Proofs.YtlckeebbjnhejaaGreat
end

section
/-
  The law's own helpers: lives (the chapter's example), made (a history of acts).
-/
namespace Go.Proofs.YtlckeebbjnhejaaGreat
open Go.ChangeShapes Go.WideShapes Go.ChangeAt Go.RowKit Go.Deep
set_option linter.unusedVariables false
set_option linter.unusedSimpArgs false

def livesG : Nat → List Gn
  | 0 => []
  | 1 => [⟨1, 1, [(1, 0)], (0, 0)⟩]
  | 2 => [⟨1, 1, [(1, 0), (2, 0)], (0, 0)⟩]
  | 3 => [⟨1, 1, [(1, 0), (2, 0)], (3, 0)⟩]
  | _ => [⟨1, 1, [(1, 0), (2, 0)], (3, 0)⟩, ⟨4, 1, [(4, 0)], (0, 0)⟩]
theorem lives_put0 : mcG (livesG 0) (1, 0) = 0 ∧ putG (livesG 0) (1, 0) = livesG 1 := by constructor <;> rfl
theorem lives_put1 : mcG (livesG 1) (2, 0) = 0 ∧ putG (livesG 1) (2, 0) = livesG 2 := by constructor <;> rfl
theorem lives_tomb : tombC (livesG 2) (3, 0) = 0 ∧ tombG (livesG 2) (3, 0) = livesG 3 := by constructor <;> rfl
theorem lives_put3 : mcG (livesG 3) (4, 0) = 0 ∧ putG (livesG 3) (4, 0) = livesG 4 := by constructor <;> rfl
theorem lives_get : getG (livesG 4) 2 = some ((2, 0), 1, 2) := by
  have e : getG (livesG 4) 2 = some ((2, 0), 1, wrap64 (1 + ((1 : Nat) : Int))) := by rfl
  rw [e, IntWalk.wrap64_in _ ⟨by omega, by omega⟩]
  rfl
theorem lives_inv : ∀ j, j ≤ 4 → GInv (livesG j) ∧ BdG (livesG j) 4 := by
  have w1 : wrap64 (1 : Int) = 1 := IntWalk.wrap64_in _ ⟨by omega, by omega⟩
  have hv0 : VOk (livesG 0) := fun x hx => absurd hx (by simp [livesG])
  have s0 := step_keeps GInv.nil 0 (1, 0) 0 1 w1 (N := 0) ⟨Nat.le_refl _, fun x hx => absurd hx (by simp)⟩ hv0
  rw [show stepG [] 0 (1, 0) 0 1 = livesG 1 from lives_put0.2] at s0
  have s1 := step_keeps s0.1 0 (2, 0) 0 1 w1 s0.2.1 s0.2.2
  rw [show stepG (livesG 1) 0 (2, 0) 0 1 = livesG 2 from lives_put1.2] at s1
  have s2 := step_keeps s1.1 1 (3, 0) 0 1 w1 s1.2.1 s1.2.2
  rw [show stepG (livesG 2) 1 (3, 0) 0 1 = livesG 3 from lives_tomb.2] at s2
  have s3 := step_keeps s2.1 0 (4, 0) 0 1 w1 s2.2.1 s2.2.2
  rw [show stepG (livesG 3) 0 (4, 0) 0 1 = livesG 4 from lives_put3.2] at s3
  intro j hj
  match j, hj with
  | 0, _ => exact ⟨GInv.nil, ⟨Nat.zero_le _, fun x hx => absurd hx (by simp [livesG])⟩⟩
  | 1, _ => exact ⟨s0.1, s0.2.1.mono (by omega)⟩
  | 2, _ => exact ⟨s1.1, s1.2.1.mono (by omega)⟩
  | 3, _ => exact ⟨s2.1, s2.2.1.mono (by omega)⟩
  | 4, _ => exact ⟨s3.1, s3.2.1.mono (by omega)⟩
/-- A history of the law's own. -/
def Mine (w wr : World) (r : Nat) (gs : List Gn) : Prop := ∃ F, Gs wr r F gs ∧ (∀ j, F j → w.heap.size ≤ j) ∧ Below w.heap.size w wr
theorem Mine.next {w wr w2 w3 : World} {r : Nat} {gs gs' : List Gn} {F : Nat → Prop} (h1 : Gs wr r F gs) (h2 : ∀ j, F j → w.heap.size ≤ j) (h3 : Below w.heap.size w wr) (hb : Below wr.heap.size wr w2) (hl : GLeft w2 r F gs' w3) : Mine w w3 r gs' := by
  obtain ⟨F', k1, k2, k3⟩ := hl
  refine ⟨F', k1, fun j hj => ?_, ?_⟩
  · rcases k2 j hj with e | e
    · exact h2 j e
    · exact Nat.le_trans h3.size (Nat.le_trans hb.size e)
  · exact ((Turned.of_below (bel_to hb h3) (fun _ => False)).chain k3 (fun j hj e => by have := h2 j e; omega)).below_
theorem mine_new (w : World) : Mine w (w.alloc (.cells #[.slice none 0 0] 102)) w.heap.size [] := by
  refine ⟨footG w.heap.size none 0 0 [], ⟨none, 0, 0, [], ⟨Blk.new w 102 #[.slice none 0 0], rfl, rfl, World.ownsRow_nil _ _ _ _, fun i h1 => absurd h1 (by simp), fun i j h1 => absurd h1 (by simp)⟩, fun _ => Iff.rfl⟩, fun j hj => ?_, (Below.refl _ w).alloc (Nat.le_refl _) _⟩
  rcases hj with e | e | ⟨L, hL, _⟩
  · omega
  · cases e
  · simp at hL
end Go.Proofs.YtlckeebbjnhejaaGreat
end

section
/-
  The law's own helper made: a history of acts, with whatever each act keeps.
-/
namespace Go.Proofs.YtlckeebbjnhejaaGreat
open Go.ChangeShapes Go.WideShapes Go.ChangeAt Go.RowKit Go.Deep
set_option linter.unusedVariables false
set_option linter.unusedSimpArgs false

/-- What made answers. -/
def MadeR (P : List Gn → Prop) (w : World) (e : Ending) (w' : World) : Prop := ∃ (r : Nat) (F : Nat → Prop) (gs : List Gn) (last : Int), e = .returned (.tuple #[.pointer (some ⟨r, 0, none⟩), .int .i64 last]) ∧ Gs w' r F gs ∧ GInv gs ∧ BdG gs 80 ∧ VOk gs ∧ P gs ∧ (∀ j, F j → w.heap.size ≤ j) ∧ Below w.heap.size w w'
/-- Between two acts. -/
structure MI (P : List Gn → Prop) (w wr : World) (r b j : Nat) (F : Nat → Prop) (gs : List Gn) (nn : Nat) : Prop where
  g : Gs wr r F gs
  inv : GInv gs
  bd : BdG gs (min j 80)
  v : VOk gs
  p : P gs
  rf : RF wr b b nn
  nn : nn ≤ min j 80
  lo : ∀ q, F q → w.heap.size ≤ q
  bel : Below w.heap.size w wr
theorem MI.below {P : List Gn → Prop} {w wr w' : World} {r b j : Nat} {F : Nat → Prop} {gs : List Gn} {nn : Nat} (h : MI P w wr r b j F gs nn) (hb : Below wr.heap.size wr w') : MI P w w' r b j F gs nn :=
  ⟨h.g.below hb, h.inv, h.bd, h.v, h.p, h.rf.below hb, h.nn, h.lo, bel_to hb h.bel⟩
theorem MI.more {P : List Gn → Prop} {w wr : World} {r b j : Nat} {F : Nat → Prop} {gs : List Gn} {nn : Nat} (h : MI P w wr r b j F gs nn) : MI P w wr r b (j + 1) F gs nn :=
  ⟨h.g, h.inv, h.bd.mono (by omega), h.v, h.p, h.rf, by have := h.nn; omega, h.lo, h.bel⟩
theorem MI.step {P : List Gn → Prop} {w wr w' : World} {r b j : Nat} {F : Nat → Prop} {gs : List Gn} {nn : Nat} (h : MI P w wr r b j F gs nn) (hj : j < 80) (hb : w.heap.size ≤ b) {a : Ac} (hw : wrap64 a.v = a.v) (hP : ∀ q, P (stepG gs a.k q a.c a.v)) {e : Ending} (hd : DoR wr r F gs b nn a e w') : ∃ (last' : Int) (t : Bool) (F' : Nat → Prop) (gs' : List Gn) (nn' : Nat), e = .returned (.tuple #[.int .i64 last', .bool t]) ∧ MI P w w' r b (j + 1) F' gs' nn' := by
  obtain ⟨q, last', t, F', n', he, k1, k2, k3, k4, k5⟩ := hd
  obtain ⟨s1, s2, s3⟩ := step_keeps h.inv a.k q a.c a.v hw h.bd h.v
  have hsz := h.bel.size
  refine ⟨last', t, F', _, n', he, k1, s1, s2.mono (by omega), s3, hP q, k3, by have := h.nn; omega, fun j hj => ?_, ?_⟩
  · rcases k2 j hj with e | e
    · exact h.lo j e
    · omega
  · refine ((Turned.of_below h.bel (fun _ => False)).chain k5 (fun j hj e => ?_)).below_
    rcases e with e | e
    · have := h.lo j e; omega
    · have := e.1; omega
theorem MI.new (P : List Gn → Prop) (hP : P []) (w : World) : MI P w ((w.alloc (.cells #[.slice none 0 0] 102)).alloc (.cells #[.slice none 0 0] 118)) w.heap.size (w.heap.size + 1) 0 (footG w.heap.size none 0 0 []) [] 0 := by
  have hb := (Below.refl _ (w.alloc (.cells #[.slice none 0 0] 102))).alloc (Nat.le_refl _) (.cells #[.slice none 0 0] 118)
  have hk := Blk.new (w.alloc (.cells #[.slice none 0 0] 102)) 118 #[.slice none 0 0]
  rw [World.size_alloc] at hk
  have hg : Gs (w.alloc (.cells #[.slice none 0 0] 102)) w.heap.size (footG w.heap.size none 0 0 []) [] := ⟨none, 0, 0, [], ⟨Blk.new w 102 #[.slice none 0 0], rfl, rfl, World.ownsRow_nil _ _ _ _, fun i h1 => absurd h1 (by simp), fun i j h1 => absurd h1 (by simp)⟩, fun _ => Iff.rfl⟩
  refine ⟨hg.below hb, GInv.nil, ⟨Nat.zero_le _, fun x hx => absurd hx (by simp)⟩, fun x hx => absurd hx (by simp), hP, ⟨none, 0, [], hk, World.ownsRow_nil _ _ _ _, rfl, Nat.le_refl _⟩, Nat.zero_le _, fun j hj => ?_, bel_to hb ((Below.refl _ w).alloc (Nat.le_refl _) _)⟩
  rcases hj with e | e | ⟨L, hL, _⟩
  · omega
  · cases e
  · simp at hL
end Go.Proofs.YtlckeebbjnhejaaGreat
end

section
/-
  Two histories of a law's own, side by side; what Get and Compact tell, written flat.
-/
namespace Go.Proofs.YtlckeebbjnhejaaGreat
open Go.ChangeShapes Go.WideShapes Go.ChangeAt Go.RowKit Go.Deep
set_option linter.unusedVariables false
set_option linter.unusedSimpArgs false

/-- What is told, with zeros for nothing. -/
def fnd (o : Option (Rv × Int × Int)) : Rv × Int × Int := o.getD ((0, 0), 0, 0)
theorem getV_fnd (o : Option (Rv × Int × Int)) : getV o = .tuple #[.agg #[.int .i64 (fnd o).1.1, .int .i64 (fnd o).1.2, .int .i64 (fnd o).2.1, .int .i64 (fnd o).2.2], .bool o.isSome] := by cases o <;> rfl
theorem compV_fnd (o : Option (Rv × Int × Int)) : compV o = .tuple #[.agg #[.int .i64 (fnd o).1.1, .int .i64 (fnd o).1.2], .bool o.isSome] := by cases o <;> rfl
theorem eql_found (q1 q2 c v q1' q2' c' v' : Int) (w : World) : (binOp .eql 31 (.agg #[.int .i64 q1, .int .i64 q2, .int .i64 c, .int .i64 v]) (.agg #[.int .i64 q1', .int .i64 q2', .int .i64 c', .int .i64 v'])).run Tryz.prog w = .ok (.bool (decide (q1 = q1' ∧ q2 = q2' ∧ c = c' ∧ v = v'))) w := by
  go_simp
  by_cases h1 : q1 = q1' <;> by_cases h2 : q2 = q2' <;> by_cases h3 : c = c' <;> by_cases h4 : v = v' <;> simp [h1, h2, h3, h4]
theorem get_f {w : World} {r : Nat} {F : Nat → Prop} {gs : List Gn} (h : Gs w r F gs) (hi : GInv gs) {N : Nat} (hN : BdG gs N) (hn : N ≤ 900000) (m : Int) {o : Option (Rv × Int × Int)} (ho : getG gs m = o) :
    Calls Tryz.prog 26 #[.pointer (some ⟨r, 0, none⟩), .int .i64 m] w fun e w' => e = .returned (.tuple #[.agg #[.int .i64 (fnd o).1.1, .int .i64 (fnd o).1.2, .int .i64 (fnd o).2.1, .int .i64 (fnd o).2.2], .bool o.isSome]) ∧ Below w.heap.size w w' := by
  have := gget_any h hi hN hn m
  rw [ho, getV_fnd] at this
  exact this
theorem compact_f {w : World} {r : Nat} {F : Nat → Prop} {gs : List Gn} (h : Gs w r F gs) (hi : GInv gs) {N : Nat} (hN : BdG gs N) (hn : N ≤ 900000) (m : Int) {o : Option (Rv × Int × Int)} (ho : getG gs m = o) :
    Calls Tryz.prog 33 #[.pointer (some ⟨r, 0, none⟩), .int .i64 m] w fun e w' => e = .returned (.tuple #[.agg #[.int .i64 (fnd o).1.1, .int .i64 (fnd o).1.2], .bool o.isSome]) ∧ GLeft w r F (compactG gs m) w' := by
  have := gcompact_any h hi hN hn m
  rw [ho, compV_fnd] at this
  exact this
/-- One history of its own, all of it made since w. -/
structure One (w W : World) (r : Nat) (F : Nat → Prop) (gs : List Gn) : Prop where
  g : Gs W r F gs
  lo : ∀ j, F j → w.heap.size ≤ j
  bel : Below w.heap.size w W
theorem One.below {w W W' : World} {r : Nat} {F : Nat → Prop} {gs : List Gn} (h : One w W r F gs) (hb : Below W.heap.size W W') : One w W' r F gs := ⟨h.g.below hb, h.lo, bel_to hb h.bel⟩
theorem One.left {w W W' : World} {r : Nat} {F : Nat → Prop} {gs gs' : List Gn} (h : One w W r F gs) (hl : GLeft W r F gs' W') : ∃ F', One w W' r F' gs' ∧ (∀ j, F' j → F j ∨ W.heap.size ≤ j) := by
  obtain ⟨F', k1, k2, k3⟩ := hl
  refine ⟨F', ⟨k1, fun j hj => ?_, bel_left h.bel k3 h.lo⟩, k2⟩
  rcases k2 j hj with e | e
  · exact h.lo j e
  · exact Nat.le_trans h.bel.size e
/-- Another one stands. -/
theorem One.other {w W W' : World} {r r' : Nat} {F F' : Nat → Prop} {gs gs' gs2 : List Gn} (h : One w W r F gs) (h' : One w W r' F' gs') (hd : ∀ j, F j → ¬ F' j) (hl : GLeft W r' F' gs2 W') : One w W' r F gs := by
  obtain ⟨_, _, _, k3⟩ := hl
  exact ⟨h.g.turned k3 hd, h.lo, bel_left h.bel k3 h'.lo⟩
theorem One.copy {w W W' : World} {r' : Nat} {F' : Nat → Prop} {gs : List Gn} (h : Below w.heap.size w W) (hg : Gs W' r' F' gs) (hf : ∀ j, F' j → W.heap.size ≤ j) (hb : Below W.heap.size W W') : One w W' r' F' gs := ⟨hg, fun j hj => Nat.le_trans h.size (hf j hj), bel_to hb h⟩
theorem apart_of {W : World} {r : Nat} {F F' : Nat → Prop} {gs : List Gn} (h : Gs W r F gs) (hf : ∀ j, F' j → W.heap.size ≤ j) : ∀ j, F j → ¬ F' j := fun j h1 h2 => by have := h.lt h1; have := hf j h2; omega
end Go.Proofs.YtlckeebbjnhejaaGreat
end
