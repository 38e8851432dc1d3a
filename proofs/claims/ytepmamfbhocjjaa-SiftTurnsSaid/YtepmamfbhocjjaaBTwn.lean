/-
  Texts laid together: Twn Sga.
-/
import Derived.Test.YtepmamfbhocjjaaBNb
import Derived.Test.YtepmamfbhocjjaaBPart
import Derived.Test.YtepmamfbhocjjaaBCmp
import Derived.Test.YtepmamfbhocjjaaBHnd
import Derived.Test.YtepmamfbhocjjaaBOpn
section
/-
  A record's twin, by the package and by the document: the same in memory of the call's own; an argument of type api.KV, opened.
-/
namespace Go.Proofs.Ytepmamfbhocjjaa
open Go.ChangeShapes Go.WideShapes Go.ChangeAt Go.RowKit
set_option linter.unusedVariables false
set_option linter.unusedSimpArgs false

theorem own_far {w : World} {base g n : Nat} {e : TypeId} {v : Value} {xs : List Value} (h : w.ownsRow base e 1 v n xs) (hg : g < base) (i : Nat) (u : Value) : (w.setCell ⟨g, i, none⟩ u).ownsRow base e 1 v n xs :=
  ownsRow_setCell_below h (a := ⟨g, i, none⟩) hg u
/-- A record of the call's own: its key's block is elder than its value's. -/
def OwV (w : World) (B : Nat) (L : LayV) (x : Kv) : Prop :=
  ∃ B2, B ≤ B2 ∧ w.ownsRow B 5 1 (.slice L.ka L.kn L.kc) L.kn (cellsOf x.key) ∧ w.ownsRow B2 5 1 (.slice L.va L.vn L.vc) L.vn (cellsOf x.val) ∧ (∀ k, (Value.slice L.ka L.kn L.kc).ownBlock = some k → k < B2) ∧ L.kn ≤ 140737488351232 ∧ L.vn ≤ 140737488351232
theorem OwV.rd {w : World} {B : Nat} {L : LayV} {x : Kv} (h : OwV w B L x) : RdV w L x := by
  obtain ⟨B2, _, h1, h2, _, h3, h4⟩ := h
  exact ⟨Rd.of_own h1, Rd.of_own h2, own_cap h1, own_cap h2, h3, h4⟩
theorem OwV.below {w w' : World} {B : Nat} {L : LayV} {x : Kv} (h : OwV w B L x) (hb : Below w.heap.size w w') : OwV w' B L x := by
  obtain ⟨B2, h0, h1, h2, h3⟩ := h
  exact ⟨B2, h0, own_stays h1 hb, own_stays h2 hb, h3⟩
theorem OwV.mono {w : World} {B B' : Nat} {L : LayV} {x : Kv} (h : OwV w B L x) (hb : B' ≤ B) : OwV w B' L x := by
  obtain ⟨B2, h0, h1, h2, h3⟩ := h
  exact ⟨B2, Nat.le_trans hb h0, own_mono h1 hb, h2, h3⟩
theorem OwV.far {w : World} {B g : Nat} {L : LayV} {x : Kv} (h : OwV w B L x) (hg : g < B) (i : Nat) (u : Value) : OwV (w.setCell ⟨g, i, none⟩ u) B L x := by
  obtain ⟨B2, h0, h1, h2, h3⟩ := h
  exact ⟨B2, h0, own_far h1 hg i u, own_far h2 (Nat.lt_of_lt_of_le hg h0) i u, h3⟩
/-- A zero record in block g. -/
abbrev zeroes (w : World) : World := w.alloc (.cells #[.slice none 0 0, .slice none 0 0, .int .i64 0, .int .i64 0, .int .i64 0, .int .i64 0] 37)
/-- Six cells stored. -/
abbrev set6 (w : World) (q : Nat) (u0 u1 u2 u3 u4 u5 : Value) : World := (((((w.setCell ⟨q, 0, none⟩ u0).setCell ⟨q, 1, none⟩ u1).setCell ⟨q, 2, none⟩ u2).setCell ⟨q, 3, none⟩ u3).setCell ⟨q, 4, none⟩ u4).setCell ⟨q, 5, none⟩ u5
theorem set6_blk {w : World} {q : Nat} {t : TypeId} {a b c d e f : Value} (h : Blk w q t [a, b, c, d, e, f]) (u0 u1 u2 u3 u4 u5 : Value) : Blk (set6 w q u0 u1 u2 u3 u4 u5) q t [u0, u1, u2, u3, u4, u5] :=
  (((((h.set_ 0 u0).set_ 1 u1).set_ 2 u2).set_ 3 u3).set_ 4 u4).set_ 5 u5
theorem set6_only (w : World) (q : Nat) (u0 u1 u2 u3 u4 u5 : Value) : Only w (set6 w q u0 u1 u2 u3 u4 u5) q :=
  ((((((Only.refl w q).setCell 0 u0).setCell 1 u1).setCell 2 u2).setCell 3 u3).setCell 4 u4).setCell 5 u5
theorem set6_below {w W : World} {B q : Nat} (hb : Below B w W) (hq : B ≤ q) (u0 u1 u2 u3 u4 u5 : Value) : Below B w (set6 W q u0 u1 u2 u3 u4 u5) :=
  (((((hb.setCell (p := ⟨q, 0, none⟩) hq u0).setCell (p := ⟨q, 1, none⟩) hq u1).setCell (p := ⟨q, 2, none⟩) hq u2).setCell (p := ⟨q, 3, none⟩) hq u3).setCell (p := ⟨q, 4, none⟩) hq u4).setCell (p := ⟨q, 5, none⟩) hq u5
theorem OwV.set6 {w : World} {B q : Nat} {L : LayV} {x : Kv} (h : OwV w B L x) (hq : q < B) (u0 u1 u2 u3 u4 u5 : Value) : OwV (set6 w q u0 u1 u2 u3 u4 u5) B L x :=
  (((((h.far hq 0 u0).far hq 1 u1).far hq 2 u2).far hq 3 u3).far hq 4 u4).far hq 5 u5
/-- A record's box and a zero record, as a call begins. -/
theorem two_blocks (w : World) (L : LayV) (x : Kv) : Six (zeroes (boxV w L x)) w.heap.size L x ∧ Blk (zeroes (boxV w L x)) (w.heap.size + 1) 37 [.slice none 0 0, .slice none 0 0, .int .i64 0, .int .i64 0, .int .i64 0, .int .i64 0] ∧ Below w.heap.size w (zeroes (boxV w L x)) ∧ (zeroes (boxV w L x)).heap.size = w.heap.size + 2 := by
  have h1 := Six.new w L x
  have h2 := Blk.new (boxV w L x) 37 #[.slice none 0 0, .slice none 0 0, .int .i64 0, .int .i64 0, .int .i64 0, .int .i64 0]
  rw [boxV_size] at h2
  have hb := (Below.refl (boxV w L x).heap.size (boxV w L x)).alloc (Nat.le_refl _) (.cells #[.slice none 0 0, .slice none 0 0, .int .i64 0, .int .i64 0, .int .i64 0, .int .i64 0] 37)
  exact ⟨h1.below hb, h2, bel_to hb (boxV_below _ _ _), by rw [World.size_alloc, boxV_size]⟩
theorem Only.far_blk {w w' : World} {r g : Nat} {t : TypeId} {cs : List Value} (h : Blk w g t cs) (k : Only w w' r) (hne : g ≠ r) : Blk w' g t cs := (k.block g h.lt (fun e => hne (Option.some.inj e))).trans h
set_option maxRecDepth 100000 in
set_option maxHeartbeats 2000000 in
theorem twin_kv (L : LayV) (x : Kv) (w : World) (h : RdV w L x) :
    Calls Try.prog 25 #[vkv L x] w fun e w' => ∃ M, e = .returned (vkv M x) ∧ OwV w' w.heap.size M x ∧ Below w.heap.size w w' := by
  obtain ⟨s1, s2, hB, hz⟩ := two_blocks w L x
  obtain ⟨k1, k2, k3, k4, k5, k6⟩ := s1.cells
  have HS := kept s1
  have HZ := kept s2
  have HB := kept hB
  have HN := kept hz
  have HH := kept h
  have HX := kept (h.below hB)
  clear h s1 s2 hB hz
  obtain ⟨ka, kn, kc, va, vn, vc⟩ := L
  obtain ⟨xk, xv, c, m, v, l⟩ := x
  unfold boxV zeroes at *
  dsimp only at *
  have HC1 := fun W hr => kept (clone_any ka kn kc xk W hr (by have := HH.out.kb; dsimp only at this; omega))
  have HC2 := fun W hr => kept (clone_any va vn vc xv W hr (by have := HH.out.vb; dsimp only at this; omega))
  have HKV := kept (And.intro HH.out.kb HH.out.vb)
  dsimp only at HKV
  replace HN := kept (show w.heap.size + 2 ≤ _ from Nat.le_of_eq HN.out.symm)
  have HX := kept HX.out
  have HS0 := kept (And.intro k1 k2)
  clear HH
  go_enter Try.func25, Try.ntmps25
  go_wp2_with fail
  refine region_L [7, 9] ((fun W' => W'.cell? ⟨w.heap.size, 0, none⟩ = some (.slice ka kn kc) ∧ W'.cell? ⟨w.heap.size, 1, none⟩ = some (.slice va vn vc))) (by kernel_rfl) ?_ (fun hHeld => ?_)
  · ((try dsimp only); (first | exact ⟨(Keeps.drew _).cell_ HS0.out.1, (Keeps.drew _).cell_ HS0.out.2⟩ | with_reducible exact HQ.out | with_reducible exact HQ2.out))
  (try simp only [List.size_toArray, List.length_cons, List.length_nil, Nat.reduceAdd, Array.replicate_succ, Array.replicate_zero, List.push_toArray, List.append_toArray, List.nil_append, List.cons_append])
  refine take_P 0 (some 3) ?_ (by (intro o ho w; (simp only [List.getElem?_toArray, List.getElem?_cons_succ, List.getElem?_cons_zero, Option.some.injEq] at ho); subst ho; go_simp; (first | done | with_reducible rfl))) (by ((try simp only [Act.put, hA, h0, h1]); (first | done | rfl))) (by first | exact fun _ => by assumption | exact fun hE => absurd hE (by decide))
  (try simp only [Act.put, List.setIfInBounds_toArray, List.set_cons_zero, List.set_cons_succ])
  refine take_L 1 (some 4) ?_ (by (intro o ho w hSw; (simp only [List.getElem?_toArray, List.getElem?_cons_succ, List.getElem?_cons_zero, Option.some.injEq] at ho); subst ho; (try dsimp only at hSw); go_simp; (first | done | with_reducible rfl))) (by ((try simp only [Act.put, hA, h0, h1]); (first | done | rfl)))
  (try simp only [Act.put, List.setIfInBounds_toArray, List.set_cons_zero, List.set_cons_succ])
  refine take_P 3 (some 6) ?_ (by (intro o ho w; (simp only [List.getElem?_toArray, List.getElem?_cons_succ, List.getElem?_cons_zero, Option.some.injEq] at ho); subst ho; go_simp; (first | done | with_reducible rfl))) (by ((try simp only [Act.put, hA, h0, h1]); (first | done | rfl))) (by first | exact fun _ => by assumption | exact fun hE => absurd hE (by decide))
  (try simp only [Act.put, List.setIfInBounds_toArray, List.set_cons_zero, List.set_cons_succ])
  refine take_L 4 (some 7) ?_ (by (intro o ho w hSw; (simp only [List.getElem?_toArray, List.getElem?_cons_succ, List.getElem?_cons_zero, Option.some.injEq] at ho); subst ho; (try dsimp only at hSw); go_simp; (first | done | with_reducible rfl))) (by ((try simp only [Act.put, hA, h0, h1]); (first | done | rfl)))
  (try simp only [Act.put, List.setIfInBounds_toArray, List.set_cons_zero, List.set_cons_succ])
  refine ready_L 2 (fun o ho K hK => ?_)
  (simp only [List.getElem?_toArray, List.getElem?_cons_succ, List.getElem?_cons_zero, Option.some.injEq] at ho)
  subst ho
  go_simp
  (go_at_call 29; (with_reducible refine (HC1 _ (HX.out.drew).key).out.mono ?_); rintro e w1 ⟨A1, c1, rfl, hown, hb⟩; replace hb := (Below.refl _ _).drew.trans hb; have HO1 := kept (own_mono hown (show w.heap.size + 2 ≤ _ from HN.out)); have HL1 := kept hown.lt; have HS1 := kept (HS.out.below_ hb HS.out.lt); have HZ1 := kept (HZ.out.below hb HZ.out.lt); have HB1 := kept (HB.out.trans (hb.mono HB.out.size)); have HX1 := kept (HX.out.below hb); have HN1 := kept (Nat.le_trans HN.out hb.size); have HQ : Hid (w1.cell? ⟨w.heap.size, 0, none⟩ = some (.slice ka kn kc) ∧ w1.cell? ⟨w.heap.size, 1, none⟩ = some (.slice va vn vc)) := kept (And.intro (Blk.cell HS1.out 0) (Blk.cell HS1.out 1)); clear hown hb)
  (try go_wp2_with fail)
  refine hK.out _ _ ?_ (fun hHeld => ?_)
  · (first | exact fun hE => absurd hE (by decide) | (intro _; (try dsimp only); (first | exact ⟨(Keeps.drew _).cell_ HS0.out.1, (Keeps.drew _).cell_ HS0.out.2⟩ | with_reducible exact HQ.out | with_reducible exact HQ2.out)))
  clear hK K
  (try replace hHeld := hHeld (by decide))
  (try simp only [Act.put, List.setIfInBounds_toArray, List.set_cons_zero, List.set_cons_succ])
  refine take_P 6 (some 9) ?_ (by (intro o ho w; (simp only [List.getElem?_toArray, List.getElem?_cons_succ, List.getElem?_cons_zero, Option.some.injEq] at ho); subst ho; go_simp; (first | done | with_reducible rfl))) (by ((try simp only [Act.put, hA, h0, h1]); (first | done | rfl))) (by first | exact fun _ => by assumption | exact fun hE => absurd hE (by decide))
  (try simp only [Act.put, List.setIfInBounds_toArray, List.set_cons_zero, List.set_cons_succ])
  refine ready_L 5 (fun o ho K hK => ?_)
  (simp only [List.getElem?_toArray, List.getElem?_cons_succ, List.getElem?_cons_zero, Option.some.injEq] at ho)
  subst ho
  go_simp
  (go_at_call 29; (with_reducible refine (HC2 _ HX1.out.val).out.mono ?_); rintro e w2 ⟨A2, c2, rfl, hown, hb⟩; have HO2 := kept (own_stays HO1.out hb); have HO3 := kept hown; have HS2 := kept (HS1.out.below_ hb HS1.out.lt); have HZ2 := kept (HZ1.out.below hb HZ1.out.lt); have HB2 := kept (HB1.out.trans (hb.mono HB1.out.size)); have HQ2 : Hid (w2.cell? ⟨w.heap.size, 0, none⟩ = some (.slice ka kn kc) ∧ w2.cell? ⟨w.heap.size, 1, none⟩ = some (.slice va vn vc)) := kept (And.intro (Blk.cell HS2.out 0) (Blk.cell HS2.out 1)); have g0 := HQ2.out.1; have g1 := HQ2.out.2; have f0 := Blk.frozen HS2.out 0; have f1 := Blk.frozen HS2.out 1; clear hown hb)
  (try go_wp2_with fail)
  refine hK.out _ _ ?_ (fun hHeld => ?_)
  · (first | exact fun hE => absurd hE (by decide) | (intro _; (try dsimp only); (first | exact ⟨(Keeps.drew _).cell_ HS0.out.1, (Keeps.drew _).cell_ HS0.out.2⟩ | with_reducible exact HQ.out | with_reducible exact HQ2.out)))
  clear hK K
  (try replace hHeld := hHeld (by decide))
  (try simp only [Act.put, List.setIfInBounds_toArray, List.set_cons_zero, List.set_cons_succ])
  refine ready_L 7 (fun o ho K hK => ?_)
  (simp only [List.getElem?_toArray, List.getElem?_cons_succ, List.getElem?_cons_zero, Option.some.injEq] at ho)
  subst ho
  go_simp
  refine hK.out _ _ ?_ (fun hHeld => ?_)
  · (first | exact fun hE => absurd hE (by decide) | (intro _; (try dsimp only); (first | exact ⟨(Keeps.drew _).cell_ HS0.out.1, (Keeps.drew _).cell_ HS0.out.2⟩ | with_reducible exact HQ.out | with_reducible exact HQ2.out)))
  clear hK K
  (try replace hHeld := hHeld (by decide))
  (try simp only [Act.put, List.setIfInBounds_toArray, List.set_cons_zero, List.set_cons_succ])
  refine take_P 8 (some 10) ?_ (by (intro o ho w; (simp only [List.getElem?_toArray, List.getElem?_cons_succ, List.getElem?_cons_zero, Option.some.injEq] at ho); subst ho; go_simp; (first | done | with_reducible rfl))) (by ((try simp only [Act.put, hA, h0, h1]); (first | done | rfl))) (by first | exact fun _ => by assumption | exact fun hE => absurd hE (by decide))
  (try simp only [Act.put, List.setIfInBounds_toArray, List.set_cons_zero, List.set_cons_succ])
  refine ready_L 9 (fun o ho K hK => ?_)
  (simp only [List.getElem?_toArray, List.getElem?_cons_succ, List.getElem?_cons_zero, Option.some.injEq] at ho)
  subst ho
  go_simp
  refine hK.out _ _ ?_ (fun hHeld => ?_)
  · (first | exact fun hE => absurd hE (by decide) | (intro _; (try dsimp only); (first | exact ⟨(Keeps.drew _).cell_ HS0.out.1, (Keeps.drew _).cell_ HS0.out.2⟩ | with_reducible exact HQ.out | with_reducible exact HQ2.out)))
  clear hK K
  (try replace hHeld := hHeld (by decide))
  (try simp only [Act.put, List.setIfInBounds_toArray, List.set_cons_zero, List.set_cons_succ])
  refine done_L (by kernel_rfl) ?_ _
  have hs3 := Blk.set_ (Blk.set_ HS2.out 0 (.slice A1 kn c1)) 1 (.slice A2 vn c2)
  simp only [cellsV, List.set_cons_zero, List.set_cons_succ] at hs3
  have hzz := (HZ2.out.far (p := ⟨w.heap.size, 0, none⟩) (by simp) (.slice A1 kn c1)).far (p := ⟨w.heap.size, 1, none⟩) (by simp) (.slice A2 vn c2)
  have hbb := (HB2.out.setCell (p := ⟨w.heap.size, 0, none⟩) (Nat.le_refl _) (.slice A1 kn c1)).setCell (p := ⟨w.heap.size, 1, none⟩) (Nat.le_refl _) (.slice A2 vn c2)
  have hoo : OwV ((w2.setCell ⟨w.heap.size, 0, none⟩ (.slice A1 kn c1)).setCell ⟨w.heap.size, 1, none⟩ (.slice A2 vn c2)) (w.heap.size + 2) ⟨A1, kn, c1, A2, vn, c2⟩ ⟨xk, xv, c, m, v, l⟩ :=
    ⟨_, HN1.out, own_far (own_far HO2.out (by omega) 0 _) (by omega) 1 _, own_far (own_far HO3.out (by have := HN1.out; omega) 0 _) (by have := HN1.out; omega) 1 _, fun k hk => (HL1.out k hk).2, HKV.out.1, HKV.out.2⟩
  have hcc : Six ((w2.setCell ⟨w.heap.size, 0, none⟩ (.slice A1 kn c1)).setCell ⟨w.heap.size, 1, none⟩ (.slice A2 vn c2)) w.heap.size ⟨A1, kn, c1, A2, vn, c2⟩ ⟨xk, xv, c, m, v, l⟩ := hs3
  replace hcc := hcc.cells
  clear hs3 HX HC1 HC2 HS HZ HB HO1 HB1 HS1 HZ1 HX1 HO2 HO3 HS2 HZ2 HB2 HQ HQ2 HS0 g0 g1 f0 f1 k1 k2 k3 k4 k5 k6 hHeld
  obtain ⟨X, hX⟩ : ∃ X, (w2.setCell ⟨w.heap.size, 0, none⟩ (.slice A1 kn c1)).setCell ⟨w.heap.size, 1, none⟩ (.slice A2 vn c2) = X := ⟨_, rfl⟩
  rw [hX] at hcc hzz hbb hoo ⊢
  obtain ⟨k1, k2, k3, k4, k5, k6⟩ := hcc
  dsimp only at k1 k2 k3 k4 k5 k6
  have z0 : X.cell? ⟨w.heap.size + 1, 0, none⟩ = some (.slice none 0 0) := hzz.cell 0
  have z1 : X.cell? ⟨w.heap.size + 1, 1, none⟩ = some (.slice none 0 0) := hzz.cell 1
  have z2 : X.cell? ⟨w.heap.size + 1, 2, none⟩ = some (.int .i64 0) := hzz.cell 2
  have z3 : X.cell? ⟨w.heap.size + 1, 3, none⟩ = some (.int .i64 0) := hzz.cell 3
  have z4 : X.cell? ⟨w.heap.size + 1, 4, none⟩ = some (.int .i64 0) := hzz.cell 4
  have z5 : X.cell? ⟨w.heap.size + 1, 5, none⟩ = some (.int .i64 0) := hzz.cell 5
  have f0 := hzz.frozen 0
  have f1 := hzz.frozen 1
  have f2 := hzz.frozen 2
  have f3 := hzz.frozen 3
  have f4 := hzz.frozen 4
  have f5 := hzz.frozen 5
  have hq := set6_blk hzz (.slice A1 kn c1) (.slice A2 vn c2) (.int .i64 c) (.int .i64 m) (.int .i64 v) (.int .i64 l)
  have hB := set6_below (q := w.heap.size + 1) hbb (Nat.le_succ _) (.slice A1 kn c1) (.slice A2 vn c2) (.int .i64 c) (.int .i64 m) (.int .i64 v) (.int .i64 l)
  have hO := OwV.set6 (q := w.heap.size + 1) hoo (by omega) (.slice A1 kn c1) (.slice A2 vn c2) (.int .i64 c) (.int .i64 m) (.int .i64 v) (.int .i64 l)
  have HQ := kept (And.intro hq (And.intro hB (hO.mono (by omega : w.heap.size ≤ w.heap.size + 2))))
  clear hq hB hO hzz hbb hoo
  go_wp2
  obtain ⟨hq, hB, hO⟩ := HQ.out
  unfold set6 at hq hB hO
  generalize ((((((X.setCell ⟨w.heap.size + 1, 0, none⟩ (.slice A1 kn c1)).setCell ⟨w.heap.size + 1, 1, none⟩ (.slice A2 vn c2)).setCell ⟨w.heap.size + 1, 2, none⟩ (.int .i64 c)).setCell ⟨w.heap.size + 1, 3, none⟩ (.int .i64 m)).setCell ⟨w.heap.size + 1, 4, none⟩ (.int .i64 v)).setCell ⟨w.heap.size + 1, 5, none⟩ (.int .i64 l)) = Y at hq hB hO ⊢
  have v0 : Y.cell? ⟨w.heap.size + 1, 0, none⟩ = some (.slice A1 kn c1) := hq.cell 0
  have v1 : Y.cell? ⟨w.heap.size + 1, 1, none⟩ = some (.slice A2 vn c2) := hq.cell 1
  have v2 : Y.cell? ⟨w.heap.size + 1, 2, none⟩ = some (.int .i64 c) := hq.cell 2
  have v3 : Y.cell? ⟨w.heap.size + 1, 3, none⟩ = some (.int .i64 m) := hq.cell 3
  have v4 : Y.cell? ⟨w.heap.size + 1, 4, none⟩ = some (.int .i64 v) := hq.cell 4
  have v5 : Y.cell? ⟨w.heap.size + 1, 5, none⟩ = some (.int .i64 l) := hq.cell 5
  refine bodyPost_ret (v := .agg #[.slice A1 kn c1, .slice A2 vn c2, .int .i64 c, .int .i64 m, .int .i64 v, .int .i64 l]) ?_ rfl ?_
  · simp [results, Try.results25, go_sem, v0, v1, v2, v3, v4, v5]
  · exact ⟨⟨A1, kn, c1, A2, vn, c2⟩, rfl, hO, hB⟩
section
variable {H : Type} {enc : TypeId × Value → H} {W : World}
theorem kv_of {fuel : Nat} {cs : List Value} {x : DataW H × List MemPlace} (hw : Wt x.1 37) (hl : cs.length = 6) (h : DataW.trod enc Try.prog W 0 (fun _ => true) true fuel 37 cs = some x) :
    ∃ (L : LayV) (y : Kv), cs = [.slice L.ka L.kn L.kc, .slice L.va L.vn L.vc, .int .i64 y.c, .int .i64 y.m, .int .i64 y.v, .int .i64 y.l] ∧ RdV W L y := by
  match cs, hl with
  | [c0, c1, c2, c3, c4, c5], _ =>
    obtain ⟨m, hf⟩ := fields_of Try.underlying37 (by kernel_rfl) hw h
    obtain ⟨y0, q0, g0⟩ := hf 0 _ (by simp) rfl
    obtain ⟨y1, q1, g1⟩ := hf 1 _ (by simp) rfl
    obtain ⟨y2, q2, g2⟩ := hf 2 _ (by simp) rfl
    obtain ⟨y3, q3, g3⟩ := hf 3 _ (by simp) rfl
    obtain ⟨y4, q4, g4⟩ := hf 4 _ (by simp) rfl
    obtain ⟨y5, q5, g5⟩ := hf 5 _ (by simp) rfl
    obtain ⟨ka, kn, kc, xk, e0, r0, l0, m0⟩ := bytes_of q0 g0
    obtain ⟨va, vn, vc, xv, e1, r1, l1, m1⟩ := bytes_of q1 g1
    obtain ⟨c, e2, _⟩ := i64_of g2
    obtain ⟨mo, e3, _⟩ := i64_of g3
    obtain ⟨ve, e4, _⟩ := i64_of g4
    obtain ⟨le, e5, _⟩ := i64_of g5
    simp only [List.getElem_cons_zero, List.getElem_cons_succ] at e0 e1 e2 e3 e4 e5
    subst e0 e1 e2 e3 e4 e5
    exact ⟨⟨ka, kn, kc, va, vn, vc⟩, ⟨xk, xv, c, mo, ve, le⟩, rfl, r0, r1, l0, l1, m0, m1⟩
set_option maxRecDepth 100000 in
theorem opened_kv {r : Reach} {b0 : Nat} {v : Value} {d : DataW H} {p : List MemPlace} (hw : Wt d 37) (hv : Value.okWide Try.prog W r b0 37 v) (h : DataW.Trod enc Try.prog W 0 (fun _ => true) true 37 v d p) : ∃ (L : LayV) (x : Kv), v = vkv L x ∧ RdV W L x := by
  obtain ⟨cs, rfl, hsz⟩ := okWide_struct Try.underlying37 hv
  obtain ⟨l⟩ := cs
  have h6 : l.length = 6 := hsz.trans (by kernel_rfl)
  obtain ⟨fuel, hf⟩ := h
  have hf : DataW.trod enc Try.prog W 0 (fun _ => true) true fuel 37 l = some (d, p) := by simpa [Value.cells] using hf
  obtain ⟨L, y, e, hr⟩ := kv_of hw h6 hf
  subst e
  exact ⟨L, y, rfl, hr⟩
end
end Go.Proofs.Ytepmamfbhocjjaa
end

section
/-
  Package sift: a query as it lies; Right, between, Keeps.
-/
namespace Go.Proofs.Ytepmamfbhocjjaa
open Go.ChangeShapes Go.WideShapes Go.ChangeAt Go.RowKit
set_option linter.unusedVariables false
set_option linter.unusedSimpArgs false

/-- What a sift doesn't look at: where key and end lie, and At. -/
structure LayQ where
  ka : Option Addr
  kn : Nat
  kc : Nat
  ea : Option Addr
  en : Nat
  ec : Nat
  at_ : Int
def cellsQ (L : LayQ) (q : Qy) : List Value := [.slice L.ka L.kn L.kc, .slice L.ea L.en L.ec, .int .i64 L.at_, .int .i64 q.limit, .int .i64 q.sort, .bool q.desc, .bool q.keys, .bool q.count, .int .i64 q.m0, .int .i64 q.m1, .int .i64 q.c0, .int .i64 q.c1]
abbrev vq (L : LayQ) (q : Qy) : Value := .agg #[.slice L.ka L.kn L.kc, .slice L.ea L.en L.ec, .int .i64 L.at_, .int .i64 q.limit, .int .i64 q.sort, .bool q.desc, .bool q.keys, .bool q.count, .int .i64 q.m0, .int .i64 q.m1, .int .i64 q.c0, .int .i64 q.c1]
abbrev boxQ (w : World) (L : LayQ) (q : Qy) : World := w.alloc (.cells #[.slice L.ka L.kn L.kc, .slice L.ea L.en L.ec, .int .i64 L.at_, .int .i64 q.limit, .int .i64 q.sort, .bool q.desc, .bool q.keys, .bool q.count, .int .i64 q.m0, .int .i64 q.m1, .int .i64 q.c0, .int .i64 q.c1] 24)
def QyB (w : World) (g : Nat) (L : LayQ) (q : Qy) : Prop := Blk w g 24 (cellsQ L q)
section
variable {w w' : World} {g : Nat} {L : LayQ} {q : Qy}
theorem QyB.new (w : World) (L : LayQ) (q : Qy) : QyB (boxQ w L q) w.heap.size L q := Blk.new w 24 _
theorem boxQ_below (w : World) (L : LayQ) (q : Qy) : Below w.heap.size w (boxQ w L q) := (Below.refl w.heap.size w).alloc (Nat.le_refl _) _
theorem boxQ_size (w : World) (L : LayQ) (q : Qy) : (boxQ w L q).heap.size = w.heap.size + 1 := by simp [boxQ]
theorem QyB.below_ {B : Nat} (h : QyB w g L q) (hb : Below B w w') (hg : g < B) : QyB w' g L q := Blk.below h hb hg
theorem QyB.cells (h : QyB w g L q) : w.cell? ⟨g, 3, none⟩ = some (.int .i64 q.limit) ∧ w.cell? ⟨g, 4, none⟩ = some (.int .i64 q.sort) ∧ w.cell? ⟨g, 5, none⟩ = some (.bool q.desc) ∧ w.cell? ⟨g, 6, none⟩ = some (.bool q.keys) ∧ w.cell? ⟨g, 7, none⟩ = some (.bool q.count) ∧ w.cell? ⟨g, 8, none⟩ = some (.int .i64 q.m0) ∧ w.cell? ⟨g, 9, none⟩ = some (.int .i64 q.m1) ∧ w.cell? ⟨g, 10, none⟩ = some (.int .i64 q.c0) ∧ w.cell? ⟨g, 11, none⟩ = some (.int .i64 q.c1) :=
  ⟨Blk.cell h 3, Blk.cell h 4, Blk.cell h 5, Blk.cell h 6, Blk.cell h 7, Blk.cell h 8, Blk.cell h 9, Blk.cell h 10, Blk.cell h 11⟩
end
theorem run_min4 {P : Program} (w : World) (ts : Array TypeId) (t : TypeId) (a b c d : Int) : (Builtin.min_ ts t #[.int .i64 a, .int .i64 b, .int .i64 c, .int .i64 d]).run P w = .ok (.int .i64 (min (min (min a b) c) d)) w := by
  have e : ∀ x y : Int, (if y < x then y else x) = min x y := fun x y => by rw [Int.min_def]; split <;> split <;> omega
  simp [Builtin.min_, Builtin.min2, e]
set_option maxHeartbeats 1000000 in
set_option maxRecDepth 100000 in
theorem rightQ_any (L : LayQ) (q : Qy) (w : World) (b : Bool) (hb : rightQ q = b) :
    Calls Try.prog 9 #[vq L q] w fun e w' => e = .returned (.bool b) ∧ Below w.heap.size w w' := by
  obtain ⟨k3, k4, k5, k6, k7, k8, k9, k10, k11⟩ := (QyB.new w L q).cells
  have HB0 := kept (boxQ_below w L q)
  have HE : Hid (rightQ q = b) := hb
  clear hb
  obtain ⟨ka, kn, kc, ea, en, ec, at_⟩ := L
  obtain ⟨sort, limit, m0, m1, c0, c1, desc, keys, count⟩ := q
  unfold boxQ at *
  dsimp only at *
  by_cases z1 : 0 ≤ sort
  · by_cases z2 : sort ≤ 4
    · by_cases z3 : 0 ≤ limit
      · by_cases z4 : limit ≤ 4096
        · obtain ⟨mn, hmn⟩ : ∃ mn, min (min (min m0 m1) c0) c1 = mn := ⟨_, rfl⟩
          have km := fun W => run_min4 (P := Try.prog) W #[2, 2, 2, 2] 2 m0 m1 c0 c1
          rw [hmn] at km
          have HM : Hid _ := hmn
          clear hmn
          go_enter Try.func9, Try.ntmps9
          go_wp2
          have hmn := HM.out
          go_ret
          exact ⟨ret_bool (by rw [← HE.out, ← hmn, Bool.eq_iff_iff]; simp [rightQ, z1, z2, z3, z4]; omega), HB0.out⟩
        · go_enter Try.func9, Try.ntmps9
          go_wp2
          go_ret
          exact ⟨ret_bool (by rw [← HE.out]; simp [rightQ]; omega), HB0.out⟩
      · go_enter Try.func9, Try.ntmps9
        go_wp2
        go_ret
        exact ⟨ret_bool (by rw [← HE.out]; simp [rightQ]; omega), HB0.out⟩
    · go_enter Try.func9, Try.ntmps9
      go_wp2
      go_ret
      exact ⟨ret_bool (by rw [← HE.out]; simp [rightQ]; omega), HB0.out⟩
  · go_enter Try.func9, Try.ntmps9
    go_wp2
    go_ret
    exact ⟨ret_bool (by rw [← HE.out]; simp [rightQ]; omega), HB0.out⟩
def btwQ (n least most : Int) : Bool := (decide (least = 0) || decide (least ≤ n)) && (decide (most = 0) || decide (n ≤ most))
theorem between_any (n least most : Int) (w : World) :
    Calls Try.prog 19 #[.int .i64 n, .int .i64 least, .int .i64 most] w fun e w' => e = .returned (.bool (btwQ n least most)) ∧ w' = w := by
  have HE : Hid (btwQ n least most = ((decide (least = 0) || decide (least ≤ n)) && (decide (most = 0) || decide (n ≤ most)))) := rfl
  generalize btwQ n least most = b at HE
  by_cases z1 : least = 0
  · have y1 : (least == 0) = true := by simp [z1]
    by_cases z2 : most = 0
    · have y2 : (most == 0) = true := by simp [z2]
      go_enter Try.func19, Try.ntmps19
      go_wp2
      go_ret
      exact ⟨ret_bool (by rw [HE.out]; simp [z1, z2]), rfl⟩
    · have y2 : (most == 0) = false := by simp [z2]
      go_enter Try.func19, Try.ntmps19
      go_wp2
      go_ret
      exact ⟨ret_bool (by rw [HE.out]; simp [z1, z2]), rfl⟩
  · have y1 : (least == 0) = false := by simp [z1]
    by_cases z3 : least ≤ n
    · by_cases z2 : most = 0
      · have y2 : (most == 0) = true := by simp [z2]
        go_enter Try.func19, Try.ntmps19
        go_wp2
        go_ret
        exact ⟨ret_bool (by rw [HE.out]; simp [z1, z2, z3]), rfl⟩
      · have y2 : (most == 0) = false := by simp [z2]
        go_enter Try.func19, Try.ntmps19
        go_wp2
        go_ret
        exact ⟨ret_bool (by rw [HE.out]; simp [z1, z2, z3]), rfl⟩
    · go_enter Try.func19, Try.ntmps19
      go_wp2
      go_ret
      exact ⟨ret_bool (by rw [HE.out]; simp [z1]; omega), rfl⟩
theorem keepsQ_btw (q : Qy) (x : Kv) : keepsQ q x = (btwQ x.m q.m0 q.m1 && btwQ x.c q.c0 q.c1) := by
  unfold keepsQ btwQ
  simp [Bool.and_assoc]
set_option maxRecDepth 100000 in
theorem keepsQ_any (L : LayQ) (q : Qy) (M : LayV) (x : Kv) (w : World) (b : Bool) (hb : keepsQ q x = b) :
    Calls Try.prog 14 #[vq L q, vkv M x] w fun e w' => e = .returned (.bool b) ∧ Below w.heap.size w w' := by
  have hq := QyB.new w L q
  have hx := Six.new (boxQ w L q) M x
  have hb2 := (boxQ_below w L q).trans ((boxV_below (boxQ w L q) M x).mono (by rw [boxQ_size]; omega))
  have hq2 := hq.below_ (boxV_below (boxQ w L q) M x) (by rw [boxQ_size]; omega)
  rw [boxQ_size] at hx
  obtain ⟨k3, k4, k5, k6, k7, k8, k9, k10, k11⟩ := hq2.cells
  obtain ⟨v1, v2, v3, v4, v5, v6⟩ := hx.cells
  have HB0 := kept hb2
  have HE : Hid (b = (btwQ x.m q.m0 q.m1 && btwQ x.c q.c0 q.c1)) := by show _ = _; rw [← hb, keepsQ_btw]
  clear hb hq hx hb2 hq2
  have C1 := fun W => kept (between_any x.m q.m0 q.m1 W)
  have C2 := fun W => kept (between_any x.c q.c0 q.c1 W)
  generalize btwQ x.m q.m0 q.m1 = b1 at HE C1
  generalize btwQ x.c q.c0 q.c1 = b2 at HE C2
  obtain ⟨ka, kn, kc, ea, en, ec, at_⟩ := L
  obtain ⟨sort, limit, m0, m1, c0, c1, desc, keys, count⟩ := q
  obtain ⟨ka', kn', kc', va', vn', vc'⟩ := M
  obtain ⟨xk, xv, c, m, v, l⟩ := x
  unfold boxQ boxV at *
  dsimp only at *
  cases b1
  · go_enter Try.func14, Try.ntmps14
    go_wp2_with (first | (go_at_call 19; (with_reducible refine ((C1 _).out).mono ?_); rintro e w1 ⟨rfl, rfl⟩))
    go_ret
    exact ⟨ret_bool (by rw [HE.out]; simp), HB0.out⟩
  · go_enter Try.func14, Try.ntmps14
    go_wp2_with (first | (go_at_call 19; (with_reducible refine ((C1 _).out).mono ?_); rintro e w1 ⟨rfl, rfl⟩) | (go_at_call 19; (with_reducible refine ((C2 _).out).mono ?_); rintro e w1 ⟨rfl, rfl⟩))
    go_ret
    exact ⟨ret_bool (by rw [HE.out]; simp), HB0.out⟩
end Go.Proofs.Ytepmamfbhocjjaa
end
