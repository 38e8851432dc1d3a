/-
  A record's twin, by the package and by the document: the same in memory of the call's own.
-/
import Derived.Test.YtcmjgkgdeaiifaaNf
import Derived.Test.YtcmjgkgdeaiifaaRs
import Derived.Test.YtcmjgkgdeaiifaaHnl
namespace Go.Proofs.Ytcmjgkgdeaiifaa
open Go.ChangeShapes Go.WideShapes Go.ChangeAt Go.RowKit
set_option linter.unusedVariables false
set_option linter.unusedSimpArgs false

theorem own_far {w : World} {base g n : Nat} {e : TypeId} {v : Value} {xs : List Value} (h : w.ownsRow base e 1 v n xs) (hg : g < base) (i : Nat) (u : Value) : (w.setCell ⟨g, i, none⟩ u).ownsRow base e 1 v n xs :=
  ownsRow_setCell_below h (a := ⟨g, i, none⟩) hg u
/-- A record of the call's own: its key's block is elder than its value's. -/
def OwV (w : World) (B : Nat) (L : LayV) (x : Kv) : Prop :=
  ∃ B2, B ≤ B2 ∧ w.ownsRow B 5 1 (.slice L.ka L.kn L.kc) L.kn (cellsOf x.key) ∧ w.ownsRow B2 5 1 (.slice L.va L.vn L.vc) L.vn (cellsOf x.val) ∧ (∀ k, (Value.slice L.ka L.kn L.kc).ownBlock = some k → k < B2) ∧ L.kn ≤ 140737488351232 ∧ L.vn ≤ 140737488351232
theorem OwV.rd {w : World} {B : Nat} {L : LayV} {x : Kv} (h : OwV w B L x) : RdV w L x := by
  obtain ⟨B2, _, h1, h2, _, h3, h4⟩ := h
  exact ⟨Rd.of_own h1, Rd.of_own h2, own_cap h1, own_cap h2, h3, h4⟩
theorem OwV.below {w w' : World} {B : Nat} {L : LayV} {x : Kv} (h : OwV w B L x) (hb : Below w.heap.size w w') : OwV w' B L x := by
  obtain ⟨B2, h0, h1, h2, h3⟩ := h
  exact ⟨B2, h0, own_stays h1 hb, own_stays h2 hb, h3⟩
theorem OwV.mono {w : World} {B B' : Nat} {L : LayV} {x : Kv} (h : OwV w B L x) (hb : B' ≤ B) : OwV w B' L x := by
  obtain ⟨B2, h0, h1, h2, h3⟩ := h
  exact ⟨B2, Nat.le_trans hb h0, own_mono h1 hb, h2, h3⟩
theorem OwV.far {w : World} {B g : Nat} {L : LayV} {x : Kv} (h : OwV w B L x) (hg : g < B) (i : Nat) (u : Value) : OwV (w.setCell ⟨g, i, none⟩ u) B L x := by
  obtain ⟨B2, h0, h1, h2, h3⟩ := h
  exact ⟨B2, h0, own_far h1 hg i u, own_far h2 (Nat.lt_of_lt_of_le hg h0) i u, h3⟩
/-- A zero record in block g. -/
abbrev zeroes (w : World) : World := w.alloc (.cells #[.slice none 0 0, .slice none 0 0, .int .i64 0, .int .i64 0, .int .i64 0, .int .i64 0] 24)
/-- Six cells stored. -/
abbrev set6 (w : World) (q : Nat) (u0 u1 u2 u3 u4 u5 : Value) : World := (((((w.setCell ⟨q, 0, none⟩ u0).setCell ⟨q, 1, none⟩ u1).setCell ⟨q, 2, none⟩ u2).setCell ⟨q, 3, none⟩ u3).setCell ⟨q, 4, none⟩ u4).setCell ⟨q, 5, none⟩ u5
theorem set6_blk {w : World} {q : Nat} {t : TypeId} {a b c d e f : Value} (h : Blk w q t [a, b, c, d, e, f]) (u0 u1 u2 u3 u4 u5 : Value) : Blk (set6 w q u0 u1 u2 u3 u4 u5) q t [u0, u1, u2, u3, u4, u5] :=
  (((((h.set_ 0 u0).set_ 1 u1).set_ 2 u2).set_ 3 u3).set_ 4 u4).set_ 5 u5
theorem set6_only (w : World) (q : Nat) (u0 u1 u2 u3 u4 u5 : Value) : Only w (set6 w q u0 u1 u2 u3 u4 u5) q :=
  ((((((Only.refl w q).setCell 0 u0).setCell 1 u1).setCell 2 u2).setCell 3 u3).setCell 4 u4).setCell 5 u5
theorem set6_below {w W : World} {B q : Nat} (hb : Below B w W) (hq : B ≤ q) (u0 u1 u2 u3 u4 u5 : Value) : Below B w (set6 W q u0 u1 u2 u3 u4 u5) :=
  (((((hb.setCell (p := ⟨q, 0, none⟩) hq u0).setCell (p := ⟨q, 1, none⟩) hq u1).setCell (p := ⟨q, 2, none⟩) hq u2).setCell (p := ⟨q, 3, none⟩) hq u3).setCell (p := ⟨q, 4, none⟩) hq u4).setCell (p := ⟨q, 5, none⟩) hq u5
theorem OwV.set6 {w : World} {B q : Nat} {L : LayV} {x : Kv} (h : OwV w B L x) (hq : q < B) (u0 u1 u2 u3 u4 u5 : Value) : OwV (set6 w q u0 u1 u2 u3 u4 u5) B L x :=
  (((((h.far hq 0 u0).far hq 1 u1).far hq 2 u2).far hq 3 u3).far hq 4 u4).far hq 5 u5
/-- A record's box and a zero record, as a call begins. -/
theorem two_blocks (w : World) (L : LayV) (x : Kv) : Six (zeroes (boxV w L x)) w.heap.size L x ∧ Blk (zeroes (boxV w L x)) (w.heap.size + 1) 24 [.slice none 0 0, .slice none 0 0, .int .i64 0, .int .i64 0, .int .i64 0, .int .i64 0] ∧ Below w.heap.size w (zeroes (boxV w L x)) ∧ (zeroes (boxV w L x)).heap.size = w.heap.size + 2 := by
  have h1 := Six.new w L x
  have h2 := Blk.new (boxV w L x) 24 #[.slice none 0 0, .slice none 0 0, .int .i64 0, .int .i64 0, .int .i64 0, .int .i64 0]
  rw [boxV_size] at h2
  have hb := (Below.refl (boxV w L x).heap.size (boxV w L x)).alloc (Nat.le_refl _) (.cells #[.slice none 0 0, .slice none 0 0, .int .i64 0, .int .i64 0, .int .i64 0, .int .i64 0] 24)
  exact ⟨h1.below hb, h2, bel_to hb (boxV_below _ _ _), by rw [World.size_alloc, boxV_size]⟩
theorem Only.far_blk {w w' : World} {r g : Nat} {t : TypeId} {cs : List Value} (h : Blk w g t cs) (k : Only w w' r) (hne : g ≠ r) : Blk w' g t cs := (k.block g h.lt (fun e => hne (Option.some.inj e))).trans h
set_option maxRecDepth 100000 in
set_option maxHeartbeats 2000000 in
theorem refTwin_kv (L : LayV) (x : Kv) (w : World) (h : RdV w L x) :
    Calls Try.prog 9 #[vkv L x] w fun e w' => ∃ M, e = .returned (vkv M x) ∧ OwV w' w.heap.size M x ∧ Below w.heap.size w w' := by
  obtain ⟨s1, s2, hB, hz⟩ := two_blocks w L x
  obtain ⟨k1, k2, k3, k4, k5, k6⟩ := s1.cells
  have HS := kept s1
  have HZ := kept s2
  have HB := kept hB
  have HN := kept hz
  have HH := kept h
  have HX := kept (h.below hB)
  clear h s1 s2 hB hz
  obtain ⟨ka, kn, kc, va, vn, vc⟩ := L
  obtain ⟨xk, xv, c, m, v, l⟩ := x
  unfold boxV zeroes at *
  dsimp only at *
  have HC1 := fun W hr => kept (twin_any ka kn kc xk W hr (by have := HH.out.kb; dsimp only at this; omega))
  have HC2 := fun W hr => kept (twin_any va vn vc xv W hr (by have := HH.out.vb; dsimp only at this; omega))
  have HKV := kept (And.intro HH.out.kb HH.out.vb)
  dsimp only at HKV
  go_enter Try.func9, Try.ntmps9
  go_wp2_with fail
  with_reducible refine (HC1 _ HX.out.key).out.mono ?_
  rintro e w1 ⟨A1, c1, rfl, hown, hb⟩
  rw [HN.out] at hown hb
  have hs1 := HS.out.below_ hb (by omega)
  have hz1 := HZ.out.below hb (by omega)
  have hx1 := HX.out.below (by rw [HN.out]; exact hb)
  have hb1 := HB.out.trans (hb.mono (by omega))
  have hsz : w.heap.size + 2 ≤ w1.heap.size := by have := hb.size; have := HN.out; omega
  clear k1 k2 k3 k4 k5 k6 hb
  have HO1 := kept (own_far hown (by omega : w.heap.size < w.heap.size + 2) 0 (.slice A1 kn c1))
  have HB1 := kept (hb1.setCell (p := ⟨w.heap.size, 0, none⟩) (Nat.le_refl _) (.slice A1 kn c1))
  have HS1 := kept (Blk.set_ hs1 0 (.slice A1 kn c1))
  have HZ1 := kept (hz1.far (p := ⟨w.heap.size, 0, none⟩) (by simp) (.slice A1 kn c1))
  have HY1 := kept (hs1.cells)
  have HL1 := kept (hown.lt)
  have HN1 := kept (show w.heap.size + 2 ≤ (w1.setCell ⟨w.heap.size, 0, none⟩ (.slice A1 kn c1)).heap.size by simpa [World.setCell] using hsz)
  have f0 := Blk.frozen hs1 0
  obtain ⟨k1, k2, k3, k4, k5, k6⟩ := hs1.cells
  dsimp only at k1 k2 k3 k4 k5 k6
  have g2 : (w1.setCell ⟨w.heap.size, 0, none⟩ (.slice A1 kn c1)).cell? ⟨w.heap.size, 1, none⟩ = some (.slice va vn vc) := HS1.out.cell 1
  have HX1 := kept (hx1.val.grown (g := w.heap.size) (HH.out.val.fresh (Nat.le_refl _)) ((Only.refl w1 w.heap.size).setCell 0 (.slice A1 kn c1)))
  clear hs1 hz1 hx1 hb1 hsz hown
  go_wp2_with fail
  with_reducible refine (HC2 _ HX1.out).out.mono ?_
  clear k1 k2 k3 k4 k5 k6 g2 f0
  rintro e w2 ⟨A2, c2, rfl, hown, hb⟩
  have hs2 := HS1.out.below hb HS1.out.lt
  have hz2 := HZ1.out.below hb HZ1.out.lt
  have hb2 := HB1.out.trans (hb.mono (by have := HN1.out; omega))
  have ho1 := own_stays HO1.out hb
  have f1 := hs2.frozen 1
  have g0 : w2.cell? ⟨w.heap.size, 0, none⟩ = some (.slice A1 kn c1) := hs2.cell 0
  have g1 : w2.cell? ⟨w.heap.size, 1, none⟩ = some (.slice va vn vc) := hs2.cell 1
  have hs3 := hs2.set_ 1 (.slice A2 vn c2)
  simp only [cellsV, List.set_cons_zero, List.set_cons_succ] at hs3
  have hzz := hz2.far (p := ⟨w.heap.size, 1, none⟩) (by simp) (.slice A2 vn c2)
  have hbb := hb2.setCell (p := ⟨w.heap.size, 1, none⟩) (Nat.le_refl _) (.slice A2 vn c2)
  have hoo : OwV (w2.setCell ⟨w.heap.size, 1, none⟩ (.slice A2 vn c2)) (w.heap.size + 2) ⟨A1, kn, c1, A2, vn, c2⟩ ⟨xk, xv, c, m, v, l⟩ :=
    ⟨_, HN1.out, own_far ho1 (by omega) 1 _, own_far hown (by have := HN1.out; omega) 1 _, fun k hk => by have := (HL1.out k hk).2; simpa [World.setCell] using this, HKV.out.1, HKV.out.2⟩
  have hcc : Six (w2.setCell ⟨w.heap.size, 1, none⟩ (.slice A2 vn c2)) w.heap.size ⟨A1, kn, c1, A2, vn, c2⟩ ⟨xk, xv, c, m, v, l⟩ := hs3
  replace hcc := hcc.cells
  clear hs2 hz2 hb2 ho1 hs3 hown hb HX HC1 HC2 HS HZ HB HO1 HB1 HS1 HZ1 HY1 HX1
  obtain ⟨X, hX⟩ : ∃ X, w2.setCell ⟨w.heap.size, 1, none⟩ (.slice A2 vn c2) = X := ⟨_, rfl⟩
  rw [hX] at hcc hzz hbb hoo
  obtain ⟨k1, k2, k3, k4, k5, k6⟩ := hcc
  dsimp only at k1 k2 k3 k4 k5 k6
  have z0 : X.cell? ⟨w.heap.size + 1, 0, none⟩ = some (.slice none 0 0) := hzz.cell 0
  have z1 : X.cell? ⟨w.heap.size + 1, 1, none⟩ = some (.slice none 0 0) := hzz.cell 1
  have z2 : X.cell? ⟨w.heap.size + 1, 2, none⟩ = some (.int .i64 0) := hzz.cell 2
  have z3 : X.cell? ⟨w.heap.size + 1, 3, none⟩ = some (.int .i64 0) := hzz.cell 3
  have z4 : X.cell? ⟨w.heap.size + 1, 4, none⟩ = some (.int .i64 0) := hzz.cell 4
  have z5 : X.cell? ⟨w.heap.size + 1, 5, none⟩ = some (.int .i64 0) := hzz.cell 5
  have f0 := hzz.frozen 0
  have f1 := hzz.frozen 1
  have f2 := hzz.frozen 2
  have f3 := hzz.frozen 3
  have f4 := hzz.frozen 4
  have f5 := hzz.frozen 5
  have hq := set6_blk hzz (.slice A1 kn c1) (.slice A2 vn c2) (.int .i64 c) (.int .i64 m) (.int .i64 v) (.int .i64 l)
  have hB := set6_below (q := w.heap.size + 1) hbb (Nat.le_succ _) (.slice A1 kn c1) (.slice A2 vn c2) (.int .i64 c) (.int .i64 m) (.int .i64 v) (.int .i64 l)
  have hO := OwV.set6 (q := w.heap.size + 1) hoo (by omega) (.slice A1 kn c1) (.slice A2 vn c2) (.int .i64 c) (.int .i64 m) (.int .i64 v) (.int .i64 l)
  have HQ := kept (And.intro hq (And.intro hB (hO.mono (by omega : w.heap.size ≤ w.heap.size + 2))))
  clear hq hB hO hzz hbb hoo
  go_wp2
  obtain ⟨hq, hB, hO⟩ := HQ.out
  unfold set6 at hq hB hO
  generalize ((((((X.setCell ⟨w.heap.size + 1, 0, none⟩ (.slice A1 kn c1)).setCell ⟨w.heap.size + 1, 1, none⟩ (.slice A2 vn c2)).setCell ⟨w.heap.size + 1, 2, none⟩ (.int .i64 c)).setCell ⟨w.heap.size + 1, 3, none⟩ (.int .i64 m)).setCell ⟨w.heap.size + 1, 4, none⟩ (.int .i64 v)).setCell ⟨w.heap.size + 1, 5, none⟩ (.int .i64 l)) = Y at hq hB hO ⊢
  have v0 : Y.cell? ⟨w.heap.size + 1, 0, none⟩ = some (.slice A1 kn c1) := hq.cell 0
  have v1 : Y.cell? ⟨w.heap.size + 1, 1, none⟩ = some (.slice A2 vn c2) := hq.cell 1
  have v2 : Y.cell? ⟨w.heap.size + 1, 2, none⟩ = some (.int .i64 c) := hq.cell 2
  have v3 : Y.cell? ⟨w.heap.size + 1, 3, none⟩ = some (.int .i64 m) := hq.cell 3
  have v4 : Y.cell? ⟨w.heap.size + 1, 4, none⟩ = some (.int .i64 v) := hq.cell 4
  have v5 : Y.cell? ⟨w.heap.size + 1, 5, none⟩ = some (.int .i64 l) := hq.cell 5
  refine bodyPost_ret (v := .agg #[.slice A1 kn c1, .slice A2 vn c2, .int .i64 c, .int .i64 m, .int .i64 v, .int .i64 l]) ?_ rfl ?_
  · simp [results, Try.results9, go_sem, v0, v1, v2, v3, v4, v5]
  · exact ⟨⟨A1, kn, c1, A2, vn, c2⟩, rfl, hO, hB⟩
end Go.Proofs.Ytcmjgkgdeaiifaa
