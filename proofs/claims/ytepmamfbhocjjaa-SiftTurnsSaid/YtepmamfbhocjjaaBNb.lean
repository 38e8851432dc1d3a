/-
  Texts laid together: Nb Nc Nd Ne.
-/
import Derived.Test.YtepmamfbhocjjaaBBase
import Derived.Test.YtepmamfbhocjjaaBCat
import Derived.Test.YtepmamfbhocjjaaBMk
import Derived.Test.YtepmamfbhocjjaaBHnd
section
/-
  A record as it lies; what record's Right, row, number, text and head answer.
-/
namespace Go.Proofs.Ytepmamfbhocjjaa
open Go.ChangeShapes Go.WideShapes Go.ChangeAt Go.RowKit
set_option linter.unusedVariables false
set_option linter.unusedSimpArgs false

/-- Where a record's key and value lie. -/
structure LayV where
  ka : Option Addr
  kn : Nat
  kc : Nat
  va : Option Addr
  vn : Nat
  vc : Nat
def cellsV (L : LayV) (x : Kv) : List Value := [.slice L.ka L.kn L.kc, .slice L.va L.vn L.vc, .int .i64 x.c, .int .i64 x.m, .int .i64 x.v, .int .i64 x.l]
abbrev vkv (L : LayV) (x : Kv) : Value := .agg #[.slice L.ka L.kn L.kc, .slice L.va L.vn L.vc, .int .i64 x.c, .int .i64 x.m, .int .i64 x.v, .int .i64 x.l]
/-- The record at L reads as x. -/
structure RdV (w : World) (L : LayV) (x : Kv) : Prop where
  key : Rd w L.ka L.kn x.key
  val : Rd w L.va L.vn x.val
  kc : L.kn ≤ L.kc
  vc : L.vn ≤ L.vc
  kb : L.kn ≤ 140737488351232
  vb : L.vn ≤ 140737488351232
section
variable {w w' : World} {L : LayV} {x : Kv}
theorem RdV.below (h : RdV w L x) (hb : Below w.heap.size w w') : RdV w' L x := ⟨h.key.below hb, h.val.below hb, h.kc, h.vc, h.kb, h.vb⟩
theorem RdV.keeps (h : RdV w L x) (k : Keeps w w') : RdV w' L x := ⟨h.key.keeps k, h.val.keeps k, h.kc, h.vc, h.kb, h.vb⟩
theorem RdV.drew (h : RdV w L x) : RdV w.drew L x := ⟨h.key, h.val, h.kc, h.vc, h.kb, h.vb⟩
theorem RdV.drewN (h : RdV w L x) (q : Nat) : RdV (w.drewN q) L x := ⟨h.key, h.val, h.kc, h.vc, h.kb, h.vb⟩
end
/-- The six cells of a record in block g. -/
def Six (w : World) (g : Nat) (L : LayV) (x : Kv) : Prop := Blk w g 37 (cellsV L x)
section
variable {w w' : World} {L : LayV} {x : Kv} {g : Nat}
theorem Six.new (w : World) (L : LayV) (x : Kv) : Six (w.alloc (.cells #[.slice L.ka L.kn L.kc, .slice L.va L.vn L.vc, .int .i64 x.c, .int .i64 x.m, .int .i64 x.v, .int .i64 x.l] 37)) w.heap.size L x := Blk.new w 37 _
theorem Six.below (h : Six w g L x) (hb : Below w.heap.size w w') : Six w' g L x := Blk.below h hb h.lt
theorem Six.cells (h : Six w g L x) : w.cell? ⟨g, 0, none⟩ = some (.slice L.ka L.kn L.kc) ∧ w.cell? ⟨g, 1, none⟩ = some (.slice L.va L.vn L.vc) ∧ w.cell? ⟨g, 2, none⟩ = some (.int .i64 x.c) ∧ w.cell? ⟨g, 3, none⟩ = some (.int .i64 x.m) ∧ w.cell? ⟨g, 4, none⟩ = some (.int .i64 x.v) ∧ w.cell? ⟨g, 5, none⟩ = some (.int .i64 x.l) :=
  ⟨Blk.cell h 0, Blk.cell h 1, Blk.cell h 2, Blk.cell h 3, Blk.cell h 4, Blk.cell h 5⟩
end
theorem Six.below_ {B : Nat} {w w' : World} {g : Nat} {L : LayV} {x : Kv} (h : Six w g L x) (hb : Below B w w') (hg : g < B) : Six w' g L x := Blk.below h hb hg

end Go.Proofs.Ytepmamfbhocjjaa
end

section
/-
  What record's text, head, Encode and Tomb answer.
-/
namespace Go.Proofs.Ytepmamfbhocjjaa
open Go.ChangeShapes Go.WideShapes Go.ChangeAt Go.RowKit
set_option linter.unusedVariables false
set_option linter.unusedSimpArgs false

end Go.Proofs.Ytepmamfbhocjjaa
end

section
/-
  What record's Encode answers: the bytes of a right record; nothing of another one.
-/
namespace Go.Proofs.Ytepmamfbhocjjaa
open Go.ChangeShapes Go.WideShapes Go.ChangeAt Go.RowKit
set_option linter.unusedVariables false
set_option linter.unusedSimpArgs false

theorem six_keeps {w w' : World} {g : Nat} {a b c d e f : Value} (h : w.cell? ⟨g, 0, none⟩ = some a ∧ w.cell? ⟨g, 1, none⟩ = some b ∧ w.cell? ⟨g, 2, none⟩ = some c ∧ w.cell? ⟨g, 3, none⟩ = some d ∧ w.cell? ⟨g, 4, none⟩ = some e ∧ w.cell? ⟨g, 5, none⟩ = some f) (k : Keeps w w') :
    w'.cell? ⟨g, 0, none⟩ = some a ∧ w'.cell? ⟨g, 1, none⟩ = some b ∧ w'.cell? ⟨g, 2, none⟩ = some c ∧ w'.cell? ⟨g, 3, none⟩ = some d ∧ w'.cell? ⟨g, 4, none⟩ = some e ∧ w'.cell? ⟨g, 5, none⟩ = some f :=
  ⟨k.cell_ h.1, k.cell_ h.2.1, k.cell_ h.2.2.1, k.cell_ h.2.2.2.1, k.cell_ h.2.2.2.2.1, k.cell_ h.2.2.2.2.2⟩
theorem RdV.has_key {w : World} {L : LayV} {x : Kv} (h : RdV w L x) : Has w L.ka L.kn L.kc x.key := ⟨h.key, h.kc⟩
theorem RdV.has_val {w : World} {L : LayV} {x : Kv} (h : RdV w L x) : Has w L.va L.vn L.vc x.val := ⟨h.val, h.vc⟩
end Go.Proofs.Ytepmamfbhocjjaa
end

section
/-
  Two records held against one another, by the package and by the document; the document's Right.
-/
namespace Go.Proofs.Ytepmamfbhocjjaa
open Go.ChangeShapes Go.WideShapes Go.ChangeAt Go.RowKit
set_option linter.unusedVariables false
set_option linter.unusedSimpArgs false

abbrev boxV (w : World) (L : LayV) (x : Kv) : World := w.alloc (.cells #[.slice L.ka L.kn L.kc, .slice L.va L.vn L.vc, .int .i64 x.c, .int .i64 x.m, .int .i64 x.v, .int .i64 x.l] 37)
theorem boxV_below (w : World) (L : LayV) (x : Kv) : Below w.heap.size w (boxV w L x) := (Below.refl w.heap.size w).alloc (Nat.le_refl _) _
theorem boxV_size (w : World) (L : LayV) (x : Kv) : (boxV w L x).heap.size = w.heap.size + 1 := by simp [boxV]
/-- Two records in two new blocks. -/
theorem two_boxes (w : World) (L M : LayV) (x y : Kv) : Six (boxV (boxV w L x) M y) w.heap.size L x ∧ Six (boxV (boxV w L x) M y) (w.heap.size + 1) M y ∧ Below w.heap.size w (boxV (boxV w L x) M y) := by
  have h1 := Six.new w L x
  have h2 := Six.new (boxV w L x) M y
  rw [boxV_size] at h2
  exact ⟨h1.below (boxV_below _ _ _), h2, bel_to (boxV_below _ _ _) (boxV_below _ _ _)⟩
theorem kv_eq (x y : Kv) : decide (x = y) = (decide (x.key = y.key) && decide (x.val = y.val) && (x.c == y.c) && (x.m == y.m) && (x.v == y.v) && (x.l == y.l)) := by
  obtain ⟨a, b, c, d, e, f⟩ := x
  obtain ⟨a', b', c', d', e', f'⟩ := y
  rw [Bool.eq_iff_iff]
  simp [and_assoc]
set_option maxRecDepth 100000 in
set_option maxHeartbeats 1000000 in
theorem refSame_kv (L M : LayV) (x y : Kv) (w : World) (b : Bool) (hb : decide (x = y) = b) (h : RdV w L x) (g : RdV w M y) :
    Calls Try.prog 13 #[vkv L x, vkv M y] w fun e w' => e = .returned (.bool b) ∧ Below w.heap.size w w' := by
  obtain ⟨s1, s2, hB⟩ := two_boxes w L M x y
  obtain ⟨k1, k2, k3, k4, k5, k6⟩ := s1.cells
  obtain ⟨q1, q2, q3, q4, q5, q6⟩ := s2.cells
  have HX := kept (And.intro (h.below hB) (g.below hB))
  have HB0 := kept hB
  have HE : Hid (b = (decide (x.key = y.key) && decide (x.val = y.val) && (x.c == y.c) && (x.m == y.m) && (x.v == y.v) && (x.l == y.l))) := by show _ = _; rw [← hb, kv_eq]
  clear hb h g s1 s2 hB
  obtain ⟨ka, kn, kc, va, vn, vc⟩ := L
  obtain ⟨ka', kn', kc', va', vn', vc'⟩ := M
  obtain ⟨xk, xv, c, m, v, l⟩ := x
  obtain ⟨yk, yv, c', m', v', l'⟩ := y
  unfold boxV at *
  dsimp only at *
  obtain ⟨b1, e1⟩ : ∃ b, decide (xk = yk) = b := ⟨_, rfl⟩
  obtain ⟨b2, e2⟩ : ∃ b, decide (xv = yv) = b := ⟨_, rfl⟩
  obtain ⟨b3, e3⟩ : ∃ b, (c == c') = b := ⟨_, rfl⟩
  obtain ⟨b4, e4⟩ : ∃ b, (m == m') = b := ⟨_, rfl⟩
  obtain ⟨b5, e5⟩ : ∃ b, (v == v') = b := ⟨_, rfl⟩
  obtain ⟨b6, e6⟩ : ∃ b, (l == l') = b := ⟨_, rfl⟩
  have HE : Hid (b = (b1 && b2 && b3 && b4 && b5 && b6)) := by rw [e1, e2, e3, e4, e5, e6] at HE; exact HE
  have C1 := fun W h1 h2 => kept (same_any ka ka' kn kn' kc kc' xk yk W h1 h2 b1 e1)
  have C2 := fun W h1 h2 => kept (same_any va va' vn vn' vc vc' xv yv W h1 h2 b2 e2)
  clear e1 e2
  cases b1
  · go_enter Try.func13, Try.ntmps13
    go_wp2_with (first | (go_at_call 15; (with_reducible refine ((C1 _ (HX.out.1.key) (HX.out.2.key)).out).mono ?_); rintro e w1 ⟨rfl, rfl⟩) | (go_at_call 15; (with_reducible refine ((C2 _ (HX.out.1.val) (HX.out.2.val)).out).mono ?_); rintro e w1 ⟨rfl, rfl⟩))
    go_ret
    exact ⟨ret_bool (by rw [HE.out]; simp), HB0.out⟩
  · skip
    cases b2
    · go_enter Try.func13, Try.ntmps13
      go_wp2_with (first | (go_at_call 15; (with_reducible refine ((C1 _ (HX.out.1.key) (HX.out.2.key)).out).mono ?_); rintro e w1 ⟨rfl, rfl⟩) | (go_at_call 15; (with_reducible refine ((C2 _ (HX.out.1.val) (HX.out.2.val)).out).mono ?_); rintro e w1 ⟨rfl, rfl⟩))
      go_ret
      exact ⟨ret_bool (by rw [HE.out]; simp), HB0.out⟩
    · skip
      cases b3
      · go_enter Try.func13, Try.ntmps13
        go_wp2_with (first | (go_at_call 15; (with_reducible refine ((C1 _ (HX.out.1.key) (HX.out.2.key)).out).mono ?_); rintro e w1 ⟨rfl, rfl⟩) | (go_at_call 15; (with_reducible refine ((C2 _ (HX.out.1.val) (HX.out.2.val)).out).mono ?_); rintro e w1 ⟨rfl, rfl⟩))
        go_ret
        exact ⟨ret_bool (by rw [HE.out]; simp), HB0.out⟩
      · skip
        cases b4
        · go_enter Try.func13, Try.ntmps13
          go_wp2_with (first | (go_at_call 15; (with_reducible refine ((C1 _ (HX.out.1.key) (HX.out.2.key)).out).mono ?_); rintro e w1 ⟨rfl, rfl⟩) | (go_at_call 15; (with_reducible refine ((C2 _ (HX.out.1.val) (HX.out.2.val)).out).mono ?_); rintro e w1 ⟨rfl, rfl⟩))
          go_ret
          exact ⟨ret_bool (by rw [HE.out]; simp), HB0.out⟩
        · skip
          cases b5
          · go_enter Try.func13, Try.ntmps13
            go_wp2_with (first | (go_at_call 15; (with_reducible refine ((C1 _ (HX.out.1.key) (HX.out.2.key)).out).mono ?_); rintro e w1 ⟨rfl, rfl⟩) | (go_at_call 15; (with_reducible refine ((C2 _ (HX.out.1.val) (HX.out.2.val)).out).mono ?_); rintro e w1 ⟨rfl, rfl⟩))
            go_ret
            exact ⟨ret_bool (by rw [HE.out]; simp), HB0.out⟩
          · skip
            cases b6
            · go_enter Try.func13, Try.ntmps13
              go_wp2_with (first | (go_at_call 15; (with_reducible refine ((C1 _ (HX.out.1.key) (HX.out.2.key)).out).mono ?_); rintro e w1 ⟨rfl, rfl⟩) | (go_at_call 15; (with_reducible refine ((C2 _ (HX.out.1.val) (HX.out.2.val)).out).mono ?_); rintro e w1 ⟨rfl, rfl⟩))
              go_ret
              exact ⟨ret_bool (by rw [HE.out]; simp), HB0.out⟩
            · go_enter Try.func13, Try.ntmps13
              go_wp2_with (first | (go_at_call 15; (with_reducible refine ((C1 _ (HX.out.1.key) (HX.out.2.key)).out).mono ?_); rintro e w1 ⟨rfl, rfl⟩) | (go_at_call 15; (with_reducible refine ((C2 _ (HX.out.1.val) (HX.out.2.val)).out).mono ?_); rintro e w1 ⟨rfl, rfl⟩))
              go_ret
              exact ⟨ret_bool (by rw [HE.out]; simp), HB0.out⟩
end Go.Proofs.Ytepmamfbhocjjaa
end
