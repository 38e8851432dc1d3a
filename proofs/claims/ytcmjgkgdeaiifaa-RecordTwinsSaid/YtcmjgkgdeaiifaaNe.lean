/-
  Two records held against one another, by the package and by the document; the document's Right.
-/
import Derived.Test.YtcmjgkgdeaiifaaNd
import Derived.Test.YtcmjgkgdeaiifaaEq
namespace Go.Proofs.Ytcmjgkgdeaiifaa
open Go.ChangeShapes Go.WideShapes Go.ChangeAt Go.RowKit
set_option linter.unusedVariables false
set_option linter.unusedSimpArgs false

abbrev boxV (w : World) (L : LayV) (x : Kv) : World := w.alloc (.cells #[.slice L.ka L.kn L.kc, .slice L.va L.vn L.vc, .int .i64 x.c, .int .i64 x.m, .int .i64 x.v, .int .i64 x.l] 24)
theorem boxV_below (w : World) (L : LayV) (x : Kv) : Below w.heap.size w (boxV w L x) := (Below.refl w.heap.size w).alloc (Nat.le_refl _) _
theorem boxV_size (w : World) (L : LayV) (x : Kv) : (boxV w L x).heap.size = w.heap.size + 1 := by simp [boxV]
/-- Two records in two new blocks. -/
theorem two_boxes (w : World) (L M : LayV) (x y : Kv) : Six (boxV (boxV w L x) M y) w.heap.size L x ∧ Six (boxV (boxV w L x) M y) (w.heap.size + 1) M y ∧ Below w.heap.size w (boxV (boxV w L x) M y) := by
  have h1 := Six.new w L x
  have h2 := Six.new (boxV w L x) M y
  rw [boxV_size] at h2
  exact ⟨h1.below (boxV_below _ _ _), h2, bel_to (boxV_below _ _ _) (boxV_below _ _ _)⟩
theorem kv_eq (x y : Kv) : decide (x = y) = (decide (x.key = y.key) && decide (x.val = y.val) && (x.c == y.c) && (x.m == y.m) && (x.v == y.v) && (x.l == y.l)) := by
  obtain ⟨a, b, c, d, e, f⟩ := x
  obtain ⟨a', b', c', d', e', f'⟩ := y
  rw [Bool.eq_iff_iff]
  simp [and_assoc]
set_option maxRecDepth 100000 in
set_option maxHeartbeats 1000000 in
theorem same_kv (L M : LayV) (x y : Kv) (w : World) (b : Bool) (hb : decide (x = y) = b) (h : RdV w L x) (g : RdV w M y) :
    Calls Try.prog 21 #[vkv L x, vkv M y] w fun e w' => e = .returned (.bool b) ∧ Below w.heap.size w w' := by
  obtain ⟨s1, s2, hB⟩ := two_boxes w L M x y
  obtain ⟨k1, k2, k3, k4, k5, k6⟩ := s1.cells
  obtain ⟨q1, q2, q3, q4, q5, q6⟩ := s2.cells
  have HX := kept (And.intro (h.below hB) (g.below hB))
  have HB0 := kept hB
  have HE : Hid (b = (decide (x.key = y.key) && decide (x.val = y.val) && (x.c == y.c) && (x.m == y.m) && (x.v == y.v) && (x.l == y.l))) := by show _ = _; rw [← hb, kv_eq]
  clear hb h g s1 s2 hB
  obtain ⟨ka, kn, kc, va, vn, vc⟩ := L
  obtain ⟨ka', kn', kc', va', vn', vc'⟩ := M
  obtain ⟨xk, xv, c, m, v, l⟩ := x
  obtain ⟨yk, yv, c', m', v', l'⟩ := y
  unfold boxV at *
  dsimp only at *
  obtain ⟨b1, e1⟩ : ∃ b, decide (xk = yk) = b := ⟨_, rfl⟩
  obtain ⟨b2, e2⟩ : ∃ b, decide (xv = yv) = b := ⟨_, rfl⟩
  obtain ⟨b3, e3⟩ : ∃ b, (c == c') = b := ⟨_, rfl⟩
  obtain ⟨b4, e4⟩ : ∃ b, (m == m') = b := ⟨_, rfl⟩
  obtain ⟨b5, e5⟩ : ∃ b, (v == v') = b := ⟨_, rfl⟩
  obtain ⟨b6, e6⟩ : ∃ b, (l == l') = b := ⟨_, rfl⟩
  have HE : Hid (b = (b1 && b2 && b3 && b4 && b5 && b6)) := by rw [e1, e2, e3, e4, e5, e6] at HE; exact HE
  have C1 := fun W h1 h2 => kept (bytesEqual_any ka ka' kn kn' kc kc' xk yk W h1 h2 b1 e1)
  have C2 := fun W h1 h2 => kept (bytesEqual_any va va' vn vn' vc vc' xv yv W h1 h2 b2 e2)
  clear e1 e2
  cases b1
  · go_enter Try.func21, Try.ntmps21
    go_wp2_with (first | (go_at_call 38; (with_reducible refine ((C1 _ (HX.out.1.key) (HX.out.2.key)).out).mono ?_); rintro e w1 ⟨rfl, rfl⟩) | (go_at_call 38; (with_reducible refine ((C2 _ (HX.out.1.val) (HX.out.2.val)).out).mono ?_); rintro e w1 ⟨rfl, rfl⟩))
    go_ret
    exact ⟨ret_bool (by rw [HE.out]; simp), HB0.out⟩
  · skip
    cases b2
    · go_enter Try.func21, Try.ntmps21
      go_wp2_with (first | (go_at_call 38; (with_reducible refine ((C1 _ (HX.out.1.key) (HX.out.2.key)).out).mono ?_); rintro e w1 ⟨rfl, rfl⟩) | (go_at_call 38; (with_reducible refine ((C2 _ (HX.out.1.val) (HX.out.2.val)).out).mono ?_); rintro e w1 ⟨rfl, rfl⟩))
      go_ret
      exact ⟨ret_bool (by rw [HE.out]; simp), HB0.out⟩
    · skip
      cases b3
      · go_enter Try.func21, Try.ntmps21
        go_wp2_with (first | (go_at_call 38; (with_reducible refine ((C1 _ (HX.out.1.key) (HX.out.2.key)).out).mono ?_); rintro e w1 ⟨rfl, rfl⟩) | (go_at_call 38; (with_reducible refine ((C2 _ (HX.out.1.val) (HX.out.2.val)).out).mono ?_); rintro e w1 ⟨rfl, rfl⟩))
        go_ret
        exact ⟨ret_bool (by rw [HE.out]; simp), HB0.out⟩
      · skip
        cases b4
        · go_enter Try.func21, Try.ntmps21
          go_wp2_with (first | (go_at_call 38; (with_reducible refine ((C1 _ (HX.out.1.key) (HX.out.2.key)).out).mono ?_); rintro e w1 ⟨rfl, rfl⟩) | (go_at_call 38; (with_reducible refine ((C2 _ (HX.out.1.val) (HX.out.2.val)).out).mono ?_); rintro e w1 ⟨rfl, rfl⟩))
          go_ret
          exact ⟨ret_bool (by rw [HE.out]; simp), HB0.out⟩
        · skip
          cases b5
          · go_enter Try.func21, Try.ntmps21
            go_wp2_with (first | (go_at_call 38; (with_reducible refine ((C1 _ (HX.out.1.key) (HX.out.2.key)).out).mono ?_); rintro e w1 ⟨rfl, rfl⟩) | (go_at_call 38; (with_reducible refine ((C2 _ (HX.out.1.val) (HX.out.2.val)).out).mono ?_); rintro e w1 ⟨rfl, rfl⟩))
            go_ret
            exact ⟨ret_bool (by rw [HE.out]; simp), HB0.out⟩
          · skip
            cases b6
            · go_enter Try.func21, Try.ntmps21
              go_wp2_with (first | (go_at_call 38; (with_reducible refine ((C1 _ (HX.out.1.key) (HX.out.2.key)).out).mono ?_); rintro e w1 ⟨rfl, rfl⟩) | (go_at_call 38; (with_reducible refine ((C2 _ (HX.out.1.val) (HX.out.2.val)).out).mono ?_); rintro e w1 ⟨rfl, rfl⟩))
              go_ret
              exact ⟨ret_bool (by rw [HE.out]; simp), HB0.out⟩
            · go_enter Try.func21, Try.ntmps21
              go_wp2_with (first | (go_at_call 38; (with_reducible refine ((C1 _ (HX.out.1.key) (HX.out.2.key)).out).mono ?_); rintro e w1 ⟨rfl, rfl⟩) | (go_at_call 38; (with_reducible refine ((C2 _ (HX.out.1.val) (HX.out.2.val)).out).mono ?_); rintro e w1 ⟨rfl, rfl⟩))
              go_ret
              exact ⟨ret_bool (by rw [HE.out]; simp), HB0.out⟩
set_option maxRecDepth 100000 in
set_option maxHeartbeats 1000000 in
theorem refSame_kv (L M : LayV) (x y : Kv) (w : World) (b : Bool) (hb : decide (x = y) = b) (h : RdV w L x) (g : RdV w M y) :
    Calls Try.prog 14 #[vkv L x, vkv M y] w fun e w' => e = .returned (.bool b) ∧ Below w.heap.size w w' := by
  obtain ⟨s1, s2, hB⟩ := two_boxes w L M x y
  obtain ⟨k1, k2, k3, k4, k5, k6⟩ := s1.cells
  obtain ⟨q1, q2, q3, q4, q5, q6⟩ := s2.cells
  have HX := kept (And.intro (h.below hB) (g.below hB))
  have HB0 := kept hB
  have HE : Hid (b = (decide (x.key = y.key) && decide (x.val = y.val) && (x.c == y.c) && (x.m == y.m) && (x.v == y.v) && (x.l == y.l))) := by show _ = _; rw [← hb, kv_eq]
  clear hb h g s1 s2 hB
  obtain ⟨ka, kn, kc, va, vn, vc⟩ := L
  obtain ⟨ka', kn', kc', va', vn', vc'⟩ := M
  obtain ⟨xk, xv, c, m, v, l⟩ := x
  obtain ⟨yk, yv, c', m', v', l'⟩ := y
  unfold boxV at *
  dsimp only at *
  obtain ⟨b1, e1⟩ : ∃ b, decide (xk = yk) = b := ⟨_, rfl⟩
  obtain ⟨b2, e2⟩ : ∃ b, decide (xv = yv) = b := ⟨_, rfl⟩
  obtain ⟨b3, e3⟩ : ∃ b, (c == c') = b := ⟨_, rfl⟩
  obtain ⟨b4, e4⟩ : ∃ b, (m == m') = b := ⟨_, rfl⟩
  obtain ⟨b5, e5⟩ : ∃ b, (v == v') = b := ⟨_, rfl⟩
  obtain ⟨b6, e6⟩ : ∃ b, (l == l') = b := ⟨_, rfl⟩
  have HE : Hid (b = (b1 && b2 && b3 && b4 && b5 && b6)) := by rw [e1, e2, e3, e4, e5, e6] at HE; exact HE
  have C1 := fun W h1 h2 => kept (same_any ka ka' kn kn' kc kc' xk yk W h1 h2 b1 e1)
  have C2 := fun W h1 h2 => kept (same_any va va' vn vn' vc vc' xv yv W h1 h2 b2 e2)
  clear e1 e2
  cases b1
  · go_enter Try.func14, Try.ntmps14
    go_wp2_with (first | (go_at_call 15; (with_reducible refine ((C1 _ (HX.out.1.key) (HX.out.2.key)).out).mono ?_); rintro e w1 ⟨rfl, rfl⟩) | (go_at_call 15; (with_reducible refine ((C2 _ (HX.out.1.val) (HX.out.2.val)).out).mono ?_); rintro e w1 ⟨rfl, rfl⟩))
    go_ret
    exact ⟨ret_bool (by rw [HE.out]; simp), HB0.out⟩
  · skip
    cases b2
    · go_enter Try.func14, Try.ntmps14
      go_wp2_with (first | (go_at_call 15; (with_reducible refine ((C1 _ (HX.out.1.key) (HX.out.2.key)).out).mono ?_); rintro e w1 ⟨rfl, rfl⟩) | (go_at_call 15; (with_reducible refine ((C2 _ (HX.out.1.val) (HX.out.2.val)).out).mono ?_); rintro e w1 ⟨rfl, rfl⟩))
      go_ret
      exact ⟨ret_bool (by rw [HE.out]; simp), HB0.out⟩
    · skip
      cases b3
      · go_enter Try.func14, Try.ntmps14
        go_wp2_with (first | (go_at_call 15; (with_reducible refine ((C1 _ (HX.out.1.key) (HX.out.2.key)).out).mono ?_); rintro e w1 ⟨rfl, rfl⟩) | (go_at_call 15; (with_reducible refine ((C2 _ (HX.out.1.val) (HX.out.2.val)).out).mono ?_); rintro e w1 ⟨rfl, rfl⟩))
        go_ret
        exact ⟨ret_bool (by rw [HE.out]; simp), HB0.out⟩
      · skip
        cases b4
        · go_enter Try.func14, Try.ntmps14
          go_wp2_with (first | (go_at_call 15; (with_reducible refine ((C1 _ (HX.out.1.key) (HX.out.2.key)).out).mono ?_); rintro e w1 ⟨rfl, rfl⟩) | (go_at_call 15; (with_reducible refine ((C2 _ (HX.out.1.val) (HX.out.2.val)).out).mono ?_); rintro e w1 ⟨rfl, rfl⟩))
          go_ret
          exact ⟨ret_bool (by rw [HE.out]; simp), HB0.out⟩
        · skip
          cases b5
          · go_enter Try.func14, Try.ntmps14
            go_wp2_with (first | (go_at_call 15; (with_reducible refine ((C1 _ (HX.out.1.key) (HX.out.2.key)).out).mono ?_); rintro e w1 ⟨rfl, rfl⟩) | (go_at_call 15; (with_reducible refine ((C2 _ (HX.out.1.val) (HX.out.2.val)).out).mono ?_); rintro e w1 ⟨rfl, rfl⟩))
            go_ret
            exact ⟨ret_bool (by rw [HE.out]; simp), HB0.out⟩
          · skip
            cases b6
            · go_enter Try.func14, Try.ntmps14
              go_wp2_with (first | (go_at_call 15; (with_reducible refine ((C1 _ (HX.out.1.key) (HX.out.2.key)).out).mono ?_); rintro e w1 ⟨rfl, rfl⟩) | (go_at_call 15; (with_reducible refine ((C2 _ (HX.out.1.val) (HX.out.2.val)).out).mono ?_); rintro e w1 ⟨rfl, rfl⟩))
              go_ret
              exact ⟨ret_bool (by rw [HE.out]; simp), HB0.out⟩
            · go_enter Try.func14, Try.ntmps14
              go_wp2_with (first | (go_at_call 15; (with_reducible refine ((C1 _ (HX.out.1.key) (HX.out.2.key)).out).mono ?_); rintro e w1 ⟨rfl, rfl⟩) | (go_at_call 15; (with_reducible refine ((C2 _ (HX.out.1.val) (HX.out.2.val)).out).mono ?_); rintro e w1 ⟨rfl, rfl⟩))
              go_ret
              exact ⟨ret_bool (by rw [HE.out]; simp), HB0.out⟩
set_option maxRecDepth 100000 in
set_option maxHeartbeats 1000000 in
theorem refRight_kv (L : LayV) (x : Kv) (w : World) (b : Bool) (hb : rightV x = b) (h : RdV w L x) :
    Calls Try.prog 12 #[vkv L x] w fun e w' => e = .returned (.bool b) ∧ Below w.heap.size w w' := by
  have hk := h.key.1
  have hv := h.val.1
  obtain ⟨k1, k2, k3, k4, k5, k6⟩ := (Six.new w L x).cells
  have HB0 := kept (boxV_below w L x)
  have HE : Hid (b = (!(((L.kn : Int) == 0) || decide (64 < (L.kn : Int)) || decide (1024 < (L.vn : Int)) || decide (x.c < 1) || decide (x.m < x.c) || decide (4611686018427387904 < x.m)) && (decide (1 ≤ x.v) && decide (x.v ≤ 4611686018427387904) && decide (0 ≤ x.l) && decide (x.l ≤ 4611686018427387904)))) := by
    show _ = _
    rw [← hb]
    unfold rightV
    rw [hk, hv, Bool.eq_iff_iff]
    simp [keyB, withinB]
    omega
  clear hb h hk hv
  obtain ⟨ka, kn, kc, va, vn, vc⟩ := L
  obtain ⟨xk, xv, c, m, v, l⟩ := x
  unfold boxV at *
  dsimp only at *
  obtain ⟨n1, en1⟩ : ∃ b, ((kn : Int) == 0) = b := ⟨_, rfl⟩
  obtain ⟨n2, en2⟩ : ∃ b, decide (64 < (kn : Int)) = b := ⟨_, rfl⟩
  obtain ⟨n3, en3⟩ : ∃ b, decide (1024 < (vn : Int)) = b := ⟨_, rfl⟩
  obtain ⟨n4, en4⟩ : ∃ b, decide (c < 1) = b := ⟨_, rfl⟩
  obtain ⟨n5, en5⟩ : ∃ b, decide (m < c) = b := ⟨_, rfl⟩
  obtain ⟨n6, en6⟩ : ∃ b, decide (4611686018427387904 < m) = b := ⟨_, rfl⟩
  obtain ⟨m1, em1⟩ : ∃ b, decide (1 ≤ v) = b := ⟨_, rfl⟩
  obtain ⟨m2, em2⟩ : ∃ b, decide (v ≤ 4611686018427387904) = b := ⟨_, rfl⟩
  obtain ⟨m3, em3⟩ : ∃ b, decide (0 ≤ l) = b := ⟨_, rfl⟩
  obtain ⟨m4, em4⟩ : ∃ b, decide (l ≤ 4611686018427387904) = b := ⟨_, rfl⟩
  have HE : Hid (b = (!(n1 || n2 || n3 || n4 || n5 || n6) && (m1 && m2 && m3 && m4))) := by rw [en1, en2, en3, en4, en5, en6, em1, em2, em3, em4] at HE; exact HE
  cases n1
  rotate_left
  · go_enter Try.func12, Try.ntmps12
    go_wp2
    go_ret
    exact ⟨ret_bool (by rw [HE.out]; simp), HB0.out⟩
  cases n2
  rotate_left
  · go_enter Try.func12, Try.ntmps12
    go_wp2
    go_ret
    exact ⟨ret_bool (by rw [HE.out]; simp), HB0.out⟩
  cases n3
  rotate_left
  · go_enter Try.func12, Try.ntmps12
    go_wp2
    go_ret
    exact ⟨ret_bool (by rw [HE.out]; simp), HB0.out⟩
  cases n4
  rotate_left
  · go_enter Try.func12, Try.ntmps12
    go_wp2
    go_ret
    exact ⟨ret_bool (by rw [HE.out]; simp), HB0.out⟩
  cases n5
  rotate_left
  · go_enter Try.func12, Try.ntmps12
    go_wp2
    go_ret
    exact ⟨ret_bool (by rw [HE.out]; simp), HB0.out⟩
  cases n6
  rotate_left
  · go_enter Try.func12, Try.ntmps12
    go_wp2
    go_ret
    exact ⟨ret_bool (by rw [HE.out]; simp), HB0.out⟩
  cases m1
  · go_enter Try.func12, Try.ntmps12
    go_wp2
    go_ret
    exact ⟨ret_bool (by rw [HE.out]; simp), HB0.out⟩
  cases m2
  · go_enter Try.func12, Try.ntmps12
    go_wp2
    go_ret
    exact ⟨ret_bool (by rw [HE.out]; simp), HB0.out⟩
  cases m3
  · go_enter Try.func12, Try.ntmps12
    go_wp2
    go_ret
    exact ⟨ret_bool (by rw [HE.out]; simp), HB0.out⟩
  cases m4
  · go_enter Try.func12, Try.ntmps12
    go_wp2
    go_ret
    exact ⟨ret_bool (by rw [HE.out]; simp), HB0.out⟩
  · go_enter Try.func12, Try.ntmps12
    go_wp2
    go_ret
    exact ⟨ret_bool (by rw [HE.out]; simp), HB0.out⟩
end Go.Proofs.Ytcmjgkgdeaiifaa
