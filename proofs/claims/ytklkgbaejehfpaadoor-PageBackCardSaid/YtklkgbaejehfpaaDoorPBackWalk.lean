/-
  The law PageBack walked.
-/
import Derived.Test.YtklkgbaejehfpaaDoorBk
import Derived.Test.YtklkgbaejehfpaaDoorSm
import Derived.Test.YtklkgbaejehfpaaDoorFw
namespace Go.Proofs.YtklkgbaejehfpaaDoor.pageBack
open Go.ChangeShapes Go.WideShapes Go.ChangeAt Go.RowKit
set_option linter.unusedVariables false
set_option linter.unusedSimpArgs false

set_option maxRecDepth 100000 in
set_option maxHeartbeats 2000000 in
theorem walk_lives (w : World) (hf : Fours w) (l : Lay) (P : Pg) (h : RdPg w l P) (m : Lay) (O : Pg) (ho : RdPg w m O) (hh : fewB P = false ∨ (fewB P = true ∧ fewB O = false)) :
    Calls Tryd.prog 5 #[l.val, m.val] w fun e w' => e = .returned (.bool true) ∧ Below w.heap.size w w' := by
  have HF := fun {X : World} (hX : Below w.heap.size w X) => kept (few_any l P X (h.below hX))
  have HG := fun {X : World} (hX : Below w.heap.size w X) => kept (few_any m O X (ho.below hX))
  have HL := fun {X : World} (hX : Below w.heap.size w X) => kept (lives_any X (hf.below hX))
  clear h hf ho
  obtain ⟨kd, tx, nx, a1, n1, c1, a2, n2, c2, a3, n3, c3, a4, n4, c4⟩ := l
  obtain ⟨kd', tx', nx', a1', n1', c1', a2', n2', c2', a3', n3', c3', a4', n4', c4'⟩ := m
  have hb0 : Below w.heap.size w ((w.alloc (.cells #[.int .i64 kd, .int .u64 tx, .int .i64 nx, .slice a1 n1 c1, .slice a2 n2 c2, .slice a3 n3 c3, .slice a4 n4 c4] 28)).alloc (.cells #[.int .i64 kd', .int .u64 tx', .int .i64 nx', .slice a1' n1' c1', .slice a2' n2' c2', .slice a3' n3' c3', .slice a4' n4' c4'] 28)) := ((Below.refl _ _).alloc (Nat.le_refl _) _).alloc (by simp) _
  have HS : Hid (∀ (X : World), Below ((w.alloc (.cells #[.int .i64 kd, .int .u64 tx, .int .i64 nx, .slice a1 n1 c1, .slice a2 n2 c2, .slice a3 n3 c3, .slice a4 n4 c4] 28)).alloc (.cells #[.int .i64 kd', .int .u64 tx', .int .i64 nx', .slice a1' n1' c1', .slice a2' n2' c2', .slice a3' n3' c3', .slice a4' n4' c4'] 28)).heap.size ((w.alloc (.cells #[.int .i64 kd, .int .u64 tx, .int .i64 nx, .slice a1 n1 c1, .slice a2 n2 c2, .slice a3 n3 c3, .slice a4 n4 c4] 28)).alloc (.cells #[.int .i64 kd', .int .u64 tx', .int .i64 nx', .slice a1' n1' c1', .slice a2' n2' c2', .slice a3' n3' c3', .slice a4' n4' c4'] 28)) X → (Sev X w.heap.size kd tx nx a1 n1 c1 a2 n2 c2 a3 n3 c3 a4 n4 c4) ∧ Sev X (w.heap.size + 1) kd' tx' nx' a1' n1' c1' a2' n2' c2' a3' n3' c3' a4' n4' c4') := kept (fun X hX => by
    refine ⟨sev_box w kd tx nx a1 n1 c1 a2 n2 c2 a3 n3 c3 a4 n4 c4 _ (below_to hX ((Below.refl _ _).alloc (Nat.le_refl _) _)), ?_⟩
    have := sev_box (w.alloc (.cells #[.int .i64 kd, .int .u64 tx, .int .i64 nx, .slice a1 n1 c1, .slice a2 n2 c2, .slice a3 n3 c3, .slice a4 n4 c4] 28)) kd' tx' nx' a1' n1' c1' a2' n2' c2' a3' n3' c3' a4' n4' c4' _ hX
    rw [World.size_alloc] at this
    exact this)
  rcases hh with hh | ⟨hh, hk⟩
  · rw [hh] at HF
    clear hh HG
    go_enter Tryd.func5, Tryd.ntmps5
    go_wp2_with fail
    with_reducible refine (HL hb0).out.mono ?_
    rintro e w1 ⟨rfl, hq⟩
    obtain ⟨⟨z0, z1, z2, z3, z4, z5, z6⟩, y0, y1, y2, y3, y4, y5, y6⟩ := HS.out _ hq
    have hb1 := below_to hq hb0
    go_wp2_with fail
    with_reducible refine (HF hb1).out.mono ?_
    rintro e w2 ⟨rfl, hb2⟩
    have hb2 := below_to hb2 hb1
    go_wp2_with fail
    with_reducible refine (HL hb2).out.mono ?_
    rintro e w3 ⟨rfl, hb3⟩
    have HB3 := kept (below_to hb3 hb2)
    go_wp2
    go_ret
    exact ⟨rfl, HB3.out⟩
  · rw [hh] at HF
    rw [hk] at HG
    clear hh hk
    go_enter Tryd.func5, Tryd.ntmps5
    go_wp2_with fail
    with_reducible refine (HL hb0).out.mono ?_
    rintro e w1 ⟨rfl, hq⟩
    obtain ⟨⟨z0, z1, z2, z3, z4, z5, z6⟩, y0, y1, y2, y3, y4, y5, y6⟩ := HS.out _ hq
    have hb1 := below_to hq hb0
    go_wp2_with fail
    with_reducible refine (HF hb1).out.mono ?_
    rintro e w2 ⟨rfl, hb2⟩
    have hq2 := below_to hb2 hq
    clear z0 z1 z2 z3 z4 z5 z6 y0 y1 y2 y3 y4 y5 y6
    obtain ⟨⟨z0, z1, z2, z3, z4, z5, z6⟩, y0, y1, y2, y3, y4, y5, y6⟩ := HS.out _ hq2
    have hb2 := below_to hb2 hb1
    go_wp2_with fail
    with_reducible refine (HG hb2).out.mono ?_
    rintro e w3 ⟨rfl, hb3⟩
    have hb3 := below_to hb3 hb2
    go_wp2_with fail
    with_reducible refine (HL hb3).out.mono ?_
    rintro e w4 ⟨rfl, hb4⟩
    have HB4 := kept (below_to hb4 hb3)
    go_wp2
    go_ret
    exact ⟨rfl, HB4.out⟩
set_option maxRecDepth 100000 in
set_option maxHeartbeats 4000000 in
theorem walk_wrong (w : World) (hf : Fours w) (l : Lay) (P : Pg) (h : RdPg w l P) (m : Lay) (O : Pg) (ho : RdPg w m O) (hP : fewB P = true) (hO : fewB O = true) (hR : rightB P = false) :
    Calls Tryd.prog 5 #[l.val, m.val] w fun e w' => e = .returned (.bool true) ∧ Below w.heap.size w w' := by
  have HF := fun {X : World} (hX : Below w.heap.size w X) => kept (few_any l P X (h.below hX))
  have HG := fun {X : World} (hX : Below w.heap.size w X) => kept (few_any m O X (ho.below hX))
  have HL := fun {X : World} (hX : Below w.heap.size w X) => kept (lives_any X (hf.below hX))
  have HE := fun {X : World} (hX : Below w.heap.size w X) => kept (encode_wrong l P X (h.below hX) hR)
  have HR := fun {X : World} (hX : Below w.heap.size w X) => kept (right_any l P X (h.below hX))
  rw [hR] at HR
  rw [hP] at HF
  rw [hO] at HG
  clear h hf ho hP hO hR
  obtain ⟨kd, tx, nx, a1, n1, c1, a2, n2, c2, a3, n3, c3, a4, n4, c4⟩ := l
  obtain ⟨kd', tx', nx', a1', n1', c1', a2', n2', c2', a3', n3', c3', a4', n4', c4'⟩ := m
  have hb0 : Below w.heap.size w ((w.alloc (.cells #[.int .i64 kd, .int .u64 tx, .int .i64 nx, .slice a1 n1 c1, .slice a2 n2 c2, .slice a3 n3 c3, .slice a4 n4 c4] 28)).alloc (.cells #[.int .i64 kd', .int .u64 tx', .int .i64 nx', .slice a1' n1' c1', .slice a2' n2' c2', .slice a3' n3' c3', .slice a4' n4' c4'] 28)) := ((Below.refl _ _).alloc (Nat.le_refl _) _).alloc (by simp) _
  have HS : Hid (∀ (X : World), Below ((w.alloc (.cells #[.int .i64 kd, .int .u64 tx, .int .i64 nx, .slice a1 n1 c1, .slice a2 n2 c2, .slice a3 n3 c3, .slice a4 n4 c4] 28)).alloc (.cells #[.int .i64 kd', .int .u64 tx', .int .i64 nx', .slice a1' n1' c1', .slice a2' n2' c2', .slice a3' n3' c3', .slice a4' n4' c4'] 28)).heap.size ((w.alloc (.cells #[.int .i64 kd, .int .u64 tx, .int .i64 nx, .slice a1 n1 c1, .slice a2 n2 c2, .slice a3 n3 c3, .slice a4 n4 c4] 28)).alloc (.cells #[.int .i64 kd', .int .u64 tx', .int .i64 nx', .slice a1' n1' c1', .slice a2' n2' c2', .slice a3' n3' c3', .slice a4' n4' c4'] 28)) X → (Sev X w.heap.size kd tx nx a1 n1 c1 a2 n2 c2 a3 n3 c3 a4 n4 c4) ∧ Sev X (w.heap.size + 1) kd' tx' nx' a1' n1' c1' a2' n2' c2' a3' n3' c3' a4' n4' c4') := kept (fun X hX => by
    refine ⟨sev_box w kd tx nx a1 n1 c1 a2 n2 c2 a3 n3 c3 a4 n4 c4 _ (below_to hX ((Below.refl _ _).alloc (Nat.le_refl _) _)), ?_⟩
    have := sev_box (w.alloc (.cells #[.int .i64 kd, .int .u64 tx, .int .i64 nx, .slice a1 n1 c1, .slice a2 n2 c2, .slice a3 n3 c3, .slice a4 n4 c4] 28)) kd' tx' nx' a1' n1' c1' a2' n2' c2' a3' n3' c3' a4' n4' c4' _ hX
    rw [World.size_alloc] at this
    exact this)
  go_enter Tryd.func5, Tryd.ntmps5
  go_wp2_with fail
  with_reducible refine (HL hb0).out.mono ?_
  rintro e w1 ⟨rfl, hq⟩
  obtain ⟨⟨z0, z1, z2, z3, z4, z5, z6⟩, y0, y1, y2, y3, y4, y5, y6⟩ := HS.out _ hq
  have hb1 := below_to hq hb0
  go_wp2_with fail
  with_reducible refine (HF hb1).out.mono ?_
  rintro e w2 ⟨rfl, hb2⟩
  have hq2 := below_to hb2 hq
  clear z0 z1 z2 z3 z4 z5 z6 y0 y1 y2 y3 y4 y5 y6
  obtain ⟨⟨z0, z1, z2, z3, z4, z5, z6⟩, y0, y1, y2, y3, y4, y5, y6⟩ := HS.out _ hq2
  have hb2 := below_to hb2 hb1
  go_wp2_with fail
  with_reducible refine (HG hb2).out.mono ?_
  rintro e w3 ⟨rfl, hb3⟩
  have hq3 := below_to hb3 hq2
  clear z0 z1 z2 z3 z4 z5 z6 y0 y1 y2 y3 y4 y5 y6 hq hq2
  obtain ⟨⟨z0, z1, z2, z3, z4, z5, z6⟩, y0, y1, y2, y3, y4, y5, y6⟩ := HS.out _ hq3
  have hb3 := below_to hb3 hb2
  clear hb1 hb2
  go_wp2_with fail
  with_reducible refine (HE hb3).out.mono ?_
  rintro e w4 ⟨rfl, hb4⟩
  have hq4 := below_to hb4 hq3
  clear z0 z1 z2 z3 z4 z5 z6 y0 y1 y2 y3 y4 y5 y6
  obtain ⟨⟨z0, z1, z2, z3, z4, z5, z6⟩, y0, y1, y2, y3, y4, y5, y6⟩ := HS.out _ hq4
  have hb4 := below_to hb4 hb3
  go_wp2_with fail
  with_reducible refine (HR hb4).out.mono ?_
  rintro e w5 ⟨rfl, hb5⟩
  have HB5 := kept (below_to hb5 hb4)
  go_wp2
  go_ret
  exact ⟨rfl, HB5.out⟩
theorem seal_tells {P O : Pg} (hP : rightB P = true) (hO : rightB O = true) (p0 : 0 ≤ P.txn) (p1 : P.txn < 18446744073709551616) (q0 : 0 ≤ O.txn) (q1 : O.txn < 18446744073709551616) (b : Bool) (hb : decide (P = O) = b) : decide (sealed (bodyOf P) = sealed (bodyOf O)) = b := by
  rw [← hb]
  by_cases h : P = O
  · subst h
    simp
  · have : ¬ sealed (bodyOf P) = sealed (bodyOf O) := fun e => h (body_inj hP hO p0 p1 q0 q1 (by have := congrArg (List.drop 4) e; rwa [sealed_drop, sealed_drop] at this))
    simp [h, this]
theorem few_n {P : Pg} {l : Lay} {w : World} (h : RdPg w l P) (hP : fewB P = true) : l.n1 ≤ 1000 ∧ l.n2 ≤ 1000 := by
  unfold fewB at hP
  simp only [Bool.and_eq_true, decide_eq_true_eq] at hP
  have := h.n1
  have := h.n2
  omega
set_option maxRecDepth 100000 in
set_option maxHeartbeats 4000000 in
theorem walk_right (w : World) (hf : Fours w) (l : Lay) (P : Pg) (h : RdPg w l P) (m : Lay) (O : Pg) (ho : RdPg w m O) (hP : fewB P = true) (hO : fewB O = true) (hR : rightB P = true) :
    Calls Tryd.prog 5 #[l.val, m.val] w fun e w' => e = .returned (.bool true) ∧ Below w.heap.size w w' := by
  have HF := fun {X : World} (hX : Below w.heap.size w X) => kept (few_any l P X (h.below hX))
  have HG := fun {X : World} (hX : Below w.heap.size w X) => kept (few_any m O X (ho.below hX))
  have HL := fun {X : World} (hX : Below w.heap.size w X) => kept (lives_any X (hf.below hX))
  have HE := fun {X : World} (hX : Below w.heap.size w X) => kept (encode_right l P X (h.below hX) hR (hf.below hX))
  have HOF := fun {X : World} (hX : Below w.heap.size w X) => kept (of_any l P X (h.below hX) (few_n h hP).1 (few_n h hP).2)
  have HOG := fun {X : World} (hX : Below w.heap.size w X) => kept (of_any m O X (ho.below hX) (few_n ho hO).1 (few_n ho hO).2)
  have HBR : Hid (DecP (bodyOf P) P) := kept (body_reads hR h.t0 h.t1)
  have HFF := kept hf
  have HFP := kept hP
  have HH := kept h
  have HHO := kept ho
  have HRP := kept hR
  rw [hP] at HF
  rw [hO] at HG
  clear h hf ho hP hO hR
  obtain ⟨kd, tx, nx, a1, n1, c1, a2, n2, c2, a3, n3, c3, a4, n4, c4⟩ := l
  obtain ⟨kd', tx', nx', a1', n1', c1', a2', n2', c2', a3', n3', c3', a4', n4', c4'⟩ := m
  have hb0 : Below w.heap.size w ((w.alloc (.cells #[.int .i64 kd, .int .u64 tx, .int .i64 nx, .slice a1 n1 c1, .slice a2 n2 c2, .slice a3 n3 c3, .slice a4 n4 c4] 28)).alloc (.cells #[.int .i64 kd', .int .u64 tx', .int .i64 nx', .slice a1' n1' c1', .slice a2' n2' c2', .slice a3' n3' c3', .slice a4' n4' c4'] 28)) := ((Below.refl _ _).alloc (Nat.le_refl _) _).alloc (by simp) _
  have HS : Hid (∀ (X : World), Below ((w.alloc (.cells #[.int .i64 kd, .int .u64 tx, .int .i64 nx, .slice a1 n1 c1, .slice a2 n2 c2, .slice a3 n3 c3, .slice a4 n4 c4] 28)).alloc (.cells #[.int .i64 kd', .int .u64 tx', .int .i64 nx', .slice a1' n1' c1', .slice a2' n2' c2', .slice a3' n3' c3', .slice a4' n4' c4'] 28)).heap.size ((w.alloc (.cells #[.int .i64 kd, .int .u64 tx, .int .i64 nx, .slice a1 n1 c1, .slice a2 n2 c2, .slice a3 n3 c3, .slice a4 n4 c4] 28)).alloc (.cells #[.int .i64 kd', .int .u64 tx', .int .i64 nx', .slice a1' n1' c1', .slice a2' n2' c2', .slice a3' n3' c3', .slice a4' n4' c4'] 28)) X → (Sev X w.heap.size kd tx nx a1 n1 c1 a2 n2 c2 a3 n3 c3 a4 n4 c4) ∧ Sev X (w.heap.size + 1) kd' tx' nx' a1' n1' c1' a2' n2' c2' a3' n3' c3' a4' n4' c4') := kept (fun X hX => by
    refine ⟨sev_box w kd tx nx a1 n1 c1 a2 n2 c2 a3 n3 c3 a4 n4 c4 _ (below_to hX ((Below.refl _ _).alloc (Nat.le_refl _) _)), ?_⟩
    have := sev_box (w.alloc (.cells #[.int .i64 kd, .int .u64 tx, .int .i64 nx, .slice a1 n1 c1, .slice a2 n2 c2, .slice a3 n3 c3, .slice a4 n4 c4] 28)) kd' tx' nx' a1' n1' c1' a2' n2' c2' a3' n3' c3' a4' n4' c4' _ hX
    rw [World.size_alloc] at this
    exact this)
  go_enter Tryd.func5, Tryd.ntmps5
  go_wp2_with fail
  with_reducible refine (HL hb0).out.mono ?_
  rintro e w1 ⟨rfl, hq⟩
  obtain ⟨⟨z0, z1, z2, z3, z4, z5, z6⟩, y0, y1, y2, y3, y4, y5, y6⟩ := HS.out _ hq
  have hb1 := below_to hq hb0
  go_wp2_with fail
  with_reducible refine (HF hb1).out.mono ?_
  rintro e w2 ⟨rfl, hb2⟩
  have hq2 := below_to hb2 hq
  clear z0 z1 z2 z3 z4 z5 z6 y0 y1 y2 y3 y4 y5 y6
  obtain ⟨⟨z0, z1, z2, z3, z4, z5, z6⟩, y0, y1, y2, y3, y4, y5, y6⟩ := HS.out _ hq2
  have hb2 := below_to hb2 hb1
  go_wp2_with fail
  with_reducible refine (HG hb2).out.mono ?_
  rintro e w3 ⟨rfl, hb3⟩
  have hq3 := below_to hb3 hq2
  clear z0 z1 z2 z3 z4 z5 z6 y0 y1 y2 y3 y4 y5 y6 hq hq2
  obtain ⟨⟨z0, z1, z2, z3, z4, z5, z6⟩, y0, y1, y2, y3, y4, y5, y6⟩ := HS.out _ hq3
  have hb3 := below_to hb3 hb2
  clear hb1 hb2
  go_wp2_with fail
  with_reducible refine (HE hb3).out.mono ?_
  rintro e w4 ⟨A4, r4, rfl, hown4, hb4⟩
  have hq4 := below_to hb4 hq3
  have hb4 := below_to hb4 hb3
  have HR4 := kept (Rd.of_own hown4)
  have HDC := kept (decode_right A4 r4 (sealed (bodyOf P)) P w4 (Rd.of_own hown4) (own_cap hown4) (HFF.out.below hb4) (by rw [sealed_num, sealed_drop]) (by rw [sealed_drop]; exact HBR.out))
  clear hown4 z0 z1 z2 z3 z4 z5 z6 y0 y1 y2 y3 y4 y5 y6
  go_wp2_with fail
  with_reducible refine HDC.out.mono ?_
  rintro e w5 ⟨⟨kq, tq, xq, p1, m1, d1, p2, m2, d2, p3, m3, d3, p4, m4, d4⟩, rfl, hrq, hb5⟩
  have HR5 := fun o => kept ((HR4.out.below hb5).alloc o)
  have HB5 := fun o => kept (below_to (hb5.alloc hb5.size o) hb4)
  have HSM5 := fun o => kept (below_to (hb5.alloc hb5.size o) hq4)
  have HSJ : Hid (∀ (X : World), Below (w5.alloc (.cells #[.int .i64 kq, .int .u64 tq, .int .i64 xq, .slice p1 m1 d1, .slice p2 m2 d2, .slice p3 m3 d3, .slice p4 m4 d4] 28)).heap.size (w5.alloc (.cells #[.int .i64 kq, .int .u64 tq, .int .i64 xq, .slice p1 m1 d1, .slice p2 m2 d2, .slice p3 m3 d3, .slice p4 m4 d4] 28)) X → (Sev X w.heap.size kd tx nx a1 n1 c1 a2 n2 c2 a3 n3 c3 a4 n4 c4) ∧ Sev X w5.heap.size kq tq xq p1 m1 d1 p2 m2 d2 p3 m3 d3 p4 m4 d4) := kept (fun X hX => ⟨(HS.out _ (below_to hX (HSM5 _).out)).1, sev_box w5 kq tq xq p1 m1 d1 p2 m2 d2 p3 m3 d3 p4 m4 d4 _ hX⟩)
  have HOQ := fun (X : World) (hX : Below (w5.alloc (.cells #[.int .i64 kq, .int .u64 tq, .int .i64 xq, .slice p1 m1 d1, .slice p2 m2 d2, .slice p3 m3 d3, .slice p4 m4 d4] 28)).heap.size (w5.alloc (.cells #[.int .i64 kq, .int .u64 tq, .int .i64 xq, .slice p1 m1 d1, .slice p2 m2 d2, .slice p3 m3 d3, .slice p4 m4 d4] 28)) X) => kept (of_any ⟨kq, tq, xq, p1, m1, d1, p2, m2, d2, p3, m3, d3, p4, m4, d4⟩ P X ((hrq.below ((Below.refl _ w5).alloc (Nat.le_refl _) _)).below hX) (few_n hrq HFP.out).1 (few_n hrq HFP.out).2)
  clear hb5 hrq hq4 hq3 hb3 hb4 hb0
  go_wp2
  refine wp_region_held_drew (S := (fun W' => Sev W' w.heap.size kd tx nx a1 n1 c1 a2 n2 c2 a3 n3 c3 a4 n4 c4 ∧ Sev W' w5.heap.size kq tq xq p1 m1 d1 p2 m2 d2 p3 m3 d3 p4 m4 d4)) (by kernel_rfl) ?_ (fun hHeld => ?_)
  · ((try dsimp only); (first | exact HSJ.out _ (Below.refl _ _) | exact HSJ.out _ (Below.refl _ _).drew | exact HSJ.out _ hb8 | exact HSJ.out _ hb7 | exact HSJ.out _ hb6))
  refine hand_take 0 (some 39) ?_ (by kernel_rfl) (by kernel_rfl) (by kernel_rfl) (by kernel_rfl) (by kernel_rfl) (fun _ _ _ h => h) ?_ (by assumption) ?_
  rotate_left
  · (intro o ho w hSw; (simp only [List.getElem?_toArray, List.getElem?_cons_succ, List.getElem?_cons_zero, Option.some.injEq] at ho); subst ho; (try dsimp only at hSw); go_simp; (first | done | with_reducible rfl))
  (try simp only [Act.put, List.setIfInBounds_toArray, List.set_cons_zero, List.set_cons_succ])
  refine hand_take 1 (some 40) ?_ (by kernel_rfl) (by kernel_rfl) (by kernel_rfl) (by kernel_rfl) (by kernel_rfl) (fun _ _ _ h => h) ?_ (by assumption) ?_
  rotate_left
  · (intro o ho w hSw; (simp only [List.getElem?_toArray, List.getElem?_cons_succ, List.getElem?_cons_zero, Option.some.injEq] at ho); subst ho; (try dsimp only at hSw); go_simp; (first | done | with_reducible rfl))
  (try simp only [Act.put, List.setIfInBounds_toArray, List.set_cons_zero, List.set_cons_succ])
  refine hand_take 2 (some 41) ?_ (by kernel_rfl) (by kernel_rfl) (by kernel_rfl) (by kernel_rfl) (by kernel_rfl) (fun _ _ _ h => h) ?_ (by assumption) ?_
  rotate_left
  · (intro o ho w hSw; (simp only [List.getElem?_toArray, List.getElem?_cons_succ, List.getElem?_cons_zero, Option.some.injEq] at ho); subst ho; (try dsimp only at hSw); go_simp; (first | done | with_reducible rfl))
  (try simp only [Act.put, List.setIfInBounds_toArray, List.set_cons_zero, List.set_cons_succ])
  refine hand_take 3 (some 42) ?_ (by kernel_rfl) (by kernel_rfl) (by kernel_rfl) (by kernel_rfl) (by kernel_rfl) (fun _ _ _ h => h) ?_ (by assumption) ?_
  rotate_left
  · (intro o ho w hSw; (simp only [List.getElem?_toArray, List.getElem?_cons_succ, List.getElem?_cons_zero, Option.some.injEq] at ho); subst ho; (try dsimp only at hSw); go_simp; (first | done | with_reducible rfl))
  (try simp only [Act.put, List.setIfInBounds_toArray, List.set_cons_zero, List.set_cons_succ])
  refine hand_take 5 (some 44) ?_ (by kernel_rfl) (by kernel_rfl) (by kernel_rfl) (by kernel_rfl) (by kernel_rfl) (fun _ _ _ h => h) ?_ (by assumption) ?_
  rotate_left
  · (intro o ho w hSw; (simp only [List.getElem?_toArray, List.getElem?_cons_succ, List.getElem?_cons_zero, Option.some.injEq] at ho); subst ho; (try dsimp only at hSw); go_simp; (first | done | with_reducible rfl))
  (try simp only [Act.put, List.setIfInBounds_toArray, List.set_cons_zero, List.set_cons_succ])
  refine hand_ready 4 (by kernel_rfl) (by kernel_rfl) (fun o ho K hK => ?_)
  (simp only [List.getElem?_toArray, List.getElem?_cons_succ, List.getElem?_cons_zero, Option.some.injEq] at ho)
  subst ho
  go_simp
  ((go_at_call 11; (with_reducible refine (HOF (HB5 _).out.drew).out.mono ?_); rintro e w6 ⟨lo, rfl, hro, _, _, _, _, hb6'⟩); have hb6 := below_of_drew1 hb6')
  (try go_wp2_with fail)
  refine hK.out _ _ ?_ (fun hHeld => ?_)
  · ((try dsimp only); (first | exact HSJ.out _ (Below.refl _ _) | exact HSJ.out _ (Below.refl _ _).drew | exact HSJ.out _ hb8 | exact HSJ.out _ hb7 | exact HSJ.out _ hb6))
  clear hK K
  (try simp only [Act.put, List.setIfInBounds_toArray, List.set_cons_zero, List.set_cons_succ])
  refine hand_ready 6 (by kernel_rfl) (by kernel_rfl) (fun o ho K hK => ?_)
  (simp only [List.getElem?_toArray, List.getElem?_cons_succ, List.getElem?_cons_zero, Option.some.injEq] at ho)
  subst ho
  go_simp
  ((go_at_call 11; (with_reducible refine (HOQ _ hb6).out.mono ?_); rintro e w7 ⟨lp, rfl, hrp, _, _, _, _, hb7'⟩); have hb7 := below_to hb7' hb6)
  (try go_wp2_with fail)
  refine hK.out _ _ ?_ (fun hHeld => ?_)
  · ((try dsimp only); (first | exact HSJ.out _ (Below.refl _ _) | exact HSJ.out _ (Below.refl _ _).drew | exact HSJ.out _ hb8 | exact HSJ.out _ hb7 | exact HSJ.out _ hb6))
  clear hK K
  (try simp only [Act.put, List.setIfInBounds_toArray, List.set_cons_zero, List.set_cons_succ])
  refine hand_ready 7 (by kernel_rfl) (by kernel_rfl) (fun o ho K hK => ?_)
  (simp only [List.getElem?_toArray, List.getElem?_cons_succ, List.getElem?_cons_zero, Option.some.injEq] at ho)
  subst ho
  go_simp
  ((go_at_call 15; (with_reducible refine (sameP_any lo lp P P _ (hro.below hb7') hrp true (by simp)).mono ?_); rintro e w8 ⟨rfl, hb8'⟩); have hb8 := below_to hb8' hb7)
  (try go_wp2_with fail)
  refine hK.out _ _ ?_ (fun hHeld => ?_)
  · ((try dsimp only); (first | exact HSJ.out _ (Below.refl _ _) | exact HSJ.out _ (Below.refl _ _).drew | exact HSJ.out _ hb8 | exact HSJ.out _ hb7 | exact HSJ.out _ hb6))
  clear hK K
  (try simp only [Act.put, List.setIfInBounds_toArray, List.set_cons_zero, List.set_cons_succ])
  refine hand_take 8 (some 47) ?_ (by kernel_rfl) (by kernel_rfl) (by kernel_rfl) (by kernel_rfl) (by kernel_rfl) (fun _ _ _ h => h) ?_ (by assumption) ?_
  rotate_left
  · (intro o ho w hSw; (simp only [List.getElem?_toArray, List.getElem?_cons_succ, List.getElem?_cons_zero, Option.some.injEq] at ho); subst ho; (try dsimp only at hSw); go_simp; (first | done | with_reducible rfl))
  (try simp only [Act.put, List.setIfInBounds_toArray, List.set_cons_zero, List.set_cons_succ])
  refine hand_take 9 (some 48) ?_ (by kernel_rfl) (by kernel_rfl) (by kernel_rfl) (by kernel_rfl) (by kernel_rfl) (fun _ _ _ h => h) ?_ (by assumption) ?_
  rotate_left
  · (intro o ho w hSw; (simp only [List.getElem?_toArray, List.getElem?_cons_succ, List.getElem?_cons_zero, Option.some.injEq] at ho); subst ho; (try dsimp only at hSw); go_simp; (first | done | with_reducible rfl))
  (try simp only [Act.put, List.setIfInBounds_toArray, List.set_cons_zero, List.set_cons_succ])
  refine wpAnyH_done (by kernel_rfl) ?_ _
  have hq8 := below_to hb8 (HSM5 _).out
  have hbw8 := below_to hb8 (HB5 _).out
  have HR8 := kept ((HR5 _).out.below hb8)
  obtain ⟨z0, z1, z2, z3, z4, z5, z6⟩ := (HS.out _ hq8).2
  cases hRO : rightB O with
  | false =>
    have HE2 := kept (encode_wrong _ O w8 (HHO.out.below hbw8) hRO)
    clear hRO hrp hro hb6 hb7 hb8 hb6' hb7' hb8'
    go_wp2_with fail
    with_reducible refine HE2.out.mono ?_
    rintro e w9 ⟨rfl, hb9⟩
    have hq9 := below_to hb9 hq8
    have HB9 := kept (below_to hb9 hbw8)
    have HS9 : Hid (∀ (X : World), Below w9.heap.size w9 X → (Sev X w.heap.size kd tx nx a1 n1 c1 a2 n2 c2 a3 n3 c3 a4 n4 c4) ∧ Sev X (w.heap.size + 1) kd' tx' nx' a1' n1' c1' a2' n2' c2' a3' n3' c3' a4' n4' c4') := kept (fun X hX => HS.out _ (below_to hX hq9))
    clear z0 z1 z2 z3 z4 z5 z6 hb9 hbw8 hq8
    go_wp2
    refine wp_region_held_drew (S := (fun W' => Sev W' w.heap.size kd tx nx a1 n1 c1 a2 n2 c2 a3 n3 c3 a4 n4 c4 ∧ Sev W' (w.heap.size + 1) kd' tx' nx' a1' n1' c1' a2' n2' c2' a3' n3' c3' a4' n4' c4')) (by kernel_rfl) ?_ (fun hHeld => ?_)
    · ((try dsimp only); (first | exact HS9.out _ (Below.refl _ _) | exact HS9.out _ (Below.refl _ _).drew))
    refine hand_take 0 (some 54) ?_ (by kernel_rfl) (by kernel_rfl) (by kernel_rfl) (by kernel_rfl) (by kernel_rfl) (fun _ _ _ h => h) ?_ (by assumption) ?_
    rotate_left
    · (intro o ho w hSw; (simp only [List.getElem?_toArray, List.getElem?_cons_succ, List.getElem?_cons_zero, Option.some.injEq] at ho); subst ho; (try dsimp only at hSw); go_simp; (first | done | with_reducible rfl))
    (try simp only [Act.put, List.setIfInBounds_toArray, List.set_cons_zero, List.set_cons_succ])
    refine hand_take 1 (some 55) ?_ (by kernel_rfl) (by kernel_rfl) (by kernel_rfl) (by kernel_rfl) (by kernel_rfl) (fun _ _ _ h => h) ?_ (by assumption) ?_
    rotate_left
    · (intro o ho w hSw; (simp only [List.getElem?_toArray, List.getElem?_cons_succ, List.getElem?_cons_zero, Option.some.injEq] at ho); subst ho; (try dsimp only at hSw); go_simp; (first | done | with_reducible rfl))
    (try simp only [Act.put, List.setIfInBounds_toArray, List.set_cons_zero, List.set_cons_succ])
    refine hand_take 2 (some 56) ?_ (by kernel_rfl) (by kernel_rfl) (by kernel_rfl) (by kernel_rfl) (by kernel_rfl) (fun _ _ _ h => h) ?_ (by assumption) ?_
    rotate_left
    · (intro o ho w hSw; (simp only [List.getElem?_toArray, List.getElem?_cons_succ, List.getElem?_cons_zero, Option.some.injEq] at ho); subst ho; (try dsimp only at hSw); go_simp; (first | done | with_reducible rfl))
    (try simp only [Act.put, List.setIfInBounds_toArray, List.set_cons_zero, List.set_cons_succ])
    refine hand_skip 3 (some 57) (by kernel_rfl) (by kernel_rfl) (by kernel_rfl) (by kernel_rfl) (by kernel_rfl) (fun _ _ _ h => h) (by assumption) ?_
    (try simp only [Act.put, List.setIfInBounds_toArray, List.set_cons_zero, List.set_cons_succ])
    refine hand_skip 4 (some 58) (by kernel_rfl) (by kernel_rfl) (by kernel_rfl) (by kernel_rfl) (by kernel_rfl) (fun _ _ _ h => h) (by assumption) ?_
    (try simp only [Act.put, List.setIfInBounds_toArray, List.set_cons_zero, List.set_cons_succ])
    refine hand_skip 5 (some 59) (by kernel_rfl) (by kernel_rfl) (by kernel_rfl) (by kernel_rfl) (by kernel_rfl) (fun _ _ _ h => h) (by assumption) ?_
    (try simp only [Act.put, List.setIfInBounds_toArray, List.set_cons_zero, List.set_cons_succ])
    refine hand_skip 6 (some 60) (by kernel_rfl) (by kernel_rfl) (by kernel_rfl) (by kernel_rfl) (by kernel_rfl) (fun _ _ _ h => h) (by assumption) ?_
    (try simp only [Act.put, List.setIfInBounds_toArray, List.set_cons_zero, List.set_cons_succ])
    refine hand_skip 7 (some 61) (by kernel_rfl) (by kernel_rfl) (by kernel_rfl) (by kernel_rfl) (by kernel_rfl) (fun _ _ _ h => h) (by assumption) ?_
    (try simp only [Act.put, List.setIfInBounds_toArray, List.set_cons_zero, List.set_cons_succ])
    refine hand_skip 8 (some 62) (by kernel_rfl) (by kernel_rfl) (by kernel_rfl) (by kernel_rfl) (by kernel_rfl) (fun _ _ _ h => h) (by assumption) ?_
    (try simp only [Act.put, List.setIfInBounds_toArray, List.set_cons_zero, List.set_cons_succ])
    refine hand_skip 9 (some 63) (by kernel_rfl) (by kernel_rfl) (by kernel_rfl) (by kernel_rfl) (by kernel_rfl) (fun _ _ _ h => h) (by assumption) ?_
    (try simp only [Act.put, List.setIfInBounds_toArray, List.set_cons_zero, List.set_cons_succ])
    refine hand_skip 10 (some 64) (by kernel_rfl) (by kernel_rfl) (by kernel_rfl) (by kernel_rfl) (by kernel_rfl) (fun _ _ _ h => h) (by assumption) ?_
    (try simp only [Act.put, List.setIfInBounds_toArray, List.set_cons_zero, List.set_cons_succ])
    refine hand_skip 11 (some 65) (by kernel_rfl) (by kernel_rfl) (by kernel_rfl) (by kernel_rfl) (by kernel_rfl) (fun _ _ _ h => h) (by assumption) ?_
    (try simp only [Act.put, List.setIfInBounds_toArray, List.set_cons_zero, List.set_cons_succ])
    refine hand_take 12 (some 66) ?_ (by kernel_rfl) (by kernel_rfl) (by kernel_rfl) (by kernel_rfl) (by kernel_rfl) (fun _ _ _ h => h) ?_ (by assumption) ?_
    rotate_left
    · (intro o ho w hSw; (simp only [List.getElem?_toArray, List.getElem?_cons_succ, List.getElem?_cons_zero, Option.some.injEq] at ho); subst ho; (try dsimp only at hSw); go_simp; (first | done | with_reducible rfl))
    (try simp only [Act.put, List.setIfInBounds_toArray, List.set_cons_zero, List.set_cons_succ])
    refine hand_take 13 (some 4) ?_ (by kernel_rfl) (by kernel_rfl) (by kernel_rfl) (by kernel_rfl) (by kernel_rfl) (fun _ _ _ h => h) ?_ (by assumption) ?_
    rotate_left
    · (intro o ho w hSw; (simp only [List.getElem?_toArray, List.getElem?_cons_succ, List.getElem?_cons_zero, Option.some.injEq] at ho); subst ho; (try dsimp only at hSw); go_simp; (first | done | with_reducible rfl))
    (try simp only [Act.put, List.setIfInBounds_toArray, List.set_cons_zero, List.set_cons_succ])
    refine wpAnyH_done (by kernel_rfl) ?_ _
    go_wp2
    go_ret
    exact ⟨rfl, HB9.out.drew⟩
  | true =>
    obtain ⟨b, hb⟩ : ∃ b, decide (P = O) = b := ⟨_, rfl⟩
    have hbs := seal_tells HRP.out hRO HH.out.t0 HH.out.t1 HHO.out.t0 HHO.out.t1 b hb
    have HE2 := kept (encode_right _ O w8 (HHO.out.below hbw8) hRO (HFF.out.below hbw8))
    clear hRO hrp hro hb6 hb7 hb8 hb6' hb7' hb8'
    go_wp2_with fail
    with_reducible refine HE2.out.mono ?_
    rintro e w9 ⟨A9, r9, rfl, hown9, hb9⟩
    have hq9 := below_to hb9 hq8
    have HB9 := kept (below_to hb9 hbw8)
    have HSS := kept (same_any A4 A9 256 256 r4 r9 _ _ w9.drew ((HR8.out.below hb9).below (Below.refl _ _).drew) ((Rd.of_own hown9).below (Below.refl _ _).drew) b hbs)
    have HBD := kept hb
    have HS9 : Hid (∀ (X : World), Below w9.heap.size w9 X → (Sev X w.heap.size kd tx nx a1 n1 c1 a2 n2 c2 a3 n3 c3 a4 n4 c4) ∧ Sev X (w.heap.size + 1) kd' tx' nx' a1' n1' c1' a2' n2' c2' a3' n3' c3' a4' n4' c4') := kept (fun X hX => HS.out _ (below_to hX hq9))
    clear z0 z1 z2 z3 z4 z5 z6 hb9 hbw8 hq8 hown9 hb hbs
    go_wp2
    refine wp_region_held_drew (S := (fun W' => Sev W' w.heap.size kd tx nx a1 n1 c1 a2 n2 c2 a3 n3 c3 a4 n4 c4 ∧ Sev W' (w.heap.size + 1) kd' tx' nx' a1' n1' c1' a2' n2' c2' a3' n3' c3' a4' n4' c4')) (by kernel_rfl) ?_ (fun hHeld => ?_)
    · ((try dsimp only); (first | exact HS9.out _ (Below.refl _ _) | exact HS9.out _ (Below.refl _ _).drew | exact HS9.out _ hb12 | exact HS9.out _ hb11 | exact HS9.out _ hb10))
    refine hand_take 0 (some 54) ?_ (by kernel_rfl) (by kernel_rfl) (by kernel_rfl) (by kernel_rfl) (by kernel_rfl) (fun _ _ _ h => h) ?_ (by assumption) ?_
    rotate_left
    · (intro o ho w hSw; (simp only [List.getElem?_toArray, List.getElem?_cons_succ, List.getElem?_cons_zero, Option.some.injEq] at ho); subst ho; (try dsimp only at hSw); go_simp; (first | done | with_reducible rfl))
    (try simp only [Act.put, List.setIfInBounds_toArray, List.set_cons_zero, List.set_cons_succ])
    refine hand_take 1 (some 55) ?_ (by kernel_rfl) (by kernel_rfl) (by kernel_rfl) (by kernel_rfl) (by kernel_rfl) (fun _ _ _ h => h) ?_ (by assumption) ?_
    rotate_left
    · (intro o ho w hSw; (simp only [List.getElem?_toArray, List.getElem?_cons_succ, List.getElem?_cons_zero, Option.some.injEq] at ho); subst ho; (try dsimp only at hSw); go_simp; (first | done | with_reducible rfl))
    (try simp only [Act.put, List.setIfInBounds_toArray, List.set_cons_zero, List.set_cons_succ])
    refine hand_take 2 (some 56) ?_ (by kernel_rfl) (by kernel_rfl) (by kernel_rfl) (by kernel_rfl) (by kernel_rfl) (fun _ _ _ h => h) ?_ (by assumption) ?_
    rotate_left
    · (intro o ho w hSw; (simp only [List.getElem?_toArray, List.getElem?_cons_succ, List.getElem?_cons_zero, Option.some.injEq] at ho); subst ho; (try dsimp only at hSw); go_simp; (first | done | with_reducible rfl))
    (try simp only [Act.put, List.setIfInBounds_toArray, List.set_cons_zero, List.set_cons_succ])
    refine hand_take 3 (some 57) ?_ (by kernel_rfl) (by kernel_rfl) (by kernel_rfl) (by kernel_rfl) (by kernel_rfl) (fun _ _ _ h => h) ?_ (by assumption) ?_
    rotate_left
    · (intro o ho w hSw; (simp only [List.getElem?_toArray, List.getElem?_cons_succ, List.getElem?_cons_zero, Option.some.injEq] at ho); subst ho; (try dsimp only at hSw); go_simp; (first | done | with_reducible rfl))
    (try simp only [Act.put, List.setIfInBounds_toArray, List.set_cons_zero, List.set_cons_succ])
    refine hand_take 4 (some 58) ?_ (by kernel_rfl) (by kernel_rfl) (by kernel_rfl) (by kernel_rfl) (by kernel_rfl) (fun _ _ _ h => h) ?_ (by assumption) ?_
    rotate_left
    · (intro o ho w hSw; (simp only [List.getElem?_toArray, List.getElem?_cons_succ, List.getElem?_cons_zero, Option.some.injEq] at ho); subst ho; (try dsimp only at hSw); go_simp; (first | done | with_reducible rfl))
    (try simp only [Act.put, List.setIfInBounds_toArray, List.set_cons_zero, List.set_cons_succ])
    refine hand_take 6 (some 60) ?_ (by kernel_rfl) (by kernel_rfl) (by kernel_rfl) (by kernel_rfl) (by kernel_rfl) (fun _ _ _ h => h) ?_ (by assumption) ?_
    rotate_left
    · (intro o ho w hSw; (simp only [List.getElem?_toArray, List.getElem?_cons_succ, List.getElem?_cons_zero, Option.some.injEq] at ho); subst ho; (try dsimp only at hSw); go_simp; (first | done | with_reducible rfl))
    (try simp only [Act.put, List.setIfInBounds_toArray, List.set_cons_zero, List.set_cons_succ])
    refine hand_take 8 (some 62) ?_ (by kernel_rfl) (by kernel_rfl) (by kernel_rfl) (by kernel_rfl) (by kernel_rfl) (fun _ _ _ h => h) ?_ (by assumption) ?_
    rotate_left
    · (intro o ho w hSw; (simp only [List.getElem?_toArray, List.getElem?_cons_succ, List.getElem?_cons_zero, Option.some.injEq] at ho); subst ho; (try dsimp only at hSw); go_simp; (first | done | with_reducible rfl))
    (try simp only [Act.put, List.setIfInBounds_toArray, List.set_cons_zero, List.set_cons_succ])
    refine hand_ready 5 (by kernel_rfl) (by kernel_rfl) (fun o ho K hK => ?_)
    (simp only [List.getElem?_toArray, List.getElem?_cons_succ, List.getElem?_cons_zero, Option.some.injEq] at ho)
    subst ho
    go_simp
    (go_at_call 16; (with_reducible refine HSS.out.mono ?_); rintro e w' ⟨rfl, rfl⟩)
    (try go_wp2_with fail)
    refine hK.out _ _ ?_ (fun hHeld => ?_)
    · ((try dsimp only); (first | exact HS9.out _ (Below.refl _ _) | exact HS9.out _ (Below.refl _ _).drew | exact HS9.out _ hb12 | exact HS9.out _ hb11 | exact HS9.out _ hb10))
    clear hK K
    (try simp only [Act.put, List.setIfInBounds_toArray, List.set_cons_zero, List.set_cons_succ])
    refine hand_ready 7 (by kernel_rfl) (by kernel_rfl) (fun o ho K hK => ?_)
    (simp only [List.getElem?_toArray, List.getElem?_cons_succ, List.getElem?_cons_zero, Option.some.injEq] at ho)
    subst ho
    go_simp
    ((go_at_call 11; (with_reducible refine (HOF HB9.out.drew).out.mono ?_); rintro e w10 ⟨lo, rfl, hro, _, _, _, _, hb10'⟩); have hb10 := below_of_drew1 hb10')
    (try go_wp2_with fail)
    refine hK.out _ _ ?_ (fun hHeld => ?_)
    · ((try dsimp only); (first | exact HS9.out _ (Below.refl _ _) | exact HS9.out _ (Below.refl _ _).drew | exact HS9.out _ hb12 | exact HS9.out _ hb11 | exact HS9.out _ hb10))
    clear hK K
    (try simp only [Act.put, List.setIfInBounds_toArray, List.set_cons_zero, List.set_cons_succ])
    refine hand_ready 9 (by kernel_rfl) (by kernel_rfl) (fun o ho K hK => ?_)
    (simp only [List.getElem?_toArray, List.getElem?_cons_succ, List.getElem?_cons_zero, Option.some.injEq] at ho)
    subst ho
    go_simp
    ((go_at_call 11; (with_reducible refine (HOG (below_to hb10 HB9.out)).out.mono ?_); rintro e w11 ⟨lp, rfl, hrp, _, _, _, _, hb11'⟩); have hb11 := below_to hb11' hb10)
    (try go_wp2_with fail)
    refine hK.out _ _ ?_ (fun hHeld => ?_)
    · ((try dsimp only); (first | exact HS9.out _ (Below.refl _ _) | exact HS9.out _ (Below.refl _ _).drew | exact HS9.out _ hb12 | exact HS9.out _ hb11 | exact HS9.out _ hb10))
    clear hK K
    (try simp only [Act.put, List.setIfInBounds_toArray, List.set_cons_zero, List.set_cons_succ])
    refine hand_ready 10 (by kernel_rfl) (by kernel_rfl) (fun o ho K hK => ?_)
    (simp only [List.getElem?_toArray, List.getElem?_cons_succ, List.getElem?_cons_zero, Option.some.injEq] at ho)
    subst ho
    go_simp
    ((go_at_call 15; (with_reducible refine (sameP_any lo lp P O _ (hro.below hb11') hrp b HBD.out).mono ?_); rintro e w12 ⟨rfl, hb12'⟩); have hb12 := below_to hb12' hb11)
    (try go_wp2_with fail)
    refine hK.out _ _ ?_ (fun hHeld => ?_)
    · ((try dsimp only); (first | exact HS9.out _ (Below.refl _ _) | exact HS9.out _ (Below.refl _ _).drew | exact HS9.out _ hb12 | exact HS9.out _ hb11 | exact HS9.out _ hb10))
    clear hK K
    (try simp only [Act.put, List.setIfInBounds_toArray, List.set_cons_zero, List.set_cons_succ])
    refine hand_take 11 (some 65) ?_ (by kernel_rfl) (by kernel_rfl) (by kernel_rfl) (by kernel_rfl) (by kernel_rfl) (fun _ _ _ h => h) ?_ (by assumption) ?_
    rotate_left
    · (intro o ho w hSw; (simp only [List.getElem?_toArray, List.getElem?_cons_succ, List.getElem?_cons_zero, Option.some.injEq] at ho); subst ho; (try dsimp only at hSw); go_simp; (first | done | with_reducible rfl))
    (try simp only [Act.put, List.setIfInBounds_toArray, List.set_cons_zero, List.set_cons_succ])
    refine hand_take 12 (some 66) ?_ (by kernel_rfl) (by kernel_rfl) (by kernel_rfl) (by kernel_rfl) (by kernel_rfl) (fun _ _ _ h => h) ?_ (by assumption) ?_
    rotate_left
    · (intro o ho w hSw; (simp only [List.getElem?_toArray, List.getElem?_cons_succ, List.getElem?_cons_zero, Option.some.injEq] at ho); subst ho; (try dsimp only at hSw); go_simp; (first | done | with_reducible rfl))
    (try simp only [Act.put, List.setIfInBounds_toArray, List.set_cons_zero, List.set_cons_succ])
    refine hand_take 13 (some 4) ?_ (by kernel_rfl) (by kernel_rfl) (by kernel_rfl) (by kernel_rfl) (by kernel_rfl) (fun _ _ _ h => h) ?_ (by assumption) ?_
    rotate_left
    · (intro o ho w hSw; (simp only [List.getElem?_toArray, List.getElem?_cons_succ, List.getElem?_cons_zero, Option.some.injEq] at ho); subst ho; (try dsimp only at hSw); go_simp; (first | done | with_reducible rfl))
    (try simp only [Act.put, List.setIfInBounds_toArray, List.set_cons_zero, List.set_cons_succ])
    refine wpAnyH_done (by kernel_rfl) ?_ _
    go_wp2
    go_ret
    exact ⟨rfl, below_to hb12 HB9.out⟩
theorem walk (w : World) (hf : Fours w) (l : Lay) (P : Pg) (h : RdPg w l P) (m : Lay) (O : Pg) (ho : RdPg w m O) :
    Calls Tryd.prog 5 #[l.val, m.val] w fun e w' => e = .returned (.bool true) ∧ Below w.heap.size w w' := by
  cases hP : fewB P with
  | false => exact walk_lives w hf l P h m O ho (.inl hP)
  | true =>
    cases hO : fewB O with
    | false => exact walk_lives w hf l P h m O ho (.inr ⟨hP, hO⟩)
    | true =>
      cases hR : rightB P with
      | false => exact walk_wrong w hf l P h m O ho hP hO hR
      | true => exact walk_right w hf l P h m O ho hP hO hR
end Go.Proofs.YtklkgbaejehfpaaDoor.pageBack
