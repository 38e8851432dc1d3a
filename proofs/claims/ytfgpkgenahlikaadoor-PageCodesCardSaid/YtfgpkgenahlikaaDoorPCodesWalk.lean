/-
  The law PageCodes walked.
-/
import Derived.Test.YtfgpkgenahlikaaDoorRe
import Derived.Test.YtfgpkgenahlikaaDoorOf
import Derived.Test.YtfgpkgenahlikaaDoorSm
import Derived.Test.YtfgpkgenahlikaaDoorFw
namespace Go.Proofs.YtfgpkgenahlikaaDoor.pageCodes
open Go.ChangeShapes Go.WideShapes Go.ChangeAt Go.RowKit
set_option linter.unusedVariables false
set_option linter.unusedSimpArgs false

theorem few_n {P : Pg} {l : Lay} {w : World} (h : RdPg w l P) (hP : fewB P = true) : l.n1 ≤ 300 ∧ l.n2 ≤ 300 ∧ l.n4 ≤ 300 := by
  unfold fewB at hP
  simp only [Bool.and_eq_true, decide_eq_true_eq] at hP
  have := h.n1
  have := h.n2
  have := h.n4
  omega
set_option maxRecDepth 100000 in
set_option maxHeartbeats 8000000 in
theorem walk (w : World) (hf : Fours w) (l : Lay) (P : Pg) (h : RdPg w l P) :
    Calls Tryd.prog 3 #[l.val] w fun e w' => e = .returned (.bool true) ∧ Below w.heap.size w w' := by
  have HFW := fun {X : World} (hX : Below w.heap.size w X) => kept (few_any l P X (h.below hX))
  have HL := fun {X : World} (hX : Below w.heap.size w X) => kept (lives_any X (hf.below hX))
  have HPR := fun {X : World} (hX : Below w.heap.size w X) => kept (right_any l P X (h.below hX))
  have HP0 := kept h
  have HFO := kept hf
  cases hfw : fewB P with
  | false =>
    rw [hfw] at HFW
    clear h hf hfw HPR
    obtain ⟨kd, tx, nx, a1, n1, c1, a2, n2, c2, a3, n3, c3, a4, n4, c4⟩ := l
    have hb0 : Below w.heap.size w (w.alloc (.cells #[.int .i64 kd, .int .u64 tx, .int .i64 nx, .slice a1 n1 c1, .slice a2 n2 c2, .slice a3 n3 c3, .slice a4 n4 c4] 28)) := (Below.refl _ _).alloc (Nat.le_refl _) _
    have HB0 := kept hb0
    have HL0 := HL hb0
    have HS0 := kept (sev_box w kd tx nx a1 n1 c1 a2 n2 c2 a3 n3 c3 a4 n4 c4 (t := 28) (Below.refl _ _))
    clear hb0
    go_enter Tryd.func3, Tryd.ntmps3
    go_wp2_with fail
    with_reducible refine HL0.out.mono ?_
    rintro e w1 ⟨rfl, hb⟩
    have HB1 := kept (below_to hb HB0.out)
    obtain ⟨z0, z1, z2, z3, z4, z5, z6⟩ := sev_below HS0.out hb
    clear hb
    go_wp2_with fail
    with_reducible refine (HFW HB1.out).out.mono ?_
    rintro e w2 ⟨rfl, hb⟩
    have HB2 := kept (below_to hb HB1.out)
    have HL2 := HL HB2.out
    clear hb
    go_wp2_with fail
    with_reducible refine HL2.out.mono ?_
    rintro e w3 ⟨rfl, hb⟩
    have HB3 := kept (below_to hb HB2.out)
    clear hb
    go_wp2
    go_ret
    exact ⟨rfl, HB3.out⟩
  | true =>
    rw [hfw] at HFW
    obtain ⟨q1, q2, q4⟩ := few_n h hfw
    have HNN := kept (And.intro q1 (And.intro q2 q4))
    have HOF := fun {X : World} (hX : Below w.heap.size w X) => kept (of_any l P X (h.below hX) (by omega) (by omega))
    cases hR : rightB P with
    | true =>
      have HRB := kept hR
      have HEN := fun {X : World} (hX : Below w.heap.size w X) => kept (encode_right l P X (h.below hX) hR (hf.below hX))
      rw [hR] at HPR
      clear h hf hfw hR q1 q2 q4
      obtain ⟨kd, tx, nx, a1, n1, c1, a2, n2, c2, a3, n3, c3, a4, n4, c4⟩ := l
      (try simp only at HNN)
      have hb0 : Below w.heap.size w (w.alloc (.cells #[.int .i64 kd, .int .u64 tx, .int .i64 nx, .slice a1 n1 c1, .slice a2 n2 c2, .slice a3 n3 c3, .slice a4 n4 c4] 28)) := (Below.refl _ _).alloc (Nat.le_refl _) _
      have HB0 := kept hb0
      have HL0 := HL hb0
      have HS0 := kept (sev_box w kd tx nx a1 n1 c1 a2 n2 c2 a3 n3 c3 a4 n4 c4 (t := 28) (Below.refl _ _))
      clear hb0
      go_enter Tryd.func3, Tryd.ntmps3
      go_wp2_with fail
      with_reducible refine HL0.out.mono ?_
      rintro e w1 ⟨rfl, hb⟩
      have HB1 := kept (below_to hb HB0.out)
      have HS1 := kept (sev_below HS0.out hb)
      obtain ⟨z0, z1, z2, z3, z4, z5, z6⟩ := HS1.out
      clear hb
      go_wp2_with fail
      with_reducible refine (HFW HB1.out).out.mono ?_
      rintro e w2 ⟨rfl, hb⟩
      have HB2 := kept (below_to hb HB1.out)
      have HS2 := kept (sev_below HS1.out hb)
      clear hb z0 z1 z2 z3 z4 z5 z6
      obtain ⟨z0, z1, z2, z3, z4, z5, z6⟩ := HS2.out
      go_wp2_with fail
      with_reducible refine (HOF HB2.out).out.mono ?_
      rintro e w3 ⟨l', rfl, hq3, e1, e2, e3, e4, hb⟩
      have HQ3 := kept hq3
      have HE3 := kept (And.intro e1 (And.intro e2 e4))
      have HB3 := kept (below_to hb HB2.out)
      have HS3 := kept (sev_below HS2.out hb)
      clear hb hq3 e1 e2 e3 e4 z0 z1 z2 z3 z4 z5 z6
      have HRR := fun {X : World} (hX : Below w3.heap.size w3 X) => kept (refRight04_any l' P X (HQ3.out.below hX) (by have h := HE3.out.1; have := HNN.out; omega) (by have h := HE3.out.2.1; have := HNN.out; omega) (by have h := HE3.out.2.2; have := HNN.out; omega))
      have HRE := fun {X : World} (hX : Below w3.heap.size w3 X) => kept (refEncode04_any l' P X (HQ3.out.below hX) HRB.out (by have h := HE3.out.1; have := HNN.out; omega) (by have h := HE3.out.2.1; have := HNN.out; omega) (by have h := HE3.out.2.2; have := HNN.out; omega))
      have HSA := fun {X : World} (lo : Lay) (hlo : RdPg X lo P) (hX : Below w3.heap.size w3 X) => kept (sameP_any lo l' P P X hlo (HQ3.out.below hX) true (by simp))
      obtain ⟨kq, tq, xq, p1, m1, d1, p2, m2, d2, p3, m3, d3, p4, m4, d4⟩ := l'
      rw [HRB.out] at HRR
      (try simp only at HRR)
      (try simp only at HRE)
      (try simp only at HSA)
      have hbq : Below w3.heap.size w3 (w3.alloc (.cells #[.int .i64 kq, .int .u64 tq, .int .i64 xq, .slice p1 m1 d1, .slice p2 m2 d2, .slice p3 m3 d3, .slice p4 m4 d4] 34)) := (Below.refl _ _).alloc (Nat.le_refl _) _
      have HSQ := kept (sev_box w3 kq tq xq p1 m1 d1 p2 m2 d2 p3 m3 d3 p4 m4 d4 (t := 34) (Below.refl _ _))
      have HS3a := kept (sev_below HS3.out hbq)
      obtain ⟨z0, z1, z2, z3, z4, z5, z6⟩ := HS3a.out
      have HBQ := kept hbq
      have HB3a := kept (below_to hbq HB3.out)
      go_wp2_with fail
      with_reducible refine (HEN HB3a.out).out.mono ?_
      rintro e w4 ⟨A4, k4, rfl, hown, hb⟩
      have HR4 := kept (Rd.of_own hown)
      clear hown
      have HBQ4 := kept (below_to hb HBQ.out)
      have HB4 := kept (below_to hb HB3a.out)
      have HS4 := kept (sev_below HS3a.out hb)
      have HSQ4 := kept (sev_below HSQ.out hb)
      clear hb hbq z0 z1 z2 z3 z4 z5 z6
      obtain ⟨y0, y1, y2, y3, y4, y5, y6⟩ := HSQ4.out
      go_wp2_with fail
      with_reducible refine (HRR HBQ4.out).out.mono ?_
      rintro e w5 ⟨rfl, hb⟩
      have HBQ5 := kept (below_to hb HBQ4.out)
      have HB5 := kept (below_to hb HB4.out)
      have HS5 := kept (sev_below HS4.out hb)
      have HSQ5 := kept (sev_below HSQ4.out hb)
      have HR5 := kept (HR4.out.below hb)
      clear hb y0 y1 y2 y3 y4 y5 y6
      have HST : Hid (∀ X, Below w5.heap.size w5 X → Sev X w.heap.size kd tx nx a1 n1 c1 a2 n2 c2 a3 n3 c3 a4 n4 c4 ∧ Sev X w3.heap.size kq tq xq p1 m1 d1 p2 m2 d2 p3 m3 d3 p4 m4 d4) := kept (fun X hX => ⟨sev_below HS5.out hX, sev_below HSQ5.out hX⟩)
      go_wp2_with fail
      refine wp_region_held_drew (S := (fun W' => Sev W' w.heap.size kd tx nx a1 n1 c1 a2 n2 c2 a3 n3 c3 a4 n4 c4 ∧ Sev W' w3.heap.size kq tq xq p1 m1 d1 p2 m2 d2 p3 m3 d3 p4 m4 d4)) (by kernel_rfl) ?_ (fun hHeld => ?_)
      · ((try dsimp only); (first | exact HST.out _ (Below.refl _ _) | exact HST.out _ (Below.refl _ _).drew | exact HST.out _ HX8.out | exact HST.out _ HX7.out | exact HST.out _ HX6.out))
      refine hand_take 0 (some 24) ?_ (by kernel_rfl) (by kernel_rfl) (by kernel_rfl) (by kernel_rfl) (by kernel_rfl) (fun _ _ _ h => h) ?_ (by assumption) ?_
      rotate_left
      · (intro o ho w hSw; (simp only [List.getElem?_toArray, List.getElem?_cons_succ, List.getElem?_cons_zero, Option.some.injEq] at ho); subst ho; (try dsimp only at hSw); go_simp; (first | done | with_reducible rfl))
      (try simp only [Act.put, List.setIfInBounds_toArray, List.set_cons_zero, List.set_cons_succ])
      refine hand_take 2 (some 26) ?_ (by kernel_rfl) (by kernel_rfl) (by kernel_rfl) (by kernel_rfl) (by kernel_rfl) (fun _ _ _ h => h) ?_ (by assumption) ?_
      rotate_left
      · (intro o ho w hSw; (simp only [List.getElem?_toArray, List.getElem?_cons_succ, List.getElem?_cons_zero, Option.some.injEq] at ho); subst ho; (try dsimp only at hSw); go_simp; (first | done | with_reducible rfl))
      (try simp only [Act.put, List.setIfInBounds_toArray, List.set_cons_zero, List.set_cons_succ])
      refine hand_ready 1 (by kernel_rfl) (by kernel_rfl) (fun o ho K hK => ?_)
      (simp only [List.getElem?_toArray, List.getElem?_cons_succ, List.getElem?_cons_zero, Option.some.injEq] at ho)
      subst ho
      go_simp
      ((go_at_call 16; (with_reducible refine (HPR HB5.out.drew).out.mono ?_); rintro e w6 ⟨rfl, h6⟩); have HX6 : Hid (Below w5.heap.size w5 w6) := kept ((Below.refl _ _).drew.trans h6); have HB6 := kept (below_to HX6.out HB5.out); clear h6)
      (try go_wp2_with fail)
      refine hK.out _ _ ?_ (fun hHeld => ?_)
      · ((try dsimp only); (first | exact HST.out _ (Below.refl _ _) | exact HST.out _ (Below.refl _ _).drew | exact HST.out _ HX8.out | exact HST.out _ HX7.out | exact HST.out _ HX6.out))
      clear hK K
      (try simp only [Act.put, List.setIfInBounds_toArray, List.set_cons_zero, List.set_cons_succ])
      refine hand_take 3 (some 27) ?_ (by kernel_rfl) (by kernel_rfl) (by kernel_rfl) (by kernel_rfl) (by kernel_rfl) (fun _ _ _ h => h) ?_ (by assumption) ?_
      rotate_left
      · (intro o ho w hSw; (simp only [List.getElem?_toArray, List.getElem?_cons_succ, List.getElem?_cons_zero, Option.some.injEq] at ho); subst ho; (try dsimp only at hSw); go_simp; (first | done | with_reducible rfl))
      (try simp only [Act.put, List.setIfInBounds_toArray, List.set_cons_zero, List.set_cons_succ])
      refine hand_take 4 (some 28) ?_ (by kernel_rfl) (by kernel_rfl) (by kernel_rfl) (by kernel_rfl) (by kernel_rfl) (fun _ _ _ h => h) ?_ (by assumption) ?_
      rotate_left
      · (intro o ho w hSw; (simp only [List.getElem?_toArray, List.getElem?_cons_succ, List.getElem?_cons_zero, Option.some.injEq] at ho); subst ho; (try dsimp only at hSw); go_simp; (first | done | with_reducible rfl))
      (try simp only [Act.put, List.setIfInBounds_toArray, List.set_cons_zero, List.set_cons_succ])
      refine hand_take 5 (some 29) ?_ (by kernel_rfl) (by kernel_rfl) (by kernel_rfl) (by kernel_rfl) (by kernel_rfl) (fun _ _ _ h => h) ?_ (by assumption) ?_
      rotate_left
      · (intro o ho w hSw; (simp only [List.getElem?_toArray, List.getElem?_cons_succ, List.getElem?_cons_zero, Option.some.injEq] at ho); subst ho; (try dsimp only at hSw); go_simp; (first | done | with_reducible rfl))
      (try simp only [Act.put, List.setIfInBounds_toArray, List.set_cons_zero, List.set_cons_succ])
      refine hand_take 7 (some 31) ?_ (by kernel_rfl) (by kernel_rfl) (by kernel_rfl) (by kernel_rfl) (by kernel_rfl) (fun _ _ _ h => h) ?_ (by assumption) ?_
      rotate_left
      · (intro o ho w hSw; (simp only [List.getElem?_toArray, List.getElem?_cons_succ, List.getElem?_cons_zero, Option.some.injEq] at ho); subst ho; (try dsimp only at hSw); go_simp; (first | done | with_reducible rfl))
      (try simp only [Act.put, List.setIfInBounds_toArray, List.set_cons_zero, List.set_cons_succ])
      refine hand_ready 6 (by kernel_rfl) (by kernel_rfl) (fun o ho K hK => ?_)
      (simp only [List.getElem?_toArray, List.getElem?_cons_succ, List.getElem?_cons_zero, Option.some.injEq] at ho)
      subst ho
      go_simp
      ((go_at_call 13; (with_reducible refine (HOF HB6.out).out.mono ?_); rintro e w7 ⟨lo, rfl, hlo, _, _, _, _, h7⟩); have HX7 : Hid (Below w5.heap.size w5 w7) := kept (below_to h7 HX6.out); have HLO := kept hlo; have HSA7 := HSA lo HLO.out (below_to HX7.out HBQ5.out); clear h7 hlo)
      (try go_wp2_with fail)
      refine hK.out _ _ ?_ (fun hHeld => ?_)
      · ((try dsimp only); (first | exact HST.out _ (Below.refl _ _) | exact HST.out _ (Below.refl _ _).drew | exact HST.out _ HX8.out | exact HST.out _ HX7.out | exact HST.out _ HX6.out))
      clear hK K
      (try simp only [Act.put, List.setIfInBounds_toArray, List.set_cons_zero, List.set_cons_succ])
      refine hand_ready 8 (by kernel_rfl) (by kernel_rfl) (fun o ho K hK => ?_)
      (simp only [List.getElem?_toArray, List.getElem?_cons_succ, List.getElem?_cons_zero, Option.some.injEq] at ho)
      subst ho
      go_simp
      ((go_at_call 17; (with_reducible refine HSA7.out.mono ?_); rintro e w8 ⟨rfl, h8⟩); have HX8 : Hid (Below w5.heap.size w5 w8) := kept (below_to h8 HX7.out); clear h8)
      (try go_wp2_with fail)
      refine hK.out _ _ ?_ (fun hHeld => ?_)
      · ((try dsimp only); (first | exact HST.out _ (Below.refl _ _) | exact HST.out _ (Below.refl _ _).drew | exact HST.out _ HX8.out | exact HST.out _ HX7.out | exact HST.out _ HX6.out))
      clear hK K
      (try simp only [Act.put, List.setIfInBounds_toArray, List.set_cons_zero, List.set_cons_succ])
      refine hand_take 9 (some 33) ?_ (by kernel_rfl) (by kernel_rfl) (by kernel_rfl) (by kernel_rfl) (by kernel_rfl) (fun _ _ _ h => h) ?_ (by assumption) ?_
      rotate_left
      · (intro o ho w hSw; (simp only [List.getElem?_toArray, List.getElem?_cons_succ, List.getElem?_cons_zero, Option.some.injEq] at ho); subst ho; (try dsimp only at hSw); go_simp; (first | done | with_reducible rfl))
      (try simp only [Act.put, List.setIfInBounds_toArray, List.set_cons_zero, List.set_cons_succ])
      refine hand_take 10 (some 34) ?_ (by kernel_rfl) (by kernel_rfl) (by kernel_rfl) (by kernel_rfl) (by kernel_rfl) (fun _ _ _ h => h) ?_ (by assumption) ?_
      rotate_left
      · (intro o ho w hSw; (simp only [List.getElem?_toArray, List.getElem?_cons_succ, List.getElem?_cons_zero, Option.some.injEq] at ho); subst ho; (try dsimp only at hSw); go_simp; (first | done | with_reducible rfl))
      (try simp only [Act.put, List.setIfInBounds_toArray, List.set_cons_zero, List.set_cons_succ])
      refine wpAnyH_done (by kernel_rfl) ?_ _
      have HB8 := kept (below_to HX8.out HB5.out)
      have HBQ8 := kept (below_to HX8.out HBQ5.out)
      have HR8 := kept (HR5.out.below HX8.out)
      obtain ⟨_, y0, y1, y2, y3, y4, y5, y6⟩ := HST.out _ HX8.out
      go_wp2_with fail
      with_reducible refine (HRE HBQ8.out).out.mono ?_
      rintro e w9 ⟨A9, k9, rfl, hown, hb⟩
      have HSM := kept (same_any A4 A9 256 256 k4 k9 _ _ w9 (HR8.out.below hb) (Rd.of_own hown) true (by simp))
      have HB9 := kept (below_to hb HB8.out)
      clear hown hb
      go_wp2_with (first | (go_at_call 18; (with_reducible refine (HSM.out).mono ?_); rintro e w10 ⟨rfl, rfl⟩))
      go_ret
      exact ⟨rfl, HB9.out⟩
    | false =>
      have HRB := kept hR
      have HEN := fun {X : World} (hX : Below w.heap.size w X) => kept (encode_wrong l P X (h.below hX) hR)
      rw [hR] at HPR
      clear h hf hfw hR q1 q2 q4
      obtain ⟨kd, tx, nx, a1, n1, c1, a2, n2, c2, a3, n3, c3, a4, n4, c4⟩ := l
      (try simp only at HNN)
      have hb0 : Below w.heap.size w (w.alloc (.cells #[.int .i64 kd, .int .u64 tx, .int .i64 nx, .slice a1 n1 c1, .slice a2 n2 c2, .slice a3 n3 c3, .slice a4 n4 c4] 28)) := (Below.refl _ _).alloc (Nat.le_refl _) _
      have HB0 := kept hb0
      have HL0 := HL hb0
      have HS0 := kept (sev_box w kd tx nx a1 n1 c1 a2 n2 c2 a3 n3 c3 a4 n4 c4 (t := 28) (Below.refl _ _))
      clear hb0
      go_enter Tryd.func3, Tryd.ntmps3
      go_wp2_with fail
      with_reducible refine HL0.out.mono ?_
      rintro e w1 ⟨rfl, hb⟩
      have HB1 := kept (below_to hb HB0.out)
      have HS1 := kept (sev_below HS0.out hb)
      obtain ⟨z0, z1, z2, z3, z4, z5, z6⟩ := HS1.out
      clear hb
      go_wp2_with fail
      with_reducible refine (HFW HB1.out).out.mono ?_
      rintro e w2 ⟨rfl, hb⟩
      have HB2 := kept (below_to hb HB1.out)
      have HS2 := kept (sev_below HS1.out hb)
      clear hb z0 z1 z2 z3 z4 z5 z6
      obtain ⟨z0, z1, z2, z3, z4, z5, z6⟩ := HS2.out
      go_wp2_with fail
      with_reducible refine (HOF HB2.out).out.mono ?_
      rintro e w3 ⟨l', rfl, hq3, e1, e2, e3, e4, hb⟩
      have HQ3 := kept hq3
      have HE3 := kept (And.intro e1 (And.intro e2 e4))
      have HB3 := kept (below_to hb HB2.out)
      have HS3 := kept (sev_below HS2.out hb)
      clear hb hq3 e1 e2 e3 e4 z0 z1 z2 z3 z4 z5 z6
      have HRR := fun {X : World} (hX : Below w3.heap.size w3 X) => kept (refRight04_any l' P X (HQ3.out.below hX) (by have h := HE3.out.1; have := HNN.out; omega) (by have h := HE3.out.2.1; have := HNN.out; omega) (by have h := HE3.out.2.2; have := HNN.out; omega))
      have HSA := fun {X : World} (lo : Lay) (hlo : RdPg X lo P) (hX : Below w3.heap.size w3 X) => kept (sameP_any lo l' P P X hlo (HQ3.out.below hX) true (by simp))
      obtain ⟨kq, tq, xq, p1, m1, d1, p2, m2, d2, p3, m3, d3, p4, m4, d4⟩ := l'
      rw [HRB.out] at HRR
      (try simp only at HRR)
      (try simp only at HSA)
      have hbq : Below w3.heap.size w3 (w3.alloc (.cells #[.int .i64 kq, .int .u64 tq, .int .i64 xq, .slice p1 m1 d1, .slice p2 m2 d2, .slice p3 m3 d3, .slice p4 m4 d4] 34)) := (Below.refl _ _).alloc (Nat.le_refl _) _
      have HSQ := kept (sev_box w3 kq tq xq p1 m1 d1 p2 m2 d2 p3 m3 d3 p4 m4 d4 (t := 34) (Below.refl _ _))
      have HS3a := kept (sev_below HS3.out hbq)
      obtain ⟨z0, z1, z2, z3, z4, z5, z6⟩ := HS3a.out
      have HBQ := kept hbq
      have HB3a := kept (below_to hbq HB3.out)
      go_wp2_with fail
      with_reducible refine (HEN HB3a.out).out.mono ?_
      rintro e w4 ⟨rfl, hb⟩
      have HBQ4 := kept (below_to hb HBQ.out)
      have HB4 := kept (below_to hb HB3a.out)
      have HS4 := kept (sev_below HS3a.out hb)
      have HSQ4 := kept (sev_below HSQ.out hb)
      clear hb hbq z0 z1 z2 z3 z4 z5 z6
      obtain ⟨y0, y1, y2, y3, y4, y5, y6⟩ := HSQ4.out
      go_wp2_with fail
      with_reducible refine (HRR HBQ4.out).out.mono ?_
      rintro e w5 ⟨rfl, hb⟩
      have HBQ5 := kept (below_to hb HBQ4.out)
      have HB5 := kept (below_to hb HB4.out)
      have HS5 := kept (sev_below HS4.out hb)
      have HSQ5 := kept (sev_below HSQ4.out hb)
      clear hb y0 y1 y2 y3 y4 y5 y6
      have HST : Hid (∀ X, Below w5.heap.size w5 X → Sev X w.heap.size kd tx nx a1 n1 c1 a2 n2 c2 a3 n3 c3 a4 n4 c4 ∧ Sev X w3.heap.size kq tq xq p1 m1 d1 p2 m2 d2 p3 m3 d3 p4 m4 d4) := kept (fun X hX => ⟨sev_below HS5.out hX, sev_below HSQ5.out hX⟩)
      go_wp2_with fail
      refine wp_region_held_drew (S := (fun W' => Sev W' w.heap.size kd tx nx a1 n1 c1 a2 n2 c2 a3 n3 c3 a4 n4 c4 ∧ Sev W' w3.heap.size kq tq xq p1 m1 d1 p2 m2 d2 p3 m3 d3 p4 m4 d4)) (by kernel_rfl) ?_ (fun hHeld => ?_)
      · ((try dsimp only); (first | exact HST.out _ (Below.refl _ _) | exact HST.out _ (Below.refl _ _).drew | exact HST.out _ HX8.out | exact HST.out _ HX7.out | exact HST.out _ HX6.out))
      refine hand_take 0 (some 24) ?_ (by kernel_rfl) (by kernel_rfl) (by kernel_rfl) (by kernel_rfl) (by kernel_rfl) (fun _ _ _ h => h) ?_ (by assumption) ?_
      rotate_left
      · (intro o ho w hSw; (simp only [List.getElem?_toArray, List.getElem?_cons_succ, List.getElem?_cons_zero, Option.some.injEq] at ho); subst ho; (try dsimp only at hSw); go_simp; (first | done | with_reducible rfl))
      (try simp only [Act.put, List.setIfInBounds_toArray, List.set_cons_zero, List.set_cons_succ])
      refine hand_take 2 (some 26) ?_ (by kernel_rfl) (by kernel_rfl) (by kernel_rfl) (by kernel_rfl) (by kernel_rfl) (fun _ _ _ h => h) ?_ (by assumption) ?_
      rotate_left
      · (intro o ho w hSw; (simp only [List.getElem?_toArray, List.getElem?_cons_succ, List.getElem?_cons_zero, Option.some.injEq] at ho); subst ho; (try dsimp only at hSw); go_simp; (first | done | with_reducible rfl))
      (try simp only [Act.put, List.setIfInBounds_toArray, List.set_cons_zero, List.set_cons_succ])
      refine hand_ready 1 (by kernel_rfl) (by kernel_rfl) (fun o ho K hK => ?_)
      (simp only [List.getElem?_toArray, List.getElem?_cons_succ, List.getElem?_cons_zero, Option.some.injEq] at ho)
      subst ho
      go_simp
      ((go_at_call 16; (with_reducible refine (HPR HB5.out.drew).out.mono ?_); rintro e w6 ⟨rfl, h6⟩); have HX6 : Hid (Below w5.heap.size w5 w6) := kept ((Below.refl _ _).drew.trans h6); have HB6 := kept (below_to HX6.out HB5.out); clear h6)
      (try go_wp2_with fail)
      refine hK.out _ _ ?_ (fun hHeld => ?_)
      · ((try dsimp only); (first | exact HST.out _ (Below.refl _ _) | exact HST.out _ (Below.refl _ _).drew | exact HST.out _ HX8.out | exact HST.out _ HX7.out | exact HST.out _ HX6.out))
      clear hK K
      (try simp only [Act.put, List.setIfInBounds_toArray, List.set_cons_zero, List.set_cons_succ])
      refine hand_take 3 (some 27) ?_ (by kernel_rfl) (by kernel_rfl) (by kernel_rfl) (by kernel_rfl) (by kernel_rfl) (fun _ _ _ h => h) ?_ (by assumption) ?_
      rotate_left
      · (intro o ho w hSw; (simp only [List.getElem?_toArray, List.getElem?_cons_succ, List.getElem?_cons_zero, Option.some.injEq] at ho); subst ho; (try dsimp only at hSw); go_simp; (first | done | with_reducible rfl))
      (try simp only [Act.put, List.setIfInBounds_toArray, List.set_cons_zero, List.set_cons_succ])
      refine hand_take 4 (some 28) ?_ (by kernel_rfl) (by kernel_rfl) (by kernel_rfl) (by kernel_rfl) (by kernel_rfl) (fun _ _ _ h => h) ?_ (by assumption) ?_
      rotate_left
      · (intro o ho w hSw; (simp only [List.getElem?_toArray, List.getElem?_cons_succ, List.getElem?_cons_zero, Option.some.injEq] at ho); subst ho; (try dsimp only at hSw); go_simp; (first | done | with_reducible rfl))
      (try simp only [Act.put, List.setIfInBounds_toArray, List.set_cons_zero, List.set_cons_succ])
      refine hand_take 5 (some 29) ?_ (by kernel_rfl) (by kernel_rfl) (by kernel_rfl) (by kernel_rfl) (by kernel_rfl) (fun _ _ _ h => h) ?_ (by assumption) ?_
      rotate_left
      · (intro o ho w hSw; (simp only [List.getElem?_toArray, List.getElem?_cons_succ, List.getElem?_cons_zero, Option.some.injEq] at ho); subst ho; (try dsimp only at hSw); go_simp; (first | done | with_reducible rfl))
      (try simp only [Act.put, List.setIfInBounds_toArray, List.set_cons_zero, List.set_cons_succ])
      refine hand_take 7 (some 31) ?_ (by kernel_rfl) (by kernel_rfl) (by kernel_rfl) (by kernel_rfl) (by kernel_rfl) (fun _ _ _ h => h) ?_ (by assumption) ?_
      rotate_left
      · (intro o ho w hSw; (simp only [List.getElem?_toArray, List.getElem?_cons_succ, List.getElem?_cons_zero, Option.some.injEq] at ho); subst ho; (try dsimp only at hSw); go_simp; (first | done | with_reducible rfl))
      (try simp only [Act.put, List.setIfInBounds_toArray, List.set_cons_zero, List.set_cons_succ])
      refine hand_ready 6 (by kernel_rfl) (by kernel_rfl) (fun o ho K hK => ?_)
      (simp only [List.getElem?_toArray, List.getElem?_cons_succ, List.getElem?_cons_zero, Option.some.injEq] at ho)
      subst ho
      go_simp
      ((go_at_call 13; (with_reducible refine (HOF HB6.out).out.mono ?_); rintro e w7 ⟨lo, rfl, hlo, _, _, _, _, h7⟩); have HX7 : Hid (Below w5.heap.size w5 w7) := kept (below_to h7 HX6.out); have HLO := kept hlo; have HSA7 := HSA lo HLO.out (below_to HX7.out HBQ5.out); clear h7 hlo)
      (try go_wp2_with fail)
      refine hK.out _ _ ?_ (fun hHeld => ?_)
      · ((try dsimp only); (first | exact HST.out _ (Below.refl _ _) | exact HST.out _ (Below.refl _ _).drew | exact HST.out _ HX8.out | exact HST.out _ HX7.out | exact HST.out _ HX6.out))
      clear hK K
      (try simp only [Act.put, List.setIfInBounds_toArray, List.set_cons_zero, List.set_cons_succ])
      refine hand_ready 8 (by kernel_rfl) (by kernel_rfl) (fun o ho K hK => ?_)
      (simp only [List.getElem?_toArray, List.getElem?_cons_succ, List.getElem?_cons_zero, Option.some.injEq] at ho)
      subst ho
      go_simp
      ((go_at_call 17; (with_reducible refine HSA7.out.mono ?_); rintro e w8 ⟨rfl, h8⟩); have HX8 : Hid (Below w5.heap.size w5 w8) := kept (below_to h8 HX7.out); clear h8)
      (try go_wp2_with fail)
      refine hK.out _ _ ?_ (fun hHeld => ?_)
      · ((try dsimp only); (first | exact HST.out _ (Below.refl _ _) | exact HST.out _ (Below.refl _ _).drew | exact HST.out _ HX8.out | exact HST.out _ HX7.out | exact HST.out _ HX6.out))
      clear hK K
      (try simp only [Act.put, List.setIfInBounds_toArray, List.set_cons_zero, List.set_cons_succ])
      refine hand_take 9 (some 33) ?_ (by kernel_rfl) (by kernel_rfl) (by kernel_rfl) (by kernel_rfl) (by kernel_rfl) (fun _ _ _ h => h) ?_ (by assumption) ?_
      rotate_left
      · (intro o ho w hSw; (simp only [List.getElem?_toArray, List.getElem?_cons_succ, List.getElem?_cons_zero, Option.some.injEq] at ho); subst ho; (try dsimp only at hSw); go_simp; (first | done | with_reducible rfl))
      (try simp only [Act.put, List.setIfInBounds_toArray, List.set_cons_zero, List.set_cons_succ])
      refine hand_take 10 (some 34) ?_ (by kernel_rfl) (by kernel_rfl) (by kernel_rfl) (by kernel_rfl) (by kernel_rfl) (fun _ _ _ h => h) ?_ (by assumption) ?_
      rotate_left
      · (intro o ho w hSw; (simp only [List.getElem?_toArray, List.getElem?_cons_succ, List.getElem?_cons_zero, Option.some.injEq] at ho); subst ho; (try dsimp only at hSw); go_simp; (first | done | with_reducible rfl))
      (try simp only [Act.put, List.setIfInBounds_toArray, List.set_cons_zero, List.set_cons_succ])
      refine wpAnyH_done (by kernel_rfl) ?_ _
      have HB8 := kept (below_to HX8.out HB5.out)
      have HBQ8 := kept (below_to HX8.out HBQ5.out)
      go_wp2
      go_ret
      exact ⟨rfl, HB8.out⟩
end Go.Proofs.YtfgpkgenahlikaaDoor.pageCodes
