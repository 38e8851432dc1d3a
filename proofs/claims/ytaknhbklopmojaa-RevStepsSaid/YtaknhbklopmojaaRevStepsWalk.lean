/-
  The law RevSteps walked: for any two Mains it returns true and writes nothing that was there.
-/
import Derived.Test.YtaknhbklopmojaaVf
namespace Go.Proofs.Ytaknhbklopmojaa.revSteps
open Go.ChangeShapes Go.WideShapes Go.ChangeAt Go.RowKit
set_option linter.unusedVariables false
set_option linter.unusedSimpArgs false
theorem lowB_hi (M : Int) : ordB (lowB M) (lowB 4611686018427387905) ≤ 0 := by
  by_cases h : M ≤ 4611686018427387905
  · exact (lowB_le h).1
  · have e : lowB M = lowB 4611686018427387905 := by
      simp [lowB, show ¬ M < 1 by omega, show 4611686018427387904 < M by omega]
    rw [e, ordB_self]
    omega
set_option maxHeartbeats 2000000 in
theorem walk1 (w : World) (a b : Int) (h : a < b) :
    Calls Try.prog 8 #[.int .i64 a, .int .i64 b] w fun e w' => e = .returned (.bool true) ∧ Below w.heap.size w w' := by
  have HL := fun w => kept (lives_r w)
  have HL1 := fun w => kept (low_any a w)
  have HL2 := fun w => kept (low_any b w)
  have HL3 := fun w => kept (low_any 4611686018427387905 w)
  have hle1 := lowB_le (show a ≤ b by omega)
  have hle2 := lowB_hi b
  obtain ⟨q1, hq1⟩ : ∃ q, ordB (lowB a) (lowB b) = q := ⟨_, rfl⟩
  obtain ⟨q2, hq2⟩ : ∃ q, ordB (lowB b) (lowB 4611686018427387905) = q := ⟨_, rfl⟩
  rw [hq1] at hle1
  rw [hq2] at hle2
  have HQ1 := kept hq1
  have HQ2 := kept hq2
  have HLE := kept hle1.2
  have hle1 := hle1.1
  clear hq1 hq2
  go_enter Try.func8, Try.ntmps8
  go_wp2_with fail
  with_reducible refine (HL _).out.mono ?_
  rintro e w1 ⟨rfl, hb⟩
  have HB1 := kept hb
  clear hb
  go_wp2_with fail
  with_reducible refine (HL1 _).out.mono ?_
  rintro e w2 ⟨A2, n2, c2, rfl, hr2, hc2, hn2, hb⟩
  have HX2 := kept hr2
  have HB2 := kept (bel_to hb HB1.out)
  clear hr2 hb
  go_wp2_with fail
  with_reducible refine (HL2 _).out.mono ?_
  rintro e w3 ⟨A3, n3, c3, rfl, hr3, hc3, hn3, hb⟩
  have HX3 := kept (HX2.out.below hb)
  have HY3 := kept hr3
  have HB3 := kept (bel_to hb HB2.out)
  have hcm := compare_any _ _ _ _ c2 c3 _ _ w3 (HX2.out.below hb) hr3
  rw [HQ1.out] at hcm
  have HC1 := kept hcm
  clear hr3 hb hcm
  go_wp2_with (go_at_call 20; (with_reducible refine HC1.out.mono ?_); rintro e w' ⟨rfl, rfl⟩)
  with_reducible refine (HL3 _).out.mono ?_
  rintro e w4 ⟨A4, n4, c4, rfl, hr4, hc4, hn4, hb⟩
  have HB4 := kept (bel_to hb HB3.out)
  have hcm := compare_any _ _ _ _ c3 c4 _ _ w4 (HY3.out.below hb) hr4
  rw [HQ2.out] at hcm
  have HC2 := kept hcm
  have HSM := kept (same_any _ _ _ _ c2 c3 _ _ w4 (HX3.out.below hb) (HY3.out.below hb) _ rfl)
  clear hr4 hb hcm
  have hsm : 1 ≤ a → b ≤ 4611686018427387904 → decide (lowB a = lowB b) = false := fun h1 h2 => by
    rw [decide_eq_false_iff_not]
    intro e
    have := (HLE.out h1 h2).1 (by rw [← HQ1.out, e, ordB_self])
    omega
  have he : (a == b) = false := by simp; omega
  generalize decide (lowB a = lowB b) = d at HSM hsm
  go_wp2_with (first | (go_at_call 20; (with_reducible refine (HC2.out).mono ?_); rintro e w' ⟨rfl, rfl⟩) | (go_at_call 13; (with_reducible refine (HSM.out).mono ?_); rintro e w' ⟨rfl, rfl⟩))
  all_goals
    go_ret
    exact ⟨by first | rfl | (simp; done) | (simp [hsm (by omega) (by omega)]; done), HB4.out⟩
set_option maxHeartbeats 2000000 in
theorem walk2 (w : World) (a b : Int) (h : b < a) :
    Calls Try.prog 8 #[.int .i64 a, .int .i64 b] w fun e w' => e = .returned (.bool true) ∧ Below w.heap.size w w' := by
  have HL := fun w => kept (lives_r w)
  have HL1 := fun w => kept (low_any b w)
  have HL2 := fun w => kept (low_any a w)
  have HL3 := fun w => kept (low_any 4611686018427387905 w)
  have hle1 := lowB_le (show b ≤ a by omega)
  have hle2 := lowB_hi a
  obtain ⟨q1, hq1⟩ : ∃ q, ordB (lowB b) (lowB a) = q := ⟨_, rfl⟩
  obtain ⟨q2, hq2⟩ : ∃ q, ordB (lowB a) (lowB 4611686018427387905) = q := ⟨_, rfl⟩
  rw [hq1] at hle1
  rw [hq2] at hle2
  have HQ1 := kept hq1
  have HQ2 := kept hq2
  have HLE := kept hle1.2
  have hle1 := hle1.1
  clear hq1 hq2
  go_enter Try.func8, Try.ntmps8
  go_wp2_with fail
  with_reducible refine (HL _).out.mono ?_
  rintro e w1 ⟨rfl, hb⟩
  have HB1 := kept hb
  clear hb
  go_wp2_with fail
  with_reducible refine (HL1 _).out.mono ?_
  rintro e w2 ⟨A2, n2, c2, rfl, hr2, hc2, hn2, hb⟩
  have HX2 := kept hr2
  have HB2 := kept (bel_to hb HB1.out)
  clear hr2 hb
  go_wp2_with fail
  with_reducible refine (HL2 _).out.mono ?_
  rintro e w3 ⟨A3, n3, c3, rfl, hr3, hc3, hn3, hb⟩
  have HX3 := kept (HX2.out.below hb)
  have HY3 := kept hr3
  have HB3 := kept (bel_to hb HB2.out)
  have hcm := compare_any _ _ _ _ c2 c3 _ _ w3 (HX2.out.below hb) hr3
  rw [HQ1.out] at hcm
  have HC1 := kept hcm
  clear hr3 hb hcm
  go_wp2_with (go_at_call 20; (with_reducible refine HC1.out.mono ?_); rintro e w' ⟨rfl, rfl⟩)
  with_reducible refine (HL3 _).out.mono ?_
  rintro e w4 ⟨A4, n4, c4, rfl, hr4, hc4, hn4, hb⟩
  have HB4 := kept (bel_to hb HB3.out)
  have hcm := compare_any _ _ _ _ c3 c4 _ _ w4 (HY3.out.below hb) hr4
  rw [HQ2.out] at hcm
  have HC2 := kept hcm
  have HSM := kept (same_any _ _ _ _ c2 c3 _ _ w4 (HX3.out.below hb) (HY3.out.below hb) _ rfl)
  clear hr4 hb hcm
  have hsm : 1 ≤ b → a ≤ 4611686018427387904 → decide (lowB b = lowB a) = false := fun h1 h2 => by
    rw [decide_eq_false_iff_not]
    intro e
    have := (HLE.out h1 h2).1 (by rw [← HQ1.out, e, ordB_self])
    omega
  have he : (a == b) = false := by simp; omega
  generalize decide (lowB b = lowB a) = d at HSM hsm
  go_wp2_with (first | (go_at_call 20; (with_reducible refine (HC2.out).mono ?_); rintro e w' ⟨rfl, rfl⟩) | (go_at_call 13; (with_reducible refine (HSM.out).mono ?_); rintro e w' ⟨rfl, rfl⟩))
  all_goals
    go_ret
    exact ⟨by first | rfl | (simp; done) | (simp [hsm (by omega) (by omega)]; done), HB4.out⟩
set_option maxHeartbeats 2000000 in
theorem walk3 (w : World) (a : Int) :
    Calls Try.prog 8 #[.int .i64 a, .int .i64 a] w fun e w' => e = .returned (.bool true) ∧ Below w.heap.size w w' := by
  have HL := fun w => kept (lives_r w)
  have HL1 := fun w => kept (low_any a w)
  have HL2 := fun w => kept (low_any a w)
  have HL3 := fun w => kept (low_any 4611686018427387905 w)
  have hle1 := lowB_le (show a ≤ a by omega)
  have hle2 := lowB_hi a
  obtain ⟨q1, hq1⟩ : ∃ q, ordB (lowB a) (lowB a) = q := ⟨_, rfl⟩
  obtain ⟨q2, hq2⟩ : ∃ q, ordB (lowB a) (lowB 4611686018427387905) = q := ⟨_, rfl⟩
  rw [hq1] at hle1
  rw [hq2] at hle2
  have HQ1 := kept hq1
  have HQ2 := kept hq2
  have HLE := kept hle1.2
  have hle1 := hle1.1
  clear hq1 hq2
  go_enter Try.func8, Try.ntmps8
  go_wp2_with fail
  with_reducible refine (HL _).out.mono ?_
  rintro e w1 ⟨rfl, hb⟩
  have HB1 := kept hb
  clear hb
  go_wp2_with fail
  with_reducible refine (HL1 _).out.mono ?_
  rintro e w2 ⟨A2, n2, c2, rfl, hr2, hc2, hn2, hb⟩
  have HX2 := kept hr2
  have HB2 := kept (bel_to hb HB1.out)
  clear hr2 hb
  go_wp2_with fail
  with_reducible refine (HL2 _).out.mono ?_
  rintro e w3 ⟨A3, n3, c3, rfl, hr3, hc3, hn3, hb⟩
  have HX3 := kept (HX2.out.below hb)
  have HY3 := kept hr3
  have HB3 := kept (bel_to hb HB2.out)
  have hcm := compare_any _ _ _ _ c2 c3 _ _ w3 (HX2.out.below hb) hr3
  rw [HQ1.out] at hcm
  have HC1 := kept hcm
  clear hr3 hb hcm
  go_wp2_with (go_at_call 20; (with_reducible refine HC1.out.mono ?_); rintro e w' ⟨rfl, rfl⟩)
  with_reducible refine (HL3 _).out.mono ?_
  rintro e w4 ⟨A4, n4, c4, rfl, hr4, hc4, hn4, hb⟩
  have HB4 := kept (bel_to hb HB3.out)
  have hcm := compare_any _ _ _ _ c3 c4 _ _ w4 (HY3.out.below hb) hr4
  rw [HQ2.out] at hcm
  have HC2 := kept hcm
  have HSM := kept (same_any _ _ _ _ c2 c3 _ _ w4 (HX3.out.below hb) (HY3.out.below hb) _ rfl)
  clear hr4 hb hcm
  simp only [decide_true] at HSM
  go_wp2_with (first | (go_at_call 20; (with_reducible refine (HC2.out).mono ?_); rintro e w' ⟨rfl, rfl⟩) | (go_at_call 13; (with_reducible refine (HSM.out).mono ?_); rintro e w' ⟨rfl, rfl⟩))
  all_goals
    go_ret
    exact ⟨by first | rfl | (simp; done), HB4.out⟩
theorem walk (w : World) (a : Int) (wa : (Lit.int .i64 a).wf = true) (b : Int) (wb : (Lit.int .i64 b).wf = true) :
    Calls Try.prog 8 #[.int .i64 a, .int .i64 b] w fun e w' => e = .returned (.bool true) ∧ Below w.heap.size w w' := by
  rcases Int.lt_trichotomy a b with h | rfl | h
  · exact walk1 w a b h
  · exact walk3 w a
  · exact walk2 w a b h
end Go.Proofs.Ytaknhbklopmojaa.revSteps
