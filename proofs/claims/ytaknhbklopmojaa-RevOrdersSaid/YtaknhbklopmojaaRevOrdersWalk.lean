/-
  The law RevOrders walked: for any two revisions it returns true and writes nothing that was there.
-/
import Derived.Test.YtaknhbklopmojaaVf
namespace Go.Proofs.Ytaknhbklopmojaa.revOrders
open Go.ChangeShapes Go.WideShapes Go.ChangeAt Go.RowKit
set_option linter.unusedVariables false
set_option linter.unusedSimpArgs false
/-- What Encode answers, in one word. -/
theorem enc_cases (M S : Int) (t : Bool) : (∃ m s : Nat, Hid (M = (m : Int)) ∧ Hid (S = (s : Int)) ∧ m ≤ 4611686018427387904 ∧ s ≤ 4611686018427387904 ∧ Hid (∀ w, Calls Try.prog 10 #[.agg #[.int .i64 M, .int .i64 S], .bool t] w fun e w' => ∃ A c, e = .returned (.tuple #[.slice A (revN t) c, .int .i64 0]) ∧ w'.ownsRow w.heap.size 5 1 (.slice A (revN t) c) (revN t) (cellsOf (revB m s (signB t))) ∧ Below w.heap.size w w')) ∨
    Hid (∀ w, Calls Try.prog 10 #[.agg #[.int .i64 M, .int .i64 S], .bool t] w fun e w' => e = .returned (.tuple #[.slice none 0 0, .int .i64 2]) ∧ Below w.heap.size w w') := by
  by_cases hR : rightR M S = true
  · obtain ⟨m, s, rfl, rfl, h1, h2, h3⟩ := rightR_nat hR
    exact .inl ⟨m, s, kept rfl, kept rfl, h2, h3, kept fun w => enc_yes m s t w h1 h2 h3⟩
  · exact .inr (kept fun w => enc_no M S t w (by simpa using hR))
theorem ordR_cases (M S M' S' : Int) : (ordR M S M' S' = -1 ∧ ordR M' S' M S = 1) ∨ (ordR M S M' S' = 0 ∧ ordR M' S' M S = 0) ∨ (ordR M S M' S' = 1 ∧ ordR M' S' M S = -1) := by
  unfold ordR
  by_cases h1 : M < M'
  · simp [h1]; omega
  · by_cases h2 : M' < M
    · simp [h1, h2]
    · by_cases h3 : S < S'
      · simp [h1, h2, h3]; omega
      · by_cases h4 : S' < S <;> simp [h1, h2, h3, h4]
set_option maxHeartbeats 4000000 in
theorem walk (w : World) (M S : Int) (bm : -9223372036854775808 ≤ M ∧ M ≤ 9223372036854775807) (bs : -9223372036854775808 ≤ S ∧ S ≤ 9223372036854775807) (M' S' : Int) (bm' : -9223372036854775808 ≤ M' ∧ M' ≤ 9223372036854775807) (bs' : -9223372036854775808 ≤ S' ∧ S' ≤ 9223372036854775807) (t t' : Bool) :
    Calls Try.prog 5 #[.agg #[.int .i64 M, .int .i64 S], .agg #[.int .i64 M', .int .i64 S'], .bool t, .bool t'] w fun e w' => e = .returned (.bool true) ∧ Below w.heap.size w w' := by
  clear bm bs bm' bs'
  have HL := fun w => kept (lives_r w)
  have HC := fun w => kept (cmp_rev M S M' S' w)
  have HA := fun w => kept (refAhead_any M S M' S' w)
  have HA' := fun w => kept (refAhead_any M' S' M S w)
  have ht1 := (two_new w 23 M S).keeps (Keeps.alloc _ (.cells #[.int .i64 M', .int .i64 S'] 23))
  have ht2 := two_new (w.alloc (.cells #[.int .i64 M, .int .i64 S] 23)) 23 M' S'
  rw [show (w.alloc (.cells #[.int .i64 M, .int .i64 S] 23)).heap.size = w.heap.size + 1 by simp] at ht2
  have hb0 := ((Below.refl w.heap.size w).alloc (Nat.le_refl _) (.cells #[.int .i64 M, .int .i64 S] 23)).alloc (by simp) (.cells #[.int .i64 M', .int .i64 S'] 23)
  have HT0 := kept (And.intro ht1 ht2)
  have HB0 := kept hb0
  clear ht1 ht2 hb0
  have HE1 := enc_cases M S t
  have HE2 := enc_cases M' S' t'
  have HOB : Hid (∀ m s m' s' : Nat, M = (m : Int) → S = (s : Int) → M' = (m' : Int) → S' = (s' : Int) → m ≤ 4611686018427387904 → s ≤ 4611686018427387904 → m' ≤ 4611686018427387904 → s' ≤ 4611686018427387904 → ordR M S M' S' ≠ 0 → ordB (revB m s (signB t)) (revB m' s' (signB t')) = ordR M S M' S') := by
    rintro m s m' s' rfl rfl rfl rfl g1 g2 g3 g4 h
    rw [ordB_rev _ _ (by omega) (by omega) (by omega) (by omega), if_neg]
    rintro ⟨rfl, rfl⟩
    exact h (by simp [ordR])
  have hoc := ordR_cases M S M' S'
  generalize ordR M S M' S' = c at HC HA HOB hoc
  generalize ordR M' S' M S = c' at HA' hoc
  rcases hoc with ⟨rfl, rfl⟩ | ⟨rfl, rfl⟩ | ⟨rfl, rfl⟩
  all_goals
    simp only [show decide ((-1 : Int) < 0) = true from rfl, show decide ((0 : Int) < 0) = false from rfl, show decide ((1 : Int) < 0) = false from rfl] at HA HA'
    go_enter Try.func5, Try.ntmps5
    go_wp2_with fail
    with_reducible refine (HL _).out.mono ?_
    rintro e w1 ⟨rfl, hb⟩
    obtain ⟨⟨e0, e1⟩, ⟨k0, k1⟩⟩ := And.intro (HT0.out.1.keeps (Keeps.of_below hb)) (HT0.out.2.keeps (Keeps.of_below hb))
    have HT1 := kept (And.intro (HT0.out.1.keeps (Keeps.of_below hb)) (HT0.out.2.keeps (Keeps.of_below hb)))
    have HB1 := kept (bel_to hb HB0.out)
    clear hb
    go_wp2_with fail
    with_reducible refine (HC _).out.mono ?_
    rintro e w2 ⟨rfl, hb⟩
    obtain ⟨⟨e0, e1⟩, ⟨k0, k1⟩⟩ := And.intro (HT1.out.1.keeps (Keeps.of_below hb)) (HT1.out.2.keeps (Keeps.of_below hb))
    have HT2 := kept (And.intro (HT1.out.1.keeps (Keeps.of_below hb)) (HT1.out.2.keeps (Keeps.of_below hb)))
    have HB2 := kept (bel_to hb HB1.out)
    clear hb
    go_wp2_with fail
    with_reducible refine (HA _).out.mono ?_
    rintro e w3 ⟨rfl, hb⟩
    obtain ⟨⟨e0, e1⟩, ⟨k0, k1⟩⟩ := And.intro (HT2.out.1.keeps (Keeps.of_below hb)) (HT2.out.2.keeps (Keeps.of_below hb))
    have HT3 := kept (And.intro (HT2.out.1.keeps (Keeps.of_below hb)) (HT2.out.2.keeps (Keeps.of_below hb)))
    have HB3 := kept (bel_to hb HB2.out)
    clear hb
    go_wp2_with fail
    with_reducible refine (HA' _).out.mono ?_
    rintro e w4 ⟨rfl, hb⟩
    obtain ⟨⟨e0, e1⟩, ⟨k0, k1⟩⟩ := And.intro (HT3.out.1.keeps (Keeps.of_below hb)) (HT3.out.2.keeps (Keeps.of_below hb))
    have HT4 := kept (And.intro (HT3.out.1.keeps (Keeps.of_below hb)) (HT3.out.2.keeps (Keeps.of_below hb)))
    have HB4 := kept (bel_to hb HB3.out)
    clear hb
    rcases HE1 with ⟨m, s, hm1, hs1, gm, gs, HE⟩ | HE
    · go_wp2_with fail
      with_reducible refine (HE.out _).mono ?_
      rintro e w5 ⟨A5, c5, rfl, hown, hb⟩
      obtain ⟨k0, k1⟩ := HT4.out.2.keeps (Keeps.of_below hb)
      have HB5 := kept (bel_to hb HB4.out)
      have HX5 := kept (Rd.of_own hown)
      clear hown hb
      rcases HE2 with ⟨m', s', hm2, hs2, gm', gs', HE'⟩ | HE'
      · go_wp2_with fail
        with_reducible refine (HE'.out _).mono ?_
        rintro e w6 ⟨A6, c6, rfl, hown, hb⟩
        have HB6 := kept (bel_to hb HB5.out)
        have hcm := compare_any _ _ _ _ c5 c6 _ _ w6 (HX5.out.below hb) (Rd.of_own hown)
        have hob := HOB.out m s m' s' hm1.out hs1.out hm2.out hs2.out gm gs gm' gs'
        generalize ordB (revB m s (signB t)) (revB m' s' (signB t')) = o at hcm hob
        have HCM := kept hcm
        have hoo : (o == 0) = (o == 0) := rfl
        clear hown hb hcm hm1 hs1 hm2 hs2
        simp at hob
        (try subst hob)
        go_wp2_with (first | (go_at_call 20; (with_reducible refine (HCM.out).mono ?_); rintro e w7 ⟨rfl, rfl⟩))
        go_ret
        exact ⟨by first | rfl | simp, HB6.out⟩
      · go_wp2_with fail
        with_reducible refine (HE'.out _).mono ?_
        rintro e w6 ⟨rfl, hb⟩
        have HB6 := kept (bel_to hb HB5.out)
        clear hb
        go_wp2
        go_ret
        exact ⟨by first | rfl | simp, HB6.out⟩
    · go_wp2_with fail
      with_reducible refine (HE.out _).mono ?_
      rintro e w5 ⟨rfl, hb⟩
      obtain ⟨k0, k1⟩ := HT4.out.2.keeps (Keeps.of_below hb)
      have HB5 := kept (bel_to hb HB4.out)
      clear hb
      rcases HE2 with ⟨m', s', hm2, hs2, gm', gs', HE'⟩ | HE'
      · clear hm2 hs2
        go_wp2_with fail
        with_reducible refine (HE'.out _).mono ?_
        rintro e w6 ⟨A6, c6, rfl, hown, hb⟩
        have HB6 := kept (bel_to hb HB5.out)
        clear hb hown
        go_wp2
        go_ret
        exact ⟨by first | rfl | simp, HB6.out⟩
      · go_wp2_with fail
        with_reducible refine (HE'.out _).mono ?_
        rintro e w6 ⟨rfl, hb⟩
        have HB6 := kept (bel_to hb HB5.out)
        clear hb
        go_wp2
        go_ret
        exact ⟨by first | rfl | simp, HB6.out⟩
end Go.Proofs.Ytaknhbklopmojaa.revOrders
