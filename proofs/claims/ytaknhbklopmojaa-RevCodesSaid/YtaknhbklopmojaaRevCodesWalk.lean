/-
  The law RevCodes walked: for any revision it returns true and writes nothing that was there.
-/
import Derived.Test.YtaknhbklopmojaaVf
namespace Go.Proofs.Ytaknhbklopmojaa.revCodes
open Go.ChangeShapes Go.WideShapes Go.ChangeAt Go.RowKit
set_option linter.unusedVariables false
set_option linter.unusedSimpArgs false
theorem walk (w : World) (M S : Int) (bm : -9223372036854775808 ≤ M ∧ M ≤ 9223372036854775807) (bs : -9223372036854775808 ≤ S ∧ S ≤ 9223372036854775807) (t : Bool) :
    Calls Try.prog 3 #[.agg #[.int .i64 M, .int .i64 S], .bool t] w fun e w' => e = .returned (.bool true) ∧ Below w.heap.size w w' := by
  clear bm bs
  have HL := fun w => kept (lives_r w)
  have HB0 := kept ((Below.refl w.heap.size w).alloc (Nat.le_refl _) (.cells #[.int .i64 M, .int .i64 S] 23))
  have HT0 := kept (two_new w 23 M S)
  by_cases hR : rightR M S = true
  · have HR1 := fun W => kept (right_r M S W)
    have HR2 := fun W => kept (refRight_r M S W)
    rw [hR] at HR1 HR2
    obtain ⟨m, s, rfl, rfl, h1, h2, h3⟩ := rightR_nat hR
    have HE := fun W => kept (enc_yes m s t W h1 h2 h3)
    have HF := fun W => kept (refEnc_any m s t W h2 h3)
    clear hR h1 h2 h3
    go_enter Try.func3, Try.ntmps3
    go_wp2_with fail
    with_reducible refine (HL _).out.mono ?_
    rintro e w1 ⟨rfl, hb⟩
    obtain ⟨e0, e1⟩ := HT0.out.keeps (Keeps.of_below hb)
    have HT1 := kept (HT0.out.keeps (Keeps.of_below hb))
    have HB1 := kept (bel_to hb HB0.out)
    clear hb
    go_wp2_with fail
    with_reducible refine (HE _).out.mono ?_
    rintro e w2 ⟨A2, c2, rfl, hown, hb⟩
    obtain ⟨e0, e1⟩ := HT1.out.keeps (Keeps.of_below hb)
    have HT2 := kept (HT1.out.keeps (Keeps.of_below hb))
    have HB2 := kept (bel_to hb HB1.out)
    have HX2 := kept (Rd.of_own hown)
    clear hown hb
    go_wp2_with fail
    with_reducible refine (HR2 _).out.mono ?_
    rintro e w3 ⟨rfl, hb⟩
    obtain ⟨e0, e1⟩ := HT2.out.keeps (Keeps.of_below hb)
    have HT3 := kept (HT2.out.keeps (Keeps.of_below hb))
    have HB3 := kept (bel_to hb HB2.out)
    have HX3 := kept (HX2.out.below hb)
    clear hb
    go_wp2_with fail
    with_reducible refine (HR1 _).out.mono ?_
    rintro e w4 ⟨rfl, hb⟩
    obtain ⟨e0, e1⟩ := HT3.out.keeps (Keeps.of_below hb)
    have HB4 := kept (bel_to hb HB3.out)
    have HX4 := kept (HX3.out.below hb)
    clear hb
    go_wp2_with fail
    with_reducible refine (HF _).out.mono ?_
    rintro e w5 ⟨A5, c5, rfl, hown, hb⟩
    have HB5 := kept (bel_to hb HB4.out)
    have HSM := kept (same_any _ _ _ _ c2 c5 _ _ w5 (HX4.out.below hb) (Rd.of_own hown) true (by simp))
    clear hown hb
    go_wp2_with (first | (go_at_call 13; (with_reducible refine (HSM.out).mono ?_); rintro e w6 ⟨rfl, rfl⟩))
    go_ret
    exact ⟨by first | rfl | simp, HB5.out⟩
  · have hR : rightR M S = false := by simpa using hR
    have HR1 := fun W => kept (right_r M S W)
    have HR2 := fun W => kept (refRight_r M S W)
    rw [hR] at HR1 HR2
    have HE := fun W => kept (enc_no M S t W hR)
    clear hR
    go_enter Try.func3, Try.ntmps3
    go_wp2_with fail
    with_reducible refine (HL _).out.mono ?_
    rintro e w1 ⟨rfl, hb⟩
    obtain ⟨e0, e1⟩ := HT0.out.keeps (Keeps.of_below hb)
    have HT1 := kept (HT0.out.keeps (Keeps.of_below hb))
    have HB1 := kept (bel_to hb HB0.out)
    clear hb
    go_wp2_with fail
    with_reducible refine (HE _).out.mono ?_
    rintro e w2 ⟨rfl, hb⟩
    obtain ⟨e0, e1⟩ := HT1.out.keeps (Keeps.of_below hb)
    have HT2 := kept (HT1.out.keeps (Keeps.of_below hb))
    have HB2 := kept (bel_to hb HB1.out)
    clear hb
    go_wp2_with fail
    with_reducible refine (HR2 _).out.mono ?_
    rintro e w3 ⟨rfl, hb⟩
    obtain ⟨e0, e1⟩ := HT2.out.keeps (Keeps.of_below hb)
    have HB3 := kept (bel_to hb HB2.out)
    clear hb
    go_wp2_with fail
    with_reducible refine (HR1 _).out.mono ?_
    rintro e w4 ⟨rfl, hb⟩
    have HB4 := kept (bel_to hb HB3.out)
    clear hb
    go_wp2
    go_ret
    exact ⟨by first | rfl | simp, HB4.out⟩
end Go.Proofs.Ytaknhbklopmojaa.revCodes
