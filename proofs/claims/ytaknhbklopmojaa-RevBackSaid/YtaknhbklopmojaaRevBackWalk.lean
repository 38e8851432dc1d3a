/-
  The law RevBack walked: for any revision it returns true and writes nothing that was there.
-/
import Derived.Test.YtaknhbklopmojaaVf
namespace Go.Proofs.Ytaknhbklopmojaa.revBack
open Go.ChangeShapes Go.WideShapes Go.ChangeAt Go.RowKit
set_option linter.unusedVariables false
set_option linter.unusedSimpArgs false
theorem walk (w : World) (M S : Int) (bm : -9223372036854775808 ≤ M ∧ M ≤ 9223372036854775807) (bs : -9223372036854775808 ≤ S ∧ S ≤ 9223372036854775807) (t : Bool) :
    Calls Try.prog 6 #[.agg #[.int .i64 M, .int .i64 S], .bool t] w fun e w' => e = .returned (.bool true) ∧ Below w.heap.size w w' := by
  clear bm bs
  have HL := fun w => kept (lives_r w)
  have HB0 := kept ((Below.refl w.heap.size w).alloc (Nat.le_refl _) (.cells #[.int .i64 M, .int .i64 S] 23))
  have HT0 := kept (two_new w 23 M S)
  by_cases hR : rightR M S = true
  · obtain ⟨m, s, rfl, rfl, h1, h2, h3⟩ := rightR_nat hR
    have HE := fun W => kept (enc_yes m s t W h1 h2 h3)
    have HD : ∀ (A : Option Addr) (c : Nat) (W : World), Rd W A (revN t) (revB m s (signB t)) → Hid (Calls Try.prog 16 #[.slice A (revN t) c] W fun e w' => e = .returned (.tuple #[.agg #[.int .i64 (m : Int), .int .i64 (s : Int)], .bool t, .int .i64 0]) ∧ Below W.heap.size W w') := by
      intro A c W hr
      obtain ⟨M', S', t', er, hc, hcall⟩ := dec_any A (revN t) c _ W hr (by cases t <;> simp [revN])
      rcases hc with ⟨rfl, m', s', rfl, rfl, g1, g2, g3, e⟩ | ⟨_, _, _, _, hno⟩
      · obtain ⟨rfl, rfl, rfl⟩ := revB_inj (by omega) (by omega) (by omega) (by omega) e
        exact hcall
      · exact absurd rfl (hno m s t h1 h2 h3)
    clear hR h1 h2 h3
    go_enter Try.func6, Try.ntmps6
    go_wp2_with fail
    with_reducible refine (HL _).out.mono ?_
    rintro e w1 ⟨rfl, hb⟩
    obtain ⟨e0, e1⟩ := HT0.out.keeps (Keeps.of_below hb)
    have HT1 := kept (HT0.out.keeps (Keeps.of_below hb))
    have HB1 := kept (bel_to hb HB0.out)
    clear hb
    go_wp2_with fail
    with_reducible refine (HE _).out.mono ?_
    rintro e w2 ⟨A2, c2, rfl, hown, hb⟩
    have HT2 := kept (HT1.out.keeps (Keeps.of_below hb))
    have HB2 := kept (bel_to hb HB1.out)
    have HDD := HD _ c2 w2 (Rd.of_own hown)
    clear hown hb
    go_wp2_with fail
    with_reducible refine HDD.out.mono ?_
    rintro e w3 ⟨rfl, hb⟩
    obtain ⟨e0, e1⟩ := (HT2.out.keeps (Keeps.of_below hb)).keeps (Keeps.alloc _ (.cells #[.int .i64 (m : Int), .int .i64 (s : Int)] 23))
    have HB3 := kept ((bel_to hb HB2.out).alloc (bel_to hb HB2.out).size (.cells #[.int .i64 (m : Int), .int .i64 (s : Int)] 23))
    clear hb
    go_wp2
    go_ret
    exact ⟨by first | rfl | simp, HB3.out⟩
  · have hR : rightR M S = false := by simpa using hR
    have HR1 := fun W => kept (right_r M S W)
    rw [hR] at HR1
    have HE := fun W => kept (enc_no M S t W hR)
    clear hR
    go_enter Try.func6, Try.ntmps6
    go_wp2_with fail
    with_reducible refine (HL _).out.mono ?_
    rintro e w1 ⟨rfl, hb⟩
    obtain ⟨e0, e1⟩ := HT0.out.keeps (Keeps.of_below hb)
    have HT1 := kept (HT0.out.keeps (Keeps.of_below hb))
    have HB1 := kept (bel_to hb HB0.out)
    clear hb
    go_wp2_with fail
    with_reducible refine (HE _).out.mono ?_
    rintro e w2 ⟨rfl, hb⟩
    obtain ⟨e0, e1⟩ := HT1.out.keeps (Keeps.of_below hb)
    have HB2 := kept (bel_to hb HB1.out)
    clear hb
    go_wp2_with fail
    with_reducible refine (HR1 _).out.mono ?_
    rintro e w3 ⟨rfl, hb⟩
    have HB3 := kept (bel_to hb HB2.out)
    clear hb
    go_wp2
    go_ret
    exact ⟨by first | rfl | simp, HB3.out⟩
end Go.Proofs.Ytaknhbklopmojaa.revBack
