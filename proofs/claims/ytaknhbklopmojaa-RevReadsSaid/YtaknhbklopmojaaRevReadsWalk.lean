/-
  The law RevReads walked: for any bytes it returns true and writes nothing that was there.
-/
import Derived.Test.YtaknhbklopmojaaVf
namespace Go.Proofs.Ytaknhbklopmojaa.revReads
open Go.ChangeShapes Go.WideShapes Go.ChangeAt Go.RowKit
set_option linter.unusedVariables false
set_option linter.unusedSimpArgs false
theorem walk (w : World) (A : Option Addr) (n c : Nat) (xs : List UInt8) (hr : Rd w A n xs) (hnc : n ≤ c) (hl : n ≤ 140737488351232) :
    Calls Try.prog 4 #[.slice A n c] w fun e w' => e = .returned (.bool true) ∧ Below w.heap.size w w' := by
  have HL := fun w => kept (lives_r w)
  have HX := kept hr
  clear hr hnc
  by_cases h100 : 100 < n
  · have g : (100 : Int) < (n : Int) := by omega
    go_enter Try.func4, Try.ntmps4
    go_wp2_with fail
    with_reducible refine (HL _).out.mono ?_
    rintro e w1 ⟨rfl, hb⟩
    have HB1 := kept hb
    clear hb
    go_wp2_with fail
    with_reducible refine (HL _).out.mono ?_
    rintro e w2 ⟨rfl, hb⟩
    have HB2 := kept (bel_to hb HB1.out)
    clear hb
    go_wp2
    go_ret
    exact ⟨by first | rfl | simp, HB2.out⟩
  · have g : decide ((100 : Int) < (n : Int)) = false := by simp; omega
    have hn : n ≤ 100 := by omega
    clear h100 hl
    go_enter Try.func4, Try.ntmps4
    go_wp2_with fail
    with_reducible refine (HL _).out.mono ?_
    rintro e w1 ⟨rfl, hb⟩
    have HB1 := kept hb
    have HX1 := kept (HX.out.below hb)
    have HTW := kept (twin_any A n c xs w1 HX1.out (by omega))
    clear hb
    go_wp2_with fail
    with_reducible refine HTW.out.mono ?_
    rintro e w2 ⟨A2, c2, rfl, hown, hb⟩
    have HB2 := kept (bel_to hb HB1.out)
    have HX2 := kept (HX1.out.below hb)
    have HY2 := kept (Rd.of_own hown)
    clear hown hb
    obtain ⟨M, S, t, er, hcase, hcall⟩ := dec_any A2 n c2 xs w2 HY2.out (by omega)
    have HD := kept hcall
    clear hcall
    go_wp2_with fail
    with_reducible refine HD.out.mono ?_
    rintro e w3 ⟨rfl, hb⟩
    have HT3 := kept (two_new w3 23 M S)
    have HX3 := kept ((HX2.out.below hb).alloc (.cells #[.int .i64 M, .int .i64 S] 23))
    have HY3 := kept ((HY2.out.below hb).alloc (.cells #[.int .i64 M, .int .i64 S] 23))
    have HB3 := kept ((bel_to hb HB2.out).alloc (bel_to hb HB2.out).size (.cells #[.int .i64 M, .int .i64 S] 23))
    clear hb
    obtain ⟨M', S', t', ok, hcase', hcall⟩ := refDec_any A n c xs _ HX3.out (by omega)
    have HF := kept hcall
    clear hcall
    have hall : M' = M ∧ S' = S ∧ t' = t ∧ ((ok = true ∧ er = 0) ∨ (ok = false ∧ er = 4)) := by
      rcases hcase with ⟨e1, m, s, rfl, rfl, g1, g2, g3, e⟩ | ⟨e1, rfl, rfl, rfl, hno⟩
      · rcases hcase' with ⟨e2, m', s', rfl, rfl, k1, k2, k3, e'⟩ | ⟨e2, _, _, _, hno'⟩
        · rw [e] at e'
          obtain ⟨rfl, rfl, rfl⟩ := revB_inj (by omega) (by omega) (by omega) (by omega) e'
          exact ⟨rfl, rfl, rfl, .inl ⟨e2, e1⟩⟩
        · exact absurd e (hno' m s t g1 g2 g3)
      · rcases hcase' with ⟨e2, m', s', rfl, rfl, k1, k2, k3, e'⟩ | ⟨e2, rfl, rfl, rfl, _⟩
        · exact absurd e' (hno m' s' t' k1 k2 k3)
        · exact ⟨rfl, rfl, rfl, .inr ⟨e2, e1⟩⟩
    obtain ⟨rfl, rfl, rfl, hee⟩ := hall
    clear hcase hcase'
    go_wp2_with fail
    with_reducible refine HF.out.mono ?_
    rintro e w4 ⟨rfl, hb⟩
    obtain ⟨e0, e1⟩ := (HT3.out.keeps (Keeps.of_below hb)).keeps (Keeps.alloc _ (.cells #[.int .i64 M', .int .i64 S'] 23))
    have HB4 := kept ((bel_to hb HB3.out).alloc (bel_to hb HB3.out).size (.cells #[.int .i64 M', .int .i64 S'] 23))
    have HSM := kept (same_any _ _ _ _ c2 c _ _ _ ((HY3.out.below hb).alloc (.cells #[.int .i64 M', .int .i64 S'] 23)) ((HX3.out.below hb).alloc (.cells #[.int .i64 M', .int .i64 S'] 23)) true (by simp))
    clear hb
    rcases hee with ⟨rfl, rfl⟩ | ⟨rfl, rfl⟩
    all_goals
      go_wp2_with (first | (go_at_call 13; (with_reducible refine (HSM.out).mono ?_); rintro e w6 ⟨rfl, rfl⟩))
      go_ret
      exact ⟨by first | rfl | simp, HB4.out⟩
end Go.Proofs.Ytaknhbklopmojaa.revReads
