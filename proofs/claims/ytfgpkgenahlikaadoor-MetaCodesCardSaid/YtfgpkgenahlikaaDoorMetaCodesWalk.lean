/-
  The walk of the law MetaCodes.
-/
import Derived.Test.YtfgpkgenahlikaaDoorMv
namespace Go.Proofs.YtfgpkgenahlikaaDoor.metaCodes
open Go.ChangeShapes Go.WideShapes Go.ChangeAt Go.RowKit
set_option linter.unusedVariables false
set_option linter.unusedSimpArgs false

set_option maxRecDepth 100000 in
set_option maxHeartbeats 2000000 in
theorem walk (W : World) (hF : Fours W) (m : Mt) (tx : m.txn < 18446744073709551616) :
    Calls Tryd.prog 5 #[m.val] W fun e w' => e = .returned (.bool true) ∧ Below W.heap.size W w' := by
  have HF := kept hF
  have HLV := fun w h => kept (lives5 w h)
  have HOF := fun w => kept (of_m m w)
  have HRR := fun w => kept (refRight_m m w _ rfl)
  have HRM := fun w => kept (right_m m w)
  have hb0 : Below W.heap.size W (W.alloc (.cells #[.int .u64 (m.txn : Int), .int .i64 m.root, .int .i64 m.spare, .int .i64 m.size] 50)) := (Below.refl _ _).alloc (Nat.le_refl _) _
  have HB0 := kept hb0
  have HL0 := HLV _ (hF.below hb0)
  have HN0 := kept (fou_new W 50 m.txn m.root m.spare m.size)
  by_cases hr : rightM m = true
  · have HEN := fun w h => kept (encode_m m w tx hr h)
    have HRE := fun w => kept (refEncode_m m w tx hr)
    rw [hr] at HRR HRM
    clear hF hb0 HLV hr tx
    obtain ⟨t, r, s, z⟩ := m
    simp only at HB0 HL0 HN0
    go_enter Tryd.func5, Tryd.ntmps5
    go_wp2_with fail
    with_reducible refine HL0.out.mono ?_
    rintro e w1 ⟨rfl, hb⟩
    have HB1 := kept (bel_to hb HB0.out)
    have HN1 := kept (HN0.out.keeps (Keeps.of_below hb))
    obtain ⟨n0, n1, n2, n3⟩ := HN1.out
    clear hb
    go_wp2_with fail
    with_reducible refine (HEN _ (HF.out.below HB1.out)).out.mono ?_
    rintro e w2 ⟨A2, c2, rfl, hown, hb⟩
    have HR2 := kept (Rd.of_own hown)
    have HB2 := kept (bel_to hb HB1.out)
    have HN2 := kept (HN1.out.keeps (Keeps.of_below hb))
    clear hown hb n0 n1 n2 n3
    obtain ⟨n0, n1, n2, n3⟩ := HN2.out
    go_wp2_with fail
    with_reducible refine (HOF _).out.mono ?_
    rintro e w3 ⟨rfl, hb⟩
    have HR3 := kept (HR2.out.below hb)
    have HB3 := kept (bel_to hb HB2.out)
    have HN3 := kept (HN2.out.keeps (Keeps.of_below hb))
    clear hb
    go_wp2_with fail
    with_reducible refine (HRR _).out.mono ?_
    rintro e w4 ⟨rfl, hb⟩
    have HR4 := kept (HR3.out.below hb)
    have HB4 := kept (bel_to hb HB3.out)
    have HN4 := kept (HN3.out.keeps (Keeps.of_below hb))
    clear hb n0 n1 n2 n3
    obtain ⟨n0, n1, n2, n3⟩ := HN4.out
    go_wp2_with fail
    with_reducible refine (HRM _).out.mono ?_
    rintro e w5 ⟨rfl, hb⟩
    have HR5 := kept (HR4.out.below hb)
    have HB5 := kept (bel_to hb HB4.out)
    have HN5 := kept (HN4.out.keeps (Keeps.of_below hb))
    clear hb n0 n1 n2 n3
    obtain ⟨n0, n1, n2, n3⟩ := HN5.out
    go_wp2_with fail
    with_reducible refine (HOF _).out.mono ?_
    rintro e w6 ⟨rfl, hb⟩
    have HR6 := kept (HR5.out.below hb)
    have HB6 := kept (bel_to hb HB5.out)
    clear hb n0 n1 n2 n3
    go_wp2_with fail
    with_reducible refine (HRE _).out.mono ?_
    rintro e w7 ⟨A7, c7, rfl, hown, hb⟩
    have HS := kept (same_any A2 A7 256 256 c2 c7 _ _ w7 (HR6.out.below hb) (Rd.of_own hown) true (by simp))
    have HB7 := kept (bel_to hb HB6.out)
    clear hown hb
    go_wp2_with (first | (go_at_call 18; (with_reducible refine (HS.out).mono ?_); rintro e w8 ⟨rfl, rfl⟩))
    go_ret
    exact ⟨rfl, HB7.out⟩
  · have hr : rightM m = false := by simpa using hr
    have HEN := fun w => kept (encode_m_wrong m w hr)
    rw [hr] at HRR HRM
    clear hF hb0 HLV hr tx
    obtain ⟨t, r, s, z⟩ := m
    simp only at HB0 HL0 HN0
    go_enter Tryd.func5, Tryd.ntmps5
    go_wp2_with fail
    with_reducible refine HL0.out.mono ?_
    rintro e w1 ⟨rfl, hb⟩
    have HB1 := kept (bel_to hb HB0.out)
    have HN1 := kept (HN0.out.keeps (Keeps.of_below hb))
    obtain ⟨n0, n1, n2, n3⟩ := HN1.out
    clear hb
    go_wp2_with fail
    with_reducible refine (HEN _).out.mono ?_
    rintro e w2 ⟨rfl, hb⟩
    have HB2 := kept (bel_to hb HB1.out)
    have HN2 := kept (HN1.out.keeps (Keeps.of_below hb))
    clear hb n0 n1 n2 n3
    obtain ⟨n0, n1, n2, n3⟩ := HN2.out
    go_wp2_with fail
    with_reducible refine (HOF _).out.mono ?_
    rintro e w3 ⟨rfl, hb⟩
    have HB3 := kept (bel_to hb HB2.out)
    have HN3 := kept (HN2.out.keeps (Keeps.of_below hb))
    clear hb
    go_wp2_with fail
    with_reducible refine (HRR _).out.mono ?_
    rintro e w4 ⟨rfl, hb⟩
    have HB4 := kept (bel_to hb HB3.out)
    have HN4 := kept (HN3.out.keeps (Keeps.of_below hb))
    clear hb n0 n1 n2 n3
    obtain ⟨n0, n1, n2, n3⟩ := HN4.out
    go_wp2_with (first | (go_at_call 28; (with_reducible refine ((HRM _).out).mono ?_); rintro e w5 ⟨rfl, hb⟩; have HB5 := kept (bel_to hb HB4.out); clear hb))
    go_ret
    exact ⟨rfl, HB5.out⟩
end Go.Proofs.YtfgpkgenahlikaaDoor.metaCodes
