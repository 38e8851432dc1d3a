/-
  The law RecordReads walked: for any bytes it returns true and writes nothing that was there.
-/
import Derived.Test.YtcmjgkgdeaiifaaNn
import Derived.Test.YtcmjgkgdeaiifaaNh
namespace Go.Proofs.Ytcmjgkgdeaiifaa.recordReads
open Go.ChangeShapes Go.WideShapes Go.ChangeAt Go.RowKit
set_option linter.unusedVariables false
set_option linter.unusedSimpArgs false

set_option maxRecDepth 100000 in
set_option maxHeartbeats 1000000 in
theorem walk (w : World) (A : Option Addr) (n c : Nat) (xs : List UInt8) (rd : Rd w A n xs) (nc : n ≤ c) (rb : n ≤ 140737488351232) :
    Calls Try.prog 4 #[.slice A n c] w fun e w' => e = .returned (.bool true) ∧ Below w.heap.size w w' := by
  have HL := fun w => kept (lives_kv w)
  have HR0 := kept rd
  by_cases hlen : n ≤ 2000
  · have hd : decide (2000 < (n : Int)) = false := by simp; omega
    obtain ⟨y, t, ok, hD, _⟩ := refDecode_any A n c xs w rd nc rb
    have HD := kept hD
    have HDR : ∀ W, Rd W A n xs → Hid (Calls Try.prog 20 #[.slice A n c] W fun e w' => ∃ L, e = .returned (.tuple #[vkv L y, .bool t, .bool ok]) ∧ RdV w' L y ∧ Below W.heap.size W w') := fun W hr => by
      obtain ⟨y', t', ok', hD', hc⟩ := refDecode_any A n c xs W hr nc rb
      obtain ⟨rfl, rfl, rfl⟩ := hD'.only HD.out
      exact kept hc
    have HDP : ∀ A' c' W, Rd W A' n xs → Hid (Calls Try.prog 19 #[.slice A' n c'] W fun e w' => ∃ L, e = .returned (.tuple #[vkv L y, .bool t, .int .i64 (if ok then 0 else 4)]) ∧ RdV w' L y ∧ Below W.heap.size W w') := fun A' c' W hr => by
      obtain ⟨y', t', ok', er, hD', he, hc⟩ := decode_any A' n c' xs W hr (by omega)
      obtain ⟨rfl, rfl, rfl⟩ := hD'.only HD.out
      have : er = if ok' then 0 else 4 := by rcases he with ⟨rfl, rfl⟩ | ⟨rfl, rfl⟩ <;> rfl
      subst this
      exact kept hc
    have HTW := fun W hr => kept (twin_any A n c xs W hr (by omega))
    clear rd hD hlen rb
    cases ok <;> cases t
    all_goals
      simp only [if_true, if_false, Bool.false_eq_true] at HDP
      go_enter Try.func4, Try.ntmps4
      go_wp2_with fail
      with_reducible refine (HL _).out.mono ?_
      rintro e w1 ⟨rfl, hb⟩
      have HB1 := kept hb
      have HR1 := kept (HR0.out.below hb)
      clear hb
      go_wp2_with fail
      with_reducible refine (HTW _ HR1.out).out.mono ?_
      rintro e w2 ⟨A2, c2, rfl, hown, hb⟩
      have HO2 := kept (Rd.of_own hown)
      have HB2 := kept (bel_to hb HB1.out)
      clear hown hb
      go_wp2_with fail
      with_reducible refine (HDP _ _ _ HO2.out).out.mono ?_
      rintro e w3 ⟨L, rfl, hV, hb⟩
      have HV3 := kept (hV.below (boxV_below w3 L y))
      have HX3 := kept (Six.new w3 L y)
      have HB3 := kept (bel_to (boxV_below w3 L y) (bel_to hb HB2.out))
      have HO3 := kept ((HO2.out.below hb).below (boxV_below w3 L y))
      clear hV hb
      go_wp2_with fail
      with_reducible refine (HDR _ (HR0.out.below HB3.out)).out.mono ?_
      rintro e w4 ⟨M, rfl, hV, hb⟩
      have HV4 := kept ((HV3.out.below hb).below (boxV_below w4 M y))
      have HV5 := kept (hV.below (boxV_below w4 M y))
      have HX4 := kept ((HX3.out.below hb).below (boxV_below w4 M y))
      have HX5 := kept (Six.new w4 M y)
      have HB4 := kept (bel_to (boxV_below w4 M y) (bel_to hb HB3.out))
      have HO4 := kept ((HO3.out.below hb).below (boxV_below w4 M y))
      obtain ⟨k1, k2, k3, k4, k5, k6⟩ := HX4.out.cells
      obtain ⟨q1, q2, q3, q4, q5, q6⟩ := HX5.out.cells
      clear hV hb
      unfold boxV at k1 k2 k3 k4 k5 k6
      go_wp2_with fail
      with_reducible refine (refSame_kv L M y y _ true (by simp) HV4.out HV5.out).mono ?_
      rintro e w5 ⟨rfl, hb⟩
      have HB5 := kept (bel_to hb HB4.out)
      have HSM := kept (same_any A2 A n n c2 c xs xs w5 (HO4.out.below hb) (HR0.out.below HB5.out) true (by simp))
      clear hb k1 k2 k3 k4 k5 k6 q1 q2 q3 q4 q5 q6
      go_wp2_with (first | (go_at_call 15; (with_reducible refine (HSM.out).mono ?_); rintro e w6 ⟨rfl, rfl⟩))
      go_ret
      exact ⟨by first | rfl | simp, HB5.out⟩
  · have hd : decide (2000 < (n : Int)) = true := by simp; omega
    clear rd hlen rb
    go_enter Try.func4, Try.ntmps4
    go_wp2_with fail
    with_reducible refine (HL _).out.mono ?_
    rintro e w1 ⟨rfl, hb⟩
    have HB1 := kept hb
    clear hb
    go_wp2_with fail
    with_reducible refine (HL _).out.mono ?_
    rintro e w2 ⟨rfl, hb⟩
    have HB2 := kept (bel_to hb HB1.out)
    clear hb
    go_wp2
    go_ret
    exact ⟨rfl, HB2.out⟩
end Go.Proofs.Ytcmjgkgdeaiifaa.recordReads
