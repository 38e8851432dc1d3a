/-
  The law SumSeals walked: for every row of bytes it returns true and writes nothing that was there.
-/
import Derived.Test.YtnnngjcakljceaaDoorSeal
namespace Go.Proofs.YtnnngjcakljceaaDoor.sumSeals
open Go.ChangeShapes Go.WideShapes Go.ChangeAt Go.RowKit Crc
set_option linter.unusedVariables false

theorem walk (w : World) (hf : Fours w) (A : Option Addr) (n c : Nat) (xs : List UInt8) (hr : Rd w A n xs) (hc : n ≤ c) (hl : n ≤ 140737488351232) :
    Calls Tryd.prog 4 #[.slice A n c] w fun e w' => e = .returned (.bool true) ∧ Below w.heap.size w w' := by
  have HL := kept (lives_any w hf)
  have HF := kept hf
  have HR := kept hr
  obtain ⟨err, ys, hopen⟩ := open_both n xs hr.1 hl
  have HOPEN := kept hopen
  clear hf hr hopen
  by_cases hbig : 4096 < n
  · go_enter Tryd.func4, Tryd.ntmps4
    go_wp2_with fail
    with_reducible refine HL.out.mono ?_
    rintro e w1 ⟨rfl, hb⟩
    have HB := kept hb
    have HL2 := kept (lives_any w1 (HF.out.below hb))
    clear hb
    go_wp2_with fail
    with_reducible refine HL2.out.mono ?_
    rintro e w2 ⟨rfl, hb2⟩
    have HB2 := kept (HB.out.trans (hb2.mono HB.out.size))
    clear hb2
    go_wp2
    go_ret
    exact ⟨rfl, HB2.out⟩
  · have hsm : n ≤ 4096 := by omega
    have hbd : decide ((4096 : Int) < (n : Int)) = false := by simp; omega
    clear hbig
    go_enter Tryd.func4, Tryd.ntmps4
    go_wp2_with fail
    with_reducible refine HL.out.mono ?_
    rintro e w1 ⟨rfl, hb⟩
    have HB := kept hb
    have HT := kept (twin_any A n c xs w1 (HR.out.below hb) (by omega))
    clear hb
    go_wp2_with fail
    with_reducible refine HT.out.mono ?_
    rintro e w2 ⟨A2, c2, rfl, hown, hb2⟩
    have HB2 := kept (HB.out.trans (hb2.mono HB.out.size))
    have hc2 := own_cap hown
    have HR2 := kept (Rd.of_own hown)
    have HS := kept (seal_any A2 n c2 xs w2 HR2.out hc2 hl (HF.out.below HB2.out))
    clear hown hb2
    go_wp2_with fail
    with_reducible refine HS.out.mono ?_
    rintro e w3 ⟨A3, c3, rfl, hown3, hb3⟩
    have HB3 := kept (HB2.out.trans (hb3.mono HB2.out.size))
    have HR3 := kept (Rd.of_own hown3)
    have HR23 := kept (HR2.out.below hb3)
    have HO := kept (HOPEN.out w3 A2 c2 (HF.out.below HB3.out) HR23.out hc2).1
    clear hown3 hb3
    go_wp2_with fail
    with_reducible refine HO.out.mono ?_
    rintro e w4 ⟨A4, n4, c4, rfl, hr4, hb4⟩
    have HB4 := kept (HB3.out.trans (hb4.mono HB3.out.size))
    have HR4 := kept hr4
    have HR24 := kept (HR23.out.below hb4)
    have HR34 := kept (HR3.out.below hb4)
    have HO2 := kept (HOPEN.out w4 A c (HF.out.below HB4.out) (HR.out.below HB4.out) hc).2
    clear hr4 hb4
    go_wp2_with fail
    with_reducible refine HO2.out.mono ?_
    rintro e w5 ⟨A5, n5, c5, rfl, hr5, hb5⟩
    have HB5 := kept (HB4.out.trans (hb5.mono HB4.out.size))
    have HR5 := kept hr5
    have HR45 := kept (HR4.out.below hb5)
    have HR25 := kept (HR24.out.below hb5)
    have HR35 := kept (HR34.out.below hb5)
    have HRS := kept (refSeal_any A n c xs w5 (HR.out.below HB5.out) hl)
    clear hr5 hb5
    go_wp2_with fail
    with_reducible refine HRS.out.mono ?_
    rintro e w6 ⟨A6, c6, rfl, hown6, hb6⟩
    have HB6 := kept (HB5.out.trans (hb6.mono HB5.out.size))
    have HS1 := kept (same_any A3 A6 (4 + n) (4 + n) c3 c6 (sealed xs) (sealed xs) w6 (HR35.out.below hb6) (Rd.of_own hown6) true (by simp))
    have HS2 := kept (same_any A4 A5 n4 n5 c4 c5 ys ys w6 (HR45.out.below hb6) (HR5.out.below hb6) true (by simp))
    have HS3 := kept (same_any A2 A n n c2 c xs xs w6 (HR25.out.below hb6) (HR.out.below HB6.out) true (by simp))
    clear hown6 hb6
    go_wp2_with (first | (go_at_call 15; (with_reducible refine (HS1.out).mono ?_); rintro e w' ⟨rfl, rfl⟩) | (go_at_call 15; (with_reducible refine (HS2.out).mono ?_); rintro e w' ⟨rfl, rfl⟩) | (go_at_call 15; (with_reducible refine (HS3.out).mono ?_); rintro e w' ⟨rfl, rfl⟩))
    go_ret
    exact ⟨rfl, HB6.out⟩
end Go.Proofs.YtnnngjcakljceaaDoor.sumSeals
