/-
  The law SumBack walked: for every row of bytes it returns true and writes nothing that was there.
-/
import Derived.Test.YtnnngjcakljceaaDoorSeal
namespace Go.Proofs.YtnnngjcakljceaaDoor.sumBack
open Go.ChangeShapes Go.WideShapes Go.ChangeAt Go.RowKit Crc
set_option linter.unusedVariables false

theorem walk (w : World) (hf : Fours w) (A : Option Addr) (n c : Nat) (xs : List UInt8) (hr : Rd w A n xs) (hc : n ≤ c) (hl : n ≤ 140737488351232) :
    Calls Tryd.prog 5 #[.slice A n c] w fun e w' => e = .returned (.bool true) ∧ Below w.heap.size w w' := by
  have HL := kept (lives_any w hf)
  have HF := kept hf
  have HR := kept hr
  clear hf hr
  by_cases hbig : 4096 < n
  · go_enter Tryd.func5, Tryd.ntmps5
    go_wp2_with fail
    with_reducible refine HL.out.mono ?_
    rintro e w1 ⟨rfl, hb⟩
    have HB := kept hb
    have HL2 := kept (lives_any w1 (HF.out.below hb))
    clear hb
    go_wp2_with fail
    with_reducible refine HL2.out.mono ?_
    rintro e w2 ⟨rfl, hb2⟩
    have HB2 := kept (HB.out.trans (hb2.mono HB.out.size))
    clear hb2
    go_wp2
    go_ret
    exact ⟨rfl, HB2.out⟩
  · have hsm : n ≤ 4096 := by omega
    have hbd : decide ((4096 : Int) < (n : Int)) = false := by simp; omega
    clear hbig
    go_enter Tryd.func5, Tryd.ntmps5
    go_wp2_with fail
    with_reducible refine HL.out.mono ?_
    rintro e w1 ⟨rfl, hb⟩
    have HB := kept hb
    have HS := kept (seal_any A n c xs w1 (HR.out.below hb) hc hl (HF.out.below hb))
    clear hb
    go_wp2_with fail
    with_reducible refine HS.out.mono ?_
    rintro e w2 ⟨A2, c2, rfl, hown, hb2⟩
    have HB2 := kept (HB.out.trans (hb2.mono HB.out.size))
    have HO := kept (open_sealed A2 n c2 xs w2 (Rd.of_own hown) (own_cap hown) (by omega) (HF.out.below HB2.out))
    clear hown hb2
    go_wp2_with fail
    with_reducible refine HO.out.mono ?_
    rintro e w3 ⟨A3, c3, rfl, hown3, hb3⟩
    have HB3 := kept (HB2.out.trans (hb3.mono HB2.out.size))
    have HSAME := kept (same_any A3 A n n c3 c xs xs w3 (Rd.of_own hown3) (HR.out.below HB3.out) true (by simp))
    clear hown3 hb3
    go_wp2_with fail
    with_reducible refine HSAME.out.mono ?_
    rintro e w4 ⟨rfl, rfl⟩
    go_wp2
    go_ret
    exact ⟨rfl, HB3.out⟩
end Go.Proofs.YtnnngjcakljceaaDoor.sumBack
