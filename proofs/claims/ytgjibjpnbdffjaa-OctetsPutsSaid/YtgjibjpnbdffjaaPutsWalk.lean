/-
  The law OctetsPuts walked: for every number and size it returns true and writes nothing that was there.
-/
import Derived.Test.YtgjibjpnbdffjaaPut
namespace Go.Proofs.Ytgjibjpnbdffjaa.octetsPuts
open Go.ChangeShapes Go.WideShapes Go.ChangeAt Go.RowKit
set_option linter.unusedVariables false

theorem walk (w : World) (a0 : Int) (w0 : (Lit.int .u64 a0).wf = true) (a1 : Int) (w1 : (Lit.int .i64 a1).wf = true) :
    Calls Try.prog 3 #[.int .u64 a0, .int .i64 a1] w fun e w' => e = .returned (.bool true) ∧ Below w.heap.size w w' := by
  have hr0 : 0 ≤ a0 ∧ a0 ≤ 18446744073709551615 := by simpa [Lit.wf, IntKind.min, IntKind.max, IntKind.signed, IntKind.bits] using w0
  clear w0 w1
  obtain ⟨n, rfl⟩ := Int.eq_ofNat_of_zero_le hr0.1
  by_cases hs : a1 < 1 ∨ 8 < a1
  · have hs1 : 1 ≤ a1 → 8 < a1 := by omega
    rcases hs with hs | hs
    · go_enter Try.func3, Try.ntmps3
      go_wp2_with (go_at_call 12; refine (put_arg _ _ _ (.inl hs)).mono ?_; rintro e w' ⟨rfl, rfl⟩)
      go_ret
      exact ⟨rfl, Below.refl _ _⟩
    · have h1 : 1 ≤ a1 := by omega
      go_enter Try.func3, Try.ntmps3
      go_wp2_with (go_at_call 12; refine (put_arg _ _ _ (.inr hs)).mono ?_; rintro e w' ⟨rfl, rfl⟩)
      go_ret
      exact ⟨rfl, Below.refl _ _⟩
  · obtain ⟨s, rfl⟩ := Int.eq_ofNat_of_zero_le (a := a1) (by omega)
    have h1 : 1 ≤ s := by omega
    have h2 : s ≤ 8 := by omega
    have hn : n < 18446744073709551616 := by omega
    have hd8 : decide (8 < (s : Int)) = false := by simp; omega
    by_cases hf : n < 256 ^ s
    · have HF := fun w => kept (fits_any n s w hn h2 true (by simp [Nat.div_eq_of_lt hf]))
      have HP := kept hf
      clear hf
      go_enter Try.func3, Try.ntmps3
      go_wp2_with (first | (go_at_call 12; refine (put_ok _ _ _ h1 h2 HP.out).mono ?_; rintro e w1 ⟨A, c, rfl, hown1, hb1⟩; have HO1 := kept hown1; have HB1 := kept hb1; clear hown1 hb1) | (go_at_call 13; refine (HF _).out.mono ?_; rintro e w' ⟨rfl, rfl⟩) | (go_at_call 15; refine (refPut_ok _ _ _ hn h2).mono ?_; rintro e w2 ⟨A2, c2, rfl, hr2, hb2⟩; have HR2 := kept hr2; have HB2 := kept hb2; clear hr2 hb2) | (go_at_call 14; refine (same_any _ _ _ _ _ _ _ _ _ ((Rd.of_own HO1.out).below HB2.out) HR2.out true (by simp)).mono ?_; rintro e w' ⟨rfl, rfl⟩))
      go_ret
      exact ⟨rfl, HB1.out.trans (HB2.out.mono HB1.out.size)⟩
    · have hge : 256 ^ s ≤ n := by omega
      have hq : 0 < n / 256 ^ s := Nat.div_pos hge (Nat.pow_pos (by omega))
      have HF := fun w => kept (fits_any n s w hn h2 false (by simp; omega))
      have HP := kept hge
      clear hf hge hq
      go_enter Try.func3, Try.ntmps3
      go_wp2_with (first | (go_at_call 12; refine (put_range _ _ _ h1 h2 HP.out).mono ?_; rintro e w' ⟨rfl, rfl⟩) | (go_at_call 13; refine (HF _).out.mono ?_; rintro e w' ⟨rfl, rfl⟩))
      go_ret
      exact ⟨rfl, Below.refl _ _⟩
end Go.Proofs.Ytgjibjpnbdffjaa.octetsPuts
