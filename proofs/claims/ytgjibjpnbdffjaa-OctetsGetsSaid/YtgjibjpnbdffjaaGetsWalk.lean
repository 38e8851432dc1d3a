/-
  The law OctetsGets walked: for every row of bytes, place and size it returns true and writes nothing that was there.
-/
import Derived.Test.YtgjibjpnbdffjaaGet
namespace Go.Proofs.Ytgjibjpnbdffjaa.octetsGets
open Go.ChangeShapes Go.WideShapes Go.ChangeAt Go.RowKit
set_option linter.unusedVariables false

/-- Get and the document's Get answer the same, whatever the place and the size. -/
theorem get_alike (len : Nat) (at_ s : Int) (xs : List UInt8) (hx : xs.length = len) (hl : len ≤ 140737488355328) (ha : at_ ≤ 9223372036854775807) :
    ∃ v e : Int, (∀ (A : Option Addr) (c : Nat) (w : World), Rd w A len xs → Calls Try.prog 17 #[.slice A len c, .int .i64 at_, .int .i64 s] w fun r w' => r = .returned (.tuple #[.int .u64 v, .int .i64 e]) ∧ w = w') ∧
      (∀ (A : Option Addr) (c : Nat) (w : World), Rd w A len xs → Calls Try.prog 18 #[.slice A len c, .int .i64 at_, .int .i64 s] w fun r w' => r = .returned (.tuple #[.int .u64 v, .int .i64 e]) ∧ w = w') := by
  by_cases hs : s < 1 ∨ 8 < s
  · exact ⟨_, _, fun A c w _ => get_arg A len c at_ s w hs, fun A c w _ => refGet_arg A len c at_ s w hs⟩
  · by_cases h : at_ < 0 ∨ len < at_ + s
    · exact ⟨_, _, fun A c w _ => get_short A len c at_ s w (by omega) (by omega) hl h ha, fun A c w _ => refGet_short A len c at_ s w (by omega) (by omega) hl h ha⟩
    · obtain ⟨k, rfl⟩ := Int.eq_ofNat_of_zero_le (a := at_) (by omega)
      obtain ⟨t, rfl⟩ := Int.eq_ofNat_of_zero_le (a := s) (by omega)
      exact ⟨_, _, fun A c w hr => get_ok A len c k t xs w (by omega) (by omega) hr hl (by omega), fun A c w hr => refGet_ok A len c k t xs w (by omega) (by omega) hr hl (by omega)⟩

theorem get_two (W : World) : Calls Try.prog 17 #[.slice (some ⟨W.heap.size, 0, none⟩) 2 2, .int .i64 0, .int .i64 2] (W.alloc (.cells #[.int .u8 1, .int .u8 2] 5))
    fun r w' => r = .returned (.tuple #[.int .u64 258, .int .i64 0]) ∧ W.alloc (.cells #[.int .u8 1, .int .u8 2] 5) = w' :=
  get_ok (some ⟨W.heap.size, 0, none⟩) 2 2 0 2 [1, 2] (W.alloc (.cells #[.int .u8 1, .int .u8 2] 5)) (by omega) (by omega)
    (Rd.of_own ((Blk.new W 5 #[.int .u8 1, .int .u8 2]).own (xs := [1, 2]) (base := 0) (Nat.zero_le _) rfl (by unfold maxLen; omega))) (by omega) (by omega)

theorem walk (w : World) (A : Option Addr) (n c : Nat) (xs : List UInt8) (hr : Rd w A n xs) (hnc : n ≤ c) (hl : n ≤ 140737488351232)
    (a1 : Int) (w1 : (Lit.int .i64 a1).wf = true) (a2 : Int) (w2 : (Lit.int .i64 a2).wf = true) :
    Calls Try.prog 4 #[.slice A n c, .int .i64 a1, .int .i64 a2] w fun e w' => e = .returned (.bool true) ∧ Below w.heap.size w w' := by
  have hr1 : -9223372036854775808 ≤ a1 ∧ a1 ≤ 9223372036854775807 := by simpa [Lit.wf, IntKind.min, IntKind.max, IntKind.signed, IntKind.bits] using w1
  obtain ⟨v, e, hg, hf⟩ := get_alike n a1 a2 xs hr.1 (by omega) hr1.2
  have HR := kept hr
  have HG := kept hg
  have HF := kept hf
  clear w1 w2 hr1 hr hg hf
  go_enter Try.func4, Try.ntmps4
  go_wp2_with (first | (go_at_call 16; (with_reducible refine (twin_any _ _ _ xs _ HR.out (by omega)).mono ?_); rintro e1 w1 ⟨A1, c1, rfl, hown1, hb1⟩; have HO1 := kept hown1; have HB1 := kept hb1; have HR1 := kept (HR.out.below HB1.out); have HS := kept (Rd.of_own HO1.out); clear hown1 hb1) | (go_at_call 17; (with_reducible refine (HG.out _ _ _ HS.out).mono ?_); rintro e1 w' ⟨rfl, rfl⟩) | (go_at_call 18; (with_reducible refine (HF.out _ _ _ HR1.out).mono ?_); rintro e1 w' ⟨rfl, rfl⟩) | (go_at_call 17; (with_reducible refine (get_two _).mono ?_); rintro e1 w' ⟨rfl, rfl⟩) | (go_at_call 14; (with_reducible refine (same_any _ _ _ _ _ _ _ _ _ (HS.out.alloc _) (HR1.out.alloc _) true (by simp)).mono ?_); rintro e1 w' ⟨rfl, rfl⟩))
  go_ret
  exact ⟨rfl, HB1.out.alloc HB1.out.size _⟩
end Go.Proofs.Ytgjibjpnbdffjaa.octetsGets
