/-
  The walk of the law FreeDrains.
-/
import Derived.Test.YtahciaccnblfoaaFr6
namespace Go.Proofs.Ytahciaccnblfoaa
open Go.ChangeShapes Go.WideShapes Go.ChangeAt Go.RowKit
set_option linter.unusedVariables false
namespace freeDrains
/-- Behind k takes: what is left, and that all of it is above the last one taken. -/
def Loop (w : World) (r : Nat) (S : List Int) (k : Nat) (l : Int) (wr : World) : Prop := Mine w r ⟨1024, S.drop k, []⟩ wr ∧ ∀ x ∈ S.drop k, l < x
set_option maxHeartbeats 1000000 in
theorem walk (w : World) (A : Option Addr) (n c : Nat) (hnc : n ≤ c) (hcm : c ≤ maxLen) (Z : Nat → Int) (hr : RdVals w A n (fun i => .int .i64 (Z i)) ∧ ∀ i, i < n → (Lit.int .i64 (Z i)).wf = true) :
    Calls Try.prog 6 #[.slice A n c] w fun e w' => e = .returned (.bool true) ∧ Below w.heap.size w w' := by
  have HR := kept (RdI.of_vals hr.1)
  have hm : n ≤ maxLen := Nat.le_trans hnc hcm
  unfold maxLen at hm
  clear hr hcm
  by_cases hbig : (1100 : Int) < (n : Int)
  · go_enter Try.func6, Try.ntmps6
    go_wp2_with fail
    with_reducible refine (lives_any _).mono ?_
    rintro e w1 ⟨rfl, hb1⟩
    have HB1 := kept hb1
    clear hb1
    go_wp2_with fail
    with_reducible refine (lives_any _).mono ?_
    rintro e w2 ⟨rfl, hb2⟩
    have HB2 := kept hb2
    clear hb2
    go_wp2
    go_ret
    exact ⟨rfl, HB1.out.trans (HB2.out.mono HB1.out.size)⟩
  · have hn : n ≤ 1100 := by omega
    by_cases he : newErr 1024 (lstOf Z n) = 0
    · have HN := kept (fun W (hb : Below w.heap.size w W) => new_mine 1024 A n c (lstOf Z n) w W hb (HR.out.below hb) (by omega) he)
      have hz := newErr_zero he
      have HL : Hid ((addAll [] (lstOf Z n)).length = n) := kept (by rw [length_addAll hz.2.2 (fun x _ h => by simp at h), lstOf_length]; simp)
      have HP : Hid (∀ x ∈ addAll [] (lstOf Z n), (0 : Int) < x) := kept (fun x hx => by
        have := hz.2.1 x (by simpa [mem_addAll] using hx)
        omega)
      have HS : Hid (Rising (addAll [] (lstOf Z n))) := kept (Rising.addAll Rising.nil_ _)
      clear he hz
      generalize addAll [] (lstOf Z n) = S at HN HL HP HS
      go_enter Try.func6, Try.ntmps6
      go_wp2_with (first | (go_at_call 8; (with_reducible refine (lives_any _).mono ?_); rintro e w1 ⟨rfl, hb1⟩; have HB1 := kept hb1 ; clear hb1) | (go_at_call 9; (with_reducible refine (HN.out _ HB1.out).mono ?_); rintro e w2 ⟨r, rfl, h2⟩))
      have H0 : Hid (Loop w r S 0 0 w2) := kept ⟨h2.out.1, HP.out⟩
      clear h2 HP HN HB1
      go_loopw [5, 29] (fun l i wr => ∃ (k : Nat) (x : Int), k ≤ n ∧ i = .int .i64 (k : Int) ∧ l = .int .i64 x ∧ Hid (Loop w r S k x wr)) (fun _ i _ => n - (intOf i).toNat)
      case atStart => exact ⟨0, 0, Nat.zero_le _, rfl, rfl, H0⟩
      case round =>
        obtain ⟨k, l, hk, rfl, rfl, hrel⟩ := hrel
        have HM := kept hrel.out.1
        have HLT := kept hrel.out.2
        clear hrel H0
        by_cases hlt : k < n
        · obtain ⟨x, hx⟩ : ∃ x, S.drop k = x :: S.drop (k + 1) := ⟨S[k]'(by rw [HL.out]; exact hlt), List.drop_eq_getElem_cons (by rw [HL.out]; exact hlt)⟩
          have HSR := kept (List.Pairwise.sublist (List.drop_sublist k S) HS.out)
          have HT : Hid (Calls Try.prog 11 #[.pointer (some ⟨r, 0, none⟩)] wr fun e w' => e = .returned (.tuple #[.int .i64 x, .int .i64 0]) ∧ Hid (Mine w r ⟨1024, S.drop (k + 1), []⟩ w')) := kept (by
            have h := take_mine HM.out
            rw [hx] at h
            exact h)
          rw [hx] at HLT HSR
          have hlx : l < x := HLT.out x (List.mem_cons_self ..)
          have HN1 : Hid (∀ y ∈ S.drop (k + 1), x < y) := kept (List.pairwise_cons.1 HSR.out).1
          clear hx HLT HSR
          go_wp2_with (first | (go_at_call 11; (with_reducible refine (HT.out).mono ?_); rintro e w3 ⟨rfl, h3⟩))
          have HE : Hid (Loop w r S (k + 1) x w3) := kept ⟨h3.out, HN1.out⟩
          clear h3
          go_roundw
          case rel => exact ⟨k + 1, x, by omega, by go_num, rfl, HE⟩
          case measure => simp [intOf]; omega
        · obtain rfl : k = n := by omega
          have hx : S.drop k = [] := List.drop_eq_nil_of_le (by rw [HL.out]; exact Nat.le_refl _)
          have HT : Hid (Calls Try.prog 11 #[.pointer (some ⟨r, 0, none⟩)] wr fun e w' => e = .returned (.tuple #[.int .i64 0, .int .i64 9]) ∧ Hid (Mine w r ⟨1024, [], []⟩ w')) := kept (by
            have h := take_mine HM.out
            rw [hx] at h
            exact h)
          clear hx HLT
          go_wp2_with (first | (go_at_call 11; (with_reducible refine (HT.out).mono ?_); rintro e w3 ⟨rfl, h3⟩))
          have HRM := kept (room_mine h3.out)
          have HB := kept h3.out.1
          clear h3
          go_wp2_with (first | (go_at_call 15; (with_reducible refine (HRM.out).mono ?_); rintro e w4 ⟨rfl, rfl⟩))
          go_ret
          exact ⟨rfl, HB.out⟩
    · have HN := kept (fun W (hb : Below w.heap.size w W) => new_bad 1024 A n c (lstOf Z n) _ W (HR.out.below hb) (by omega) rfl he)
      have hb : (newErr 1024 (lstOf Z n) != 0) = true := by simpa using he
      generalize newErr 1024 (lstOf Z n) = m at HN hb
      clear he
      go_enter Try.func6, Try.ntmps6
      go_wp2_with (first | (go_at_call 8; (with_reducible refine (lives_any _).mono ?_); rintro e w1 ⟨rfl, hb1⟩; have HB1 := kept hb1 ; clear hb1) | (go_at_call 9; (with_reducible refine (HN.out _ HB1.out).mono ?_); rintro e w2 ⟨rfl, h2⟩))
      go_ret
      exact ⟨rfl, HB1.out.trans (h2.out.mono HB1.out.size)⟩
end freeDrains
end Go.Proofs.Ytahciaccnblfoaa
