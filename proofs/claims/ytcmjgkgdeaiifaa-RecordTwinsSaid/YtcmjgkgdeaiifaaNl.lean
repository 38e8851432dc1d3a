/-
  The document's reader from any state, whatever its error: Num and Text.
-/
import Derived.Test.YtcmjgkgdeaiifaaNa
import Derived.Test.YtcmjgkgdeaiifaaRr
namespace Go.Proofs.Ytcmjgkgdeaiifaa
open Go.ChangeShapes Go.WideShapes Go.ChangeAt Go.RowKit
set_option linter.unusedVariables false
set_option linter.unusedSimpArgs false
attribute [local go_sem ↓] Go.wp_at_zero Go.wp_at_succ

def RY (w : World) (r : Nat) (A : Option Addr) (n c : Nat) (xs : List UInt8) (s : Nat × Int) : Prop := Rdf w r A n c xs s.1 s.2 ∧ s.1 ≤ n ∧ n ≤ c ∧ n ≤ 140737488355328
section
variable {w w' : World} {r g : Nat} {A : Option Addr} {n c : Nat} {xs : List UInt8} {s : Nat × Int}
theorem RY.below (h : RY w r A n c xs s) (hb : Below w.heap.size w w') : RY w' r A n c xs s := ⟨h.1.below hb, h.2⟩
theorem RY.lt (h : RY w r A n c xs s) : r < w.heap.size := h.1.1.lt
theorem RY.set_ (h : RY w r A n c xs s) (hg : r ≠ g) (ha : apartA A n g) (i : Nat) (u : Value) : RY (w.setCell ⟨g, i, none⟩ u) r A n c xs s :=
  ⟨⟨h.1.1.far hg u, h.1.2.grown ha ((Only.refl w g).setCell i u)⟩, h.2⟩
theorem RY.apart (h : RY w r A n c xs s) (hg : w.heap.size ≤ g) : apartA A n g := h.1.2.fresh hg
end
theorem refNumX (r : Nat) (A : Option Addr) (n c : Nat) (xs : List UInt8) (s : Nat × Int) (k : Nat) (w : World) (h : RY w r A n c xs s) (h1 : 1 ≤ k) (h2 : k ≤ 8) :
    Calls Try.prog 37 #[.pointer (some ⟨r, 0, none⟩), .int .i64 (k : Int)] w fun e w' => e = .returned (.int .u64 (((rnumX xs k s).1 : Nat) : Int)) ∧ Hid (RY w' r A n c xs (rnumX xs k s).2 ∧ Only w w' r) := by
  obtain ⟨pos, err⟩ := s
  have hl := h.1.2.1
  obtain ⟨hr, hp, hc, hb⟩ := h
  simp only at hr hp
  have e0 := hr.slice
  have e1 := hr.place
  have e2 := hr.error
  have f1 := hr.frozen 1
  have f2 := hr.frozen 2
  by_cases h0 : err = 0
  · subst h0
    by_cases hk : pos + k ≤ n
    · simp only [rnumX, hl, hk, if_true, ne_eq, not_true_eq_false, if_false]
      have HG := fun W (hr : Rd W A n xs) => kept (refGet_ok A n c pos k xs W h1 h2 hr hb hk)
      have HRD := kept hr.2
      have HP := fun q => kept ((((hr.drewN q).set_err 0).set_pos (pos + k)))
      have HO := fun q u => kept (((((Only.refl w r).drewN q).setCell 2 (.int .i64 0))).setCell 1 u)
      have HC : Hid (((pos + k : Nat) : Int) = (pos : Int) + (k : Int)) := by show _ = _; simp
      have HM := kept (And.intro hk (And.intro hc hb))
      have hw : IntKind.i64.wrap ((pos : Int) + (k : Int)) = (pos : Int) + (k : Int) := IntWalk.i64_in _ ⟨by omega, by omega⟩
      clear hr hl hc hp
      go_enter Try.func37, Try.ntmps37
      go_wp2
      go_quiet ((go_at_call 46; exact Calls.quiet_of_same (turn (HG _ (HRD.out.drewN _)).out)))
      go_wp2
      go_ret
      refine ⟨rfl, ⟨?_, HM.out.1, HM.out.2.1, HM.out.2.2⟩, (HO _ _).out⟩
      rw [← HC.out]
      exact (HP _).out
    · simp only [rnumX, hl, hk, ne_eq, not_true_eq_false, if_false]
      have HG := fun W => kept (refGet_short A n c (pos : Int) (k : Int) W (by omega) (by omega) hb (.inr (by omega)) (by omega))
      have HP := fun q => kept ((hr.drewN q).set_err 3)
      have HO := fun q => kept ((((Only.refl w r).drewN q).setCell 2 (.int .i64 3)))
      have HM := kept (And.intro hp (And.intro hc hb))
      clear hr hl hc hp
      go_enter Try.func37, Try.ntmps37
      go_wp2
      go_quiet ((go_at_call 46; exact Calls.quiet_of_same (turn (HG _).out)))
      go_wp2
      go_ret
      exact ⟨rfl, ⟨(HP _).out, HM.out.1, HM.out.2.1, HM.out.2.2⟩, (HO _).out⟩
  · simp only [rnumX, ne_eq, h0, not_false_eq_true, if_true]
    have HR := kept (And.intro hr (And.intro hp (And.intro hc hb)))
    have hne : (err != 0) = true := by simp [h0]
    clear hr hl hc hp h0
    go_enter Try.func37, Try.ntmps37
    go_wp2
    go_ret
    exact ⟨rfl, HR.out, Only.refl _ _⟩
theorem refNumX8 (r : Nat) (A : Option Addr) (n c : Nat) (xs : List UInt8) (s : Nat × Int) (w : World) (h : RY w r A n c xs s) :
    Calls Try.prog 37 #[.pointer (some ⟨r, 0, none⟩), .int .i64 8] w fun e w' => e = .returned (.int .u64 (((rnumX xs 8 s).1 : Nat) : Int)) ∧ Hid (RY w' r A n c xs (rnumX xs 8 s).2 ∧ Only w w' r) := refNumX r A n c xs s 8 w h (by omega) (by omega)
theorem refTextX (r : Nat) (A : Option Addr) (n c : Nat) (xs : List UInt8) (s : Nat × Int) (most : Nat) (w : World) (h : RY w r A n c xs s) (hm : most ≤ 65535) :
    Calls Try.prog 36 #[.pointer (some ⟨r, 0, none⟩), .int .i64 (most : Int)] w fun e w' => ∃ A' n' c', e = .returned (.slice A' n' c') ∧ Hid (Rd w' A' n' (rtextX xs most s).1 ∧ New A' n' w.heap.size ∧ n' ≤ c' ∧ n' ≤ 65535) ∧ Hid (RY w' r A n c xs (rtextX xs most s).2 ∧ Only w w' r) := by
  obtain ⟨pos, err⟩ := s
  have hl := h.1.2.1
  obtain ⟨hr, hp, hc, hb⟩ := h
  simp only at hr hp
  have e0 := hr.slice
  have e1 := hr.place
  have e2 := hr.error
  have f1 := hr.frozen 1
  have f2 := hr.frozen 2
  by_cases h0 : err = 0
  · subst h0
    by_cases hk : pos + 2 ≤ n
    · have hvb := num_part_lt xs pos 2 (by rw [hl]; exact hk)
      obtain ⟨v, hv⟩ : ∃ v, num (part xs pos 2) 0 = v := ⟨_, rfl⟩
      have hG := fun W (hr : Rd W A n xs) => refGet_ok A n c pos 2 xs W (by omega) (by omega) hr hb hk
      rw [hv] at hvb hG
      have hvb : v < 65536 := hvb
      have HG := fun W hr => kept (hG W hr)
      have HW0 : Hid (IntKind.u64.wrap (most : Int) = (most : Int)) := kept (IntWalk.u64_in _ ⟨by omega, by omega⟩)
      have hm0 : decide ((most : Int) < 0) = false := by simp
      have HRD := kept hr.2
      by_cases hvm : v ≤ most
      · have hd1 : decide (most < v) = false := by simp; omega
        by_cases hk2 : pos + 2 + v ≤ n
        · have e3 : num (part xs pos 2) 0 ≤ most := by rw [hv]; exact hvm
          have e4 : pos + 2 + num (part xs pos 2) 0 ≤ n := by rw [hv]; exact hk2
          simp only [rtextX, hl, hk, e3, e4, if_true, ne_eq, not_true_eq_false, if_false]
          rw [hv]
          have hd2 : decide ((n : Int) - (pos : Int) - 2 < (v : Int)) = false := by simp; omega
          have HWS : Hid (IntKind.i64.wrap ((n : Int) - (pos : Int)) = (n : Int) - (pos : Int) ∧ IntKind.i64.wrap ((n : Int) - (pos : Int) - 2) = (n : Int) - (pos : Int) - 2 ∧ wrap64 (v : Int) = (v : Int) ∧ IntKind.i64.wrap (v : Int) = (v : Int) ∧ IntKind.i64.wrap ((pos : Int) + 2) = (pos : Int) + 2) := kept ⟨IntWalk.i64_in _ ⟨by omega, by omega⟩, IntWalk.i64_in _ ⟨by omega, by omega⟩, IntWalk.wrap64_in _ ⟨by omega, by omega⟩, IntWalk.i64_in _ ⟨by omega, by omega⟩, IntWalk.i64_in _ ⟨by omega, by omega⟩⟩
          have HBY : ∀ W, RF W r A n c xs (pos + 2, 0) → Hid (Calls Try.prog 47 #[.pointer (some ⟨r, 0, none⟩), .int .i64 (v : Int)] W fun e w' => ∃ A' n' c', e = .returned (.slice A' n' c') ∧ Hid (Rd w' A' n' (part xs (pos + 2) v) ∧ New A' n' W.heap.size ∧ n' ≤ c' ∧ n' ≤ v) ∧ Hid (RF w' r A n c xs (pos + 2 + v, 0) ∧ Only W w' r)) := fun W q => by
            have := refBytes_any r A n c xs (pos + 2, 0) v W q (by omega)
            simp only [rbytes, hl, hk2, if_true, ne_eq, not_true_eq_false, if_false] at this
            exact this
          have HRP : ∀ q, Hid (RF ((w.drewN q).setCell ⟨r, 1, none⟩ (.int .i64 ((pos : Int) + 2))) r A n c xs (pos + 2, 0)) := fun q => kept ⟨by have := (hr.drewN q).set_pos (pos + 2); rw [show (((pos + 2 : Nat)) : Int) = (pos : Int) + 2 by omega] at this; exact this, by show pos + 2 ≤ n; omega, .inl rfl, hc, hb⟩
          have HOP := fun q => kept (((Only.refl w r).drewN q).setCell 1 (.int .i64 ((pos : Int) + 2)))
          have HM := kept (And.intro hk2 (And.intro hc (And.intro hb hvb)))
          obtain ⟨hw1, hw2, hw3, hw4, hw5⟩ := HWS.out
          have hw0 := HW0.out
          clear hr hl hc hp hG hvb e3 e4 hm hvm hk2
          go_enter Try.func36, Try.ntmps36
          go_wp2
          go_quiet ((go_at_call 46; exact Calls.quiet_of_same (turn (HG _ (HRD.out.drewN _)).out)))
          go_wp2
          go_quiet (fail)
          go_wp2_with fail
          with_reducible refine (HBY _ (HRP _).out).out.mono ?_
          rintro e w2 ⟨A2, n2, c2, rfl, h2, h3⟩
          go_wp2
          go_ret
          exact ⟨A2, n2, c2, rfl, ⟨h2.out.1, fun g hg => h2.out.2.1 g (Nat.lt_of_lt_of_le hg (HOP _).out.size), h2.out.2.2.1, by have := h2.out.2.2.2; have := HM.out.2.2.2; omega⟩, ⟨h3.out.1.1, HM.out.1, HM.out.2.1, HM.out.2.2.1⟩, (HOP _).out.trans h3.out.2⟩
        · have e3 : num (part xs pos 2) 0 ≤ most := by rw [hv]; exact hvm
          have e4 : ¬ pos + 2 + num (part xs pos 2) 0 ≤ n := by rw [hv]; exact hk2
          simp only [rtextX, hl, hk, e3, e4, if_true, ne_eq, not_true_eq_false, if_false]
          have hd2 : decide ((n : Int) - (pos : Int) - 2 < (v : Int)) = true := by simp; omega
          have HWS : Hid (IntKind.i64.wrap ((n : Int) - (pos : Int)) = (n : Int) - (pos : Int) ∧ IntKind.i64.wrap ((n : Int) - (pos : Int) - 2) = (n : Int) - (pos : Int) - 2 ∧ wrap64 (v : Int) = (v : Int) ∧ IntKind.i64.wrap (v : Int) = (v : Int)) := kept ⟨IntWalk.i64_in _ ⟨by omega, by omega⟩, IntWalk.i64_in _ ⟨by omega, by omega⟩, IntWalk.wrap64_in _ ⟨by omega, by omega⟩, IntWalk.i64_in _ ⟨by omega, by omega⟩⟩
          have HP := fun q => kept ((hr.drewN q).set_err 3)
          have HO := fun q => kept ((((Only.refl w r).drewN q).setCell 2 (.int .i64 3)))
          have HM := kept (And.intro hp (And.intro hc hb))
          obtain ⟨hw1, hw2, hw3, hw4⟩ := HWS.out
          have hw0 := HW0.out
          clear hr hl hc hp hG hvb e3 e4 hm hvm hk2
          go_enter Try.func36, Try.ntmps36
          go_wp2
          go_quiet ((go_at_call 46; exact Calls.quiet_of_same (turn (HG _ (HRD.out.drewN _)).out)))
          go_wp2
          go_quiet (fail)
          go_wp2
          go_ret
          exact ⟨none, 0, 0, rfl, ⟨Rd.nil_ _ _, New.nil_ _ _, Nat.le_refl _, Nat.zero_le _⟩, ⟨(HP _).out, HM.out.1, HM.out.2.1, HM.out.2.2⟩, (HO _).out⟩
      · have e3 : ¬ num (part xs pos 2) 0 ≤ most := by rw [hv]; exact hvm
        simp only [rtextX, hl, hk, e3, if_true, ne_eq, not_true_eq_false, if_false]
        have hd1 : decide (most < v) = true := by simp; omega
        have HP := fun q => kept ((hr.drewN q).set_err 5)
        have HO := fun q => kept ((((Only.refl w r).drewN q).setCell 2 (.int .i64 5)))
        have HM := kept (And.intro hp (And.intro hc hb))
        have hw0 := HW0.out
        clear hr hl hc hp hG hvb e3 hm hvm
        go_enter Try.func36, Try.ntmps36
        go_wp2
        go_quiet ((go_at_call 46; exact Calls.quiet_of_same (turn (HG _ (HRD.out.drewN _)).out)))
        go_wp2
        go_ret
        exact ⟨none, 0, 0, rfl, ⟨Rd.nil_ _ _, New.nil_ _ _, Nat.le_refl _, Nat.zero_le _⟩, ⟨(HP _).out, HM.out.1, HM.out.2.1, HM.out.2.2⟩, (HO _).out⟩
    · simp only [rtextX, hl, hk, ne_eq, not_true_eq_false, if_false]
      have HG := fun W => kept (refGet_short A n c (pos : Int) 2 W (by omega) (by omega) hb (.inr (by omega)) (by omega))
      have HP := fun q => kept ((hr.drewN q).set_err 3)
      have HO := fun q => kept ((((Only.refl w r).drewN q).setCell 2 (.int .i64 3)))
      have HM := kept (And.intro hp (And.intro hc hb))
      clear hr hl hc hp
      go_enter Try.func36, Try.ntmps36
      go_wp2
      go_quiet ((go_at_call 46; exact Calls.quiet_of_same (turn (HG _).out)))
      go_wp2
      go_ret
      exact ⟨none, 0, 0, rfl, ⟨Rd.nil_ _ _, New.nil_ _ _, Nat.le_refl _, Nat.zero_le _⟩, ⟨(HP _).out, HM.out.1, HM.out.2.1, HM.out.2.2⟩, (HO _).out⟩
  · simp only [rtextX, ne_eq, h0, not_false_eq_true, if_true]
    have HR := kept (And.intro hr (And.intro hp (And.intro hc hb)))
    have hne : (err != 0) = true := by simp [h0]
    clear hr hl hc hp h0
    go_enter Try.func36, Try.ntmps36
    go_wp2
    go_ret
    exact ⟨none, 0, 0, rfl, ⟨Rd.nil_ _ _, New.nil_ _ _, Nat.le_refl _, Nat.zero_le _⟩, HR.out, Only.refl _ _⟩
theorem refTextX64 (r : Nat) (A : Option Addr) (n c : Nat) (xs : List UInt8) (s : Nat × Int) (w : World) (h : RY w r A n c xs s) :
    Calls Try.prog 36 #[.pointer (some ⟨r, 0, none⟩), .int .i64 64] w fun e w' => ∃ A' n' c', e = .returned (.slice A' n' c') ∧ Hid (Rd w' A' n' (rtextX xs 64 s).1 ∧ New A' n' w.heap.size ∧ n' ≤ c' ∧ n' ≤ 65535) ∧ Hid (RY w' r A n c xs (rtextX xs 64 s).2 ∧ Only w w' r) := refTextX r A n c xs s 64 w h (by omega)
theorem refTextX1024 (r : Nat) (A : Option Addr) (n c : Nat) (xs : List UInt8) (s : Nat × Int) (w : World) (h : RY w r A n c xs s) :
    Calls Try.prog 36 #[.pointer (some ⟨r, 0, none⟩), .int .i64 1024] w fun e w' => ∃ A' n' c', e = .returned (.slice A' n' c') ∧ Hid (Rd w' A' n' (rtextX xs 1024 s).1 ∧ New A' n' w.heap.size ∧ n' ≤ c' ∧ n' ≤ 65535) ∧ Hid (RY w' r A n c xs (rtextX xs 1024 s).2 ∧ Only w w' r) := refTextX r A n c xs s 1024 w h (by omega)
end Go.Proofs.Ytcmjgkgdeaiifaa
