/-
  free.New in two sentences, the fixed fact of the layer, and terrierref06.Same.
-/
import Derived.Test.YtahciaccnblfoaaFw
namespace Go.Proofs.Ytahciaccnblfoaa
open Go.ChangeShapes Go.WideShapes Go.ChangeAt Go.RowKit
set_option linter.unusedVariables false

theorem new_bad (z : Int) (A : Option Addr) (n c : Nat) (Z : List Int) (m : Int) (w : World) (h : RdI w A n Z) (hn : n ≤ 1000000) (he : newErr z Z = m) (hm : m ≠ 0) :
    Calls Try.prog 9 #[.int .i64 z, .slice A n c] w fun e w' => e = .returned (.tuple #[.pointer none, .int .i64 m]) ∧ Hid (Below w.heap.size w w') := by
  refine (new_any z A n c Z w h hn).mono ?_
  rintro e w' ⟨P, rfl, hr⟩
  rw [he]
  rcases hr.out with ⟨hb, ⟨_, rfl⟩ | ⟨h0, _⟩⟩
  · exact ⟨rfl, kept hb⟩
  · exact absurd (he ▸ h0) hm
theorem new_good (z : Int) (A : Option Addr) (n c : Nat) (Z : List Int) (w : World) (h : RdI w A n Z) (hn : n ≤ 1000000) (he : newErr z Z = 0) :
    Calls Try.prog 9 #[.int .i64 z, .slice A n c] w fun e w' => ∃ f : Fl, e = .returned (.tuple #[.pointer (some ⟨f.r, 0, none⟩), .int .i64 0]) ∧ Hid (Lst w' f ⟨z, addAll [] Z, []⟩ ∧ Below w.heap.size w w' ∧ ∀ j, f.own j → w.heap.size ≤ j) := by
  refine (new_any z A n c Z w h hn).mono ?_
  rintro e w' ⟨P, rfl, hr⟩
  rw [he]
  rcases hr.out with ⟨hb, ⟨h0, _⟩ | ⟨_, f, rfl, hl, ho⟩⟩
  · exact absurd he h0
  · exact ⟨f, rfl, kept ⟨hl, hb, ho⟩⟩
/-- What a call leaves of a list of the caller's own is new to an elder world. -/
theorem LLeft.only_new {a w w' : World} {f : Fl} {s : FSt} (h : LLeft w w' f s) (hb : Below a.heap.size a w) (ho : ∀ j, f.own j → a.heap.size ≤ j) : Below a.heap.size a w' ∧ ∃ f', f'.r = f.r ∧ Lst w' f' s ∧ ∀ j, f'.own j → a.heap.size ≤ j := by
  obtain ⟨f', h1, h2, h3, h4⟩ := h
  exact ⟨Turned.only_new hb h3 hb.size ho, f', h1, h2, fun j hj => by
    rcases h4 j hj with h5 | h5
    · exact ho j h5
    · exact Nat.le_trans hb.size h5⟩

set_option maxHeartbeats 1000000 in
theorem lives_any (w : World) : Calls Try.prog 8 #[] w fun e w' => e = .returned (.bool true) ∧ Below w.heap.size w w' := by
  have hR : RdI (w.alloc (.cells #[.int .i64 5, .int .i64 3] 3)) (some ⟨w.heap.size, 0, none⟩) 2 [5, 3] := ⟨rfl, fun _ => ⟨w.heap.size, 0, rfl, fun j hj => by
    have hb := Blk.new w 3 #[.int .i64 5, .int .i64 3]
    rw [Nat.zero_add, hb.cell]
    rcases j with _ | _ | j
    · rfl
    · rfl
    · simp at hj; omega⟩⟩
  have HNW := kept (new_good 8 _ 2 2 _ _ hR (by omega) (by decide))
  have HB0 : Hid (Below w.heap.size w (w.alloc (.cells #[.int .i64 5, .int .i64 3] 3))) := kept ((Below.refl _ _).alloc (Nat.le_refl _) _)
  clear hR
  go_enter Try.func8, Try.ntmps8
  go_wp2_with (first | (go_at_call 9; (with_reducible refine (HNW.out).mono ?_); rintro e w1 ⟨f, rfl, h1⟩))
  have HO : Hid (∀ j, f.own j → w.heap.size ≤ j) := kept fun j hj => Nat.le_trans HB0.out.size (h1.out.2.2 j hj)
  have HB1 : Hid (Below w.heap.size w w1) := kept (HB0.out.trans (h1.out.2.1.mono HB0.out.size))
  have HT := kept (take_any f _ w1 h1.out.1)
  clear h1
  go_wp2_with (first | (go_at_call 11; (with_reducible refine (HT.out).mono ?_); rintro e w2 ⟨rfl, h2⟩))
  obtain ⟨hb2, f2, hr2, hl2, ho2⟩ := h2.out.only_new HB1.out HO.out
  have HB2 := kept hb2
  have HRM := kept (room_any f2 _ w2 hl2)
  rw [hr2] at HRM
  clear h2 hb2 hl2 ho2 hr2
  go_wp2_with (first | (go_at_call 15; (with_reducible refine (HRM.out).mono ?_); rintro e w3 ⟨rfl, rfl⟩))
  go_ret
  exact ⟨rfl, HB2.out⟩

theorem eq_next {X Y : List Int} {k : Nat} (h : X.take k = Y.take k) (h1 : k < X.length) (h2 : k < Y.length) : X.take (k + 1) = Y.take (k + 1) ↔ X[k] = Y[k] := by
  rw [take_snoc h1, take_snoc h2, h]
  simp only [List.append_cancel_left_eq, List.cons.injEq, and_true]
set_option maxHeartbeats 1000000 in
theorem same_i (A B : Option Addr) (n m c d : Nat) (X Y : List Int) (w : World) (h1 : RdI w A n X) (h2 : RdI w B m Y) (hn : n ≤ 1000000) :
    Calls Try.prog 23 #[.slice A n c, .slice B m d] w fun e w' => e = .returned (.bool (decide (X = Y))) ∧ Hid (∃ q, w' = w.drewN q) := by
  have HA := kept h1
  have HB := kept h2
  clear h1 h2
  by_cases hnm : n = m
  · subst hnm
    go_enter Try.func23, Try.ntmps23
    go_wp2
    go_loopw [13] (fun i wr => ∃ k : Nat, k ≤ n ∧ i = .int .i64 (k : Int) ∧ Hid (X.take k = Y.take k) ∧ Hid (∃ q, wr = w.drewN q)) (fun i _ => n - (intOf i).toNat)
    case atStart => exact ⟨0, by omega, rfl, kept (by simp), kept ⟨0, rfl⟩⟩
    case round =>
      obtain ⟨k, hk, rfl, HC, HW⟩ := hrel
      obtain ⟨q, rfl⟩ := HW.out
      by_cases hlt : k < n
      · obtain ⟨b, o, rfl, hca⟩ := HA.out.at_ hlt
        obtain ⟨b2, o2, rfl, hcb⟩ := HB.out.at_ hlt
        have HX := kept (eq_next HC.out (by rw [HA.out.1]; exact hlt) (by rw [HB.out.1]; exact hlt))
        have HXY : Hid (X = Y → X[k]'(by rw [HA.out.1]; exact hlt) = Y[k]'(by rw [HB.out.1]; exact hlt)) := kept (fun e => by simp [e])
        generalize X[k]'(by rw [HA.out.1]; exact hlt) = x at hca HX HXY
        generalize Y[k]'(by rw [HB.out.1]; exact hlt) = y at hcb HX HXY
        have hi1 : (0 : Int) ≤ (k : Int) := by omega
        have hi2 : (k : Int) < (n : Int) := by omega
        by_cases hxy : x = y
        · subst hxy
          go_wp2
          go_quiet (fail)
          go_wp2
          go_roundw
          case rel => exact ⟨k + 1, by omega, by go_num, kept (HX.out.2 (by first | trivial | rfl)), kept ⟨_, rfl⟩⟩
          case measure => simp [intOf]; omega
        · have hb : (x != y) = true := by simpa using hxy
          have HF : Hid (decide (X = Y) = false) := kept (by simpa using fun e => hxy (HXY.out e))
          clear hxy
          go_wp2
          go_quiet (fail)
          go_wp2
          go_ret
          exact ⟨ret_bool HF.out.symm, kept ⟨_, World.drewN_drewN _ _ _⟩⟩
      · obtain rfl : k = n := by omega
        have HF : Hid (decide (X = Y) = true) := kept (by
          have := HC.out
          rw [List.take_of_length_le (by rw [HA.out.1]; exact Nat.le_refl _), List.take_of_length_le (by rw [HB.out.1]; exact Nat.le_refl _)] at this
          simpa using this)
        go_wp2
        go_ret
        exact ⟨ret_bool HF.out.symm, HW⟩
  · have hb : ((n : Int) != (m : Int)) = true := by simp; omega
    have HF : Hid (decide (X = Y) = false) := kept (by simp only [decide_eq_false_iff_not]; intro e; apply hnm; rw [← HA.out.1, ← HB.out.1, e])
    clear hnm
    go_enter Try.func23, Try.ntmps23
    go_wp2
    go_ret
    exact ⟨ret_bool HF.out.symm, kept ⟨0, rfl⟩⟩
theorem same_true (A B : Option Addr) (n c d : Nat) (X : List Int) (w : World) (h1 : RdI w A n X) (h2 : RdI w B n X) (hn : n ≤ 1000000) :
    Calls Try.prog 23 #[.slice A n c, .slice B n d] w fun e w' => e = .returned (.bool true) ∧ Hid (∃ q, w' = w.drewN q) := by
  have h := same_i A B n n c d X X w h1 h2 hn
  simpa using h
end Go.Proofs.Ytahciaccnblfoaa
