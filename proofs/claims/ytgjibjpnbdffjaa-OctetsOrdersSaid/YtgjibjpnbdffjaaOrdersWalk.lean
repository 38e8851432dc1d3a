/-
  The law OctetsOrders walked: for all three keys it returns true and writes nothing that was there.
-/
import Derived.Test.YtgjibjpnbdffjaaEnd
namespace Go.Proofs.Ytgjibjpnbdffjaa.octetsOrders
open Go.ChangeShapes Go.WideShapes Go.ChangeAt Go.RowKit
set_option linter.unusedVariables false

theorem ahead_trans : ∀ a b c : List UInt8, ahead a b = true → ahead b c = true → ahead a c = true
  | _, _, [], _, h => by simp [ahead] at h
  | _, [], _ :: _, h, _ => by simp [ahead] at h
  | [], _ :: _, _ :: _, _, _ => by simp [ahead]
  | x :: a, y :: b, z :: c, h, h' => by
    unfold ahead at h h' ⊢
    by_cases e : x = y
    · subst e
      rw [if_pos rfl] at h
      by_cases e2 : x = z
      · subst e2
        rw [if_pos rfl] at h' ⊢
        exact ahead_trans a b c h h'
      · rw [if_neg e2] at h' ⊢
        exact h'
    · rw [if_neg e] at h
      simp only [decide_eq_true_eq, UInt8.lt_iff_toNat_lt] at h
      by_cases e2 : y = z
      · subst e2
        rw [if_neg e]
        simpa [UInt8.lt_iff_toNat_lt] using h
      · rw [if_neg e2] at h'
        simp only [decide_eq_true_eq, UInt8.lt_iff_toNat_lt] at h'
        have : x ≠ z := fun e3 => by subst e3; omega
        rw [if_neg this]
        simp only [decide_eq_true_eq, UInt8.lt_iff_toNat_lt]
        omega
theorem ord_cases (a b : List UInt8) : (ordB a b = -1 ∧ ordB b a = 1 ∧ ahead a b = true ∧ ahead b a = false ∧ a ≠ b) ∨ (ordB a b = 0 ∧ ordB b a = 0 ∧ a = b) ∨ (ordB a b = 1 ∧ ordB b a = -1 ∧ ahead a b = false ∧ ahead b a = true ∧ a ≠ b) := by
  unfold ordB
  cases h : ahead a b
  · cases h' : ahead b a
    · exact .inr (.inl ⟨rfl, rfl, ahead_eq a b h h'⟩)
    · refine .inr (.inr ⟨rfl, rfl, rfl, rfl, ?_⟩)
      rintro rfl
      rw [ahead_self] at h'
      cases h'
  · have h' := ahead_asymm a b h
    refine .inl ⟨by rw [if_pos rfl], by rw [h']; rfl, rfl, h', ?_⟩
    rintro rfl
    rw [ahead_self] at h
    cases h
/-- How the signs of three comparisons go together. -/
theorem ord_three (a b c : List UInt8) : (ordB a b ≤ 0 → ordB b c ≤ 0 → ordB a c ≤ 0) ∧ (ordB a b < 0 → ordB b c ≤ 0 → ordB a c < 0) := by
  rcases ord_cases a b with ⟨h1, _, g1, _, _⟩ | ⟨h1, _, rfl⟩ | ⟨h1, _, _, _, _⟩
  · rcases ord_cases b c with ⟨h2, _, g2, _, _⟩ | ⟨h2, _, rfl⟩ | ⟨h2, _, _, _, _⟩
    · have := ahead_trans a b c g1 g2
      have h3 : ordB a c = -1 := by unfold ordB; rw [if_pos this]
      omega
    · omega
    · omega
  · exact ⟨fun _ h => h, fun h => by omega⟩
  · omega
theorem common_full : ∀ a b : List UInt8, a.length = b.length → (common a b = a.length ↔ a = b)
  | [], [], _ => by simp [common]
  | [], _ :: _, h => by simp at h
  | _ :: _, [], h => by simp at h
  | x :: a, y :: b, h => by
    have ih := common_full a b (by simpa using h)
    unfold common
    by_cases e : x = y
    · rw [if_pos e]
      simp only [List.length_cons, Nat.add_right_cancel_iff, ih, e, List.cons.injEq, true_and]
    · rw [if_neg e]
      simp [e]

theorem compare_zero (W : World) : Calls Try.prog 19 #[.slice (some ⟨W.heap.size, 0, none⟩) 1 1, .slice none 0 0] (W.alloc (.cells #[.int .u8 0] 5))
    fun e w' => e = .returned (.int .i64 1) ∧ W.alloc (.cells #[.int .u8 0] 5) = w' :=
  compare_any _ _ 1 0 1 0 [0] [] _ (Rd.of_own ((Blk.new W 5 #[.int .u8 0]).own (xs := [0]) (base := 0) (n := 1) (Nat.zero_le _) rfl (by unfold maxLen; omega))) (Rd.nil_ _ _)

theorem walk_one (w : World) (A : Option Addr) (n c : Nat) (B : Option Addr) (m d : Nat) (C : Option Addr) (l f : Nat) (o1 : Int) (o2 o3 : Int) (k : Nat)
    (hn : n ≤ 140737488351232) (hm : m ≤ 140737488351232)
    (H1 : Hid (Calls Try.prog 19 #[.slice A n c, .slice B m d] w fun e w' => e = .returned (.int .i64 o1) ∧ w = w'))
    (H2 : Hid (Calls Try.prog 19 #[.slice B m d, .slice C l f] w fun e w' => e = .returned (.int .i64 o2) ∧ w = w'))
    (H3 : Hid (Calls Try.prog 19 #[.slice A n c, .slice C l f] w fun e w' => e = .returned (.int .i64 o3) ∧ w = w'))
    (H4 : Hid (Calls Try.prog 19 #[.slice B m d, .slice A n c] w fun e w' => e = .returned (.int .i64 (-o1)) ∧ w = w'))
    (H5 : Hid (Calls Try.prog 20 #[.slice A n c, .slice B m d] w fun e w' => e = .returned (.int .i64 (k : Int)) ∧ Hid (∃ q, w' = w.drewN q)))
    (hk : o1 = 0 ∧ n = m ∧ k = n ∨ False) (hs : o2 ≤ 0 ∧ o3 ≤ 0 ∨ 0 < o2) :
    Calls Try.prog 10 #[.slice A n c, .slice B m d, .slice C l f] w fun e w' => e = .returned (.bool true) ∧ Below w.heap.size w w' := by
  rcases hk with ⟨rfl, rfl, rfl⟩ | h
  · rcases hs with ⟨g1, g2⟩ | g1
    · have g3 : decide (0 < o2) = false := by simp; omega
      have g4 : decide (o3 ≤ 0) = true := by simp; omega
      go_enter Try.func10, Try.ntmps10
      go_wp2_with (first | (go_at_call 19; (with_reducible refine (H1.out).mono ?_); rintro e w' ⟨rfl, rfl⟩) | (go_at_call 19; (with_reducible refine (H2.out).mono ?_); rintro e w' ⟨rfl, rfl⟩) | (go_at_call 19; (with_reducible refine (H3.out).mono ?_); rintro e w' ⟨rfl, rfl⟩) | (go_at_call 19; (with_reducible refine (H4.out).mono ?_); rintro e w' ⟨rfl, rfl⟩) | (go_at_call 20; (with_reducible refine (H5.out).mono ?_); rintro e w2 ⟨rfl, HW2⟩) | (go_at_call 19; (with_reducible refine (compare_zero _).mono ?_); rintro e w' ⟨rfl, rfl⟩))
      go_ret
      obtain ⟨q2, rfl⟩ := HW2.out
      exact ⟨rfl, (drewN_below (Below.refl _ _) _).alloc (Nat.le_refl _) _⟩
    · have g3 : decide (0 < o2) = true := by simp; omega
      go_enter Try.func10, Try.ntmps10
      go_wp2_with (first | (go_at_call 19; (with_reducible refine (H1.out).mono ?_); rintro e w' ⟨rfl, rfl⟩) | (go_at_call 19; (with_reducible refine (H2.out).mono ?_); rintro e w' ⟨rfl, rfl⟩) | (go_at_call 19; (with_reducible refine (H3.out).mono ?_); rintro e w' ⟨rfl, rfl⟩) | (go_at_call 19; (with_reducible refine (H4.out).mono ?_); rintro e w' ⟨rfl, rfl⟩) | (go_at_call 20; (with_reducible refine (H5.out).mono ?_); rintro e w2 ⟨rfl, HW2⟩) | (go_at_call 19; (with_reducible refine (compare_zero _).mono ?_); rintro e w' ⟨rfl, rfl⟩))
      go_ret
      obtain ⟨q2, rfl⟩ := HW2.out
      exact ⟨rfl, (drewN_below (Below.refl _ _) _).alloc (Nat.le_refl _) _⟩
  · exact h.elim
theorem walk_less (w : World) (A : Option Addr) (n c : Nat) (B : Option Addr) (m d : Nat) (C : Option Addr) (l f : Nat) (o2 o3 : Int) (k : Nat)
    (hn : n ≤ 140737488351232) (hm : m ≤ 140737488351232)
    (H1 : Hid (Calls Try.prog 19 #[.slice A n c, .slice B m d] w fun e w' => e = .returned (.int .i64 (-1)) ∧ w = w'))
    (H2 : Hid (Calls Try.prog 19 #[.slice B m d, .slice C l f] w fun e w' => e = .returned (.int .i64 o2) ∧ w = w'))
    (H3 : Hid (Calls Try.prog 19 #[.slice A n c, .slice C l f] w fun e w' => e = .returned (.int .i64 o3) ∧ w = w'))
    (H4 : Hid (Calls Try.prog 19 #[.slice B m d, .slice A n c] w fun e w' => e = .returned (.int .i64 (-(-1))) ∧ w = w'))
    (H5 : Hid (Calls Try.prog 20 #[.slice A n c, .slice B m d] w fun e w' => e = .returned (.int .i64 (k : Int)) ∧ Hid (∃ q, w' = w.drewN q)))
    (hk : n = m ∧ k ≠ n ∨ n ≠ m) (hs : o2 ≤ 0 ∧ o3 < 0 ∨ 0 < o2) :
    Calls Try.prog 10 #[.slice A n c, .slice B m d, .slice C l f] w fun e w' => e = .returned (.bool true) ∧ Below w.heap.size w w' := by
  rcases hk with ⟨rfl, hk⟩ | hk
  · have hkn : ((k : Int) == (n : Int)) = false := by simp; omega
    rcases hs with ⟨g1, g2⟩ | g1
    · have g3 : decide (0 < o2) = false := by simp; omega
      have g4 : decide (o3 ≤ 0) = true := by simp; omega
      have g5 : decide (o3 < 0) = true := by simp; omega
      go_enter Try.func10, Try.ntmps10
      go_wp2_with (first | (go_at_call 19; (with_reducible refine (H1.out).mono ?_); rintro e w' ⟨rfl, rfl⟩) | (go_at_call 19; (with_reducible refine (H2.out).mono ?_); rintro e w' ⟨rfl, rfl⟩) | (go_at_call 19; (with_reducible refine (H3.out).mono ?_); rintro e w' ⟨rfl, rfl⟩) | (go_at_call 19; (with_reducible refine (H4.out).mono ?_); rintro e w' ⟨rfl, rfl⟩) | (go_at_call 20; (with_reducible refine (H5.out).mono ?_); rintro e w2 ⟨rfl, HW2⟩) | (go_at_call 19; (with_reducible refine (compare_zero _).mono ?_); rintro e w' ⟨rfl, rfl⟩))
      go_ret
      obtain ⟨q2, rfl⟩ := HW2.out
      exact ⟨rfl, (drewN_below (Below.refl _ _) _).alloc (Nat.le_refl _) _⟩
    · have g3 : decide (0 < o2) = true := by simp; omega
      go_enter Try.func10, Try.ntmps10
      go_wp2_with (first | (go_at_call 19; (with_reducible refine (H1.out).mono ?_); rintro e w' ⟨rfl, rfl⟩) | (go_at_call 19; (with_reducible refine (H2.out).mono ?_); rintro e w' ⟨rfl, rfl⟩) | (go_at_call 19; (with_reducible refine (H3.out).mono ?_); rintro e w' ⟨rfl, rfl⟩) | (go_at_call 19; (with_reducible refine (H4.out).mono ?_); rintro e w' ⟨rfl, rfl⟩) | (go_at_call 20; (with_reducible refine (H5.out).mono ?_); rintro e w2 ⟨rfl, HW2⟩) | (go_at_call 19; (with_reducible refine (compare_zero _).mono ?_); rintro e w' ⟨rfl, rfl⟩))
      go_ret
      obtain ⟨q2, rfl⟩ := HW2.out
      exact ⟨rfl, (drewN_below (Below.refl _ _) _).alloc (Nat.le_refl _) _⟩
  · have hnm : ((n : Int) == (m : Int)) = false := by simp; omega
    rcases hs with ⟨g1, g2⟩ | g1
    · have g3 : decide (0 < o2) = false := by simp; omega
      have g4 : decide (o3 ≤ 0) = true := by simp; omega
      have g5 : decide (o3 < 0) = true := by simp; omega
      go_enter Try.func10, Try.ntmps10
      go_wp2_with (first | (go_at_call 19; (with_reducible refine (H1.out).mono ?_); rintro e w' ⟨rfl, rfl⟩) | (go_at_call 19; (with_reducible refine (H2.out).mono ?_); rintro e w' ⟨rfl, rfl⟩) | (go_at_call 19; (with_reducible refine (H3.out).mono ?_); rintro e w' ⟨rfl, rfl⟩) | (go_at_call 19; (with_reducible refine (H4.out).mono ?_); rintro e w' ⟨rfl, rfl⟩) | (go_at_call 20; (with_reducible refine (H5.out).mono ?_); rintro e w2 ⟨rfl, HW2⟩) | (go_at_call 19; (with_reducible refine (compare_zero _).mono ?_); rintro e w' ⟨rfl, rfl⟩))
      go_ret
      exact ⟨rfl, (Below.refl _ _).alloc (Nat.le_refl _) _⟩
    · have g3 : decide (0 < o2) = true := by simp; omega
      go_enter Try.func10, Try.ntmps10
      go_wp2_with (first | (go_at_call 19; (with_reducible refine (H1.out).mono ?_); rintro e w' ⟨rfl, rfl⟩) | (go_at_call 19; (with_reducible refine (H2.out).mono ?_); rintro e w' ⟨rfl, rfl⟩) | (go_at_call 19; (with_reducible refine (H3.out).mono ?_); rintro e w' ⟨rfl, rfl⟩) | (go_at_call 19; (with_reducible refine (H4.out).mono ?_); rintro e w' ⟨rfl, rfl⟩) | (go_at_call 20; (with_reducible refine (H5.out).mono ?_); rintro e w2 ⟨rfl, HW2⟩) | (go_at_call 19; (with_reducible refine (compare_zero _).mono ?_); rintro e w' ⟨rfl, rfl⟩))
      go_ret
      exact ⟨rfl, (Below.refl _ _).alloc (Nat.le_refl _) _⟩
theorem walk_more (w : World) (A : Option Addr) (n c : Nat) (B : Option Addr) (m d : Nat) (C : Option Addr) (l f : Nat) (o2 o3 : Int) (k : Nat)
    (hn : n ≤ 140737488351232) (hm : m ≤ 140737488351232)
    (H1 : Hid (Calls Try.prog 19 #[.slice A n c, .slice B m d] w fun e w' => e = .returned (.int .i64 1) ∧ w = w'))
    (H2 : Hid (Calls Try.prog 19 #[.slice B m d, .slice C l f] w fun e w' => e = .returned (.int .i64 o2) ∧ w = w'))
    (H3 : Hid (Calls Try.prog 19 #[.slice A n c, .slice C l f] w fun e w' => e = .returned (.int .i64 o3) ∧ w = w'))
    (H4 : Hid (Calls Try.prog 19 #[.slice B m d, .slice A n c] w fun e w' => e = .returned (.int .i64 (-1)) ∧ w = w'))
    (H5 : Hid (Calls Try.prog 20 #[.slice A n c, .slice B m d] w fun e w' => e = .returned (.int .i64 (k : Int)) ∧ Hid (∃ q, w' = w.drewN q)))
    (hk : n = m ∧ k ≠ n ∨ n ≠ m) :
    Calls Try.prog 10 #[.slice A n c, .slice B m d, .slice C l f] w fun e w' => e = .returned (.bool true) ∧ Below w.heap.size w w' := by
  rcases hk with ⟨rfl, hk⟩ | hk
  · have hkn : ((k : Int) == (n : Int)) = false := by simp; omega
    go_enter Try.func10, Try.ntmps10
    go_wp2_with (first | (go_at_call 19; (with_reducible refine (H1.out).mono ?_); rintro e w' ⟨rfl, rfl⟩) | (go_at_call 19; (with_reducible refine (H2.out).mono ?_); rintro e w' ⟨rfl, rfl⟩) | (go_at_call 19; (with_reducible refine (H3.out).mono ?_); rintro e w' ⟨rfl, rfl⟩) | (go_at_call 19; (with_reducible refine (H4.out).mono ?_); rintro e w' ⟨rfl, rfl⟩) | (go_at_call 20; (with_reducible refine (H5.out).mono ?_); rintro e w2 ⟨rfl, HW2⟩) | (go_at_call 19; (with_reducible refine (compare_zero _).mono ?_); rintro e w' ⟨rfl, rfl⟩))
    go_ret
    obtain ⟨q2, rfl⟩ := HW2.out
    exact ⟨rfl, (drewN_below (Below.refl _ _) _).alloc (Nat.le_refl _) _⟩
  · have hnm : ((n : Int) == (m : Int)) = false := by simp; omega
    go_enter Try.func10, Try.ntmps10
    go_wp2_with (first | (go_at_call 19; (with_reducible refine (H1.out).mono ?_); rintro e w' ⟨rfl, rfl⟩) | (go_at_call 19; (with_reducible refine (H2.out).mono ?_); rintro e w' ⟨rfl, rfl⟩) | (go_at_call 19; (with_reducible refine (H3.out).mono ?_); rintro e w' ⟨rfl, rfl⟩) | (go_at_call 19; (with_reducible refine (H4.out).mono ?_); rintro e w' ⟨rfl, rfl⟩) | (go_at_call 20; (with_reducible refine (H5.out).mono ?_); rintro e w2 ⟨rfl, HW2⟩) | (go_at_call 19; (with_reducible refine (compare_zero _).mono ?_); rintro e w' ⟨rfl, rfl⟩))
    go_ret
    exact ⟨rfl, (Below.refl _ _).alloc (Nat.le_refl _) _⟩

/-- The walk, with what the calls answer as letters. -/
theorem walk_with (w : World) (A : Option Addr) (n c : Nat) (B : Option Addr) (m d : Nat) (C : Option Addr) (l f : Nat) (o1 o2 o3 : Int) (k : Nat)
    (hn : n ≤ 140737488351232) (hm : m ≤ 140737488351232)
    (H1 : Hid (Calls Try.prog 19 #[.slice A n c, .slice B m d] w fun e w' => e = .returned (.int .i64 o1) ∧ w = w'))
    (H2 : Hid (Calls Try.prog 19 #[.slice B m d, .slice C l f] w fun e w' => e = .returned (.int .i64 o2) ∧ w = w'))
    (H3 : Hid (Calls Try.prog 19 #[.slice A n c, .slice C l f] w fun e w' => e = .returned (.int .i64 o3) ∧ w = w'))
    (H4 : Hid (Calls Try.prog 19 #[.slice B m d, .slice A n c] w fun e w' => e = .returned (.int .i64 (-o1)) ∧ w = w'))
    (H5 : Hid (Calls Try.prog 20 #[.slice A n c, .slice B m d] w fun e w' => e = .returned (.int .i64 (k : Int)) ∧ Hid (∃ q, w' = w.drewN q)))
    (ho1 : o1 = -1 ∨ o1 = 0 ∨ o1 = 1) (hk : o1 = 0 ↔ n = m ∧ k = n) (hs1 : o1 ≤ 0 → o2 ≤ 0 → o3 ≤ 0) (hs2 : o1 < 0 → o2 ≤ 0 → o3 < 0) :
    Calls Try.prog 10 #[.slice A n c, .slice B m d, .slice C l f] w fun e w' => e = .returned (.bool true) ∧ Below w.heap.size w w' := by
  have HS : Hid ((o1 ≤ 0 → o2 ≤ 0 → o3 ≤ 0) ∧ (o1 < 0 → o2 ≤ 0 → o3 < 0)) := ⟨hs1, hs2⟩
  have HK := kept hk
  have hcase : (o1 = 0 ∧ n = m ∧ k = n) ∨ (o1 = -1 ∧ n = m ∧ k ≠ n) ∨ (o1 = -1 ∧ n ≠ m) ∨ (o1 = 1 ∧ n = m ∧ k ≠ n) ∨ (o1 = 1 ∧ n ≠ m) := by omega
  clear ho1 hk hs1 hs2
  have hs : (o1 ≤ 0 ∧ o2 ≤ 0 ∧ o3 ≤ 0 ∧ (o1 < 0 → o3 < 0)) ∨ 0 < o2 ∨ 0 < o1 := by have := HS.out; omega
  clear HS HK
  rcases hcase with ⟨rfl, rfl, rfl⟩ | ⟨rfl, rfl, hk⟩ | ⟨rfl, hk⟩ | ⟨rfl, rfl, hk⟩ | ⟨rfl, hk⟩
  · rcases hs with ⟨_, g1, g2, _⟩ | g1 | g1
    · exact walk_one w A k c B k d C l f 0 o2 o3 k hn hm H1 H2 H3 H4 H5 (.inl ⟨rfl, rfl, rfl⟩) (.inl ⟨g1, g2⟩)
    · exact walk_one w A k c B k d C l f 0 o2 o3 k hn hm H1 H2 H3 H4 H5 (.inl ⟨rfl, rfl, rfl⟩) (.inr g1)
    · omega
  · rcases hs with ⟨_, g1, _, g2⟩ | g1 | g1
    · exact walk_less w A n c B n d C l f o2 o3 k hn hm H1 H2 H3 H4 H5 (.inl ⟨rfl, hk⟩) (.inl ⟨g1, g2 (by omega)⟩)
    · exact walk_less w A n c B n d C l f o2 o3 k hn hm H1 H2 H3 H4 H5 (.inl ⟨rfl, hk⟩) (.inr g1)
    · omega
  · rcases hs with ⟨_, g1, _, g2⟩ | g1 | g1
    · exact walk_less w A n c B m d C l f o2 o3 k hn hm H1 H2 H3 H4 H5 (.inr hk) (.inl ⟨g1, g2 (by omega)⟩)
    · exact walk_less w A n c B m d C l f o2 o3 k hn hm H1 H2 H3 H4 H5 (.inr hk) (.inr g1)
    · omega
  · exact walk_more w A n c B n d C l f o2 o3 k hn hm H1 H2 H3 H4 H5 (.inl ⟨rfl, hk⟩)
  · exact walk_more w A n c B m d C l f o2 o3 k hn hm H1 H2 H3 H4 H5 (.inr hk)

theorem walk (w : World) (A : Option Addr) (n c : Nat) (xs : List UInt8) (h1 : Rd w A n xs) (hnc : n ≤ c) (hn : n ≤ 140737488351232)
    (B : Option Addr) (m d : Nat) (ys : List UInt8) (h2 : Rd w B m ys) (hmd : m ≤ d) (hm : m ≤ 140737488351232)
    (C : Option Addr) (l f : Nat) (zs : List UInt8) (h3 : Rd w C l zs) (hlf : l ≤ f) (hl : l ≤ 140737488351232) :
    Calls Try.prog 10 #[.slice A n c, .slice B m d, .slice C l f] w fun e w' => e = .returned (.bool true) ∧ Below w.heap.size w w' := by
  have H1 := kept (compare_any A B n m c d xs ys w h1 h2)
  have H2 := kept (compare_any B C m l d f ys zs w h2 h3)
  have H3 := kept (compare_any A C n l c f xs zs w h1 h3)
  have H4 := kept (compare_any B A m n d c ys xs w h2 h1)
  have H5 := kept (common_any A B n m c d xs ys w h1 h2 (by omega) (by omega))
  have hcl := common_le xs ys
  have hfull := common_full xs ys
  have hx := h1.1
  have hy := h2.1
  have h6 := ord_three xs ys zs
  have hc1 := ord_cases xs ys
  have hc2 := ord_cases ys zs
  have hc3 := ord_cases xs zs
  clear h1 h2 h3
  have hneg : ordB ys xs = -ordB xs ys := by rcases hc1 with ⟨a, b, _⟩ | ⟨a, b, _⟩ | ⟨a, b, _⟩ <;> rw [a, b] <;> rfl
  rw [hneg] at H4
  have hk : ordB xs ys = 0 ↔ n = m ∧ common xs ys = n := by
    constructor
    · intro h
      have e : xs = ys := by rcases hc1 with ⟨a, _⟩ | ⟨_, _, e⟩ | ⟨a, _⟩ <;> first | exact e | omega
      subst e
      exact ⟨by omega, by rw [← hx]; exact (common_full xs xs rfl).2 rfl⟩
    · rintro ⟨hnm, hcn⟩
      have e : xs = ys := (hfull (by omega)).1 (by omega)
      rcases hc1 with ⟨_, _, _, _, h⟩ | ⟨h, _⟩ | ⟨_, _, _, _, h⟩
      · exact absurd e h
      · exact h
      · exact absurd e h
  exact walk_with w A n c B m d C l f _ _ _ _ hn hm H1 H2 H3 H4 H5 (by rcases hc1 with ⟨a, _⟩ | ⟨a, _⟩ | ⟨a, _⟩ <;> rw [a] <;> simp) hk h6.1 h6.2
end Go.Proofs.Ytgjibjpnbdffjaa.octetsOrders
