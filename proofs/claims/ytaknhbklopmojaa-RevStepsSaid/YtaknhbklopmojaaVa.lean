/-
  A revision as plain data: what is right, its bytes, their order; the least bytes of a Main. No program is named.
-/
import Derived.Test.YtaknhbklopmojaaEnd
import Derived.Test.YtaknhbklopmojaaMk
namespace Go.Proofs.Ytaknhbklopmojaa
open Go.ChangeShapes Go.WideShapes Go.ChangeAt Go.RowKit
set_option linter.unusedVariables false

def rightR (M S : Int) : Bool := decide (1 ≤ M) && decide (M ≤ 4611686018427387904) && decide (0 ≤ S) && decide (S ≤ 4611686018427387904)
theorem rightR_nat {M S : Int} (h : rightR M S = true) : ∃ m s : Nat, M = (m : Int) ∧ S = (s : Int) ∧ 1 ≤ m ∧ m ≤ 4611686018427387904 ∧ s ≤ 4611686018427387904 := by
  simp only [rightR, Bool.and_eq_true, decide_eq_true_eq] at h
  exact ⟨M.toNat, S.toNat, by omega, by omega, by omega, by omega, by omega⟩
theorem rightR_yes {m s : Nat} (h1 : 1 ≤ m) (h2 : m ≤ 4611686018427387904) (h3 : s ≤ 4611686018427387904) : rightR (m : Int) (s : Int) = true := by
  simp only [rightR, Bool.and_eq_true, decide_eq_true_eq]; omega
/-- The bytes of a revision, and a sign behind them. -/
def revB (m s : Nat) (sg : List UInt8) : List UInt8 := be m 8 ++ ([95] ++ (be s 8 ++ sg))
def signB (t : Bool) : List UInt8 := if t then [116] else []
theorem revB_length (m s : Nat) (sg : List UInt8) : (revB m s sg).length = 17 + sg.length := by simp [revB, be_length]; omega
theorem part_front (a b : List UInt8) {s : Nat} (hs : a.length = s) : part (a ++ b) 0 s = a := by
  subst hs
  simp [part]
theorem revB_main (m s : Nat) (sg : List UInt8) : part (revB m s sg) 0 8 = be m 8 := part_front _ _ (be_length _ _)
theorem revB_sub (m s : Nat) (sg : List UInt8) : part (revB m s sg) 9 8 = be s 8 := by
  have e : revB m s sg = (be m 8 ++ [95]) ++ (be s 8 ++ sg) := by simp [revB]
  rw [e]
  unfold part
  rw [List.drop_left' (by simp [be_length])]
  exact List.take_left' (be_length _ _)

theorem ahead_app : ∀ (a b x y : List UInt8), a.length = b.length → ahead (a ++ x) (b ++ y) = if a = b then ahead x y else ahead a b
  | [], [], x, y, _ => by simp
  | [], _ :: _, _, _, h => by simp at h
  | _ :: _, [], _, _, h => by simp at h
  | p :: a, q :: b, x, y, h => by
    have ih := ahead_app a b x y (by simpa using h)
    simp only [List.cons_append, ahead, List.cons.injEq]
    by_cases e : p = q
    · simp [e, ih]
    · simp [e]
theorem ahead_num (n m s : Nat) : ahead (be n s) (be m s) = decide (n % 256 ^ s < m % 256 ^ s) := by
  induction s with
  | zero => simp [be, ahead, Nat.mod_one]
  | succ s ih =>
    rw [be_cons, be_cons]
    unfold ahead
    rw [ih, Nat.mod_pow_succ, Nat.mod_pow_succ]
    have hX : 0 < 256 ^ s := Nat.pow_pos (by omega)
    have h1 := Nat.mod_lt n hX
    have h2 := Nat.mod_lt m hX
    have e1 : UInt8.ofNat (n / 256 ^ s) = UInt8.ofNat (m / 256 ^ s) ↔ n / 256 ^ s % 256 = m / 256 ^ s % 256 := by
      rw [← UInt8.toNat_inj]; simp
    have e2 : UInt8.ofNat (n / 256 ^ s) < UInt8.ofNat (m / 256 ^ s) ↔ n / 256 ^ s % 256 < m / 256 ^ s % 256 := by
      rw [UInt8.lt_iff_toNat_lt]; simp
    generalize n / 256 ^ s % 256 = p at e1 e2 ⊢
    generalize m / 256 ^ s % 256 = q at e1 e2 ⊢
    generalize n % 256 ^ s = x at h1 ⊢
    generalize m % 256 ^ s = y at h2 ⊢
    generalize 256 ^ s = X at e1 e2 h1 h2 ⊢
    by_cases h : p = q
    · rw [if_pos (e1.2 h), h]
      congr 1
      simp
    · rw [if_neg (fun e => h (e1.1 e))]
      congr 1
      rw [eq_iff_iff, e2]
      constructor
      · intro hl
        have := Nat.mul_le_mul_left X (show p + 1 ≤ q by omega)
        rw [Nat.mul_succ] at this
        omega
      · intro hl
        rcases Nat.lt_or_gt_of_ne h with h' | h'
        · exact h'
        · have := Nat.mul_le_mul_left X (show q + 1 ≤ p by omega)
          rw [Nat.mul_succ] at this
          omega
theorem ahead_be8 {n m : Nat} (hn : n < 18446744073709551616) (hm : m < 18446744073709551616) : ahead (be n 8) (be m 8) = decide (n < m) := by
  rw [ahead_num, Nat.mod_eq_of_lt (by omega), Nat.mod_eq_of_lt (by omega)]
theorem be8_eq {n m : Nat} (hn : n < 18446744073709551616) (hm : m < 18446744073709551616) : be n 8 = be m 8 ↔ n = m :=
  ⟨fun h => be_inj (s := 8) (by omega) (by omega) h, fun h => by rw [h]⟩
theorem ahead_rev {m s m' s' : Nat} (g g' : List UInt8) (h1 : m < 18446744073709551616) (h2 : m' < 18446744073709551616) (h3 : s < 18446744073709551616) (h4 : s' < 18446744073709551616) :
    ahead (revB m s g) (revB m' s' g') = if m = m' then (if s = s' then ahead g g' else decide (s < s')) else decide (m < m') := by
  unfold revB
  rw [ahead_app _ _ _ _ (by simp [be_length]), ahead_app _ _ _ _ rfl, ahead_app _ _ _ _ (by simp [be_length]), ahead_be8 h1 h2, ahead_be8 h3 h4]
  simp only [be8_eq h1 h2, be8_eq h3 h4, if_true]
theorem revB_inj {m s m' s' : Nat} {t t' : Bool} (h1 : m < 18446744073709551616) (h2 : m' < 18446744073709551616) (h3 : s < 18446744073709551616) (h4 : s' < 18446744073709551616) (h : revB m s (signB t) = revB m' s' (signB t')) : m = m' ∧ s = s' ∧ t = t' := by
  have hl := congrArg List.length h
  rw [revB_length, revB_length] at hl
  have a1 := congrArg (fun l => part l 0 8) h
  have a2 := congrArg (fun l => part l 9 8) h
  simp only [revB_main, revB_sub] at a1 a2
  refine ⟨(be8_eq h1 h2).1 a1, (be8_eq h3 h4).1 a2, ?_⟩
  cases t <;> cases t' <;> simp [signB] at hl <;> rfl
/-- The order of revisions. -/
def ordR (M S M' S' : Int) : Int := if M < M' then -1 else if M' < M then 1 else if S < S' then -1 else if S' < S then 1 else 0
theorem ordB_rev {m s m' s' : Nat} (g g' : List UInt8) (h1 : m < 18446744073709551616) (h2 : m' < 18446744073709551616) (h3 : s < 18446744073709551616) (h4 : s' < 18446744073709551616) :
    ordB (revB m s g) (revB m' s' g') = if m = m' ∧ s = s' then ordB g g' else ordR m s m' s' := by
  unfold ordB ordR
  rw [ahead_rev g g' h1 h2 h3 h4, ahead_rev g' g h2 h1 h4 h3]
  by_cases e1 : m = m'
  · subst e1
    by_cases e2 : s = s'
    · subst e2; simp
    · have : ¬ s' = s := fun h => e2 h.symm
      simp only [e2, this, if_true, if_false, and_false, decide_eq_true_eq, Int.ofNat_lt, Int.lt_irrefl]
  · have : ¬ m' = m := fun h => e1 h.symm
    simp only [e1, this, if_false, false_and, decide_eq_true_eq, Int.ofNat_lt]
    by_cases h : m < m'
    · simp [h]
    · have h' : m' < m := by omega
      simp [h, h']
theorem ordB_zero {a b : List UInt8} (h : ordB a b = 0) : a = b := by
  unfold ordB at h
  cases h1 : ahead a b
  · cases h2 : ahead b a
    · exact ahead_eq a b h1 h2
    · rw [h1, h2] at h; simp at h
  · rw [h1] at h; simp at h
theorem ordB_self (a : List UInt8) : ordB a a = 0 := by simp [ordB, ahead_self]
/-- The least bytes of a Main. -/
def lowB (M : Int) : List UInt8 := if M < 1 then [] else if 4611686018427387904 < M then revB 4611686018427387904 4611686018427387904 [117] else revB M.toNat 0 []
theorem ordB_nil_r (a : List UInt8) : ordB a [] = if a = [] then 0 else 1 := by cases a <;> simp [ordB, ahead]
theorem ordB_nil_l (a : List UInt8) : ordB [] a ≤ 0 := by cases a <;> simp [ordB, ahead]
/-- A right revision's bytes are at least those of a Main just if its own is. -/
theorem low_rev {m s : Nat} (t : Bool) (M : Int) (h1 : 1 ≤ m) (h2 : m ≤ 4611686018427387904) (h3 : s ≤ 4611686018427387904) : (decide (0 ≤ ordB (revB m s (signB t)) (lowB M))) = decide (M ≤ (m : Int)) := by
  unfold lowB
  split
  · next h =>
    have : ¬ revB m s (signB t) = [] := fun e => by have := congrArg List.length e; rw [revB_length] at this; simp at this
    rw [ordB_nil_r, if_neg this]
    simp; omega
  · next h =>
    split
    · next h' =>
      rw [ordB_rev _ _ (by omega) (by omega) (by omega) (by omega)]
      have e : decide (M ≤ (m : Int)) = false := by simp; omega
      rw [e]
      split
      · cases t <;> simp [signB, ordB, ahead]
      · next hn =>
        unfold ordR
        by_cases g1 : (m : Int) < 4611686018427387904
        · simp [g1]
        · have g2 : (m : Int) = 4611686018427387904 := by omega
          have g3 : (s : Int) < 4611686018427387904 := by
            rcases Nat.lt_or_ge s 4611686018427387904 with q | q
            · omega
            · exact absurd ⟨by omega, by omega⟩ hn
          simp [g2, g3]
    · next h' =>
      obtain ⟨k, rfl⟩ : ∃ k : Nat, M = (k : Int) := ⟨M.toNat, by omega⟩
      rw [Int.toNat_natCast, ordB_rev _ _ (by omega) (by omega) (by omega) (by omega)]
      split
      · next e =>
        rw [e.1]
        cases t <;> simp [signB, ordB, ahead]
      · next hn =>
        unfold ordR
        by_cases g1 : (m : Int) < (k : Int)
        · simp [g1]; omega
        · by_cases g2 : (k : Int) < (m : Int)
          · simp [g1, g2]; omega
          · have : m = k := by omega
            have hs : ¬ s = 0 := fun e => hn ⟨this, e⟩
            have g4 : (0 : Int) < (s : Int) := by omega
            have g5 : ¬ (s : Int) < ((0 : Nat) : Int) := by omega
            simp only [if_neg g1, if_neg g2, if_neg g5]
            rw [if_pos (by simpa using g4)]
            simp; omega
/-- The least bytes rise. -/
theorem lowB_le {M N : Int} (h : M ≤ N) : ordB (lowB M) (lowB N) ≤ 0 ∧ (1 ≤ M → N ≤ 4611686018427387904 → (ordB (lowB M) (lowB N) = 0 ↔ M = N)) := by
  unfold lowB
  by_cases h1 : M < 1
  · rw [if_pos h1]
    refine ⟨?_, fun g => by omega⟩
    exact ordB_nil_l _
  · rw [if_neg h1, if_neg (show ¬ N < 1 by omega)]
    by_cases h3 : 4611686018427387904 < M
    · rw [if_pos h3, if_pos (show 4611686018427387904 < N by omega), ordB_self]
      exact ⟨Int.le_refl _, fun _ g => by omega⟩
    · rw [if_neg h3]
      obtain ⟨k, rfl⟩ : ∃ k : Nat, M = (k : Int) := ⟨M.toNat, by omega⟩
      by_cases h4 : 4611686018427387904 < N
      · rw [if_pos h4, Int.toNat_natCast, ordB_rev _ _ (by omega) (by omega) (by omega) (by omega)]
        refine ⟨?_, fun _ g => by omega⟩
        split
        · next e => exact absurd e.2 (by omega)
        · unfold ordR
          by_cases g1 : (k : Int) < ((4611686018427387904 : Nat) : Int)
          · rw [if_pos g1]; omega
          · rw [if_neg g1, if_neg (by omega), if_pos (by omega)]; omega
      · rw [if_neg h4]
        obtain ⟨l, rfl⟩ : ∃ l : Nat, N = (l : Int) := ⟨N.toNat, by omega⟩
        rw [Int.toNat_natCast, Int.toNat_natCast, ordB_rev _ _ (by omega) (by omega) (by omega) (by omega)]
        by_cases e : k = l
        · subst e; simp [ordB_self]
        · rw [if_neg (fun g => e g.1)]
          unfold ordR
          rw [if_pos (by omega)]
          exact ⟨by omega, fun _ _ => ⟨fun q => by omega, fun q => by omega⟩⟩
end Go.Proofs.Ytaknhbklopmojaa
