/-
  What package rev answers, call by call: Right, Encode, Decode, Low; the document's own.
-/
import Derived.Test.YtaknhbklopmojaaVr
namespace Go.Proofs.Ytaknhbklopmojaa
open Go.ChangeShapes Go.WideShapes Go.ChangeAt Go.RowKit
set_option linter.unusedVariables false
set_option linter.unusedSimpArgs false

theorem right_r (M S : Int) (w : World) :
    Calls Try.prog 12 #[.agg #[.int .i64 M, .int .i64 S]] w fun e w' => e = .returned (.bool (rightR M S)) ∧ Below w.heap.size w w' := by
  have HB0 := kept ((Below.refl w.heap.size w).alloc (Nat.le_refl _) (.cells #[.int .i64 M, .int .i64 S] 23))
  go_enter Try.func12, Try.ntmps12
  go_wp2
  all_goals
    go_ret
    exact ⟨ret_bool (by rw [Bool.eq_iff_iff]; simp [rightR] <;> omega), HB0.out⟩
theorem refRight_r (M S : Int) (w : World) :
    Calls Try.prog 11 #[.agg #[.int .i64 M, .int .i64 S]] w fun e w' => e = .returned (.bool (rightR M S)) ∧ Below w.heap.size w w' := by
  have HB0 := kept ((Below.refl w.heap.size w).alloc (Nat.le_refl _) (.cells #[.int .i64 M, .int .i64 S] 23))
  go_enter Try.func11, Try.ntmps11
  go_wp2
  all_goals
    go_ret
    exact ⟨ret_bool (by rw [Bool.eq_iff_iff]; simp [rightR] <;> omega), HB0.out⟩
/-- A revision's box. -/
abbrev Two (W : World) (b : Nat) (x y : Int) : Prop := W.cell? ⟨b, 0, none⟩ = some (.int .i64 x) ∧ W.cell? ⟨b, 1, none⟩ = some (.int .i64 y)
theorem Two.keeps {W W' : World} {b : Nat} {x y : Int} (h : Two W b x y) (k : Keeps W W') : Two W' b x y := ⟨k.cell_ h.1, k.cell_ h.2⟩
theorem two_new (W : World) (t : TypeId) (x y : Int) : Two (W.alloc (.cells #[.int .i64 x, .int .i64 y] t)) W.heap.size x y := by
  have h := Blk.new W t #[.int .i64 x, .int .i64 y]
  exact ⟨h.cell 0, h.cell 1⟩
theorem row_0 (m s : Nat) (w : World) (hm : m ≤ 4611686018427387904) (hs : s ≤ 4611686018427387904) :
    Calls Try.prog 23 #[.agg #[.int .i64 (m : Int), .int .i64 (s : Int)], .string { data := #[] }] w fun e w' => ∃ A c, e = .returned (.slice A 17 c) ∧ w'.ownsRow w.heap.size 5 1 (.slice A 17 c) 17 (cellsOf (revB m s [])) ∧ Below w.heap.size w w' := row_any m s [] w hm hs (by simp)
theorem row_t (m s : Nat) (w : World) (hm : m ≤ 4611686018427387904) (hs : s ≤ 4611686018427387904) :
    Calls Try.prog 23 #[.agg #[.int .i64 (m : Int), .int .i64 (s : Int)], .string { data := #[116] }] w fun e w' => ∃ A c, e = .returned (.slice A 18 c) ∧ w'.ownsRow w.heap.size 5 1 (.slice A 18 c) 18 (cellsOf (revB m s [116])) ∧ Below w.heap.size w w' := row_any m s [116] w hm hs (by simp)
theorem row_u (w : World) :
    Calls Try.prog 23 #[.agg #[.int .i64 4611686018427387904, .int .i64 4611686018427387904], .string { data := #[117] }] w fun e w' => ∃ A c, e = .returned (.slice A 18 c) ∧ w'.ownsRow w.heap.size 5 1 (.slice A 18 c) 18 (cellsOf (revB 4611686018427387904 4611686018427387904 [117])) ∧ Below w.heap.size w w' := row_any 4611686018427387904 4611686018427387904 [117] w (by omega) (by omega) (by simp)
theorem row_00 (m : Nat) (w : World) (hm : m ≤ 4611686018427387904) :
    Calls Try.prog 23 #[.agg #[.int .i64 (m : Int), .int .i64 0], .string { data := #[] }] w fun e w' => ∃ A c, e = .returned (.slice A 17 c) ∧ w'.ownsRow w.heap.size 5 1 (.slice A 17 c) 17 (cellsOf (revB m 0 [])) ∧ Below w.heap.size w w' := row_any m 0 [] w hm (by omega) (by simp)
/-- How long a revision's bytes are. -/
def revN (t : Bool) : Nat := if t then 18 else 17
theorem enc_yes (m s : Nat) (t : Bool) (w : World) (h1 : 1 ≤ m) (hm : m ≤ 4611686018427387904) (hs : s ≤ 4611686018427387904) :
    Calls Try.prog 10 #[.agg #[.int .i64 (m : Int), .int .i64 (s : Int)], .bool t] w fun e w' => ∃ A c, e = .returned (.tuple #[.slice A (revN t) c, .int .i64 0]) ∧ w'.ownsRow w.heap.size 5 1 (.slice A (revN t) c) (revN t) (cellsOf (revB m s (signB t))) ∧ Below w.heap.size w w' := by
  have HR := fun w => kept (right_r (m : Int) (s : Int) w)
  rw [rightR_yes h1 hm hs] at HR
  have HR0 := fun w => kept (row_0 m s w hm hs)
  have HRT := fun w => kept (row_t m s w hm hs)
  clear h1 hm hs
  have HB0 := kept ((Below.refl w.heap.size w).alloc (Nat.le_refl _) (.cells #[.int .i64 (m : Int), .int .i64 (s : Int)] 23))
  have HT0 := kept (two_new w 23 (m : Int) (s : Int))
  cases t
  all_goals
    go_enter Try.func10, Try.ntmps10
    go_wp2_with fail
    with_reducible refine (HR _).out.mono ?_
    rintro e w1 ⟨rfl, hb1⟩
    obtain ⟨e0, e1⟩ := HT0.out.keeps (Keeps.of_below hb1)
    have HB1 := kept (bel_to hb1 HB0.out)
    clear hb1
    go_wp2_with (first | (go_at_call 23; (with_reducible refine ((HR0 _).out).mono ?_); rintro e w2 ⟨A2, c2, rfl, hown, hb⟩; have HO := kept (own_mono hown HB1.out.size); have HB2 := kept (bel_to hb HB1.out); clear hown hb) | (go_at_call 23; (with_reducible refine ((HRT _).out).mono ?_); rintro e w2 ⟨A2, c2, rfl, hown, hb⟩; have HO := kept (own_mono hown HB1.out.size); have HB2 := kept (bel_to hb HB1.out); clear hown hb))
    go_ret2
    exact ⟨A2, c2, rfl, HO.out, HB2.out⟩
theorem enc_no (M S : Int) (t : Bool) (w : World) (h : rightR M S = false) :
    Calls Try.prog 10 #[.agg #[.int .i64 M, .int .i64 S], .bool t] w fun e w' => e = .returned (.tuple #[.slice none 0 0, .int .i64 2]) ∧ Below w.heap.size w w' := by
  have HR := fun w => kept (right_r M S w)
  rw [h] at HR
  clear h
  have HB0 := kept ((Below.refl w.heap.size w).alloc (Nat.le_refl _) (.cells #[.int .i64 M, .int .i64 S] 23))
  go_enter Try.func10, Try.ntmps10
  go_wp2_with (first | (go_at_call 12; (with_reducible refine ((HR _).out).mono ?_); rintro e w1 ⟨rfl, hb1⟩; have HB1 := kept (bel_to hb1 HB0.out); clear hb1))
  go_ret2
  exact ⟨rfl, HB1.out⟩
theorem low_any (M : Int) (w : World) :
    Calls Try.prog 21 #[.int .i64 M] w fun e w' => ∃ A n c, e = .returned (.slice A n c) ∧ Rd w' A n (lowB M) ∧ n ≤ c ∧ n ≤ 18 ∧ Below w.heap.size w w' := by
  by_cases h1 : M < 1
  · have e : Hid (lowB M = []) := by show _ = _; unfold lowB; rw [if_pos h1]
    go_enter Try.func21, Try.ntmps21
    go_wp2
    go_ret
    exact ⟨none, 0, 0, rfl, by rw [e.out]; exact Rd.nil_ _ _, Nat.le_refl _, by omega, Below.refl _ _⟩
  · by_cases h2 : 4611686018427387904 < M
    · have e : Hid (lowB M = revB 4611686018427387904 4611686018427387904 [117]) := by show _ = _; unfold lowB; rw [if_neg h1, if_pos h2]
      have HR := fun w => kept (row_u w)
      have g1 : 1 ≤ M := by omega
      go_enter Try.func21, Try.ntmps21
      go_wp2_with (first | (go_at_call 23; (with_reducible refine ((HR _).out).mono ?_); rintro e w2 ⟨A2, c2, rfl, hown, hb⟩; have HO := kept hown; have HB2 := kept hb; clear hown hb))
      go_ret
      exact ⟨A2, 18, c2, rfl, by rw [e.out]; exact Rd.of_own HO.out, own_cap HO.out, by omega, HB2.out⟩
    · obtain ⟨m, rfl⟩ : ∃ k : Nat, M = (k : Int) := ⟨M.toNat, by omega⟩
      have e : Hid (lowB (m : Int) = revB m 0 []) := by show _ = _; unfold lowB; rw [if_neg h1, if_neg h2, Int.toNat_natCast]
      have HR := fun w => kept (row_00 m w (by omega))
      have g1 : 1 ≤ m := by omega
      have g2 : m ≤ 4611686018427387904 := by omega
      clear h1 h2
      go_enter Try.func21, Try.ntmps21
      go_wp2_with (first | (go_at_call 23; (with_reducible refine ((HR _).out).mono ?_); rintro e w2 ⟨A2, c2, rfl, hown, hb⟩; have HO := kept hown; have HB2 := kept hb; clear hown hb))
      go_ret
      exact ⟨A2, 17, c2, rfl, by rw [e.out]; exact Rd.of_own HO.out, own_cap HO.out, by omega, HB2.out⟩
end Go.Proofs.Ytaknhbklopmojaa
