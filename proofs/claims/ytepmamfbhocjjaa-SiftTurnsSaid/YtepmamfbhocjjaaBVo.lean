/-
  Texts laid together: Vo.
-/
import Derived.Test.YtepmamfbhocjjaaBMk
import Derived.Test.YtepmamfbhocjjaaBHnd
section
/-
  A revision as plain data: what is right, and the order; rev.Right, rev.Compare, the document's Right and Ahead.
-/
namespace Go.Proofs.Ytepmamfbhocjjaa
open Go.ChangeShapes Go.WideShapes Go.ChangeAt Go.RowKit Go.Deep
set_option linter.unusedVariables false
set_option linter.unusedSimpArgs false

def rightR (M S : Int) : Bool := decide (1 ≤ M) && decide (M ≤ 4611686018427387904) && decide (0 ≤ S) && decide (S ≤ 4611686018427387904)
theorem rightR_nat {M S : Int} (h : rightR M S = true) : ∃ m s : Nat, M = (m : Int) ∧ S = (s : Int) ∧ 1 ≤ m ∧ m ≤ 4611686018427387904 ∧ s ≤ 4611686018427387904 := by
  simp only [rightR, Bool.and_eq_true, decide_eq_true_eq] at h
  exact ⟨M.toNat, S.toNat, by omega, by omega, by omega, by omega, by omega⟩
theorem rightR_yes {m s : Nat} (h1 : 1 ≤ m) (h2 : m ≤ 4611686018427387904) (h3 : s ≤ 4611686018427387904) : rightR (m : Int) (s : Int) = true := by
  simp only [rightR, Bool.and_eq_true, decide_eq_true_eq]; omega
/-- The order of revisions. -/
def ordR (M S M' S' : Int) : Int := if M < M' then -1 else if M' < M then 1 else if S < S' then -1 else if S' < S then 1 else 0
/-- A revision's box. -/
abbrev Two (W : World) (b : Nat) (x y : Int) : Prop := W.cell? ⟨b, 0, none⟩ = some (.int .i64 x) ∧ W.cell? ⟨b, 1, none⟩ = some (.int .i64 y)
theorem Two.keeps {W W' : World} {b : Nat} {x y : Int} (h : Two W b x y) (k : Keeps W W') : Two W' b x y := ⟨k.cell_ h.1, k.cell_ h.2⟩
theorem two_new (W : World) (t : TypeId) (x y : Int) : Two (W.alloc (.cells #[.int .i64 x, .int .i64 y] t)) W.heap.size x y := by
  have h := Blk.new W t #[.int .i64 x, .int .i64 y]
  exact ⟨h.cell 0, h.cell 1⟩
def cmpI (x y : Int) : Int := if x < y then -1 else if y < x then 1 else 0
theorem ordR_cmp (M S M' S' : Int) : ordR M S M' S' = if cmpI M M' = 0 then cmpI S S' else cmpI M M' := by
  unfold ordR cmpI
  by_cases h1 : M < M'
  · simp [h1]
  · by_cases h2 : M' < M <;> simp [h1, h2]
theorem isNaN_i (x : Int) (w : World) : Calls Try.prog 32 #[.int .i64 x] w fun e w' => e = .returned (.bool false) ∧ w = w' := by
  go_enter Try.func32, Try.ntmps32
  go_wp2
  go_ret
  exact ⟨by first | rfl | simp, rfl⟩
theorem cmp_i (x y : Int) (w : World) : Calls Try.prog 27 #[.int .i64 x, .int .i64 y] w fun e w' => e = .returned (.int .i64 (cmpI x y)) ∧ w = w' := by
  have HN := fun x => kept (isNaN_i x w)
  by_cases h1 : x < y
  · have e : Hid (cmpI x y = -1) := by show _ = _; simp [cmpI, h1]
    go_enter Try.func27, Try.ntmps27
    go_wp2_with (first | (go_at_call 32; (with_reducible refine ((HN _).out).mono ?_); rintro e w1 ⟨rfl, rfl⟩))
    go_ret
    exact ⟨ret_int e.out.symm, rfl⟩
  · by_cases h2 : y < x
    · have e : Hid (cmpI x y = 1) := by show _ = _; simp [cmpI, h1, h2]
      go_enter Try.func27, Try.ntmps27
      go_wp2_with (first | (go_at_call 32; (with_reducible refine ((HN _).out).mono ?_); rintro e w1 ⟨rfl, rfl⟩))
      go_ret
      exact ⟨ret_int e.out.symm, rfl⟩
    · have e : Hid (cmpI x y = 0) := by show _ = _; simp [cmpI, h1, h2]
      go_enter Try.func27, Try.ntmps27
      go_wp2_with (first | (go_at_call 32; (with_reducible refine ((HN _).out).mono ?_); rintro e w1 ⟨rfl, rfl⟩))
      go_ret
      exact ⟨ret_int e.out.symm, rfl⟩
theorem or_two (x y : Int) (g : Nat) (w : World) (h0 : w.cell? ⟨g, 0, none⟩ = some (.int .i64 x)) (h1 : w.cell? ⟨g, 1, none⟩ = some (.int .i64 y)) :
    Calls Try.prog 22 #[.slice (some ⟨g, 0, none⟩) 2 2] w fun e w' => e = .returned (.int .i64 (if x = 0 then y else x)) ∧ w = w' := by
  obtain ⟨r, E⟩ : ∃ r, (if x = 0 then y else x) = r := ⟨_, rfl⟩
  rw [E]
  have E' := kept E.symm
  clear E
  go_enter Try.func22, Try.ntmps22
  go_wp2
  go_loop [8] (fun i => ∃ k : Nat, k ≤ 2 ∧ i = .int .i64 k ∧ Hid (0 < k → x = 0) ∧ Hid (1 < k → y = 0)) (fun i => 2 - (intOf i).toNat)
  case atStart => exact ⟨0, by omega, rfl, kept (fun h => absurd h (by omega)), kept (fun h => absurd h (by omega))⟩
  case round =>
    obtain ⟨k, hk, rfl, HX, HY⟩ := hrel
    match k, hk with
    | 0, _ =>
      by_cases hx : x = 0
      · subst hx
        go_wp2
        go_round
        case rel => exact ⟨1, by omega, by go_num, kept (fun _ => by first | rfl | trivial), kept (fun h => absurd h (by omega))⟩
        case measure => simp [intOf]
      · have hx2 : (x != 0) = true := by simpa using hx
        go_wp2
        go_ret
        exact ⟨ret_int (by rw [E'.out, if_neg hx]), rfl⟩
    | 1, _ =>
      have hx := HX.out (by omega)
      by_cases hy : y = 0
      · subst hy
        go_wp2
        go_round
        case rel => exact ⟨2, by omega, by go_num, kept (fun _ => hx), kept (fun _ => by first | rfl | trivial)⟩
        case measure => simp [intOf]
      · have hy2 : (y != 0) = true := by simpa using hy
        go_wp2
        go_ret
        exact ⟨ret_int (by rw [E'.out, if_pos hx]), rfl⟩
    | 2, _ =>
      have hx := HX.out (by omega)
      have hy := HY.out (by omega)
      go_wp2
      go_ret
      exact ⟨ret_int (by rw [E'.out, if_pos hx, hy]), rfl⟩
theorem or_new (x y : Int) (t : TypeId) (w W : World) (hW : W = w.alloc (.cells #[.int .i64 x, .int .i64 y] t)) :
    Calls Try.prog 22 #[.slice (some ⟨w.heap.size, 0, none⟩) 2 2] W fun e w' => e = .returned (.int .i64 (if x = 0 then y else x)) ∧ W = w' := by
  subst hW
  have h := Blk.new w t #[.int .i64 x, .int .i64 y]
  exact or_two x y w.heap.size _ (h.cell 0) (h.cell 1)
end Go.Proofs.Ytepmamfbhocjjaa
end
