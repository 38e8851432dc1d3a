/-
  The small tests of package page, call by call.
-/
import Derived.Test.YtfgpkgenahlikaaDoorPg
namespace Go.Proofs.YtfgpkgenahlikaaDoor
open Go.ChangeShapes Go.WideShapes Go.ChangeAt Go.RowKit
set_option linter.unusedVariables false

theorem isKey_any (A : Option Addr) (n c : Nat) (w : World) (b : Bool) (hb : decide (n ≤ 32) = b) :
    Calls Tryd.prog 98 #[.slice A n c] w fun e w' => e = .returned (.bool b) ∧ w = w' := by
  subst hb
  go_enter Tryd.func98, Tryd.ntmps98
  go_wp2
  go_ret
  exact ⟨ret_bool (by simp <;> omega), rfl⟩
theorem isInline_any (i : Int) (w : World) (b : Bool) (hb : decide (i ≤ 64) = b) :
    Calls Tryd.prog 96 #[.int .i64 i] w fun e w' => e = .returned (.bool b) ∧ w = w' := by
  subst hb
  go_enter Tryd.func96, Tryd.ntmps96
  go_wp2
  go_ret
  exact ⟨rfl, rfl⟩
theorem isPage_any (i : Int) (w : World) (b : Bool) (hb : isPg i = b) :
    Calls Tryd.prog 70 #[.int .i64 i] w fun e w' => e = .returned (.bool b) ∧ w = w' := by
  subst hb
  go_enter Tryd.func70, Tryd.ntmps70
  go_wp2
  all_goals
    go_ret
    exact ⟨ret_bool (by unfold isPg; simp; omega), rfl⟩
theorem refId_any (i : Int) (w : World) (b : Bool) (hb : isPg i = b) :
    Calls Tryd.prog 68 #[.int .i64 i] w fun e w' => e = .returned (.bool b) ∧ w = w' := by
  subst hb
  go_enter Tryd.func68, Tryd.ntmps68
  go_wp2
  all_goals
    go_ret
    exact ⟨ret_bool (by unfold isPg; simp; omega), rfl⟩
theorem ret_num {k : IntKind} {a b : Int} (h : a = b) : Ending.returned (.int k a) = .returned (.int k b) := by rw [h]
theorem cmpInt_any (a b : Int) (w : World) :
    Calls Tryd.prog 79 #[.int .i64 a, .int .i64 b] w fun e w' => e = .returned (.int .i64 (cmpN a b)) ∧ w = w' := by
  have HC : Hid (cmpN a b = if a < b then -1 else if b < a then 1 else 0) := rfl
  generalize cmpN a b = o at HC
  go_enter Tryd.func79, Tryd.ntmps79
  go_wp2
  all_goals
    go_ret
    exact ⟨ret_num (by rw [HC.out]; first | rw [if_pos (by omega)] | rw [if_neg (by omega), if_pos (by omega)] | rw [if_neg (by omega), if_neg (by omega)]), rfl⟩
theorem counts_any (l : Lay) (w : World) :
    Calls Tryd.prog 36 #[l.val] w fun e w' => e = .returned (.agg #[.int .i64 0, .int .i64 l.n1, .int .i64 l.n2, .int .i64 l.n3, .int .i64 l.n4]) ∧ Below w.heap.size w w' := by
  obtain ⟨kind, txn, next, a1, n1, c1, a2, n2, c2, a3, n3, c3, a4, n4, c4⟩ := l
  go_enter Tryd.func36, Tryd.ntmps36
  go_wp2
  exact bodyPost_ret (v := .agg #[.int .i64 0, .int .i64 n1, .int .i64 n2, .int .i64 n3, .int .i64 n4]) (by simp [results, Tryd.results36, go_sem]) rfl ⟨rfl, ((Below.refl _ _).alloc (Nat.le_refl _) _).alloc (by simp) _⟩
theorem itemSize_any (L : LayI) (w : World) (u : Nat) (h1 : L.kn ≤ 140737488355328) (h2 : L.vn ≤ 140737488355328) (hu : 3 + L.kn + (if L.size ≤ 64 then L.vn else 4) = u) :
    Calls Tryd.prog 80 #[L.val] w fun e w' => e = .returned (.int .i64 (u : Int)) ∧ Below w.heap.size w w' := by
  obtain ⟨ka, kn, kc, va, vn, vc, size, more⟩ := L
  simp only at h1 h2 hu
  have HU := kept hu
  clear hu
  by_cases hs : size ≤ 64
  · go_enter Tryd.func80, Tryd.ntmps80
    go_wp2_with (first | (go_at_call 96; (with_reducible refine (isInline_any _ _ true (by simpa using hs)).mono ?_); rintro e w' ⟨rfl, rfl⟩))
    go_ret
    exact ⟨ret_num (by have := HU.out; (first | rw [if_pos (by omega)] at this | rw [if_neg (by omega)] at this); omega), (Below.refl _ _).alloc (Nat.le_refl _) _⟩
  · go_enter Tryd.func80, Tryd.ntmps80
    go_wp2_with (first | (go_at_call 96; (with_reducible refine (isInline_any _ _ false (by simpa using hs)).mono ?_); rintro e w' ⟨rfl, rfl⟩))
    go_ret
    exact ⟨ret_num (by have := HU.out; (first | rw [if_pos (by omega)] at this | rw [if_neg (by omega)] at this); omega), (Below.refl _ _).alloc (Nat.le_refl _) _⟩
theorem rightKid_any (L : LayK) (w : World) (b : Bool) (hb : (decide (L.kn ≤ 32) && isPg L.page) = b) :
    Calls Tryd.prog 76 #[L.val] w fun e w' => e = .returned (.bool b) ∧ Below w.heap.size w w' := by
  obtain ⟨ka, kn, kc, page⟩ := L
  subst hb
  go_enter Tryd.func76, Tryd.ntmps76
  go_wp2_with (first | (go_at_call 98; (with_reducible refine (isKey_any _ _ _ _ _ rfl).mono ?_); rintro e w' ⟨rfl, rfl⟩) | (go_at_call 70; (with_reducible refine (isPage_any _ _ _ rfl).mono ?_); rintro e w' ⟨rfl, rfl⟩))
  all_goals
    go_ret
    exact ⟨ret_bool (by rw [Bool.eq_iff_iff]; simp [isPg] <;> omega), (Below.refl _ _).alloc (Nat.le_refl _) _⟩
theorem rightNext_any (l : Lay) (w : World) (b : Bool) (hb : (decide (l.next = 0) || (decide (l.kind ≠ 1) && decide (l.kind ≠ 2) && isPg l.next)) = b) :
    Calls Tryd.prog 41 #[l.val] w fun e w' => e = .returned (.bool b) ∧ Below w.heap.size w w' := by
  obtain ⟨kind, txn, next, a1, n1, c1, a2, n2, c2, a3, n3, c3, a4, n4, c4⟩ := l
  simp only at hb
  subst hb
  go_enter Tryd.func41, Tryd.ntmps41
  go_wp2_with (first | (go_at_call 70; (with_reducible refine (isPage_any _ _ _ rfl).mono ?_); rintro e w' ⟨rfl, rfl⟩))
  all_goals
    go_ret
    exact ⟨ret_bool (by rw [Bool.eq_iff_iff]; simp [isPg] <;> omega), (Below.refl _ _).alloc (Nat.le_refl _) _⟩
theorem rightItem_any (L : LayI) (w : World) (b : Bool) (hb : (decide (L.kn ≤ 32) && decide (0 ≤ L.size) && decide (L.size ≤ 4096) && (if L.size ≤ 64 then decide ((L.vn : Int) = L.size) && decide (L.more = 0) else decide (L.vn = 0) && isPg L.more)) = b) :
    Calls Tryd.prog 72 #[L.val] w fun e w' => e = .returned (.bool b) ∧ Below w.heap.size w w' := by
  obtain ⟨ka, kn, kc, va, vn, vc, size, more⟩ := L
  simp only at hb
  have HB := kept hb
  clear hb
  by_cases hin : size ≤ 64
  all_goals
    go_enter Tryd.func72, Tryd.ntmps72
    go_wp2_with (first | (go_at_call 98; (with_reducible refine (isKey_any _ _ _ _ _ rfl).mono ?_); rintro e w' ⟨rfl, rfl⟩) | (go_at_call 70; (with_reducible refine (isPage_any _ _ _ rfl).mono ?_); rintro e w' ⟨rfl, rfl⟩) | (go_at_call 96; (with_reducible refine (isInline_any _ _ _ rfl).mono ?_); rintro e w' ⟨rfl, rfl⟩))
    all_goals
      go_ret
      exact ⟨ret_bool (by rw [← HB.out]; (first | rw [if_pos (by omega)] | rw [if_neg (by omega)]); rw [Bool.eq_iff_iff]; simp [isPg] <;> omega), (Below.refl _ _).alloc (Nat.le_refl _) _⟩
/-- What counts tells, place by place. -/
def cnt (l : Lay) : Nat → Nat
  | 1 => l.n1
  | 2 => l.n2
  | 3 => l.n3
  | 4 => l.n4
  | _ => 0
theorem ix0 (x0 x1 x2 x3 x4 : Value) (w : World) : (Instr.index 77 (.agg #[x0, x1, x2, x3, x4]) (.int .i64 0)).run Tryd.prog w = .ok x0 w := by kernel_rfl
theorem ix1 (x0 x1 x2 x3 x4 : Value) (w : World) : (Instr.index 77 (.agg #[x0, x1, x2, x3, x4]) (.int .i64 1)).run Tryd.prog w = .ok x1 w := by kernel_rfl
theorem ix2 (x0 x1 x2 x3 x4 : Value) (w : World) : (Instr.index 77 (.agg #[x0, x1, x2, x3, x4]) (.int .i64 2)).run Tryd.prog w = .ok x2 w := by kernel_rfl
theorem ix3 (x0 x1 x2 x3 x4 : Value) (w : World) : (Instr.index 77 (.agg #[x0, x1, x2, x3, x4]) (.int .i64 3)).run Tryd.prog w = .ok x3 w := by kernel_rfl
theorem ix4 (x0 x1 x2 x3 x4 : Value) (w : World) : (Instr.index 77 (.agg #[x0, x1, x2, x3, x4]) (.int .i64 4)).run Tryd.prog w = .ok x4 w := by kernel_rfl
end Go.Proofs.YtfgpkgenahlikaaDoor
