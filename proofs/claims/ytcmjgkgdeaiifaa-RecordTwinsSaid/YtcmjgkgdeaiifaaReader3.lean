/-
  What the Reader's Text answers and leaves, call by call.
-/
import Derived.Test.YtcmjgkgdeaiifaaReader2
namespace Go.Proofs.Ytcmjgkgdeaiifaa
open Go.ChangeShapes Go.WideShapes Go.ChangeAt Go.RowKit
set_option linter.unusedVariables false

theorem num_two (r : Nat) (A : Option Addr) (n c : Nat) (xs : List UInt8) (pos : Nat) (w : World) (h : Rdr w r A n c xs pos 0) (hl : n ≤ 140737488355328) (hp : pos + 2 ≤ n) :
    Calls Try.prog 32 #[.pointer (some ⟨r, 0, none⟩), .int .i64 2] w fun e w' => e = .returned (.int .u64 ((num (part xs pos 2) 0 : Nat) : Int)) ∧ Hid (Rdr w' r A n c xs (pos + 2) 0 ∧ Only w w' r) :=
  num_ok r A n c xs pos 2 w h hl (by omega) (by omega) hp
theorem text_stopped (r : Nat) (A : Option Addr) (n c : Nat) (xs : List UInt8) (pos : Nat) (err most : Int) (w : World) (h : Rdr w r A n c xs pos err) (hne : err ≠ 0) :
    Calls Try.prog 33 #[.pointer (some ⟨r, 0, none⟩), .int .i64 most] w fun e w' => e = .returned (.slice none 0 0) ∧ w = w' := by
  have HS := kept (stopped_yes r A n c xs pos err w h hne)
  clear h hne
  go_enter Try.func33, Try.ntmps33
  go_wp2_with (first | (go_at_call 42; (with_reducible refine (HS.out).mono ?_); rintro e w' ⟨rfl, rfl⟩))
  go_ret
  exact ⟨rfl, rfl⟩
/-- The length's two bytes aren't there. -/
theorem text_bare (r : Nat) (A : Option Addr) (n c : Nat) (xs : List UInt8) (pos : Nat) (most : Int) (w : World) (h : Rdr w r A n c xs pos 0) (hl : n ≤ 140737488355328) (hp : pos ≤ n) (hm : n < pos + 2) :
    Calls Try.prog 33 #[.pointer (some ⟨r, 0, none⟩), .int .i64 most] w fun e w' => e = .returned (.slice none 0 0) ∧ Hid (Rdr w' r A n c xs pos 3 ∧ Only w w' r) := by
  have HS := kept (stopped_no r A n c xs pos w h)
  have HN := kept (num_bad r A n c xs pos 2 0 3 w h (by omega) (fun W _ => get_short A n c (pos : Int) 2 W (by omega) (by omega) hl (by omega) (by omega)))
  have h1 := h.place
  clear h
  go_enter Try.func33, Try.ntmps33
  go_wp2_with fail
  with_reducible refine HS.out.mono ?_
  rintro e w' ⟨rfl, rfl⟩
  go_wp2_with fail
  with_reducible refine HN.out.mono ?_
  rintro e w1 ⟨rfl, H1⟩
  have g2 := H1.out.1.error
  have g1 := H1.out.1.place
  have g3 := H1.out.1.frozen 1
  have HB := kept (bytes_stopped r A n c xs pos 3 0 w1 H1.out.1 (by omega))
  have HP := kept (H1.out.1.set_pos pos)
  have HO := kept (H1.out.2.setCell 1 (.int .i64 (pos : Int)))
  go_wp2_with (first | (go_at_call 44; (with_reducible refine (HB.out).mono ?_); rintro e w' ⟨rfl, rfl⟩))
  go_ret
  exact ⟨rfl, HP.out, HO.out⟩
/-- The length is above most. -/
theorem text_long (r : Nat) (A : Option Addr) (n c : Nat) (xs : List UInt8) (pos : Nat) (most : Int) (w : World) (h : Rdr w r A n c xs pos 0) (hl : n ≤ 140737488355328) (hp : pos + 2 ≤ n) (v : Nat) (hv : num (part xs pos 2) 0 = v) (hm : most < v) :
    Calls Try.prog 33 #[.pointer (some ⟨r, 0, none⟩), .int .i64 most] w fun e w' => e = .returned (.slice none 0 0) ∧ Hid (Rdr w' r A n c xs pos 5 ∧ Only w w' r) := by
  have hb := num_part_lt xs pos 2 (by rw [h.2.1]; exact hp)
  have hN := num_two r A n c xs pos w h hl hp
  rw [hv] at hN hb
  have hb2 : v < 65536 := hb
  have HN := kept hN
  have HS := kept (stopped_no r A n c xs pos w h)
  have h1 := h.place
  have hd : decide (most < (v : Int)) = true := by simp; omega
  clear h hv hN hb hm
  go_enter Try.func33, Try.ntmps33
  go_wp2_with fail
  with_reducible refine HS.out.mono ?_
  rintro e w' ⟨rfl, rfl⟩
  go_wp2_with fail
  with_reducible refine HN.out.mono ?_
  rintro e w1 ⟨rfl, H1⟩
  have g2 := H1.out.1.error
  have g1 := H1.out.1.place
  have g3 := H1.out.1.frozen 1
  have g4 := H1.out.1.frozen 2
  have H2 := kept (H1.out.1.set_err 5)
  have HO2 := kept (H1.out.2.setCell 2 (.int .i64 5))
  have k1 := H2.out.place
  have k2 := H2.out.error
  have k3 := H2.out.frozen 1
  have HB := kept (bytes_stopped r A n c xs (pos + 2) 5 (v : Int) _ H2.out (by omega))
  have HP := kept (H2.out.set_pos pos)
  have HO := kept (HO2.out.setCell 1 (.int .i64 (pos : Int)))
  go_wp2_with (first | (go_at_call 44; (with_reducible refine (HB.out).mono ?_); rintro e w' ⟨rfl, rfl⟩))
  go_ret
  exact ⟨rfl, HP.out, HO.out⟩
/-- There are fewer bytes. -/
theorem text_short (r : Nat) (A : Option Addr) (n c : Nat) (xs : List UInt8) (pos : Nat) (most : Int) (w : World) (h : Rdr w r A n c xs pos 0) (hl : n ≤ 140737488355328) (hp : pos + 2 ≤ n) (v : Nat) (hv : num (part xs pos 2) 0 = v) (hm : (v : Int) ≤ most) (hs : n < pos + 2 + v) :
    Calls Try.prog 33 #[.pointer (some ⟨r, 0, none⟩), .int .i64 most] w fun e w' => e = .returned (.slice none 0 0) ∧ Hid (Rdr w' r A n c xs pos 3 ∧ Only w w' r) := by
  have hb := num_part_lt xs pos 2 (by rw [h.2.1]; exact hp)
  have hN := num_two r A n c xs pos w h hl hp
  rw [hv] at hN hb
  have hb2 : v < 65536 := hb
  have HN := kept hN
  have HS := kept (stopped_no r A n c xs pos w h)
  have h1 := h.place
  have hd : decide (most < (v : Int)) = false := by simp; omega
  clear h hv hN hb hm
  go_enter Try.func33, Try.ntmps33
  go_wp2_with fail
  with_reducible refine HS.out.mono ?_
  rintro e w' ⟨rfl, rfl⟩
  go_wp2_with fail
  with_reducible refine HN.out.mono ?_
  rintro e w1 ⟨rfl, H1⟩
  have g2 := H1.out.1.error
  have HB := kept (bytes_short r A n c xs (pos + 2) (v : Int) w1 H1.out.1 hl hp (by omega) (by omega))
  go_wp2_with fail
  with_reducible refine HB.out.mono ?_
  rintro e w2 ⟨rfl, H2⟩
  have k1 := H2.out.1.place
  have k2 := H2.out.1.error
  have k3 := H2.out.1.frozen 1
  have HP := kept (H2.out.1.set_pos pos)
  have HO := kept ((H1.out.2.trans H2.out.2).setCell 1 (.int .i64 (pos : Int)))
  go_wp2
  go_ret
  exact ⟨rfl, HP.out, HO.out⟩
theorem text_ok (r : Nat) (A : Option Addr) (n c : Nat) (xs : List UInt8) (pos : Nat) (most : Int) (w : World) (h : Rdr w r A n c xs pos 0) (hl : n ≤ 140737488355328) (hnc : n ≤ c) (v : Nat) (hp : pos + 2 + v ≤ n) (hv : num (part xs pos 2) 0 = v) (hm : (v : Int) ≤ most) :
    Calls Try.prog 33 #[.pointer (some ⟨r, 0, none⟩), .int .i64 most] w fun e w' => ∃ A' c', e = .returned (.slice A' v c') ∧ Hid (Rd w' A' v (part xs (pos + 2) v)) ∧ Hid (Rdr w' r A n c xs (pos + 2 + v) 0 ∧ Only w w' r) := by
  have hb := num_part_lt xs pos 2 (by rw [h.2.1]; omega)
  have hN := num_two r A n c xs pos w h hl (by omega)
  rw [hv] at hN hb
  have hb2 : v < 65536 := hb
  have HN := kept hN
  have HS := kept (stopped_no r A n c xs pos w h)
  have h1 := h.place
  have hd : decide (most < (v : Int)) = false := by simp; omega
  clear h hv hN hb hm
  go_enter Try.func33, Try.ntmps33
  go_wp2_with fail
  with_reducible refine HS.out.mono ?_
  rintro e w' ⟨rfl, rfl⟩
  go_wp2_with fail
  with_reducible refine HN.out.mono ?_
  rintro e w1 ⟨rfl, H1⟩
  have g2 := H1.out.1.error
  have HB := kept (bytes_ok r A n c xs (pos + 2) v w1 H1.out.1 hl hnc hp)
  go_wp2_with fail
  with_reducible refine HB.out.mono ?_
  rintro e w2 ⟨A2, c2, rfl, HR2, H2⟩
  have k2 := H2.out.1.error
  have HO := kept (H1.out.2.trans H2.out.2)
  go_wp2
  go_ret
  exact ⟨A2, c2, rfl, HR2, H2.out.1, HO.out⟩
end Go.Proofs.Ytcmjgkgdeaiifaa
