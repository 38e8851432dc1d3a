/- Reader2 -/
import Derived.Test.YtblbhhijddcbeaaGreatDoorBCmp
import Derived.Deep.RegionHeld3
import Derived.Deep.DrawnRows
section
namespace Go.Proofs.YtblbhhijddcbeaaGreatDoor
open Go.ChangeShapes Go.WideShapes Go.ChangeAt Go.RowKit
set_option linter.unusedVariables false
set_option linter.unusedSimpArgs false
set_option maxRecDepth 100000
set_option maxHeartbeats 16000000
attribute [local go_sem ↓] Go.wp_at_zero Go.wp_at_succ
theorem bytes_stopped (r : Nat) (A : Option Addr) (n c : Nat) (xs : List UInt8) (pos : Nat) (err m : Int) (w : World) (h : Rdr w r A n c xs pos err) (hne : err ≠ 0) :
 Calls Tryz.prog 185 #[.pointer (some ⟨r, 0, none⟩), .int .i64 m] w fun e w' => e = .returned (.slice none 0 0) ∧ w = w' := by
 have HS := kept (stopped_yes r A n c xs pos err w h hne); clear h hne; go_enter Tryz.func185, Tryz.ntmps185; go_wp2_with (first | (go_at_call 236; (with_reducible refine (HS.out).mono ?_); rintro e w' ⟨rfl, rfl⟩))
 go_ret; exact ⟨rfl, rfl⟩
theorem bytes_short (r : Nat) (A : Option Addr) (n c : Nat) (xs : List UInt8) (pos : Nat) (m : Int) (w : World) (h : Rdr w r A n c xs pos 0) (hl : n ≤ 140737488355328) (hp : pos ≤ n) (hm : m < 0 ∨ n < pos + m) (hm2 : m ≤ 9223372036854775807) :
 Calls Tryz.prog 185 #[.pointer (some ⟨r, 0, none⟩), .int .i64 m] w fun e w' => e = .returned (.slice none 0 0) ∧ Hid (Rdr w' r A n c xs pos 3 ∧ Only w w' r) := by
 have HS := kept (stopped_no r A n c xs pos w h); have HG := fun W => kept (holds_no A n c (pos : Int) m W hl (by omega) hm2 (by omega))
 have h0 := h.slice; have h1 := h.place; have h2 := h.error; have h3 := h.frozen 2; have HP := fun q => kept ((h.drewN q).set_err 3)
 have HO := fun q => kept (((Only.refl w r).drewN q).setCell 2 (.int .i64 3))
 clear h hm; go_enter Tryz.func185, Tryz.ntmps185; go_wp2_with fail
 with_reducible refine HS.out.mono ?_
 rintro e w' ⟨rfl, rfl⟩; go_wp2
 go_quiet ((go_at_call 237; exact Calls.quiet_of_same (turn (HG _).out)))
 go_wp2; go_ret; exact ⟨rfl, (HP _).out, (HO _).out⟩
theorem Rd.mid {w : World} {A : Option Addr} {n c : Nat} {xs : List UInt8} (h : Rd w A n xs) {pos m : Nat} (hp : pos + m ≤ n) (hc : n ≤ c) : Rd w (if c = pos then A else A.map (fun x => x.add pos)) m (part xs pos m) := by
 have := (h.cut (k := pos) (c := c) (by omega) hc).take (k := m) (by omega); exact this
end Go.Proofs.YtblbhhijddcbeaaGreatDoor
end
