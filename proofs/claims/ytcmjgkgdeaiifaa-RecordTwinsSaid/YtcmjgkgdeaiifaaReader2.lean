/-
  What the Reader's Bytes, Text and Flag answer and leave, call by call.
-/
import Derived.Test.YtcmjgkgdeaiifaaReader
import Derived.Deep.RegionHeld3
import Derived.Deep.DrawnRows
namespace Go.Proofs.Ytcmjgkgdeaiifaa
open Go.ChangeShapes Go.WideShapes Go.ChangeAt Go.RowKit
set_option linter.unusedVariables false
attribute [local go_sem ↓] Go.wp_at_zero Go.wp_at_succ

theorem bytes_stopped (r : Nat) (A : Option Addr) (n c : Nat) (xs : List UInt8) (pos : Nat) (err m : Int) (w : World) (h : Rdr w r A n c xs pos err) (hne : err ≠ 0) :
    Calls Try.prog 44 #[.pointer (some ⟨r, 0, none⟩), .int .i64 m] w fun e w' => e = .returned (.slice none 0 0) ∧ w = w' := by
  have HS := kept (stopped_yes r A n c xs pos err w h hne)
  clear h hne
  go_enter Try.func44, Try.ntmps44
  go_wp2_with (first | (go_at_call 42; (with_reducible refine (HS.out).mono ?_); rintro e w' ⟨rfl, rfl⟩))
  go_ret
  exact ⟨rfl, rfl⟩
theorem bytes_short (r : Nat) (A : Option Addr) (n c : Nat) (xs : List UInt8) (pos : Nat) (m : Int) (w : World) (h : Rdr w r A n c xs pos 0) (hl : n ≤ 140737488355328) (hp : pos ≤ n) (hm : m < 0 ∨ n < pos + m) (hm2 : m ≤ 9223372036854775807) :
    Calls Try.prog 44 #[.pointer (some ⟨r, 0, none⟩), .int .i64 m] w fun e w' => e = .returned (.slice none 0 0) ∧ Hid (Rdr w' r A n c xs pos 3 ∧ Only w w' r) := by
  have HS := kept (stopped_no r A n c xs pos w h)
  have HG := fun W => kept (holds_no A n c (pos : Int) m W hl (by omega) hm2 (by omega))
  have h0 := h.slice
  have h1 := h.place
  have h2 := h.error
  have h3 := h.frozen 2
  have HP := fun q => kept ((h.drewN q).set_err 3)
  have HO := fun q => kept (((Only.refl w r).drewN q).setCell 2 (.int .i64 3))
  clear h hm
  go_enter Try.func44, Try.ntmps44
  go_wp2_with fail
  with_reducible refine HS.out.mono ?_
  rintro e w' ⟨rfl, rfl⟩
  go_wp2
  go_quiet ((go_at_call 50; exact Calls.quiet_of_same (turn (HG _).out)))
  go_wp2
  go_ret
  exact ⟨rfl, (HP _).out, (HO _).out⟩
theorem Rd.mid {w : World} {A : Option Addr} {n c : Nat} {xs : List UInt8} (h : Rd w A n xs) {pos m : Nat} (hp : pos + m ≤ n) (hc : n ≤ c) : Rd w (if c = pos then A else A.map (fun x => x.add pos)) m (part xs pos m) := by
  have := (h.cut (k := pos) (c := c) (by omega) hc).take (k := m) (by omega)
  exact this
theorem bytes_ok (r : Nat) (A : Option Addr) (n c : Nat) (xs : List UInt8) (pos m : Nat) (w : World) (h : Rdr w r A n c xs pos 0) (hl : n ≤ 140737488355328) (hnc : n ≤ c) (hp : pos + m ≤ n) :
    Calls Try.prog 44 #[.pointer (some ⟨r, 0, none⟩), .int .i64 (m : Int)] w fun e w' => ∃ A' c', e = .returned (.slice A' m c') ∧ Hid (Rd w' A' m (part xs pos m)) ∧ Hid (Rdr w' r A n c xs (pos + m) 0 ∧ Only w w' r) := by
  have HS := kept (stopped_no r A n c xs pos w h)
  have HG := fun W => kept (holds_yes A n c pos m W hl hp)
  have HH := kept h
  have h0 := h.slice
  have h1 := h.place
  have h2 := h.error
  have h3 := h.frozen 1
  have hi1 : (0 : Int) ≤ (pos : Int) := by omega
  have hi2 : (pos : Int) ≤ (pos : Int) + (m : Int) := by omega
  have hi3 : (pos : Int) + (m : Int) ≤ (c : Int) := by omega
  clear h
  go_enter Try.func44, Try.ntmps44
  go_wp2_with fail
  with_reducible refine HS.out.mono ?_
  rintro e w' ⟨rfl, rfl⟩
  go_wp2
  go_quiet ((go_at_call 50; exact Calls.quiet_of_same (turn (HG _).out)))
  go_wp2
  have HM := kept (show m ≤ 140737488355328 by omega)
  have hmid := HH.out.2.mid hp hnc
  obtain ⟨X, hX⟩ : ∃ X, (if c = pos then A else A.map (fun x => x.add pos)) = X := ⟨_, rfl⟩
  rw [hX] at hmid
  have HMID := kept hmid
  clear hmid
  have HLT := kept HH.out.1.lt
  have HC0 := kept h0
  have HF := kept h3
  have HC1 := kept h1
  have hq1 : ((pos : Int) + (m : Int)).toNat = pos + m := by omega
  have hq2 : IntKind.i64.wrap ((pos : Int) + (m : Int)) = (pos : Int) + (m : Int) := IntWalk.i64_in _ ⟨by omega, by omega⟩
  go_region_held3 (fun w' => w'.cell? ⟨r, 0, none⟩ = some (.slice A n c) ∧ w'.cell? ⟨r, 1, none⟩ = some (.int .i64 (pos : Int))) (go_keep) (first | (go_at_call 39; (with_reducible refine (clone_any _ _ _ (part xs pos m) _ (HMID.out.drewN _) HM.out).mono ?_); rintro e w1 ⟨A1, c1, rfl, hown1, hb1⟩; have k0 : w1.cell? ⟨r, 0, none⟩ = some (.slice A n c) := (hb1.cell (p := ⟨r, 0, none⟩) HLT.out).trans HC0.out; have k1 : w1.cell? ⟨r, 1, none⟩ = some (.int .i64 (pos : Int)) := (hb1.cell (p := ⟨r, 1, none⟩) HLT.out).trans HC1.out; have k2 : w1.frozen? ⟨r, 1, none⟩ = false := (hb1.frozen (p := ⟨r, 1, none⟩) HLT.out).trans HF.out; have HO1 := kept (Rd.of_own hown1); have HB1 := kept ((HH.out.drewN _).below hb1); have HOW := kept (Only.of_below (r := r) hb1); clear hown1 hb1))
  clear hq1 hq2
  have HP := kept (HB1.out.set_pos (pos + m))
  have HC : Hid (((pos + m : Nat) : Int) = (pos : Int) + (m : Int)) := Int.natCast_add pos m
  have HR2 := fun u => kept (HB1.out.rd_other HO1.out 1 u)
  have HO2 := fun u => kept (((Only.refl w r).drewN _ |>.trans HOW.out).setCell 1 u)
  go_wp2
  go_ret
  refine ⟨A1, c1, rfl, (HR2 _).out, ?_, (HO2 _).out⟩
  rw [← HC.out]
  exact HP.out

end Go.Proofs.Ytcmjgkgdeaiifaa
