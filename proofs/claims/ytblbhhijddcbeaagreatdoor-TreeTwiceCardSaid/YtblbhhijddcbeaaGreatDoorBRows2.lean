/- Rows2 Sum -/
import Derived.Test.YtblbhhijddcbeaaGreatDoorBBase
import Derived.Deep.Matrix
import Derived.Deep.Slices
section
namespace Go.Proofs.YtblbhhijddcbeaaGreatDoor
open Go.ChangeShapes Go.WideShapes Go.ChangeAt Go.RowKit
set_option linter.unusedVariables false
set_option linter.unusedSimpArgs false
set_option maxRecDepth 100000
set_option maxHeartbeats 16000000
structure RdRows (w : World) (A : Option Addr) (n : Nat) (B : Nat → Option Addr) (C : Nat → Nat) (X : Nat → List UInt8) : Prop where
 cell : 0 < n → ∃ a, A = some a ∧ ∀ i, i < n → w.cell? (a.add i) = some (.slice (B i) (X i).length (C i))
 row : ∀ i, i < n → Rd w (B i) (X i).length (X i)
 room : ∀ i, i < n → (X i).length ≤ C i
end Go.Proofs.YtblbhhijddcbeaaGreatDoor
end
section
/-
 What sum.shift, sum.take, sum.Sum and the document's own Sum answer, where the table of sixteen holds what its initialiser lays.
-/
namespace Go.Proofs.YtblbhhijddcbeaaGreatDoor
open Go.ChangeShapes Go.WideShapes Go.ChangeAt Go.RowKit Crc
set_option linter.unusedVariables false
def Fours (w : World) : Prop := ∀ i, i < 16 → w.cell? ⟨1, i, none⟩ = some (.int .u32 ((it 4 i : Nat) : Int))
theorem four_split (c : Nat) : it 4 c = c / 16 ^^^ it 4 (c % 16) := by
 have e : c = (c % 16) ^^^ (2 ^ 4 * (c / 16)) := by
  rw [xor_low (c % 16) (c / 16) 4 (by omega)]; omega
 conv => lhs; rw [e, it_xor, it_shift]
 rw [Nat.xor_comm]
theorem shift_any (c : Nat) (w : World) (hc : c < 4294967296) (hf : Fours w) :
 Calls Tryz.prog 246 #[.int .u32 (c : Int)] w fun e w' => e = .returned (.int .u32 ((it 4 c : Nat) : Int)) ∧ w = w' := by
 have hcell := hf (c % 16) (by omega); have hlt : it 4 (c % 16) < 4294967296 := it_lt 4 (by omega); have hres := kept (u32_xor_nat (c / 16) (it 4 (c % 16)) (by omega) hlt); have HS := kept (four_split c); have ha : bits .and .u32 (c : Int) 15 = ((c % 16 : Nat) : Int) := by
  have := u32_and_nat c 15 hc (by omega); rw [nat_mask4] at this; exact this
 have hm : c % 16 < 16 := by omega
 generalize it 4 (c % 16) = t at hcell hres hlt HS; generalize c % 16 = m at hcell ha hm; clear hf; go_enter Tryz.func246, Tryz.ntmps246; go_wp2; go_ret; exact ⟨by rw [HS.out]; exact ret_int hres.out, rfl⟩
theorem take_any (c x : Nat) (w : World) (hc : c < 4294967296) (hx : x < 256) (hf : Fours w) :
 Calls Tryz.prog 213 #[.int .u32 (c : Int), .int .u8 (x : Int)] w fun e w' => e = .returned (.int .u32 ((it 8 (c ^^^ x) : Nat) : Int)) ∧ w = w' := by
 have hr := u32_xor_nat c x hc (by omega); have hl : c ^^^ x < 4294967296 := Nat.xor_lt_two_pow (n := 32) hc (by omega); have HE := kept (it_add 4 4 (c ^^^ x)); generalize c ^^^ x = r at hr hl HE; have h1 := kept (shift_any r w hl hf); have hl2 : it 4 r < 4294967296 := it_lt 4 hl; have h2 := kept (shift_any (it 4 r) w hl2 hf); clear hf hl hl2; go_enter Tryz.func213, Tryz.ntmps213; go_wp2_with (first | (go_at_call 246; (with_reducible refine (h1.out).mono ?_); rintro e w' ⟨rfl, rfl⟩) | (go_at_call 246; (with_reducible refine (h2.out).mono ?_); rintro e w' ⟨rfl, rfl⟩))
 go_ret; exact ⟨by rw [HE.out]; rfl, rfl⟩
def reg (X : Nat → List UInt8) : Nat → Nat
 | 0 => 4294967295
 | k + 1 => crc (reg X k) (X k)
theorem reg_lt (X : Nat → List UInt8) (k : Nat) : reg X k < 4294967296 := by
 induction k with
 | zero => show 4294967295 < _; omega
 | succ k ih => exact crc_lt _ ih
theorem crc_take (c : Nat) (xs : List UInt8) (k : Nat) (h : k < xs.length) : crc c (xs.take (k + 1)) = it 8 (crc c (xs.take k) ^^^ xs[k].toNat) := by
 rw [List.take_succ_eq_append_getElem h, crc_append]; rfl
def fin (c : Nat) : Nat := 4294967295 ^^^ c
theorem fin_eq (c : Nat) (h : c < 4294967296) : bits .xor .u32 IntKind.u32.max (c : Int) = ((fin c : Nat) : Int) := u32_xor_nat 4294967295 c (by omega) h
theorem fin_lt (c : Nat) (h : c < 4294967296) : fin c < 4294967296 := Nat.xor_lt_two_pow (n := 32) (by omega) h
theorem sum_any (A : Option Addr) (n c : Nat) (B : Nat → Option Addr) (C : Nat → Nat) (X : Nat → List UInt8) (w : World) (hr : RdRows w A n B C X) (hn : n ≤ 140737488355328) (hX : ∀ i, i < n → (X i).length ≤ 140737488355328) (hf : Fours w) :
 Calls Tryz.prog 173 #[.slice A n c] w fun e w' => e = .returned (.int .u32 ((fin (reg X n) : Nat) : Int)) ∧ w = w' := by
 have HR := kept hr; have HX := kept hX; have HF := kept hf; clear hr hX hf; go_enter Tryz.func173, Tryz.ntmps173; go_wp2; go_loop [3, 10] (fun v i => ∃ k : Nat, k ≤ n ∧ i = .int .i64 k ∧ v = .int .u32 ((reg X k : Nat) : Int)) (fun _ i => n - (intOf i).toNat)
 case atStart => exact ⟨0, Nat.zero_le _, rfl, rfl⟩
 case round =>
  obtain ⟨k, hk, rfl, rfl⟩ := hrel; by_cases hlt : k < n
  · obtain ⟨a, rfl, hc⟩ := HR.out.cell (by omega); have hck := hc k hlt; have HROW := kept (HR.out.row k hlt); have hm := HX.out k hlt; have HREG := kept (reg_lt X k); have HN : Hid (reg X (k + 1) = crc (reg X k) (X k)) := rfl; generalize reg X k = r at HREG HN; generalize X k = xs at hck HROW hm HN; generalize B k = Bk at hck HROW; have HL := kept HROW.out.1; generalize hxl : xs.length = m at hck HROW hm; have HXL := kept hxl; clear hc hxl; go_wp2; go_loop [3, 16] (fun v i => ∃ j : Nat, j ≤ m ∧ i = .int .i64 j ∧ v = .int .u32 ((crc r (xs.take j) : Nat) : Int)) (fun _ i => m - (intOf i).toNat)
    case atStart => exact ⟨0, Nat.zero_le _, rfl, rfl⟩
    case round =>
     obtain ⟨j, hj, rfl, rfl⟩ := hrel; by_cases hjm : j < m
     · obtain ⟨b, eb, hcb⟩ := HROW.out.at_ (k := j) (by have := HXL.out; omega); subst eb; have HT := kept (crc_take r xs j (by have := HXL.out; omega)); have hcl := crc_lt (xs.take j) HREG.out; generalize crc r (xs.take j) = q at hcl HT; have hbt := (xs[j]'(by have := HXL.out; omega)).toNat_lt; generalize (xs[j]'(by have := HXL.out; omega)).toNat = x at hcb hbt HT; have HTK := kept (take_any q x w hcl hbt HF.out); clear hcl hbt; go_wp2_with (first | (go_at_call 213; (with_reducible refine (HTK.out).mono ?_); rintro e w' ⟨rfl, rfl⟩))
       go_round
       case rel => exact ⟨j + 1, by omega, by go_num, by rw [HT.out]⟩
       case measure => simp [intOf]; omega
     · obtain rfl : j = m := by omega
       have HTA : Hid (xs.take j = xs) := List.take_of_length_le (by have := HXL.out; omega); go_wp2; go_round
       case rel => exact ⟨k + 1, by omega, by go_num, by rw [HN.out, HTA.out]⟩
       case measure => simp [intOf]; omega
  · obtain rfl : k = n := by omega
    have HREG := kept (reg_lt X k); go_wp2; go_ret; exact ⟨ret_int (fin_eq _ HREG.out), rfl⟩
end Go.Proofs.YtblbhhijddcbeaaGreatDoor
end
