/-
  Plain mathematics: of a sealed row bits are turned, within 32 in a row of what is sealed, or within the four bytes ahead; then the checksum is another one.
-/
import Derived.Test.YtklkgbaejehfpaaDoorSeal
namespace Go.Proofs.YtklkgbaejehfpaaDoor
open Crc

theorem pow256 (n : Nat) : 256 ^ n = 2 ^ (8 * n) := (two_pow_8 n).symm
theorem turned_front (xs : List UInt8) (m : Nat) (hm : m < 4294967296) : flip (sealed xs) m = flip (be (csum xs) 4) m ++ xs := by
  unfold sealed
  rw [flip_append, be_length, show m / 256 ^ 4 = 0 by omega, flip_zero]
theorem turned_behind (xs : List UInt8) (m : Nat) (hm : m % 256 ^ 4 = 0) : flip (sealed xs) m = be (csum xs) 4 ++ flip xs (m / 256 ^ 4) := by
  unfold sealed
  rw [flip_append, be_length, flip_far _ _ (by rw [be_length]; exact hm)]
theorem turned_ne (xs : List UInt8) (a q : Nat) (hq : 0 < q) (h32 : q < 2 ^ 32) (h : 2 ^ a * q < 2 ^ 32 ∨ (32 ≤ a ∧ 2 ^ a * q < 2 ^ (8 * (4 + xs.length)))) :
    num ((flip (sealed xs) (2 ^ a * q)).take 4) 0 ≠ csum ((flip (sealed xs) (2 ^ a * q)).drop 4) := by
  have hpos : 0 < 2 ^ a * q := Nat.mul_pos (Nat.pow_pos (by omega)) hq
  rcases h with h | ⟨ha, h⟩
  · generalize 2 ^ a * q = m at h hpos
    rw [turned_front xs m (by omega)]
    have hl : (flip (be (csum xs) 4) m).length = 4 := by rw [flip_length, be_length]
    rw [List.take_append_of_le_length (by omega), List.take_of_length_le (by omega), List.drop_append_of_le_length (by omega), List.drop_of_length_le (by omega), List.nil_append]
    intro e
    have h1 := be_num (flip (be (csum xs) 4) m) 0
    rw [hl, e] at h1
    have := flip_inj (be (csum xs) 4) m (by rw [be_length]; omega) h1.symm
    omega
  · obtain ⟨p, rfl⟩ : ∃ p, a = p + 32 := ⟨a - 32, by omega⟩
    have e1 : 2 ^ (p + 32) * q = 256 ^ 4 * (2 ^ p * q) := by rw [Nat.pow_add, Nat.mul_comm (2 ^ p), Nat.mul_assoc]
    rw [e1] at h ⊢
    have e2 : 256 ^ 4 * (2 ^ p * q) / 256 ^ 4 = 2 ^ p * q := Nat.mul_div_cancel_left _ (by omega)
    rw [turned_behind xs _ (Nat.mul_mod_right _ _), e2]
    rw [List.take_append_of_le_length (by rw [be_length]; omega), List.take_of_length_le (by rw [be_length]; omega), List.drop_append_of_le_length (by rw [be_length]; omega), List.drop_of_length_le (by rw [be_length]; omega), List.nil_append, num_be _ 4 (csum_lt xs)]
    intro e
    have hb : 2 ^ p * q < 256 ^ xs.length := by
      rw [pow256, Nat.mul_add, Nat.pow_add] at *
      have e3 : 256 ^ 4 = 2 ^ (8 * 4) := by omega
      rw [e3] at h
      exact Nat.lt_of_mul_lt_mul_left h
    exact crc_burst xs 4294967295 p q hq h32 hb (fin_inj e).symm
/-- One bit more is turned, in the cells. -/
theorem cellsOf_set (xs : List UInt8) (i : Nat) (y : UInt8) : (cellsOf xs).set i (byteV y) = cellsOf (xs.set i y) := by
  unfold cellsOf
  rw [List.map_set]
theorem flip_cells (xs : List UInt8) (m p : Nat) (h : p / 8 < (flip xs m).length) :
    (cellsOf (flip xs m)).set (p / 8) (byteV ((flip xs m)[p / 8] ^^^ UInt8.ofNat (2 ^ (p % 8)))) = cellsOf (flip xs (m ^^^ 2 ^ p)) := by
  rw [cellsOf_set, ← flip_set _ p h, Crc.flip_flip]
theorem turn_byte (y : UInt8) (j x : Nat) (hx : y.toNat = x) : Go.Value.int .u8 (Go.bits .xor .u8 (x : Int) (2 ^ j % 256)) = byteV (y ^^^ UInt8.ofNat (2 ^ j)) := by
  subst hx
  have h := Go.u8_xor_nat y.toNat (2 ^ j % 256) y.toNat_lt (by omega)
  have e : (((2 ^ j % 256 : Nat)) : Int) = 2 ^ j % 256 := by simp
  rw [e] at h
  rw [h]
  unfold byteV
  rw [UInt8.toNat_xor, UInt8.toNat_ofNat']
end Go.Proofs.YtklkgbaejehfpaaDoor
