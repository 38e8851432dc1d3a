/-
  What octets.Get, its helper holds, the document's own Get and Twin answer, call by call.
-/
import Derived.Test.YtcmjgkgdeaiifaaPut
namespace Go.Proofs.Ytcmjgkgdeaiifaa
open Go.ChangeShapes Go.WideShapes Go.ChangeAt Go.RowKit
set_option linter.unusedVariables false

theorem holds_yes (A : Option Addr) (len c at_ n : Nat) (w : World) (hl : len ≤ 140737488355328) (h : at_ + n ≤ len) :
    Calls Try.prog 50 #[.slice A len c, .int .i64 (at_ : Int), .int .i64 (n : Int)] w fun e w' => e = .returned (.bool true) ∧ w = w' := by
  have h4 : decide ((n : Int) ≤ (len : Int) - (at_ : Int)) = true := by simp; omega
  go_enter Try.func50, Try.ntmps50
  go_wp2
  go_ret
  exact ⟨rfl, rfl⟩
theorem holds_no (A : Option Addr) (len c : Nat) (at_ n : Int) (w : World) (hl : len ≤ 140737488355328) (h : at_ < 0 ∨ n < 0 ∨ len < at_ + n) (hn : n ≤ 9223372036854775807) (ha : at_ ≤ 9223372036854775807) :
    Calls Try.prog 50 #[.slice A len c, .int .i64 at_, .int .i64 n] w fun e w' => e = .returned (.bool false) ∧ w = w' := by
  by_cases h1 : at_ < 0
  · clear h
    go_enter Try.func50, Try.ntmps50
    go_wp2
    go_ret
    exact ⟨rfl, rfl⟩
  · by_cases h2 : n < 0
    · have h1' : 0 ≤ at_ := by omega
      have h2' : decide (0 ≤ n) = false := by simp; omega
      clear h
      go_enter Try.func50, Try.ntmps50
      go_wp2
      go_ret
      exact ⟨rfl, rfl⟩
    · have h1' : 0 ≤ at_ := by omega
      have h2' : 0 ≤ n := by omega
      have h3 : (len : Int) - at_ < n := by omega
      have h4 : decide (n ≤ (len : Int) - at_) = false := by simp; omega
      have h5 : decide (0 ≤ n) = true := by simp; omega
      clear h
      go_enter Try.func50, Try.ntmps50
      go_wp2
      go_ret
      exact ⟨rfl, rfl⟩

theorem get_arg (A : Option Addr) (len c : Nat) (at_ s : Int) (w : World) (h : s < 1 ∨ 8 < s) :
    Calls Try.prog 43 #[.slice A len c, .int .i64 at_, .int .i64 s] w fun e w' => e = .returned (.tuple #[.int .u64 0, .int .i64 1]) ∧ w = w' := by
  go_enter Try.func43, Try.ntmps43
  go_wp2_with (go_at_call 49; refine (canSize_no _ _ h).mono ?_; rintro e w' ⟨rfl, rfl⟩)
  go_ret2
  exact ⟨rfl, rfl⟩
theorem get_short (A : Option Addr) (len c : Nat) (at_ s : Int) (w : World) (h1 : 1 ≤ s) (h2 : s ≤ 8) (hl : len ≤ 140737488355328) (h : at_ < 0 ∨ len < at_ + s) (ha : at_ ≤ 9223372036854775807) :
    Calls Try.prog 43 #[.slice A len c, .int .i64 at_, .int .i64 s] w fun e w' => e = .returned (.tuple #[.int .u64 0, .int .i64 3]) ∧ w = w' := by
  have HH := fun w => kept (holds_no A len c at_ s w hl (by omega) (by omega) ha)
  clear h
  go_enter Try.func43, Try.ntmps43
  go_wp2_with (first | (go_at_call 49; refine (canSize_yes _ _ h1 h2).mono ?_; rintro e w' ⟨rfl, rfl⟩) | (go_at_call 50; refine (HH _).out.mono ?_; rintro e w' ⟨rfl, rfl⟩))
  go_ret2
  exact ⟨rfl, rfl⟩

/-- The bytes that stand from a place on. -/
def part (xs : List UInt8) (at_ s : Nat) : List UInt8 := (xs.drop at_).take s
theorem part_next (xs : List UInt8) (at_ k : Nat) (h : at_ + k < xs.length) : part xs at_ (k + 1) = part xs at_ k ++ [xs[at_ + k]] := by
  unfold part
  rw [List.take_succ_eq_append_getElem (by rw [List.length_drop]; omega)]
  simp
theorem part_length (xs : List UInt8) (at_ k : Nat) (h : at_ + k ≤ xs.length) : (part xs at_ k).length = k := by simp [part]; omega
theorem num_part_next (xs : List UInt8) (at_ k : Nat) (h : at_ + k < xs.length) : num (part xs at_ (k + 1)) 0 = num (part xs at_ k) 0 * 256 + xs[at_ + k].toNat := by
  rw [part_next xs at_ k h, num_snoc]
theorem num_part_lt (xs : List UInt8) (at_ k : Nat) (h : at_ + k ≤ xs.length) : num (part xs at_ k) 0 < 256 ^ k := by
  have := num_lt (part xs at_ k) 0
  rwa [part_length xs at_ k h, Nat.zero_add, Nat.one_mul] at this

theorem or_byte (m x : Nat) (hx : x < 2 ^ 8) (hm : m < 72057594037927936) : bits .or .u64 ((m : Int) * 256) (x : Int) = ((m * 256 + x : Nat) : Int) := by
  have h1 : ((m : Int) * 256) = ((m * 256 : Nat) : Int) := by simp
  have h2 := Nat.two_pow_add_eq_or_of_lt hx m
  rw [h1, u64_or_nat (m * 256) x (by omega) (by omega)]
  congr 1
  rw [Nat.mul_comm m 256]
  exact h2.symm

theorem get_ok (A : Option Addr) (len c at_ s : Nat) (xs : List UInt8) (w : World) (h1 : 1 ≤ s) (h2 : s ≤ 8) (hr : Rd w A len xs) (hl : len ≤ 140737488355328) (h : at_ + s ≤ len) :
    Calls Try.prog 43 #[.slice A len c, .int .i64 (at_ : Int), .int .i64 (s : Int)] w fun e w' => e = .returned (.tuple #[.int .u64 ((num (part xs at_ s) 0 : Nat) : Int), .int .i64 0]) ∧ w = w' := by
  have HX := kept hr.1
  obtain ⟨a, rfl, hc⟩ := hr.2 (by omega)
  have HC := kept hc
  clear hc hr
  go_enter Try.func43, Try.ntmps43
  go_wp2_with (first | (go_at_call 49; refine (canSize_yes _ _ (by omega) (by omega)).mono ?_; rintro e w' ⟨rfl, rfl⟩) | (go_at_call 50; refine (holds_yes _ _ _ _ _ _ hl h).mono ?_; rintro e w' ⟨rfl, rfl⟩))
  go_loop [8, 19] (fun v i => ∃ k : Nat, k ≤ s ∧ i = .int .i64 k ∧ v = .int .u64 ((num (part xs at_ k) 0 : Nat) : Int)) (fun _ i => s - (intOf i).toNat)
  case atStart => exact ⟨0, Nat.zero_le _, rfl, rfl⟩
  case round =>
    obtain ⟨k, hk, rfl, rfl⟩ := hrel
    by_cases hlt : k < s
    · have hx := HX.out
      have hcell := HC.out (at_ + k) (by omega)
      have hnext := kept (num_part_next xs at_ k (by omega))
      have hbound := num_part_lt xs at_ k (by omega)
      generalize hm : num (part xs at_ k) 0 = m at hnext hbound
      have hm2 : m < 72057594037927936 := Nat.lt_of_lt_of_le hbound (by
        have : 256 ^ k ≤ 256 ^ 7 := Nat.pow_le_pow_right (by omega) (by omega)
        exact this)
      have hbt := (xs[at_ + k]'(by omega)).toNat_lt
      unfold byteV at hcell
      generalize (xs[at_ + k]'(by omega)).toNat = x at hcell hnext hbt
      clear hx hm hbound
      go_wp2
      go_round
      case rel => exact ⟨k + 1, by omega, by go_num, by rw [hnext.out, or_byte m x hbt hm2]⟩
      case measure => simp [intOf]; omega
    · obtain rfl : k = s := by omega
      go_wp2
      go_ret2
      exact ⟨rfl, rfl⟩

theorem refGet_arg (A : Option Addr) (len c : Nat) (at_ s : Int) (w : World) (h : s < 1 ∨ 8 < s) :
    Calls Try.prog 46 #[.slice A len c, .int .i64 at_, .int .i64 s] w fun e w' => e = .returned (.tuple #[.int .u64 0, .int .i64 1]) ∧ w = w' := by
  rcases h with h | h
  · go_enter Try.func46, Try.ntmps46
    go_wp2
    go_ret2
    exact ⟨rfl, rfl⟩
  · have h1 : 1 ≤ s := by omega
    go_enter Try.func46, Try.ntmps46
    go_wp2
    go_ret2
    exact ⟨rfl, rfl⟩
theorem refGet_short (A : Option Addr) (len c : Nat) (at_ s : Int) (w : World) (h1 : 1 ≤ s) (h2 : s ≤ 8) (hl : len ≤ 140737488355328) (h : at_ < 0 ∨ len < at_ + s) (ha : at_ ≤ 9223372036854775807) :
    Calls Try.prog 46 #[.slice A len c, .int .i64 at_, .int .i64 s] w fun e w' => e = .returned (.tuple #[.int .u64 0, .int .i64 3]) ∧ w = w' := by
  have hs1 : ¬ s < 1 := by omega
  have hs8 : decide (8 < s) = false := by simp; omega
  by_cases h3 : at_ < 0
  · clear h
    go_enter Try.func46, Try.ntmps46
    go_wp2
    go_ret2
    exact ⟨rfl, rfl⟩
  · by_cases h4 : (len : Int) < at_
    · have h3' : 0 ≤ at_ := by omega
      clear h
      go_enter Try.func46, Try.ntmps46
      go_wp2
      go_ret2
      exact ⟨rfl, rfl⟩
    · have h3' : 0 ≤ at_ := by omega
      have h4' : decide ((len : Int) < at_) = false := by simp; omega
      have h5 : decide ((len : Int) - at_ < s) = true := by simp; omega
      clear h
      go_enter Try.func46, Try.ntmps46
      go_wp2
      go_ret2
      exact ⟨rfl, rfl⟩
theorem refGet_ok (A : Option Addr) (len c at_ s : Nat) (xs : List UInt8) (w : World) (h1 : 1 ≤ s) (h2 : s ≤ 8) (hr : Rd w A len xs) (hl : len ≤ 140737488355328) (h : at_ + s ≤ len) :
    Calls Try.prog 46 #[.slice A len c, .int .i64 (at_ : Int), .int .i64 (s : Int)] w fun e w' => e = .returned (.tuple #[.int .u64 ((num (part xs at_ s) 0 : Nat) : Int), .int .i64 0]) ∧ w = w' := by
  have HX := kept hr.1
  obtain ⟨a, rfl, hc⟩ := hr.2 (by omega)
  have HC := kept hc
  have hs8 : decide (8 < (s : Int)) = false := by simp; omega
  have h4' : decide ((len : Int) < (at_ : Int)) = false := by simp; omega
  have h5 : decide ((len : Int) - (at_ : Int) < (s : Int)) = false := by simp; omega
  clear hc hr
  go_enter Try.func46, Try.ntmps46
  go_wp2
  go_loop [8, 9] (fun v i => ∃ k : Nat, k ≤ s ∧ i = .int .i64 k ∧ v = .int .u64 ((num (part xs at_ k) 0 : Nat) : Int)) (fun _ i => s - (intOf i).toNat)
  case atStart => exact ⟨0, Nat.zero_le _, rfl, rfl⟩
  case round =>
    obtain ⟨k, hk, rfl, rfl⟩ := hrel
    by_cases hlt : k < s
    · have hx := HX.out
      have hcell := HC.out (at_ + k) (by omega)
      have hnext := kept (num_part_next xs at_ k (by omega))
      have hbound := num_part_lt xs at_ k (by omega)
      generalize hm : num (part xs at_ k) 0 = m at hnext hbound
      have hm2 : m < 72057594037927936 := Nat.lt_of_lt_of_le hbound (by
        have : 256 ^ k ≤ 256 ^ 7 := Nat.pow_le_pow_right (by omega) (by omega)
        exact this)
      have hbt := (xs[at_ + k]'(by omega)).toNat_lt
      unfold byteV at hcell
      generalize (xs[at_ + k]'(by omega)).toNat = x at hcell hnext hbt
      clear hx hm hbound
      go_wp2
      go_round
      case rel => exact ⟨k + 1, by omega, by go_num, by rw [hnext.out, Nat.mul_comm m 256]; simp⟩
      case measure => simp [intOf]; omega
    · obtain rfl : k = s := by omega
      go_wp2
      go_ret2
      exact ⟨rfl, rfl⟩

/-- Twin: the same bytes in memory of their own. -/
theorem twin_any (A : Option Addr) (n c : Nat) (xs : List UInt8) (w : World) (hr : Rd w A n xs) (hl : n ≤ 140737488355328) :
    Calls Try.prog 18 #[.slice A n c] w fun e w' => ∃ A' c', e = .returned (.slice A' n c') ∧ w'.ownsRow w.heap.size 5 1 (.slice A' n c') n (cellsOf xs) ∧ Below w.heap.size w w' := by
  have HO := kept (World.ownsRow_made (base := w.heap.size) (e := 5) (size := 1) w #[] 0 (Nat.le_refl _) (Nat.zero_le _) rfl)
  have HR := kept (hr.alloc (.cells #[] 5))
  have HB := kept ((Below.refl w.heap.size w).alloc (Nat.le_refl _) (.cells #[] 5))
  clear hr
  go_enter Try.func18, Try.ntmps18
  go_wp2_with (at_builtin; refine wpList_append_rd (xs := []) rfl _ _ 22 rfl w.heap.size 5 rfl rfl Try.underlying22 u8info HO.out HR.out (by omega) (by simp) ?_; intro A' c' w1 hown1 hb1; have HO1 := kept hown1; have HB1 := kept hb1; clear hown1 hb1)
  go_ret
  have e : 0 + n = n := by omega
  have h1 := HO1.out
  rw [List.nil_append, e] at h1
  exact ⟨A', c', by simp, h1, HB.out.trans HB1.out⟩
end Go.Proofs.Ytcmjgkgdeaiifaa
