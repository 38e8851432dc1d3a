/-
  Plain mathematics of the checksum: a register of bits, what turned bits make of it; no program is named.
-/
import Derived.Test.YtfgpkgenahlikaaDoorNum
namespace Go.Proofs.YtfgpkgenahlikaaDoor.Crc
/-- One bit out of the register. -/
def bit1 (c : Nat) : Nat := if c % 2 = 1 then c / 2 ^^^ 2197175160 else c / 2
def it : Nat → Nat → Nat
  | 0, c => c
  | k + 1, c => it k (bit1 c)
def crc : Nat → List UInt8 → Nat
  | c, [] => c
  | c, x :: r => crc (it 8 (c ^^^ x.toNat)) r

/-- The bits of m turned, from the first byte's lowest bit on. -/
def flip : List UInt8 → Nat → List UInt8
  | [], _ => []
  | x :: r, m => (x ^^^ UInt8.ofNat m) :: flip r (m / 256)
theorem crc_cons (c : Nat) (x : UInt8) (r : List UInt8) : crc c (x :: r) = crc (it 8 (c ^^^ x.toNat)) r := rfl
theorem flip_cons (x : UInt8) (r : List UInt8) (m : Nat) : flip (x :: r) m = (x ^^^ UInt8.ofNat m) :: flip r (m / 256) := rfl
theorem xor4 (a b c d : Nat) : (a ^^^ b) ^^^ (c ^^^ d) = (a ^^^ c) ^^^ (b ^^^ d) := by
  rw [Nat.xor_assoc, ← Nat.xor_assoc b c d, Nat.xor_comm b c, Nat.xor_assoc c b d, ← Nat.xor_assoc]
theorem bit1_xor (a b : Nat) : bit1 (a ^^^ b) = bit1 a ^^^ bit1 b := by
  have h1 : (a ^^^ b) / 2 = a / 2 ^^^ b / 2 := Nat.xor_div_two
  have h2 : (a ^^^ b) % 2 = (a + b) % 2 := by
    have e := Nat.xor_mod_two_pow (a := a) (b := b) (n := 1)
    rw [Nat.pow_one] at e
    rw [e]
    rcases Nat.mod_two_eq_zero_or_one a with ha | ha <;> rcases Nat.mod_two_eq_zero_or_one b with hb | hb <;> rw [ha, hb] <;> simp <;> omega
  unfold bit1
  rw [h1, h2]
  by_cases ha : a % 2 = 1 <;> by_cases hb : b % 2 = 1
  · rw [if_neg (by omega), if_pos ha, if_pos hb, xor4, Nat.xor_self, Nat.xor_zero]
  · rw [if_pos (by omega), if_pos ha, if_neg hb, Nat.xor_assoc, Nat.xor_assoc, Nat.xor_comm (b / 2)]
  · rw [if_pos (by omega), if_neg ha, if_pos hb, Nat.xor_assoc]
  · rw [if_neg (by omega), if_neg ha, if_neg hb]
theorem it_xor (k a b : Nat) : it k (a ^^^ b) = it k a ^^^ it k b := by
  induction k generalizing a b with
  | zero => rfl
  | succ k ih => simp only [it]; rw [bit1_xor, ih]
theorem it_add (j k c : Nat) : it (j + k) c = it k (it j c) := by
  induction j generalizing c with
  | zero => simp [it]
  | succ j ih => rw [Nat.succ_add]; simp only [it]; exact ih _
theorem bit1_even (c : Nat) : bit1 (2 * c) = c := by
  unfold bit1; rw [if_neg (by omega)]; omega
theorem it_shift (k c : Nat) : it k (2 ^ k * c) = c := by
  induction k with
  | zero => simp [it]
  | succ k ih => simp only [it]; rw [Nat.pow_succ, Nat.mul_comm (2 ^ k) 2, Nat.mul_assoc, bit1_even]; exact ih
theorem bit1_lt {c : Nat} (h : c < 2 ^ 32) : bit1 c < 2 ^ 32 := by
  unfold bit1
  by_cases e : c % 2 = 1
  · rw [if_pos e]
    exact Nat.xor_lt_two_pow (by omega) (by omega)
  · rw [if_neg e]; omega
theorem it_lt {c : Nat} (k : Nat) (h : c < 2 ^ 32) : it k c < 2 ^ 32 := by
  induction k generalizing c with
  | zero => exact h
  | succ k ih => exact ih (bit1_lt h)
theorem xor_eq_zero {a b : Nat} (h : a ^^^ b = 0) : a = b := by
  have := congrArg (· ^^^ b) h
  simp only [Nat.xor_assoc, Nat.xor_self, Nat.xor_zero, Nat.zero_xor] at this
  exact this
theorem bit1_zero {c : Nat} (h : c < 2 ^ 32) (e : bit1 c = 0) : c = 0 := by
  unfold bit1 at e
  by_cases o : c % 2 = 1
  · rw [if_pos o] at e
    have := xor_eq_zero e
    omega
  · rw [if_neg o] at e; omega
theorem it_ne {c : Nat} (k : Nat) (h : c < 2 ^ 32) (hc : c ≠ 0) : it k c ≠ 0 := by
  induction k generalizing c with
  | zero => exact hc
  | succ k ih => exact ih (bit1_lt h) fun e => hc (bit1_zero h e)
theorem crc_append (c : Nat) (xs ys : List UInt8) : crc c (xs ++ ys) = crc (crc c xs) ys := by
  induction xs generalizing c with
  | nil => rfl
  | cons x r ih => exact ih _
theorem crc_lt {c : Nat} (xs : List UInt8) (h : c < 2 ^ 32) : crc c xs < 2 ^ 32 := by
  induction xs generalizing c with
  | nil => exact h
  | cons x r ih =>
    have := x.toNat_lt
    exact ih (it_lt 8 (Nat.xor_lt_two_pow h (by omega)))

theorem flip_length (xs : List UInt8) (m : Nat) : (flip xs m).length = xs.length := by
  induction xs generalizing m with
  | nil => rfl
  | cons x r ih => simp [flip, ih]
theorem flip_zero (xs : List UInt8) : flip xs 0 = xs := by
  induction xs with
  | nil => rfl
  | cons x r ih => simp [flip, ih]
theorem split256 (m : Nat) : m = (m % 256) ^^^ (2 ^ 8 * (m / 256)) := by
  apply Nat.eq_of_testBit_eq
  intro i
  rw [Nat.testBit_xor, Nat.testBit_two_pow_mul, show m % 256 = m % 2 ^ 8 from rfl, Nat.testBit_mod_two_pow, show m / 256 = m / 2 ^ 8 from rfl, Nat.testBit_div_two_pow]
  by_cases h : i < 8
  · simp [h, show ¬ 8 ≤ i by omega]
  · simp [h, show 8 ≤ i by omega, show i - 8 + 8 = i by omega]
theorem it8_split (d m : Nat) : it 8 (d ^^^ m) = it 8 (d ^^^ m % 256) ^^^ m / 256 := by
  have e : d ^^^ m = (d ^^^ m % 256) ^^^ (2 ^ 8 * (m / 256)) := by rw [Nat.xor_assoc, ← split256]
  rw [e, it_xor, it_shift]
theorem flip_byte (x : UInt8) (m : Nat) : (x ^^^ UInt8.ofNat m).toNat = x.toNat ^^^ (m % 256) := by simp
theorem crc_flip_cons (c d m : Nat) (x : UInt8) (r : List UInt8) (n k : Nat) (hk : k = 8 + n)
    (ih : ∀ c d, crc (c ^^^ d) (flip r (m / 256)) = crc c r ^^^ it n (d ^^^ m / 256)) :
    crc (c ^^^ d) (flip (x :: r) m) = crc c (x :: r) ^^^ it k (d ^^^ m) := by
  rw [flip_cons, crc_cons, crc_cons, flip_byte, xor4 c d x.toNat, it_xor, ih, hk, it_add, it8_split d m]
theorem crc_flip (xs : List UInt8) (c d m : Nat) (h : m < 256 ^ xs.length) : crc (c ^^^ d) (flip xs m) = crc c xs ^^^ it (8 * xs.length) (d ^^^ m) := by
  induction xs generalizing c d m with
  | nil =>
    obtain rfl : m = 0 := by simp at h; exact h
    rw [Nat.xor_zero]
    rfl
  | cons x r ih =>
    rw [List.length_cons, Nat.pow_succ] at h
    exact crc_flip_cons c d m x r (8 * r.length) _ (by rw [List.length_cons]; omega) fun c d => ih c d _ (by omega)
theorem crc_burst (xs : List UInt8) (c p q : Nat) (hq : 0 < q) (h32 : q < 2 ^ 32) (h : 2 ^ p * q < 256 ^ xs.length) : crc c (flip xs (2 ^ p * q)) ≠ crc c xs := by
  have h1 := crc_flip xs c 0 (2 ^ p * q) h
  rw [Nat.xor_zero, Nat.zero_xor] at h1
  have hp : p ≤ 8 * xs.length := by
    rw [← Nat.pow_le_pow_iff_right (a := 2) (by omega), Nat.pow_mul]
    have := Nat.le_mul_of_pos_right (2 ^ p) hq
    exact Nat.le_of_lt (Nat.lt_of_le_of_lt this h)
  obtain ⟨t, ht⟩ : ∃ t, 8 * xs.length = p + t := ⟨_, (Nat.add_sub_cancel' hp).symm⟩
  rw [ht, it_add, it_shift] at h1
  intro e
  rw [h1] at e
  have e2 : crc c xs ^^^ (crc c xs ^^^ it t q) = crc c xs ^^^ crc c xs := by rw [e]
  rw [← Nat.xor_assoc, Nat.xor_self, Nat.zero_xor] at e2
  exact it_ne t h32 (by omega) e2

theorem flip_append (a b : List UInt8) (m : Nat) : flip (a ++ b) m = flip a m ++ flip b (m / 256 ^ a.length) := by
  induction a generalizing m with
  | nil => simp [flip]
  | cons x r ih => simp only [List.cons_append, flip, ih, List.length_cons]; rw [Nat.div_div_eq_div_mul, Nat.pow_succ, Nat.mul_comm 256]
theorem flip_far (a : List UInt8) (m : Nat) (h : m % 256 ^ a.length = 0) : flip a m = a := by
  induction a generalizing m with
  | nil => rfl
  | cons x r ih =>
    rw [List.length_cons, Nat.pow_succ, Nat.mul_comm] at h
    have h1 : m % 256 = 0 := by
      have := Nat.mod_mul_right_mod m 256 (256 ^ r.length)
      omega
    have h2 : m / 256 % 256 ^ r.length = 0 := by
      have := Nat.mod_mul_right_div_self m 256 (256 ^ r.length)
      rw [h] at this
      omega
    have e : UInt8.ofNat m = 0 := by apply UInt8.toNat_inj.1; simpa using h1
    simp [flip, ih _ h2, e]
theorem flip_flip (xs : List UInt8) (m n : Nat) : flip (flip xs m) n = flip xs (m ^^^ n) := by
  induction xs generalizing m n with
  | nil => rfl
  | cons x r ih =>
    have e1 : (m ^^^ n) / 256 = m / 256 ^^^ n / 256 := Nat.xor_div_two_pow (n := 8)
    have e2 : UInt8.ofNat (m ^^^ n) = UInt8.ofNat m ^^^ UInt8.ofNat n := by
      apply UInt8.toNat_inj.1
      simp only [UInt8.toNat_ofNat', UInt8.toNat_xor]
      exact Nat.xor_mod_two_pow (n := 8)
    simp only [flip]
    rw [ih, e1, e2, UInt8.xor_assoc]
theorem flip_inj (xs : List UInt8) (m : Nat) (h : m < 256 ^ xs.length) (e : flip xs m = xs) : m = 0 := by
  induction xs generalizing m with
  | nil => simpa using h
  | cons x r ih =>
    rw [List.length_cons, Nat.pow_succ] at h
    simp only [flip, List.cons.injEq] at e
    have h2 := ih (m / 256) (by omega) e.2
    have h3 : (x ^^^ UInt8.ofNat m).toNat = x.toNat := by rw [e.1]
    rw [UInt8.toNat_xor, UInt8.toNat_ofNat'] at h3
    have h4 : x.toNat ^^^ (x.toNat ^^^ m % 256) = x.toNat ^^^ x.toNat := congrArg (x.toNat ^^^ ·) h3
    rw [← Nat.xor_assoc, Nat.xor_self, Nat.zero_xor] at h4
    omega
theorem flip_set (xs : List UInt8) (p : Nat) (h : p / 8 < xs.length) : flip xs (2 ^ p) = xs.set (p / 8) (xs[p / 8] ^^^ UInt8.ofNat (2 ^ (p % 8))) := by
  induction xs generalizing p with
  | nil => simp at h
  | cons x r ih =>
    by_cases hp : p < 8
    · have e0 : p / 8 = 0 := by omega
      have e1 : p % 8 = p := by omega
      have e2 : 2 ^ p / 256 = 0 := Nat.div_eq_of_lt (Nat.pow_lt_pow_right (by omega) hp)
      simp only [e0, e1, flip, e2, flip_zero, List.set_cons_zero, List.getElem_cons_zero]
    · obtain ⟨q, rfl⟩ : ∃ q, p = q + 8 := ⟨p - 8, by omega⟩
      have e0 : (q + 8) / 8 = q / 8 + 1 := by omega
      have e1 : (q + 8) % 8 = q % 8 := by omega
      have e2 : 2 ^ (q + 8) / 256 = 2 ^ q := by rw [Nat.pow_add]; omega
      have e3 : UInt8.ofNat (2 ^ (q + 8)) = 0 := by apply UInt8.toNat_inj.1; simp [Nat.pow_add]
      have hl : q / 8 < r.length := by rw [e0, List.length_cons] at h; omega
      simp only [e0, e1, flip, e2, e3, ih q hl, List.set_cons_succ, List.getElem_cons_succ, UInt8.xor_zero]
/-- One more bit of a mask. -/
theorem xor_low (a b k : Nat) (h : a < 2 ^ k) : a ^^^ (2 ^ k * b) = a + 2 ^ k * b := by
  apply Nat.eq_of_testBit_eq
  intro i
  rw [Nat.add_comm, Nat.testBit_xor, Nat.testBit_two_pow_mul_add _ h, Nat.testBit_two_pow_mul]
  by_cases hi : i < k
  · simp [hi, show ¬ k ≤ i by omega]
  · have : a.testBit i = false := Nat.testBit_lt_two_pow (Nat.lt_of_lt_of_le h (Nat.pow_le_pow_right (by omega) (by omega)))
    simp [hi, this, show k ≤ i by omega]
theorem mul_xor (a b c : Nat) : 2 ^ a * (b ^^^ c) = (2 ^ a * b) ^^^ (2 ^ a * c) := by
  apply Nat.eq_of_testBit_eq
  intro i
  simp only [Nat.testBit_xor, Nat.testBit_two_pow_mul]
  by_cases hi : a ≤ i <;> simp [hi]
theorem mod_step (t k : Nat) : t % 2 ^ (k + 1) = t % 2 ^ k + 2 ^ k * (t / 2 ^ k % 2) := by rw [Nat.pow_succ]; exact Nat.mod_mul
theorem mask_step (t a k : Nat) (h : t / 2 ^ k % 2 = 1) : (2 ^ a * (t % 2 ^ k)) ^^^ 2 ^ (a + k) = 2 ^ a * (t % 2 ^ (k + 1)) := by
  have hlt : t % 2 ^ k < 2 ^ k := Nat.mod_lt _ (Nat.pow_pos (by omega))
  have e := xor_low (t % 2 ^ k) (t / 2 ^ k % 2) k hlt
  rw [← mod_step, h, Nat.mul_one] at e
  rw [← e, mul_xor, Nat.pow_add]
theorem mask_stay (t k : Nat) (h : t / 2 ^ k % 2 ≠ 1) : t % 2 ^ (k + 1) = t % 2 ^ k := by
  rw [mod_step, show t / 2 ^ k % 2 = 0 by omega]; simp
end Go.Proofs.YtfgpkgenahlikaaDoor.Crc
