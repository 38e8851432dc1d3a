/-
  Plain mathematics of numbers as bytes, highest byte first: no program is named.
-/
import Derived.Test.YtcmjgkgdeaiifaaBase
namespace Go.Proofs.Ytcmjgkgdeaiifaa

/-- The last s bytes of n, the highest one first. -/
def be (n : Nat) : Nat → List UInt8
  | 0 => []
  | s + 1 => be (n / 256) s ++ [UInt8.ofNat n]
theorem be_length (n s : Nat) : (be n s).length = s := by
  induction s generalizing n with
  | zero => rfl
  | succ s ih => simp [be, ih]
/-- From the front: one byte more is the next higher one. -/
theorem be_cons (n s : Nat) : be n (s + 1) = UInt8.ofNat (n / 256 ^ s) :: be n s := by
  induction s generalizing n with
  | zero => simp [be]
  | succ s ih =>
    rw [be, ih (n / 256), be, Nat.div_div_eq_div_mul, Nat.pow_succ, Nat.mul_comm 256]
    rfl
/-- The number of a row of bytes. -/
def num : List UInt8 → Nat → Nat
  | [], acc => acc
  | x :: r, acc => num r (acc * 256 + x.toNat)
theorem num_snoc (l : List UInt8) (x : UInt8) (acc : Nat) : num (l ++ [x]) acc = num l acc * 256 + x.toNat := by
  induction l generalizing acc with
  | nil => rfl
  | cons y r ih => exact ih _
theorem num_lt (l : List UInt8) (acc : Nat) : num l acc < (acc + 1) * 256 ^ l.length := by
  induction l generalizing acc with
  | nil => simp [num]
  | cons x r ih =>
    have h := ih (acc * 256 + x.toNat)
    have hx := x.toNat_lt
    refine Nat.lt_of_lt_of_le h ?_
    rw [List.length_cons, Nat.pow_succ, Nat.mul_comm (256 ^ r.length), ← Nat.mul_assoc]
    exact Nat.mul_le_mul_right _ (by omega)
theorem num_be (n s : Nat) (h : n < 256 ^ s) : num (be n s) 0 = n := by
  induction s generalizing n with
  | zero => simp at h; subst h; rfl
  | succ s ih =>
    rw [be, num_snoc, ih (n / 256) (by rw [Nat.pow_succ] at h; omega)]
    simp
    omega
theorem be_inj {n m s : Nat} (hn : n < 256 ^ s) (hm : m < 256 ^ s) (h : be n s = be m s) : n = m := by
  rw [← num_be n s hn, ← num_be m s hm, h]
theorem num_ge (l : List UInt8) (acc : Nat) : acc * 256 ^ l.length ≤ num l acc := by
  induction l generalizing acc with
  | nil => simp [num]
  | cons x r ih =>
    refine Nat.le_trans ?_ (ih (acc * 256 + x.toNat))
    rw [List.length_cons, Nat.pow_succ, Nat.mul_comm (256 ^ r.length), ← Nat.mul_assoc]
    exact Nat.mul_le_mul_right _ (by omega)
theorem be_num (l : List UInt8) (acc : Nat) : be (num l acc) l.length = l := by
  induction l generalizing acc with
  | nil => rfl
  | cons x r ih =>
    have h : num r (acc * 256 + x.toNat) / 256 ^ r.length = acc * 256 + x.toNat := by
      have h1 := num_ge r (acc * 256 + x.toNat)
      have h2 := num_lt r (acc * 256 + x.toNat)
      have hp : 0 < 256 ^ r.length := Nat.pow_pos (by omega)
      apply Nat.le_antisymm
      · have := (Nat.div_lt_iff_lt_mul hp).2 h2
        omega
      · exact (Nat.le_div_iff_mul_le hp).2 h1
    rw [List.length_cons, num, be_cons, ih, h]
    congr 1
    apply UInt8.toNat_inj.1
    simp
theorem ofNat_mod (n : Nat) : UInt8.ofNat (n % 256) = UInt8.ofNat n := by
  apply UInt8.toNat_inj.1; simp
theorem div_pow_succ (n k : Nat) : n / 256 ^ k / 256 = n / 256 ^ (k + 1) := by
  rw [Nat.div_div_eq_div_mul, Nat.pow_succ]
theorem two_pow_8 (k : Nat) : 2 ^ (8 * k) = 256 ^ k := by rw [Nat.pow_mul]
end Go.Proofs.Ytcmjgkgdeaiifaa
