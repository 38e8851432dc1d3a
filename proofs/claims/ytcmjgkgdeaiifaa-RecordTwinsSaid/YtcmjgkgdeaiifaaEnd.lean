/-
  What octets.End, In, endless and the library's Clone and the document's own Full, End and In answer, call by call.
-/
import Derived.Test.YtcmjgkgdeaiifaaClone
import Derived.Test.YtcmjgkgdeaiifaaCmp
namespace Go.Proofs.Ytcmjgkgdeaiifaa
open Go.ChangeShapes Go.WideShapes Go.ChangeAt Go.RowKit
set_option linter.unusedVariables false

/-- Every row of bytes is of 255s alone, or ends in 255s behind one other byte. -/
theorem tail_cases : ∀ xs : List UInt8, (∀ x ∈ xs, x = 255) ∨ ∃ (p : List UInt8) (x : UInt8) (k : Nat), xs = p ++ x :: List.replicate k 255 ∧ x ≠ 255
  | [] => .inl (by simp)
  | y :: r => by
    rcases tail_cases r with h | ⟨p, x, k, rfl, hx⟩
    · by_cases e : y = 255
      · refine .inl ?_
        intro z hz
        rcases List.mem_cons.1 hz with h' | h'
        · rw [h', e]
        · exact h z h'
      · exact .inr ⟨[], y, r.length, by rw [List.nil_append, ← List.eq_replicate_iff.2 ⟨rfl, h⟩], e⟩
    · exact .inr ⟨y :: p, x, k, rfl, hx⟩
theorem full_get {xs : List UInt8} (h : ∀ x ∈ xs, x = 255) {i : Nat} (hi : i < xs.length) : xs[i].toNat = 255 := by rw [h _ (List.getElem_mem hi)]; rfl
theorem tail_get {p : List UInt8} {x : UInt8} {k i : Nat} (h1 : p.length < i) (h2 : i < (p ++ x :: List.replicate k 255).length) : (p ++ x :: List.replicate k (255 : UInt8))[i].toNat = 255 := by
  rw [List.getElem_append_right (by omega)]
  obtain ⟨j, hj⟩ : ∃ j, i - p.length = j + 1 := ⟨i - p.length - 1, by omega⟩
  simp [hj]
theorem mid_get {p : List UInt8} {x : UInt8} {k : Nat} (h : p.length < (p ++ x :: List.replicate k (255 : UInt8)).length) : (p ++ x :: List.replicate k (255 : UInt8))[p.length] = x := by
  rw [List.getElem_append_right (by omega)]
  simp

theorem take_mid (p : List UInt8) (x : UInt8) (r : List UInt8) {l : Nat} (h : p.length = l) : (p ++ x :: r).take (l + 1) = p ++ [x] := by
  subst h
  rw [List.take_append, List.take_of_length_le (by omega)]
  simp
theorem set_mid (p : List UInt8) (x y : UInt8) {l : Nat} (h : p.length = l) : (cellsOf (p ++ [x])).set l (byteV y) = cellsOf (p ++ [y]) := by
  subst h
  rw [cellsOf_append, cellsOf_append]
  conv => lhs; arg 2; rw [← cellsOf_length p]
  simp [cellsOf]
def full (xs : List UInt8) : Bool := decide (∀ x ∈ xs, x = 255)
theorem set_mid2 (p : List UInt8) (x y : UInt8) (r : List UInt8) {l : Nat} (h : p.length = l) : (cellsOf (p ++ x :: r)).set l (byteV y) = cellsOf (p ++ y :: r) := by
  subst h
  rw [cellsOf_append, cellsOf_append]
  conv => lhs; arg 2; rw [← cellsOf_length p]
  simp [cellsOf]
theorem ahead_self : ∀ a : List UInt8, ahead a a = false
  | [] => rfl
  | x :: a => by simp [ahead, ahead_self a]
theorem ahead_asymm : ∀ a b : List UInt8, ahead a b = true → ahead b a = false
  | _, [], h => by simp [ahead] at h
  | [], _ :: _, _ => by simp [ahead]
  | x :: a, y :: b, h => by
    unfold ahead at h ⊢
    by_cases e : x = y
    · subst e
      simp at h ⊢
      exact ahead_asymm a b h
    · rw [if_neg e] at h
      rw [if_neg (fun e' => e e'.symm)]
      simp only [decide_eq_true_eq, decide_eq_false_iff_not] at h ⊢
      rw [UInt8.lt_iff_toNat_lt] at h ⊢
      omega
theorem ahead_eq : ∀ a b : List UInt8, ahead a b = false → ahead b a = false → a = b
  | [], [], _, _ => rfl
  | [], _ :: _, h, _ => by simp [ahead] at h
  | _ :: _, [], _, h => by simp [ahead] at h
  | x :: a, y :: b, h, h' => by
    unfold ahead at h h'
    by_cases e : x = y
    · subst e
      rw [if_pos rfl] at h h'
      rw [ahead_eq a b h h']
    · rw [if_neg e] at h
      rw [if_neg (fun e' => e e'.symm)] at h'
      simp only [decide_eq_false_iff_not] at h h'
      rw [UInt8.lt_iff_toNat_lt] at h h'
      exact absurd (UInt8.toNat_inj.1 (by omega)) e
/-- Is a key in a range? -/
def inB (k key end_ : List UInt8) : Bool := if end_ = [] then decide (k = key) else if ahead k key then false else decide (end_ = [0]) || ahead k end_

end Go.Proofs.Ytcmjgkgdeaiifaa
