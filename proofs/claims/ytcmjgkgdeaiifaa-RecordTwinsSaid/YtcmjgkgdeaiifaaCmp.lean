/-
  What octets.Compare and Common and the document's own Ahead and Compare answer, call by call; the order of keys.
-/
import Derived.Test.YtcmjgkgdeaiifaaBase
import Derived.Lib.Bytealg
import Derived.Laws.Externs
import Derived.Deep.QuietTactic
import Derived.BigQuiet
import Derived.Deep.Draws
namespace Go.Proofs.Ytcmjgkgdeaiifaa
open Go.ChangeShapes Go.WideShapes Go.ChangeAt Go.RowKit
set_option linter.unusedVariables false

/-- Does a key come ahead of another one? -/
def ahead : List UInt8 → List UInt8 → Bool
  | _, [] => false
  | [], _ :: _ => true
  | x :: a, y :: b => if x = y then ahead a b else decide (x < y)
/-- The order of keys: -1, 0, 1. -/
def ordB (a b : List UInt8) : Int := if ahead a b then -1 else if ahead b a then 1 else 0
theorem ordB_eq : ∀ a b : List UInt8, Lib.compareBytes a b = ordB a b
  | [], [] => by simp [Lib.compareBytes, ordB, ahead]
  | [], _ :: _ => by simp [Lib.compareBytes, ordB, ahead]
  | _ :: _, [] => by simp [Lib.compareBytes, ordB, ahead]
  | x :: a, y :: b => by
    have ih := ordB_eq a b
    unfold Lib.compareBytes
    by_cases h : x = y
    · subst h
      simp [ih, ordB, ahead, UInt8.lt_irrefl]
    · have h' : ¬ y = x := fun e => h e.symm
      by_cases hl : x < y
      · simp [ordB, ahead, h, hl]
      · have hg : y < x := by
          have h1 : x.toNat ≠ y.toNat := fun e => h (UInt8.toNat_inj.1 e)
          simp only [UInt8.lt_iff_toNat_lt] at hl ⊢
          omega
        simp [ordB, ahead, h, hl, h', hg]
/-- How many bytes from the front are alike. -/
def common : List UInt8 → List UInt8 → Nat
  | x :: a, y :: b => if x = y then common a b + 1 else 0
  | _, _ => 0

theorem run_loadBytes8 {P : Program} {w : World} : ∀ (xs : List UInt8) (a : Addr) (acc : ByteArray), (∀ j (h : j < xs.length), w.cell? (a.add j) = some (byteV xs[j])) →
    (Extern.Bytes.loadBytes a xs.length acc).run P w = .ok ⟨acc.data ++ xs.toArray⟩ w
  | [], a, acc, _ => by simp [Extern.Bytes.loadBytes]
  | x :: l, a, acc, h => by
    have h0 : w.cell? a = some (.int .u8 (x.toNat : Int)) := by
      have := h 0 (by simp)
      simpa [Addr.add, byteV] using this
    have ih := run_loadBytes8 (P := P) (w := w) l (a.add 1) (acc.push x) (fun j hj => by
      have := h (j + 1) (by simpa using hj)
      rw [add_add, Nat.add_comm 1 j]
      simpa using this)
    have e : ((x.toNat : Int).toNat).toUInt8 = x := by simp
    simp only [List.length_cons, Extern.Bytes.loadBytes, Sem.run_bind, run_load, h0, Result.andThen]
    rw [e, ih]
    congr 1
    apply ByteArray.ext
    simp [ByteArray.push]
theorem Rd.bytes {P : Program} {w : World} {A : Option Addr} {n : Nat} {xs : List UInt8} (h : Rd w A n xs) (c : Nat) : (Extern.Bytes.bytesOf (.slice A n c)).run P w = .ok (strOf xs) w := by
  have hx := h.1
  rcases A with _ | a
  · rcases Nat.eq_zero_or_pos n with hn | hn
    · subst hn
      obtain rfl : xs = [] := List.eq_nil_of_length_eq_zero hx
      rfl
    · obtain ⟨a, e, _⟩ := h.2 hn
      cases e
  · have := run_loadBytes8 (P := P) (w := w) xs a .empty (fun j hj => by
      obtain ⟨a', e, hc⟩ := h.2 (by omega)
      cases e
      exact hc j hj)
    rw [hx] at this
    simp only [Extern.Bytes.bytesOf, this]
    congr 1
    apply ByteArray.ext
    show (#[] : Array UInt8) ++ xs.toArray = xs.toArray
    simp
theorem run_compare8 {P : Program} {w : World} {A B : Option Addr} {n m : Nat} {xs ys : List UInt8} (h1 : Rd w A n xs) (h2 : Rd w B m ys) (c d : Nat) :
    (Extern.BytealgCompare.compare #[.slice A n c, .slice B m d]).run P w = .ok (.int .i64 (ordB xs ys)) w := by
  change Sem.run P (do pure (goInt (Extern.BytealgCompare.cmp (← Extern.Bytes.bytesOf (.slice A n c)) (← Extern.Bytes.bytesOf (.slice B m d))))) w = _
  simp only [Sem.run_bind, Sem.run_pure, Result.andThen, h1.bytes c, h2.bytes d]
  rw [Lib.cmp_eq, ← ordB_eq]
  rfl

theorem common_le : ∀ a b : List UInt8, common a b ≤ a.length ∧ common a b ≤ b.length
  | [], _ => by simp [common]
  | _ :: _, [] => by simp [common]
  | x :: a, y :: b => by
    have := common_le a b
    unfold common
    split
    · simp; omega
    · simp
theorem common_alike : ∀ (a b : List UInt8) (k : Nat), k < common a b → ∃ (h1 : k < a.length) (h2 : k < b.length), a[k] = b[k]
  | [], _, k, h => by simp [common] at h
  | _ :: _, [], k, h => by simp [common] at h
  | x :: a, y :: b, k, h => by
    unfold common at h
    split at h
    · next e =>
      cases k with
      | zero => exact ⟨by simp, by simp, by simpa using e⟩
      | succ k =>
        obtain ⟨h1, h2, e2⟩ := common_alike a b k (by omega)
        exact ⟨by simpa using h1, by simpa using h2, by simpa using e2⟩
    · omega
/-- Where the first k are alike and the next ones part, or there are no more, k it is. -/
theorem common_is : ∀ (a b : List UInt8) (k : Nat), (∀ j, j < k → ∃ (h1 : j < a.length) (h2 : j < b.length), a[j] = b[j]) → (∀ (h1 : k < a.length) (h2 : k < b.length), a[k] ≠ b[k]) → common a b = k
  | [], _, k, h, _ => by
    cases k with
    | zero => rfl
    | succ k => obtain ⟨h1, _⟩ := h 0 (by omega); simp at h1
  | _ :: _, [], k, h, _ => by
    cases k with
    | zero => rfl
    | succ k => obtain ⟨_, h2, _⟩ := h 0 (by omega); simp at h2
  | x :: a, y :: b, k, h, hn => by
    unfold common
    cases k with
    | zero =>
      have := hn (by simp) (by simp)
      rw [if_neg (by simpa using this)]
    | succ k =>
      obtain ⟨_, _, e⟩ := h 0 (by omega)
      rw [if_pos (by simpa using e), common_is a b k (fun j hj => by
        obtain ⟨h1, h2, e2⟩ := h (j + 1) (by omega)
        exact ⟨by simpa using h1, by simpa using h2, by simpa using e2⟩) (fun h1 h2 => by
        have := hn (by simpa using h1) (by simpa using h2)
        simpa using this)]
theorem common_next : ∀ (a b : List UInt8) (h1 : common a b < a.length) (h2 : common a b < b.length), a[common a b] ≠ b[common a b]
  | [], _, h1, _ => by simp at h1
  | _ :: _, [], _, h2 => by simp at h2
  | x :: a, y :: b, h1, h2 => by
    by_cases e : x = y
    · have hc : common (x :: a) (y :: b) = common a b + 1 := by show (if x = y then common a b + 1 else 0) = _; rw [if_pos e]
      have ih := common_next a b (by rw [hc] at h1; simpa using h1) (by rw [hc] at h2; simpa using h2)
      intro h
      apply ih
      simpa [hc] using h
    · have hc : common (x :: a) (y :: b) = 0 := by show (if x = y then common a b + 1 else 0) = _; rw [if_neg e]
      intro h
      apply e
      simpa [hc] using h
theorem ahead_common : ∀ (a b : List UInt8), ahead a b = (if h : common a b < b.length then (if h' : common a b < a.length then decide (a[common a b] < b[common a b]) else true) else false)
  | [], [] => by simp [ahead, common]
  | [], _ :: _ => by simp [ahead, common]
  | _ :: _, [] => by simp [ahead, common]
  | x :: a, y :: b => by
    have ih := ahead_common a b
    unfold ahead common
    by_cases e : x = y
    · simp only [e, if_true, ih, List.length_cons, Nat.add_lt_add_iff_right]
      simp
    · simp [e]

theorem drewN_below {B : Nat} {a w : World} (h : Below B a w) (n : Nat) : Below B a (w.drewN n) := ⟨h.os, h.tape, h.output, h.size, h.block⟩
theorem Rd.drewN {w : World} {A : Option Addr} {n : Nat} {xs : List UInt8} (h : Rd w A n xs) (k : Nat) : Rd (w.drewN k) A n xs := h

/-- The first k bytes of both are there, and alike. -/
def Alike (xs ys : List UInt8) (k : Nat) : Prop := ∀ j, j < k → ∃ (h1 : j < xs.length) (h2 : j < ys.length), xs[j] = ys[j]
theorem alike_zero (xs ys : List UInt8) : Alike xs ys 0 := fun j hj => absurd hj (by omega)
theorem alike_next {w : World} {A B : Option Addr} {n m : Nat} {xs ys : List UInt8} (h1 : Rd w A n xs) (h2 : Rd w B m ys) {k : Nat} (h : Alike xs ys k) (hn : k < n) (hm : k < m) :
    ∃ (a b : Addr) (x y : Nat), A = some a ∧ B = some b ∧ w.cell? (a.add k) = some (.int .u8 (x : Int)) ∧ w.cell? (b.add k) = some (.int .u8 (y : Int)) ∧ x < 256 ∧ y < 256 ∧
      ((x = y ∧ Hid (Alike xs ys (k + 1))) ∨ (x ≠ y ∧ Hid (common xs ys = k) ∧ Hid (ahead xs ys = decide (x < y)))) := by
  have hx := h1.1
  have hy := h2.1
  obtain ⟨a, ea, hca⟩ := h1.at_ (k := k) (by omega)
  obtain ⟨b, eb, hcb⟩ := h2.at_ (k := k) (by omega)
  refine ⟨a, b, _, _, ea, eb, hca, hcb, UInt8.toNat_lt _, UInt8.toNat_lt _, ?_⟩
  by_cases e : xs[k] = ys[k]
  · refine .inl ⟨by rw [e], fun j hj => ?_⟩
    rcases Nat.lt_succ_iff_lt_or_eq.1 hj with h' | h'
    · exact h j h'
    · subst h'; exact ⟨by omega, by omega, e⟩
  · have hc : common xs ys = k := common_is xs ys k h (fun _ _ => e)
    refine .inr ⟨fun e' => e (UInt8.toNat_inj.1 e'), hc, ?_⟩
    show ahead xs ys = _
    rw [ahead_common]
    subst hc
    rw [dif_pos (by omega), dif_pos (by omega)]
    simp [UInt8.lt_iff_toNat_lt]
theorem alike_end {n m : Nat} {xs ys : List UInt8} (h1 : xs.length = n) (h2 : ys.length = m) {k : Nat} (h : Alike xs ys k) (hk : k ≤ n) (hm : k ≤ m) (he : k = n ∨ k = m) : common xs ys = k ∧ ahead xs ys = decide (k < m) := by
  have hc : common xs ys = k := common_is xs ys k h (fun h1 h2 => by omega)
  refine ⟨hc, ?_⟩
  rw [ahead_common]
  subst hc
  by_cases hlt : common xs ys < ys.length
  · rw [dif_pos hlt, dif_neg (by omega)]
    simp; omega
  · rw [dif_neg hlt]
    simp; omega

theorem drawn2 (w : World) (q r : Nat) : ∃ s, (w.drewN q).drewN r = w.drewN s := ⟨_, World.drewN_drewN _ _ _⟩
theorem drawn3 (w : World) (q r t : Nat) : ∃ s, ((w.drewN q).drewN r).drewN t = w.drewN s := ⟨q + (r + t), by rw [World.drewN_drewN, World.drewN_drewN]⟩
end Go.Proofs.Ytcmjgkgdeaiifaa
