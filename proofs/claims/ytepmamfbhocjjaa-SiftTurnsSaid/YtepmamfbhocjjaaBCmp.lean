/-
  Texts laid together: Cmp End Aht Oa Only Sgl.
-/
import Derived.Test.YtepmamfbhocjjaaBBase
import Derived.Lib.Bytealg
import Derived.Laws.Externs
import Derived.Deep.QuietTactic
import Derived.BigQuiet
import Derived.Deep.Draws
section
/-
  What octets.Compare and Common and the document's own Ahead and Compare answer, call by call; the order of keys.
-/
namespace Go.Proofs.Ytepmamfbhocjjaa
open Go.ChangeShapes Go.WideShapes Go.ChangeAt Go.RowKit
set_option linter.unusedVariables false

/-- Does a key come ahead of another one? -/
def ahead : List UInt8 → List UInt8 → Bool
  | _, [] => false
  | [], _ :: _ => true
  | x :: a, y :: b => if x = y then ahead a b else decide (x < y)
/-- The order of keys: -1, 0, 1. -/
def ordB (a b : List UInt8) : Int := if ahead a b then -1 else if ahead b a then 1 else 0
theorem ordB_eq : ∀ a b : List UInt8, Lib.compareBytes a b = ordB a b
  | [], [] => by simp [Lib.compareBytes, ordB, ahead]
  | [], _ :: _ => by simp [Lib.compareBytes, ordB, ahead]
  | _ :: _, [] => by simp [Lib.compareBytes, ordB, ahead]
  | x :: a, y :: b => by
    have ih := ordB_eq a b
    unfold Lib.compareBytes
    by_cases h : x = y
    · subst h
      simp [ih, ordB, ahead, UInt8.lt_irrefl]
    · have h' : ¬ y = x := fun e => h e.symm
      by_cases hl : x < y
      · simp [ordB, ahead, h, hl]
      · have hg : y < x := by
          have h1 : x.toNat ≠ y.toNat := fun e => h (UInt8.toNat_inj.1 e)
          simp only [UInt8.lt_iff_toNat_lt] at hl ⊢
          omega
        simp [ordB, ahead, h, hl, h', hg]
/-- How many bytes from the front are alike. -/
def common : List UInt8 → List UInt8 → Nat
  | x :: a, y :: b => if x = y then common a b + 1 else 0
  | _, _ => 0

theorem run_loadBytes8 {P : Program} {w : World} : ∀ (xs : List UInt8) (a : Addr) (acc : ByteArray), (∀ j (h : j < xs.length), w.cell? (a.add j) = some (byteV xs[j])) →
    (Extern.Bytes.loadBytes a xs.length acc).run P w = .ok ⟨acc.data ++ xs.toArray⟩ w
  | [], a, acc, _ => by simp [Extern.Bytes.loadBytes]
  | x :: l, a, acc, h => by
    have h0 : w.cell? a = some (.int .u8 (x.toNat : Int)) := by
      have := h 0 (by simp)
      simpa [Addr.add, byteV] using this
    have ih := run_loadBytes8 (P := P) (w := w) l (a.add 1) (acc.push x) (fun j hj => by
      have := h (j + 1) (by simpa using hj)
      rw [add_add, Nat.add_comm 1 j]
      simpa using this)
    have e : ((x.toNat : Int).toNat).toUInt8 = x := by simp
    simp only [List.length_cons, Extern.Bytes.loadBytes, Sem.run_bind, run_load, h0, Result.andThen]
    rw [e, ih]
    congr 1
    apply ByteArray.ext
    simp [ByteArray.push]
theorem Rd.bytes {P : Program} {w : World} {A : Option Addr} {n : Nat} {xs : List UInt8} (h : Rd w A n xs) (c : Nat) : (Extern.Bytes.bytesOf (.slice A n c)).run P w = .ok (strOf xs) w := by
  have hx := h.1
  rcases A with _ | a
  · rcases Nat.eq_zero_or_pos n with hn | hn
    · subst hn
      obtain rfl : xs = [] := List.eq_nil_of_length_eq_zero hx
      rfl
    · obtain ⟨a, e, _⟩ := h.2 hn
      cases e
  · have := run_loadBytes8 (P := P) (w := w) xs a .empty (fun j hj => by
      obtain ⟨a', e, hc⟩ := h.2 (by omega)
      cases e
      exact hc j hj)
    rw [hx] at this
    simp only [Extern.Bytes.bytesOf, this]
    congr 1
    apply ByteArray.ext
    show (#[] : Array UInt8) ++ xs.toArray = xs.toArray
    simp
theorem run_compare8 {P : Program} {w : World} {A B : Option Addr} {n m : Nat} {xs ys : List UInt8} (h1 : Rd w A n xs) (h2 : Rd w B m ys) (c d : Nat) :
    (Extern.BytealgCompare.compare #[.slice A n c, .slice B m d]).run P w = .ok (.int .i64 (ordB xs ys)) w := by
  change Sem.run P (do pure (goInt (Extern.BytealgCompare.cmp (← Extern.Bytes.bytesOf (.slice A n c)) (← Extern.Bytes.bytesOf (.slice B m d))))) w = _
  simp only [Sem.run_bind, Sem.run_pure, Result.andThen, h1.bytes c, h2.bytes d]
  rw [Lib.cmp_eq, ← ordB_eq]
  rfl

theorem common_le : ∀ a b : List UInt8, common a b ≤ a.length ∧ common a b ≤ b.length
  | [], _ => by simp [common]
  | _ :: _, [] => by simp [common]
  | x :: a, y :: b => by
    have := common_le a b
    unfold common
    split
    · simp; omega
    · simp
theorem common_alike : ∀ (a b : List UInt8) (k : Nat), k < common a b → ∃ (h1 : k < a.length) (h2 : k < b.length), a[k] = b[k]
  | [], _, k, h => by simp [common] at h
  | _ :: _, [], k, h => by simp [common] at h
  | x :: a, y :: b, k, h => by
    unfold common at h
    split at h
    · next e =>
      cases k with
      | zero => exact ⟨by simp, by simp, by simpa using e⟩
      | succ k =>
        obtain ⟨h1, h2, e2⟩ := common_alike a b k (by omega)
        exact ⟨by simpa using h1, by simpa using h2, by simpa using e2⟩
    · omega
/-- Where the first k are alike and the next ones part, or there are no more, k it is. -/
theorem common_is : ∀ (a b : List UInt8) (k : Nat), (∀ j, j < k → ∃ (h1 : j < a.length) (h2 : j < b.length), a[j] = b[j]) → (∀ (h1 : k < a.length) (h2 : k < b.length), a[k] ≠ b[k]) → common a b = k
  | [], _, k, h, _ => by
    cases k with
    | zero => rfl
    | succ k => obtain ⟨h1, _⟩ := h 0 (by omega); simp at h1
  | _ :: _, [], k, h, _ => by
    cases k with
    | zero => rfl
    | succ k => obtain ⟨_, h2, _⟩ := h 0 (by omega); simp at h2
  | x :: a, y :: b, k, h, hn => by
    unfold common
    cases k with
    | zero =>
      have := hn (by simp) (by simp)
      rw [if_neg (by simpa using this)]
    | succ k =>
      obtain ⟨_, _, e⟩ := h 0 (by omega)
      rw [if_pos (by simpa using e), common_is a b k (fun j hj => by
        obtain ⟨h1, h2, e2⟩ := h (j + 1) (by omega)
        exact ⟨by simpa using h1, by simpa using h2, by simpa using e2⟩) (fun h1 h2 => by
        have := hn (by simpa using h1) (by simpa using h2)
        simpa using this)]
theorem common_next : ∀ (a b : List UInt8) (h1 : common a b < a.length) (h2 : common a b < b.length), a[common a b] ≠ b[common a b]
  | [], _, h1, _ => by simp at h1
  | _ :: _, [], _, h2 => by simp at h2
  | x :: a, y :: b, h1, h2 => by
    by_cases e : x = y
    · have hc : common (x :: a) (y :: b) = common a b + 1 := by show (if x = y then common a b + 1 else 0) = _; rw [if_pos e]
      have ih := common_next a b (by rw [hc] at h1; simpa using h1) (by rw [hc] at h2; simpa using h2)
      intro h
      apply ih
      simpa [hc] using h
    · have hc : common (x :: a) (y :: b) = 0 := by show (if x = y then common a b + 1 else 0) = _; rw [if_neg e]
      intro h
      apply e
      simpa [hc] using h
theorem ahead_common : ∀ (a b : List UInt8), ahead a b = (if h : common a b < b.length then (if h' : common a b < a.length then decide (a[common a b] < b[common a b]) else true) else false)
  | [], [] => by simp [ahead, common]
  | [], _ :: _ => by simp [ahead, common]
  | _ :: _, [] => by simp [ahead, common]
  | x :: a, y :: b => by
    have ih := ahead_common a b
    unfold ahead common
    by_cases e : x = y
    · simp only [e, if_true, ih, List.length_cons, Nat.add_lt_add_iff_right]
      simp
    · simp [e]

theorem drewN_below {B : Nat} {a w : World} (h : Below B a w) (n : Nat) : Below B a (w.drewN n) := ⟨h.os, h.tape, h.output, h.size, h.block⟩
theorem Rd.drewN {w : World} {A : Option Addr} {n : Nat} {xs : List UInt8} (h : Rd w A n xs) (k : Nat) : Rd (w.drewN k) A n xs := h

/-- The first k bytes of both are there, and alike. -/
def Alike (xs ys : List UInt8) (k : Nat) : Prop := ∀ j, j < k → ∃ (h1 : j < xs.length) (h2 : j < ys.length), xs[j] = ys[j]
theorem alike_zero (xs ys : List UInt8) : Alike xs ys 0 := fun j hj => absurd hj (by omega)
theorem alike_next {w : World} {A B : Option Addr} {n m : Nat} {xs ys : List UInt8} (h1 : Rd w A n xs) (h2 : Rd w B m ys) {k : Nat} (h : Alike xs ys k) (hn : k < n) (hm : k < m) :
    ∃ (a b : Addr) (x y : Nat), A = some a ∧ B = some b ∧ w.cell? (a.add k) = some (.int .u8 (x : Int)) ∧ w.cell? (b.add k) = some (.int .u8 (y : Int)) ∧ x < 256 ∧ y < 256 ∧
      ((x = y ∧ Hid (Alike xs ys (k + 1))) ∨ (x ≠ y ∧ Hid (common xs ys = k) ∧ Hid (ahead xs ys = decide (x < y)))) := by
  have hx := h1.1
  have hy := h2.1
  obtain ⟨a, ea, hca⟩ := h1.at_ (k := k) (by omega)
  obtain ⟨b, eb, hcb⟩ := h2.at_ (k := k) (by omega)
  refine ⟨a, b, _, _, ea, eb, hca, hcb, UInt8.toNat_lt _, UInt8.toNat_lt _, ?_⟩
  by_cases e : xs[k] = ys[k]
  · refine .inl ⟨by rw [e], fun j hj => ?_⟩
    rcases Nat.lt_succ_iff_lt_or_eq.1 hj with h' | h'
    · exact h j h'
    · subst h'; exact ⟨by omega, by omega, e⟩
  · have hc : common xs ys = k := common_is xs ys k h (fun _ _ => e)
    refine .inr ⟨fun e' => e (UInt8.toNat_inj.1 e'), hc, ?_⟩
    show ahead xs ys = _
    rw [ahead_common]
    subst hc
    rw [dif_pos (by omega), dif_pos (by omega)]
    simp [UInt8.lt_iff_toNat_lt]
theorem alike_end {n m : Nat} {xs ys : List UInt8} (h1 : xs.length = n) (h2 : ys.length = m) {k : Nat} (h : Alike xs ys k) (hk : k ≤ n) (hm : k ≤ m) (he : k = n ∨ k = m) : common xs ys = k ∧ ahead xs ys = decide (k < m) := by
  have hc : common xs ys = k := common_is xs ys k h (fun h1 h2 => by omega)
  refine ⟨hc, ?_⟩
  rw [ahead_common]
  subst hc
  by_cases hlt : common xs ys < ys.length
  · rw [dif_pos hlt, dif_neg (by omega)]
    simp; omega
  · rw [dif_neg hlt]
    simp; omega

theorem drawn2 (w : World) (q r : Nat) : ∃ s, (w.drewN q).drewN r = w.drewN s := ⟨_, World.drewN_drewN _ _ _⟩
theorem drawn3 (w : World) (q r t : Nat) : ∃ s, ((w.drewN q).drewN r).drewN t = w.drewN s := ⟨q + (r + t), by rw [World.drewN_drewN, World.drewN_drewN]⟩
end Go.Proofs.Ytepmamfbhocjjaa
end

section
/-
  What octets.End, In, endless and the library's Clone and the document's own Full, End and In answer, call by call.
-/
namespace Go.Proofs.Ytepmamfbhocjjaa
open Go.ChangeShapes Go.WideShapes Go.ChangeAt Go.RowKit
set_option linter.unusedVariables false

/-- Every row of bytes is of 255s alone, or ends in 255s behind one other byte. -/
theorem tail_cases : ∀ xs : List UInt8, (∀ x ∈ xs, x = 255) ∨ ∃ (p : List UInt8) (x : UInt8) (k : Nat), xs = p ++ x :: List.replicate k 255 ∧ x ≠ 255
  | [] => .inl (by simp)
  | y :: r => by
    rcases tail_cases r with h | ⟨p, x, k, rfl, hx⟩
    · by_cases e : y = 255
      · refine .inl ?_
        intro z hz
        rcases List.mem_cons.1 hz with h' | h'
        · rw [h', e]
        · exact h z h'
      · exact .inr ⟨[], y, r.length, by rw [List.nil_append, ← List.eq_replicate_iff.2 ⟨rfl, h⟩], e⟩
    · exact .inr ⟨y :: p, x, k, rfl, hx⟩
theorem full_get {xs : List UInt8} (h : ∀ x ∈ xs, x = 255) {i : Nat} (hi : i < xs.length) : xs[i].toNat = 255 := by rw [h _ (List.getElem_mem hi)]; rfl
theorem tail_get {p : List UInt8} {x : UInt8} {k i : Nat} (h1 : p.length < i) (h2 : i < (p ++ x :: List.replicate k 255).length) : (p ++ x :: List.replicate k (255 : UInt8))[i].toNat = 255 := by
  rw [List.getElem_append_right (by omega)]
  obtain ⟨j, hj⟩ : ∃ j, i - p.length = j + 1 := ⟨i - p.length - 1, by omega⟩
  simp [hj]
theorem mid_get {p : List UInt8} {x : UInt8} {k : Nat} (h : p.length < (p ++ x :: List.replicate k (255 : UInt8)).length) : (p ++ x :: List.replicate k (255 : UInt8))[p.length] = x := by
  rw [List.getElem_append_right (by omega)]
  simp

theorem take_mid (p : List UInt8) (x : UInt8) (r : List UInt8) {l : Nat} (h : p.length = l) : (p ++ x :: r).take (l + 1) = p ++ [x] := by
  subst h
  rw [List.take_append, List.take_of_length_le (by omega)]
  simp
theorem set_mid (p : List UInt8) (x y : UInt8) {l : Nat} (h : p.length = l) : (cellsOf (p ++ [x])).set l (byteV y) = cellsOf (p ++ [y]) := by
  subst h
  rw [cellsOf_append, cellsOf_append]
  conv => lhs; arg 2; rw [← cellsOf_length p]
  simp [cellsOf]
def full (xs : List UInt8) : Bool := decide (∀ x ∈ xs, x = 255)
theorem set_mid2 (p : List UInt8) (x y : UInt8) (r : List UInt8) {l : Nat} (h : p.length = l) : (cellsOf (p ++ x :: r)).set l (byteV y) = cellsOf (p ++ y :: r) := by
  subst h
  rw [cellsOf_append, cellsOf_append]
  conv => lhs; arg 2; rw [← cellsOf_length p]
  simp [cellsOf]
theorem ahead_self : ∀ a : List UInt8, ahead a a = false
  | [] => rfl
  | x :: a => by simp [ahead, ahead_self a]
theorem ahead_asymm : ∀ a b : List UInt8, ahead a b = true → ahead b a = false
  | _, [], h => by simp [ahead] at h
  | [], _ :: _, _ => by simp [ahead]
  | x :: a, y :: b, h => by
    unfold ahead at h ⊢
    by_cases e : x = y
    · subst e
      simp at h ⊢
      exact ahead_asymm a b h
    · rw [if_neg e] at h
      rw [if_neg (fun e' => e e'.symm)]
      simp only [decide_eq_true_eq, decide_eq_false_iff_not] at h ⊢
      rw [UInt8.lt_iff_toNat_lt] at h ⊢
      omega
theorem ahead_eq : ∀ a b : List UInt8, ahead a b = false → ahead b a = false → a = b
  | [], [], _, _ => rfl
  | [], _ :: _, h, _ => by simp [ahead] at h
  | _ :: _, [], _, h => by simp [ahead] at h
  | x :: a, y :: b, h, h' => by
    unfold ahead at h h'
    by_cases e : x = y
    · subst e
      rw [if_pos rfl] at h h'
      rw [ahead_eq a b h h']
    · rw [if_neg e] at h
      rw [if_neg (fun e' => e e'.symm)] at h'
      simp only [decide_eq_false_iff_not] at h h'
      rw [UInt8.lt_iff_toNat_lt] at h h'
      exact absurd (UInt8.toNat_inj.1 (by omega)) e
/-- Is a key in a range? -/
def inB (k key end_ : List UInt8) : Bool := if end_ = [] then decide (k = key) else if ahead k key then false else decide (end_ = [0]) || ahead k end_

end Go.Proofs.Ytepmamfbhocjjaa
end

section
/-
  The order of keys: it goes through, and of two unlike ones one is ahead. No program is named.
-/
namespace Go.Proofs.Ytepmamfbhocjjaa
set_option linter.unusedVariables false
set_option linter.unusedSimpArgs false

/-! ### the order of keys -/
theorem ahead_trans : ∀ {a b c : List UInt8}, ahead a b = true → ahead b c = true → ahead a c = true
  | _, _, [], _, h => by simp [ahead] at h
  | _, [], _ :: _, h, _ => by simp [ahead] at h
  | [], _ :: _, _ :: _, _, _ => by simp [ahead]
  | x :: a, y :: b, z :: c, h1, h2 => by
    unfold ahead at h1 h2 ⊢
    by_cases e1 : x = y
    · subst e1
      rw [if_pos rfl] at h1
      by_cases e2 : x = z
      · subst e2
        rw [if_pos rfl] at h2 ⊢
        exact ahead_trans h1 h2
      · rw [if_neg e2] at h2 ⊢
        exact h2
    · rw [if_neg e1] at h1
      by_cases e2 : y = z
      · subst e2
        rw [if_neg e1]
        exact h1
      · rw [if_neg e2] at h2
        have h1 : x < y := by simpa using h1
        have h2 : y < z := by simpa using h2
        rw [UInt8.lt_iff_toNat_lt] at h1 h2
        have e3 : ¬ x = z := fun e => by subst e; omega
        rw [if_neg e3]
        simp only [decide_eq_true_eq, UInt8.lt_iff_toNat_lt]
        omega
theorem ordB_neg {a b : List UInt8} : ordB a b < 0 ↔ ahead a b = true := by
  unfold ordB
  cases h : ahead a b
  · cases ahead b a <;> simp
  · simp
theorem ordB_zer {a b : List UInt8} : ordB a b = 0 ↔ a = b := by
  unfold ordB
  constructor
  · intro h
    cases h1 : ahead a b with
    | true => rw [h1] at h; simp at h
    | false =>
      cases h2 : ahead b a with
      | true => rw [h1, h2] at h; simp at h
      | false => exact ahead_eq a b h1 h2
  · rintro rfl
    simp [ahead_self]
theorem ahead_tri (a b : List UInt8) : ahead a b = true ∨ a = b ∨ ahead b a = true := by
  cases h1 : ahead a b with
  | true => exact .inl rfl
  | false =>
    cases h2 : ahead b a with
    | true => exact .inr (.inr rfl)
    | false => exact .inr (.inl (ahead_eq a b h1 h2))
theorem ahead_ne {a b : List UInt8} (h : ahead a b = true) : a ≠ b := fun e => by subst e; rw [ahead_self] at h; cases h

end Go.Proofs.Ytepmamfbhocjjaa
end

section
/-
  What a query makes of records, as plain data: its sieve, its order, its result; what the laws of layer 14 say of it. No program is named.
-/
namespace Go.Proofs.Ytepmamfbhocjjaa
open Go.ChangeShapes Go.WideShapes Go.ChangeAt Go.RowKit
set_option linter.unusedVariables false
set_option linter.unusedSimpArgs false

/-! ### rows in order -/
section
variable {α : Type} {r : α → α → Prop}
theorem sorted_only (has : ∀ a b, r a b → ¬ r b a) : ∀ {l m : List α}, l.Perm m → l.Pairwise r → m.Pairwise r → l = m
  | [], m, h, _, _ => by rw [List.nil_perm.1 h]
  | a :: t, [], h, _, _ => by have := h.length_eq; simp at this
  | a :: t, b :: s, h, h1, h2 => by
    rw [List.pairwise_cons] at h1 h2
    have ha : a ∈ b :: s := h.mem_iff.1 (List.mem_cons_self ..)
    have hb : b ∈ a :: t := h.mem_iff.2 (List.mem_cons_self ..)
    rcases List.mem_cons.1 ha with rfl | ha
    · rw [sorted_only has ((List.perm_cons a).1 h) h1.2 h2.2]
    · rcases List.mem_cons.1 hb with rfl | hb
      · rw [sorted_only has ((List.perm_cons b).1 h) h1.2 h2.2]
      · exact absurd (h1.1 b hb) (has _ _ (h2.1 a ha))
variable {p : α → α → Bool}
/-- Laid into a row in order. -/
def insO (p : α → α → Bool) (x : α) : List α → List α
  | [] => [x]
  | y :: l => if p y x then y :: insO p x l else x :: y :: l
def sortO (p : α → α → Bool) (l : List α) : List α := l.foldr (insO p) []
theorem insO_perm (p : α → α → Bool) (x : α) : ∀ l : List α, (insO p x l).Perm (x :: l)
  | [] => .refl _
  | y :: l => by
    unfold insO
    split
    · exact ((insO_perm p x l).cons y).trans (.swap x y l)
    · exact .refl _
theorem sortO_perm (p : α → α → Bool) : ∀ l : List α, (sortO p l).Perm l
  | [] => .refl _
  | x :: l => (insO_perm p x _).trans ((sortO_perm p l).cons x)
theorem insO_sorted (htr : ∀ a b c, p a b = true → p b c = true → p a c = true) (x : α) : ∀ l : List α, (∀ y ∈ l, p y x = true ∨ p x y = true) → l.Pairwise (fun a b => p a b = true) → (insO p x l).Pairwise (fun a b => p a b = true)
  | [], _, _ => by simp [insO]
  | y :: l, ht, hs => by
    rw [List.pairwise_cons] at hs
    unfold insO
    split
    · next h =>
      refine List.pairwise_cons.2 ⟨fun z hz => ?_, insO_sorted htr x l (fun z hz => ht z (List.mem_cons_of_mem _ hz)) hs.2⟩
      rcases List.mem_cons.1 ((insO_perm p x l).mem_iff.1 hz) with rfl | hz
      · exact h
      · exact hs.1 z hz
    · next h =>
      have hx : p x y = true := by
        rcases ht y (List.mem_cons_self ..) with h' | h'
        · exact absurd h' h
        · exact h'
      refine List.pairwise_cons.2 ⟨fun z hz => ?_, List.pairwise_cons.2 hs⟩
      rcases List.mem_cons.1 hz with rfl | hz
      · exact hx
      · exact htr _ _ _ hx (hs.1 z hz)
theorem sortO_sorted (htr : ∀ a b c, p a b = true → p b c = true → p a c = true) : ∀ l : List α, l.Pairwise (fun a b => p a b = true ∨ p b a = true) → (sortO p l).Pairwise (fun a b => p a b = true)
  | [], _ => .nil
  | x :: l, h => by
    rw [List.pairwise_cons] at h
    exact insO_sorted htr x _ (fun y hy => (h.1 y ((sortO_perm p l).mem_iff.1 hy)).symm) (sortO_sorted htr l h.2)
end

/-! ### a query -/
structure Qy where
  sort : Int
  limit : Int
  m0 : Int
  m1 : Int
  c0 : Int
  c1 : Int
  desc : Bool
  keys : Bool
  count : Bool
def rightQ (q : Qy) : Bool := decide (0 ≤ q.sort) && decide (q.sort ≤ 4) && decide (0 ≤ q.limit) && decide (q.limit ≤ 4096) && decide (0 ≤ q.m0) && decide (0 ≤ q.m1) && decide (0 ≤ q.c0) && decide (0 ≤ q.c1)
def keepsQ (q : Qy) (x : Kv) : Bool := (decide (q.m0 = 0) || decide (q.m0 ≤ x.m)) && (decide (q.m1 = 0) || decide (x.m ≤ q.m1)) && (decide (q.c0 = 0) || decide (q.c0 ≤ x.c)) && (decide (q.c1 = 0) || decide (x.c ≤ q.c1))
def numQ (s : Int) (x : Kv) : Int := if s = 1 then x.v else if s = 2 then x.c else if s = 3 then x.m else 0
/-- What a record is sorted by comes ahead of another's. -/
def byQ (s : Int) (x y : Kv) : Bool := if s = 4 then ahead x.val y.val else decide (numQ s x < numQ s y)
def upQ (s : Int) (x y : Kv) : Bool := byQ s x y || (!byQ s y x && ahead x.key y.key)
def ltQ (q : Qy) (x y : Kv) : Bool := if q.desc then upQ q.sort y x else upQ q.sort x y
theorem byQ_self (s : Int) (x : Kv) : byQ s x x = false := by unfold byQ; split <;> simp [ahead_self]
theorem byQ_asymm {s : Int} {x y : Kv} (h : byQ s x y = true) : byQ s y x = false := by
  by_cases hs : s = 4
  · simp only [byQ, hs, if_true] at h ⊢
    exact ahead_asymm _ _ h
  · simp only [byQ, hs, if_false, decide_eq_true_eq, decide_eq_false_iff_not] at h ⊢
    omega
theorem byQ_trans {s : Int} {x y z : Kv} (h : byQ s x y = true) (k : byQ s y z = true) : byQ s x z = true := by
  by_cases hs : s = 4
  · simp only [byQ, hs, if_true] at h k ⊢
    exact ahead_trans h k
  · simp only [byQ, hs, if_false, decide_eq_true_eq] at h k ⊢
    omega
/-- Neither is ahead: alike in that. -/
theorem byQ_tie {s : Int} {x y z : Kv} (h1 : byQ s x y = false) (h2 : byQ s y x = false) : byQ s x z = byQ s y z ∧ byQ s z x = byQ s z y := by
  by_cases hs : s = 4
  · simp only [byQ, hs, if_true] at h1 h2 ⊢
    rw [ahead_eq _ _ h1 h2]; exact ⟨rfl, rfl⟩
  · simp only [byQ, hs, if_false, decide_eq_false_iff_not] at h1 h2 ⊢
    have e : numQ s x = numQ s y := by omega
    rw [e]; exact ⟨rfl, rfl⟩
theorem upQ_asymm {s : Int} {x y : Kv} (h : upQ s x y = true) : upQ s y x = false := by
  unfold upQ at h ⊢
  simp only [Bool.or_eq_true, Bool.and_eq_true, Bool.not_eq_true'] at h
  rcases h with h | ⟨h1, h2⟩
  · simp [byQ_asymm h, h]
  · simp [h1, ahead_asymm _ _ h2]
theorem upQ_trans {s : Int} {x y z : Kv} (h : upQ s x y = true) (k : upQ s y z = true) : upQ s x z = true := by
  unfold upQ at h k ⊢
  simp only [Bool.or_eq_true, Bool.and_eq_true, Bool.not_eq_true'] at h k ⊢
  rcases h with h | ⟨h1, h2⟩
  · rcases k with k | ⟨k1, k2⟩
    · exact .inl (byQ_trans h k)
    · cases hyz : byQ s y z with
      | true => exact .inl (byQ_trans h hyz)
      | false => exact .inl (by rw [← (byQ_tie (z := x) hyz k1).2]; exact h)
  · cases hxy : byQ s x y with
    | true =>
      rcases k with k | ⟨k1, k2⟩
      · exact .inl (byQ_trans hxy k)
      · cases hyz : byQ s y z with
        | true => exact .inl (byQ_trans hxy hyz)
        | false => exact .inl (by rw [← (byQ_tie (z := x) hyz k1).2]; exact hxy)
    | false =>
      rcases k with k | ⟨k1, k2⟩
      · exact .inl (by rw [(byQ_tie (z := z) hxy h1).1]; exact k)
      · exact .inr ⟨by rw [(byQ_tie (z := z) hxy h1).2]; exact k1, ahead_trans h2 k2⟩
theorem upQ_tri {s : Int} {x y : Kv} (h : x.key ≠ y.key) : upQ s x y = true ∨ upQ s y x = true := by
  unfold upQ
  cases h1 : byQ s x y
  · cases h2 : byQ s y x
    · rcases ahead_tri x.key y.key with h' | h' | h'
      · simp [h']
      · exact absurd h' h
      · simp [h']
    · simp
  · simp
theorem ltQ_asymm {q : Qy} {x y : Kv} (h : ltQ q x y = true) : ¬ ltQ q y x = true := by
  unfold ltQ at h ⊢
  split at h
  · next e => simp [e, upQ_asymm h]
  · next e => simp [e, upQ_asymm h]
theorem ltQ_trans {q : Qy} (x y z : Kv) (h : ltQ q x y = true) (k : ltQ q y z = true) : ltQ q x z = true := by
  unfold ltQ at h k ⊢
  split at h
  · next e => simp only [e, if_true] at k ⊢; exact upQ_trans k h
  · next e => simp only [e] at k ⊢; exact upQ_trans h k
theorem ltQ_tri {q : Qy} {x y : Kv} (h : x.key ≠ y.key) : ltQ q x y = true ∨ ltQ q y x = true := by
  unfold ltQ
  split
  · exact (upQ_tri h).symm
  · exact upQ_tri h
/-- Of unlike keys. -/
def Unl (l : List Kv) : Prop := l.Pairwise fun x y => x.key ≠ y.key
abbrev SrtQ (q : Qy) (l : List Kv) : Prop := l.Pairwise fun x y => ltQ q x y = true
theorem Unl.sub {l m : List Kv} (h : Unl l) (s : m.Sublist l) : Unl m := List.Pairwise.sublist s h
theorem Unl.perm {l m : List Kv} (h : Unl l) (p : l.Perm m) : Unl m := (p.pairwise_iff (fun hab => hab.symm)).1 h
def sortQ (q : Qy) (l : List Kv) : List Kv := sortO (ltQ q) l
theorem sortQ_perm (q : Qy) (l : List Kv) : (sortQ q l).Perm l := sortO_perm _ l
theorem sortQ_srt {q : Qy} {l : List Kv} (h : Unl l) : SrtQ q (sortQ q l) := sortO_sorted ltQ_trans l (h.imp fun e => ltQ_tri e)
/-- Whatever is in order, of the same records, is that row. -/
theorem sortQ_only {q : Qy} {l m : List Kv} (h : Unl l) (p : m.Perm l) (hs : SrtQ q m) : m = sortQ q l := sorted_only (fun _ _ h => ltQ_asymm h) (p.trans (sortQ_perm q l).symm) hs (sortQ_srt h)
theorem sortQ_swap {q : Qy} {l m : List Kv} (h : Unl l) (p : l.Perm m) : sortQ q l = sortQ q m := sortQ_only (h.perm p) ((sortQ_perm q l).trans p) (sortQ_srt h)
theorem sortQ_done {q : Qy} {l : List Kv} (h : Unl l) (hs : SrtQ q l) : sortQ q l = l := (sortQ_only h (.refl _) hs).symm
/-- What Keys leaves of a record. -/
def stripQ (q : Qy) (x : Kv) : Kv := if q.keys then { x with val := [] } else x
/-- What is kept, in order. -/
def allQ (q : Qy) (l : List Kv) : List Kv := sortQ q (l.filter (keepsQ q))
/-- How many of these the limit leaves. -/
def manyQ (q : Qy) (n : Nat) : Nat := if 0 < q.limit then min n q.limit.toNat else n
/-- The result: records, Count, More. -/
def siftQ (q : Qy) (l : List Kv) : List Kv × Nat × Bool :=
  if rightQ q then (if q.count then ([], l.length, false) else (((allQ q l).take (manyQ q (allQ q l).length)).map (stripQ q), l.length, decide (manyQ q (allQ q l).length < (allQ q l).length))) else ([], 0, false)
theorem manyQ_le (q : Qy) (n : Nat) : manyQ q n ≤ n := by unfold manyQ; split <;> omega
theorem allQ_swap {q : Qy} {l m : List Kv} (h : Unl l) (p : l.Perm m) : allQ q l = allQ q m := sortQ_swap (h.sub List.filter_sublist) (p.filter _)
theorem siftQ_swap {q : Qy} {l m : List Kv} (h : Unl l) (p : l.Perm m) : siftQ q l = siftQ q m := by
  unfold siftQ
  rw [allQ_swap h p, p.length_eq]
theorem allQ_unl {q : Qy} {l : List Kv} (h : Unl l) : Unl (allQ q l) := (h.sub List.filter_sublist).perm (sortQ_perm _ _).symm
theorem allQ_srt {q : Qy} {l : List Kv} (h : Unl l) : SrtQ q (allQ q l) := sortQ_srt (h.sub List.filter_sublist)
theorem allQ_keeps {q : Qy} {l : List Kv} {x : Kv} (hx : x ∈ allQ q l) : keepsQ q x = true := by
  have := (sortQ_perm q (l.filter (keepsQ q))).mem_iff.1 hx
  exact (List.mem_filter.1 this).2
theorem allQ_len (q : Qy) (l : List Kv) : (allQ q l).length = (l.filter (keepsQ q)).length := (sortQ_perm _ _).length_eq
/-- What was sifted and is sifted again, whatever its beginning. -/
theorem allQ_again {q : Qy} {l : List Kv} (h : Unl l) (n : Nat) : allQ q ((allQ q l).take n) = (allQ q l).take n := by
  have e : ((allQ q l).take n).filter (keepsQ q) = (allQ q l).take n := by
    rw [List.filter_eq_self]
    exact fun x hx => allQ_keeps (List.mem_of_mem_take hx)
  unfold allQ at e ⊢
  rw [e]
  exact sortQ_done ((allQ_unl h).sub (List.take_sublist _ _)) (List.Pairwise.sublist (List.take_sublist _ _) (allQ_srt h))
/-- The other way round. -/
theorem allQ_turn {q p : Qy} {l : List Kv} (h : Unl l) (hs : p.sort = q.sort) (hd : p.desc = !q.desc) (hk : ∀ x, keepsQ p x = keepsQ q x) : allQ p l = (allQ q l).reverse := by
  have e : l.filter (keepsQ p) = l.filter (keepsQ q) := by congr 1; funext x; exact hk x
  unfold allQ
  rw [e]
  refine (sortQ_only (h.sub List.filter_sublist) ((List.reverse_perm _).trans (sortQ_perm _ _)) ?_).symm
  rw [SrtQ, List.pairwise_reverse]
  refine List.Pairwise.imp ?_ (allQ_srt h)
  intro x y hxy
  unfold ltQ at hxy ⊢
  rw [hs, hd]
  cases hq : q.desc <;> simp [hq] at hxy ⊢ <;> exact hxy
end Go.Proofs.Ytepmamfbhocjjaa
end

section
/-
  Nothing but one block, and what is new, has turned. No program is named.
-/
namespace Go.Proofs.Ytepmamfbhocjjaa
open Go.ChangeShapes Go.WideShapes Go.ChangeAt Go.RowKit
set_option linter.unusedVariables false
/-- Nothing but block r, and what is new, has turned. -/
def Only (w w' : World) (r : Nat) : Prop := w.grownBy w' (some r)
section
variable {w w' : World} {r : Nat}
theorem Only.refl (w : World) (r : Nat) : Only w w r := ⟨rfl, rfl, rfl, Nat.le_refl _, fun _ _ _ => rfl⟩
theorem Only.trans {a b c : World} (h : Only a b r) (k : Only b c r) : Only a c r :=
  ⟨k.os.trans h.os, k.tape.trans h.tape, k.output.trans h.output, Nat.le_trans h.size k.size, fun i hi hn => (k.block i (Nat.lt_of_lt_of_le hi h.size) hn).trans (h.block i hi hn)⟩
theorem Only.drewN {a w : World} (h : Only a w r) (q : Nat) : Only a (w.drewN q) r := ⟨h.os, h.tape, h.output, h.size, h.block⟩
theorem Only.setCell {a w : World} (h : Only a w r) (i : Nat) (u : Value) : Only a (w.setCell ⟨r, i, none⟩ u) r :=
  ⟨h.os, h.tape, h.output, by simpa [World.setCell] using h.size, fun k hk hn => (Below.heap_setCell w ⟨r, i, none⟩ u k (fun e => hn (by rw [e]))).trans (h.block k hk hn)⟩
theorem Only.of_below {a w : World} (h : Below a.heap.size a w) : Only a w r := ⟨h.os, h.tape, h.output, h.size, fun k hk _ => h.block k hk⟩
theorem Only.below {B : Nat} {a w w' : World} (h : Below B a w) (k : Only w w' r) (hB : B ≤ w.heap.size) (hr : B ≤ r) : Below B a w' :=
  h.grown k hB (fun i hi => by have := Option.some.inj hi; omega)
/-- What reads below block B reads so still. -/
theorem Only.rd {B : Nat} {A' : Option Addr} {m : Nat} {ys : List UInt8} {a w w' : World} (h : Rd a A' m ys) (hb : Below a.heap.size a w) (k : Only w w' r) (hr : a.heap.size ≤ r) : Rd w' A' m ys :=
  h.below (k.below hb hb.size hr)
end
end Go.Proofs.Ytepmamfbhocjjaa
end

section
/-
  What the laws of stage 14 say of a sift as plain data. No program is named.
-/
namespace Go.Proofs.Ytepmamfbhocjjaa
set_option linter.unusedVariables false
set_option linter.unusedSimpArgs false
theorem manyQ_again (q : Qy) (n : Nat) : manyQ q (manyQ q n) = manyQ q n := by unfold manyQ; split <;> omega
theorem strip_id {q : Qy} (hk : q.keys = false) (l : List Kv) : l.map (stripQ q) = l := by
  rw [show stripQ q = id by funext x; simp [stripQ, hk], List.map_id]
theorem sift_plain {q : Qy} (hr : rightQ q = true) (hc : q.count = false) (hk : q.keys = false) (xs : List Kv) : siftQ q xs = ((allQ q xs).take (manyQ q (allQ q xs).length), xs.length, decide (manyQ q (allQ q xs).length < (allQ q xs).length)) := by
  unfold siftQ
  rw [hr, hc, strip_id hk]
  rfl
theorem twice_pure {q : Qy} (hr : rightQ q = true) (hc : q.count = false) (hk : q.keys = false) {xs : List Kv} (hU : Unl xs) : siftQ q (siftQ q xs).1 = ((siftQ q xs).1, (siftQ q xs).1.length, false) := by
  have h1 := sift_plain hr hc hk xs
  rw [h1]
  have h2 := allQ_again (q := q) hU (manyQ q (allQ q xs).length)
  rw [sift_plain hr hc hk, h2]
  have hl : ((allQ q xs).take (manyQ q (allQ q xs).length)).length = manyQ q (allQ q xs).length := by rw [List.length_take]; have := manyQ_le q (allQ q xs).length; omega
  rw [hl, manyQ_again]
  rw [List.take_of_length_le (by rw [hl]; exact Nat.le_refl _)]
  simp
theorem sift_unl {q : Qy} (hr : rightQ q = true) (hc : q.count = false) (hk : q.keys = false) {xs : List Kv} (hU : Unl xs) : Unl (siftQ q xs).1 := by
  rw [sift_plain hr hc hk]
  exact (allQ_unl hU).sub (List.take_sublist _ _)
theorem sift_len {q : Qy} {xs : List Kv} {R : List Kv × Nat × Bool} (h : siftQ q xs = R) (hr : rightQ q = true) (hc : q.count = false) : R.1.length ≤ xs.length := by
  rw [← h]
  unfold siftQ
  rw [hr, hc]
  show (((allQ q xs).take (manyQ q (allQ q xs).length)).map (stripQ q)).length ≤ xs.length
  rw [List.length_map, List.length_take, allQ_len]
  have := List.length_filter_le (keepsQ q) xs
  omega
def zeroQ : Qy := ⟨0, 0, 0, 0, 0, 0, false, false, false⟩
theorem zero_pure (xs : List Kv) : (siftQ zeroQ xs).1.length = xs.length ∧ (siftQ zeroQ xs).2.2 = false := by
  have hf : xs.filter (keepsQ zeroQ) = xs := by
    rw [List.filter_eq_self]
    intro x _
    simp [keepsQ, zeroQ]
  have hl : (allQ zeroQ xs).length = xs.length := by rw [allQ_len, hf]
  have hm : ∀ n, manyQ zeroQ n = n := fun n => by simp [manyQ, zeroQ]
  rw [sift_plain rfl rfl rfl, hl, hm]
  simp [hl]
/-- What a query's other fields leave. -/
def bareQ (q : Qy) (keys count : Bool) : Qy := { q with limit := 0, keys := keys, count := count }
theorem bare_right {q : Qy} (h : rightQ q = true) (k c : Bool) : rightQ (bareQ q k c) = true := by
  obtain ⟨sort, limit, m0, m1, c0, c1, desc, keys, count⟩ := q
  show rightQ ⟨sort, 0, m0, m1, c0, c1, desc, k, c⟩ = true
  simp only [rightQ, Bool.and_eq_true, decide_eq_true_eq] at h ⊢
  omega
theorem bare_many (q : Qy) (k c : Bool) (n : Nat) : manyQ (bareQ q k c) n = n := by simp [manyQ, bareQ]
theorem bare_a {q : Qy} (h : rightQ q = true) (xs : List Kv) : siftQ (bareQ q false false) xs = (allQ q xs, xs.length, false) := by
  rw [sift_plain (bare_right h _ _) rfl rfl, bare_many, List.take_length]
  simp
  rfl
theorem bare_b {q : Qy} (h : rightQ q = true) (xs : List Kv) : siftQ (bareQ q true false) xs = ((allQ q xs).map (fun x => { x with val := [] }), xs.length, false) := by
  have e : allQ (bareQ q true false) xs = allQ q xs := rfl
  unfold siftQ
  rw [bare_right h, bare_many, e, List.take_length]
  simp [bareQ, stripQ]
theorem bare_c {q : Qy} (h : rightQ q = true) (xs : List Kv) : siftQ (bareQ q true true) xs = ([], xs.length, false) := by
  unfold siftQ
  rw [bare_right h]
  rfl
theorem bare_keeps (q : Qy) (k c : Bool) (x : Kv) : keepsQ (bareQ q k c) x = keepsQ q x := rfl
end Go.Proofs.Ytepmamfbhocjjaa
end
