/-
  A record as plain data: what is right, its bytes, a tombstone's; a reader's Text as plain data; what was read is what was written. No program is named.
-/
import Derived.Test.YtcmjgkgdeaiifaaGet
namespace Go.Proofs.Ytcmjgkgdeaiifaa
open Go.ChangeShapes Go.WideShapes Go.ChangeAt Go.RowKit
set_option linter.unusedVariables false

/-- A record: key, value, Create, Mod, Version, Lease. -/
structure Kv where
  key : List UInt8
  val : List UInt8
  c : Int
  m : Int
  v : Int
  l : Int
deriving DecidableEq
def zeroKv : Kv := ⟨[], [], 0, 0, 0, 0⟩
def keyB (n : Nat) : Bool := decide (1 ≤ n) && decide (n ≤ 64)
def withinB (n least : Int) : Bool := decide (least ≤ n) && decide (n ≤ 4611686018427387904)
def rightV (x : Kv) : Bool := keyB x.key.length && decide (x.val.length ≤ 1024) && withinB x.c 1 && withinB x.m x.c && withinB x.v 1 && withinB x.l 0
def textB (b : List UInt8) : List UInt8 := be b.length 2 ++ b
def headB (kind : Nat) (k : List UInt8) : List UInt8 := be kind 1 ++ textB k
def numsB (c m v l : Nat) : List UInt8 := be c 8 ++ (be m 8 ++ (be v 8 ++ be l 8))
def kvB (x : Kv) : List UInt8 := headB 1 x.key ++ (numsB x.c.toNat x.m.toNat x.v.toNat x.l.toNat ++ textB x.val)
theorem textB_length (b : List UInt8) : (textB b).length = 2 + b.length := by simp [textB, be_length]
theorem headB_length (k : Nat) (b : List UInt8) : (headB k b).length = 3 + b.length := by simp [headB, be_length, textB_length]; omega
theorem numsB_length (c m v l : Nat) : (numsB c m v l).length = 32 := by simp [numsB, be_length]
theorem kvB_length (x : Kv) : (kvB x).length = 37 + (x.key.length + x.val.length) := by simp [kvB, headB_length, numsB_length, textB_length]; omega
/-- The numbers of a right record are natural ones. -/
theorem rightV_nat {x : Kv} (h : rightV x = true) : ∃ c m v l : Nat, x = ⟨x.key, x.val, c, m, v, l⟩ ∧ c ≤ 4611686018427387904 ∧ m ≤ 4611686018427387904 ∧ v ≤ 4611686018427387904 ∧ l ≤ 4611686018427387904 ∧ 1 ≤ x.key.length ∧ x.key.length ≤ 64 ∧ x.val.length ≤ 1024 := by
  obtain ⟨k, b, c, m, v, l⟩ := x
  simp only [rightV, keyB, withinB, Bool.and_eq_true, decide_eq_true_eq] at h
  obtain ⟨⟨⟨⟨⟨⟨h1, h2⟩, h3⟩, h4, h5⟩, h6, h7⟩, h8, h9⟩, h10, h11⟩ := h
  refine ⟨c.toNat, m.toNat, v.toNat, l.toNat, ?_, by omega, by omega, by omega, by omega, h1, h2, h3⟩
  congr 1 <;> omega

/-! ### reading -/
/-- A reader's Num and Text, from any state (place, error). -/
def rnumX (xs : List UInt8) (k : Nat) (s : Nat × Int) : Nat × (Nat × Int) := if s.2 ≠ 0 then (0, s) else if s.1 + k ≤ xs.length then (num (part xs s.1 k) 0, (s.1 + k, 0)) else (0, (s.1, 3))
def rtextX (xs : List UInt8) (most : Nat) (s : Nat × Int) : List UInt8 × (Nat × Int) :=
  if s.2 ≠ 0 then ([], s) else if s.1 + 2 ≤ xs.length then (if num (part xs s.1 2) 0 ≤ most then (if s.1 + 2 + num (part xs s.1 2) 0 ≤ xs.length then (part xs (s.1 + 2) (num (part xs s.1 2) 0), (s.1 + 2 + num (part xs s.1 2) 0, 0)) else ([], (s.1, 3))) else ([], (s.1, 5))) else ([], (s.1, 3))
/-- Where nothing went wrong, these bytes were read. -/
def Ate (xs : List UInt8) (s : Nat × Int) (ys : List UInt8) : Prop := s.2 = 0 → xs.take s.1 = ys
theorem take_part (xs : List UInt8) (p k : Nat) : xs.take (p + k) = xs.take p ++ part xs p k := by
  unfold part
  rw [List.take_add]
theorem be_part {xs : List UInt8} {p k : Nat} (h : p + k ≤ xs.length) : be (num (part xs p k) 0) k = part xs p k := by
  have := be_num (part xs p k) 0
  rwa [part_length _ _ _ h] at this
section
variable {xs ys zs : List UInt8} {s : Nat × Int} {k most p n : Nat}
theorem rnumX_lt : (rnumX xs k s).1 < 256 ^ k := by
  unfold rnumX
  split
  · exact Nat.pow_pos (by omega)
  · split
    · exact num_part_lt _ _ _ ‹_›
    · exact Nat.pow_pos (by omega)
theorem rnumX_le (h : s.1 ≤ xs.length) : (rnumX xs k s).2.1 ≤ xs.length := by
  unfold rnumX
  split
  · exact h
  · split
    · assumption
    · exact h
theorem rtextX_le (h : s.1 ≤ xs.length) : (rtextX xs most s).2.1 ≤ xs.length := by
  unfold rtextX
  repeat' split
  all_goals first | exact h | assumption
theorem rtextX_len : (rtextX xs most s).1.length ≤ most := by
  unfold rtextX
  repeat' split
  all_goals first | exact Nat.zero_le _ | (show (part _ _ _).length ≤ _; rw [part_length _ _ _ (by assumption)]; assumption)
theorem rnumX_ate (h : Ate xs s ys) : Ate xs (rnumX xs k s).2 (ys ++ be (rnumX xs k s).1 k) := by
  unfold rnumX
  split
  · next e => intro h0; exact absurd h0 e
  · next e =>
    split
    · next hk => intro _; rw [take_part, h (by simpa using e), be_part hk]
    · intro h0; simp at h0
theorem rtextX_ate (h : Ate xs s ys) : Ate xs (rtextX xs most s).2 (ys ++ textB (rtextX xs most s).1) := by
  unfold rtextX
  split
  · next e => intro h0; exact absurd h0 e
  · next e =>
    split
    · next h2 =>
      split
      · next hm =>
        split
        · next hk =>
          intro _
          have hl := part_length xs (s.1 + 2) (num (part xs s.1 2) 0) hk
          show xs.take (s.1 + 2 + num (part xs s.1 2) 0) = ys ++ textB (part xs (s.1 + 2) (num (part xs s.1 2) 0))
          unfold textB
          rw [hl, be_part h2, take_part, take_part, h (by simpa using e), List.append_assoc]
        · intro h0; simp at h0
      · intro h0; simp at h0
    · intro h0; simp at h0
theorem part_at3 (a b c : List UInt8) {p k : Nat} (hp : a.length = p) (hk : b.length = k) : part (a ++ (b ++ c)) p k = b := by
  unfold part
  rw [List.drop_left' hp, List.take_left' hk]
theorem rnumX_of (e : xs = ys ++ (be n k ++ zs)) (hp : ys.length = p) (hn : n < 256 ^ k) : rnumX xs k (p, 0) = (n, (p + k, 0)) := by
  have hl : p + k ≤ xs.length := by rw [e]; simp [be_length]; omega
  simp only [rnumX, ne_eq, not_true_eq_false, if_false, hl, if_true]
  rw [e, part_at3 _ _ _ hp (be_length _ _), num_be _ _ hn]
theorem rtextX_of {b : List UInt8} (e : xs = ys ++ (textB b ++ zs)) (hp : ys.length = p) (hb : b.length ≤ most) (hm : most ≤ 65535) : rtextX xs most (p, 0) = (b, (p + 2 + b.length, 0)) := by
  have hl : p + 2 ≤ xs.length := by rw [e]; simp [textB, be_length]; omega
  have hl2 : p + 2 + b.length ≤ xs.length := by rw [e]; simp [textB, be_length]; omega
  have h1 : num (part xs p 2) 0 = b.length := by
    rw [e, textB, List.append_assoc, part_at3 _ _ _ hp (be_length _ _), num_be _ _ (by omega)]
  have h2 : part xs (p + 2) b.length = b := by
    rw [e, textB, List.append_assoc, ← List.append_assoc]
    exact part_at3 _ _ _ (by simp [be_length]; omega) rfl
  simp only [rtextX, ne_eq, not_true_eq_false, if_false, hl, if_true, h1, hb, hl2, h2]
end
/-- What a Decode reads, one thing behind the other. -/
def pK (xs : List UInt8) := rnumX xs 1 (0, 0)
def pT (xs : List UInt8) := rtextX xs 64 (pK xs).2
def p1 (xs : List UInt8) := rnumX xs 8 (pT xs).2
def p2 (xs : List UInt8) := rnumX xs 8 (p1 xs).2
def p3 (xs : List UInt8) := rnumX xs 8 (p2 xs).2
def p4 (xs : List UInt8) := rnumX xs 8 (p3 xs).2
def pV (xs : List UInt8) := rtextX xs 1024 (p4 xs).2
theorem pK_le (xs : List UInt8) : (pK xs).2.1 ≤ xs.length := rnumX_le (Nat.zero_le _)
theorem pT_le (xs : List UInt8) : (pT xs).2.1 ≤ xs.length := rtextX_le (pK_le xs)
theorem pV_le (xs : List UInt8) : (pV xs).2.1 ≤ xs.length := rtextX_le (rnumX_le (rnumX_le (rnumX_le (rnumX_le (pT_le xs)))))
theorem head_ate (xs : List UInt8) : Ate xs (pT xs).2 (headB (pK xs).1 (pT xs).1) := by
  have h1 : Ate xs (0, 0) [] := fun _ => rfl
  have h2 := rnumX_ate (k := 1) h1
  exact rtextX_ate (most := 64) h2
theorem all_ate (xs : List UInt8) : Ate xs (pV xs).2 (headB (pK xs).1 (pT xs).1 ++ (numsB (p1 xs).1 (p2 xs).1 (p3 xs).1 (p4 xs).1 ++ textB (pV xs).1)) := by
  have h := rtextX_ate (most := 1024) (rnumX_ate (k := 8) (rnumX_ate (k := 8) (rnumX_ate (k := 8) (rnumX_ate (k := 8) (head_ate xs)))))
  simp only [numsB, List.append_assoc] at h ⊢
  exact h
/-- Read to the end, without an error. -/
def Done (xs : List UInt8) (s : Nat × Int) : Prop := s.2 = 0 ∧ ¬ s.1 < xs.length
theorem Ate.done {xs ys : List UInt8} {s : Nat × Int} (h : Ate xs s ys) (hd : Done xs s) : xs = ys := by
  rw [← h hd.1, List.take_of_length_le (Nat.le_of_not_lt hd.2)]
theorem parse_head (xs : List UInt8) (kind : Nat) (k zs : List UInt8) (hk : kind < 256) (hl : k.length ≤ 64) (e : xs = headB kind k ++ zs) : (pK xs).1 = kind ∧ (pT xs).1 = k ∧ (pT xs).2 = (3 + k.length, 0) := by
  have h1 : pK xs = (kind, (1, 0)) := by
    have := rnumX_of (xs := xs) (ys := []) (zs := textB k ++ zs) (n := kind) (k := 1) (p := 0) (by rw [e]; simp [headB]) rfl (by simpa using hk)
    simpa [pK] using this
  have h2 : pT xs = (k, (3 + k.length, 0)) := by
    have := rtextX_of (xs := xs) (ys := be kind 1) (zs := zs) (b := k) (most := 64) (p := 1) (by rw [e]; simp [headB]) (be_length _ _) hl (by omega)
    simpa [pT, h1] using this
  exact ⟨by rw [h1], by rw [h2], by rw [h2]⟩
theorem parse_tomb {xs k : List UInt8} (hl : k.length ≤ 64) (e : xs = headB 2 k) : (pK xs).1 = 2 ∧ (pT xs).1 = k ∧ Done xs (pT xs).2 := by
  obtain ⟨a, b, c⟩ := parse_head xs 2 k [] (by omega) hl (by rw [e, List.append_nil])
  refine ⟨a, b, ?_⟩
  rw [c]
  exact ⟨rfl, by rw [e, headB_length]; simp⟩
theorem parse_kv {xs k b : List UInt8} {c m v l : Nat} (hk : k.length ≤ 64) (hb : b.length ≤ 1024) (hc : c ≤ 4611686018427387904) (hm : m ≤ 4611686018427387904) (hv : v ≤ 4611686018427387904) (hl : l ≤ 4611686018427387904) (e : xs = headB 1 k ++ (numsB c m v l ++ textB b)) :
    (pK xs).1 = 1 ∧ (pT xs).1 = k ∧ (p1 xs).1 = c ∧ (p2 xs).1 = m ∧ (p3 xs).1 = v ∧ (p4 xs).1 = l ∧ (pV xs).1 = b ∧ Done xs (pV xs).2 := by
  obtain ⟨h0, h1, h2⟩ := parse_head xs 1 k _ (by omega) hk e
  have hh := headB_length 1 k
  have q1 : p1 xs = (c, (3 + k.length + 8, 0)) := by
    unfold p1
    rw [h2]
    exact rnumX_of (ys := headB 1 k) (zs := be m 8 ++ (be v 8 ++ (be l 8 ++ textB b))) (by rw [e]; simp [numsB]) hh (by omega)
  have q2 : p2 xs = (m, (3 + k.length + 8 + 8, 0)) := by
    unfold p2
    rw [q1]
    exact rnumX_of (ys := headB 1 k ++ be c 8) (zs := be v 8 ++ (be l 8 ++ textB b)) (by rw [e]; simp [numsB]) (by simp [hh, be_length]) (by omega)
  have q3 : p3 xs = (v, (3 + k.length + 8 + 8 + 8, 0)) := by
    unfold p3
    rw [q2]
    exact rnumX_of (ys := headB 1 k ++ (be c 8 ++ be m 8)) (zs := be l 8 ++ textB b) (by rw [e]; simp [numsB]) (by simp [hh, be_length] <;> omega) (by omega)
  have q4 : p4 xs = (l, (3 + k.length + 8 + 8 + 8 + 8, 0)) := by
    unfold p4
    rw [q3]
    exact rnumX_of (ys := headB 1 k ++ (be c 8 ++ (be m 8 ++ be v 8))) (zs := textB b) (by rw [e]; simp [numsB]) (by simp [hh, be_length] <;> omega) (by omega)
  have q5 : pV xs = (b, (3 + k.length + 8 + 8 + 8 + 8 + 2 + b.length, 0)) := by
    unfold pV
    rw [q4]
    exact rtextX_of (ys := headB 1 k ++ (be c 8 ++ (be m 8 ++ (be v 8 ++ be l 8)))) (zs := []) (by rw [e]; simp [numsB]) (by simp [hh, be_length] <;> omega) hb (by omega)
  refine ⟨h0, h1, by rw [q1], by rw [q2], by rw [q3], by rw [q4], by rw [q5], ?_⟩
  rw [q5]
  refine ⟨rfl, ?_⟩
  rw [e]
  simp [headB_length, numsB_length, textB_length]
  omega
theorem kvB_nat (k b : List UInt8) (c m v l : Nat) : kvB ⟨k, b, c, m, v, l⟩ = headB 1 k ++ (numsB c m v l ++ textB b) := by simp [kvB]
theorem kvB_inj {x y : Kv} (hx : rightV x = true) (hy : rightV y = true) (h : kvB x = kvB y) : x = y := by
  obtain ⟨c, m, v, l, e, h1, h2, h3, h4, h5, h6, h7⟩ := rightV_nat hx
  obtain ⟨c', m', v', l', e', g1, g2, g3, g4, g5, g6, g7⟩ := rightV_nat hy
  rw [e, e', kvB_nat, kvB_nat] at h
  obtain ⟨_, a1, a2, a3, a4, a5, a6, _⟩ := parse_kv h6 h7 h1 h2 h3 h4 rfl
  obtain ⟨_, b1, b2, b3, b4, b5, b6, _⟩ := parse_kv g6 g7 g1 g2 g3 g4 h
  rw [e, e']
  congr 1
  · rw [← a1, ← b1]
  · rw [← a6, ← b6]
  · rw [← a2, ← b2]
  · rw [← a3, ← b3]
  · rw [← a4, ← b4]
  · rw [← a5, ← b5]
theorem headB_inj {k k' : List UInt8} (h1 : k.length ≤ 64) (h2 : k'.length ≤ 64) (h : headB 2 k = headB 2 k') : k = k' := by
  rw [← (parse_tomb h1 rfl).2.1, ← (parse_tomb h2 h).2.1]
theorem kv_no_tomb {x : Kv} {k : List UInt8} : kvB x ≠ headB 2 k := by
  intro h
  have := congrArg (fun l => l.head?) h
  simp [kvB, headB, be] at this
/-- Whether these bytes are a record's or a tombstone's, and whose. -/
def IsDec (xs : List UInt8) (x : Kv) (t ok : Bool) : Prop :=
  (ok = true ∧ t = false ∧ rightV x = true ∧ xs = kvB x) ∨ (ok = true ∧ t = true ∧ keyB x.key.length = true ∧ x = ⟨x.key, [], 0, 0, 0, 0⟩ ∧ xs = headB 2 x.key) ∨
  (ok = false ∧ t = false ∧ x = zeroKv ∧ (∀ y, rightV y = true → xs ≠ kvB y) ∧ ∀ k : List UInt8, keyB k.length = true → xs ≠ headB 2 k)
theorem keyB_le {n : Nat} (h : keyB n = true) : n ≤ 64 := by simp [keyB] at h; omega
theorem IsDec.only {xs : List UInt8} {x y : Kv} {t u o q : Bool} (h : IsDec xs x t o) (g : IsDec xs y u q) : x = y ∧ t = u ∧ o = q := by
  rcases h with ⟨rfl, rfl, h1, h2⟩ | ⟨rfl, rfl, h1, h2, h3⟩ | ⟨rfl, rfl, rfl, h1, h2⟩ <;> rcases g with ⟨rfl, rfl, g1, g2⟩ | ⟨rfl, rfl, g1, g2, g3⟩ | ⟨rfl, rfl, rfl, g1, g2⟩
  · exact ⟨kvB_inj h1 g1 (h2.symm.trans g2), rfl, rfl⟩
  · exact absurd (h2.symm.trans g3) kv_no_tomb
  · exact absurd h2 (g1 _ h1)
  · exact absurd (g2.symm.trans h3) kv_no_tomb
  · have := headB_inj (keyB_le h1) (keyB_le g1) (h3.symm.trans g3)
    exact ⟨by rw [h2, g2, this], rfl, rfl⟩
  · exact absurd h3 (g2 _ h1)
  · exact absurd g2 (h1 _ g1)
  · exact absurd g3 (h2 _ g1)
  · exact ⟨rfl, rfl, rfl⟩
end Go.Proofs.Ytcmjgkgdeaiifaa
