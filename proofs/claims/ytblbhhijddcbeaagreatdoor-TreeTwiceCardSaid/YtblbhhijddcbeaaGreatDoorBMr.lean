/- Mr Ms Mv Mt -/
import Derived.Test.YtblbhhijddcbeaaGreatDoorBMf
import Derived.Lib.AppendStr
import Derived.Test.YtblbhhijddcbeaaGreatDoorBPh
section
namespace Go.Proofs.YtblbhhijddcbeaaGreatDoor
open Go.ChangeShapes Go.WideShapes Go.ChangeAt Go.RowKit
set_option linter.unusedVariables false
set_option linter.unusedSimpArgs false
set_option maxRecDepth 100000
set_option maxHeartbeats 16000000
def hd3 (t r s z k : Nat) : List UInt8 := [9] ++ be t 8 ++ [84, 69, 82, 82, 1] ++ (match k with | 0 => [] | 1 => be r 4 | 2 => be r 4 ++ be s 4 | _ => be r 4 ++ be s 4 ++ be z 4)
def lenS : Value → Nat
 | .slice _ n _ => n
 | _ => 0
theorem readM_body (t r s z : Nat) (ht : t < 18446744073709551616) (hr : r ≤ 1024) (hs : s ≤ 1024) (hz : z ≤ 1024) : readM (bodyN t r s z) = ⟨t, (r : Int), (s : Int), (z : Int)⟩ := by
 have h0 : Fro (bodyN t r s z) 0 ([9] ++ (be t 8 ++ ([84, 69, 82, 82, 1] ++ (be r 4 ++ (be s 4 ++ (be z 4 ++ (List.replicate 218 0 ++ be t 8))))))) := by
  refine ⟨?_, Nat.zero_le _⟩; unfold bodyN headM; generalize List.replicate 218 (0 : UInt8) = Z; simp [List.append_assoc]
 obtain ⟨h1, _, _⟩ := h0.skip (k := 1) rfl; obtain ⟨h2, e2, _⟩ := h1.skip (k := 8) (be_length _ _); obtain ⟨h3, _, _⟩ := h2.skip (k := 5) rfl; obtain ⟨h4, e4, _⟩ := h3.skip (k := 4) (be_length _ _); obtain ⟨h5, e5, _⟩ := h4.skip (k := 4) (be_length _ _); obtain ⟨_, e6, _⟩ := h5.skip (k := 4) (be_length _ _); simp only [Nat.zero_add, Nat.reduceAdd] at e2 e4 e5 e6; unfold readM; rw [e2, e4, e5, e6, num_be t 8 (by omega), num_be r 4 (by omega), num_be s 4 (by omega), num_be z 4 (by omega)]
theorem readM_bodyM {m : Mt} (ht : m.txn < 18446744073709551616) (h : rightM m = true) : readM (bodyM m) = m := by
 obtain ⟨r, s, z, e, hr, hs, hz, hb⟩ := rightM_nat h; rw [hb, readM_body m.txn r s z ht hr hs hz]; exact e.symm
theorem decM_sealed {m : Mt} (ht : m.txn < 18446744073709551616) (h : rightM m = true) : decM (sealed (bodyM m)) = (m, 0) := by
 unfold decM; rw [if_neg (by rw [sealed_length, bodyM_length]; decide), if_neg (by rw [sealed_num, sealed_drop]; exact fun k => k rfl), sealed_drop, readM_bodyM ht h, if_pos (by simp [h])]
theorem decM_ok {xs : List UInt8} (h : (decM xs).2 = 0) : xs.length = 256 ∧ rightM (decM xs).1 = true ∧ xs = sealed (bodyM (decM xs).1) := by
 unfold decM at h ⊢
 split at h
 · simp at h
 · rename_i hl
   split at h
   · simp at h
   · rename_i hs
     split at h
     · rename_i hb
       have hs : num (xs.take 4) 0 = csum (xs.drop 4) := Classical.not_not.1 hs; have hl : xs.length = 256 := Classical.not_not.1 hl; rw [if_neg (by simpa using hl), if_neg (by simpa using hs), if_pos hb]; simp only [Bool.and_eq_true, decide_eq_true_eq] at hb; refine ⟨hl, hb.1, ?_⟩; rw [hb.2]; exact ((sealed_iff xs (by omega)).2 hs).symm
     · simp at h
theorem body_tail (m : Mt) : (bodyM m).drop 244 = be m.txn 8 := by
 unfold bodyM bodyN; rw [List.drop_append_of_le_length (by rw [List.length_append, headM_length, List.length_replicate]; omega), List.drop_of_length_le (by rw [List.length_append, headM_length, List.length_replicate]; omega), List.nil_append]
theorem part_of_take {xs ys : List UInt8} {k p n : Nat} (h : xs.take k = ys.take k) (hk : p + n ≤ k) : part xs p n = part ys p n := by
 unfold part; have e : ∀ zs : List UInt8, (zs.drop p).take n = ((zs.take k).drop p).take n := fun zs => by
  rw [List.drop_take, List.take_take]
  congr 1
  omega
 rw [e xs, e ys, h]
theorem read_of_head {xs ys : List UInt8} (h : xs.take 26 = ys.take 26) : readM xs = readM ys := by
 unfold readM; rw [part_of_take h (p := 1) (n := 8) (by omega), part_of_take h (p := 14) (n := 4) (by omega), part_of_take h (p := 18) (n := 4) (by omega), part_of_take h (p := 22) (n := 4) (by omega)]
def torn (k : Nat) (e n : Mt) : List UInt8 := (sealed (bodyM n)).take k ++ (sealed (bodyM e)).drop k
theorem torn_whole (e n : Mt) : torn 256 e n = sealed (bodyM n) := by
 unfold torn; rw [List.take_of_length_le (by rw [sealed_length, bodyM_length]; omega), List.drop_of_length_le (by rw [sealed_length, bodyM_length]; omega), List.append_nil]
theorem torn_is {k : Nat} {e n d : Mt} (hk : k ≤ 256) (hn : rightM n = true) (te : e.txn < 18446744073709551616) (tn : n.txn < 18446744073709551616) (td : d.txn < 18446744073709551616) (hd : rightM d = true) (h : torn k e n = sealed (bodyM d)) : d.txn = e.txn ∨ d = n := by
 by_cases hk2 : k ≤ 248
 · left
   have h1 : (torn k e n).drop 248 = be e.txn 8 := by
    unfold torn; rw [List.drop_append, List.drop_of_length_le (by simp only [List.length_take, sealed_length, bodyM_length]; omega), List.nil_append, List.drop_drop]; have e1 : k + (248 - (List.take k (sealed (bodyM n))).length) = 4 + 244 := by
     simp only [List.length_take, sealed_length, bodyM_length]; omega
    rw [e1, ← List.drop_drop, sealed_drop, body_tail]
   have h2 : (sealed (bodyM d)).drop 248 = be d.txn 8 := by
    rw [show (248 : Nat) = 4 + 244 from rfl, ← List.drop_drop, sealed_drop, body_tail]
   rw [h, h2] at h1; exact be_inj (s := 8) (by omega) (by omega) h1
 · right
   have h1 : (torn k e n).take 30 = (sealed (bodyM n)).take 30 := by
    unfold torn; rw [List.take_append_of_le_length (by simp only [List.length_take, sealed_length, bodyM_length]; omega), List.take_take]
    congr 1
    omega
   rw [h] at h1; have h2 : (bodyM d).take 26 = (bodyM n).take 26 := by
    have := congrArg (List.drop 4) h1
    rwa [List.drop_take, List.drop_take, sealed_drop, sealed_drop] at this
   rw [← readM_bodyM td hd, ← readM_bodyM tn hn, read_of_head h2]
theorem stand_own {m : Mt} (ht : m.txn < 18446744073709551616) (h : rightM m = true) (k : Int) : standM (sealed (bodyM m)) k = if ((m.txn % 2 : Nat) : Int) = k then (m, true) else (zeroMt, false) := by
 unfold standM; rw [decM_sealed ht h]; simp
theorem turns {k : Nat} {e l n : Mt} (hk : k ≤ 256) (hl : rightM l = true) (hn : rightM n = true) (te : e.txn + 1 = l.txn) (tn : n.txn = l.txn + 1) (tb : n.txn < 18446744073709551616) :
 ∃ m, (if l.txn % 2 = 0 then chooseM (sealed (bodyM l)) (torn k e n) else chooseM (torn k e n) (sealed (bodyM l))) = (m, 0) ∧ (m = l ∨ m = n) ∧ (k = 256 → m = n) := by
 have hS : ∀ j : Int, (standM (torn k e n) j = (zeroMt, false) ∧ (j = ((n.txn % 2 : Nat) : Int) → k ≠ 256)) ∨ (∃ d : Mt, standM (torn k e n) j = (d, true) ∧ ((d.txn = e.txn ∧ (j = ((n.txn % 2 : Nat) : Int) → k ≠ 256)) ∨ d = n)) := by
  intro j; by_cases h0 : (decM (torn k e n)).2 = 0
  · obtain ⟨_, hr, he⟩ := decM_ok h0; by_cases hj : (((decM (torn k e n)).1.txn % 2 : Nat) : Int) = j
    · refine .inr ⟨(decM (torn k e n)).1, ?_, ?_⟩
      · unfold standM; rw [if_pos ⟨h0, hj⟩]
      · rcases torn_is hk hn (by omega) tb (decM_txn _) hr he with h | h
        · refine .inl ⟨h, fun _ hk2 => ?_⟩; subst hk2; rw [torn_whole, decM_sealed tb hn] at h; have h : n.txn = e.txn := h; omega
        · exact .inr h
    · refine .inl ⟨?_, fun hjn hk2 => ?_⟩
      · unfold standM; rw [if_neg (fun h => hj h.2)]
      · subst hk2; rw [torn_whole, decM_sealed tb hn] at hj; exact hj hjn.symm
  · refine .inl ⟨?_, fun _ hk2 => ?_⟩
    · unfold standM; rw [if_neg (fun h => h0 h.1)]
    · subst hk2; rw [torn_whole, decM_sealed tb hn] at h0; exact h0 rfl
 by_cases hp : l.txn % 2 = 0
 · rw [if_pos hp]; have hq : ((n.txn % 2 : Nat) : Int) = 1 := by omega
   have hL := stand_own (by omega) hl 0; rw [if_pos (by omega)] at hL; rcases hS 1 with ⟨hs, h2⟩ | ⟨d, hs, h2⟩
   · refine ⟨l, ?_, .inl rfl, fun hk2 => absurd hk2 (h2 hq.symm)⟩; unfold chooseM; rw [hs, hL]; simp
   · rcases h2 with ⟨h2, h3⟩ | h2
     · refine ⟨l, ?_, .inl rfl, fun hk2 => absurd hk2 (h3 hq.symm)⟩; unfold chooseM; rw [hs, hL]; simp; omega
     · refine ⟨n, ?_, .inr rfl, fun _ => rfl⟩; subst h2; unfold chooseM; rw [hs, hL]; simp; omega
 · rw [if_neg hp]; have hq : ((n.txn % 2 : Nat) : Int) = 0 := by omega
   have hL := stand_own (by omega) hl 1; rw [if_pos (by omega)] at hL; rcases hS 0 with ⟨hs, h2⟩ | ⟨d, hs, h2⟩
   · refine ⟨l, ?_, .inl rfl, fun hk2 => absurd hk2 (h2 hq.symm)⟩; unfold chooseM; rw [hs, hL]; simp
   · rcases h2 with ⟨h2, h3⟩ | h2
     · refine ⟨l, ?_, .inl rfl, fun hk2 => absurd hk2 (h3 hq.symm)⟩; unfold chooseM; rw [hs, hL]; simp; omega
     · refine ⟨n, ?_, .inr rfl, fun _ => rfl⟩; subst h2; unfold chooseM; rw [hs, hL]; simp; omega
theorem stand_yes {m : Mt} (ht : m.txn < 18446744073709551616) (h : rightM m = true) {k : Int} (hk : ((m.txn % 2 : Nat) : Int) = k) : standM (sealed (bodyM m)) k = (m, true) := by rw [stand_own ht h, if_pos hk]
end Go.Proofs.YtblbhhijddcbeaaGreatDoor
end
