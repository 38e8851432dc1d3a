/-
  Metas over one another: what a torn page is, and which one counts. Encode in one word. No law is named.
-/
import Derived.Test.YtfgpkgenahlikaaDoorMv
namespace Go.Proofs.YtfgpkgenahlikaaDoor
open Go.ChangeShapes Go.WideShapes Go.ChangeAt Go.RowKit
set_option linter.unusedVariables false
set_option linter.unusedSimpArgs false

theorem encode_e (m : Mt) (er : Int) (her : (if rightM m then 0 else 4) = er) (w : World) (ht : m.txn < 18446744073709551616) (hF : Fours w) :
    Calls Tryd.prog 25 #[m.val] w fun e w' => ∃ A n c, e = .returned (.tuple #[.slice A n c, .int .i64 er]) ∧ Hid (er = 0 → n = 256 ∧ 256 ≤ c ∧ Rd w' A 256 (sealed (bodyM m))) ∧ Below w.heap.size w w' := by
  by_cases hr : rightM m = true
  · rw [if_pos hr] at her
    subst her
    refine (encode_m m w ht hr hF).mono ?_
    rintro e w' ⟨A, c, he, ho, hb⟩
    exact ⟨A, 256, c, he, kept (fun _ => ⟨rfl, own_cap ho, Rd.of_own ho⟩), hb⟩
  · rw [if_neg hr] at her
    subst her
    refine (encode_m_wrong m w (by simpa using hr)).mono ?_
    rintro e w' ⟨he, hb⟩
    exact ⟨none, 0, 0, he, kept (fun h => absurd h (by decide)), hb⟩
theorem right_of_er {m : Mt} {er : Int} (her : (if rightM m then 0 else 4) = er) (h : er = 0) : rightM m = true := by
  by_cases hr : rightM m = true
  · exact hr
  · rw [if_neg hr] at her
    omega
theorem er_ne {m : Mt} {er : Int} (her : (if rightM m then 0 else 4) = er) (h : er ≠ 0) : rightM m = false := by
  by_cases hr : rightM m = true
  · rw [if_pos hr] at her
    omega
  · simpa using hr

/-- The last eight bytes of a body are the number. -/
theorem body_tail (m : Mt) : (bodyM m).drop 244 = be m.txn 8 := by
  unfold bodyM bodyN
  rw [List.drop_append_of_le_length (by rw [List.length_append, headM_length, List.length_replicate]; omega), List.drop_of_length_le (by rw [List.length_append, headM_length, List.length_replicate]; omega), List.nil_append]
theorem body_head (m : Mt) : (bodyM m).take 26 = headM m.txn m.root.toNat m.spare.toNat m.size.toNat := by
  unfold bodyM bodyN
  rw [List.append_assoc, List.take_append_of_le_length (by rw [headM_length]; omega), List.take_of_length_le (by rw [headM_length]; omega)]
theorem part_of_take {xs ys : List UInt8} {k p n : Nat} (h : xs.take k = ys.take k) (hk : p + n ≤ k) : part xs p n = part ys p n := by
  unfold part
  have e : ∀ zs : List UInt8, (zs.drop p).take n = ((zs.take k).drop p).take n := fun zs => by
    rw [List.drop_take, List.take_take]
    congr 1
    omega
  rw [e xs, e ys, h]
theorem read_of_head {xs ys : List UInt8} (h : xs.take 26 = ys.take 26) : readM xs = readM ys := by
  unfold readM
  rw [part_of_take h (p := 1) (n := 8) (by omega), part_of_take h (p := 14) (n := 4) (by omega), part_of_take h (p := 18) (n := 4) (by omega), part_of_take h (p := 22) (n := 4) (by omega)]
/-- A torn page: the first bytes of the next meta over the elder's. -/
def torn (k : Nat) (e n : Mt) : List UInt8 := (sealed (bodyM n)).take k ++ (sealed (bodyM e)).drop k
theorem torn_length (k : Nat) (e n : Mt) (h : k ≤ 256) : (torn k e n).length = 256 := by
  unfold torn
  simp only [List.length_append, List.length_take, List.length_drop, sealed_length, bodyM_length]
  omega
theorem torn_whole (e n : Mt) : torn 256 e n = sealed (bodyM n) := by
  unfold torn
  rw [List.take_of_length_le (by rw [sealed_length, bodyM_length]; omega), List.drop_of_length_le (by rw [sealed_length, bodyM_length]; omega), List.append_nil]
/-- If it is a meta's, it is the next one's, or one with the elder's number. -/
theorem torn_is {k : Nat} {e n d : Mt} (hk : k ≤ 256) (hn : rightM n = true) (te : e.txn < 18446744073709551616) (tn : n.txn < 18446744073709551616) (td : d.txn < 18446744073709551616) (hd : rightM d = true) (h : torn k e n = sealed (bodyM d)) : d.txn = e.txn ∨ d = n := by
  by_cases hk2 : k ≤ 248
  · left
    have h1 : (torn k e n).drop 248 = be e.txn 8 := by
      unfold torn
      rw [List.drop_append, List.drop_of_length_le (by simp only [List.length_take, sealed_length, bodyM_length]; omega), List.nil_append, List.drop_drop]
      have e1 : k + (248 - (List.take k (sealed (bodyM n))).length) = 4 + 244 := by
        simp only [List.length_take, sealed_length, bodyM_length]
        omega
      rw [e1, ← List.drop_drop, sealed_drop, body_tail]
    have h2 : (sealed (bodyM d)).drop 248 = be d.txn 8 := by
      rw [show (248 : Nat) = 4 + 244 from rfl, ← List.drop_drop, sealed_drop, body_tail]
    rw [h, h2] at h1
    exact be_inj (s := 8) (by omega) (by omega) h1
  · right
    have h1 : (torn k e n).take 30 = (sealed (bodyM n)).take 30 := by
      unfold torn
      rw [List.take_append_of_le_length (by simp only [List.length_take, sealed_length, bodyM_length]; omega), List.take_take]
      congr 1
      omega
    rw [h] at h1
    have h2 : (bodyM d).take 26 = (bodyM n).take 26 := by
      have := congrArg (List.drop 4) h1
      rwa [List.drop_take, List.drop_take, sealed_drop, sealed_drop] at this
    rw [← readM_bodyM td hd, ← readM_bodyM tn hn, read_of_head h2]
theorem stand_own {m : Mt} (ht : m.txn < 18446744073709551616) (h : rightM m = true) (k : Int) : standM (sealed (bodyM m)) k = if ((m.txn % 2 : Nat) : Int) = k then (m, true) else (zeroMt, false) := by
  unfold standM
  rw [decM_sealed ht h]
  simp
/-- While the next meta is written over the elder one the last one counts, or the next. -/
theorem turns {k : Nat} {e l n : Mt} (hk : k ≤ 256) (hl : rightM l = true) (hn : rightM n = true) (te : e.txn + 1 = l.txn) (tn : n.txn = l.txn + 1) (tb : n.txn < 18446744073709551616) :
    ∃ m, (if l.txn % 2 = 0 then chooseM (sealed (bodyM l)) (torn k e n) else chooseM (torn k e n) (sealed (bodyM l))) = (m, 0) ∧ (m = l ∨ m = n) ∧ (k = 256 → m = n) := by
  have hS : ∀ j : Int, (standM (torn k e n) j = (zeroMt, false) ∧ (j = ((n.txn % 2 : Nat) : Int) → k ≠ 256)) ∨ (∃ d : Mt, standM (torn k e n) j = (d, true) ∧ ((d.txn = e.txn ∧ (j = ((n.txn % 2 : Nat) : Int) → k ≠ 256)) ∨ d = n)) := by
    intro j
    by_cases h0 : (decM (torn k e n)).2 = 0
    · obtain ⟨_, hr, he⟩ := decM_ok h0
      by_cases hj : (((decM (torn k e n)).1.txn % 2 : Nat) : Int) = j
      · refine .inr ⟨(decM (torn k e n)).1, ?_, ?_⟩
        · unfold standM
          rw [if_pos ⟨h0, hj⟩]
        · rcases torn_is hk hn (by omega) tb (decM_txn _) hr he with h | h
          · refine .inl ⟨h, fun _ hk2 => ?_⟩
            subst hk2
            rw [torn_whole, decM_sealed tb hn] at h
            have h : n.txn = e.txn := h
            omega
          · exact .inr h
      · refine .inl ⟨?_, fun hjn hk2 => ?_⟩
        · unfold standM
          rw [if_neg (fun h => hj h.2)]
        · subst hk2
          rw [torn_whole, decM_sealed tb hn] at hj
          exact hj hjn.symm
    · refine .inl ⟨?_, fun _ hk2 => ?_⟩
      · unfold standM
        rw [if_neg (fun h => h0 h.1)]
      · subst hk2
        rw [torn_whole, decM_sealed tb hn] at h0
        exact h0 rfl
  by_cases hp : l.txn % 2 = 0
  · rw [if_pos hp]
    have hq : ((n.txn % 2 : Nat) : Int) = 1 := by omega
    have hL := stand_own (by omega) hl 0
    rw [if_pos (by omega)] at hL
    rcases hS 1 with ⟨hs, h2⟩ | ⟨d, hs, h2⟩
    · refine ⟨l, ?_, .inl rfl, fun hk2 => absurd hk2 (h2 hq.symm)⟩
      unfold chooseM
      rw [hs, hL]
      simp
    · rcases h2 with ⟨h2, h3⟩ | h2
      · refine ⟨l, ?_, .inl rfl, fun hk2 => absurd hk2 (h3 hq.symm)⟩
        unfold chooseM
        rw [hs, hL]
        simp
        omega
      · refine ⟨n, ?_, .inr rfl, fun _ => rfl⟩
        subst h2
        unfold chooseM
        rw [hs, hL]
        simp
        omega
  · rw [if_neg hp]
    have hq : ((n.txn % 2 : Nat) : Int) = 0 := by omega
    have hL := stand_own (by omega) hl 1
    rw [if_pos (by omega)] at hL
    rcases hS 0 with ⟨hs, h2⟩ | ⟨d, hs, h2⟩
    · refine ⟨l, ?_, .inl rfl, fun hk2 => absurd hk2 (h2 hq.symm)⟩
      unfold chooseM
      rw [hs, hL]
      simp
    · rcases h2 with ⟨h2, h3⟩ | h2
      · refine ⟨l, ?_, .inl rfl, fun hk2 => absurd hk2 (h3 hq.symm)⟩
        unfold chooseM
        rw [hs, hL]
        simp
        omega
      · refine ⟨n, ?_, .inr rfl, fun _ => rfl⟩
        subst h2
        unfold chooseM
        rw [hs, hL]
        simp
        omega
/-- Noughts are no meta's bytes. -/
theorem zeros_bad (k : Int) : standM (List.replicate 256 0) k = (zeroMt, false) := by
  unfold standM
  rw [if_neg]
  rintro ⟨h, _⟩
  obtain ⟨_, _, he⟩ := decM_ok h
  have h1 := congrArg (fun l : List UInt8 => (l.drop 4).head?) he
  simp only [sealed_drop, List.drop_replicate] at h1
  have h2 : ∀ m, (bodyM m).head? = some 9 := fun _ => rfl
  have h3 : (List.replicate (256 - 4) (0 : UInt8)).head? = some 0 := rfl
  rw [h2, h3] at h1
  exact absurd h1 (by decide)
theorem stand_yes {m : Mt} (ht : m.txn < 18446744073709551616) (h : rightM m = true) {k : Int} (hk : ((m.txn % 2 : Nat) : Int) = k) : standM (sealed (bodyM m)) k = (m, true) := by rw [stand_own ht h, if_pos hk]
theorem stand_no {m : Mt} (ht : m.txn < 18446744073709551616) (h : rightM m = true) {k : Int} (hk : ((m.txn % 2 : Nat) : Int) ≠ k) : standM (sealed (bodyM m)) k = (zeroMt, false) := by rw [stand_own ht h, if_neg hk]
theorem places1 {m : Mt} (ht : m.txn < 18446744073709551616) (hr : rightM m = true) (hp : m.txn % 2 = 0) : chooseM (List.replicate 256 0) (sealed (bodyM m)) = (zeroMt, 7) := by
  unfold chooseM
  rw [zeros_bad 0, stand_no ht hr (k := 1) (by omega)]
  rfl
theorem places2 {m : Mt} (ht : m.txn < 18446744073709551616) (hr : rightM m = true) (hp : ¬ m.txn % 2 = 0) : chooseM (sealed (bodyM m)) (List.replicate 256 0) = (zeroMt, 7) := by
  unfold chooseM
  rw [zeros_bad 1, stand_no ht hr (k := 0) (by omega)]
  rfl
theorem places3 {m o : Mt} (ht : m.txn < 18446744073709551616) (hr : rightM m = true) (ht' : o.txn < 18446744073709551616) (ho : rightM o = true) (hp : m.txn % 2 = 0) (hq : o.txn % 2 = m.txn % 2) : chooseM (sealed (bodyM o)) (sealed (bodyM m)) = (o, 0) := by
  unfold chooseM
  rw [stand_yes ht' ho (k := 0) (by omega), stand_no ht hr (k := 1) (by omega)]
  rfl
theorem places4 {m o : Mt} (ht : m.txn < 18446744073709551616) (hr : rightM m = true) (ht' : o.txn < 18446744073709551616) (ho : rightM o = true) (hp : ¬ m.txn % 2 = 0) (hq : o.txn % 2 = m.txn % 2) : chooseM (sealed (bodyM m)) (sealed (bodyM o)) = (o, 0) := by
  unfold chooseM
  rw [stand_no ht hr (k := 0) (by omega), stand_yes ht' ho (k := 1) (by omega)]
  rfl
end Go.Proofs.YtfgpkgenahlikaaDoor
