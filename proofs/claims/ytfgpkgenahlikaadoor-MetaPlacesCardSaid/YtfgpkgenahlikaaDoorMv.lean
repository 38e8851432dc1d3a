/-
  What comes back of a meta's bytes; metas held against one another; the fact that every law of layer 5 begins with.
-/
import Derived.Test.YtfgpkgenahlikaaDoorMs
import Derived.Test.YtfgpkgenahlikaaDoorFr
namespace Go.Proofs.YtfgpkgenahlikaaDoor
open Go.ChangeShapes Go.WideShapes Go.ChangeAt Go.RowKit
set_option linter.unusedVariables false
set_option linter.unusedSimpArgs false

theorem readM_body (t r s z : Nat) (ht : t < 18446744073709551616) (hr : r ≤ 1024) (hs : s ≤ 1024) (hz : z ≤ 1024) : readM (bodyN t r s z) = ⟨t, (r : Int), (s : Int), (z : Int)⟩ := by
  have h0 : Fro (bodyN t r s z) 0 ([9] ++ (be t 8 ++ ([84, 69, 82, 82, 1] ++ (be r 4 ++ (be s 4 ++ (be z 4 ++ (List.replicate 218 0 ++ be t 8))))))) := by
    refine ⟨?_, Nat.zero_le _⟩
    unfold bodyN headM
    generalize List.replicate 218 (0 : UInt8) = Z
    simp [List.append_assoc]
  obtain ⟨h1, _, _⟩ := h0.skip (k := 1) rfl
  obtain ⟨h2, e2, _⟩ := h1.skip (k := 8) (be_length _ _)
  obtain ⟨h3, _, _⟩ := h2.skip (k := 5) rfl
  obtain ⟨h4, e4, _⟩ := h3.skip (k := 4) (be_length _ _)
  obtain ⟨h5, e5, _⟩ := h4.skip (k := 4) (be_length _ _)
  obtain ⟨_, e6, _⟩ := h5.skip (k := 4) (be_length _ _)
  simp only [Nat.zero_add, Nat.reduceAdd] at e2 e4 e5 e6
  unfold readM
  rw [e2, e4, e5, e6, num_be t 8 (by omega), num_be r 4 (by omega), num_be s 4 (by omega), num_be z 4 (by omega)]
theorem readM_bodyM {m : Mt} (ht : m.txn < 18446744073709551616) (h : rightM m = true) : readM (bodyM m) = m := by
  obtain ⟨r, s, z, e, hr, hs, hz, hb⟩ := rightM_nat h
  rw [hb, readM_body m.txn r s z ht hr hs hz]
  exact e.symm
theorem decM_sealed {m : Mt} (ht : m.txn < 18446744073709551616) (h : rightM m = true) : decM (sealed (bodyM m)) = (m, 0) := by
  unfold decM
  rw [if_neg (by rw [sealed_length, bodyM_length]; decide), if_neg (by rw [sealed_num, sealed_drop]; exact fun k => k rfl), sealed_drop, readM_bodyM ht h, if_pos (by simp [h])]
/-- Bytes that are a meta's are just its own. -/
theorem decM_ok {xs : List UInt8} (h : (decM xs).2 = 0) : xs.length = 256 ∧ rightM (decM xs).1 = true ∧ xs = sealed (bodyM (decM xs).1) := by
  unfold decM at h ⊢
  split at h
  · simp at h
  · rename_i hl
    split at h
    · simp at h
    · rename_i hs
      split at h
      · rename_i hb
        have hs : num (xs.take 4) 0 = csum (xs.drop 4) := Classical.not_not.1 hs
        have hl : xs.length = 256 := Classical.not_not.1 hl
        rw [if_neg (by simpa using hl), if_neg (by simpa using hs), if_pos hb]
        simp only [Bool.and_eq_true, decide_eq_true_eq] at hb
        refine ⟨hl, hb.1, ?_⟩
        rw [hb.2]
        exact ((sealed_iff xs (by omega)).2 hs).symm
      · simp at h
theorem decM_bad {xs : List UInt8} (h : (decM xs).2 ≠ 0) : (decM xs).1 = zeroMt := by
  unfold decM at h ⊢
  split
  · rfl
  · split
    · rfl
    · split
      · rename_i h1 h2 h3
        rw [if_neg h1, if_neg h2, if_pos h3] at h
        exact absurd rfl h
      · rfl
theorem bodyM_inj {m o : Mt} (h1 : rightM m = true) (h2 : rightM o = true) (t1 : m.txn < 18446744073709551616) (t2 : o.txn < 18446744073709551616) (h : bodyM m = bodyM o) : m = o := by
  rw [← readM_bodyM t1 h1, ← readM_bodyM t2 h2, h]
theorem sealed_inj {a b : List UInt8} (h : sealed a = sealed b) : a = b := by rw [← sealed_drop a, ← sealed_drop b, h]

theorem eql_m (m o : Mt) (w : World) : (binOp .eql 50 m.val o.val).run Tryd.prog w = .ok (.bool (decide (m = o))) w := by
  obtain ⟨t, r, s, z⟩ := m
  obtain ⟨t', r', s', z'⟩ := o
  simp only [Mt.val]
  go_simp
  by_cases h1 : t = t' <;> by_cases h2 : r = r' <;> by_cases h3 : s = s' <;> by_cases h4 : z = z' <;> simp [h1, h2, h3, h4] <;> omega
theorem eql_r (m o : Mt) (w : World) : (binOp .eql 53 m.val o.val).run Tryd.prog w = .ok (.bool (decide (m = o))) w := by
  obtain ⟨t, r, s, z⟩ := m
  obtain ⟨t', r', s', z'⟩ := o
  simp only [Mt.val]
  go_simp
  by_cases h1 : t = t' <;> by_cases h2 : r = r' <;> by_cases h3 : s = s' <;> by_cases h4 : z = z' <;> simp [h1, h2, h3, h4] <;> omega
abbrev exM : Mt := ⟨4, 3, 0, 8⟩
theorem exM_right : rightM exM = true := by decide
theorem exM_encode (w : World) (hF : Fours w) :
    Calls Tryd.prog 25 #[.agg #[.int .u64 4, .int .i64 3, .int .i64 0, .int .i64 8]] w fun e w' => ∃ A c, e = .returned (.tuple #[.slice A 256 c, .int .i64 0]) ∧ w'.ownsRow w.heap.size 5 1 (.slice A 256 c) 256 (cellsOf (sealed (bodyM exM))) ∧ Below w.heap.size w w' := encode_m exM w (by decide) exM_right hF
theorem exM_decode (A : Option Addr) (c : Nat) (w : World) (hr : Rd w A 256 (sealed (bodyM exM))) (hc : 256 ≤ c) (hf : Fours w) :
    Calls Tryd.prog 30 #[.slice A 256 c] w fun e w' => e = .returned (.tuple #[.agg #[.int .u64 4, .int .i64 3, .int .i64 0, .int .i64 8], .int .i64 0]) ∧ Below w.heap.size w w' := by
  have h := decode_m A 256 c _ w hr hc hf
  rw [decM_sealed (by decide) exM_right] at h
  exact h
set_option maxRecDepth 100000 in
theorem lives5 (w : World) (hf : Fours w) :
    Calls Tryd.prog 24 #[] w fun e w' => e = .returned (.bool true) ∧ Below w.heap.size w w' := by
  have HF := kept hf
  have HX := kept (exM_encode w hf)
  clear hf
  go_enter Tryd.func24, Tryd.ntmps24
  go_wp2_with fail
  with_reducible refine HX.out.mono ?_
  rintro e w1 ⟨A1, c1, rfl, hown, hb⟩
  have HD := kept (exM_decode A1 c1 w1 (Rd.of_own hown) (own_cap hown) (HF.out.below hb))
  have HB1 := kept hb
  clear hown hb
  go_wp2_with fail
  with_reducible refine HD.out.mono ?_
  rintro e w2 ⟨rfl, hb⟩
  have HB2 := kept (bel_to hb HB1.out)
  have HB3 := fun o => kept (HB2.out.alloc HB2.out.size o)
  clear hb
  go_wp2
  go_ret
  exact ⟨rfl, (HB3 _).out⟩
end Go.Proofs.YtfgpkgenahlikaaDoor
