/-
  What the document's own Decode of a revision answers; rev.Compare and the document's Ahead; the fact that every law of the layer begins with; an argument of type api.Rev, opened.
-/
import Derived.Test.YtaknhbklopmojaaVd
import Derived.Deep.Slices
import Derived.Deep.Fields
namespace Go.Proofs.Ytaknhbklopmojaa
open Go.ChangeShapes Go.WideShapes Go.ChangeAt Go.RowKit
set_option linter.unusedVariables false
set_option linter.unusedSimpArgs false

theorem refGet_8 (A : Option Addr) (len c at_ : Nat) (z : Int) (hz : (at_ : Int) = z) (xs : List UInt8) (w : World) (hr : Rd w A len xs) (hl : len ≤ 140737488355328) (h : at_ + 8 ≤ len) :
    Calls Try.prog 26 #[.slice A len c, .int .i64 z, .int .i64 8] w fun e w' => e = .returned (.tuple #[.int .u64 ((num (part xs at_ 8) 0 : Nat) : Int), .int .i64 0]) ∧ w = w' := by
  subst hz
  exact refGet_ok A len c at_ 8 xs w (by omega) (by omega) hr hl h
set_option maxHeartbeats 2000000 in
theorem refDec_any (A : Option Addr) (n c : Nat) (xs : List UInt8) (w : World) (hr : Rd w A n xs) (hn : n ≤ 140737488355328) :
    ∃ (M S : Int) (t : Bool) (ok : Bool), ((ok = true ∧ ∃ m s : Nat, M = (m : Int) ∧ S = (s : Int) ∧ 1 ≤ m ∧ m ≤ 4611686018427387904 ∧ s ≤ 4611686018427387904 ∧ xs = revB m s (signB t)) ∨ (ok = false ∧ M = 0 ∧ S = 0 ∧ t = false ∧ ∀ (m s : Nat) (u : Bool), 1 ≤ m → m ≤ 4611686018427387904 → s ≤ 4611686018427387904 → xs ≠ revB m s (signB u))) ∧
    Calls Try.prog 17 #[.slice A n c] w fun e w' => e = .returned (.tuple #[.agg #[.int .i64 M, .int .i64 S], .bool t, .bool ok]) ∧ Below w.heap.size w w' := by
  have hxn := hr.1
  have hq0 := Blk.new w 23 #[.int .i64 0, .int .i64 0]
  have hb0 := (Below.refl w.heap.size w).alloc (Nat.le_refl _) (.cells #[.int .i64 0, .int .i64 0] 23)
  have HQ0 := kept hq0
  have HB0 := kept hb0
  by_cases h17 : n = 17 ∨ n = 18
  · have HX := kept hr
    have HG0 := kept (refGet_8 A n c 0 0 rfl xs _ (hr.alloc (.cells #[.int .i64 0, .int .i64 0] 23)) hn (by omega))
    have HG9 := kept (refGet_8 A n c 9 9 rfl xs _ (hr.alloc (.cells #[.int .i64 0, .int .i64 0] 23)) hn (by omega))
    have his : ∀ (m s : Nat) (u : Bool), 1 ≤ m → m ≤ 4611686018427387904 → s ≤ 4611686018427387904 → xs = revB m s (signB u) → wrap64 ((num (part xs 0 8) 0 : Nat) : Int) = (m : Int) ∧ wrap64 ((num (part xs 9 8) 0 : Nat) : Int) = (s : Int) ∧ decide (n = 18) = u := by
      intro m s u _ h2 h3 e
      have hl := congrArg List.length e
      rw [revB_length, hxn] at hl
      have hu : (signB u).length = if u then 1 else 0 := by cases u <;> rfl
      rw [hu] at hl
      refine ⟨?_, ?_, by cases u <;> simp at hl ⊢ <;> omega⟩
      · rw [e, revB_main, num_be m 8 (by omega), IntWalk.wrap64_in _ ⟨by omega, by omega⟩]
      · rw [e, revB_sub, num_be s 8 (by omega), IntWalk.wrap64_in _ ⟨by omega, by omega⟩]
    have hu0 : num (part xs 0 8) 0 < 18446744073709551616 := by have := num_part_lt xs 0 8 (by omega); omega
    have hu9 : num (part xs 9 8) 0 < 18446744073709551616 := by have := num_part_lt xs 9 8 (by omega); omega
    generalize num (part xs 0 8) 0 = u0 at HG0 his hu0
    generalize num (part xs 9 8) 0 = u9 at HG9 his hu9
    obtain ⟨v0, hv0⟩ : ∃ v, wrap64 (u0 : Int) = v := ⟨_, rfl⟩
    obtain ⟨v9, hv9⟩ : ∃ v, wrap64 (u9 : Int) = v := ⟨_, rfl⟩
    rw [hv0, hv9] at his
    have ht2' := two_new (w.alloc (.cells #[.int .i64 0, .int .i64 0] 23)) 23 v0 v9
    rw [show (w.alloc (.cells #[.int .i64 0, .int .i64 0] 23)).heap.size = w.heap.size + 1 by simp] at ht2'
    have HT2 := kept ht2'
    have HQ1 := kept (hq0.alloc (.cells #[.int .i64 v0, .int .i64 v9] 23))
    have HB1 := kept (hb0.alloc (by simp) (.cells #[.int .i64 v0, .int .i64 v9] 23))
    have HRR := fun W => kept (refRight_r v0 v9 W)
    obtain ⟨t, ht⟩ : ∃ t, decide (n = 18) = t := ⟨_, rfl⟩
    have ht2 : ((n : Int) == 18) = t := by
      rw [← ht, Bool.eq_iff_iff]
      simp
      omega
    have hd1 : ((n : Int) != 17) = true → ((n : Int) != 18) = false := by intro h; simp at h ⊢; omega
    clear hr hq0 hb0 ht2'
    by_cases hR : rightR v0 v9 = true
    · rw [hR] at HRR
      obtain ⟨m, s, rfl, rfl, h1, h2, h3⟩ := rightR_nat hR
      have HE := fun W => kept (refEnc_any m s t W h2 h3)
      by_cases hx : revB m s (signB t) = xs
      · refine ⟨(m : Int), (s : Int), t, true, .inl ⟨rfl, m, s, rfl, rfl, h1, h2, h3, hx.symm⟩, ?_⟩
        clear hR h1 h2 h3 his
        rcases h17 with rfl | rfl
        all_goals cases t
        all_goals simp at ht
        all_goals
          go_enter Try.func17, Try.ntmps17
          go_wp2_with fail
          with_reducible refine (HG0.out).mono ?_
          rintro e w1 ⟨rfl, rfl⟩
          go_wp2_with fail
          with_reducible refine (HG9.out).mono ?_
          rintro e w1 ⟨rfl, rfl⟩
          go_wp2_with fail
          with_reducible refine (HRR _).out.mono ?_
          rintro e w3 ⟨rfl, hb⟩
          obtain ⟨e0, e1⟩ := HT2.out.keeps (Keeps.of_below hb)
          have HT3 := kept (HT2.out.keeps (Keeps.of_below hb))
          have hq := HQ1.out.below hb HQ1.out.lt
          have hb3 := bel_to hb HB1.out
          have q0 := hq.cell 0
          have q1 := hq.cell 1
          have f0 := hq.frozen 0
          have f1 := hq.frozen 1
          have HQ3 := kept hq
          have HB3 := kept hb3
          have HX3 := kept (HX.out.below hb3)
          clear hb hb3 hq
          go_wp2_with fail
          with_reducible refine (HE _).out.mono ?_
          rintro e w4 ⟨A4, c4, rfl, hown, hb⟩
          obtain ⟨e0, e1⟩ := HT3.out.keeps (Keeps.of_below hb)
          have hq := HQ3.out.below hb HQ3.out.lt
          have hb4 := bel_to hb HB3.out
          have q0 := hq.cell 0
          have q1 := hq.cell 1
          have f0 := hq.frozen 0
          have f1 := hq.frozen 1
          have HQ4 := kept hq
          have HB4 := kept hb4
          have HSM := kept (same_any _ _ _ _ c4 c _ _ w4 (Rd.of_own hown) (HX3.out.below hb) true (by rw [decide_eq_true_eq]; exact hx))
          clear hown hb hb4 hq
          go_wp2_with (first | (go_at_call 13; (with_reducible refine (HSM.out).mono ?_); rintro e w5 ⟨rfl, rfl⟩))
          have hx2 := store2 HQ4.out HB4.out (Nat.le_refl _) (.int .i64 (m : Int)) (.int .i64 (s : Int))
          generalize (w4.setCell ⟨w.heap.size, 0, none⟩ (.int .i64 (m : Int))).setCell ⟨w.heap.size, 1, none⟩ (.int .i64 (s : Int)) = X at hx2 ⊢
          obtain ⟨⟨v0, v1⟩, hbx⟩ := hx2
          exact bodyPost_ret (v := .tuple #[.agg #[(.int .i64 (m : Int)), (.int .i64 (s : Int))], .bool _, .bool true]) (by simp [results, Try.results17, go_sem, v0, v1]) rfl ⟨rfl, hbx⟩
      · refine ⟨0, 0, false, false, .inr ⟨rfl, rfl, rfl, rfl, fun m' s' u g1 g2 g3 e => ?_⟩, ?_⟩
        · obtain ⟨a1, a2, a3⟩ := his m' s' u g1 g2 g3 e
          apply hx
          rw [e, ← ht, a3, show m = m' by omega, show s = s' by omega]
        clear hR h1 h2 h3 his
        rcases h17 with rfl | rfl
        all_goals cases t
        all_goals simp at ht
        all_goals
          go_enter Try.func17, Try.ntmps17
          go_wp2_with fail
          with_reducible refine (HG0.out).mono ?_
          rintro e w1 ⟨rfl, rfl⟩
          go_wp2_with fail
          with_reducible refine (HG9.out).mono ?_
          rintro e w1 ⟨rfl, rfl⟩
          go_wp2_with fail
          with_reducible refine (HRR _).out.mono ?_
          rintro e w3 ⟨rfl, hb⟩
          obtain ⟨e0, e1⟩ := HT2.out.keeps (Keeps.of_below hb)
          have HT3 := kept (HT2.out.keeps (Keeps.of_below hb))
          have hq := HQ1.out.below hb HQ1.out.lt
          have hb3 := bel_to hb HB1.out
          have q0 := hq.cell 0
          have q1 := hq.cell 1
          have f0 := hq.frozen 0
          have f1 := hq.frozen 1
          have HQ3 := kept hq
          have HB3 := kept hb3
          have HX3 := kept (HX.out.below hb3)
          clear hb hb3 hq
          go_wp2_with fail
          with_reducible refine (HE _).out.mono ?_
          rintro e w4 ⟨A4, c4, rfl, hown, hb⟩
          obtain ⟨e0, e1⟩ := HT3.out.keeps (Keeps.of_below hb)
          have hq := HQ3.out.below hb HQ3.out.lt
          have hb4 := bel_to hb HB3.out
          have q0 := hq.cell 0
          have q1 := hq.cell 1
          have f0 := hq.frozen 0
          have f1 := hq.frozen 1
          have HQ4 := kept hq
          have HB4 := kept hb4
          have HSM := kept (same_any _ _ _ _ c4 c _ _ w4 (Rd.of_own hown) (HX3.out.below hb) false (by rw [decide_eq_false_iff_not]; exact hx))
          clear hown hb hb4 hq
          go_wp2_with (first | (go_at_call 13; (with_reducible refine (HSM.out).mono ?_); rintro e w5 ⟨rfl, rfl⟩))
          have hx2 := store2 HQ4.out HB4.out (Nat.le_refl _) (.int .i64 0) (.int .i64 0)
          generalize (w4.setCell ⟨w.heap.size, 0, none⟩ (.int .i64 0)).setCell ⟨w.heap.size, 1, none⟩ (.int .i64 0) = X at hx2 ⊢
          obtain ⟨⟨v0, v1⟩, hbx⟩ := hx2
          exact bodyPost_ret (v := .tuple #[.agg #[(.int .i64 0), (.int .i64 0)], .bool false, .bool false]) (by simp [results, Try.results17, go_sem, v0, v1]) rfl ⟨rfl, hbx⟩
    · have hR : rightR v0 v9 = false := by simpa using hR
      rw [hR] at HRR
      refine ⟨0, 0, false, false, .inr ⟨rfl, rfl, rfl, rfl, fun m' s' u g1 g2 g3 e => ?_⟩, ?_⟩
      · obtain ⟨a1, a2, a3⟩ := his m' s' u g1 g2 g3 e
        rw [a1, a2, rightR_yes g1 g2 g3] at hR
        cases hR
      clear hR his ht
      rcases h17 with rfl | rfl
      all_goals
        go_enter Try.func17, Try.ntmps17
        go_wp2_with fail
        with_reducible refine (HG0.out).mono ?_
        rintro e w1 ⟨rfl, rfl⟩
        go_wp2_with fail
        with_reducible refine (HG9.out).mono ?_
        rintro e w1 ⟨rfl, rfl⟩
        go_wp2_with fail
        with_reducible refine (HRR _).out.mono ?_
        rintro e w3 ⟨rfl, hb⟩
        obtain ⟨e0, e1⟩ := HT2.out.keeps (Keeps.of_below hb)
        have HT3 := kept (HT2.out.keeps (Keeps.of_below hb))
        have hq := HQ1.out.below hb HQ1.out.lt
        have hb3 := bel_to hb HB1.out
        have q0 := hq.cell 0
        have q1 := hq.cell 1
        have f0 := hq.frozen 0
        have f1 := hq.frozen 1
        have HQ3 := kept hq
        have HB3 := kept hb3
        have HX3 := kept (HX.out.below hb3)
        clear hb hb3 hq
        go_wp2
        have hx2 := store2 HQ3.out HB3.out (Nat.le_refl _) (.int .i64 0) (.int .i64 0)
        generalize (w3.setCell ⟨w.heap.size, 0, none⟩ (.int .i64 0)).setCell ⟨w.heap.size, 1, none⟩ (.int .i64 0) = X at hx2 ⊢
        obtain ⟨⟨v0, v1⟩, hbx⟩ := hx2
        exact bodyPost_ret (v := .tuple #[.agg #[(.int .i64 0), (.int .i64 0)], .bool false, .bool false]) (by simp [results, Try.results17, go_sem, v0, v1]) rfl ⟨rfl, hbx⟩
  · refine ⟨0, 0, false, false, .inr ⟨rfl, rfl, rfl, rfl, fun m' s' u g1 g2 g3 e => ?_⟩, ?_⟩
    · have hl := congrArg List.length e
      rw [revB_length, hxn] at hl
      cases u <;> simp [signB] at hl <;> omega
    have d1 : ((n : Int) != 17) = true := by simp; omega
    have d2 : ((n : Int) != 18) = true := by simp; omega
    have q0 := hq0.cell 0
    have q1 := hq0.cell 1
    have f0 := hq0.frozen 0
    have f1 := hq0.frozen 1
    clear hr hq0 hb0 h17
    go_enter Try.func17, Try.ntmps17
    go_wp2
    exact bodyPost_ret (v := .tuple #[.agg #[.int .i64 0, .int .i64 0], .bool false, .bool false]) (by simp [results, Try.results17, go_sem, q0, q1]) rfl ⟨rfl, HB0.out⟩
end Go.Proofs.Ytaknhbklopmojaa
