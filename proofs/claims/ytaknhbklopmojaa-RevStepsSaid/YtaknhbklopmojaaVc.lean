/-
  What rev.Decode answers: of a right revision's bytes that revision, of any other bytes ErrForm.
-/
import Derived.Test.YtaknhbklopmojaaVb
namespace Go.Proofs.Ytaknhbklopmojaa
open Go.ChangeShapes Go.WideShapes Go.ChangeAt Go.RowKit
set_option linter.unusedVariables false
set_option linter.unusedSimpArgs false

theorem get_8 (A : Option Addr) (len c at_ : Nat) (xs : List UInt8) (w : World) (hr : Rd w A len xs) (hl : len ≤ 140737488355328) (h : at_ + 8 ≤ len) :
    Calls Try.prog 32 #[.slice A len c, .int .i64 (at_ : Int), .int .i64 8] w fun e w' => e = .returned (.tuple #[.int .u64 ((num (part xs at_ 8) 0 : Nat) : Int), .int .i64 0]) ∧ w = w' := get_ok A len c at_ 8 xs w (by omega) (by omega) hr hl h
theorem get_s8 (A : Option Addr) (len c at_ : Nat) (w : World) (hl : len ≤ 140737488355328) (h : len < at_ + 8) (h9 : at_ ≤ 9) :
    Calls Try.prog 32 #[.slice A len c, .int .i64 (at_ : Int), .int .i64 8] w fun e w' => e = .returned (.tuple #[.int .u64 0, .int .i64 3]) ∧ w = w' := get_short A len c at_ 8 w (by omega) (by omega) hl (by omega) (by omega)
theorem numberAt_any (xs : List UInt8) (n k : Nat) (z : Int) (hz : (k : Int) = z) (hn : n ≤ 140737488355328) (hk : k ≤ 9) : ∃ v : Int, (∀ m : Nat, k + 8 ≤ n → m ≤ 4611686018427387904 → part xs k 8 = be m 8 → v = (m : Int)) ∧
    ∀ (A : Option Addr) (c : Nat) (w : World), Rd w A n xs → Calls Try.prog 25 #[.slice A n c, .int .i64 z] w fun e w' => e = .returned (.int .i64 v) ∧ w = w' := by
  subst hz
  by_cases h : k + 8 ≤ n
  · refine ⟨wrap64 ((num (part xs k 8) 0 : Nat) : Int), fun m _ hm e => ?_, fun A c w hr => ?_⟩
    · rw [e, num_be m 8 (by omega), IntWalk.wrap64_in _ ⟨by omega, by omega⟩]
    · have HG := kept (get_8 A n c k xs w hr hn h)
      clear hr
      go_enter Try.func25, Try.ntmps25
      go_wp2_with (first | (go_at_call 32; (with_reducible refine (HG.out).mono ?_); rintro e w1 ⟨rfl, rfl⟩))
      go_ret
      exact ⟨ret_int (by first | rfl | simp), rfl⟩
  · refine ⟨0, fun m h' => absurd h' h, fun A c w hr => ?_⟩
    have HG := kept (get_s8 A n c k w hn (by omega) hk)
    clear hr
    go_enter Try.func25, Try.ntmps25
    go_wp2_with (first | (go_at_call 32; (with_reducible refine (HG.out).mono ?_); rintro e w1 ⟨rfl, rfl⟩))
    go_ret
    exact ⟨rfl, rfl⟩
theorem store2 {B : Nat} {w W : World} {b : Nat} {t : TypeId} {x y : Value} (hq : Blk W b t [x, y]) (hb : Below B w W) (hB : B ≤ b) (u v : Value) :
    (((W.setCell ⟨b, 0, none⟩ u).setCell ⟨b, 1, none⟩ v).cell? ⟨b, 0, none⟩ = some u ∧ ((W.setCell ⟨b, 0, none⟩ u).setCell ⟨b, 1, none⟩ v).cell? ⟨b, 1, none⟩ = some v) ∧ Below B w ((W.setCell ⟨b, 0, none⟩ u).setCell ⟨b, 1, none⟩ v) := by
  have h := (hq.set_ 0 u).set_ 1 v
  exact ⟨⟨h.cell 0, h.cell 1⟩, (hb.setCell (p := ⟨b, 0, none⟩) hB u).setCell (p := ⟨b, 1, none⟩) hB v⟩
set_option maxHeartbeats 2000000 in
/-- What a Decode of no revision's bytes answers, and of a right one's. -/
theorem dec_any (A : Option Addr) (n c : Nat) (xs : List UInt8) (w : World) (hr : Rd w A n xs) (hn : n ≤ 140737488355328) :
    ∃ (M S : Int) (t : Bool) (er : Int), ((er = 0 ∧ ∃ m s : Nat, M = (m : Int) ∧ S = (s : Int) ∧ 1 ≤ m ∧ m ≤ 4611686018427387904 ∧ s ≤ 4611686018427387904 ∧ xs = revB m s (signB t)) ∨ (er = 4 ∧ M = 0 ∧ S = 0 ∧ t = false ∧ ∀ (m s : Nat) (u : Bool), 1 ≤ m → m ≤ 4611686018427387904 → s ≤ 4611686018427387904 → xs ≠ revB m s (signB u))) ∧
    Calls Try.prog 16 #[.slice A n c] w fun e w' => e = .returned (.tuple #[.agg #[.int .i64 M, .int .i64 S], .bool t, .int .i64 er]) ∧ Below w.heap.size w w' := by
  obtain ⟨v0, hv0, hc0⟩ := numberAt_any xs n 0 0 rfl hn (by omega)
  obtain ⟨v9, hv9, hc9⟩ := numberAt_any xs n 9 9 rfl hn (by omega)
  have hxn := hr.1
  -- what a right revision with these bytes would be
  have his : ∀ (m s : Nat) (u : Bool), 1 ≤ m → m ≤ 4611686018427387904 → s ≤ 4611686018427387904 → xs = revB m s (signB u) → v0 = (m : Int) ∧ v9 = (s : Int) ∧ decide (n = 18) = u := by
    intro m s u _ h2 h3 e
    have hl := congrArg List.length e
    rw [revB_length, hxn] at hl
    have hu : (signB u).length = if u then 1 else 0 := by cases u <;> rfl
    rw [hu] at hl
    refine ⟨hv0 m (by cases u <;> simp at hl <;> omega) h2 (by rw [e]; exact revB_main _ _ _), hv9 s (by cases u <;> simp at hl <;> omega) h3 (by rw [e]; exact revB_sub _ _ _), by cases u <;> simp at hl ⊢ <;> omega⟩
  have HC0 := fun A c W h => kept (hc0 A c W h)
  have HC9 := fun A c W h => kept (hc9 A c W h)
  have HX0 := kept (hr.alloc (.cells #[.int .i64 0, .int .i64 0] 23))
  have HX := kept hr
  have hq0 := Blk.new w 23 #[.int .i64 0, .int .i64 0]
  have hb0 := (Below.refl w.heap.size w).alloc (Nat.le_refl _) (.cells #[.int .i64 0, .int .i64 0] 23)
  have HQ0 := kept hq0
  have HB0 := kept hb0
  have ht2' := two_new (w.alloc (.cells #[.int .i64 0, .int .i64 0] 23)) 23 v0 v9
  rw [show (w.alloc (.cells #[.int .i64 0, .int .i64 0] 23)).heap.size = w.heap.size + 1 by simp] at ht2'
  have HT2 := kept ht2'
  have HQ1 := kept (hq0.alloc (.cells #[.int .i64 v0, .int .i64 v9] 23))
  have HB1 := kept (hb0.alloc (by simp) (.cells #[.int .i64 v0, .int .i64 v9] 23))
  have hsz1 : (w.alloc (.cells #[.int .i64 0, .int .i64 0] 23)).heap.size = w.heap.size + 1 := by simp
  clear hv0 hv9 hc0 hc9 hr hq0 hb0 ht2' hsz1
  obtain ⟨t, ht⟩ : ∃ t, decide (n = 18) = t := ⟨_, rfl⟩
  have ht2 : ((n : Int) == 18) = t := by
    rw [← ht, Bool.eq_iff_iff]
    simp
    omega
  by_cases hR : rightR v0 v9 = true
  · obtain ⟨m, s, rfl, rfl, h1, h2, h3⟩ := rightR_nat hR
    have HE := fun W => kept (enc_yes m s t W h1 h2 h3)
    by_cases hx : revB m s (signB t) = xs
    · have HCM := fun A1 c1 w (h : Rd w A1 (revN t) (revB m s (signB t))) (h' : Rd w A n xs) => kept (compare_any A1 A (revN t) n c1 c _ _ w h h')
      rw [hx, ordB_self] at HCM
      refine ⟨(m : Int), (s : Int), t, 0, .inl ⟨rfl, m, s, rfl, rfl, h1, h2, h3, hx.symm⟩, ?_⟩
      rw [hx] at HE
      clear hR h1 h2 h3 hx his ht
      go_enter Try.func16, Try.ntmps16
      go_wp2_with (first | (go_at_call 25; (with_reducible refine ((HC0 _ _ _ HX0.out).out).mono ?_); rintro e w1 ⟨rfl, rfl⟩) | (go_at_call 25; (with_reducible refine ((HC9 _ _ _ HX0.out).out).mono ?_); rintro e w1 ⟨rfl, rfl⟩))
      with_reducible refine (HE _).out.mono ?_
      rintro e w3 ⟨A3, c3, rfl, hown, hb⟩
      obtain ⟨e0, e1⟩ := HT2.out.keeps (Keeps.of_below hb)
      have hq := HQ1.out.below hb HQ1.out.lt
      have hb3 := bel_to hb HB1.out
      have q0 := hq.cell 0
      have q1 := hq.cell 1
      have f0 := hq.frozen 0
      have f1 := hq.frozen 1
      have HQ3 := kept hq
      have HB3 := kept hb3
      have HCC := kept (HCM _ c3 w3 (Rd.of_own hown) (HX.out.below hb3)).out
      clear hown hb hb3 hq
      go_wp2_with (first | (go_at_call 20; (with_reducible refine (HCC.out).mono ?_); rintro e w4 ⟨rfl, rfl⟩))
      have hx2 := store2 HQ3.out HB3.out (Nat.le_refl _) (.int .i64 (m : Int)) (.int .i64 (s : Int))
      generalize (w3.setCell ⟨w.heap.size, 0, none⟩ (.int .i64 (m : Int))).setCell ⟨w.heap.size, 1, none⟩ (.int .i64 (s : Int)) = X at hx2 ⊢
      obtain ⟨⟨v0, v1⟩, hbx⟩ := hx2
      exact bodyPost_ret (v := .tuple #[.agg #[(.int .i64 (m : Int)), (.int .i64 (s : Int))], .bool t, .int .i64 0]) (by simp [results, Try.results16, go_sem, v0, v1]) rfl ⟨rfl, hbx⟩
    · have hne : (ordB (revB m s (signB t)) xs != 0) = true := by
        rw [bne_iff_ne]; exact fun e => hx (ordB_zero e)
      have HCM := fun A1 c1 w (h : Rd w A1 (revN t) (revB m s (signB t))) (h' : Rd w A n xs) => kept (compare_any A1 A (revN t) n c1 c _ _ w h h')
      refine ⟨0, 0, false, 4, .inr ⟨rfl, rfl, rfl, rfl, fun m' s' u g1 g2 g3 e => ?_⟩, ?_⟩
      · obtain ⟨a1, a2, a3⟩ := his m' s' u g1 g2 g3 e
        apply hx
        rw [e, ← ht, a3, show m = m' by omega, show s = s' by omega]
      generalize ordB (revB m s (signB t)) xs = o at hne HCM
      clear hR h1 h2 h3 hx his ht
      go_enter Try.func16, Try.ntmps16
      go_wp2_with (first | (go_at_call 25; (with_reducible refine ((HC0 _ _ _ HX0.out).out).mono ?_); rintro e w1 ⟨rfl, rfl⟩) | (go_at_call 25; (with_reducible refine ((HC9 _ _ _ HX0.out).out).mono ?_); rintro e w1 ⟨rfl, rfl⟩))
      with_reducible refine (HE _).out.mono ?_
      rintro e w3 ⟨A3, c3, rfl, hown, hb⟩
      obtain ⟨e0, e1⟩ := HT2.out.keeps (Keeps.of_below hb)
      have hq := HQ1.out.below hb HQ1.out.lt
      have hb3 := bel_to hb HB1.out
      have q0 := hq.cell 0
      have q1 := hq.cell 1
      have f0 := hq.frozen 0
      have f1 := hq.frozen 1
      have HQ3 := kept hq
      have HB3 := kept hb3
      have HCC := kept (HCM _ c3 w3 (Rd.of_own hown) (HX.out.below hb3)).out
      clear hown hb hb3 hq
      go_wp2_with (first | (go_at_call 20; (with_reducible refine (HCC.out).mono ?_); rintro e w4 ⟨rfl, rfl⟩))
      have hx2 := store2 HQ3.out HB3.out (Nat.le_refl _) (.int .i64 0) (.int .i64 0)
      generalize (w3.setCell ⟨w.heap.size, 0, none⟩ (.int .i64 0)).setCell ⟨w.heap.size, 1, none⟩ (.int .i64 0) = X at hx2 ⊢
      obtain ⟨⟨v0, v1⟩, hbx⟩ := hx2
      exact bodyPost_ret (v := .tuple #[.agg #[(.int .i64 0), (.int .i64 0)], .bool false, .int .i64 4]) (by simp [results, Try.results16, go_sem, v0, v1]) rfl ⟨rfl, hbx⟩
  · have hR : rightR v0 v9 = false := by simpa using hR
    have HE := fun W => kept (enc_no v0 v9 t W hR)
    refine ⟨0, 0, false, 4, .inr ⟨rfl, rfl, rfl, rfl, fun m' s' u g1 g2 g3 e => ?_⟩, ?_⟩
    · obtain ⟨a1, a2, a3⟩ := his m' s' u g1 g2 g3 e
      rw [a1, a2, rightR_yes g1 g2 g3] at hR
      cases hR
    clear hR his ht
    go_enter Try.func16, Try.ntmps16
    go_wp2_with (first | (go_at_call 25; (with_reducible refine ((HC0 _ _ _ HX0.out).out).mono ?_); rintro e w1 ⟨rfl, rfl⟩) | (go_at_call 25; (with_reducible refine ((HC9 _ _ _ HX0.out).out).mono ?_); rintro e w1 ⟨rfl, rfl⟩))
    with_reducible refine (HE _).out.mono ?_
    rintro e w3 ⟨rfl, hb⟩
    obtain ⟨e0, e1⟩ := HT2.out.keeps (Keeps.of_below hb)
    have hq := HQ1.out.below hb HQ1.out.lt
    have hb3 := bel_to hb HB1.out
    have q0 := hq.cell 0
    have q1 := hq.cell 1
    have f0 := hq.frozen 0
    have f1 := hq.frozen 1
    have HQ3 := kept hq
    have HB3 := kept hb3
    clear hb hb3 hq
    go_wp2
    have hx2 := store2 HQ3.out HB3.out (Nat.le_refl _) (.int .i64 0) (.int .i64 0)
    generalize (w3.setCell ⟨w.heap.size, 0, none⟩ (.int .i64 0)).setCell ⟨w.heap.size, 1, none⟩ (.int .i64 0) = X at hx2 ⊢
    obtain ⟨⟨v0, v1⟩, hbx⟩ := hx2
    exact bodyPost_ret (v := .tuple #[.agg #[(.int .i64 0), (.int .i64 0)], .bool false, .int .i64 4]) (by simp [results, Try.results16, go_sem, v0, v1]) rfl ⟨rfl, hbx⟩
end Go.Proofs.Ytaknhbklopmojaa
