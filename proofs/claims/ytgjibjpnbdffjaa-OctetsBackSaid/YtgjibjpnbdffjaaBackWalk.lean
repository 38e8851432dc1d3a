/-
  The law OctetsBack walked: for all numbers, sizes and rows of bytes it returns true and writes nothing that was there.
-/
import Derived.Test.YtgjibjpnbdffjaaGet
import Derived.Test.YtgjibjpnbdffjaaCmp
namespace Go.Proofs.Ytgjibjpnbdffjaa.octetsBack
open Go.ChangeShapes Go.WideShapes Go.ChangeAt Go.RowKit
set_option linter.unusedVariables false

theorem ahead_be (n m s : Nat) : ahead (be n s) (be m s) = decide (n % 256 ^ s < m % 256 ^ s) := by
  induction s with
  | zero => simp [be, ahead, Nat.mod_one]
  | succ s ih =>
    rw [be_cons, be_cons]
    unfold ahead
    rw [ih, Nat.mod_pow_succ, Nat.mod_pow_succ]
    have hX : 0 < 256 ^ s := Nat.pow_pos (by omega)
    have h1 := Nat.mod_lt n hX
    have h2 := Nat.mod_lt m hX
    have e1 : UInt8.ofNat (n / 256 ^ s) = UInt8.ofNat (m / 256 ^ s) ↔ n / 256 ^ s % 256 = m / 256 ^ s % 256 := by
      rw [← UInt8.toNat_inj]; simp
    have e2 : UInt8.ofNat (n / 256 ^ s) < UInt8.ofNat (m / 256 ^ s) ↔ n / 256 ^ s % 256 < m / 256 ^ s % 256 := by
      rw [UInt8.lt_iff_toNat_lt]; simp
    generalize n / 256 ^ s % 256 = p at e1 e2 ⊢
    generalize m / 256 ^ s % 256 = q at e1 e2 ⊢
    generalize n % 256 ^ s = x at h1 ⊢
    generalize m % 256 ^ s = y at h2 ⊢
    generalize 256 ^ s = X at e1 e2 h1 h2 ⊢
    by_cases h : p = q
    · rw [if_pos (e1.2 h), h]
      congr 1
      simp
    · rw [if_neg (fun e => h (e1.1 e))]
      congr 1
      rw [eq_iff_iff, e2]
      constructor
      · intro hl
        have := Nat.mul_le_mul_left X (show p + 1 ≤ q by omega)
        rw [Nat.mul_succ] at this
        omega
      · intro hl
        rcases Nat.lt_or_gt_of_ne h with h' | h'
        · exact h'
        · have := Nat.mul_le_mul_left X (show q + 1 ≤ p by omega)
          rw [Nat.mul_succ] at this
          omega
theorem ord_be {n m s : Nat} (hn : n < 256 ^ s) (hm : m < 256 ^ s) : ordB (be n s) (be m s) = if n < m then -1 else if m < n then 1 else 0 := by
  unfold ordB
  rw [ahead_be, ahead_be, Nat.mod_eq_of_lt hn, Nat.mod_eq_of_lt hm]
  by_cases h : n < m
  · simp [h]
  · by_cases h' : m < n <;> simp [h, h']
theorem part_mid (a b c : List UInt8) {n s : Nat} (hn : a.length = n) (hs : b.length = s) : part (a ++ b ++ c) n s = b := by
  subst hn; subst hs
  unfold part
  rw [List.append_assoc, List.drop_left, List.take_left]

theorem size_of (a : Int) : ∃ s : Nat, 1 ≤ s ∧ s ≤ 8 ∧ wrap64 (1 + wrap64 ((IntKind.u64.wrap a).tmod 8)) = (s : Int) := by
  rw [IntKind.wrap_u64]
  have h1 : 0 ≤ a % 18446744073709551616 := by omega
  have e : (a % 18446744073709551616).tmod 8 = a % 18446744073709551616 % 8 := Int.tmod_eq_emod_of_nonneg h1
  rw [e]
  have hr : 0 ≤ a % 18446744073709551616 % 8 ∧ a % 18446744073709551616 % 8 ≤ 7 := by omega
  generalize a % 18446744073709551616 % 8 = r at hr ⊢
  refine ⟨(1 + r).toNat, by omega, by omega, ?_⟩
  rw [IntWalk.wrap64_in r ⟨by omega, by omega⟩, IntWalk.wrap64_in (1 + r) ⟨by omega, by omega⟩]
  omega

theorem back_get (p n s m : Nat) (A : Option Addr) (c : Nat) (xs ys : List UInt8) (w : World) (h1 : 1 ≤ s) (h2 : s ≤ 8) (hn : n ≤ 1000) (hm : m ≤ 1000) (hx : xs.length = n) (hp : num (be p s) 0 = p) (hr : Rd w A (n + s + m) (xs ++ be p s ++ ys)) :
    Calls Try.prog 17 #[.slice A (n + s + m) c, .int .i64 (n : Int), .int .i64 (s : Int)] w fun e w' => e = .returned (.tuple #[.int .u64 (p : Int), .int .i64 0]) ∧ w = w' := by
  have := get_ok A (n + s + m) c n s (xs ++ be p s ++ ys) w h1 h2 hr (by omega) (by omega)
  rw [part_mid xs (be p s) ys hx (be_length _ _), hp] at this
  exact this

theorem walk (w : World) (a0 : Int) (w0 : (Lit.int .u64 a0).wf = true) (a1 : Int) (w1 : (Lit.int .u64 a1).wf = true) (a2 : Int) (w2 : (Lit.int .i64 a2).wf = true)
    (A : Option Addr) (n c : Nat) (xs : List UInt8) (hr : Rd w A n xs) (hnc : n ≤ c) (hl : n ≤ 140737488351232)
    (B : Option Addr) (m d : Nat) (ys : List UInt8) (hs : Rd w B m ys) (hmd : m ≤ d) (hk : m ≤ 140737488351232) :
    Calls Try.prog 5 #[.int .u64 a0, .int .u64 a1, .int .i64 a2, .slice A n c, .slice B m d] w fun e w' => e = .returned (.bool true) ∧ Below w.heap.size w w' := by
  have hr0 : 0 ≤ a0 ∧ a0 ≤ 18446744073709551615 := by simpa [Lit.wf, IntKind.min, IntKind.max, IntKind.signed, IntKind.bits] using w0
  have hr1 : 0 ≤ a1 ∧ a1 ≤ 18446744073709551615 := by simpa [Lit.wf, IntKind.min, IntKind.max, IntKind.signed, IntKind.bits] using w1
  have hr2 : -9223372036854775808 ≤ a2 ∧ a2 ≤ 9223372036854775807 := by simpa [Lit.wf, IntKind.min, IntKind.max, IntKind.signed, IntKind.bits] using w2
  have HA := kept hr
  have HB := kept hs
  clear w0 w1 w2 hr hs
  obtain ⟨p, rfl⟩ := Int.eq_ofNat_of_zero_le hr0.1
  obtain ⟨q, rfl⟩ := Int.eq_ofNat_of_zero_le hr1.1
  by_cases hbig : 1000 < n ∨ 1000 < m
  · by_cases h1 : 1000 < n
    · clear hbig
      go_enter Try.func5, Try.ntmps5
      go_wp2
      go_ret
      exact ⟨rfl, Below.refl _ _⟩
    · have h2 : decide ((1000 : Int) < (m : Int)) = true := by simp; omega
      clear hbig
      go_enter Try.func5, Try.ntmps5
      go_wp2
      go_ret
      exact ⟨rfl, Below.refl _ _⟩
  · have h1 : n ≤ 1000 := by omega
    have h2 : decide ((1000 : Int) < (m : Int)) = false := by simp; omega
    have h3 : m ≤ 1000 := by omega
    obtain ⟨s, hs1, hs8, hs⟩ := size_of a2
    have hp64 : p < 18446744073709551616 := by omega
    have hq64 : q < 18446744073709551616 := by omega
    have hsm : ∀ r : Nat, r < 18446744073709551616 → 256 ^ s ≤ r → s < 8 := fun r hr hge => by
      rcases Nat.lt_or_ge s 8 with h | h
      · exact h
      · have : s = 8 := by omega
        subst this
        omega
    clear hbig hr2 hr0 hr1
    by_cases hp : p < 256 ^ s
    · by_cases hq : q < 256 ^ s
      · have HP := kept hp
        have HQ := kept hq
        have HN := kept (num_be p s hp)
        have ho := ord_be hp hq
        have HORD : Hid ((ordB (be p s) (be q s) = -1 ∧ p < q) ∨ (ordB (be p s) (be q s) = 0 ∧ p = q) ∨ (ordB (be p s) (be q s) = 1 ∧ q < p)) := by
          rw [ho]
          rcases Nat.lt_trichotomy p q with h | h | h
          · exact .inl ⟨by simp [h], h⟩
          · exact .inr (.inl ⟨by simp [h], h⟩)
          · exact .inr (.inr ⟨by rw [if_neg (by omega), if_pos h], h⟩)
        clear hsm hp hq ho
        generalize hpq : ordB (be p s) (be q s) = o at HORD
        have HPQ := kept hpq
        clear hpq
        have HC1 : ∀ W, Hid _ := fun W => kept (put_ok p s W hs1 hs8 HP.out)
        have HC2 : ∀ W, Hid _ := fun W => kept (put_ok q s W hs1 hs8 HQ.out)
        go_enter Try.func5, Try.ntmps5
        go_wp2_with fail
        with_reducible refine (HC1 _).out.mono ?_
        rintro e w1 ⟨A1, c1, rfl, hown1, hb1⟩
        have HO1 := kept hown1
        have HB1 := kept hb1
        clear hown1 hb1 hs
        go_wp2_with fail
        with_reducible refine (HC2 _).out.mono ?_
        rintro e w2 ⟨A2, c2, rfl, hown2, hb2⟩
        have HO2 := kept hown2
        have HB2 := kept hb2
        clear hown2 hb2
        have HX2 := kept ((HA.out.below HB1.out).below HB2.out)
        have HY2 := kept ((HB.out.below HB1.out).below HB2.out)
        have HP2 := kept ((Rd.of_own HO1.out).below HB2.out)
        have HQ2 := kept (Rd.of_own HO2.out)
        go_wp2_with (first | (go_at_call 16; (with_reducible refine (twin_any _ _ _ xs _ HX2.out (by omega)).mono ?_); rintro e w3 ⟨A3, c3, rfl, hown3, hb3⟩; have HO3 := kept hown3; have HB3 := kept hb3; clear hown3 hb3) | (at_builtin; refine wpList_append_rd rfl (.tmp 47) (.tmp 48) 23 rfl w2.heap.size 5 rfl rfl Try.underlying23 u8info HO3.out (HP2.out.below HB3.out) (by omega) HB3.out.size ?_; intro A4 c4 w4 hown4 hb4; have HO4 := kept hown4; have HB4 := kept (HB3.out.trans hb4); clear hown4 hb4) | (at_builtin; refine wpList_append_rd rfl (.tmp 49) (.tmp 50) 23 rfl w2.heap.size 5 rfl rfl Try.underlying23 u8info HO4.out (HY2.out.below HB4.out) (by omega) HB4.out.size ?_; intro A5 c5 w5 hown5 hb5; have HO5 := kept hown5; have HB5 := kept (HB4.out.trans hb5); clear hown5 hb5))
        have HG := kept (back_get p n s m A5 c5 xs ys w5 hs1 hs8 (by omega) (by omega) HX2.out.1 HN.out (Rd.of_own HO5.out))
        with_reducible refine HG.out.mono ?_
        rintro e w' ⟨rfl, rfl⟩
        have HCm := kept (compare_any A1 A2 s s c1 c2 (be p s) (be q s) w5 (HP2.out.below HB5.out) (HQ2.out.below HB5.out))
        rw [HPQ.out] at HCm
        have HBB := kept (HB1.out.trans ((HB2.out.trans (HB5.out.mono HB2.out.size)).mono HB1.out.size))
        clear HPQ
        rcases HORD.out with ⟨e1, e2⟩ | ⟨e1, e2⟩ | ⟨e1, e2⟩
        all_goals
          clear HORD
          subst e1
          go_wp2_with (first | (go_at_call 19; (with_reducible refine (HCm.out).mono ?_); rintro e w' ⟨rfl, rfl⟩))
          go_ret
          exact ⟨ret_bool (by first | rfl | (simp; done) | (simp; omega)), HBB.out⟩
      · have HP := kept hp
        have hs7 := hsm q hq64 (by omega)
        have HQ := kept (show 256 ^ s ≤ q by omega)
        have HN := kept (num_be p s hp)
        clear hsm hp hq
        have HC1 : ∀ W, Hid _ := fun W => kept (put_ok p s W hs1 hs8 HP.out)
        have HC2 : ∀ W, Hid _ := fun W => kept (put_range q s W hs1 hs8 HQ.out)
        go_enter Try.func5, Try.ntmps5
        go_wp2_with fail
        with_reducible refine (HC1 _).out.mono ?_
        rintro e w2 ⟨A1, c1, rfl, hown1, hb1⟩
        have HO1 := kept hown1
        have HB1 := kept hb1
        clear hown1 hb1 hs
        go_wp2_with fail
        with_reducible refine (HC2 _).out.mono ?_
        rintro e w' ⟨rfl, rfl⟩
        have HX2 := kept (HA.out.below HB1.out)
        have HY2 := kept (HB.out.below HB1.out)
        have HP2 := kept (Rd.of_own HO1.out)
        go_wp2_with (first | (go_at_call 16; (with_reducible refine (twin_any _ _ _ xs _ HX2.out (by omega)).mono ?_); rintro e w3 ⟨A3, c3, rfl, hown3, hb3⟩; have HO3 := kept hown3; have HB3 := kept hb3; clear hown3 hb3) | (at_builtin; refine wpList_append_rd rfl (.tmp 47) (.tmp 48) 23 rfl w2.heap.size 5 rfl rfl Try.underlying23 u8info HO3.out (HP2.out.below HB3.out) (by omega) HB3.out.size ?_; intro A4 c4 w4 hown4 hb4; have HO4 := kept hown4; have HB4 := kept (HB3.out.trans hb4); clear hown4 hb4) | (at_builtin; refine wpList_append_rd rfl (.tmp 49) (.tmp 50) 23 rfl w2.heap.size 5 rfl rfl Try.underlying23 u8info HO4.out (HY2.out.below HB4.out) (by omega) HB4.out.size ?_; intro A5 c5 w5 hown5 hb5; have HO5 := kept hown5; have HB5 := kept (HB4.out.trans hb5); clear hown5 hb5))
        have HG := kept (back_get p n s m A5 c5 xs ys w5 hs1 hs8 (by omega) (by omega) HX2.out.1 HN.out (Rd.of_own HO5.out))
        with_reducible refine HG.out.mono ?_
        rintro e w' ⟨rfl, rfl⟩
        go_wp2
        go_ret
        exact ⟨ret_bool (by simp; omega), HB1.out.trans (HB5.out.mono HB1.out.size)⟩
    · have HP := kept (show 256 ^ s ≤ p by omega)
      have hs7 := hsm p hp64 (by omega)
      have hs7' : decide ((s : Int) < 8) = true := by simp; omega
      have HC1 : ∀ W, Hid _ := fun W => kept (put_range p s W hs1 hs8 HP.out)
      by_cases hq : q < 256 ^ s
      · have HQ := kept hq
        clear hsm hp hq
        have HC2 : ∀ W, Hid _ := fun W => kept (put_ok q s W hs1 hs8 HQ.out)
        go_enter Try.func5, Try.ntmps5
        go_wp2_with fail
        with_reducible refine (HC1 _).out.mono ?_
        rintro e w' ⟨rfl, rfl⟩
        clear hs
        go_wp2_with fail
        with_reducible refine (HC2 _).out.mono ?_
        rintro e w2 ⟨A1, c1, rfl, hown1, hb1⟩
        have HB1 := kept hb1
        clear hown1 hb1
        go_wp2
        go_ret
        exact ⟨rfl, HB1.out⟩
      · have HQ := kept (show 256 ^ s ≤ q by omega)
        clear hsm hp hq
        have HC2 : ∀ W, Hid _ := fun W => kept (put_range q s W hs1 hs8 HQ.out)
        go_enter Try.func5, Try.ntmps5
        go_wp2_with fail
        with_reducible refine (HC1 _).out.mono ?_
        rintro e w' ⟨rfl, rfl⟩
        clear hs
        go_wp2_with fail
        with_reducible refine (HC2 _).out.mono ?_
        rintro e w' ⟨rfl, rfl⟩
        go_wp2
        go_ret
        exact ⟨rfl, Below.refl _ _⟩
end Go.Proofs.Ytgjibjpnbdffjaa.octetsBack
