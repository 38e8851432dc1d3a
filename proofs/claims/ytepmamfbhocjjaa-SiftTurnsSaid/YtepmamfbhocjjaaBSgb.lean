/-
  Texts laid together: Sgb.
-/
import Derived.Test.YtepmamfbhocjjaaBTwn
import Derived.Test.YtepmamfbhocjjaaBGro
import Derived.Test.YtepmamfbhocjjaaBVo
section
/-
  Package sift: what two records are held against one another by; the closure that sorts.
-/

namespace Go.Proofs.Ytepmamfbhocjjaa
open Go.ChangeShapes Go.WideShapes Go.ChangeAt Go.RowKit
set_option linter.unusedVariables false
set_option linter.unusedSimpArgs false

/-- By what Sort names. -/
def ordQ (s : Int) (x y : Kv) : Int := if s = 1 then cmpI x.v y.v else if s = 2 then cmpI x.c y.c else if s = 3 then cmpI x.m y.m else if s = 4 then ordB x.val y.val else ordB x.key y.key
def ordU (s : Int) (x y : Kv) : Int := if ordQ s x y = 0 then ordB x.key y.key else ordQ s x y
/-- What the closure answers. -/
def ordS (q : Qy) (x y : Kv) : Int := if q.desc then ordU q.sort y x else ordU q.sort x y
theorem ordB_lt (a b : List UInt8) : decide (ordB a b < 0) = ahead a b := by
  unfold ordB
  cases h : ahead a b
  · cases h2 : ahead b a <;> simp
  · simp
theorem ordB_zero {a b : List UInt8} : ordB a b = 0 ↔ ahead a b = false ∧ ahead b a = false := by
  unfold ordB
  cases h : ahead a b <;> cases h2 : ahead b a <;> simp
theorem cmpI_lt (x y : Int) : decide (cmpI x y < 0) = decide (x < y) := by
  unfold cmpI
  by_cases h : x < y
  · simp [h]
  · by_cases h2 : y < x <;> simp [h, h2]
theorem cmpI_zero {x y : Int} : cmpI x y = 0 ↔ ¬ x < y ∧ ¬ y < x := by
  unfold cmpI
  by_cases h : x < y
  · simp [h]
  · by_cases h2 : y < x <;> simp [h, h2] <;> omega
/-- Sort 0 to 4, or any other (then by key, as 0). -/
theorem ordU_lt {s : Int} (h0 : 0 ≤ s) (h4 : s ≤ 4) (x y : Kv) : decide (ordU s x y < 0) = upQ s x y := by
  unfold ordU ordQ upQ byQ numQ
  have hc : s = 0 ∨ s = 1 ∨ s = 2 ∨ s = 3 ∨ s = 4 := by omega
  rcases hc with rfl | rfl | rfl | rfl | rfl
  · simp only [show ¬ (0 : Int) = 1 by omega, show ¬ (0 : Int) = 2 by omega, show ¬ (0 : Int) = 3 by omega, show ¬ (0 : Int) = 4 by omega, if_false]
    by_cases h : ordB x.key y.key = 0
    · rw [if_pos h, h]; have := (ordB_zero.1 h).1; simp [this]
    · rw [if_neg h, ordB_lt]; simp
  · simp only [show ¬ (1 : Int) = 4 by omega, if_true, if_false]
    by_cases h : cmpI x.v y.v = 0
    · rw [if_pos h, ordB_lt]; have := cmpI_zero.1 h; simp [this.1, this.2]
    · rw [if_neg h, cmpI_lt]
      by_cases h1 : x.v < y.v
      · simp [h1]
      · by_cases h2 : y.v < x.v
        · simp [h1, h2]
        · exact absurd (cmpI_zero.2 ⟨h1, h2⟩) h
  · simp only [show ¬ (2 : Int) = 1 by omega, show ¬ (2 : Int) = 4 by omega, if_true, if_false]
    by_cases h : cmpI x.c y.c = 0
    · rw [if_pos h, ordB_lt]; have := cmpI_zero.1 h; simp [this.1, this.2]
    · rw [if_neg h, cmpI_lt]
      by_cases h1 : x.c < y.c
      · simp [h1]
      · by_cases h2 : y.c < x.c
        · simp [h1, h2]
        · exact absurd (cmpI_zero.2 ⟨h1, h2⟩) h
  · simp only [show ¬ (3 : Int) = 1 by omega, show ¬ (3 : Int) = 2 by omega, show ¬ (3 : Int) = 4 by omega, if_true, if_false]
    by_cases h : cmpI x.m y.m = 0
    · rw [if_pos h, ordB_lt]; have := cmpI_zero.1 h; simp [this.1, this.2]
    · rw [if_neg h, cmpI_lt]
      by_cases h1 : x.m < y.m
      · simp [h1]
      · by_cases h2 : y.m < x.m
        · simp [h1, h2]
        · exact absurd (cmpI_zero.2 ⟨h1, h2⟩) h
  · simp only [show ¬ (4 : Int) = 1 by omega, show ¬ (4 : Int) = 2 by omega, show ¬ (4 : Int) = 3 by omega, if_true, if_false]
    by_cases h : ordB x.val y.val = 0
    · rw [if_pos h, ordB_lt]; have := ordB_zero.1 h; simp [this.1, this.2]
    · rw [if_neg h, ordB_lt]
      cases h1 : ahead x.val y.val
      · cases h2 : ahead y.val x.val
        · exact absurd (ordB_zero.2 ⟨h1, h2⟩) h
        · simp
      · simp
theorem ordS_lt {q : Qy} (h0 : 0 ≤ q.sort) (h4 : q.sort ≤ 4) (x y : Kv) : decide (ordS q x y < 0) = ltQ q x y := by
  unfold ordS ltQ
  split
  · exact ordU_lt h0 h4 y x
  · exact ordU_lt h0 h4 x y
theorem ahead_ntrans {a b c : List UInt8} (h1 : ahead a b = false) (h2 : ahead b c = false) : ahead a c = false := by
  cases h : ahead a c with
  | false => rfl
  | true =>
    rcases ahead_tri a b with h3 | h3 | h3
    · rw [h1] at h3; cases h3
    · subst h3; rw [h2] at h; cases h
    · rw [ahead_trans h3 h] at h2; cases h2
theorem upQ_ntrans {s : Int} {x y z : Kv} (h1 : upQ s x y = false) (h2 : upQ s y z = false) : upQ s x z = false := by
  unfold upQ at h1 h2 ⊢
  simp only [Bool.or_eq_false_iff, Bool.and_eq_false_iff, Bool.not_eq_false'] at h1 h2 ⊢
  obtain ⟨a1, a2⟩ := h1
  obtain ⟨b1, b2⟩ := h2
  cases hyx : byQ s y x with
  | true =>
    have hxz : byQ s x z = false := by
      cases h : byQ s x z with
      | false => rfl
      | true => rw [byQ_trans hyx h] at b1; cases b1
    refine ⟨hxz, ?_⟩
    cases hzx : byQ s z x with
    | true => exact .inl rfl
    | false =>
      have := (byQ_tie (z := y) hxz hzx).2
      rw [hyx] at this
      rw [← this] at b1; cases b1
  | false =>
    have hxz : byQ s x z = false := by rw [(byQ_tie (z := z) a1 hyx).1]; exact b1
    refine ⟨hxz, ?_⟩
    have e := (byQ_tie (z := z) a1 hyx).2
    rw [hyx] at a2
    rcases a2 with a2 | a2
    · cases a2
    · rcases b2 with b2 | b2
      · left; rw [e]; exact b2
      · right; exact ahead_ntrans a2 b2
theorem ltQ_irr (q : Qy) (x : Kv) : ltQ q x x = false := by
  unfold ltQ upQ
  simp [byQ_self, ahead_self]
theorem ltQ_ntrans {q : Qy} {x y z : Kv} (h1 : ltQ q x y = false) (h2 : ltQ q y z = false) : ltQ q x z = false := by
  unfold ltQ at h1 h2 ⊢
  split at h1
  · next e => simp only [e, if_true] at h2 ⊢; exact upQ_ntrans h2 h1
  · next e => simp only [e] at h2 ⊢; exact upQ_ntrans h1 h2

set_option maxRecDepth 100000 in
theorem bytesCompare_any (A B : Option Addr) (n m c d : Nat) (xs ys : List UInt8) (w : World) (h1 : Rd w A n xs) (h2 : Rd w B m ys) :
    Calls Try.prog 24 #[.slice A n c, .slice B m d] w fun e w' => e = .returned (.int .i64 (ordB xs ys)) ∧ w = w' := by
  have hc := kept (run_compare8 (P := Try.prog) h1 h2 c d)
  clear h1 h2
  generalize ordB xs ys = o at hc
  go_enter Try.func24, Try.ntmps24
  go_wp2
  rw [run_callFunc_extern Try.func28 (by kernel_rfl) (by kernel_rfl) (by kernel_rfl) (e := Extern.BytealgCompare.compare) (by kernel_rfl), hc.out]
  simp only [Result.andThen]
  rw [Oper.upon_value]
  go_wp2
  go_ret
  exact ⟨rfl, rfl⟩
set_option maxHeartbeats 1000000 in
set_option maxRecDepth 100000 in
theorem compareQ_any (s : Int) (M N : LayV) (x y : Kv) (w : World) (h : RdV w M x) (g : RdV w N y) :
    Calls Try.prog 23 #[.int .i64 s, vkv M x, vkv N y] w fun e w' => e = .returned (.int .i64 (ordQ s x y)) ∧ Gro w w' := by
  have hx := Six.new w M x
  have hy := Six.new (boxV w M x) N y
  rw [boxV_size] at hy
  have hx2 := hx.below_ (boxV_below (boxV w M x) N y) (by rw [boxV_size]; omega)
  have hb0 : Gro w (boxV (boxV w M x) N y) := ((Gro.refl w).alloc _).alloc _
  obtain ⟨v1, v2, v3, v4, v5, v6⟩ := hx2.cells
  obtain ⟨u1, u2, u3, u4, u5, u6⟩ := hy.cells
  have HB0 := kept hb0
  have CK := fun W h g => kept (bytesCompare_any M.ka N.ka M.kn N.kn M.kc N.kc x.key y.key W h g)
  have CV := fun W h g => kept (bytesCompare_any M.va N.va M.vn N.vn M.vc N.vc x.val y.val W h g)
  have HR := kept (And.intro (h.below hb0.below) (g.below hb0.below))
  have C1 := fun W => kept (cmp_i x.v y.v W)
  have C2 := fun W => kept (cmp_i x.c y.c W)
  have C3 := fun W => kept (cmp_i x.m y.m W)
  have HRk := kept (And.intro HR.out.1.key HR.out.2.key)
  have HRv := kept (And.intro HR.out.1.val HR.out.2.val)
  clear hx hy hx2 hb0 h g HR
  have HE : Hid (ordQ s x y = if s = 1 then cmpI x.v y.v else if s = 2 then cmpI x.c y.c else if s = 3 then cmpI x.m y.m else if s = 4 then ordB x.val y.val else ordB x.key y.key) := rfl
  generalize ordQ s x y = o at HE
  generalize cmpI x.v y.v = c1 at HE C1
  generalize cmpI x.c y.c = c2 at HE C2
  generalize cmpI x.m y.m = c3 at HE C3
  generalize ordB x.val y.val = c4 at HE CV
  generalize ordB x.key y.key = c5 at HE CK
  obtain ⟨ka, kn, kc, va, vn, vc⟩ := M
  obtain ⟨xk, xv, c, m, v, l⟩ := x
  obtain ⟨ka', kn', kc', va', vn', vc'⟩ := N
  obtain ⟨yk, yv, yc, ym, yl, yv'⟩ := y
  unfold boxV at *
  dsimp only at *
  by_cases z1 : s = 1
  · subst z1
    clear CK CV C2 C3
    go_enter Try.func23, Try.ntmps23
    go_wp2_with (first | (go_at_call 27; (with_reducible refine ((C1 _).out).mono ?_); rintro e w1 ⟨rfl, rfl⟩))
    go_ret
    exact ⟨ret_int (by rw [HE.out]; simp), HB0.out⟩
  · have y1 : (s == 1) = false := by simp [z1]
    by_cases z2 : s = 2
    · subst z2
      clear CK CV C1 C3 z1 y1
      go_enter Try.func23, Try.ntmps23
      go_wp2_with (first | (go_at_call 27; (with_reducible refine ((C2 _).out).mono ?_); rintro e w1 ⟨rfl, rfl⟩))
      go_ret
      exact ⟨ret_int (by rw [HE.out]; simp), HB0.out⟩
    · have y2 : (s == 2) = false := by simp [z2]
      by_cases z3 : s = 3
      · subst z3
        clear CK CV C1 C2 z1 y1 z2 y2
        go_enter Try.func23, Try.ntmps23
        go_wp2_with (first | (go_at_call 27; (with_reducible refine ((C3 _).out).mono ?_); rintro e w1 ⟨rfl, rfl⟩))
        go_ret
        exact ⟨ret_int (by rw [HE.out]; simp), HB0.out⟩
      · have y3 : (s == 3) = false := by simp [z3]
        by_cases z4 : s = 4
        · subst z4
          clear CK C1 C2 C3 z1 y1 z2 y2 z3 y3
          go_enter Try.func23, Try.ntmps23
          go_wp2_with (first | (go_at_call 24; (with_reducible refine ((CV _ HRv.out.1 HRv.out.2).out).mono ?_); rintro e w1 ⟨rfl, rfl⟩))
          go_ret
          exact ⟨ret_int (by rw [HE.out]; simp), HB0.out⟩
        · have y4 : (s == 4) = false := by simp [z4]
          clear CV C1 C2 C3
          have HZ : Hid (o = c5) := by show _ = _; rw [HE.out, if_neg z1, if_neg z2, if_neg z3, if_neg z4]
          clear z1 z2 z3 z4 HE
          go_enter Try.func23, Try.ntmps23
          go_wp2_with (first | (go_at_call 24; (with_reducible refine ((CK _ HRk.out.1 HRk.out.2).out).mono ?_); rintro e w1 ⟨rfl, rfl⟩))
          go_ret
          exact ⟨ret_int (HZ.out.symm), HB0.out⟩
end Go.Proofs.Ytepmamfbhocjjaa
end
