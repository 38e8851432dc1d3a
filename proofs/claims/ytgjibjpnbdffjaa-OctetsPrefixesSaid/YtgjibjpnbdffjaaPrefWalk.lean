/-
  The law OctetsPrefixes walked: for every key and prefix it returns true and writes nothing that was there.
-/
import Derived.Test.YtgjibjpnbdffjaaEnd
namespace Go.Proofs.Ytgjibjpnbdffjaa.octetsPrefixes
open Go.ChangeShapes Go.WideShapes Go.ChangeAt Go.RowKit
set_option linter.unusedVariables false

theorem ahead_full : ∀ (k p : List UInt8), (∀ x ∈ p, x = 255) → (!ahead k p) = decide (common k p = p.length)
  | [], [], _ => by simp [ahead, common]
  | _ :: _, [], _ => by simp [ahead, common]
  | [], _ :: _, _ => by simp [ahead, common]
  | z :: k, x :: p, h => by
    have hx : x = 255 := h x (by simp)
    have ih := ahead_full k p (fun y hy => h y (by simp [hy]))
    unfold ahead common
    by_cases e : z = x
    · rw [if_pos e, if_pos e, ih]
      simp
    · rw [if_neg e, if_neg e]
      have hz : z < x := by
        subst hx
        rw [UInt8.lt_iff_toNat_lt]
        have h1 : z.toNat ≠ (255 : UInt8).toNat := fun e' => e (UInt8.toNat_inj.1 e')
        have h2 := z.toNat_lt
        have h3 : (255 : UInt8).toNat = 255 := rfl
        omega
      simp [hz]
theorem succ_nat {x : UInt8} (hx : x ≠ 255) : (x + 1).toNat = x.toNat + 1 := by
  have h1 : x.toNat ≠ 255 := fun e => hx (UInt8.toNat_inj.1 e)
  have h2 := x.toNat_lt
  rw [UInt8.toNat_add]
  simp
  omega
theorem ahead_found (x : UInt8) (t : Nat) (hx : x ≠ 255) : ∀ (k q : List UInt8), (!ahead k (q ++ x :: List.replicate t 255) && ahead k (q ++ [x + 1])) = decide (common k (q ++ x :: List.replicate t 255) = (q ++ x :: List.replicate t 255).length)
  | [], [] => by simp [ahead, common]
  | [], _ :: _ => by simp [ahead, common]
  | z :: k, [] => by
    have hf := ahead_full k (List.replicate t 255) (fun y hy => List.eq_of_mem_replicate hy)
    have hs := succ_nat hx
    have hn : x ≠ x + 1 := fun e => by have := congrArg UInt8.toNat e; omega
    simp only [List.nil_append]
    unfold ahead common
    by_cases e : z = x
    · subst e
      rw [if_pos rfl, if_pos rfl, if_neg hn, hf]
      have hlt : z < z + 1 := by rw [UInt8.lt_iff_toNat_lt]; omega
      simp [hlt]
    · rw [if_neg e, if_neg e]
      have h1 : z.toNat ≠ x.toNat := fun e' => e (UInt8.toNat_inj.1 e')
      by_cases e2 : z = x + 1
      · rw [if_pos e2]
        simp [ahead]
      · have h2 : z.toNat ≠ (x + 1).toNat := fun e' => e2 (UInt8.toNat_inj.1 e')
        rw [if_neg e2]
        simp only [UInt8.lt_iff_toNat_lt]
        by_cases h3 : z.toNat < x.toNat
        · simp [h3]
        · have h4 : ¬ z.toNat < (x + 1).toNat := by omega
          rw [decide_eq_false h4]
          simp
  | z :: k, y :: q => by
    have ih := ahead_found x t hx k q
    simp only [List.cons_append]
    unfold ahead common
    by_cases e : z = y
    · simp only [e, if_true, ih]
      simp
    · simp only [e, if_false]
      cases decide (z < y) <;> simp
/-- What End answers of a prefix, and whose keys are in its range. -/
theorem end_range (n : Nat) (ys : List UInt8) (hy : ys.length = n) (hl : n ≤ 140737488355327) :
    ∃ (k : Nat) (es : List UInt8), k ≤ n + 1 ∧ (∀ xs, inB xs ys es = decide (common xs ys = n)) ∧
      (∀ (A : Option Addr) (c : Nat) (w : World), n ≤ c → Rd w A n ys → Calls Try.prog 22 #[.slice A n c] w fun e w' => ∃ A' c', e = .returned (.slice A' k c') ∧ w'.ownsRow w.heap.size 5 1 (.slice A' k c') k (cellsOf es) ∧ Below w.heap.size w w') := by
  rcases tail_cases ys with h | ⟨p, x, t, rfl, hx⟩
  · refine ⟨1, [0], by omega, fun xs => ?_, fun A c w _ hr => end_full A n c ys w hr (by omega) h⟩
    rw [← hy, ← ahead_full xs ys h]
    unfold inB
    cases ahead xs ys <;> simp
  · refine ⟨p.length + 1, by exact p ++ [x + 1], by simp at hy; omega, fun xs => ?_, fun A c w hc hr => end_found A n c p x t w hr (by omega) hc hx⟩
    rw [← hy, ← ahead_found x t hx xs p]
    have h0 : p ++ [x + 1] ≠ [] := by simp
    have h1 : p ++ [x + 1] ≠ [0] := by
      intro e
      cases p with
      | nil =>
        have h2 : x + 1 = 0 := by simpa using e
        have h3 := succ_nat hx
        rw [h2] at h3
        have : (0 : UInt8).toNat = 0 := rfl
        omega
      | cons a r => simp at e
    unfold inB
    rw [if_neg h0]
    cases ahead xs (p ++ x :: List.replicate t 255) <;> simp [h1]

theorem walk (w : World) (A : Option Addr) (n c : Nat) (xs : List UInt8) (h1 : Rd w A n xs) (hnc : n ≤ c) (hn : n ≤ 140737488351232)
    (B : Option Addr) (m d : Nat) (ys : List UInt8) (h2 : Rd w B m ys) (hmd : m ≤ d) (hm : m ≤ 140737488351232) :
    Calls Try.prog 8 #[.slice A n c, .slice B m d] w fun e w' => e = .returned (.bool true) ∧ Below w.heap.size w w' := by
  obtain ⟨k, es, hk1, hin, he⟩ := end_range m ys h2.1 (by omega)
  have HE := kept (he B d w hmd h2)
  have HX := kept h1
  have HY := kept h2
  have hcl := common_le xs ys
  have hx := h1.1
  have hy := h2.1
  have hin1 := hin xs
  have HIN := fun (W : World) (h1 : Rd W A n xs) (h2 : Rd W B m ys) (C : Option Addr) (f : Nat) (h3 : Rd W C k es) => kept (in_any A B C n m k c d f xs ys es W h1 h2 h3 (by omega) (by omega) (by omega))
  rw [hin1] at HIN
  have HPP := fun (W : World) (h2 : Rd W B m ys) => kept (in_any B B none m m 0 d d 0 ys ys [] W h2 h2 (Rd.nil_ _ _) (by omega) (by omega) (by omega))
  have hpp : inB ys ys [] = true := by simp [inB]
  rw [hpp] at HPP
  have HCM := fun (W : World) (h1 : Rd W A n xs) (h2 : Rd W B m ys) => kept (common_any A B n m c d xs ys W h1 h2 (by omega) (by omega))
  clear h1 h2 he hin hin1 hpp
  by_cases hm0 : m = 0
  · subst hm0
    have hd : decide (common xs ys = 0) = true := by simp; omega
    rw [hd] at HIN
    clear hd hx hy hcl
    go_enter Try.func8, Try.ntmps8
    go_wp2_with (first | (go_at_call 22; (with_reducible refine (HE.out).mono ?_); rintro e w1 ⟨A1, c1, rfl, hown1, hb1⟩; have HO1 := kept (Rd.of_own hown1); have HB1 := kept hb1; clear hown1 hb1) | (go_at_call 24; (with_reducible refine ((HIN _ (HX.out.below HB1.out) (HY.out.below HB1.out) _ _ HO1.out).out).mono ?_); rintro e w' ⟨rfl, rfl⟩))
    go_ret
    exact ⟨rfl, HB1.out⟩
  · have hb0 : ((m : Int) == 0) = false := by simp; omega
    generalize hcm : common xs ys = q at hcl HIN HCM
    have hcase : (q = m ∧ m ≤ n) ∨ (q ≠ m ∧ m ≤ n) ∨ (q ≠ m ∧ n < m) := by omega
    clear hcm hx hy hcl hm0
    rcases hcase with ⟨rfl, h3⟩ | ⟨h2, h3⟩ | ⟨h2, h3⟩
    · have hd : decide (q = q) = true := by simp
      rw [hd] at HIN
      have h4 : decide (q ≤ n) = true := by simp; omega
      clear hd
      go_enter Try.func8, Try.ntmps8
      go_wp2_with (first | (go_at_call 22; (with_reducible refine (HE.out).mono ?_); rintro e w1 ⟨A1, c1, rfl, hown1, hb1⟩; have HO1 := kept (Rd.of_own hown1); have HB1 := kept hb1; clear hown1 hb1) | (go_at_call 24; (with_reducible refine ((HIN _ (HX.out.below HB1.out) (HY.out.below HB1.out) _ _ HO1.out).out).mono ?_); rintro e w' ⟨rfl, rfl⟩) | (go_at_call 20; (with_reducible refine ((HCM _ (HX.out.below HB1.out) (HY.out.below HB1.out)).out).mono ?_); rintro e w2 ⟨rfl, HW2⟩; have HB2 : Hid (Below w.heap.size w w2) := (by obtain ⟨r, hr⟩ := HW2.out; rw [hr]; exact drewN_below HB1.out r)) | (go_at_call 24; (with_reducible refine ((HPP _ (HY.out.below HB2.out)).out).mono ?_); rintro e w' ⟨rfl, rfl⟩))
      go_ret
      exact ⟨rfl, HB2.out⟩
    · have hd : decide (q = m) = false := by simp [h2]
      rw [hd] at HIN
      have h4 : decide (m ≤ n) = true := by simp; omega
      have h5 : ((q : Int) == (m : Int)) = false := by simp; omega
      clear hd h2
      go_enter Try.func8, Try.ntmps8
      go_wp2_with (first | (go_at_call 22; (with_reducible refine (HE.out).mono ?_); rintro e w1 ⟨A1, c1, rfl, hown1, hb1⟩; have HO1 := kept (Rd.of_own hown1); have HB1 := kept hb1; clear hown1 hb1) | (go_at_call 24; (with_reducible refine ((HIN _ (HX.out.below HB1.out) (HY.out.below HB1.out) _ _ HO1.out).out).mono ?_); rintro e w' ⟨rfl, rfl⟩) | (go_at_call 20; (with_reducible refine ((HCM _ (HX.out.below HB1.out) (HY.out.below HB1.out)).out).mono ?_); rintro e w2 ⟨rfl, HW2⟩; have HB2 : Hid (Below w.heap.size w w2) := (by obtain ⟨r, hr⟩ := HW2.out; rw [hr]; exact drewN_below HB1.out r)) | (go_at_call 24; (with_reducible refine ((HPP _ (HY.out.below HB2.out)).out).mono ?_); rintro e w' ⟨rfl, rfl⟩))
      go_ret
      exact ⟨rfl, HB2.out⟩
    · have hd : decide (q = m) = false := by simp [h2]
      rw [hd] at HIN
      have h4 : decide (m ≤ n) = false := by simp; omega
      clear hd h2
      go_enter Try.func8, Try.ntmps8
      go_wp2_with (first | (go_at_call 22; (with_reducible refine (HE.out).mono ?_); rintro e w1 ⟨A1, c1, rfl, hown1, hb1⟩; have HO1 := kept (Rd.of_own hown1); have HB1 := kept hb1; clear hown1 hb1) | (go_at_call 24; (with_reducible refine ((HIN _ (HX.out.below HB1.out) (HY.out.below HB1.out) _ _ HO1.out).out).mono ?_); rintro e w' ⟨rfl, rfl⟩) | (go_at_call 24; (with_reducible refine ((HPP _ (HY.out.below HB1.out)).out).mono ?_); rintro e w' ⟨rfl, rfl⟩))
      go_ret
      exact ⟨rfl, HB1.out⟩
end Go.Proofs.Ytgjibjpnbdffjaa.octetsPrefixes
