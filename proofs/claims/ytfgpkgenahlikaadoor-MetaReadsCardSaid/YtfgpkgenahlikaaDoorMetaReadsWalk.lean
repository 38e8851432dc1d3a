/-
  The walk of the law MetaReads.
-/
import Derived.Test.YtfgpkgenahlikaaDoorMv
import Derived.Test.YtfgpkgenahlikaaDoorHnd
namespace Go.Proofs.YtfgpkgenahlikaaDoor.metaReads
open Go.ChangeShapes Go.WideShapes Go.ChangeAt Go.RowKit
set_option linter.unusedVariables false
set_option linter.unusedSimpArgs false

/-- A world in which a slice reads so and what was there stands. -/
def Here (W w : World) (A : Option Addr) (n c : Nat) (xs : List UInt8) : Prop := Rd w A n xs ∧ n ≤ c ∧ Below W.heap.size W w
set_option maxRecDepth 100000 in
set_option maxHeartbeats 4000000 in
theorem walk (W : World) (hF : Fours W) (A : Option Addr) (n c : Nat) (xs : List UInt8) (rd : Rd W A n xs) (hc : n ≤ c) (hl : n ≤ 140737488351232) (sb : Bool) :
    Calls Tryd.prog 6 #[.slice A n c, .bool sb] W fun e w' => e = .returned (.bool true) ∧ Below W.heap.size W w' := by
  have HF := kept hF
  have HL0 := kept (lives5 W hF)
  have HLV := fun w h => kept (lives5 w h)
  have HR := kept rd
  by_cases h1 : 1000 < n
  · have hg : decide ((1000 : Int) < (n : Int)) = true := by simp; omega
    clear rd hF h1
    go_enter Tryd.func6, Tryd.ntmps6
    go_wp2_with fail
    with_reducible refine HL0.out.mono ?_
    rintro e w1 ⟨rfl, hb⟩
    have HB1 := kept hb
    have HL1 := HLV _ (HF.out.below hb)
    clear hb
    go_wp2_with fail
    with_reducible refine HL1.out.mono ?_
    rintro e w2 ⟨rfl, hb⟩
    have HB2 := kept (bel_to hb HB1.out)
    clear hb
    go_wp2
    go_ret
    exact ⟨rfl, HB2.out⟩
  have hg : decide ((1000 : Int) < (n : Int)) = false := by simp; omega
  have HRX : ∀ (w : World) (A1 : Option Addr) (n1 c1 : Nat) (ys : List UInt8), Hid (Here W w A1 n1 c1 ys) → n1 ≤ 2000 →
      Hid (Calls Tryd.prog 21 #[.slice A1 n1 c1] w fun e w' => ∃ A2 c2, e = .returned (.slice A2 n1 c2) ∧ Hid (Rd w' A2 n1 ys ∧ n1 ≤ c2 ∧ Rd w' A1 n1 ys ∧ Below W.heap.size W w')) := fun w A1 n1 c1 ys h hn => kept ((twin_any A1 n1 c1 ys w h.out.1 (by omega)).mono (by
    rintro e w' ⟨A2, c2, he, ho, hb⟩
    exact ⟨A2, c2, he, kept ⟨Rd.of_own ho, own_cap ho, h.out.1.below hb, bel_to hb h.out.2.2⟩⟩))
  have HSE := fun w h => kept (refSeal_any A n c xs w h hl)
  have HQ := fun m w => eql_r m m w
  go_enter Tryd.func6, Tryd.ntmps6
  go_wp2_with fail
  with_reducible refine HL0.out.mono ?_
  rintro e w1 ⟨rfl, hb⟩
  have HB1 := kept hb
  have HR1 := kept (rd.below hb)
  have HH1 : Hid (Here W w1 A n c xs) := kept ⟨rd.below hb, hc, hb⟩
  clear hb rd hF
  cases sb
  · have HTW := HRX w1 A n c xs HH1 (by omega)
    have HCC := kept hc
    clear HRX HSE
    go_wp2_with fail
    with_reducible refine HTW.out.mono ?_
    rintro e w2 ⟨A2, c2, rfl, h2⟩
    have HD := kept (decode_m A2 n c2 xs w2 h2.out.1 h2.out.2.1 (HF.out.below h2.out.2.2.2))
    have HE := fun w h => kept (refDecode_m A n c xs w h HCC.out)
    have HB2 := kept h2.out.2.2.2
    have HRA := kept h2.out.2.2.1
    have HRB := kept h2.out.1
    clear h2
    generalize decM xs = D at HD HE
    obtain ⟨⟨t, r, s, z⟩, er⟩ := D
    have HOF := fun w => kept (of_m ⟨t, r, s, z⟩ w)
    have heq := fun w => HQ ⟨t, r, s, z⟩ w
    clear HQ
    simp only at HD HE
    go_wp2_with fail
    with_reducible refine HD.out.mono ?_
    rintro e w3 ⟨rfl, hb⟩
    have HB3 := kept (bel_to hb HB2.out)
    have HRA3 := fun o => kept ((HRA.out.below hb).alloc o)
    have HRB3 := kept (HRB.out.below hb)
    have HN3 := kept (fou_new w3 50 t r s z)
    have HB3a := fun o => kept (HB3.out.alloc HB3.out.size o)
    have HE3 := fun o => HE _ (HRA3 o).out
    clear hb HD HE
    go_wp2_with fail
    with_reducible refine (HE3 _).out.mono ?_
    rintro e w4 ⟨rfl, hb⟩
    have HB4 := kept (bel_to hb (HB3a _).out)
    have HRA4 := kept ((HRA3 _).out.below hb)
    have HRB4 := kept ((HRB3.out.alloc _).below hb)
    have HN4 := kept ((HN3.out.keeps (Keeps.of_below hb)).keeps (Keeps.alloc w4 (.cells #[.int .u64 (t : Int), .int .i64 r, .int .i64 s, .int .i64 z] 53)))
    have HM4 := kept (fou_new w4 53 t r s z)
    clear hb
    go_wp2_with fail
    generalize w3.heap.size = g3 at HN4 ⊢
    have HST : Hid (∀ X, Keeps (w4.alloc (.cells #[.int .u64 (t : Int), .int .i64 r, .int .i64 s, .int .i64 z] 53)) X → Fou X g3 t r s z ∧ Fou X w4.heap.size t r s z) := kept (fun X hX => ⟨HN4.out.keeps hX, HM4.out.keeps hX⟩)
    have HBB := kept (HB4.out.alloc HB4.out.size (.cells #[.int .u64 (t : Int), .int .i64 r, .int .i64 s, .int .i64 z] 53))
    have HRX4 := kept (HRA4.out.alloc (.cells #[.int .u64 (t : Int), .int .i64 r, .int .i64 s, .int .i64 z] 53))
    have HRY4 := kept (HRB4.out.alloc (.cells #[.int .u64 (t : Int), .int .i64 r, .int .i64 s, .int .i64 z] 53))
    generalize w4.heap.size = g4 at HST ⊢
    generalize (w4.alloc (.cells #[.int .u64 (t : Int), .int .i64 r, .int .i64 s, .int .i64 z] 53)) = w5 at HST HBB HRX4 HRY4 ⊢
    refine wp_region_held_drew (S := (fun W' => Fou W' g3 (t : Int) r s z ∧ Fou W' g4 (t : Int) r s z)) (by kernel_rfl) ?_ (fun hHeld => ?_)
    · ((try dsimp only); (first | exact HST.out _ (Keeps.refl _) | exact HST.out _ (Keeps.drew _) | exact HST.out _ HK7.out | exact HST.out _ HK6.out))
    refine hand_take 0 (some 33) ?_ (by kernel_rfl) (by kernel_rfl) (by kernel_rfl) (by kernel_rfl) (by kernel_rfl) (fun _ _ _ h => h) ?_ (by assumption) ?_
    rotate_left
    · (intro o ho w hSw; (simp only [List.getElem?_toArray, List.getElem?_cons_succ, List.getElem?_cons_zero, Option.some.injEq] at ho); subst ho; (try dsimp only at hSw); go_simp; (first | done | with_reducible rfl))
    (try simp only [Act.put, List.setIfInBounds_toArray, List.set_cons_zero, List.set_cons_succ])
    refine hand_take 2 (some 35) ?_ (by kernel_rfl) (by kernel_rfl) (by kernel_rfl) (by kernel_rfl) (by kernel_rfl) (fun _ _ _ h => h) ?_ (by assumption) ?_
    rotate_left
    · (intro o ho w hSw; (simp only [List.getElem?_toArray, List.getElem?_cons_succ, List.getElem?_cons_zero, Option.some.injEq] at ho); subst ho; (try dsimp only at hSw); go_simp; (first | done | with_reducible rfl))
    (try simp only [Act.put, List.setIfInBounds_toArray, List.set_cons_zero, List.set_cons_succ])
    refine hand_ready 1 (by kernel_rfl) (by kernel_rfl) (fun o ho K hK => ?_)
    (simp only [List.getElem?_toArray, List.getElem?_cons_succ, List.getElem?_cons_zero, Option.some.injEq] at ho)
    subst ho
    go_simp
    ((go_at_call 27; (with_reducible refine (HOF _).out.mono ?_); rintro e w6 ⟨rfl, h6⟩); have HK6 : Hid (Keeps w5 w6) := kept ((Keeps.drew _).trans (Keeps.of_below h6)); have HB6 : Hid (Below W.heap.size W w6) := kept (HBB.out.drew.trans (h6.mono HBB.out.size)); have HS6 := kept (same_any A2 A n n c2 c xs xs w6 (HRY4.out.keeps HK6.out) (HRX4.out.keeps HK6.out) true (by simp)); clear h6)
    (try go_wp2_with fail)
    refine hK.out _ _ ?_ (fun hHeld => ?_)
    · ((try dsimp only); (first | exact HST.out _ (Keeps.refl _) | exact HST.out _ (Keeps.drew _) | exact HST.out _ HK7.out | exact HST.out _ HK6.out))
    clear hK K
    (try simp only [Act.put, List.setIfInBounds_toArray, List.set_cons_zero, List.set_cons_succ])
    refine hand_take 3 (some 36) ?_ (by kernel_rfl) (by kernel_rfl) (by kernel_rfl) (by kernel_rfl) (by kernel_rfl) (fun _ _ _ h => h) ?_ (by assumption) ?_
    rotate_left
    · (intro o ho w hSw; (simp only [List.getElem?_toArray, List.getElem?_cons_succ, List.getElem?_cons_zero, Option.some.injEq] at ho); subst ho; (try dsimp only at hSw); go_simp; (first | done | with_reducible rfl))
    (try simp only [Act.put, List.setIfInBounds_toArray, List.set_cons_zero, List.set_cons_succ])
    refine hand_take 4 (some 37) ?_ (by kernel_rfl) (by kernel_rfl) (by kernel_rfl) (by kernel_rfl) (by kernel_rfl) (fun _ _ _ h => h) ?_ (by assumption) ?_
    rotate_left
    · (intro o ho w hSw; (simp only [List.getElem?_toArray, List.getElem?_cons_succ, List.getElem?_cons_zero, Option.some.injEq] at ho); subst ho; (try dsimp only at hSw); go_simp; (first | done | with_reducible rfl))
    (try simp only [Act.put, List.setIfInBounds_toArray, List.set_cons_zero, List.set_cons_succ])
    refine hand_take 5 (some 38) ?_ (by kernel_rfl) (by kernel_rfl) (by kernel_rfl) (by kernel_rfl) (by kernel_rfl) (fun _ _ _ h => h) ?_ (by assumption) ?_
    rotate_left
    · (intro o ho w hSw; (simp only [List.getElem?_toArray, List.getElem?_cons_succ, List.getElem?_cons_zero, Option.some.injEq] at ho); subst ho; (try dsimp only at hSw); go_simp; (first | done | with_reducible rfl))
    (try simp only [Act.put, List.setIfInBounds_toArray, List.set_cons_zero, List.set_cons_succ])
    refine hand_take 6 (some 39) ?_ (by kernel_rfl) (by kernel_rfl) (by kernel_rfl) (by kernel_rfl) (by kernel_rfl) (fun _ _ _ h => h) ?_ (by assumption) ?_
    rotate_left
    · (intro o ho w hSw; (simp only [List.getElem?_toArray, List.getElem?_cons_succ, List.getElem?_cons_zero, Option.some.injEq] at ho); subst ho; (try dsimp only at hSw); go_simp; (first | done | with_reducible rfl))
    (try simp only [Act.put, List.setIfInBounds_toArray, List.set_cons_zero, List.set_cons_succ])
    refine hand_take 7 (some 40) ?_ (by kernel_rfl) (by kernel_rfl) (by kernel_rfl) (by kernel_rfl) (by kernel_rfl) (fun _ _ _ h => h) ?_ (by assumption) ?_
    rotate_left
    · (intro o ho w hSw; (simp only [List.getElem?_toArray, List.getElem?_cons_succ, List.getElem?_cons_zero, Option.some.injEq] at ho); subst ho; (try dsimp only at hSw); go_simp; (first | done | with_reducible rfl))
    (try simp only [Act.put, List.setIfInBounds_toArray, List.set_cons_zero, List.set_cons_succ])
    refine hand_take 8 (some 41) ?_ (by kernel_rfl) (by kernel_rfl) (by kernel_rfl) (by kernel_rfl) (by kernel_rfl) (fun _ _ _ h => h) ?_ (by assumption) ?_
    rotate_left
    · (intro o ho w hSw; (simp only [List.getElem?_toArray, List.getElem?_cons_succ, List.getElem?_cons_zero, Option.some.injEq] at ho); subst ho; (try dsimp only at hSw); go_simp; (first | done | with_reducible rfl))
    (try simp only [Act.put, List.setIfInBounds_toArray, List.set_cons_zero, List.set_cons_succ])
    refine hand_take 9 (some 42) ?_ (by kernel_rfl) (by kernel_rfl) (by kernel_rfl) (by kernel_rfl) (by kernel_rfl) (fun _ _ _ h => h) ?_ (by assumption) ?_
    rotate_left
    · (intro o ho w hSw; (simp only [List.getElem?_toArray, List.getElem?_cons_succ, List.getElem?_cons_zero, Option.some.injEq] at ho); subst ho; (try dsimp only at hSw); go_simp; (first | done | with_reducible rfl))
    (try simp only [Act.put, List.setIfInBounds_toArray, List.set_cons_zero, List.set_cons_succ])
    refine hand_take 10 (some 43) ?_ (by kernel_rfl) (by kernel_rfl) (by kernel_rfl) (by kernel_rfl) (by kernel_rfl) (fun _ _ _ h => h) ?_ (by assumption) ?_
    rotate_left
    · (intro o ho w hSw; (simp only [List.getElem?_toArray, List.getElem?_cons_succ, List.getElem?_cons_zero, Option.some.injEq] at ho); subst ho; (try dsimp only at hSw); go_simp; (first | done | with_reducible rfl))
    (try simp only [Act.put, List.setIfInBounds_toArray, List.set_cons_zero, List.set_cons_succ])
    refine hand_take 11 (some 44) ?_ (by kernel_rfl) (by kernel_rfl) (by kernel_rfl) (by kernel_rfl) (by kernel_rfl) (fun _ _ _ h => h) ?_ (by assumption) ?_
    rotate_left
    · (intro o ho w hSw; (simp only [List.getElem?_toArray, List.getElem?_cons_succ, List.getElem?_cons_zero, Option.some.injEq] at ho); subst ho; (try dsimp only at hSw); go_simp; (first | done | with_reducible rfl))
    (try simp only [Act.put, List.setIfInBounds_toArray, List.set_cons_zero, List.set_cons_succ])
    refine hand_ready 12 (by kernel_rfl) (by kernel_rfl) (fun o ho K hK => ?_)
    (simp only [List.getElem?_toArray, List.getElem?_cons_succ, List.getElem?_cons_zero, Option.some.injEq] at ho)
    subst ho
    go_simp
    ((go_at_call 18; (with_reducible refine HS6.out.mono ?_); rintro e w7 ⟨rfl, rfl⟩); have HK7 := HK6)
    (try go_wp2_with fail)
    refine hK.out _ _ ?_ (fun hHeld => ?_)
    · ((try dsimp only); (first | exact HST.out _ (Keeps.refl _) | exact HST.out _ (Keeps.drew _) | exact HST.out _ HK7.out | exact HST.out _ HK6.out))
    clear hK K
    (try simp only [Act.put, List.setIfInBounds_toArray, List.set_cons_zero, List.set_cons_succ])
    refine hand_take 13 (some 46) ?_ (by kernel_rfl) (by kernel_rfl) (by kernel_rfl) (by kernel_rfl) (by kernel_rfl) (fun _ _ _ h => h) ?_ (by assumption) ?_
    rotate_left
    · (intro o ho w hSw; (simp only [List.getElem?_toArray, List.getElem?_cons_succ, List.getElem?_cons_zero, Option.some.injEq] at ho); subst ho; (try dsimp only at hSw); go_simp; (first | done | with_reducible rfl))
    (try simp only [Act.put, List.setIfInBounds_toArray, List.set_cons_zero, List.set_cons_succ])
    refine hand_take 14 (some 4) ?_ (by kernel_rfl) (by kernel_rfl) (by kernel_rfl) (by kernel_rfl) (by kernel_rfl) (fun _ _ _ h => h) ?_ (by assumption) ?_
    rotate_left
    · (intro o ho w hSw; (simp only [List.getElem?_toArray, List.getElem?_cons_succ, List.getElem?_cons_zero, Option.some.injEq] at ho); subst ho; (try dsimp only at hSw); go_simp; (first | done | with_reducible rfl))
    (try simp only [Act.put, List.setIfInBounds_toArray, List.set_cons_zero, List.set_cons_succ])
    refine wpAnyH_done (by kernel_rfl) ?_ _
    go_wp2
    go_ret
    exact ⟨rfl, HB6.out⟩
  · have HS1 := HSE w1 HR1.out
    clear HSE
    go_wp2_with fail
    with_reducible refine HS1.out.mono ?_
    rintro e w1' ⟨A1, c1, rfl, hown, hb⟩
    have hn4 : 4 + n ≤ 2000 := by omega
    have HTW := HRX w1' A1 (4 + n) c1 (sealed xs) (kept ⟨Rd.of_own hown, own_cap hown, bel_to hb HB1.out⟩) hn4
    have HCC := kept (own_cap hown)
    clear HRX hown hb hn4
    go_wp2_with fail
    with_reducible refine HTW.out.mono ?_
    rintro e w2 ⟨A2, c2, rfl, h2⟩
    have HD := kept (decode_m A2 (4 + n) c2 (sealed xs) w2 h2.out.1 h2.out.2.1 (HF.out.below h2.out.2.2.2))
    have HE := fun w h => kept (refDecode_m A1 (4 + n) c1 (sealed xs) w h HCC.out)
    have HB2 := kept h2.out.2.2.2
    have HRA := kept h2.out.2.2.1
    have HRB := kept h2.out.1
    clear h2
    generalize decM (sealed xs) = D at HD HE
    obtain ⟨⟨t, r, s, z⟩, er⟩ := D
    have HOF := fun w => kept (of_m ⟨t, r, s, z⟩ w)
    have heq := fun w => HQ ⟨t, r, s, z⟩ w
    clear HQ
    simp only at HD HE
    go_wp2_with fail
    with_reducible refine HD.out.mono ?_
    rintro e w3 ⟨rfl, hb⟩
    have HB3 := kept (bel_to hb HB2.out)
    have HRA3 := fun o => kept ((HRA.out.below hb).alloc o)
    have HRB3 := kept (HRB.out.below hb)
    have HN3 := kept (fou_new w3 50 t r s z)
    have HB3a := fun o => kept (HB3.out.alloc HB3.out.size o)
    have HE3 := fun o => HE _ (HRA3 o).out
    clear hb HD HE
    go_wp2_with fail
    with_reducible refine (HE3 _).out.mono ?_
    rintro e w4 ⟨rfl, hb⟩
    have HB4 := kept (bel_to hb (HB3a _).out)
    have HRA4 := kept ((HRA3 _).out.below hb)
    have HRB4 := kept ((HRB3.out.alloc _).below hb)
    have HN4 := kept ((HN3.out.keeps (Keeps.of_below hb)).keeps (Keeps.alloc w4 (.cells #[.int .u64 (t : Int), .int .i64 r, .int .i64 s, .int .i64 z] 53)))
    have HM4 := kept (fou_new w4 53 t r s z)
    clear hb
    go_wp2_with fail
    generalize w3.heap.size = g3 at HN4 ⊢
    have HST : Hid (∀ X, Keeps (w4.alloc (.cells #[.int .u64 (t : Int), .int .i64 r, .int .i64 s, .int .i64 z] 53)) X → Fou X g3 t r s z ∧ Fou X w4.heap.size t r s z) := kept (fun X hX => ⟨HN4.out.keeps hX, HM4.out.keeps hX⟩)
    have HBB := kept (HB4.out.alloc HB4.out.size (.cells #[.int .u64 (t : Int), .int .i64 r, .int .i64 s, .int .i64 z] 53))
    have HRX4 := kept (HRA4.out.alloc (.cells #[.int .u64 (t : Int), .int .i64 r, .int .i64 s, .int .i64 z] 53))
    have HRY4 := kept (HRB4.out.alloc (.cells #[.int .u64 (t : Int), .int .i64 r, .int .i64 s, .int .i64 z] 53))
    generalize w4.heap.size = g4 at HST ⊢
    generalize (w4.alloc (.cells #[.int .u64 (t : Int), .int .i64 r, .int .i64 s, .int .i64 z] 53)) = w5 at HST HBB HRX4 HRY4 ⊢
    refine wp_region_held_drew (S := (fun W' => Fou W' g3 (t : Int) r s z ∧ Fou W' g4 (t : Int) r s z)) (by kernel_rfl) ?_ (fun hHeld => ?_)
    · ((try dsimp only); (first | exact HST.out _ (Keeps.refl _) | exact HST.out _ (Keeps.drew _) | exact HST.out _ HK7.out | exact HST.out _ HK6.out))
    refine hand_take 0 (some 33) ?_ (by kernel_rfl) (by kernel_rfl) (by kernel_rfl) (by kernel_rfl) (by kernel_rfl) (fun _ _ _ h => h) ?_ (by assumption) ?_
    rotate_left
    · (intro o ho w hSw; (simp only [List.getElem?_toArray, List.getElem?_cons_succ, List.getElem?_cons_zero, Option.some.injEq] at ho); subst ho; (try dsimp only at hSw); go_simp; (first | done | with_reducible rfl))
    (try simp only [Act.put, List.setIfInBounds_toArray, List.set_cons_zero, List.set_cons_succ])
    refine hand_take 2 (some 35) ?_ (by kernel_rfl) (by kernel_rfl) (by kernel_rfl) (by kernel_rfl) (by kernel_rfl) (fun _ _ _ h => h) ?_ (by assumption) ?_
    rotate_left
    · (intro o ho w hSw; (simp only [List.getElem?_toArray, List.getElem?_cons_succ, List.getElem?_cons_zero, Option.some.injEq] at ho); subst ho; (try dsimp only at hSw); go_simp; (first | done | with_reducible rfl))
    (try simp only [Act.put, List.setIfInBounds_toArray, List.set_cons_zero, List.set_cons_succ])
    refine hand_ready 1 (by kernel_rfl) (by kernel_rfl) (fun o ho K hK => ?_)
    (simp only [List.getElem?_toArray, List.getElem?_cons_succ, List.getElem?_cons_zero, Option.some.injEq] at ho)
    subst ho
    go_simp
    ((go_at_call 27; (with_reducible refine (HOF _).out.mono ?_); rintro e w6 ⟨rfl, h6⟩); have HK6 : Hid (Keeps w5 w6) := kept ((Keeps.drew _).trans (Keeps.of_below h6)); have HB6 : Hid (Below W.heap.size W w6) := kept (HBB.out.drew.trans (h6.mono HBB.out.size)); have HS6 := kept (same_any A2 A1 (4 + n) (4 + n) c2 c1 (sealed xs) (sealed xs) w6 (HRY4.out.keeps HK6.out) (HRX4.out.keeps HK6.out) true (by simp)); clear h6)
    (try go_wp2_with fail)
    refine hK.out _ _ ?_ (fun hHeld => ?_)
    · ((try dsimp only); (first | exact HST.out _ (Keeps.refl _) | exact HST.out _ (Keeps.drew _) | exact HST.out _ HK7.out | exact HST.out _ HK6.out))
    clear hK K
    (try simp only [Act.put, List.setIfInBounds_toArray, List.set_cons_zero, List.set_cons_succ])
    refine hand_take 3 (some 36) ?_ (by kernel_rfl) (by kernel_rfl) (by kernel_rfl) (by kernel_rfl) (by kernel_rfl) (fun _ _ _ h => h) ?_ (by assumption) ?_
    rotate_left
    · (intro o ho w hSw; (simp only [List.getElem?_toArray, List.getElem?_cons_succ, List.getElem?_cons_zero, Option.some.injEq] at ho); subst ho; (try dsimp only at hSw); go_simp; (first | done | with_reducible rfl))
    (try simp only [Act.put, List.setIfInBounds_toArray, List.set_cons_zero, List.set_cons_succ])
    refine hand_take 4 (some 37) ?_ (by kernel_rfl) (by kernel_rfl) (by kernel_rfl) (by kernel_rfl) (by kernel_rfl) (fun _ _ _ h => h) ?_ (by assumption) ?_
    rotate_left
    · (intro o ho w hSw; (simp only [List.getElem?_toArray, List.getElem?_cons_succ, List.getElem?_cons_zero, Option.some.injEq] at ho); subst ho; (try dsimp only at hSw); go_simp; (first | done | with_reducible rfl))
    (try simp only [Act.put, List.setIfInBounds_toArray, List.set_cons_zero, List.set_cons_succ])
    refine hand_take 5 (some 38) ?_ (by kernel_rfl) (by kernel_rfl) (by kernel_rfl) (by kernel_rfl) (by kernel_rfl) (fun _ _ _ h => h) ?_ (by assumption) ?_
    rotate_left
    · (intro o ho w hSw; (simp only [List.getElem?_toArray, List.getElem?_cons_succ, List.getElem?_cons_zero, Option.some.injEq] at ho); subst ho; (try dsimp only at hSw); go_simp; (first | done | with_reducible rfl))
    (try simp only [Act.put, List.setIfInBounds_toArray, List.set_cons_zero, List.set_cons_succ])
    refine hand_take 6 (some 39) ?_ (by kernel_rfl) (by kernel_rfl) (by kernel_rfl) (by kernel_rfl) (by kernel_rfl) (fun _ _ _ h => h) ?_ (by assumption) ?_
    rotate_left
    · (intro o ho w hSw; (simp only [List.getElem?_toArray, List.getElem?_cons_succ, List.getElem?_cons_zero, Option.some.injEq] at ho); subst ho; (try dsimp only at hSw); go_simp; (first | done | with_reducible rfl))
    (try simp only [Act.put, List.setIfInBounds_toArray, List.set_cons_zero, List.set_cons_succ])
    refine hand_take 7 (some 40) ?_ (by kernel_rfl) (by kernel_rfl) (by kernel_rfl) (by kernel_rfl) (by kernel_rfl) (fun _ _ _ h => h) ?_ (by assumption) ?_
    rotate_left
    · (intro o ho w hSw; (simp only [List.getElem?_toArray, List.getElem?_cons_succ, List.getElem?_cons_zero, Option.some.injEq] at ho); subst ho; (try dsimp only at hSw); go_simp; (first | done | with_reducible rfl))
    (try simp only [Act.put, List.setIfInBounds_toArray, List.set_cons_zero, List.set_cons_succ])
    refine hand_take 8 (some 41) ?_ (by kernel_rfl) (by kernel_rfl) (by kernel_rfl) (by kernel_rfl) (by kernel_rfl) (fun _ _ _ h => h) ?_ (by assumption) ?_
    rotate_left
    · (intro o ho w hSw; (simp only [List.getElem?_toArray, List.getElem?_cons_succ, List.getElem?_cons_zero, Option.some.injEq] at ho); subst ho; (try dsimp only at hSw); go_simp; (first | done | with_reducible rfl))
    (try simp only [Act.put, List.setIfInBounds_toArray, List.set_cons_zero, List.set_cons_succ])
    refine hand_take 9 (some 42) ?_ (by kernel_rfl) (by kernel_rfl) (by kernel_rfl) (by kernel_rfl) (by kernel_rfl) (fun _ _ _ h => h) ?_ (by assumption) ?_
    rotate_left
    · (intro o ho w hSw; (simp only [List.getElem?_toArray, List.getElem?_cons_succ, List.getElem?_cons_zero, Option.some.injEq] at ho); subst ho; (try dsimp only at hSw); go_simp; (first | done | with_reducible rfl))
    (try simp only [Act.put, List.setIfInBounds_toArray, List.set_cons_zero, List.set_cons_succ])
    refine hand_take 10 (some 43) ?_ (by kernel_rfl) (by kernel_rfl) (by kernel_rfl) (by kernel_rfl) (by kernel_rfl) (fun _ _ _ h => h) ?_ (by assumption) ?_
    rotate_left
    · (intro o ho w hSw; (simp only [List.getElem?_toArray, List.getElem?_cons_succ, List.getElem?_cons_zero, Option.some.injEq] at ho); subst ho; (try dsimp only at hSw); go_simp; (first | done | with_reducible rfl))
    (try simp only [Act.put, List.setIfInBounds_toArray, List.set_cons_zero, List.set_cons_succ])
    refine hand_take 11 (some 44) ?_ (by kernel_rfl) (by kernel_rfl) (by kernel_rfl) (by kernel_rfl) (by kernel_rfl) (fun _ _ _ h => h) ?_ (by assumption) ?_
    rotate_left
    · (intro o ho w hSw; (simp only [List.getElem?_toArray, List.getElem?_cons_succ, List.getElem?_cons_zero, Option.some.injEq] at ho); subst ho; (try dsimp only at hSw); go_simp; (first | done | with_reducible rfl))
    (try simp only [Act.put, List.setIfInBounds_toArray, List.set_cons_zero, List.set_cons_succ])
    refine hand_ready 12 (by kernel_rfl) (by kernel_rfl) (fun o ho K hK => ?_)
    (simp only [List.getElem?_toArray, List.getElem?_cons_succ, List.getElem?_cons_zero, Option.some.injEq] at ho)
    subst ho
    go_simp
    ((go_at_call 18; (with_reducible refine HS6.out.mono ?_); rintro e w7 ⟨rfl, rfl⟩); have HK7 := HK6)
    (try go_wp2_with fail)
    refine hK.out _ _ ?_ (fun hHeld => ?_)
    · ((try dsimp only); (first | exact HST.out _ (Keeps.refl _) | exact HST.out _ (Keeps.drew _) | exact HST.out _ HK7.out | exact HST.out _ HK6.out))
    clear hK K
    (try simp only [Act.put, List.setIfInBounds_toArray, List.set_cons_zero, List.set_cons_succ])
    refine hand_take 13 (some 46) ?_ (by kernel_rfl) (by kernel_rfl) (by kernel_rfl) (by kernel_rfl) (by kernel_rfl) (fun _ _ _ h => h) ?_ (by assumption) ?_
    rotate_left
    · (intro o ho w hSw; (simp only [List.getElem?_toArray, List.getElem?_cons_succ, List.getElem?_cons_zero, Option.some.injEq] at ho); subst ho; (try dsimp only at hSw); go_simp; (first | done | with_reducible rfl))
    (try simp only [Act.put, List.setIfInBounds_toArray, List.set_cons_zero, List.set_cons_succ])
    refine hand_take 14 (some 4) ?_ (by kernel_rfl) (by kernel_rfl) (by kernel_rfl) (by kernel_rfl) (by kernel_rfl) (fun _ _ _ h => h) ?_ (by assumption) ?_
    rotate_left
    · (intro o ho w hSw; (simp only [List.getElem?_toArray, List.getElem?_cons_succ, List.getElem?_cons_zero, Option.some.injEq] at ho); subst ho; (try dsimp only at hSw); go_simp; (first | done | with_reducible rfl))
    (try simp only [Act.put, List.setIfInBounds_toArray, List.set_cons_zero, List.set_cons_succ])
    refine wpAnyH_done (by kernel_rfl) ?_ _
    go_wp2
    go_ret
    exact ⟨rfl, HB6.out⟩
end Go.Proofs.YtfgpkgenahlikaaDoor.metaReads
