/-
  The walk of the law MetaChooses.
-/
import Derived.Test.YtfgpkgenahlikaaDoorMv
import Derived.Test.YtfgpkgenahlikaaDoorHnd
namespace Go.Proofs.YtfgpkgenahlikaaDoor.metaChooses
open Go.ChangeShapes Go.WideShapes Go.ChangeAt Go.RowKit
set_option linter.unusedVariables false
set_option linter.unusedSimpArgs false

set_option maxRecDepth 100000 in
set_option maxHeartbeats 4000000 in
theorem walk (W : World) (hF : Fours W) (A : Option Addr) (n c : Nat) (xs : List UInt8) (rd : Rd W A n xs) (hc : n ≤ c) (hl : n ≤ 140737488351232) (B : Option Addr) (m d : Nat) (ys : List UInt8) (rd' : Rd W B m ys) (hd : m ≤ d) (hl' : m ≤ 140737488351232) :
    Calls Tryd.prog 7 #[.slice A n c, .slice B m d] W fun e w' => e = .returned (.bool true) ∧ Below W.heap.size W w' := by
  have HF := kept hF
  have HL0 := kept (lives5 W hF)
  have HLV := fun w h => kept (lives5 w h)
  have HRA := kept rd
  have HRB := kept rd'
  have HCH := fun w h1 h2 h3 => kept (choose_m A B n m c d xs ys w h1 hc h2 hd h3)
  have HRC := fun w h1 h2 => kept (refChoose_m A B n m c d xs ys w h1 hc h2 hd)
  have HQ := fun m w => eql_r m m w
  have hbig : 1000 < n ∨ (¬ 1000 < n ∧ 1000 < m) ∨ (¬ 1000 < n ∧ ¬ 1000 < m) := by omega
  generalize chooseM xs ys = D at HCH HRC
  obtain ⟨⟨t, r, s, z⟩, er⟩ := D
  have HOF := fun w => kept (of_m ⟨t, r, s, z⟩ w)
  have heq := fun w => HQ ⟨t, r, s, z⟩ w
  clear HQ rd rd' hF
  simp only at HCH HRC
  rcases hbig with h1 | ⟨h1, h2⟩ | ⟨h1, h2⟩
  · have hg : decide ((1000 : Int) < (n : Int)) = true := by simp; omega
    clear h1
    go_enter Tryd.func7, Tryd.ntmps7
    go_wp2_with fail
    with_reducible refine HL0.out.mono ?_
    rintro e w1 ⟨rfl, hb⟩
    have HB1 := kept hb
    have HL1 := HLV _ (HF.out.below hb)
    clear hb
    go_wp2_with fail
    with_reducible refine HL1.out.mono ?_
    rintro e w2 ⟨rfl, hb⟩
    have HB2 := kept (bel_to hb HB1.out)
    clear hb
    go_wp2
    go_ret
    exact ⟨rfl, HB2.out⟩
  · have hg : decide ((1000 : Int) < (n : Int)) = false := by simp; omega
    have hg2 : decide ((1000 : Int) < (m : Int)) = true := by simp; omega
    clear h1 h2
    go_enter Tryd.func7, Tryd.ntmps7
    go_wp2_with fail
    with_reducible refine HL0.out.mono ?_
    rintro e w1 ⟨rfl, hb⟩
    have HB1 := kept hb
    have HL1 := HLV _ (HF.out.below hb)
    clear hb
    go_wp2_with fail
    with_reducible refine HL1.out.mono ?_
    rintro e w2 ⟨rfl, hb⟩
    have HB2 := kept (bel_to hb HB1.out)
    clear hb
    go_wp2
    go_ret
    exact ⟨rfl, HB2.out⟩
  · have hg : decide ((1000 : Int) < (n : Int)) = false := by simp; omega
    have hg2 : decide ((1000 : Int) < (m : Int)) = false := by simp; omega
    clear h1 h2 HLV
    go_enter Tryd.func7, Tryd.ntmps7
    go_wp2_with fail
    with_reducible refine HL0.out.mono ?_
    rintro e w1 ⟨rfl, hb⟩
    have HB1 := kept hb
    have HC1 := HCH w1 (HRA.out.below hb) (HRB.out.below hb) (HF.out.below hb)
    clear hb HCH
    go_wp2_with fail
    with_reducible refine HC1.out.mono ?_
    rintro e w3 ⟨rfl, hb⟩
    have HB3 := kept (bel_to hb HB1.out)
    have HN3 := kept (fou_new w3 50 t r s z)
    have HB3a := fun o => kept (HB3.out.alloc HB3.out.size o)
    have HE3 := fun o => HRC _ (HRA.out.below (HB3a o).out) (HRB.out.below (HB3a o).out)
    clear hb HRC
    go_wp2_with fail
    with_reducible refine (HE3 _).out.mono ?_
    rintro e w4 ⟨rfl, hb⟩
    have HB4 := kept (bel_to hb (HB3a _).out)
    have HN4 := kept ((HN3.out.keeps (Keeps.of_below hb)).keeps (Keeps.alloc w4 (.cells #[.int .u64 (t : Int), .int .i64 r, .int .i64 s, .int .i64 z] 53)))
    have HM4 := kept (fou_new w4 53 t r s z)
    clear hb
    go_wp2_with fail
    generalize w3.heap.size = g3 at HN4 ⊢
    have HST : Hid (∀ X, Keeps (w4.alloc (.cells #[.int .u64 (t : Int), .int .i64 r, .int .i64 s, .int .i64 z] 53)) X → Fou X g3 t r s z ∧ Fou X w4.heap.size t r s z) := kept (fun X hX => ⟨HN4.out.keeps hX, HM4.out.keeps hX⟩)
    have HBB := kept (HB4.out.alloc HB4.out.size (.cells #[.int .u64 (t : Int), .int .i64 r, .int .i64 s, .int .i64 z] 53))
    generalize w4.heap.size = g4 at HST ⊢
    generalize (w4.alloc (.cells #[.int .u64 (t : Int), .int .i64 r, .int .i64 s, .int .i64 z] 53)) = w5 at HST HBB ⊢
    refine wp_region_held_drew (S := (fun W' => Fou W' g3 (t : Int) r s z ∧ Fou W' g4 (t : Int) r s z)) (by kernel_rfl) ?_ (fun hHeld => ?_)
    · ((try dsimp only); (first | exact HST.out _ (Keeps.refl _) | exact HST.out _ (Keeps.drew _) | exact HST.out _ HK6.out))
    refine hand_take 0 (some 34) ?_ (by kernel_rfl) (by kernel_rfl) (by kernel_rfl) (by kernel_rfl) (by kernel_rfl) (fun _ _ _ h => h) ?_ (by assumption) ?_
    rotate_left
    · (intro o ho w hSw; (simp only [List.getElem?_toArray, List.getElem?_cons_succ, List.getElem?_cons_zero, Option.some.injEq] at ho); subst ho; (try dsimp only at hSw); go_simp; (first | done | with_reducible rfl))
    (try simp only [Act.put, List.setIfInBounds_toArray, List.set_cons_zero, List.set_cons_succ])
    refine hand_take 2 (some 36) ?_ (by kernel_rfl) (by kernel_rfl) (by kernel_rfl) (by kernel_rfl) (by kernel_rfl) (fun _ _ _ h => h) ?_ (by assumption) ?_
    rotate_left
    · (intro o ho w hSw; (simp only [List.getElem?_toArray, List.getElem?_cons_succ, List.getElem?_cons_zero, Option.some.injEq] at ho); subst ho; (try dsimp only at hSw); go_simp; (first | done | with_reducible rfl))
    (try simp only [Act.put, List.setIfInBounds_toArray, List.set_cons_zero, List.set_cons_succ])
    refine hand_ready 1 (by kernel_rfl) (by kernel_rfl) (fun o ho K hK => ?_)
    (simp only [List.getElem?_toArray, List.getElem?_cons_succ, List.getElem?_cons_zero, Option.some.injEq] at ho)
    subst ho
    go_simp
    ((go_at_call 27; (with_reducible refine (HOF _).out.mono ?_); rintro e w6 ⟨rfl, h6⟩); have HK6 : Hid (Keeps w5 w6) := kept ((Keeps.drew _).trans (Keeps.of_below h6)); have HB6 : Hid (Below W.heap.size W w6) := kept (HBB.out.drew.trans (h6.mono HBB.out.size)); clear h6)
    (try go_wp2_with fail)
    refine hK.out _ _ ?_ (fun hHeld => ?_)
    · ((try dsimp only); (first | exact HST.out _ (Keeps.refl _) | exact HST.out _ (Keeps.drew _) | exact HST.out _ HK6.out))
    clear hK K
    (try simp only [Act.put, List.setIfInBounds_toArray, List.set_cons_zero, List.set_cons_succ])
    refine hand_take 3 (some 37) ?_ (by kernel_rfl) (by kernel_rfl) (by kernel_rfl) (by kernel_rfl) (by kernel_rfl) (fun _ _ _ h => h) ?_ (by assumption) ?_
    rotate_left
    · (intro o ho w hSw; (simp only [List.getElem?_toArray, List.getElem?_cons_succ, List.getElem?_cons_zero, Option.some.injEq] at ho); subst ho; (try dsimp only at hSw); go_simp; (first | done | with_reducible rfl))
    (try simp only [Act.put, List.setIfInBounds_toArray, List.set_cons_zero, List.set_cons_succ])
    refine hand_take 4 (some 38) ?_ (by kernel_rfl) (by kernel_rfl) (by kernel_rfl) (by kernel_rfl) (by kernel_rfl) (fun _ _ _ h => h) ?_ (by assumption) ?_
    rotate_left
    · (intro o ho w hSw; (simp only [List.getElem?_toArray, List.getElem?_cons_succ, List.getElem?_cons_zero, Option.some.injEq] at ho); subst ho; (try dsimp only at hSw); go_simp; (first | done | with_reducible rfl))
    (try simp only [Act.put, List.setIfInBounds_toArray, List.set_cons_zero, List.set_cons_succ])
    refine hand_take 5 (some 39) ?_ (by kernel_rfl) (by kernel_rfl) (by kernel_rfl) (by kernel_rfl) (by kernel_rfl) (fun _ _ _ h => h) ?_ (by assumption) ?_
    rotate_left
    · (intro o ho w hSw; (simp only [List.getElem?_toArray, List.getElem?_cons_succ, List.getElem?_cons_zero, Option.some.injEq] at ho); subst ho; (try dsimp only at hSw); go_simp; (first | done | with_reducible rfl))
    (try simp only [Act.put, List.setIfInBounds_toArray, List.set_cons_zero, List.set_cons_succ])
    refine hand_take 6 (some 40) ?_ (by kernel_rfl) (by kernel_rfl) (by kernel_rfl) (by kernel_rfl) (by kernel_rfl) (fun _ _ _ h => h) ?_ (by assumption) ?_
    rotate_left
    · (intro o ho w hSw; (simp only [List.getElem?_toArray, List.getElem?_cons_succ, List.getElem?_cons_zero, Option.some.injEq] at ho); subst ho; (try dsimp only at hSw); go_simp; (first | done | with_reducible rfl))
    (try simp only [Act.put, List.setIfInBounds_toArray, List.set_cons_zero, List.set_cons_succ])
    refine hand_take 7 (some 41) ?_ (by kernel_rfl) (by kernel_rfl) (by kernel_rfl) (by kernel_rfl) (by kernel_rfl) (fun _ _ _ h => h) ?_ (by assumption) ?_
    rotate_left
    · (intro o ho w hSw; (simp only [List.getElem?_toArray, List.getElem?_cons_succ, List.getElem?_cons_zero, Option.some.injEq] at ho); subst ho; (try dsimp only at hSw); go_simp; (first | done | with_reducible rfl))
    (try simp only [Act.put, List.setIfInBounds_toArray, List.set_cons_zero, List.set_cons_succ])
    refine hand_take 8 (some 42) ?_ (by kernel_rfl) (by kernel_rfl) (by kernel_rfl) (by kernel_rfl) (by kernel_rfl) (fun _ _ _ h => h) ?_ (by assumption) ?_
    rotate_left
    · (intro o ho w hSw; (simp only [List.getElem?_toArray, List.getElem?_cons_succ, List.getElem?_cons_zero, Option.some.injEq] at ho); subst ho; (try dsimp only at hSw); go_simp; (first | done | with_reducible rfl))
    (try simp only [Act.put, List.setIfInBounds_toArray, List.set_cons_zero, List.set_cons_succ])
    refine hand_take 9 (some 4) ?_ (by kernel_rfl) (by kernel_rfl) (by kernel_rfl) (by kernel_rfl) (by kernel_rfl) (fun _ _ _ h => h) ?_ (by assumption) ?_
    rotate_left
    · (intro o ho w hSw; (simp only [List.getElem?_toArray, List.getElem?_cons_succ, List.getElem?_cons_zero, Option.some.injEq] at ho); subst ho; (try dsimp only at hSw); go_simp; (first | done | with_reducible rfl))
    (try simp only [Act.put, List.setIfInBounds_toArray, List.set_cons_zero, List.set_cons_succ])
    refine wpAnyH_done (by kernel_rfl) ?_ _
    go_wp2
    go_ret
    exact ⟨rfl, HB6.out⟩
end Go.Proofs.YtfgpkgenahlikaaDoor.metaChooses
