/-
  The walk of the law MetaBack.
-/
import Derived.Test.YtfgpkgenahlikaaDoorMv
import Derived.Test.YtfgpkgenahlikaaDoorHnd
namespace Go.Proofs.YtfgpkgenahlikaaDoor.metaBack
open Go.ChangeShapes Go.WideShapes Go.ChangeAt Go.RowKit
set_option linter.unusedVariables false
set_option linter.unusedSimpArgs false

set_option maxRecDepth 100000 in
set_option maxHeartbeats 4000000 in
theorem walk (W : World) (hF : Fours W) (m : Mt) (tx : m.txn < 18446744073709551616) (o : Mt) (tx' : o.txn < 18446744073709551616) :
    Calls Tryd.prog 8 #[m.val, o.val] W fun e w' => e = .returned (.bool true) ∧ Below W.heap.size W w' := by
  have HF := kept hF
  have HRM := fun w => kept (right_m m w)
  have hb0 : Below W.heap.size W ((W.alloc (.cells #[.int .u64 (m.txn : Int), .int .i64 m.root, .int .i64 m.spare, .int .i64 m.size] 50)).alloc (.cells #[.int .u64 (o.txn : Int), .int .i64 o.root, .int .i64 o.spare, .int .i64 o.size] 50)) := ((Below.refl _ _).alloc (Nat.le_refl _) _).alloc (by simp) _
  have HB0 := kept hb0
  have HL0 := kept (lives5 _ (hF.below hb0))
  have hn := (fou_new W 50 m.txn m.root m.spare m.size).keeps (Keeps.alloc _ (.cells #[.int .u64 (o.txn : Int), .int .i64 o.root, .int .i64 o.spare, .int .i64 o.size] 50))
  have hn' := fou_new (W.alloc (.cells #[.int .u64 (m.txn : Int), .int .i64 m.root, .int .i64 m.spare, .int .i64 m.size] 50)) 50 o.txn o.root o.spare o.size
  rw [World.size_alloc] at hn'
  have HN0 := kept (And.intro hn hn')
  clear hF hb0 hn hn'
  by_cases hr : rightM m = true
  · have HEN := fun w h => kept (encode_m m w tx hr h)
    have hds := decM_sealed tx hr
    have HDC := fun A c w h1 h2 h3 => kept (show Calls Tryd.prog 30 #[.slice A 256 c] w fun e w' => e = .returned (.tuple #[m.val, .int .i64 0]) ∧ Below w.heap.size w w' from by have h := decode_m A 256 c (sealed (bodyM m)) w h1 h2 h3; rw [hds] at h; exact h)
    clear hds
    by_cases ho : rightM o = true
    · have HEO := fun w h => kept (encode_m o w tx' ho h)
      obtain ⟨bb, hbb⟩ : ∃ bb, decide (m = o) = bb := ⟨_, rfl⟩
      have HSM := fun A B c d w h1 h2 => kept (same_any A B 256 256 c d (sealed (bodyM m)) (sealed (bodyM o)) w h1 h2 bb (by
        rw [← hbb]
        by_cases e : m = o
        · rw [e]; simp
        · have : ¬ sealed (bodyM m) = sealed (bodyM o) := fun h => e (bodyM_inj hr ho tx tx' (sealed_inj h))
          simp [e, this]))
      have heq1 := fun w => eql_m m m w
      have heq2 := fun w => eql_m m o w
      rw [hbb] at heq2
      simp only [decide_true] at heq1
      clear hbb hr ho tx tx' HRM
      obtain ⟨t, r, s, z⟩ := m
      obtain ⟨t', r', s', z'⟩ := o
      simp only at HB0 HL0 HN0
      go_enter Tryd.func8, Tryd.ntmps8
      go_wp2_with fail
      with_reducible refine HL0.out.mono ?_
      rintro e w1 ⟨rfl, hb⟩
      have HB1 := kept (bel_to hb HB0.out)
      have HN1 := kept (And.intro (HN0.out.1.keeps (Keeps.of_below hb)) (HN0.out.2.keeps (Keeps.of_below hb)))
      obtain ⟨n0, n1, n2, n3⟩ := HN1.out.1
      clear hb
      go_wp2_with fail
      with_reducible refine (HEN _ (HF.out.below HB1.out)).out.mono ?_
      rintro e w2 ⟨A2, c2, rfl, hown, hb⟩
      have HR2 := kept (And.intro (Rd.of_own hown) (own_cap hown))
      have HB2 := kept (bel_to hb HB1.out)
      have HN2 := kept (And.intro (HN1.out.1.keeps (Keeps.of_below hb)) (HN1.out.2.keeps (Keeps.of_below hb)))
      have HD2 := HDC A2 c2 w2 HR2.out.1 HR2.out.2 (HF.out.below HB2.out)
      clear hown hb n0 n1 n2 n3 HDC HEN
      go_wp2_with fail
      with_reducible refine HD2.out.mono ?_
      rintro e w3 ⟨rfl, hb⟩
      have HB3 := kept (bel_to hb HB2.out)
      have HR3 := kept ((HR2.out.1.below hb).alloc (.cells #[.int .u64 (t : Int), .int .i64 r, .int .i64 s, .int .i64 z] 50))
      have HX3 := kept (fou_new w3 50 t r s z)
      have HN3 := kept (And.intro ((HN2.out.1.keeps (Keeps.of_below hb)).keeps (Keeps.alloc w3 (.cells #[.int .u64 (t : Int), .int .i64 r, .int .i64 s, .int .i64 z] 50))) ((HN2.out.2.keeps (Keeps.of_below hb)).keeps (Keeps.alloc w3 (.cells #[.int .u64 (t : Int), .int .i64 r, .int .i64 s, .int .i64 z] 50))))
      have HB3a := kept (HB3.out.alloc HB3.out.size (.cells #[.int .u64 (t : Int), .int .i64 r, .int .i64 s, .int .i64 z] 50))
      obtain ⟨n0, n1, n2, n3⟩ := HN3.out.2
      have HEO3 := HEO _ (HF.out.below HB3a.out)
      clear hb HEO
      go_wp2_with fail
      with_reducible refine HEO3.out.mono ?_
      rintro e w4 ⟨A4, c4, rfl, hown, hb⟩
      have HB4 := kept (bel_to hb HB3a.out)
      have HST : Hid (∀ X, Keeps w4 X → Fou X w3.heap.size t r s z ∧ Fou X W.heap.size t r s z ∧ Fou X (W.heap.size + 1) t' r' s' z') := kept (fun X hX => ⟨(HX3.out.keeps (Keeps.of_below hb)).keeps hX, (HN3.out.1.keeps (Keeps.of_below hb)).keeps hX, (HN3.out.2.keeps (Keeps.of_below hb)).keeps hX⟩)
      have HS4 := kept (HSM A2 A4 c2 c4 w4.drew ((HR3.out.below hb).keeps (Keeps.drew _)) ((Rd.of_own hown).keeps (Keeps.drew _))).out
      clear hb hown n0 n1 n2 n3 HSM
      go_wp2_with fail
      generalize w3.heap.size = g3 at HST ⊢
      refine wp_region_held_drew (S := (fun W' => Fou W' g3 (t : Int) r s z ∧ Fou W' W.heap.size (t : Int) r s z ∧ Fou W' (W.heap.size + 1) (t' : Int) r' s' z')) (by kernel_rfl) ?_ (fun hHeld => ?_)
      · ((try dsimp only); (first | exact HST.out _ (Keeps.refl _) | exact HST.out _ (Keeps.drew _)))
      refine hand_take 0 (some 33) ?_ (by kernel_rfl) (by kernel_rfl) (by kernel_rfl) (by kernel_rfl) (by kernel_rfl) (fun _ _ _ h => h) ?_ (by assumption) ?_
      rotate_left
      · (intro o ho w hSw; (simp only [List.getElem?_toArray, List.getElem?_cons_succ, List.getElem?_cons_zero, Option.some.injEq] at ho); subst ho; (try dsimp only at hSw); go_simp; (first | done | with_reducible rfl))
      (try simp only [Act.put, List.setIfInBounds_toArray, List.set_cons_zero, List.set_cons_succ])
      refine hand_take 1 (some 34) ?_ (by kernel_rfl) (by kernel_rfl) (by kernel_rfl) (by kernel_rfl) (by kernel_rfl) (fun _ _ _ h => h) ?_ (by assumption) ?_
      rotate_left
      · (intro o ho w hSw; (simp only [List.getElem?_toArray, List.getElem?_cons_succ, List.getElem?_cons_zero, Option.some.injEq] at ho); subst ho; (try dsimp only at hSw); go_simp; (first | done | with_reducible rfl))
      (try simp only [Act.put, List.setIfInBounds_toArray, List.set_cons_zero, List.set_cons_succ])
      refine hand_take 2 (some 35) ?_ (by kernel_rfl) (by kernel_rfl) (by kernel_rfl) (by kernel_rfl) (by kernel_rfl) (fun _ _ _ h => h) ?_ (by assumption) ?_
      rotate_left
      · (intro o ho w hSw; (simp only [List.getElem?_toArray, List.getElem?_cons_succ, List.getElem?_cons_zero, Option.some.injEq] at ho); subst ho; (try dsimp only at hSw); go_simp; (first | done | with_reducible rfl))
      (try simp only [Act.put, List.setIfInBounds_toArray, List.set_cons_zero, List.set_cons_succ])
      refine hand_take 3 (some 36) ?_ (by kernel_rfl) (by kernel_rfl) (by kernel_rfl) (by kernel_rfl) (by kernel_rfl) (fun _ _ _ h => h) ?_ (by assumption) ?_
      rotate_left
      · (intro o ho w hSw; (simp only [List.getElem?_toArray, List.getElem?_cons_succ, List.getElem?_cons_zero, Option.some.injEq] at ho); subst ho; (try dsimp only at hSw); go_simp; (first | done | with_reducible rfl))
      (try simp only [Act.put, List.setIfInBounds_toArray, List.set_cons_zero, List.set_cons_succ])
      refine hand_take 4 (some 37) ?_ (by kernel_rfl) (by kernel_rfl) (by kernel_rfl) (by kernel_rfl) (by kernel_rfl) (fun _ _ _ h => h) ?_ (by assumption) ?_
      rotate_left
      · (intro o ho w hSw; (simp only [List.getElem?_toArray, List.getElem?_cons_succ, List.getElem?_cons_zero, Option.some.injEq] at ho); subst ho; (try dsimp only at hSw); go_simp; (first | done | with_reducible rfl))
      (try simp only [Act.put, List.setIfInBounds_toArray, List.set_cons_zero, List.set_cons_succ])
      refine hand_take 5 (some 38) ?_ (by kernel_rfl) (by kernel_rfl) (by kernel_rfl) (by kernel_rfl) (by kernel_rfl) (fun _ _ _ h => h) ?_ (by assumption) ?_
      rotate_left
      · (intro o ho w hSw; (simp only [List.getElem?_toArray, List.getElem?_cons_succ, List.getElem?_cons_zero, Option.some.injEq] at ho); subst ho; (try dsimp only at hSw); go_simp; (first | done | with_reducible rfl))
      (try simp only [Act.put, List.setIfInBounds_toArray, List.set_cons_zero, List.set_cons_succ])
      refine hand_take 6 (some 39) ?_ (by kernel_rfl) (by kernel_rfl) (by kernel_rfl) (by kernel_rfl) (by kernel_rfl) (fun _ _ _ h => h) ?_ (by assumption) ?_
      rotate_left
      · (intro o ho w hSw; (simp only [List.getElem?_toArray, List.getElem?_cons_succ, List.getElem?_cons_zero, Option.some.injEq] at ho); subst ho; (try dsimp only at hSw); go_simp; (first | done | with_reducible rfl))
      (try simp only [Act.put, List.setIfInBounds_toArray, List.set_cons_zero, List.set_cons_succ])
      refine hand_take 7 (some 40) ?_ (by kernel_rfl) (by kernel_rfl) (by kernel_rfl) (by kernel_rfl) (by kernel_rfl) (fun _ _ _ h => h) ?_ (by assumption) ?_
      rotate_left
      · (intro o ho w hSw; (simp only [List.getElem?_toArray, List.getElem?_cons_succ, List.getElem?_cons_zero, Option.some.injEq] at ho); subst ho; (try dsimp only at hSw); go_simp; (first | done | with_reducible rfl))
      (try simp only [Act.put, List.setIfInBounds_toArray, List.set_cons_zero, List.set_cons_succ])
      refine hand_take 8 (some 41) ?_ (by kernel_rfl) (by kernel_rfl) (by kernel_rfl) (by kernel_rfl) (by kernel_rfl) (fun _ _ _ h => h) ?_ (by assumption) ?_
      rotate_left
      · (intro o ho w hSw; (simp only [List.getElem?_toArray, List.getElem?_cons_succ, List.getElem?_cons_zero, Option.some.injEq] at ho); subst ho; (try dsimp only at hSw); go_simp; (first | done | with_reducible rfl))
      (try simp only [Act.put, List.setIfInBounds_toArray, List.set_cons_zero, List.set_cons_succ])
      refine hand_take 9 (some 42) ?_ (by kernel_rfl) (by kernel_rfl) (by kernel_rfl) (by kernel_rfl) (by kernel_rfl) (fun _ _ _ h => h) ?_ (by assumption) ?_
      rotate_left
      · (intro o ho w hSw; (simp only [List.getElem?_toArray, List.getElem?_cons_succ, List.getElem?_cons_zero, Option.some.injEq] at ho); subst ho; (try dsimp only at hSw); go_simp; (first | done | with_reducible rfl))
      (try simp only [Act.put, List.setIfInBounds_toArray, List.set_cons_zero, List.set_cons_succ])
      refine hand_take 10 (some 43) ?_ (by kernel_rfl) (by kernel_rfl) (by kernel_rfl) (by kernel_rfl) (by kernel_rfl) (fun _ _ _ h => h) ?_ (by assumption) ?_
      rotate_left
      · (intro o ho w hSw; (simp only [List.getElem?_toArray, List.getElem?_cons_succ, List.getElem?_cons_zero, Option.some.injEq] at ho); subst ho; (try dsimp only at hSw); go_simp; (first | done | with_reducible rfl))
      (try simp only [Act.put, List.setIfInBounds_toArray, List.set_cons_zero, List.set_cons_succ])
      refine hand_take 11 (some 44) ?_ (by kernel_rfl) (by kernel_rfl) (by kernel_rfl) (by kernel_rfl) (by kernel_rfl) (fun _ _ _ h => h) ?_ (by assumption) ?_
      rotate_left
      · (intro o ho w hSw; (simp only [List.getElem?_toArray, List.getElem?_cons_succ, List.getElem?_cons_zero, Option.some.injEq] at ho); subst ho; (try dsimp only at hSw); go_simp; (first | done | with_reducible rfl))
      (try simp only [Act.put, List.setIfInBounds_toArray, List.set_cons_zero, List.set_cons_succ])
      refine hand_take 12 (some 45) ?_ (by kernel_rfl) (by kernel_rfl) (by kernel_rfl) (by kernel_rfl) (by kernel_rfl) (fun _ _ _ h => h) ?_ (by assumption) ?_
      rotate_left
      · (intro o ho w hSw; (simp only [List.getElem?_toArray, List.getElem?_cons_succ, List.getElem?_cons_zero, Option.some.injEq] at ho); subst ho; (try dsimp only at hSw); go_simp; (first | done | with_reducible rfl))
      (try simp only [Act.put, List.setIfInBounds_toArray, List.set_cons_zero, List.set_cons_succ])
      refine hand_take 14 (some 47) ?_ (by kernel_rfl) (by kernel_rfl) (by kernel_rfl) (by kernel_rfl) (by kernel_rfl) (fun _ _ _ h => h) ?_ (by assumption) ?_
      rotate_left
      · (intro o ho w hSw; (simp only [List.getElem?_toArray, List.getElem?_cons_succ, List.getElem?_cons_zero, Option.some.injEq] at ho); subst ho; (try dsimp only at hSw); go_simp; (first | done | with_reducible rfl))
      (try simp only [Act.put, List.setIfInBounds_toArray, List.set_cons_zero, List.set_cons_succ])
      refine hand_take 15 (some 48) ?_ (by kernel_rfl) (by kernel_rfl) (by kernel_rfl) (by kernel_rfl) (by kernel_rfl) (fun _ _ _ h => h) ?_ (by assumption) ?_
      rotate_left
      · (intro o ho w hSw; (simp only [List.getElem?_toArray, List.getElem?_cons_succ, List.getElem?_cons_zero, Option.some.injEq] at ho); subst ho; (try dsimp only at hSw); go_simp; (first | done | with_reducible rfl))
      (try simp only [Act.put, List.setIfInBounds_toArray, List.set_cons_zero, List.set_cons_succ])
      refine hand_take 16 (some 49) ?_ (by kernel_rfl) (by kernel_rfl) (by kernel_rfl) (by kernel_rfl) (by kernel_rfl) (fun _ _ _ h => h) ?_ (by assumption) ?_
      rotate_left
      · (intro o ho w hSw; (simp only [List.getElem?_toArray, List.getElem?_cons_succ, List.getElem?_cons_zero, Option.some.injEq] at ho); subst ho; (try dsimp only at hSw); go_simp; (first | done | with_reducible rfl))
      (try simp only [Act.put, List.setIfInBounds_toArray, List.set_cons_zero, List.set_cons_succ])
      refine hand_ready 13 (by kernel_rfl) (by kernel_rfl) (fun o ho K hK => ?_)
      (simp only [List.getElem?_toArray, List.getElem?_cons_succ, List.getElem?_cons_zero, Option.some.injEq] at ho)
      subst ho
      go_simp
      (go_at_call 18; (with_reducible refine HS4.out.mono ?_); rintro e w7 ⟨rfl, rfl⟩)
      (try go_wp2_with fail)
      refine hK.out _ _ ?_ (fun hHeld => ?_)
      · ((try dsimp only); (first | exact HST.out _ (Keeps.refl _) | exact HST.out _ (Keeps.drew _)))
      clear hK K
      (try simp only [Act.put, List.setIfInBounds_toArray, List.set_cons_zero, List.set_cons_succ])
      refine hand_take 17 (some 50) ?_ (by kernel_rfl) (by kernel_rfl) (by kernel_rfl) (by kernel_rfl) (by kernel_rfl) (fun _ _ _ h => h) ?_ (by assumption) ?_
      rotate_left
      · (intro o ho w hSw; (simp only [List.getElem?_toArray, List.getElem?_cons_succ, List.getElem?_cons_zero, Option.some.injEq] at ho); subst ho; (try dsimp only at hSw); go_simp; (first | done | with_reducible rfl))
      (try simp only [Act.put, List.setIfInBounds_toArray, List.set_cons_zero, List.set_cons_succ])
      refine hand_take 18 (some 51) ?_ (by kernel_rfl) (by kernel_rfl) (by kernel_rfl) (by kernel_rfl) (by kernel_rfl) (fun _ _ _ h => h) ?_ (by assumption) ?_
      rotate_left
      · (intro o ho w hSw; (simp only [List.getElem?_toArray, List.getElem?_cons_succ, List.getElem?_cons_zero, Option.some.injEq] at ho); subst ho; (try dsimp only at hSw); go_simp; (first | done | with_reducible rfl))
      (try simp only [Act.put, List.setIfInBounds_toArray, List.set_cons_zero, List.set_cons_succ])
      refine hand_take 19 (some 52) ?_ (by kernel_rfl) (by kernel_rfl) (by kernel_rfl) (by kernel_rfl) (by kernel_rfl) (fun _ _ _ h => h) ?_ (by assumption) ?_
      rotate_left
      · (intro o ho w hSw; (simp only [List.getElem?_toArray, List.getElem?_cons_succ, List.getElem?_cons_zero, Option.some.injEq] at ho); subst ho; (try dsimp only at hSw); go_simp; (first | done | with_reducible rfl))
      (try simp only [Act.put, List.setIfInBounds_toArray, List.set_cons_zero, List.set_cons_succ])
      refine hand_take 20 (some 4) ?_ (by kernel_rfl) (by kernel_rfl) (by kernel_rfl) (by kernel_rfl) (by kernel_rfl) (fun _ _ _ h => h) ?_ (by assumption) ?_
      rotate_left
      · (intro o ho w hSw; (simp only [List.getElem?_toArray, List.getElem?_cons_succ, List.getElem?_cons_zero, Option.some.injEq] at ho); subst ho; (try dsimp only at hSw); go_simp; (first | done | with_reducible rfl))
      (try simp only [Act.put, List.setIfInBounds_toArray, List.set_cons_zero, List.set_cons_succ])
      refine wpAnyH_done (by kernel_rfl) ?_ _
      go_wp2
      go_ret
      exact ⟨rfl, HB4.out.drew⟩
    · have ho : rightM o = false := by simpa using ho
      have HEO := fun w => kept (encode_m_wrong o w ho)
      have heq1 := fun w => eql_m m m w
      simp only [decide_true] at heq1
      clear hr ho tx tx' HRM
      obtain ⟨t, r, s, z⟩ := m
      obtain ⟨t', r', s', z'⟩ := o
      simp only at HB0 HL0 HN0
      go_enter Tryd.func8, Tryd.ntmps8
      go_wp2_with fail
      with_reducible refine HL0.out.mono ?_
      rintro e w1 ⟨rfl, hb⟩
      have HB1 := kept (bel_to hb HB0.out)
      have HN1 := kept (And.intro (HN0.out.1.keeps (Keeps.of_below hb)) (HN0.out.2.keeps (Keeps.of_below hb)))
      obtain ⟨n0, n1, n2, n3⟩ := HN1.out.1
      clear hb
      go_wp2_with fail
      with_reducible refine (HEN _ (HF.out.below HB1.out)).out.mono ?_
      rintro e w2 ⟨A2, c2, rfl, hown, hb⟩
      have HR2 := kept (And.intro (Rd.of_own hown) (own_cap hown))
      have HB2 := kept (bel_to hb HB1.out)
      have HN2 := kept (And.intro (HN1.out.1.keeps (Keeps.of_below hb)) (HN1.out.2.keeps (Keeps.of_below hb)))
      have HD2 := HDC A2 c2 w2 HR2.out.1 HR2.out.2 (HF.out.below HB2.out)
      clear hown hb n0 n1 n2 n3 HDC HEN
      go_wp2_with fail
      with_reducible refine HD2.out.mono ?_
      rintro e w3 ⟨rfl, hb⟩
      have HB3 := kept (bel_to hb HB2.out)
      have HX3 := kept (fou_new w3 50 t r s z)
      have HN3 := kept (And.intro ((HN2.out.1.keeps (Keeps.of_below hb)).keeps (Keeps.alloc w3 (.cells #[.int .u64 (t : Int), .int .i64 r, .int .i64 s, .int .i64 z] 50))) ((HN2.out.2.keeps (Keeps.of_below hb)).keeps (Keeps.alloc w3 (.cells #[.int .u64 (t : Int), .int .i64 r, .int .i64 s, .int .i64 z] 50))))
      have HB3a := kept (HB3.out.alloc HB3.out.size (.cells #[.int .u64 (t : Int), .int .i64 r, .int .i64 s, .int .i64 z] 50))
      obtain ⟨n0, n1, n2, n3⟩ := HN3.out.2
      clear hb
      go_wp2_with fail
      with_reducible refine (HEO _).out.mono ?_
      rintro e w4 ⟨rfl, hb⟩
      have HB4 := kept (bel_to hb HB3a.out)
      have HST : Hid (∀ X, Keeps w4 X → Fou X w3.heap.size t r s z ∧ Fou X W.heap.size t r s z ∧ Fou X (W.heap.size + 1) t' r' s' z') := kept (fun X hX => ⟨(HX3.out.keeps (Keeps.of_below hb)).keeps hX, (HN3.out.1.keeps (Keeps.of_below hb)).keeps hX, (HN3.out.2.keeps (Keeps.of_below hb)).keeps hX⟩)
      clear hb n0 n1 n2 n3
      go_wp2_with fail
      generalize w3.heap.size = g3 at HST ⊢
      refine wp_region_held_drew (S := (fun W' => Fou W' g3 (t : Int) r s z ∧ Fou W' W.heap.size (t : Int) r s z ∧ Fou W' (W.heap.size + 1) (t' : Int) r' s' z')) (by kernel_rfl) ?_ (fun hHeld => ?_)
      · ((try dsimp only); (first | exact HST.out _ (Keeps.refl _) | exact HST.out _ (Keeps.drew _)))
      refine hand_take 0 (some 33) ?_ (by kernel_rfl) (by kernel_rfl) (by kernel_rfl) (by kernel_rfl) (by kernel_rfl) (fun _ _ _ h => h) ?_ (by assumption) ?_
      rotate_left
      · (intro o ho w hSw; (simp only [List.getElem?_toArray, List.getElem?_cons_succ, List.getElem?_cons_zero, Option.some.injEq] at ho); subst ho; (try dsimp only at hSw); go_simp; (first | done | with_reducible rfl))
      (try simp only [Act.put, List.setIfInBounds_toArray, List.set_cons_zero, List.set_cons_succ])
      refine hand_take 1 (some 34) ?_ (by kernel_rfl) (by kernel_rfl) (by kernel_rfl) (by kernel_rfl) (by kernel_rfl) (fun _ _ _ h => h) ?_ (by assumption) ?_
      rotate_left
      · (intro o ho w hSw; (simp only [List.getElem?_toArray, List.getElem?_cons_succ, List.getElem?_cons_zero, Option.some.injEq] at ho); subst ho; (try dsimp only at hSw); go_simp; (first | done | with_reducible rfl))
      (try simp only [Act.put, List.setIfInBounds_toArray, List.set_cons_zero, List.set_cons_succ])
      refine hand_take 2 (some 35) ?_ (by kernel_rfl) (by kernel_rfl) (by kernel_rfl) (by kernel_rfl) (by kernel_rfl) (fun _ _ _ h => h) ?_ (by assumption) ?_
      rotate_left
      · (intro o ho w hSw; (simp only [List.getElem?_toArray, List.getElem?_cons_succ, List.getElem?_cons_zero, Option.some.injEq] at ho); subst ho; (try dsimp only at hSw); go_simp; (first | done | with_reducible rfl))
      (try simp only [Act.put, List.setIfInBounds_toArray, List.set_cons_zero, List.set_cons_succ])
      refine hand_take 3 (some 36) ?_ (by kernel_rfl) (by kernel_rfl) (by kernel_rfl) (by kernel_rfl) (by kernel_rfl) (fun _ _ _ h => h) ?_ (by assumption) ?_
      rotate_left
      · (intro o ho w hSw; (simp only [List.getElem?_toArray, List.getElem?_cons_succ, List.getElem?_cons_zero, Option.some.injEq] at ho); subst ho; (try dsimp only at hSw); go_simp; (first | done | with_reducible rfl))
      (try simp only [Act.put, List.setIfInBounds_toArray, List.set_cons_zero, List.set_cons_succ])
      refine hand_take 4 (some 37) ?_ (by kernel_rfl) (by kernel_rfl) (by kernel_rfl) (by kernel_rfl) (by kernel_rfl) (fun _ _ _ h => h) ?_ (by assumption) ?_
      rotate_left
      · (intro o ho w hSw; (simp only [List.getElem?_toArray, List.getElem?_cons_succ, List.getElem?_cons_zero, Option.some.injEq] at ho); subst ho; (try dsimp only at hSw); go_simp; (first | done | with_reducible rfl))
      (try simp only [Act.put, List.setIfInBounds_toArray, List.set_cons_zero, List.set_cons_succ])
      refine hand_take 5 (some 38) ?_ (by kernel_rfl) (by kernel_rfl) (by kernel_rfl) (by kernel_rfl) (by kernel_rfl) (fun _ _ _ h => h) ?_ (by assumption) ?_
      rotate_left
      · (intro o ho w hSw; (simp only [List.getElem?_toArray, List.getElem?_cons_succ, List.getElem?_cons_zero, Option.some.injEq] at ho); subst ho; (try dsimp only at hSw); go_simp; (first | done | with_reducible rfl))
      (try simp only [Act.put, List.setIfInBounds_toArray, List.set_cons_zero, List.set_cons_succ])
      refine hand_take 6 (some 39) ?_ (by kernel_rfl) (by kernel_rfl) (by kernel_rfl) (by kernel_rfl) (by kernel_rfl) (fun _ _ _ h => h) ?_ (by assumption) ?_
      rotate_left
      · (intro o ho w hSw; (simp only [List.getElem?_toArray, List.getElem?_cons_succ, List.getElem?_cons_zero, Option.some.injEq] at ho); subst ho; (try dsimp only at hSw); go_simp; (first | done | with_reducible rfl))
      (try simp only [Act.put, List.setIfInBounds_toArray, List.set_cons_zero, List.set_cons_succ])
      refine hand_take 7 (some 40) ?_ (by kernel_rfl) (by kernel_rfl) (by kernel_rfl) (by kernel_rfl) (by kernel_rfl) (fun _ _ _ h => h) ?_ (by assumption) ?_
      rotate_left
      · (intro o ho w hSw; (simp only [List.getElem?_toArray, List.getElem?_cons_succ, List.getElem?_cons_zero, Option.some.injEq] at ho); subst ho; (try dsimp only at hSw); go_simp; (first | done | with_reducible rfl))
      (try simp only [Act.put, List.setIfInBounds_toArray, List.set_cons_zero, List.set_cons_succ])
      refine hand_take 8 (some 41) ?_ (by kernel_rfl) (by kernel_rfl) (by kernel_rfl) (by kernel_rfl) (by kernel_rfl) (fun _ _ _ h => h) ?_ (by assumption) ?_
      rotate_left
      · (intro o ho w hSw; (simp only [List.getElem?_toArray, List.getElem?_cons_succ, List.getElem?_cons_zero, Option.some.injEq] at ho); subst ho; (try dsimp only at hSw); go_simp; (first | done | with_reducible rfl))
      (try simp only [Act.put, List.setIfInBounds_toArray, List.set_cons_zero, List.set_cons_succ])
      refine hand_take 9 (some 42) ?_ (by kernel_rfl) (by kernel_rfl) (by kernel_rfl) (by kernel_rfl) (by kernel_rfl) (fun _ _ _ h => h) ?_ (by assumption) ?_
      rotate_left
      · (intro o ho w hSw; (simp only [List.getElem?_toArray, List.getElem?_cons_succ, List.getElem?_cons_zero, Option.some.injEq] at ho); subst ho; (try dsimp only at hSw); go_simp; (first | done | with_reducible rfl))
      (try simp only [Act.put, List.setIfInBounds_toArray, List.set_cons_zero, List.set_cons_succ])
      refine hand_take 10 (some 43) ?_ (by kernel_rfl) (by kernel_rfl) (by kernel_rfl) (by kernel_rfl) (by kernel_rfl) (fun _ _ _ h => h) ?_ (by assumption) ?_
      rotate_left
      · (intro o ho w hSw; (simp only [List.getElem?_toArray, List.getElem?_cons_succ, List.getElem?_cons_zero, Option.some.injEq] at ho); subst ho; (try dsimp only at hSw); go_simp; (first | done | with_reducible rfl))
      (try simp only [Act.put, List.setIfInBounds_toArray, List.set_cons_zero, List.set_cons_succ])
      refine hand_skip 11 (some 44) (by kernel_rfl) (by kernel_rfl) (by kernel_rfl) (by kernel_rfl) (by kernel_rfl) (fun _ _ _ h => h) (by assumption) ?_
      (try simp only [Act.put, List.setIfInBounds_toArray, List.set_cons_zero, List.set_cons_succ])
      refine hand_skip 12 (some 45) (by kernel_rfl) (by kernel_rfl) (by kernel_rfl) (by kernel_rfl) (by kernel_rfl) (fun _ _ _ h => h) (by assumption) ?_
      (try simp only [Act.put, List.setIfInBounds_toArray, List.set_cons_zero, List.set_cons_succ])
      refine hand_skip 13 (some 46) (by kernel_rfl) (by kernel_rfl) (by kernel_rfl) (by kernel_rfl) (by kernel_rfl) (fun _ _ _ h => h) (by assumption) ?_
      (try simp only [Act.put, List.setIfInBounds_toArray, List.set_cons_zero, List.set_cons_succ])
      refine hand_skip 14 (some 47) (by kernel_rfl) (by kernel_rfl) (by kernel_rfl) (by kernel_rfl) (by kernel_rfl) (fun _ _ _ h => h) (by assumption) ?_
      (try simp only [Act.put, List.setIfInBounds_toArray, List.set_cons_zero, List.set_cons_succ])
      refine hand_skip 15 (some 48) (by kernel_rfl) (by kernel_rfl) (by kernel_rfl) (by kernel_rfl) (by kernel_rfl) (fun _ _ _ h => h) (by assumption) ?_
      (try simp only [Act.put, List.setIfInBounds_toArray, List.set_cons_zero, List.set_cons_succ])
      refine hand_skip 16 (some 49) (by kernel_rfl) (by kernel_rfl) (by kernel_rfl) (by kernel_rfl) (by kernel_rfl) (fun _ _ _ h => h) (by assumption) ?_
      (try simp only [Act.put, List.setIfInBounds_toArray, List.set_cons_zero, List.set_cons_succ])
      refine hand_skip 17 (some 50) (by kernel_rfl) (by kernel_rfl) (by kernel_rfl) (by kernel_rfl) (by kernel_rfl) (fun _ _ _ h => h) (by assumption) ?_
      (try simp only [Act.put, List.setIfInBounds_toArray, List.set_cons_zero, List.set_cons_succ])
      refine hand_take 18 (some 51) ?_ (by kernel_rfl) (by kernel_rfl) (by kernel_rfl) (by kernel_rfl) (by kernel_rfl) (fun _ _ _ h => h) ?_ (by assumption) ?_
      rotate_left
      · (intro o ho w hSw; (simp only [List.getElem?_toArray, List.getElem?_cons_succ, List.getElem?_cons_zero, Option.some.injEq] at ho); subst ho; (try dsimp only at hSw); go_simp; (first | done | with_reducible rfl))
      (try simp only [Act.put, List.setIfInBounds_toArray, List.set_cons_zero, List.set_cons_succ])
      refine hand_take 19 (some 52) ?_ (by kernel_rfl) (by kernel_rfl) (by kernel_rfl) (by kernel_rfl) (by kernel_rfl) (fun _ _ _ h => h) ?_ (by assumption) ?_
      rotate_left
      · (intro o ho w hSw; (simp only [List.getElem?_toArray, List.getElem?_cons_succ, List.getElem?_cons_zero, Option.some.injEq] at ho); subst ho; (try dsimp only at hSw); go_simp; (first | done | with_reducible rfl))
      (try simp only [Act.put, List.setIfInBounds_toArray, List.set_cons_zero, List.set_cons_succ])
      refine hand_take 20 (some 4) ?_ (by kernel_rfl) (by kernel_rfl) (by kernel_rfl) (by kernel_rfl) (by kernel_rfl) (fun _ _ _ h => h) ?_ (by assumption) ?_
      rotate_left
      · (intro o ho w hSw; (simp only [List.getElem?_toArray, List.getElem?_cons_succ, List.getElem?_cons_zero, Option.some.injEq] at ho); subst ho; (try dsimp only at hSw); go_simp; (first | done | with_reducible rfl))
      (try simp only [Act.put, List.setIfInBounds_toArray, List.set_cons_zero, List.set_cons_succ])
      refine wpAnyH_done (by kernel_rfl) ?_ _
      go_wp2
      go_ret
      exact ⟨rfl, HB4.out.drew⟩
  · have hr : rightM m = false := by simpa using hr
    have HEN := fun w => kept (encode_m_wrong m w hr)
    rw [hr] at HRM
    clear hr tx tx'
    obtain ⟨t, r, s, z⟩ := m
    obtain ⟨t', r', s', z'⟩ := o
    simp only at HB0 HL0 HN0
    go_enter Tryd.func8, Tryd.ntmps8
    go_wp2_with fail
    with_reducible refine HL0.out.mono ?_
    rintro e w1 ⟨rfl, hb⟩
    have HB1 := kept (bel_to hb HB0.out)
    have HN1 := kept (And.intro (HN0.out.1.keeps (Keeps.of_below hb)) (HN0.out.2.keeps (Keeps.of_below hb)))
    obtain ⟨n0, n1, n2, n3⟩ := HN1.out.1
    clear hb
    go_wp2_with fail
    with_reducible refine (HEN _).out.mono ?_
    rintro e w2 ⟨rfl, hb⟩
    have HB2 := kept (bel_to hb HB1.out)
    clear n0 n1 n2 n3
    obtain ⟨n0, n1, n2, n3⟩ := HN1.out.1.keeps (Keeps.of_below hb)
    clear hb
    go_wp2_with (first | (go_at_call 28; (with_reducible refine ((HRM _).out).mono ?_); rintro e w5 ⟨rfl, hb⟩; have HB5 := kept (bel_to hb HB2.out); clear hb))
    go_ret
    exact ⟨rfl, HB5.out⟩
end Go.Proofs.YtfgpkgenahlikaaDoor.metaBack
