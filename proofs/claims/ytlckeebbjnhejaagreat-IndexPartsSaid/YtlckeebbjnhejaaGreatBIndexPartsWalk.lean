/-
  Texts laid together: IndexPartsWalk.
-/
import Derived.Test.YtlckeebbjnhejaaGreatBKv
section
/-
  The walk of the law IndexParts.
-/
namespace Go.Proofs.YtlckeebbjnhejaaGreat
open Go.ChangeShapes Go.WideShapes Go.ChangeAt Go.RowKit Go.Deep
set_option linter.unusedVariables false
set_option linter.unusedSimpArgs false
namespace indexParts
theorem not_nil {w : World} {A : Option Addr} {n : Nat} {xs : List UInt8} (h : Rd w A n xs) (hn : ¬ n = 0) : xs ≠ [] := fun e => by subst e; exact hn h.1.symm
set_option maxRecDepth 100000 in
set_option maxHeartbeats 8000000 in
theorem walk (w : World) (A : Option Addr) (n c : Nat) (hnc : n ≤ c) (hcm : c ≤ maxLen) (X : Nat → AcK) (hX : RdAcK w A n X) (A1 : Option Addr) (n1 c1 : Nat) (x1 : List UInt8) (h1 : Rd w A1 n1 x1) (hnc1 : n1 ≤ c1) (hb1 : n1 ≤ 140737488351232) (A2 : Option Addr) (n2 c2 : Nat) (x2 : List UInt8) (h2 : Rd w A2 n2 x2) (hnc2 : n2 ≤ c2) (hb2 : n2 ≤ 140737488351232) (A3 : Option Addr) (n3 c3 : Nat) (x3 : List UInt8) (h3 : Rd w A3 n3 x3) (hnc3 : n3 ≤ c3) (hb3 : n3 ≤ 140737488351232) (at_ : Int) (wa : (Lit.int .i64 at_).wf = true) :
    Calls Tryz.prog 5 #[.slice A n c, .slice A1 n1 c1, .slice A2 n2 c2, .slice A3 n3 c3, .int .i64 at_] w fun e w' => e = .returned (.bool true) ∧ Below w.heap.size w w' := by
  have HL := kept (livesX_any w)
  have HF := fun W (h : Below w.heap.size w W) => kept (few_any (hX.keeps (Keeps.of_below h)) hnc hcm)
  have HX := kept hX
  have H1 := kept h1
  have H2 := kept h2
  have H3 := kept h3
  clear hX hnc hcm wa h1 h2 h3
  go_enter Tryz.func5, Tryz.ntmps5
  go_upto_region 1 with fail
  go_cut [51] (fun t wx => ∃ b : Bool, t = .bool b ∧ Hid (Below w.heap.size w wx) ∧ Hid (b = false → Few n X ∧ PartC x1 x2 x3))
  case first =>
    go_wp2_with fail
    with_reducible refine HL.out.mono ?_
    rintro e w1 ⟨rfl, hb⟩
    have HB1 := kept hb
    clear hb HL
    go_wp2_with fail
    with_reducible refine (HF w1 HB1.out).out.mono ?_
    rintro e w2 ⟨t, rfl, hf, hb⟩
    have HB2 := kept (bel_to hb HB1.out)
    clear hb HF
    cases t with
    | false =>
      clear hf
      go_wp2_with fail
      go_meet
      exact ⟨true, rfl, HB2, kept (fun h => by cases h)⟩
    | true =>
      have HFEW := kept (hf rfl)
      clear hf
      by_cases z3 : n3 = 0
      · have z3' : (n3 : Int) = 0 := by omega
        clear z3
        go_wp2_with fail
        go_meet
        exact ⟨true, rfl, HB2, kept (fun h => by cases h)⟩
      have z3' : ¬ (n3 : Int) = 0 := by omega
      have e3 := kept (not_nil H3.out z3)
      have HS3 := kept (same_any A3 (some ⟨w2.heap.size, 0, none⟩) n3 1 c3 1 x3 [0] (w2.alloc (.cells #[.int .u8 0] 5)) ((H3.out.keeps (Keeps.of_below HB2.out)).alloc _) (rd_mark w2 (C := #[.int .u8 0]) (ys := [0]) rfl rfl (0, 0)) _ rfl)
      have HB3 := kept (bel_to (below_row w2 #[.int .u8 0] (0, 0)) HB2.out)
      go_wp2_with fail
      with_reducible refine HS3.out.mono ?_
      rintro e w3 ⟨rfl, hw3⟩
      rw [hw3] at HB3
      clear hw3 HS3 HB2
      have HZ3 := kept (show decide (x3 = [0]) = false → x3 ≠ [0] from of_decide_eq_false)
      generalize decide (x3 = [0]) = q3 at HZ3
      cases q3 with
      | true =>
        go_wp2_with fail
        go_meet
        exact ⟨true, rfl, HB3, kept (fun h => by cases h)⟩
      | false =>
        by_cases z2 : n2 = 0
        · have z2' : (n2 : Int) = 0 := by omega
          clear z2
          go_wp2_with fail
          go_meet
          exact ⟨true, rfl, HB3, kept (fun h => by cases h)⟩
        have z2' : ¬ (n2 : Int) = 0 := by omega
        have e2 := kept (not_nil H2.out z2)
        have HS4 := kept (same_any A2 (some ⟨w3.heap.size, 0, none⟩) n2 1 c2 1 x2 [0] (w3.alloc (.cells #[.int .u8 0] 5)) ((H2.out.keeps (Keeps.of_below HB3.out)).alloc _) (rd_mark w3 (C := #[.int .u8 0]) (ys := [0]) rfl rfl (0, 0)) _ rfl)
        have HB4 := kept (bel_to (below_row w3 #[.int .u8 0] (0, 0)) HB3.out)
        go_wp2_with fail
        with_reducible refine HS4.out.mono ?_
        rintro e w4 ⟨rfl, hw4⟩
        rw [hw4] at HB4
        clear hw4 HS4 HB3
        have HZ2 := kept (show decide (x2 = [0]) = false → x2 ≠ [0] from of_decide_eq_false)
        generalize decide (x2 = [0]) = q2 at HZ2
        cases q2 with
        | true =>
          go_wp2_with fail
          go_meet
          exact ⟨true, rfl, HB4, kept (fun h => by cases h)⟩
        | false =>
          have HS5 := kept (ahead_any A2 A1 n2 n1 c2 c1 x2 x1 w4 (H2.out.keeps (Keeps.of_below HB4.out)) (H1.out.keeps (Keeps.of_below HB4.out)) (by omega) (by omega))
          go_wp2_with fail
          with_reducible refine HS5.out.mono ?_
          rintro e w5 ⟨rfl, hw5⟩
          have HB5 : Hid (Below w.heap.size w w5) := kept (by obtain ⟨q, rfl⟩ := hw5.out; exact drewN_below HB4.out q)
          clear hw5 HS5 HB4
          generalize hk5 : ahead x2 x1 = q5
          have HK5 := kept hk5
          clear hk5
          cases q5 with
          | true =>
            go_wp2_with fail
            go_meet
            exact ⟨true, rfl, HB5, kept (fun h => by cases h)⟩
          | false =>
            have HS6 := kept (ahead_any A3 A2 n3 n2 c3 c2 x3 x2 w5 (H3.out.keeps (Keeps.of_below HB5.out)) (H2.out.keeps (Keeps.of_below HB5.out)) (by omega) (by omega))
            go_wp2_with fail
            with_reducible refine HS6.out.mono ?_
            rintro e w6 ⟨rfl, hw6⟩
            have HB6 : Hid (Below w.heap.size w w6) := kept (by obtain ⟨q, rfl⟩ := hw6.out; exact drewN_below HB5.out q)
            clear hw6 HS6 HB5
            generalize hk6 : ahead x3 x2 = q6
            have HK6 := kept hk6
            clear hk6
            go_wp2_with fail
            go_meet
            exact ⟨q6, by rw [show ((n3 : Int) == 0) = false from beq_false_of_ne z3', show ((n2 : Int) == 0) = false from beq_false_of_ne z2']; rfl, HB6, kept (fun h => ⟨HFEW.out, ⟨e3.out, HZ3.out (by trivial), e2.out, HZ2.out (by trivial), HK5.out, by rw [HK6.out]; exact h⟩⟩)⟩
  case rest =>
  obtain ⟨b, rfl, HBX, HC⟩ := hcut
  cases b with
  | true =>
    have HL2 := kept (livesX_any wc)
    go_wp2_with fail
    with_reducible refine HL2.out.mono ?_
    rintro e w3 ⟨rfl, hb⟩
    have HB3 := kept (bel_to hb HBX.out)
    clear hb
    go_wp2
    go_returns
    exact ⟨rfl, HB3.out⟩
  | false =>
    have HM := kept (madeX_any (c := c) (HX.out.keeps (Keeps.of_below HBX.out)) (HC.out rfl).1)
    have HPC := kept (HC.out rfl).2
    clear HC
    go_wp2_with fail
    with_reducible refine HM.out.mono ?_
    rintro e w3 ⟨x, F, l, P, y, rfl, hj⟩
    have HJ := kept hj
    have HB3 := kept (bel_to hj.bel HBX.out)
    clear hj HM
    have HR4 := kept (xrangeP_any HJ.out.ix HJ.out.good.inv (by omega) A1 n1 c1 x1 (H1.out.keeps (Keeps.of_below HB3.out)) (by omega) A3 n3 c3 x3 (H3.out.keeps (Keeps.of_below HB3.out)) (by omega) at_)
    go_wp2_with fail
    with_reducible refine HR4.out.mono ?_
    rintro e w4 ⟨A4, n4, k4, hs4, rfl, ho4, hh4, hb4⟩
    have HO4 := kept ho4
    have HB4 := kept (bel_to hb4 HB3.out)
    have HJ4 := kept (HJ.out.below hb4)
    have HR5 := kept (xrangeP_any HJ4.out.ix HJ4.out.good.inv (by omega) A1 n1 c1 x1 (H1.out.keeps (Keeps.of_below HB4.out)) (by omega) A2 n2 c2 x2 (H2.out.keeps (Keeps.of_below HB4.out)) (by omega) at_)
    clear ho4 hb4 HR4
    go_wp2_with fail
    with_reducible refine HR5.out.mono ?_
    rintro e w5 ⟨A5, n5, k5, hs5, rfl, ho5, hh5, hb5⟩
    have HO5 := kept ho5
    have HB5 := kept (bel_to hb5 HB4.out)
    have HB45 := kept hb5
    have HJ5 := kept (HJ4.out.below hb5)
    have HR6 := kept (xrangeP_any HJ5.out.ix HJ5.out.good.inv (by omega) A2 n2 c2 x2 (H2.out.keeps (Keeps.of_below HB5.out)) (by omega) A3 n3 c3 x3 (H3.out.keeps (Keeps.of_below HB5.out)) (by omega) at_)
    clear ho5 hb5 HR5
    go_wp2_with fail
    with_reducible refine HR6.out.mono ?_
    rintro e w6 ⟨A6, n6, k6, hs6, rfl, ho6, hh6, hb6⟩
    have HEQ : Hid (hs4.map HtL.px = (hs5 ++ hs6).map HtL.px) := kept (by rw [List.map_append, hh4, hh5, hh6]; exact hits_parts HPC.out at_ HJ.out.good.inv.rise)
    have HNN : Hid (n5 + n6 = n4) := kept (by
      have := congrArg List.length HEQ.out
      rw [List.length_map, List.length_map, List.length_append, HO4.out.ln, HO5.out.ln, ho6.ln] at this
      exact this.symm)
    have hn4 : n4 ≤ 120 := by
      have h1 := congrArg List.length hh4
      rw [List.length_map, HO4.out.ln] at h1
      have h2 : (hitsX P x1 x3 at_).length ≤ P.length := Nat.le_trans (List.length_filterMap_le _ _) (List.length_filter_le _ _)
      have := HJ.out.good.inv.ln
      omega
    have HO56 := kept (HO5.out.below hb6)
    have HO6 := kept ho6
    have HO46 := kept ((HO4.out.below HB45.out).below hb6)
    have HB46 := kept (bel_to hb6 HB45.out)
    have HB6 := kept (bel_to hb6 HB5.out)
    have hn56 : n5 + n6 ≤ 3000000 := by have := HNN.out; omega
    clear ho6 hb6 HR6 hh4 hh5 hh6
    go_wp2_with (first | (at_builtin; refine wpList_append_h rfl _ _ 34 rfl 37 rfl rfl Tryz.underlying34 hitinfo rfl (by decide) (by decide) HO56.out.row (m := n6) (ys := htC hs6) (by rw [htC_length, HO6.out.ln]) (fun h0 => HO6.out.src h0) (htC_one _) hn56 HB46.out.size ?_; intro A7 c7 w7 h7 g7; have HO7 := kept (HOut.joined HO56.out HO6.out HB45.out.size h7 g7); have HB47 := kept (bel_grown HB46.out (Nat.le_refl _) HO56.out.row g7); (try simp only [HNN.out]); rw [HNN.out] at HO7; clear h7 g7))
    have HO47 := kept (HO4.out.below HB47.out)
    have HBW := kept (bel_to HB47.out HB4.out)
    clear HO46 HO56 HO6 HB46 HB6 HJ5 HJ4 HB45 hn56
    go_loopw [78] (fun i wr => ∃ (j : Nat), j ≤ n4 ∧ i = .int .i64 (j : Int) ∧ Hid (Below w7.heap.size w7 wr)) (fun i _ => n4 - (intOf i).toNat)
    case atStart => exact ⟨0, Nat.zero_le _, rfl, kept (Below.refl _ _)⟩
    case round =>
      obtain ⟨j, hj, rfl, HI⟩ := hrel
      have hj0 : (0 : Int) ≤ (j : Int) := by omega
      by_cases hjn : j < n4
      · have hjn' : (j : Int) < (n4 : Int) := by omega
        have hwj : wrap64 ((j : Int) + 1) = (j : Int) + 1 := IntWalk.wrap64_in _ ⟨by omega, by omega⟩
        obtain ⟨g, g2, HA, Hn, Hc, HA2, Hn2, Hc2, xs, f, hA4, hA7, hcs, ha, hb⟩ := pair_at (HO47.out.below HI.out) (HO7.out.below HI.out) HEQ.out hjn
        subst hA4 hA7
        have HJN := kept hjn
        have HSM := kept (same_any HA HA2 Hn Hn2 Hc Hc2 xs xs wr.drew ha hb true (by simp))
        have HS0 := kept (show (fun W' : World => (W'.cell? ⟨g, j * 5, none⟩ = some (.slice HA Hn Hc) ∧ W'.cell? ⟨g, j * 5 + 1, none⟩ = some (.int .i64 f.1.1) ∧ W'.cell? ⟨g, j * 5 + 2, none⟩ = some (.int .i64 f.1.2) ∧ W'.cell? ⟨g, j * 5 + 3, none⟩ = some (.int .i64 f.2.1) ∧ W'.cell? ⟨g, j * 5 + 4, none⟩ = some (.int .i64 f.2.2)) ∧ (W'.cell? ⟨g2, j * 5, none⟩ = some (.slice HA2 Hn2 Hc2) ∧ W'.cell? ⟨g2, j * 5 + 1, none⟩ = some (.int .i64 f.1.1) ∧ W'.cell? ⟨g2, j * 5 + 2, none⟩ = some (.int .i64 f.1.2) ∧ W'.cell? ⟨g2, j * 5 + 3, none⟩ = some (.int .i64 f.2.1) ∧ W'.cell? ⟨g2, j * 5 + 4, none⟩ = some (.int .i64 f.2.2))) wr.drew from hcs)
        have hne := fun W => neq_fnd f.1.1 f.1.2 f.2.1 f.2.2 W
        clear ha hb hcs hjn hj
        go_wp2
        refine wp_region_held_drew (S := (fun W' : World => (W'.cell? ⟨g, j * 5, none⟩ = some (.slice HA Hn Hc) ∧ W'.cell? ⟨g, j * 5 + 1, none⟩ = some (.int .i64 f.1.1) ∧ W'.cell? ⟨g, j * 5 + 2, none⟩ = some (.int .i64 f.1.2) ∧ W'.cell? ⟨g, j * 5 + 3, none⟩ = some (.int .i64 f.2.1) ∧ W'.cell? ⟨g, j * 5 + 4, none⟩ = some (.int .i64 f.2.2)) ∧ (W'.cell? ⟨g2, j * 5, none⟩ = some (.slice HA2 Hn2 Hc2) ∧ W'.cell? ⟨g2, j * 5 + 1, none⟩ = some (.int .i64 f.1.1) ∧ W'.cell? ⟨g2, j * 5 + 2, none⟩ = some (.int .i64 f.1.2) ∧ W'.cell? ⟨g2, j * 5 + 3, none⟩ = some (.int .i64 f.2.1) ∧ W'.cell? ⟨g2, j * 5 + 4, none⟩ = some (.int .i64 f.2.2)))) (by kernel_rfl) ?_ (fun hHeld => ?_)
        · ((try dsimp only); (with_reducible exact HS0.out))
        refine hand_take 0 (some 81) ?_ (by kernel_rfl) (by kernel_rfl) (by kernel_rfl) (by kernel_rfl) (by kernel_rfl) (fun _ _ _ h => h) ?_ (by assumption) ?_
        rotate_left
        · (intro o ho w hSw; (simp only [List.getElem?_toArray, List.getElem?_cons_succ, List.getElem?_cons_zero, Option.some.injEq] at ho); subst ho; (try dsimp only at hSw); go_simp; (first | done | with_reducible rfl))
        (try simp only [Act.put, List.setIfInBounds_toArray, List.set_cons_zero, List.set_cons_succ])
        refine hand_take 1 (some 82) ?_ (by kernel_rfl) (by kernel_rfl) (by kernel_rfl) (by kernel_rfl) (by kernel_rfl) (fun _ _ _ h => h) ?_ (by assumption) ?_
        rotate_left
        · (intro o ho w hSw; (simp only [List.getElem?_toArray, List.getElem?_cons_succ, List.getElem?_cons_zero, Option.some.injEq] at ho); subst ho; (try dsimp only at hSw); go_simp; (first | done | with_reducible rfl))
        (try simp only [Act.put, List.setIfInBounds_toArray, List.set_cons_zero, List.set_cons_succ])
        refine hand_take 2 (some 83) ?_ (by kernel_rfl) (by kernel_rfl) (by kernel_rfl) (by kernel_rfl) (by kernel_rfl) (fun _ _ _ h => h) ?_ (by assumption) ?_
        rotate_left
        · (intro o ho w hSw; (simp only [List.getElem?_toArray, List.getElem?_cons_succ, List.getElem?_cons_zero, Option.some.injEq] at ho); subst ho; (try dsimp only at hSw); go_simp; (first | done | with_reducible rfl))
        (try simp only [Act.put, List.setIfInBounds_toArray, List.set_cons_zero, List.set_cons_succ])
        refine hand_take 3 (some 84) ?_ (by kernel_rfl) (by kernel_rfl) (by kernel_rfl) (by kernel_rfl) (by kernel_rfl) (fun _ _ _ h => h) ?_ (by assumption) ?_
        rotate_left
        · (intro o ho w hSw; (simp only [List.getElem?_toArray, List.getElem?_cons_succ, List.getElem?_cons_zero, Option.some.injEq] at ho); subst ho; (try dsimp only at hSw); go_simp; (first | done | with_reducible rfl))
        (try simp only [Act.put, List.setIfInBounds_toArray, List.set_cons_zero, List.set_cons_succ])
        refine hand_take 4 (some 85) ?_ (by kernel_rfl) (by kernel_rfl) (by kernel_rfl) (by kernel_rfl) (by kernel_rfl) (fun _ _ _ h => h) ?_ (by assumption) ?_
        rotate_left
        · (intro o ho w hSw; (simp only [List.getElem?_toArray, List.getElem?_cons_succ, List.getElem?_cons_zero, Option.some.injEq] at ho); subst ho; (try dsimp only at hSw); go_simp; (first | done | with_reducible rfl))
        (try simp only [Act.put, List.setIfInBounds_toArray, List.set_cons_zero, List.set_cons_succ])
        refine hand_take 5 (some 86) ?_ (by kernel_rfl) (by kernel_rfl) (by kernel_rfl) (by kernel_rfl) (by kernel_rfl) (fun _ _ _ h => h) ?_ (by assumption) ?_
        rotate_left
        · (intro o ho w hSw; (simp only [List.getElem?_toArray, List.getElem?_cons_succ, List.getElem?_cons_zero, Option.some.injEq] at ho); subst ho; (try dsimp only at hSw); go_simp; (first | done | with_reducible rfl))
        (try simp only [Act.put, List.setIfInBounds_toArray, List.set_cons_zero, List.set_cons_succ])
        refine hand_take 6 (some 87) ?_ (by kernel_rfl) (by kernel_rfl) (by kernel_rfl) (by kernel_rfl) (by kernel_rfl) (fun _ _ _ h => h) ?_ (by assumption) ?_
        rotate_left
        · (intro o ho w hSw; (simp only [List.getElem?_toArray, List.getElem?_cons_succ, List.getElem?_cons_zero, Option.some.injEq] at ho); subst ho; (try dsimp only at hSw); go_simp; (first | done | with_reducible rfl))
        (try simp only [Act.put, List.setIfInBounds_toArray, List.set_cons_zero, List.set_cons_succ])
        refine hand_take 7 (some 88) ?_ (by kernel_rfl) (by kernel_rfl) (by kernel_rfl) (by kernel_rfl) (by kernel_rfl) (fun _ _ _ h => h) ?_ (by assumption) ?_
        rotate_left
        · (intro o ho w hSw; (simp only [List.getElem?_toArray, List.getElem?_cons_succ, List.getElem?_cons_zero, Option.some.injEq] at ho); subst ho; (try dsimp only at hSw); go_simp; (first | done | with_reducible rfl))
        (try simp only [Act.put, List.setIfInBounds_toArray, List.set_cons_zero, List.set_cons_succ])
        refine hand_take 8 (some 89) ?_ (by kernel_rfl) (by kernel_rfl) (by kernel_rfl) (by kernel_rfl) (by kernel_rfl) (fun _ _ _ h => h) ?_ (by assumption) ?_
        rotate_left
        · (intro o ho w hSw; (simp only [List.getElem?_toArray, List.getElem?_cons_succ, List.getElem?_cons_zero, Option.some.injEq] at ho); subst ho; (try dsimp only at hSw); go_simp; (first | done | with_reducible rfl))
        (try simp only [Act.put, List.setIfInBounds_toArray, List.set_cons_zero, List.set_cons_succ])
        refine hand_take 9 (some 90) ?_ (by kernel_rfl) (by kernel_rfl) (by kernel_rfl) (by kernel_rfl) (by kernel_rfl) (fun _ _ _ h => h) ?_ (by assumption) ?_
        rotate_left
        · (intro o ho w hSw; (simp only [List.getElem?_toArray, List.getElem?_cons_succ, List.getElem?_cons_zero, Option.some.injEq] at ho); subst ho; (try dsimp only at hSw); go_simp; (first | done | with_reducible rfl))
        (try simp only [Act.put, List.setIfInBounds_toArray, List.set_cons_zero, List.set_cons_succ])
        refine hand_ready 10 (by kernel_rfl) (by kernel_rfl) (fun o ho K hK => ?_)
        (simp only [List.getElem?_toArray, List.getElem?_cons_succ, List.getElem?_cons_zero, Option.some.injEq] at ho)
        subst ho
        go_simp
        (go_at_call 13; (with_reducible refine HSM.out.mono ?_); rintro e _ ⟨rfl, rfl⟩)
        (try go_wp2_with fail)
        refine hK.out _ _ ?_ (fun hHeld => ?_)
        · ((try dsimp only); (with_reducible exact HS0.out))
        clear hK K
        (try simp only [Act.put, List.setIfInBounds_toArray, List.set_cons_zero, List.set_cons_succ])
        refine hand_take 11 (some 92) ?_ (by kernel_rfl) (by kernel_rfl) (by kernel_rfl) (by kernel_rfl) (by kernel_rfl) (fun _ _ _ h => h) ?_ (by assumption) ?_
        rotate_left
        · (intro o ho w hSw; (simp only [List.getElem?_toArray, List.getElem?_cons_succ, List.getElem?_cons_zero, Option.some.injEq] at ho); subst ho; (try dsimp only at hSw); go_simp; (first | done | with_reducible rfl))
        (try simp only [Act.put, List.setIfInBounds_toArray, List.set_cons_zero, List.set_cons_succ])
        refine hand_take 12 (some 93) ?_ (by kernel_rfl) (by kernel_rfl) (by kernel_rfl) (by kernel_rfl) (by kernel_rfl) (fun _ _ _ h => h) ?_ (by assumption) ?_
        rotate_left
        · (intro o ho w hSw; (simp only [List.getElem?_toArray, List.getElem?_cons_succ, List.getElem?_cons_zero, Option.some.injEq] at ho); subst ho; (try dsimp only at hSw); go_simp; (first | done | with_reducible rfl))
        (try simp only [Act.put, List.setIfInBounds_toArray, List.set_cons_zero, List.set_cons_succ])
        refine hand_take 13 (some 94) ?_ (by kernel_rfl) (by kernel_rfl) (by kernel_rfl) (by kernel_rfl) (by kernel_rfl) (fun _ _ _ h => h) ?_ (by assumption) ?_
        rotate_left
        · (intro o ho w hSw; (simp only [List.getElem?_toArray, List.getElem?_cons_succ, List.getElem?_cons_zero, Option.some.injEq] at ho); subst ho; (try dsimp only at hSw); go_simp; (first | done | with_reducible rfl))
        (try simp only [Act.put, List.setIfInBounds_toArray, List.set_cons_zero, List.set_cons_succ])
        refine hand_take 14 (some 95) ?_ (by kernel_rfl) (by kernel_rfl) (by kernel_rfl) (by kernel_rfl) (by kernel_rfl) (fun _ _ _ h => h) ?_ (by assumption) ?_
        rotate_left
        · (intro o ho w hSw; (simp only [List.getElem?_toArray, List.getElem?_cons_succ, List.getElem?_cons_zero, Option.some.injEq] at ho); subst ho; (try dsimp only at hSw); go_simp; (first | done | with_reducible rfl))
        (try simp only [Act.put, List.setIfInBounds_toArray, List.set_cons_zero, List.set_cons_succ])
        refine hand_take 15 (some 96) ?_ (by kernel_rfl) (by kernel_rfl) (by kernel_rfl) (by kernel_rfl) (by kernel_rfl) (fun _ _ _ h => h) ?_ (by assumption) ?_
        rotate_left
        · (intro o ho w hSw; (simp only [List.getElem?_toArray, List.getElem?_cons_succ, List.getElem?_cons_zero, Option.some.injEq] at ho); subst ho; (try dsimp only at hSw); go_simp; (first | done | with_reducible rfl))
        (try simp only [Act.put, List.setIfInBounds_toArray, List.set_cons_zero, List.set_cons_succ])
        refine hand_take 16 (some 97) ?_ (by kernel_rfl) (by kernel_rfl) (by kernel_rfl) (by kernel_rfl) (by kernel_rfl) (fun _ _ _ h => h) ?_ (by assumption) ?_
        rotate_left
        · (intro o ho w hSw; (simp only [List.getElem?_toArray, List.getElem?_cons_succ, List.getElem?_cons_zero, Option.some.injEq] at ho); subst ho; (try dsimp only at hSw); go_simp; (first | done | with_reducible rfl))
        (try simp only [Act.put, List.setIfInBounds_toArray, List.set_cons_zero, List.set_cons_succ])
        refine hand_take 17 (some 98) ?_ (by kernel_rfl) (by kernel_rfl) (by kernel_rfl) (by kernel_rfl) (by kernel_rfl) (fun _ _ _ h => h) ?_ (by assumption) ?_
        rotate_left
        · (intro o ho w hSw; (simp only [List.getElem?_toArray, List.getElem?_cons_succ, List.getElem?_cons_zero, Option.some.injEq] at ho); subst ho; (try dsimp only at hSw); go_simp; (first | done | with_reducible rfl))
        (try simp only [Act.put, List.setIfInBounds_toArray, List.set_cons_zero, List.set_cons_succ])
        refine hand_take 18 (some 99) ?_ (by kernel_rfl) (by kernel_rfl) (by kernel_rfl) (by kernel_rfl) (by kernel_rfl) (fun _ _ _ h => h) ?_ (by assumption) ?_
        rotate_left
        · (intro o ho w hSw; (simp only [List.getElem?_toArray, List.getElem?_cons_succ, List.getElem?_cons_zero, Option.some.injEq] at ho); subst ho; (try dsimp only at hSw); go_simp; (first | done | with_reducible rfl))
        (try simp only [Act.put, List.setIfInBounds_toArray, List.set_cons_zero, List.set_cons_succ])
        refine hand_take 19 (some 100) ?_ (by kernel_rfl) (by kernel_rfl) (by kernel_rfl) (by kernel_rfl) (by kernel_rfl) (fun _ _ _ h => h) ?_ (by assumption) ?_
        rotate_left
        · (intro o ho w hSw; (simp only [List.getElem?_toArray, List.getElem?_cons_succ, List.getElem?_cons_zero, Option.some.injEq] at ho); subst ho; (try dsimp only at hSw); go_simp; (first | done | with_reducible rfl))
        (try simp only [Act.put, List.setIfInBounds_toArray, List.set_cons_zero, List.set_cons_succ])
        refine hand_take 20 (some 101) ?_ (by kernel_rfl) (by kernel_rfl) (by kernel_rfl) (by kernel_rfl) (by kernel_rfl) (fun _ _ _ h => h) ?_ (by assumption) ?_
        rotate_left
        · (intro o ho w hSw; (simp only [List.getElem?_toArray, List.getElem?_cons_succ, List.getElem?_cons_zero, Option.some.injEq] at ho); subst ho; (try dsimp only at hSw); go_simp; (first | done | with_reducible rfl))
        (try simp only [Act.put, List.setIfInBounds_toArray, List.set_cons_zero, List.set_cons_succ])
        refine hand_take 21 (some 102) ?_ (by kernel_rfl) (by kernel_rfl) (by kernel_rfl) (by kernel_rfl) (by kernel_rfl) (fun _ _ _ h => h) ?_ (by assumption) ?_
        rotate_left
        · (intro o ho w hSw; (simp only [List.getElem?_toArray, List.getElem?_cons_succ, List.getElem?_cons_zero, Option.some.injEq] at ho); subst ho; (try dsimp only at hSw); go_simp; (first | done | with_reducible rfl))
        (try simp only [Act.put, List.setIfInBounds_toArray, List.set_cons_zero, List.set_cons_succ])
        refine hand_take 22 (some 103) ?_ (by kernel_rfl) (by kernel_rfl) (by kernel_rfl) (by kernel_rfl) (by kernel_rfl) (fun _ _ _ h => h) ?_ (by assumption) ?_
        rotate_left
        · (intro o ho w hSw; (simp only [List.getElem?_toArray, List.getElem?_cons_succ, List.getElem?_cons_zero, Option.some.injEq] at ho); subst ho; (try dsimp only at hSw); go_simp; (first | done | with_reducible rfl))
        (try simp only [Act.put, List.setIfInBounds_toArray, List.set_cons_zero, List.set_cons_succ])
        refine hand_take 23 (some 104) ?_ (by kernel_rfl) (by kernel_rfl) (by kernel_rfl) (by kernel_rfl) (by kernel_rfl) (fun _ _ _ h => h) ?_ (by assumption) ?_
        rotate_left
        · (intro o ho w hSw; (simp only [List.getElem?_toArray, List.getElem?_cons_succ, List.getElem?_cons_zero, Option.some.injEq] at ho); subst ho; (try dsimp only at hSw); go_simp; (first | done | with_reducible rfl))
        (try simp only [Act.put, List.setIfInBounds_toArray, List.set_cons_zero, List.set_cons_succ])
        refine hand_take 24 (some 105) ?_ (by kernel_rfl) (by kernel_rfl) (by kernel_rfl) (by kernel_rfl) (by kernel_rfl) (fun _ _ _ h => h) ?_ (by assumption) ?_
        rotate_left
        · (intro o ho w hSw; (simp only [List.getElem?_toArray, List.getElem?_cons_succ, List.getElem?_cons_zero, Option.some.injEq] at ho); subst ho; (try dsimp only at hSw); go_simp; (first | done | with_reducible rfl))
        (try simp only [Act.put, List.setIfInBounds_toArray, List.set_cons_zero, List.set_cons_succ])
        refine wpAnyH_done (by kernel_rfl) ?_ _
        clear hHeld
        go_wp2
        go_roundw
        case rel => exact ⟨j + 1, by have := HJN.out; omega, by go_num, kept HI.out.drew⟩
        case measure => have := HJN.out; simp [intOf]; omega
      · obtain rfl : j = n4 := by omega
        go_wp2
        go_returns
        exact ⟨rfl, bel_to HI.out HBW.out⟩
end indexParts
end Go.Proofs.YtlckeebbjnhejaaGreat
end
