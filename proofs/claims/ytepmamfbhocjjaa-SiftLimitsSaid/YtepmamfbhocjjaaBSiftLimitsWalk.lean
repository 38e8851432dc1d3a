/-
  Texts laid together: SiftLimitsWalk.
-/
import Derived.Test.YtepmamfbhocjjaaBSgd
import Derived.Deep.CutRange
section
/-
  The law SiftLimits, walked: with a limit there is a beginning of what there is without; what is left out is told.
-/
namespace Go.Proofs.Ytepmamfbhocjjaa.siftLimits
open Go.ChangeShapes Go.WideShapes Go.ChangeAt Go.RowKit
set_option linter.unusedVariables false
set_option linter.unusedSimpArgs false
/-- A result in its box. -/
structure OutB (w : World) (g : Nat) (A : Option Addr) (k c : Nat) (i : Int) (m : Bool) (ps : List (LayV × Kv)) : Prop where
  blk : Blk w g 30 [.slice A k c, .int .i64 i, .bool m]
  rd : RdKs w A k ps
  le : k ≤ c
theorem lim_a {q : Qy} (hr : rightQ q = true) (hc : q.count = false) (xs : List Kv) : siftQ q xs = (((allQ q xs).take (manyQ q (allQ q xs).length)).map (stripQ q), xs.length, decide (manyQ q (allQ q xs).length < (allQ q xs).length)) := by
  unfold siftQ
  rw [hr, hc]
  rfl
theorem lim_b {q : Qy} (hr : rightQ q = true) (xs : List Kv) : siftQ (bareQ q q.keys false) xs = ((allQ q xs).map (stripQ q), xs.length, false) := by
  have e : allQ (bareQ q q.keys false) xs = allQ q xs := rfl
  have e2 : stripQ (bareQ q q.keys false) = stripQ q := rfl
  rw [lim_a (bare_right hr _ _) rfl, bare_many, e, e2, List.take_length]
  simp
set_option maxHeartbeats 4000000 in
set_option maxRecDepth 100000 in
theorem walk (W : World) (L : LayQ) (q : Qy) (A : Option Addr) (n c : Nat) (ps : List (LayV × Kv)) (rr : RdKs W A n ps) (nc : n ≤ c) (cm : c ≤ maxLen) (rb : n ≤ 140737488351232) :
    Calls Try.prog 3 #[vq L q, .slice A n c] W fun e w' => e = .returned (.bool true) ∧ Below W.heap.size W w' := by
  have HQ := kept (QyB.new W L q)
  have HB := kept (boxQ_below W L q)
  have HH := kept rr
  clear rr
  go_enter Try.func3, Try.ntmps3
  go_upto_region 1 with fail
  refine name_world (fun W1 hW1 => ?_)
  replace hW1 : W1 = boxQ W L q := hW1
  rw [← hW1] at HQ HB
  clear hW1
  have HL := kept (lives_any W1)
  go_wp2_with fail
  with_reducible refine HL.out.mono ?_
  rintro e w1 ⟨rfl, hb⟩
  replace HQ := kept (HQ.out.below_ hb HQ.out.lt)
  replace HB := kept (bel_to hb HB.out)
  clear hb HL
  have HF := kept (few_any A n c ps w1 (HH.out.below HB.out) rb)
  go_wp2_with fail
  with_reducible refine HF.out.mono ?_
  rintro e w2 ⟨t, rfl, hf, hb⟩
  replace HQ := kept (HQ.out.below_ hb HQ.out.lt)
  replace HB := kept (bel_to hb HB.out)
  clear hb HF
  cases t with
  | false =>
    clear hf
    have HL2 := kept (lives_any w2)
    go_wp2_with fail
    with_reducible refine HL2.out.mono ?_
    rintro e w9 ⟨rfl, hb9⟩
    have HB9 := kept (bel_to hb9 HB.out)
    clear hb9
    go_wp2
    go_ret
    exact ⟨rfl, HB9.out⟩
  | true =>
    have HFEW := kept (hf rfl)
    clear hf
    obtain ⟨b, hb⟩ : ∃ b, rightQ q = b := ⟨_, rfl⟩
    have HR := kept (rightQ_any L q w2 b hb)
    have HRB := kept hb
    clear hb
    obtain ⟨q0, q1, q2, q3, q4, q5, q6, q7, q8, q9, q10, q11⟩ := HQ.out.all
    go_wp2_with fail
    with_reducible refine HR.out.mono ?_
    clear q0 q1 q2 q3 q4 q5 q6 q7 q8 q9 q10 q11
    rintro e w3 ⟨rfl, hb⟩
    replace HQ := kept (HQ.out.below_ hb HQ.out.lt)
    replace HB := kept (bel_to hb HB.out)
    clear hb HR
    cases b with
    | false =>
      have HL2 := kept (lives_any w3)
      go_wp2_with fail
      with_reducible refine HL2.out.mono ?_
      rintro e w9 ⟨rfl, hb9⟩
      have HB9 := kept (bel_to hb9 HB.out)
      clear hb9
      go_wp2
      go_ret
      exact ⟨rfl, HB9.out⟩
    | true =>
      have k7 := HQ.out.cells.2.2.2.2.1
      cases hc : q.count with
      | true =>
        rw [hc] at k7
        have HL2 := kept (lives_any w3)
        go_wp2_with fail
        with_reducible refine HL2.out.mono ?_
        rintro e w9 ⟨rfl, hb9⟩
        have HB9 := kept (bel_to hb9 HB.out)
        clear hb9
        go_wp2
        go_ret
        exact ⟨rfl, HB9.out⟩
      | false =>
        rw [hc] at k7
        have HCN := kept hc
        obtain ⟨q0, q1, q2, q3, q4, q5, q6, q7', q8, q9, q10, q11⟩ := HQ.out.all
        have hn6 : n ≤ 60 := HFEW.out.1
        have HU := kept HFEW.out.2
        have HXL : Hid ((ps.map Prod.snd).length = n) := by show _ = _; rw [List.length_map]; exact HH.out.ln
        have HSD : Hid (StD W (boxQ w3 L (bareQ q q.keys false)) w3.heap.size L q (bareQ q q.keys false)) := ⟨bel_to (boxQ_below w3 L _) HB.out, HQ.out.below_ (boxQ_below w3 L _) HQ.out.lt, QyB.new w3 L _, HB.out.size⟩
        rw [hc] at q7'
        clear HFEW
        go_upto_region 5 with fail
        clear q0 q1 q2 q3 q4 q5 q6 q7' q8 q9 q10 q11 k7 hc
        refine name_world (fun W5 hW5 => ?_)
        replace hW5 : W5 = boxQ w3 L (bareQ q q.keys false) := hW5
        rw [← hW5] at HSD
        clear hW5 HQ HB
        generalize w3.heap.size = qb at HSD ⊢
        obtain ⟨m, hm⟩ : ∃ m, (allQ q (ps.map Prod.snd)).length = m := ⟨_, rfl⟩
        obtain ⟨mq, hmq⟩ : ∃ mq, manyQ q m = mq := ⟨_, rfl⟩
        have HC1 : ∀ V, StD W V qb L q (bareQ q q.keys false) → Hid _ := fun V hV => kept (sift_any L q A n c ps V (HH.out.below hV.bel) (by omega) HU.out)
        have HC2 : ∀ V, StD W V qb L q (bareQ q q.keys false) → Hid _ := fun V hV => kept (sift_any L (bareQ q q.keys false) A n c ps V (HH.out.below hV.bel) (by omega) HU.out)
        rw [lim_a HRB.out HCN.out, HXL.out, hm, hmq] at HC1
        rw [lim_b HRB.out, HXL.out] at HC2
        have HMM := kept (And.intro hm hmq)
        have hmn : m ≤ n := by rw [← hm, allQ_len, ← HXL.out]; exact List.length_filter_le _ _
        clear hm hmq
        have HD := HSD
        clear HSD
        have hS0 : Hid _ := HD.out.reg
        go_cut [6, 7] from 28 to 33 (fun s6 s7 wx => ∃ g6 g7 A1 k1 c1 ps1 A2 k2 c2 ps2, s6 = .pointer (some ⟨g6, 0, none⟩) ∧ s7 = .pointer (some ⟨g7, 0, none⟩) ∧ Hid (StD W wx qb L q (bareQ q q.keys false)) ∧ Hid (OutB wx g6 A1 k1 c1 n (decide (mq < m)) ps1 ∧ ps1.map Prod.snd = ((allQ q (ps.map Prod.snd)).take mq).map (stripQ q)) ∧ Hid (OutB wx g7 A2 k2 c2 n false ps2 ∧ ps2.map Prod.snd = (allQ q (ps.map Prod.snd)).map (stripQ q)))
        case first =>
          have HD0 := HD
          clear HD hS0
          have HD : Hid (StD W W5.drew qb L q (bareQ q q.keys false)) := kept ⟨HD0.out.bel.drew, HD0.out.qa, HD0.out.qb_, HD0.out.le⟩
          have HS := kept HD.out.reg
          clear HD0
          refine wp_region_held_drew (S := (fun W' => (W'.cell? ⟨W.heap.size, 0, none⟩ = some (.slice L.ka L.kn L.kc) ∧ W'.cell? ⟨W.heap.size, 1, none⟩ = some (.slice L.ea L.en L.ec) ∧ W'.cell? ⟨W.heap.size, 2, none⟩ = some (.int .i64 L.at_) ∧ W'.cell? ⟨W.heap.size, 3, none⟩ = some (.int .i64 q.limit) ∧ W'.cell? ⟨W.heap.size, 4, none⟩ = some (.int .i64 q.sort) ∧ W'.cell? ⟨W.heap.size, 5, none⟩ = some (.bool q.desc) ∧ W'.cell? ⟨W.heap.size, 6, none⟩ = some (.bool q.keys) ∧ W'.cell? ⟨W.heap.size, 7, none⟩ = some (.bool q.count) ∧ W'.cell? ⟨W.heap.size, 8, none⟩ = some (.int .i64 q.m0) ∧ W'.cell? ⟨W.heap.size, 9, none⟩ = some (.int .i64 q.m1) ∧ W'.cell? ⟨W.heap.size, 10, none⟩ = some (.int .i64 q.c0) ∧ W'.cell? ⟨W.heap.size, 11, none⟩ = some (.int .i64 q.c1)) ∧ (W'.cell? ⟨qb, 0, none⟩ = some (.slice L.ka L.kn L.kc) ∧ W'.cell? ⟨qb, 1, none⟩ = some (.slice L.ea L.en L.ec) ∧ W'.cell? ⟨qb, 2, none⟩ = some (.int .i64 L.at_) ∧ W'.cell? ⟨qb, 3, none⟩ = some (.int .i64 (bareQ q q.keys false).limit) ∧ W'.cell? ⟨qb, 4, none⟩ = some (.int .i64 (bareQ q q.keys false).sort) ∧ W'.cell? ⟨qb, 5, none⟩ = some (.bool (bareQ q q.keys false).desc) ∧ W'.cell? ⟨qb, 6, none⟩ = some (.bool (bareQ q q.keys false).keys) ∧ W'.cell? ⟨qb, 7, none⟩ = some (.bool (bareQ q q.keys false).count) ∧ W'.cell? ⟨qb, 8, none⟩ = some (.int .i64 (bareQ q q.keys false).m0) ∧ W'.cell? ⟨qb, 9, none⟩ = some (.int .i64 (bareQ q q.keys false).m1) ∧ W'.cell? ⟨qb, 10, none⟩ = some (.int .i64 (bareQ q q.keys false).c0) ∧ W'.cell? ⟨qb, 11, none⟩ = some (.int .i64 (bareQ q q.keys false).c1)))) (by kernel_rfl) ?_ (fun hHeld => ?_)
          · ((try dsimp only); (with_reducible exact HS.out))
          generalize W5.drew = V5 at HD HS hHeld ⊢
          refine hand_take 0 (some 28) ?_ (by kernel_rfl) (by kernel_rfl) (by kernel_rfl) (by kernel_rfl) (by kernel_rfl) (fun _ _ _ h => h) ?_ (by assumption) ?_
          rotate_left
          · (intro o ho w hSw; (simp only [List.getElem?_toArray, List.getElem?_cons_succ, List.getElem?_cons_zero, Option.some.injEq] at ho); subst ho; (try dsimp only at hSw); go_simp; (first | done | with_reducible rfl))
          (try simp only [Act.put, List.setIfInBounds_toArray, List.set_cons_zero, List.set_cons_succ])
          refine hand_take 1 (some 29) ?_ (by kernel_rfl) (by kernel_rfl) (by kernel_rfl) (by kernel_rfl) (by kernel_rfl) (fun _ _ _ h => h) ?_ (by assumption) ?_
          rotate_left
          · (intro o ho w hSw; (simp only [List.getElem?_toArray, List.getElem?_cons_succ, List.getElem?_cons_zero, Option.some.injEq] at ho); subst ho; (try dsimp only at hSw); go_simp; (first | done | with_reducible rfl))
          (try simp only [Act.put, List.setIfInBounds_toArray, List.set_cons_zero, List.set_cons_succ])
          refine hand_take 3 (some 31) ?_ (by kernel_rfl) (by kernel_rfl) (by kernel_rfl) (by kernel_rfl) (by kernel_rfl) (fun _ _ _ h => h) ?_ (by assumption) ?_
          rotate_left
          · (intro o ho w hSw; (simp only [List.getElem?_toArray, List.getElem?_cons_succ, List.getElem?_cons_zero, Option.some.injEq] at ho); subst ho; (try dsimp only at hSw); go_simp; (first | done | with_reducible rfl))
          (try simp only [Act.put, List.setIfInBounds_toArray, List.set_cons_zero, List.set_cons_succ])
          refine hand_take 4 (some 32) ?_ (by kernel_rfl) (by kernel_rfl) (by kernel_rfl) (by kernel_rfl) (by kernel_rfl) (fun _ _ _ h => h) ?_ (by assumption) ?_
          rotate_left
          · (intro o ho w hSw; (simp only [List.getElem?_toArray, List.getElem?_cons_succ, List.getElem?_cons_zero, Option.some.injEq] at ho); subst ho; (try dsimp only at hSw); go_simp; (first | done | with_reducible rfl))
          (try simp only [Act.put, List.setIfInBounds_toArray, List.set_cons_zero, List.set_cons_succ])
          refine hand_ready3 2 6 7 (by kernel_rfl) (by kernel_rfl) (by kernel_rfl) (by kernel_rfl) (fun o ho K hK => ?_) (fun o ho K hK => ?_) (fun o ho K hK => ?_)
          · (simp only [List.getElem?_toArray, List.getElem?_cons_succ, List.getElem?_cons_zero, Option.some.injEq] at ho)
            subst ho
            go_simp
            (go_at_call 10; (with_reducible refine (HC1 _ HD.out).out.mono ?_); rintro e w7 ⟨A1, k1, c1, ps1, rfl, m1, rd1, kc1, hb, -⟩; replace HD := kept (HD.out.below hb); (try replace H1 := kept (H1.out.below hb)); (try replace H2 := kept (H2.out.below hb)); (try replace Z6 := kept (Blk.below Z6.out hb Z6.out.lt)); (try replace Z7 := kept (Blk.below Z7.out hb Z7.out.lt)); have HS := kept HD.out.reg; have H1 := kept rd1; have M1 := kept (And.intro m1 kc1); clear hb m1 rd1 kc1)
            (try go_wp2_with fail)
            refine hK.out _ _ ?_ (fun hHeld => ?_)
            · ((try dsimp only); (with_reducible exact HS.out))
            clear hK K
            (try simp only [Act.put, List.setIfInBounds_toArray, List.set_cons_zero, List.set_cons_succ])
            refine hand_ready3 5 6 7 (by kernel_rfl) (by kernel_rfl) (by kernel_rfl) (by kernel_rfl) (fun o ho K hK => ?_) (fun o ho K hK => ?_) (fun o ho K hK => ?_)
            · (simp only [List.getElem?_toArray, List.getElem?_cons_succ, List.getElem?_cons_zero, Option.some.injEq] at ho)
              subst ho
              go_simp
              (go_at_call 10; (with_reducible refine (HC2 _ HD.out).out.mono ?_); rintro e w8 ⟨A2, k2, c2, ps2, rfl, m2, rd2, kc2, hb, -⟩; replace HD := kept (HD.out.below hb); (try replace H1 := kept (H1.out.below hb)); (try replace H2 := kept (H2.out.below hb)); (try replace Z6 := kept (Blk.below Z6.out hb Z6.out.lt)); (try replace Z7 := kept (Blk.below Z7.out hb Z7.out.lt)); have HS := kept HD.out.reg; have H2 := kept rd2; have M2 := kept (And.intro m2 kc2); clear hb m2 rd2 kc2)
              (try go_wp2_with fail)
              refine hK.out _ _ ?_ (fun hHeld => ?_)
              · ((try dsimp only); (with_reducible exact HS.out))
              clear hK K
              (try simp only [Act.put, List.setIfInBounds_toArray, List.set_cons_zero, List.set_cons_succ])
              refine hand_ready2 6 7 (by kernel_rfl) (by kernel_rfl) (by kernel_rfl) (fun o ho K hK => ?_) (fun o ho K hK => ?_)
              · (simp only [List.getElem?_toArray, List.getElem?_cons_succ, List.getElem?_cons_zero, Option.some.injEq] at ho)
                subst ho
                go_simp
                (refine name_world (fun X hX => ?_); (try have HN := kept (Nat.ne_of_gt Z7.out.lt)); obtain ⟨hb, hz⟩ := zr_new hX; have HG6 := kept HD.out.bel.size; replace HD := kept (HD.out.below hb); (try replace H1 := kept (H1.out.below hb)); (try replace H2 := kept (H2.out.below hb)); (try replace Z6 := kept (Blk.below Z6.out hb Z6.out.lt)); (try replace Z7 := kept (Blk.below Z7.out hb Z7.out.lt)); have HS := kept HD.out.reg; have Z6 := kept hz; clear hX hz hb)
                refine hK.out _ _ ?_ (fun hHeld => ?_)
                · ((try dsimp only); (with_reducible exact HS.out))
                clear hK K
                (try simp only [Act.put, List.setIfInBounds_toArray, List.set_cons_zero, List.set_cons_succ])
                refine hand_ready 7 (by kernel_rfl) (by kernel_rfl) (fun o ho K hK => ?_)
                (simp only [List.getElem?_toArray, List.getElem?_cons_succ, List.getElem?_cons_zero, Option.some.injEq] at ho)
                subst ho
                go_simp
                (refine name_world (fun X hX => ?_); (try have HN := kept (Nat.ne_of_lt Z6.out.lt)); obtain ⟨hb, hz⟩ := zr_new hX; have HG7 := kept HD.out.bel.size; replace HD := kept (HD.out.below hb); (try replace H1 := kept (H1.out.below hb)); (try replace H2 := kept (H2.out.below hb)); (try replace Z6 := kept (Blk.below Z6.out hb Z6.out.lt)); (try replace Z7 := kept (Blk.below Z7.out hb Z7.out.lt)); have HS := kept HD.out.reg; have Z7 := kept hz; clear hX hz hb)
                refine hK.out _ _ ?_ (fun hHeld => ?_)
                · ((try dsimp only); (with_reducible exact HS.out))
                clear hK K
                (try simp only [Act.put, List.setIfInBounds_toArray, List.set_cons_zero, List.set_cons_succ])
                (have z0 := Z6.out.cell 0; have z1 := Z6.out.cell 1; have z2 := Z6.out.cell 2; have f0 := Blk.frozen Z6.out; dsimp only [zR, List.getElem?_cons_zero, List.getElem?_cons_succ] at z0 z1 z2)
                refine hand_ready 8 (by kernel_rfl) (by kernel_rfl) (fun o ho K hK => ?_)
                (simp only [List.getElem?_toArray, List.getElem?_cons_succ, List.getElem?_cons_zero, Option.some.injEq] at ho)
                subst ho
                go_simp
                (refine name_world (fun X hX => ?_); clear z0 z1 z2 f0; replace HD := kept (HD.out.set Z6.out HG6.out hX); replace H1 := kept (zr_rd H1.out Z6.out hX); replace H2 := kept (zr_rd H2.out Z6.out hX); replace Z7 := kept (zr_far Z7.out HN.out.symm hX); replace Z6 := kept (zr_set Z6.out hX); have HS := kept HD.out.reg; clear hX)
                refine hK.out _ _ ?_ (fun hHeld => ?_)
                · ((try dsimp only); (with_reducible exact HS.out))
                clear hK K
                (try simp only [Act.put, List.setIfInBounds_toArray, List.set_cons_zero, List.set_cons_succ])
                (have z0 := Z7.out.cell 0; have z1 := Z7.out.cell 1; have z2 := Z7.out.cell 2; have f0 := Blk.frozen Z7.out; dsimp only [zR, List.getElem?_cons_zero, List.getElem?_cons_succ] at z0 z1 z2)
                refine hand_ready 9 (by kernel_rfl) (by kernel_rfl) (fun o ho K hK => ?_)
                (simp only [List.getElem?_toArray, List.getElem?_cons_succ, List.getElem?_cons_zero, Option.some.injEq] at ho)
                subst ho
                go_simp
                (refine name_world (fun X hX => ?_); clear z0 z1 z2 f0; replace HD := kept (HD.out.set Z7.out HG7.out hX); replace H1 := kept (zr_rd H1.out Z7.out hX); replace H2 := kept (zr_rd H2.out Z7.out hX); replace Z6 := kept (zr_far Z6.out HN.out hX); replace Z7 := kept (zr_set Z7.out hX); have HS := kept HD.out.reg; clear hX)
                refine hK.out _ _ ?_ (fun hHeld => ?_)
                · ((try dsimp only); (with_reducible exact HS.out))
                clear hK K
                (try simp only [Act.put, List.setIfInBounds_toArray, List.set_cons_zero, List.set_cons_succ])
                refine wpAnyH_done (by kernel_rfl) ?_ _
                go_wp2_with fail
                go_meet
                exact ⟨_, _, A1, k1, c1, ps1, A2, k2, c2, ps2, rfl, rfl, HD, ⟨⟨Z6.out, H1.out, M1.out.2⟩, M1.out.1⟩, ⟨⟨Z7.out, H2.out, M2.out.2⟩, M2.out.1⟩⟩
              · (simp only [List.getElem?_toArray, List.getElem?_cons_succ, List.getElem?_cons_zero, Option.some.injEq] at ho)
                subst ho
                go_simp
                (refine name_world (fun X hX => ?_); (try have HN := kept (Nat.ne_of_lt Z6.out.lt)); obtain ⟨hb, hz⟩ := zr_new hX; have HG7 := kept HD.out.bel.size; replace HD := kept (HD.out.below hb); (try replace H1 := kept (H1.out.below hb)); (try replace H2 := kept (H2.out.below hb)); (try replace Z6 := kept (Blk.below Z6.out hb Z6.out.lt)); (try replace Z7 := kept (Blk.below Z7.out hb Z7.out.lt)); have HS := kept HD.out.reg; have Z7 := kept hz; clear hX hz hb)
                refine hK.out _ _ ?_ (fun hHeld => ?_)
                · ((try dsimp only); (with_reducible exact HS.out))
                clear hK K
                (try simp only [Act.put, List.setIfInBounds_toArray, List.set_cons_zero, List.set_cons_succ])
                refine hand_ready 6 (by kernel_rfl) (by kernel_rfl) (fun o ho K hK => ?_)
                (simp only [List.getElem?_toArray, List.getElem?_cons_succ, List.getElem?_cons_zero, Option.some.injEq] at ho)
                subst ho
                go_simp
                (refine name_world (fun X hX => ?_); (try have HN := kept (Nat.ne_of_gt Z7.out.lt)); obtain ⟨hb, hz⟩ := zr_new hX; have HG6 := kept HD.out.bel.size; replace HD := kept (HD.out.below hb); (try replace H1 := kept (H1.out.below hb)); (try replace H2 := kept (H2.out.below hb)); (try replace Z6 := kept (Blk.below Z6.out hb Z6.out.lt)); (try replace Z7 := kept (Blk.below Z7.out hb Z7.out.lt)); have HS := kept HD.out.reg; have Z6 := kept hz; clear hX hz hb)
                refine hK.out _ _ ?_ (fun hHeld => ?_)
                · ((try dsimp only); (with_reducible exact HS.out))
                clear hK K
                (try simp only [Act.put, List.setIfInBounds_toArray, List.set_cons_zero, List.set_cons_succ])
                (have z0 := Z6.out.cell 0; have z1 := Z6.out.cell 1; have z2 := Z6.out.cell 2; have f0 := Blk.frozen Z6.out; dsimp only [zR, List.getElem?_cons_zero, List.getElem?_cons_succ] at z0 z1 z2)
                refine hand_ready 8 (by kernel_rfl) (by kernel_rfl) (fun o ho K hK => ?_)
                (simp only [List.getElem?_toArray, List.getElem?_cons_succ, List.getElem?_cons_zero, Option.some.injEq] at ho)
                subst ho
                go_simp
                (refine name_world (fun X hX => ?_); clear z0 z1 z2 f0; replace HD := kept (HD.out.set Z6.out HG6.out hX); replace H1 := kept (zr_rd H1.out Z6.out hX); replace H2 := kept (zr_rd H2.out Z6.out hX); replace Z7 := kept (zr_far Z7.out HN.out.symm hX); replace Z6 := kept (zr_set Z6.out hX); have HS := kept HD.out.reg; clear hX)
                refine hK.out _ _ ?_ (fun hHeld => ?_)
                · ((try dsimp only); (with_reducible exact HS.out))
                clear hK K
                (try simp only [Act.put, List.setIfInBounds_toArray, List.set_cons_zero, List.set_cons_succ])
                (have z0 := Z7.out.cell 0; have z1 := Z7.out.cell 1; have z2 := Z7.out.cell 2; have f0 := Blk.frozen Z7.out; dsimp only [zR, List.getElem?_cons_zero, List.getElem?_cons_succ] at z0 z1 z2)
                refine hand_ready 9 (by kernel_rfl) (by kernel_rfl) (fun o ho K hK => ?_)
                (simp only [List.getElem?_toArray, List.getElem?_cons_succ, List.getElem?_cons_zero, Option.some.injEq] at ho)
                subst ho
                go_simp
                (refine name_world (fun X hX => ?_); clear z0 z1 z2 f0; replace HD := kept (HD.out.set Z7.out HG7.out hX); replace H1 := kept (zr_rd H1.out Z7.out hX); replace H2 := kept (zr_rd H2.out Z7.out hX); replace Z6 := kept (zr_far Z6.out HN.out hX); replace Z7 := kept (zr_set Z7.out hX); have HS := kept HD.out.reg; clear hX)
                refine hK.out _ _ ?_ (fun hHeld => ?_)
                · ((try dsimp only); (with_reducible exact HS.out))
                clear hK K
                (try simp only [Act.put, List.setIfInBounds_toArray, List.set_cons_zero, List.set_cons_succ])
                refine wpAnyH_done (by kernel_rfl) ?_ _
                go_wp2_with fail
                go_meet
                exact ⟨_, _, A1, k1, c1, ps1, A2, k2, c2, ps2, rfl, rfl, HD, ⟨⟨Z6.out, H1.out, M1.out.2⟩, M1.out.1⟩, ⟨⟨Z7.out, H2.out, M2.out.2⟩, M2.out.1⟩⟩
            · (simp only [List.getElem?_toArray, List.getElem?_cons_succ, List.getElem?_cons_zero, Option.some.injEq] at ho)
              subst ho
              go_simp
              (refine name_world (fun X hX => ?_); (try have HN := kept (Nat.ne_of_gt Z7.out.lt)); obtain ⟨hb, hz⟩ := zr_new hX; have HG6 := kept HD.out.bel.size; replace HD := kept (HD.out.below hb); (try replace H1 := kept (H1.out.below hb)); (try replace H2 := kept (H2.out.below hb)); (try replace Z6 := kept (Blk.below Z6.out hb Z6.out.lt)); (try replace Z7 := kept (Blk.below Z7.out hb Z7.out.lt)); have HS := kept HD.out.reg; have Z6 := kept hz; clear hX hz hb)
              refine hK.out _ _ ?_ (fun hHeld => ?_)
              · ((try dsimp only); (with_reducible exact HS.out))
              clear hK K
              (try simp only [Act.put, List.setIfInBounds_toArray, List.set_cons_zero, List.set_cons_succ])
              refine hand_ready2 5 7 (by kernel_rfl) (by kernel_rfl) (by kernel_rfl) (fun o ho K hK => ?_) (fun o ho K hK => ?_)
              · (simp only [List.getElem?_toArray, List.getElem?_cons_succ, List.getElem?_cons_zero, Option.some.injEq] at ho)
                subst ho
                go_simp
                (go_at_call 10; (with_reducible refine (HC2 _ HD.out).out.mono ?_); rintro e w8 ⟨A2, k2, c2, ps2, rfl, m2, rd2, kc2, hb, -⟩; replace HD := kept (HD.out.below hb); (try replace H1 := kept (H1.out.below hb)); (try replace H2 := kept (H2.out.below hb)); (try replace Z6 := kept (Blk.below Z6.out hb Z6.out.lt)); (try replace Z7 := kept (Blk.below Z7.out hb Z7.out.lt)); have HS := kept HD.out.reg; have H2 := kept rd2; have M2 := kept (And.intro m2 kc2); clear hb m2 rd2 kc2)
                (try go_wp2_with fail)
                refine hK.out _ _ ?_ (fun hHeld => ?_)
                · ((try dsimp only); (with_reducible exact HS.out))
                clear hK K
                (try simp only [Act.put, List.setIfInBounds_toArray, List.set_cons_zero, List.set_cons_succ])
                refine hand_ready 7 (by kernel_rfl) (by kernel_rfl) (fun o ho K hK => ?_)
                (simp only [List.getElem?_toArray, List.getElem?_cons_succ, List.getElem?_cons_zero, Option.some.injEq] at ho)
                subst ho
                go_simp
                (refine name_world (fun X hX => ?_); (try have HN := kept (Nat.ne_of_lt Z6.out.lt)); obtain ⟨hb, hz⟩ := zr_new hX; have HG7 := kept HD.out.bel.size; replace HD := kept (HD.out.below hb); (try replace H1 := kept (H1.out.below hb)); (try replace H2 := kept (H2.out.below hb)); (try replace Z6 := kept (Blk.below Z6.out hb Z6.out.lt)); (try replace Z7 := kept (Blk.below Z7.out hb Z7.out.lt)); have HS := kept HD.out.reg; have Z7 := kept hz; clear hX hz hb)
                refine hK.out _ _ ?_ (fun hHeld => ?_)
                · ((try dsimp only); (with_reducible exact HS.out))
                clear hK K
                (try simp only [Act.put, List.setIfInBounds_toArray, List.set_cons_zero, List.set_cons_succ])
                (have z0 := Z6.out.cell 0; have z1 := Z6.out.cell 1; have z2 := Z6.out.cell 2; have f0 := Blk.frozen Z6.out; dsimp only [zR, List.getElem?_cons_zero, List.getElem?_cons_succ] at z0 z1 z2)
                refine hand_ready 8 (by kernel_rfl) (by kernel_rfl) (fun o ho K hK => ?_)
                (simp only [List.getElem?_toArray, List.getElem?_cons_succ, List.getElem?_cons_zero, Option.some.injEq] at ho)
                subst ho
                go_simp
                (refine name_world (fun X hX => ?_); clear z0 z1 z2 f0; replace HD := kept (HD.out.set Z6.out HG6.out hX); replace H1 := kept (zr_rd H1.out Z6.out hX); replace H2 := kept (zr_rd H2.out Z6.out hX); replace Z7 := kept (zr_far Z7.out HN.out.symm hX); replace Z6 := kept (zr_set Z6.out hX); have HS := kept HD.out.reg; clear hX)
                refine hK.out _ _ ?_ (fun hHeld => ?_)
                · ((try dsimp only); (with_reducible exact HS.out))
                clear hK K
                (try simp only [Act.put, List.setIfInBounds_toArray, List.set_cons_zero, List.set_cons_succ])
                (have z0 := Z7.out.cell 0; have z1 := Z7.out.cell 1; have z2 := Z7.out.cell 2; have f0 := Blk.frozen Z7.out; dsimp only [zR, List.getElem?_cons_zero, List.getElem?_cons_succ] at z0 z1 z2)
                refine hand_ready 9 (by kernel_rfl) (by kernel_rfl) (fun o ho K hK => ?_)
                (simp only [List.getElem?_toArray, List.getElem?_cons_succ, List.getElem?_cons_zero, Option.some.injEq] at ho)
                subst ho
                go_simp
                (refine name_world (fun X hX => ?_); clear z0 z1 z2 f0; replace HD := kept (HD.out.set Z7.out HG7.out hX); replace H1 := kept (zr_rd H1.out Z7.out hX); replace H2 := kept (zr_rd H2.out Z7.out hX); replace Z6 := kept (zr_far Z6.out HN.out hX); replace Z7 := kept (zr_set Z7.out hX); have HS := kept HD.out.reg; clear hX)
                refine hK.out _ _ ?_ (fun hHeld => ?_)
                · ((try dsimp only); (with_reducible exact HS.out))
                clear hK K
                (try simp only [Act.put, List.setIfInBounds_toArray, List.set_cons_zero, List.set_cons_succ])
                refine wpAnyH_done (by kernel_rfl) ?_ _
                go_wp2_with fail
                go_meet
                exact ⟨_, _, A1, k1, c1, ps1, A2, k2, c2, ps2, rfl, rfl, HD, ⟨⟨Z6.out, H1.out, M1.out.2⟩, M1.out.1⟩, ⟨⟨Z7.out, H2.out, M2.out.2⟩, M2.out.1⟩⟩
              · (simp only [List.getElem?_toArray, List.getElem?_cons_succ, List.getElem?_cons_zero, Option.some.injEq] at ho)
                subst ho
                go_simp
                (refine name_world (fun X hX => ?_); (try have HN := kept (Nat.ne_of_lt Z6.out.lt)); obtain ⟨hb, hz⟩ := zr_new hX; have HG7 := kept HD.out.bel.size; replace HD := kept (HD.out.below hb); (try replace H1 := kept (H1.out.below hb)); (try replace H2 := kept (H2.out.below hb)); (try replace Z6 := kept (Blk.below Z6.out hb Z6.out.lt)); (try replace Z7 := kept (Blk.below Z7.out hb Z7.out.lt)); have HS := kept HD.out.reg; have Z7 := kept hz; clear hX hz hb)
                refine hK.out _ _ ?_ (fun hHeld => ?_)
                · ((try dsimp only); (with_reducible exact HS.out))
                clear hK K
                (try simp only [Act.put, List.setIfInBounds_toArray, List.set_cons_zero, List.set_cons_succ])
                refine hand_ready 5 (by kernel_rfl) (by kernel_rfl) (fun o ho K hK => ?_)
                (simp only [List.getElem?_toArray, List.getElem?_cons_succ, List.getElem?_cons_zero, Option.some.injEq] at ho)
                subst ho
                go_simp
                (go_at_call 10; (with_reducible refine (HC2 _ HD.out).out.mono ?_); rintro e w8 ⟨A2, k2, c2, ps2, rfl, m2, rd2, kc2, hb, -⟩; replace HD := kept (HD.out.below hb); (try replace H1 := kept (H1.out.below hb)); (try replace H2 := kept (H2.out.below hb)); (try replace Z6 := kept (Blk.below Z6.out hb Z6.out.lt)); (try replace Z7 := kept (Blk.below Z7.out hb Z7.out.lt)); have HS := kept HD.out.reg; have H2 := kept rd2; have M2 := kept (And.intro m2 kc2); clear hb m2 rd2 kc2)
                (try go_wp2_with fail)
                refine hK.out _ _ ?_ (fun hHeld => ?_)
                · ((try dsimp only); (with_reducible exact HS.out))
                clear hK K
                (try simp only [Act.put, List.setIfInBounds_toArray, List.set_cons_zero, List.set_cons_succ])
                (have z0 := Z6.out.cell 0; have z1 := Z6.out.cell 1; have z2 := Z6.out.cell 2; have f0 := Blk.frozen Z6.out; dsimp only [zR, List.getElem?_cons_zero, List.getElem?_cons_succ] at z0 z1 z2)
                refine hand_ready 8 (by kernel_rfl) (by kernel_rfl) (fun o ho K hK => ?_)
                (simp only [List.getElem?_toArray, List.getElem?_cons_succ, List.getElem?_cons_zero, Option.some.injEq] at ho)
                subst ho
                go_simp
                (refine name_world (fun X hX => ?_); clear z0 z1 z2 f0; replace HD := kept (HD.out.set Z6.out HG6.out hX); replace H1 := kept (zr_rd H1.out Z6.out hX); replace H2 := kept (zr_rd H2.out Z6.out hX); replace Z7 := kept (zr_far Z7.out HN.out.symm hX); replace Z6 := kept (zr_set Z6.out hX); have HS := kept HD.out.reg; clear hX)
                refine hK.out _ _ ?_ (fun hHeld => ?_)
                · ((try dsimp only); (with_reducible exact HS.out))
                clear hK K
                (try simp only [Act.put, List.setIfInBounds_toArray, List.set_cons_zero, List.set_cons_succ])
                (have z0 := Z7.out.cell 0; have z1 := Z7.out.cell 1; have z2 := Z7.out.cell 2; have f0 := Blk.frozen Z7.out; dsimp only [zR, List.getElem?_cons_zero, List.getElem?_cons_succ] at z0 z1 z2)
                refine hand_ready 9 (by kernel_rfl) (by kernel_rfl) (fun o ho K hK => ?_)
                (simp only [List.getElem?_toArray, List.getElem?_cons_succ, List.getElem?_cons_zero, Option.some.injEq] at ho)
                subst ho
                go_simp
                (refine name_world (fun X hX => ?_); clear z0 z1 z2 f0; replace HD := kept (HD.out.set Z7.out HG7.out hX); replace H1 := kept (zr_rd H1.out Z7.out hX); replace H2 := kept (zr_rd H2.out Z7.out hX); replace Z6 := kept (zr_far Z6.out HN.out hX); replace Z7 := kept (zr_set Z7.out hX); have HS := kept HD.out.reg; clear hX)
                refine hK.out _ _ ?_ (fun hHeld => ?_)
                · ((try dsimp only); (with_reducible exact HS.out))
                clear hK K
                (try simp only [Act.put, List.setIfInBounds_toArray, List.set_cons_zero, List.set_cons_succ])
                refine wpAnyH_done (by kernel_rfl) ?_ _
                go_wp2_with fail
                go_meet
                exact ⟨_, _, A1, k1, c1, ps1, A2, k2, c2, ps2, rfl, rfl, HD, ⟨⟨Z6.out, H1.out, M1.out.2⟩, M1.out.1⟩, ⟨⟨Z7.out, H2.out, M2.out.2⟩, M2.out.1⟩⟩
            · (simp only [List.getElem?_toArray, List.getElem?_cons_succ, List.getElem?_cons_zero, Option.some.injEq] at ho)
              subst ho
              go_simp
              (refine name_world (fun X hX => ?_); (try have HN := kept (Nat.ne_of_lt Z6.out.lt)); obtain ⟨hb, hz⟩ := zr_new hX; have HG7 := kept HD.out.bel.size; replace HD := kept (HD.out.below hb); (try replace H1 := kept (H1.out.below hb)); (try replace H2 := kept (H2.out.below hb)); (try replace Z6 := kept (Blk.below Z6.out hb Z6.out.lt)); (try replace Z7 := kept (Blk.below Z7.out hb Z7.out.lt)); have HS := kept HD.out.reg; have Z7 := kept hz; clear hX hz hb)
              refine hK.out _ _ ?_ (fun hHeld => ?_)
              · ((try dsimp only); (with_reducible exact HS.out))
              clear hK K
              (try simp only [Act.put, List.setIfInBounds_toArray, List.set_cons_zero, List.set_cons_succ])
              refine hand_ready2 5 6 (by kernel_rfl) (by kernel_rfl) (by kernel_rfl) (fun o ho K hK => ?_) (fun o ho K hK => ?_)
              · (simp only [List.getElem?_toArray, List.getElem?_cons_succ, List.getElem?_cons_zero, Option.some.injEq] at ho)
                subst ho
                go_simp
                (go_at_call 10; (with_reducible refine (HC2 _ HD.out).out.mono ?_); rintro e w8 ⟨A2, k2, c2, ps2, rfl, m2, rd2, kc2, hb, -⟩; replace HD := kept (HD.out.below hb); (try replace H1 := kept (H1.out.below hb)); (try replace H2 := kept (H2.out.below hb)); (try replace Z6 := kept (Blk.below Z6.out hb Z6.out.lt)); (try replace Z7 := kept (Blk.below Z7.out hb Z7.out.lt)); have HS := kept HD.out.reg; have H2 := kept rd2; have M2 := kept (And.intro m2 kc2); clear hb m2 rd2 kc2)
                (try go_wp2_with fail)
                refine hK.out _ _ ?_ (fun hHeld => ?_)
                · ((try dsimp only); (with_reducible exact HS.out))
                clear hK K
                (try simp only [Act.put, List.setIfInBounds_toArray, List.set_cons_zero, List.set_cons_succ])
                refine hand_ready 6 (by kernel_rfl) (by kernel_rfl) (fun o ho K hK => ?_)
                (simp only [List.getElem?_toArray, List.getElem?_cons_succ, List.getElem?_cons_zero, Option.some.injEq] at ho)
                subst ho
                go_simp
                (refine name_world (fun X hX => ?_); (try have HN := kept (Nat.ne_of_gt Z7.out.lt)); obtain ⟨hb, hz⟩ := zr_new hX; have HG6 := kept HD.out.bel.size; replace HD := kept (HD.out.below hb); (try replace H1 := kept (H1.out.below hb)); (try replace H2 := kept (H2.out.below hb)); (try replace Z6 := kept (Blk.below Z6.out hb Z6.out.lt)); (try replace Z7 := kept (Blk.below Z7.out hb Z7.out.lt)); have HS := kept HD.out.reg; have Z6 := kept hz; clear hX hz hb)
                refine hK.out _ _ ?_ (fun hHeld => ?_)
                · ((try dsimp only); (with_reducible exact HS.out))
                clear hK K
                (try simp only [Act.put, List.setIfInBounds_toArray, List.set_cons_zero, List.set_cons_succ])
                (have z0 := Z6.out.cell 0; have z1 := Z6.out.cell 1; have z2 := Z6.out.cell 2; have f0 := Blk.frozen Z6.out; dsimp only [zR, List.getElem?_cons_zero, List.getElem?_cons_succ] at z0 z1 z2)
                refine hand_ready 8 (by kernel_rfl) (by kernel_rfl) (fun o ho K hK => ?_)
                (simp only [List.getElem?_toArray, List.getElem?_cons_succ, List.getElem?_cons_zero, Option.some.injEq] at ho)
                subst ho
                go_simp
                (refine name_world (fun X hX => ?_); clear z0 z1 z2 f0; replace HD := kept (HD.out.set Z6.out HG6.out hX); replace H1 := kept (zr_rd H1.out Z6.out hX); replace H2 := kept (zr_rd H2.out Z6.out hX); replace Z7 := kept (zr_far Z7.out HN.out.symm hX); replace Z6 := kept (zr_set Z6.out hX); have HS := kept HD.out.reg; clear hX)
                refine hK.out _ _ ?_ (fun hHeld => ?_)
                · ((try dsimp only); (with_reducible exact HS.out))
                clear hK K
                (try simp only [Act.put, List.setIfInBounds_toArray, List.set_cons_zero, List.set_cons_succ])
                (have z0 := Z7.out.cell 0; have z1 := Z7.out.cell 1; have z2 := Z7.out.cell 2; have f0 := Blk.frozen Z7.out; dsimp only [zR, List.getElem?_cons_zero, List.getElem?_cons_succ] at z0 z1 z2)
                refine hand_ready 9 (by kernel_rfl) (by kernel_rfl) (fun o ho K hK => ?_)
                (simp only [List.getElem?_toArray, List.getElem?_cons_succ, List.getElem?_cons_zero, Option.some.injEq] at ho)
                subst ho
                go_simp
                (refine name_world (fun X hX => ?_); clear z0 z1 z2 f0; replace HD := kept (HD.out.set Z7.out HG7.out hX); replace H1 := kept (zr_rd H1.out Z7.out hX); replace H2 := kept (zr_rd H2.out Z7.out hX); replace Z6 := kept (zr_far Z6.out HN.out hX); replace Z7 := kept (zr_set Z7.out hX); have HS := kept HD.out.reg; clear hX)
                refine hK.out _ _ ?_ (fun hHeld => ?_)
                · ((try dsimp only); (with_reducible exact HS.out))
                clear hK K
                (try simp only [Act.put, List.setIfInBounds_toArray, List.set_cons_zero, List.set_cons_succ])
                refine wpAnyH_done (by kernel_rfl) ?_ _
                go_wp2_with fail
                go_meet
                exact ⟨_, _, A1, k1, c1, ps1, A2, k2, c2, ps2, rfl, rfl, HD, ⟨⟨Z6.out, H1.out, M1.out.2⟩, M1.out.1⟩, ⟨⟨Z7.out, H2.out, M2.out.2⟩, M2.out.1⟩⟩
              · (simp only [List.getElem?_toArray, List.getElem?_cons_succ, List.getElem?_cons_zero, Option.some.injEq] at ho)
                subst ho
                go_simp
                (refine name_world (fun X hX => ?_); (try have HN := kept (Nat.ne_of_gt Z7.out.lt)); obtain ⟨hb, hz⟩ := zr_new hX; have HG6 := kept HD.out.bel.size; replace HD := kept (HD.out.below hb); (try replace H1 := kept (H1.out.below hb)); (try replace H2 := kept (H2.out.below hb)); (try replace Z6 := kept (Blk.below Z6.out hb Z6.out.lt)); (try replace Z7 := kept (Blk.below Z7.out hb Z7.out.lt)); have HS := kept HD.out.reg; have Z6 := kept hz; clear hX hz hb)
                refine hK.out _ _ ?_ (fun hHeld => ?_)
                · ((try dsimp only); (with_reducible exact HS.out))
                clear hK K
                (try simp only [Act.put, List.setIfInBounds_toArray, List.set_cons_zero, List.set_cons_succ])
                refine hand_ready 5 (by kernel_rfl) (by kernel_rfl) (fun o ho K hK => ?_)
                (simp only [List.getElem?_toArray, List.getElem?_cons_succ, List.getElem?_cons_zero, Option.some.injEq] at ho)
                subst ho
                go_simp
                (go_at_call 10; (with_reducible refine (HC2 _ HD.out).out.mono ?_); rintro e w8 ⟨A2, k2, c2, ps2, rfl, m2, rd2, kc2, hb, -⟩; replace HD := kept (HD.out.below hb); (try replace H1 := kept (H1.out.below hb)); (try replace H2 := kept (H2.out.below hb)); (try replace Z6 := kept (Blk.below Z6.out hb Z6.out.lt)); (try replace Z7 := kept (Blk.below Z7.out hb Z7.out.lt)); have HS := kept HD.out.reg; have H2 := kept rd2; have M2 := kept (And.intro m2 kc2); clear hb m2 rd2 kc2)
                (try go_wp2_with fail)
                refine hK.out _ _ ?_ (fun hHeld => ?_)
                · ((try dsimp only); (with_reducible exact HS.out))
                clear hK K
                (try simp only [Act.put, List.setIfInBounds_toArray, List.set_cons_zero, List.set_cons_succ])
                (have z0 := Z6.out.cell 0; have z1 := Z6.out.cell 1; have z2 := Z6.out.cell 2; have f0 := Blk.frozen Z6.out; dsimp only [zR, List.getElem?_cons_zero, List.getElem?_cons_succ] at z0 z1 z2)
                refine hand_ready 8 (by kernel_rfl) (by kernel_rfl) (fun o ho K hK => ?_)
                (simp only [List.getElem?_toArray, List.getElem?_cons_succ, List.getElem?_cons_zero, Option.some.injEq] at ho)
                subst ho
                go_simp
                (refine name_world (fun X hX => ?_); clear z0 z1 z2 f0; replace HD := kept (HD.out.set Z6.out HG6.out hX); replace H1 := kept (zr_rd H1.out Z6.out hX); replace H2 := kept (zr_rd H2.out Z6.out hX); replace Z7 := kept (zr_far Z7.out HN.out.symm hX); replace Z6 := kept (zr_set Z6.out hX); have HS := kept HD.out.reg; clear hX)
                refine hK.out _ _ ?_ (fun hHeld => ?_)
                · ((try dsimp only); (with_reducible exact HS.out))
                clear hK K
                (try simp only [Act.put, List.setIfInBounds_toArray, List.set_cons_zero, List.set_cons_succ])
                (have z0 := Z7.out.cell 0; have z1 := Z7.out.cell 1; have z2 := Z7.out.cell 2; have f0 := Blk.frozen Z7.out; dsimp only [zR, List.getElem?_cons_zero, List.getElem?_cons_succ] at z0 z1 z2)
                refine hand_ready 9 (by kernel_rfl) (by kernel_rfl) (fun o ho K hK => ?_)
                (simp only [List.getElem?_toArray, List.getElem?_cons_succ, List.getElem?_cons_zero, Option.some.injEq] at ho)
                subst ho
                go_simp
                (refine name_world (fun X hX => ?_); clear z0 z1 z2 f0; replace HD := kept (HD.out.set Z7.out HG7.out hX); replace H1 := kept (zr_rd H1.out Z7.out hX); replace H2 := kept (zr_rd H2.out Z7.out hX); replace Z6 := kept (zr_far Z6.out HN.out hX); replace Z7 := kept (zr_set Z7.out hX); have HS := kept HD.out.reg; clear hX)
                refine hK.out _ _ ?_ (fun hHeld => ?_)
                · ((try dsimp only); (with_reducible exact HS.out))
                clear hK K
                (try simp only [Act.put, List.setIfInBounds_toArray, List.set_cons_zero, List.set_cons_succ])
                refine wpAnyH_done (by kernel_rfl) ?_ _
                go_wp2_with fail
                go_meet
                exact ⟨_, _, A1, k1, c1, ps1, A2, k2, c2, ps2, rfl, rfl, HD, ⟨⟨Z6.out, H1.out, M1.out.2⟩, M1.out.1⟩, ⟨⟨Z7.out, H2.out, M2.out.2⟩, M2.out.1⟩⟩
          · (simp only [List.getElem?_toArray, List.getElem?_cons_succ, List.getElem?_cons_zero, Option.some.injEq] at ho)
            subst ho
            go_simp
            (refine name_world (fun X hX => ?_); (try have HN := kept (Nat.ne_of_gt Z7.out.lt)); obtain ⟨hb, hz⟩ := zr_new hX; have HG6 := kept HD.out.bel.size; replace HD := kept (HD.out.below hb); (try replace H1 := kept (H1.out.below hb)); (try replace H2 := kept (H2.out.below hb)); (try replace Z6 := kept (Blk.below Z6.out hb Z6.out.lt)); (try replace Z7 := kept (Blk.below Z7.out hb Z7.out.lt)); have HS := kept HD.out.reg; have Z6 := kept hz; clear hX hz hb)
            refine hK.out _ _ ?_ (fun hHeld => ?_)
            · ((try dsimp only); (with_reducible exact HS.out))
            clear hK K
            (try simp only [Act.put, List.setIfInBounds_toArray, List.set_cons_zero, List.set_cons_succ])
            refine hand_ready2 2 7 (by kernel_rfl) (by kernel_rfl) (by kernel_rfl) (fun o ho K hK => ?_) (fun o ho K hK => ?_)
            · (simp only [List.getElem?_toArray, List.getElem?_cons_succ, List.getElem?_cons_zero, Option.some.injEq] at ho)
              subst ho
              go_simp
              (go_at_call 10; (with_reducible refine (HC1 _ HD.out).out.mono ?_); rintro e w7 ⟨A1, k1, c1, ps1, rfl, m1, rd1, kc1, hb, -⟩; replace HD := kept (HD.out.below hb); (try replace H1 := kept (H1.out.below hb)); (try replace H2 := kept (H2.out.below hb)); (try replace Z6 := kept (Blk.below Z6.out hb Z6.out.lt)); (try replace Z7 := kept (Blk.below Z7.out hb Z7.out.lt)); have HS := kept HD.out.reg; have H1 := kept rd1; have M1 := kept (And.intro m1 kc1); clear hb m1 rd1 kc1)
              (try go_wp2_with fail)
              refine hK.out _ _ ?_ (fun hHeld => ?_)
              · ((try dsimp only); (with_reducible exact HS.out))
              clear hK K
              (try simp only [Act.put, List.setIfInBounds_toArray, List.set_cons_zero, List.set_cons_succ])
              refine hand_ready2 5 7 (by kernel_rfl) (by kernel_rfl) (by kernel_rfl) (fun o ho K hK => ?_) (fun o ho K hK => ?_)
              · (simp only [List.getElem?_toArray, List.getElem?_cons_succ, List.getElem?_cons_zero, Option.some.injEq] at ho)
                subst ho
                go_simp
                (go_at_call 10; (with_reducible refine (HC2 _ HD.out).out.mono ?_); rintro e w8 ⟨A2, k2, c2, ps2, rfl, m2, rd2, kc2, hb, -⟩; replace HD := kept (HD.out.below hb); (try replace H1 := kept (H1.out.below hb)); (try replace H2 := kept (H2.out.below hb)); (try replace Z6 := kept (Blk.below Z6.out hb Z6.out.lt)); (try replace Z7 := kept (Blk.below Z7.out hb Z7.out.lt)); have HS := kept HD.out.reg; have H2 := kept rd2; have M2 := kept (And.intro m2 kc2); clear hb m2 rd2 kc2)
                (try go_wp2_with fail)
                refine hK.out _ _ ?_ (fun hHeld => ?_)
                · ((try dsimp only); (with_reducible exact HS.out))
                clear hK K
                (try simp only [Act.put, List.setIfInBounds_toArray, List.set_cons_zero, List.set_cons_succ])
                refine hand_ready 7 (by kernel_rfl) (by kernel_rfl) (fun o ho K hK => ?_)
                (simp only [List.getElem?_toArray, List.getElem?_cons_succ, List.getElem?_cons_zero, Option.some.injEq] at ho)
                subst ho
                go_simp
                (refine name_world (fun X hX => ?_); (try have HN := kept (Nat.ne_of_lt Z6.out.lt)); obtain ⟨hb, hz⟩ := zr_new hX; have HG7 := kept HD.out.bel.size; replace HD := kept (HD.out.below hb); (try replace H1 := kept (H1.out.below hb)); (try replace H2 := kept (H2.out.below hb)); (try replace Z6 := kept (Blk.below Z6.out hb Z6.out.lt)); (try replace Z7 := kept (Blk.below Z7.out hb Z7.out.lt)); have HS := kept HD.out.reg; have Z7 := kept hz; clear hX hz hb)
                refine hK.out _ _ ?_ (fun hHeld => ?_)
                · ((try dsimp only); (with_reducible exact HS.out))
                clear hK K
                (try simp only [Act.put, List.setIfInBounds_toArray, List.set_cons_zero, List.set_cons_succ])
                (have z0 := Z6.out.cell 0; have z1 := Z6.out.cell 1; have z2 := Z6.out.cell 2; have f0 := Blk.frozen Z6.out; dsimp only [zR, List.getElem?_cons_zero, List.getElem?_cons_succ] at z0 z1 z2)
                refine hand_ready 8 (by kernel_rfl) (by kernel_rfl) (fun o ho K hK => ?_)
                (simp only [List.getElem?_toArray, List.getElem?_cons_succ, List.getElem?_cons_zero, Option.some.injEq] at ho)
                subst ho
                go_simp
                (refine name_world (fun X hX => ?_); clear z0 z1 z2 f0; replace HD := kept (HD.out.set Z6.out HG6.out hX); replace H1 := kept (zr_rd H1.out Z6.out hX); replace H2 := kept (zr_rd H2.out Z6.out hX); replace Z7 := kept (zr_far Z7.out HN.out.symm hX); replace Z6 := kept (zr_set Z6.out hX); have HS := kept HD.out.reg; clear hX)
                refine hK.out _ _ ?_ (fun hHeld => ?_)
                · ((try dsimp only); (with_reducible exact HS.out))
                clear hK K
                (try simp only [Act.put, List.setIfInBounds_toArray, List.set_cons_zero, List.set_cons_succ])
                (have z0 := Z7.out.cell 0; have z1 := Z7.out.cell 1; have z2 := Z7.out.cell 2; have f0 := Blk.frozen Z7.out; dsimp only [zR, List.getElem?_cons_zero, List.getElem?_cons_succ] at z0 z1 z2)
                refine hand_ready 9 (by kernel_rfl) (by kernel_rfl) (fun o ho K hK => ?_)
                (simp only [List.getElem?_toArray, List.getElem?_cons_succ, List.getElem?_cons_zero, Option.some.injEq] at ho)
                subst ho
                go_simp
                (refine name_world (fun X hX => ?_); clear z0 z1 z2 f0; replace HD := kept (HD.out.set Z7.out HG7.out hX); replace H1 := kept (zr_rd H1.out Z7.out hX); replace H2 := kept (zr_rd H2.out Z7.out hX); replace Z6 := kept (zr_far Z6.out HN.out hX); replace Z7 := kept (zr_set Z7.out hX); have HS := kept HD.out.reg; clear hX)
                refine hK.out _ _ ?_ (fun hHeld => ?_)
                · ((try dsimp only); (with_reducible exact HS.out))
                clear hK K
                (try simp only [Act.put, List.setIfInBounds_toArray, List.set_cons_zero, List.set_cons_succ])
                refine wpAnyH_done (by kernel_rfl) ?_ _
                go_wp2_with fail
                go_meet
                exact ⟨_, _, A1, k1, c1, ps1, A2, k2, c2, ps2, rfl, rfl, HD, ⟨⟨Z6.out, H1.out, M1.out.2⟩, M1.out.1⟩, ⟨⟨Z7.out, H2.out, M2.out.2⟩, M2.out.1⟩⟩
              · (simp only [List.getElem?_toArray, List.getElem?_cons_succ, List.getElem?_cons_zero, Option.some.injEq] at ho)
                subst ho
                go_simp
                (refine name_world (fun X hX => ?_); (try have HN := kept (Nat.ne_of_lt Z6.out.lt)); obtain ⟨hb, hz⟩ := zr_new hX; have HG7 := kept HD.out.bel.size; replace HD := kept (HD.out.below hb); (try replace H1 := kept (H1.out.below hb)); (try replace H2 := kept (H2.out.below hb)); (try replace Z6 := kept (Blk.below Z6.out hb Z6.out.lt)); (try replace Z7 := kept (Blk.below Z7.out hb Z7.out.lt)); have HS := kept HD.out.reg; have Z7 := kept hz; clear hX hz hb)
                refine hK.out _ _ ?_ (fun hHeld => ?_)
                · ((try dsimp only); (with_reducible exact HS.out))
                clear hK K
                (try simp only [Act.put, List.setIfInBounds_toArray, List.set_cons_zero, List.set_cons_succ])
                refine hand_ready 5 (by kernel_rfl) (by kernel_rfl) (fun o ho K hK => ?_)
                (simp only [List.getElem?_toArray, List.getElem?_cons_succ, List.getElem?_cons_zero, Option.some.injEq] at ho)
                subst ho
                go_simp
                (go_at_call 10; (with_reducible refine (HC2 _ HD.out).out.mono ?_); rintro e w8 ⟨A2, k2, c2, ps2, rfl, m2, rd2, kc2, hb, -⟩; replace HD := kept (HD.out.below hb); (try replace H1 := kept (H1.out.below hb)); (try replace H2 := kept (H2.out.below hb)); (try replace Z6 := kept (Blk.below Z6.out hb Z6.out.lt)); (try replace Z7 := kept (Blk.below Z7.out hb Z7.out.lt)); have HS := kept HD.out.reg; have H2 := kept rd2; have M2 := kept (And.intro m2 kc2); clear hb m2 rd2 kc2)
                (try go_wp2_with fail)
                refine hK.out _ _ ?_ (fun hHeld => ?_)
                · ((try dsimp only); (with_reducible exact HS.out))
                clear hK K
                (try simp only [Act.put, List.setIfInBounds_toArray, List.set_cons_zero, List.set_cons_succ])
                (have z0 := Z6.out.cell 0; have z1 := Z6.out.cell 1; have z2 := Z6.out.cell 2; have f0 := Blk.frozen Z6.out; dsimp only [zR, List.getElem?_cons_zero, List.getElem?_cons_succ] at z0 z1 z2)
                refine hand_ready 8 (by kernel_rfl) (by kernel_rfl) (fun o ho K hK => ?_)
                (simp only [List.getElem?_toArray, List.getElem?_cons_succ, List.getElem?_cons_zero, Option.some.injEq] at ho)
                subst ho
                go_simp
                (refine name_world (fun X hX => ?_); clear z0 z1 z2 f0; replace HD := kept (HD.out.set Z6.out HG6.out hX); replace H1 := kept (zr_rd H1.out Z6.out hX); replace H2 := kept (zr_rd H2.out Z6.out hX); replace Z7 := kept (zr_far Z7.out HN.out.symm hX); replace Z6 := kept (zr_set Z6.out hX); have HS := kept HD.out.reg; clear hX)
                refine hK.out _ _ ?_ (fun hHeld => ?_)
                · ((try dsimp only); (with_reducible exact HS.out))
                clear hK K
                (try simp only [Act.put, List.setIfInBounds_toArray, List.set_cons_zero, List.set_cons_succ])
                (have z0 := Z7.out.cell 0; have z1 := Z7.out.cell 1; have z2 := Z7.out.cell 2; have f0 := Blk.frozen Z7.out; dsimp only [zR, List.getElem?_cons_zero, List.getElem?_cons_succ] at z0 z1 z2)
                refine hand_ready 9 (by kernel_rfl) (by kernel_rfl) (fun o ho K hK => ?_)
                (simp only [List.getElem?_toArray, List.getElem?_cons_succ, List.getElem?_cons_zero, Option.some.injEq] at ho)
                subst ho
                go_simp
                (refine name_world (fun X hX => ?_); clear z0 z1 z2 f0; replace HD := kept (HD.out.set Z7.out HG7.out hX); replace H1 := kept (zr_rd H1.out Z7.out hX); replace H2 := kept (zr_rd H2.out Z7.out hX); replace Z6 := kept (zr_far Z6.out HN.out hX); replace Z7 := kept (zr_set Z7.out hX); have HS := kept HD.out.reg; clear hX)
                refine hK.out _ _ ?_ (fun hHeld => ?_)
                · ((try dsimp only); (with_reducible exact HS.out))
                clear hK K
                (try simp only [Act.put, List.setIfInBounds_toArray, List.set_cons_zero, List.set_cons_succ])
                refine wpAnyH_done (by kernel_rfl) ?_ _
                go_wp2_with fail
                go_meet
                exact ⟨_, _, A1, k1, c1, ps1, A2, k2, c2, ps2, rfl, rfl, HD, ⟨⟨Z6.out, H1.out, M1.out.2⟩, M1.out.1⟩, ⟨⟨Z7.out, H2.out, M2.out.2⟩, M2.out.1⟩⟩
            · (simp only [List.getElem?_toArray, List.getElem?_cons_succ, List.getElem?_cons_zero, Option.some.injEq] at ho)
              subst ho
              go_simp
              (refine name_world (fun X hX => ?_); (try have HN := kept (Nat.ne_of_lt Z6.out.lt)); obtain ⟨hb, hz⟩ := zr_new hX; have HG7 := kept HD.out.bel.size; replace HD := kept (HD.out.below hb); (try replace H1 := kept (H1.out.below hb)); (try replace H2 := kept (H2.out.below hb)); (try replace Z6 := kept (Blk.below Z6.out hb Z6.out.lt)); (try replace Z7 := kept (Blk.below Z7.out hb Z7.out.lt)); have HS := kept HD.out.reg; have Z7 := kept hz; clear hX hz hb)
              refine hK.out _ _ ?_ (fun hHeld => ?_)
              · ((try dsimp only); (with_reducible exact HS.out))
              clear hK K
              (try simp only [Act.put, List.setIfInBounds_toArray, List.set_cons_zero, List.set_cons_succ])
              refine hand_ready 2 (by kernel_rfl) (by kernel_rfl) (fun o ho K hK => ?_)
              (simp only [List.getElem?_toArray, List.getElem?_cons_succ, List.getElem?_cons_zero, Option.some.injEq] at ho)
              subst ho
              go_simp
              (go_at_call 10; (with_reducible refine (HC1 _ HD.out).out.mono ?_); rintro e w7 ⟨A1, k1, c1, ps1, rfl, m1, rd1, kc1, hb, -⟩; replace HD := kept (HD.out.below hb); (try replace H1 := kept (H1.out.below hb)); (try replace H2 := kept (H2.out.below hb)); (try replace Z6 := kept (Blk.below Z6.out hb Z6.out.lt)); (try replace Z7 := kept (Blk.below Z7.out hb Z7.out.lt)); have HS := kept HD.out.reg; have H1 := kept rd1; have M1 := kept (And.intro m1 kc1); clear hb m1 rd1 kc1)
              (try go_wp2_with fail)
              refine hK.out _ _ ?_ (fun hHeld => ?_)
              · ((try dsimp only); (with_reducible exact HS.out))
              clear hK K
              (try simp only [Act.put, List.setIfInBounds_toArray, List.set_cons_zero, List.set_cons_succ])
              refine hand_ready 5 (by kernel_rfl) (by kernel_rfl) (fun o ho K hK => ?_)
              (simp only [List.getElem?_toArray, List.getElem?_cons_succ, List.getElem?_cons_zero, Option.some.injEq] at ho)
              subst ho
              go_simp
              (go_at_call 10; (with_reducible refine (HC2 _ HD.out).out.mono ?_); rintro e w8 ⟨A2, k2, c2, ps2, rfl, m2, rd2, kc2, hb, -⟩; replace HD := kept (HD.out.below hb); (try replace H1 := kept (H1.out.below hb)); (try replace H2 := kept (H2.out.below hb)); (try replace Z6 := kept (Blk.below Z6.out hb Z6.out.lt)); (try replace Z7 := kept (Blk.below Z7.out hb Z7.out.lt)); have HS := kept HD.out.reg; have H2 := kept rd2; have M2 := kept (And.intro m2 kc2); clear hb m2 rd2 kc2)
              (try go_wp2_with fail)
              refine hK.out _ _ ?_ (fun hHeld => ?_)
              · ((try dsimp only); (with_reducible exact HS.out))
              clear hK K
              (try simp only [Act.put, List.setIfInBounds_toArray, List.set_cons_zero, List.set_cons_succ])
              (have z0 := Z6.out.cell 0; have z1 := Z6.out.cell 1; have z2 := Z6.out.cell 2; have f0 := Blk.frozen Z6.out; dsimp only [zR, List.getElem?_cons_zero, List.getElem?_cons_succ] at z0 z1 z2)
              refine hand_ready 8 (by kernel_rfl) (by kernel_rfl) (fun o ho K hK => ?_)
              (simp only [List.getElem?_toArray, List.getElem?_cons_succ, List.getElem?_cons_zero, Option.some.injEq] at ho)
              subst ho
              go_simp
              (refine name_world (fun X hX => ?_); clear z0 z1 z2 f0; replace HD := kept (HD.out.set Z6.out HG6.out hX); replace H1 := kept (zr_rd H1.out Z6.out hX); replace H2 := kept (zr_rd H2.out Z6.out hX); replace Z7 := kept (zr_far Z7.out HN.out.symm hX); replace Z6 := kept (zr_set Z6.out hX); have HS := kept HD.out.reg; clear hX)
              refine hK.out _ _ ?_ (fun hHeld => ?_)
              · ((try dsimp only); (with_reducible exact HS.out))
              clear hK K
              (try simp only [Act.put, List.setIfInBounds_toArray, List.set_cons_zero, List.set_cons_succ])
              (have z0 := Z7.out.cell 0; have z1 := Z7.out.cell 1; have z2 := Z7.out.cell 2; have f0 := Blk.frozen Z7.out; dsimp only [zR, List.getElem?_cons_zero, List.getElem?_cons_succ] at z0 z1 z2)
              refine hand_ready 9 (by kernel_rfl) (by kernel_rfl) (fun o ho K hK => ?_)
              (simp only [List.getElem?_toArray, List.getElem?_cons_succ, List.getElem?_cons_zero, Option.some.injEq] at ho)
              subst ho
              go_simp
              (refine name_world (fun X hX => ?_); clear z0 z1 z2 f0; replace HD := kept (HD.out.set Z7.out HG7.out hX); replace H1 := kept (zr_rd H1.out Z7.out hX); replace H2 := kept (zr_rd H2.out Z7.out hX); replace Z6 := kept (zr_far Z6.out HN.out hX); replace Z7 := kept (zr_set Z7.out hX); have HS := kept HD.out.reg; clear hX)
              refine hK.out _ _ ?_ (fun hHeld => ?_)
              · ((try dsimp only); (with_reducible exact HS.out))
              clear hK K
              (try simp only [Act.put, List.setIfInBounds_toArray, List.set_cons_zero, List.set_cons_succ])
              refine wpAnyH_done (by kernel_rfl) ?_ _
              go_wp2_with fail
              go_meet
              exact ⟨_, _, A1, k1, c1, ps1, A2, k2, c2, ps2, rfl, rfl, HD, ⟨⟨Z6.out, H1.out, M1.out.2⟩, M1.out.1⟩, ⟨⟨Z7.out, H2.out, M2.out.2⟩, M2.out.1⟩⟩
          · (simp only [List.getElem?_toArray, List.getElem?_cons_succ, List.getElem?_cons_zero, Option.some.injEq] at ho)
            subst ho
            go_simp
            (refine name_world (fun X hX => ?_); (try have HN := kept (Nat.ne_of_lt Z6.out.lt)); obtain ⟨hb, hz⟩ := zr_new hX; have HG7 := kept HD.out.bel.size; replace HD := kept (HD.out.below hb); (try replace H1 := kept (H1.out.below hb)); (try replace H2 := kept (H2.out.below hb)); (try replace Z6 := kept (Blk.below Z6.out hb Z6.out.lt)); (try replace Z7 := kept (Blk.below Z7.out hb Z7.out.lt)); have HS := kept HD.out.reg; have Z7 := kept hz; clear hX hz hb)
            refine hK.out _ _ ?_ (fun hHeld => ?_)
            · ((try dsimp only); (with_reducible exact HS.out))
            clear hK K
            (try simp only [Act.put, List.setIfInBounds_toArray, List.set_cons_zero, List.set_cons_succ])
            refine hand_ready2 2 6 (by kernel_rfl) (by kernel_rfl) (by kernel_rfl) (fun o ho K hK => ?_) (fun o ho K hK => ?_)
            · (simp only [List.getElem?_toArray, List.getElem?_cons_succ, List.getElem?_cons_zero, Option.some.injEq] at ho)
              subst ho
              go_simp
              (go_at_call 10; (with_reducible refine (HC1 _ HD.out).out.mono ?_); rintro e w7 ⟨A1, k1, c1, ps1, rfl, m1, rd1, kc1, hb, -⟩; replace HD := kept (HD.out.below hb); (try replace H1 := kept (H1.out.below hb)); (try replace H2 := kept (H2.out.below hb)); (try replace Z6 := kept (Blk.below Z6.out hb Z6.out.lt)); (try replace Z7 := kept (Blk.below Z7.out hb Z7.out.lt)); have HS := kept HD.out.reg; have H1 := kept rd1; have M1 := kept (And.intro m1 kc1); clear hb m1 rd1 kc1)
              (try go_wp2_with fail)
              refine hK.out _ _ ?_ (fun hHeld => ?_)
              · ((try dsimp only); (with_reducible exact HS.out))
              clear hK K
              (try simp only [Act.put, List.setIfInBounds_toArray, List.set_cons_zero, List.set_cons_succ])
              refine hand_ready2 5 6 (by kernel_rfl) (by kernel_rfl) (by kernel_rfl) (fun o ho K hK => ?_) (fun o ho K hK => ?_)
              · (simp only [List.getElem?_toArray, List.getElem?_cons_succ, List.getElem?_cons_zero, Option.some.injEq] at ho)
                subst ho
                go_simp
                (go_at_call 10; (with_reducible refine (HC2 _ HD.out).out.mono ?_); rintro e w8 ⟨A2, k2, c2, ps2, rfl, m2, rd2, kc2, hb, -⟩; replace HD := kept (HD.out.below hb); (try replace H1 := kept (H1.out.below hb)); (try replace H2 := kept (H2.out.below hb)); (try replace Z6 := kept (Blk.below Z6.out hb Z6.out.lt)); (try replace Z7 := kept (Blk.below Z7.out hb Z7.out.lt)); have HS := kept HD.out.reg; have H2 := kept rd2; have M2 := kept (And.intro m2 kc2); clear hb m2 rd2 kc2)
                (try go_wp2_with fail)
                refine hK.out _ _ ?_ (fun hHeld => ?_)
                · ((try dsimp only); (with_reducible exact HS.out))
                clear hK K
                (try simp only [Act.put, List.setIfInBounds_toArray, List.set_cons_zero, List.set_cons_succ])
                refine hand_ready 6 (by kernel_rfl) (by kernel_rfl) (fun o ho K hK => ?_)
                (simp only [List.getElem?_toArray, List.getElem?_cons_succ, List.getElem?_cons_zero, Option.some.injEq] at ho)
                subst ho
                go_simp
                (refine name_world (fun X hX => ?_); (try have HN := kept (Nat.ne_of_gt Z7.out.lt)); obtain ⟨hb, hz⟩ := zr_new hX; have HG6 := kept HD.out.bel.size; replace HD := kept (HD.out.below hb); (try replace H1 := kept (H1.out.below hb)); (try replace H2 := kept (H2.out.below hb)); (try replace Z6 := kept (Blk.below Z6.out hb Z6.out.lt)); (try replace Z7 := kept (Blk.below Z7.out hb Z7.out.lt)); have HS := kept HD.out.reg; have Z6 := kept hz; clear hX hz hb)
                refine hK.out _ _ ?_ (fun hHeld => ?_)
                · ((try dsimp only); (with_reducible exact HS.out))
                clear hK K
                (try simp only [Act.put, List.setIfInBounds_toArray, List.set_cons_zero, List.set_cons_succ])
                (have z0 := Z6.out.cell 0; have z1 := Z6.out.cell 1; have z2 := Z6.out.cell 2; have f0 := Blk.frozen Z6.out; dsimp only [zR, List.getElem?_cons_zero, List.getElem?_cons_succ] at z0 z1 z2)
                refine hand_ready 8 (by kernel_rfl) (by kernel_rfl) (fun o ho K hK => ?_)
                (simp only [List.getElem?_toArray, List.getElem?_cons_succ, List.getElem?_cons_zero, Option.some.injEq] at ho)
                subst ho
                go_simp
                (refine name_world (fun X hX => ?_); clear z0 z1 z2 f0; replace HD := kept (HD.out.set Z6.out HG6.out hX); replace H1 := kept (zr_rd H1.out Z6.out hX); replace H2 := kept (zr_rd H2.out Z6.out hX); replace Z7 := kept (zr_far Z7.out HN.out.symm hX); replace Z6 := kept (zr_set Z6.out hX); have HS := kept HD.out.reg; clear hX)
                refine hK.out _ _ ?_ (fun hHeld => ?_)
                · ((try dsimp only); (with_reducible exact HS.out))
                clear hK K
                (try simp only [Act.put, List.setIfInBounds_toArray, List.set_cons_zero, List.set_cons_succ])
                (have z0 := Z7.out.cell 0; have z1 := Z7.out.cell 1; have z2 := Z7.out.cell 2; have f0 := Blk.frozen Z7.out; dsimp only [zR, List.getElem?_cons_zero, List.getElem?_cons_succ] at z0 z1 z2)
                refine hand_ready 9 (by kernel_rfl) (by kernel_rfl) (fun o ho K hK => ?_)
                (simp only [List.getElem?_toArray, List.getElem?_cons_succ, List.getElem?_cons_zero, Option.some.injEq] at ho)
                subst ho
                go_simp
                (refine name_world (fun X hX => ?_); clear z0 z1 z2 f0; replace HD := kept (HD.out.set Z7.out HG7.out hX); replace H1 := kept (zr_rd H1.out Z7.out hX); replace H2 := kept (zr_rd H2.out Z7.out hX); replace Z6 := kept (zr_far Z6.out HN.out hX); replace Z7 := kept (zr_set Z7.out hX); have HS := kept HD.out.reg; clear hX)
                refine hK.out _ _ ?_ (fun hHeld => ?_)
                · ((try dsimp only); (with_reducible exact HS.out))
                clear hK K
                (try simp only [Act.put, List.setIfInBounds_toArray, List.set_cons_zero, List.set_cons_succ])
                refine wpAnyH_done (by kernel_rfl) ?_ _
                go_wp2_with fail
                go_meet
                exact ⟨_, _, A1, k1, c1, ps1, A2, k2, c2, ps2, rfl, rfl, HD, ⟨⟨Z6.out, H1.out, M1.out.2⟩, M1.out.1⟩, ⟨⟨Z7.out, H2.out, M2.out.2⟩, M2.out.1⟩⟩
              · (simp only [List.getElem?_toArray, List.getElem?_cons_succ, List.getElem?_cons_zero, Option.some.injEq] at ho)
                subst ho
                go_simp
                (refine name_world (fun X hX => ?_); (try have HN := kept (Nat.ne_of_gt Z7.out.lt)); obtain ⟨hb, hz⟩ := zr_new hX; have HG6 := kept HD.out.bel.size; replace HD := kept (HD.out.below hb); (try replace H1 := kept (H1.out.below hb)); (try replace H2 := kept (H2.out.below hb)); (try replace Z6 := kept (Blk.below Z6.out hb Z6.out.lt)); (try replace Z7 := kept (Blk.below Z7.out hb Z7.out.lt)); have HS := kept HD.out.reg; have Z6 := kept hz; clear hX hz hb)
                refine hK.out _ _ ?_ (fun hHeld => ?_)
                · ((try dsimp only); (with_reducible exact HS.out))
                clear hK K
                (try simp only [Act.put, List.setIfInBounds_toArray, List.set_cons_zero, List.set_cons_succ])
                refine hand_ready 5 (by kernel_rfl) (by kernel_rfl) (fun o ho K hK => ?_)
                (simp only [List.getElem?_toArray, List.getElem?_cons_succ, List.getElem?_cons_zero, Option.some.injEq] at ho)
                subst ho
                go_simp
                (go_at_call 10; (with_reducible refine (HC2 _ HD.out).out.mono ?_); rintro e w8 ⟨A2, k2, c2, ps2, rfl, m2, rd2, kc2, hb, -⟩; replace HD := kept (HD.out.below hb); (try replace H1 := kept (H1.out.below hb)); (try replace H2 := kept (H2.out.below hb)); (try replace Z6 := kept (Blk.below Z6.out hb Z6.out.lt)); (try replace Z7 := kept (Blk.below Z7.out hb Z7.out.lt)); have HS := kept HD.out.reg; have H2 := kept rd2; have M2 := kept (And.intro m2 kc2); clear hb m2 rd2 kc2)
                (try go_wp2_with fail)
                refine hK.out _ _ ?_ (fun hHeld => ?_)
                · ((try dsimp only); (with_reducible exact HS.out))
                clear hK K
                (try simp only [Act.put, List.setIfInBounds_toArray, List.set_cons_zero, List.set_cons_succ])
                (have z0 := Z6.out.cell 0; have z1 := Z6.out.cell 1; have z2 := Z6.out.cell 2; have f0 := Blk.frozen Z6.out; dsimp only [zR, List.getElem?_cons_zero, List.getElem?_cons_succ] at z0 z1 z2)
                refine hand_ready 8 (by kernel_rfl) (by kernel_rfl) (fun o ho K hK => ?_)
                (simp only [List.getElem?_toArray, List.getElem?_cons_succ, List.getElem?_cons_zero, Option.some.injEq] at ho)
                subst ho
                go_simp
                (refine name_world (fun X hX => ?_); clear z0 z1 z2 f0; replace HD := kept (HD.out.set Z6.out HG6.out hX); replace H1 := kept (zr_rd H1.out Z6.out hX); replace H2 := kept (zr_rd H2.out Z6.out hX); replace Z7 := kept (zr_far Z7.out HN.out.symm hX); replace Z6 := kept (zr_set Z6.out hX); have HS := kept HD.out.reg; clear hX)
                refine hK.out _ _ ?_ (fun hHeld => ?_)
                · ((try dsimp only); (with_reducible exact HS.out))
                clear hK K
                (try simp only [Act.put, List.setIfInBounds_toArray, List.set_cons_zero, List.set_cons_succ])
                (have z0 := Z7.out.cell 0; have z1 := Z7.out.cell 1; have z2 := Z7.out.cell 2; have f0 := Blk.frozen Z7.out; dsimp only [zR, List.getElem?_cons_zero, List.getElem?_cons_succ] at z0 z1 z2)
                refine hand_ready 9 (by kernel_rfl) (by kernel_rfl) (fun o ho K hK => ?_)
                (simp only [List.getElem?_toArray, List.getElem?_cons_succ, List.getElem?_cons_zero, Option.some.injEq] at ho)
                subst ho
                go_simp
                (refine name_world (fun X hX => ?_); clear z0 z1 z2 f0; replace HD := kept (HD.out.set Z7.out HG7.out hX); replace H1 := kept (zr_rd H1.out Z7.out hX); replace H2 := kept (zr_rd H2.out Z7.out hX); replace Z6 := kept (zr_far Z6.out HN.out hX); replace Z7 := kept (zr_set Z7.out hX); have HS := kept HD.out.reg; clear hX)
                refine hK.out _ _ ?_ (fun hHeld => ?_)
                · ((try dsimp only); (with_reducible exact HS.out))
                clear hK K
                (try simp only [Act.put, List.setIfInBounds_toArray, List.set_cons_zero, List.set_cons_succ])
                refine wpAnyH_done (by kernel_rfl) ?_ _
                go_wp2_with fail
                go_meet
                exact ⟨_, _, A1, k1, c1, ps1, A2, k2, c2, ps2, rfl, rfl, HD, ⟨⟨Z6.out, H1.out, M1.out.2⟩, M1.out.1⟩, ⟨⟨Z7.out, H2.out, M2.out.2⟩, M2.out.1⟩⟩
            · (simp only [List.getElem?_toArray, List.getElem?_cons_succ, List.getElem?_cons_zero, Option.some.injEq] at ho)
              subst ho
              go_simp
              (refine name_world (fun X hX => ?_); (try have HN := kept (Nat.ne_of_gt Z7.out.lt)); obtain ⟨hb, hz⟩ := zr_new hX; have HG6 := kept HD.out.bel.size; replace HD := kept (HD.out.below hb); (try replace H1 := kept (H1.out.below hb)); (try replace H2 := kept (H2.out.below hb)); (try replace Z6 := kept (Blk.below Z6.out hb Z6.out.lt)); (try replace Z7 := kept (Blk.below Z7.out hb Z7.out.lt)); have HS := kept HD.out.reg; have Z6 := kept hz; clear hX hz hb)
              refine hK.out _ _ ?_ (fun hHeld => ?_)
              · ((try dsimp only); (with_reducible exact HS.out))
              clear hK K
              (try simp only [Act.put, List.setIfInBounds_toArray, List.set_cons_zero, List.set_cons_succ])
              refine hand_ready 2 (by kernel_rfl) (by kernel_rfl) (fun o ho K hK => ?_)
              (simp only [List.getElem?_toArray, List.getElem?_cons_succ, List.getElem?_cons_zero, Option.some.injEq] at ho)
              subst ho
              go_simp
              (go_at_call 10; (with_reducible refine (HC1 _ HD.out).out.mono ?_); rintro e w7 ⟨A1, k1, c1, ps1, rfl, m1, rd1, kc1, hb, -⟩; replace HD := kept (HD.out.below hb); (try replace H1 := kept (H1.out.below hb)); (try replace H2 := kept (H2.out.below hb)); (try replace Z6 := kept (Blk.below Z6.out hb Z6.out.lt)); (try replace Z7 := kept (Blk.below Z7.out hb Z7.out.lt)); have HS := kept HD.out.reg; have H1 := kept rd1; have M1 := kept (And.intro m1 kc1); clear hb m1 rd1 kc1)
              (try go_wp2_with fail)
              refine hK.out _ _ ?_ (fun hHeld => ?_)
              · ((try dsimp only); (with_reducible exact HS.out))
              clear hK K
              (try simp only [Act.put, List.setIfInBounds_toArray, List.set_cons_zero, List.set_cons_succ])
              refine hand_ready 5 (by kernel_rfl) (by kernel_rfl) (fun o ho K hK => ?_)
              (simp only [List.getElem?_toArray, List.getElem?_cons_succ, List.getElem?_cons_zero, Option.some.injEq] at ho)
              subst ho
              go_simp
              (go_at_call 10; (with_reducible refine (HC2 _ HD.out).out.mono ?_); rintro e w8 ⟨A2, k2, c2, ps2, rfl, m2, rd2, kc2, hb, -⟩; replace HD := kept (HD.out.below hb); (try replace H1 := kept (H1.out.below hb)); (try replace H2 := kept (H2.out.below hb)); (try replace Z6 := kept (Blk.below Z6.out hb Z6.out.lt)); (try replace Z7 := kept (Blk.below Z7.out hb Z7.out.lt)); have HS := kept HD.out.reg; have H2 := kept rd2; have M2 := kept (And.intro m2 kc2); clear hb m2 rd2 kc2)
              (try go_wp2_with fail)
              refine hK.out _ _ ?_ (fun hHeld => ?_)
              · ((try dsimp only); (with_reducible exact HS.out))
              clear hK K
              (try simp only [Act.put, List.setIfInBounds_toArray, List.set_cons_zero, List.set_cons_succ])
              (have z0 := Z6.out.cell 0; have z1 := Z6.out.cell 1; have z2 := Z6.out.cell 2; have f0 := Blk.frozen Z6.out; dsimp only [zR, List.getElem?_cons_zero, List.getElem?_cons_succ] at z0 z1 z2)
              refine hand_ready 8 (by kernel_rfl) (by kernel_rfl) (fun o ho K hK => ?_)
              (simp only [List.getElem?_toArray, List.getElem?_cons_succ, List.getElem?_cons_zero, Option.some.injEq] at ho)
              subst ho
              go_simp
              (refine name_world (fun X hX => ?_); clear z0 z1 z2 f0; replace HD := kept (HD.out.set Z6.out HG6.out hX); replace H1 := kept (zr_rd H1.out Z6.out hX); replace H2 := kept (zr_rd H2.out Z6.out hX); replace Z7 := kept (zr_far Z7.out HN.out.symm hX); replace Z6 := kept (zr_set Z6.out hX); have HS := kept HD.out.reg; clear hX)
              refine hK.out _ _ ?_ (fun hHeld => ?_)
              · ((try dsimp only); (with_reducible exact HS.out))
              clear hK K
              (try simp only [Act.put, List.setIfInBounds_toArray, List.set_cons_zero, List.set_cons_succ])
              (have z0 := Z7.out.cell 0; have z1 := Z7.out.cell 1; have z2 := Z7.out.cell 2; have f0 := Blk.frozen Z7.out; dsimp only [zR, List.getElem?_cons_zero, List.getElem?_cons_succ] at z0 z1 z2)
              refine hand_ready 9 (by kernel_rfl) (by kernel_rfl) (fun o ho K hK => ?_)
              (simp only [List.getElem?_toArray, List.getElem?_cons_succ, List.getElem?_cons_zero, Option.some.injEq] at ho)
              subst ho
              go_simp
              (refine name_world (fun X hX => ?_); clear z0 z1 z2 f0; replace HD := kept (HD.out.set Z7.out HG7.out hX); replace H1 := kept (zr_rd H1.out Z7.out hX); replace H2 := kept (zr_rd H2.out Z7.out hX); replace Z6 := kept (zr_far Z6.out HN.out hX); replace Z7 := kept (zr_set Z7.out hX); have HS := kept HD.out.reg; clear hX)
              refine hK.out _ _ ?_ (fun hHeld => ?_)
              · ((try dsimp only); (with_reducible exact HS.out))
              clear hK K
              (try simp only [Act.put, List.setIfInBounds_toArray, List.set_cons_zero, List.set_cons_succ])
              refine wpAnyH_done (by kernel_rfl) ?_ _
              go_wp2_with fail
              go_meet
              exact ⟨_, _, A1, k1, c1, ps1, A2, k2, c2, ps2, rfl, rfl, HD, ⟨⟨Z6.out, H1.out, M1.out.2⟩, M1.out.1⟩, ⟨⟨Z7.out, H2.out, M2.out.2⟩, M2.out.1⟩⟩
        case rest =>
        obtain ⟨g6, g7, A1, k1, c1, ps1, A2, k2, c2, ps2, rfl, rfl, HD5, HA, HBX⟩ := hcut
        clear hS0 HD HC1 HC2
        have hk1 : k1 = mq := by
          rw [← HA.out.1.rd.ln, ← List.length_map (f := Prod.snd), HA.out.2, List.length_map, List.length_take, HMM.out.1]
          have := manyQ_le q m
          rw [HMM.out.2] at this
          omega
        have hk2 : k2 = m := by rw [← HBX.out.1.rd.ln, ← List.length_map (f := Prod.snd), HBX.out.2, List.length_map, HMM.out.1]
        subst hk1 hk2
        have b0 := HBX.out.1.blk.cell 0
        have b0 : wc.cell? ⟨g7, 0, none⟩ = some (.slice A2 k2 c2) := b0
        have kl := HD5.out.qa.cells.1
        have HMQ : Hid (k1 = if 0 < q.limit then min k2 q.limit.toNat else k2) := HMM.out.2.symm
        have hle : k1 ≤ k2 := by rw [HMQ.out]; split <;> omega
        have HRD3 : Hid (RdKs wc A2 k1 (ps2.take k1)) := HBX.out.1.rd.take k1 hle
        have HEQ : Hid (ps1.map Prod.snd = (ps2.take k1).map Prod.snd) := by show _ = _; rw [HA.out.2, List.map_take, ← HBX.out.2, List.map_take]
        have HSM := kept (sameAll_true A1 A2 k1 c1 c2 ps1 (ps2.take k1) wc.drew (HA.out.1.rd.keeps (Keeps.drew _)) (HRD3.out.keeps (Keeps.drew _)) HEQ.out (by omega))
        have hk1c : (k1 : Int) ≤ (c2 : Int) := by have := HBX.out.1.le; omega
        have HSTA : Hid ((wc.drew.cell? ⟨g6, 0, none⟩ = some (.slice A1 k1 c1) ∧ wc.drew.cell? ⟨g6, 1, none⟩ = some (.int .i64 n) ∧ wc.drew.cell? ⟨g6, 2, none⟩ = some (.bool (decide (k1 < k2)))) ∧ (wc.drew.cell? ⟨g7, 0, none⟩ = some (.slice A2 k2 c2) ∧ wc.drew.cell? ⟨g7, 1, none⟩ = some (.int .i64 n) ∧ wc.drew.cell? ⟨g7, 2, none⟩ = some (.bool false))) := ⟨⟨HA.out.1.blk.cell 0, HA.out.1.blk.cell 1, HA.out.1.blk.cell 2⟩, ⟨HBX.out.1.blk.cell 0, HBX.out.1.blk.cell 1, HBX.out.1.blk.cell 2⟩⟩
        have HKB := kept (Keeps.refl wc)
        have n1 : ((k1 : Int) == (k1 : Int)) = true := by simp
        have n2 : decide ((k1 : Int) < (k2 : Int)) = decide (k1 < k2) := by simp
        have n3 : (decide (k1 < k2) == decide (k1 < k2)) = true := by simp
        have n4 : ((n : Int) == (n : Int)) = true := by simp
        by_cases hlim : 0 < q.limit
        · have hmin : min (k2 : Int) q.limit = (k1 : Int) := by have := HMQ.out; rw [if_pos hlim] at this; omega
          have hmin2 : (if q.limit < (k2 : Int) then q.limit else (k2 : Int)) = (k1 : Int) := by rw [← hmin, Int.min_def]; split <;> split <;> omega
          go_upto_region 9 with fail
          have HS := HSTA
          clear b0 kl
          refine wp_region_held_drew (S := (fun W' => (W'.cell? ⟨g6, 0, none⟩ = some (.slice A1 k1 c1) ∧ W'.cell? ⟨g6, 1, none⟩ = some (.int .i64 n) ∧ W'.cell? ⟨g6, 2, none⟩ = some (.bool (decide (k1 < k2)))) ∧ (W'.cell? ⟨g7, 0, none⟩ = some (.slice A2 k2 c2) ∧ W'.cell? ⟨g7, 1, none⟩ = some (.int .i64 n) ∧ W'.cell? ⟨g7, 2, none⟩ = some (.bool false)))) (by kernel_rfl) ?_ (fun hHeld => ?_)
          · ((try dsimp only); (first | with_reducible exact HS.out | with_reducible exact HS2.out))
          refine hand_take 0 (some 44) ?_ (by kernel_rfl) (by kernel_rfl) (by kernel_rfl) (by kernel_rfl) (by kernel_rfl) (fun _ _ _ h => h) ?_ (by assumption) ?_
          rotate_left
          · (intro o ho w hSw; (simp only [List.getElem?_toArray, List.getElem?_cons_succ, List.getElem?_cons_zero, Option.some.injEq] at ho); subst ho; (try dsimp only at hSw); go_simp; (first | done | with_reducible rfl))
          (try simp only [Act.put, List.setIfInBounds_toArray, List.set_cons_zero, List.set_cons_succ])
          refine hand_take 1 (some 45) ?_ (by kernel_rfl) (by kernel_rfl) (by kernel_rfl) (by kernel_rfl) (by kernel_rfl) (fun _ _ _ h => h) ?_ (by assumption) ?_
          rotate_left
          · (intro o ho w hSw; (simp only [List.getElem?_toArray, List.getElem?_cons_succ, List.getElem?_cons_zero, Option.some.injEq] at ho); subst ho; (try dsimp only at hSw); go_simp; (first | done | with_reducible rfl))
          (try simp only [Act.put, List.setIfInBounds_toArray, List.set_cons_zero, List.set_cons_succ])
          refine hand_take 2 (some 46) ?_ (by kernel_rfl) (by kernel_rfl) (by kernel_rfl) (by kernel_rfl) (by kernel_rfl) (fun _ _ _ h => h) ?_ (by assumption) ?_
          rotate_left
          · (intro o ho w hSw; (simp only [List.getElem?_toArray, List.getElem?_cons_succ, List.getElem?_cons_zero, Option.some.injEq] at ho); subst ho; (try dsimp only at hSw); go_simp; (first | done | with_reducible rfl))
          (try simp only [Act.put, List.setIfInBounds_toArray, List.set_cons_zero, List.set_cons_succ])
          refine hand_take 3 (some 47) ?_ (by kernel_rfl) (by kernel_rfl) (by kernel_rfl) (by kernel_rfl) (by kernel_rfl) (fun _ _ _ h => h) ?_ (by assumption) ?_
          rotate_left
          · (intro o ho w hSw; (simp only [List.getElem?_toArray, List.getElem?_cons_succ, List.getElem?_cons_zero, Option.some.injEq] at ho); subst ho; (try dsimp only at hSw); go_simp; (first | done | with_reducible rfl))
          (try simp only [Act.put, List.setIfInBounds_toArray, List.set_cons_zero, List.set_cons_succ])
          refine hand_take 4 (some 48) ?_ (by kernel_rfl) (by kernel_rfl) (by kernel_rfl) (by kernel_rfl) (by kernel_rfl) (fun _ _ _ h => h) ?_ (by assumption) ?_
          rotate_left
          · (intro o ho w hSw; (simp only [List.getElem?_toArray, List.getElem?_cons_succ, List.getElem?_cons_zero, Option.some.injEq] at ho); subst ho; (try dsimp only at hSw); go_simp; (first | done | with_reducible rfl))
          (try simp only [Act.put, List.setIfInBounds_toArray, List.set_cons_zero, List.set_cons_succ])
          refine hand_take 5 (some 49) ?_ (by kernel_rfl) (by kernel_rfl) (by kernel_rfl) (by kernel_rfl) (by kernel_rfl) (fun _ _ _ h => h) ?_ (by assumption) ?_
          rotate_left
          · (intro o ho w hSw; (simp only [List.getElem?_toArray, List.getElem?_cons_succ, List.getElem?_cons_zero, Option.some.injEq] at ho); subst ho; (try dsimp only at hSw); go_simp; (first | done | with_reducible rfl))
          (try simp only [Act.put, List.setIfInBounds_toArray, List.set_cons_zero, List.set_cons_succ])
          refine hand_take 6 (some 50) ?_ (by kernel_rfl) (by kernel_rfl) (by kernel_rfl) (by kernel_rfl) (by kernel_rfl) (fun _ _ _ h => h) ?_ (by assumption) ?_
          rotate_left
          · (intro o ho w hSw; (simp only [List.getElem?_toArray, List.getElem?_cons_succ, List.getElem?_cons_zero, Option.some.injEq] at ho); subst ho; (try dsimp only at hSw); go_simp; (first | done | with_reducible rfl))
          (try simp only [Act.put, List.setIfInBounds_toArray, List.set_cons_zero, List.set_cons_succ])
          refine hand_take 7 (some 51) ?_ (by kernel_rfl) (by kernel_rfl) (by kernel_rfl) (by kernel_rfl) (by kernel_rfl) (fun _ _ _ h => h) ?_ (by assumption) ?_
          rotate_left
          · (intro o ho w hSw; (simp only [List.getElem?_toArray, List.getElem?_cons_succ, List.getElem?_cons_zero, Option.some.injEq] at ho); subst ho; (try dsimp only at hSw); go_simp; (first | done | with_reducible rfl))
          (try simp only [Act.put, List.setIfInBounds_toArray, List.set_cons_zero, List.set_cons_succ])
          refine hand_take 8 (some 52) ?_ (by kernel_rfl) (by kernel_rfl) (by kernel_rfl) (by kernel_rfl) (by kernel_rfl) (fun _ _ _ h => h) ?_ (by assumption) ?_
          rotate_left
          · (intro o ho w hSw; (simp only [List.getElem?_toArray, List.getElem?_cons_succ, List.getElem?_cons_zero, Option.some.injEq] at ho); subst ho; (try dsimp only at hSw); go_simp; (first | done | with_reducible rfl))
          (try simp only [Act.put, List.setIfInBounds_toArray, List.set_cons_zero, List.set_cons_succ])
          refine hand_take 9 (some 53) ?_ (by kernel_rfl) (by kernel_rfl) (by kernel_rfl) (by kernel_rfl) (by kernel_rfl) (fun _ _ _ h => h) ?_ (by assumption) ?_
          rotate_left
          · (intro o ho w hSw; (simp only [List.getElem?_toArray, List.getElem?_cons_succ, List.getElem?_cons_zero, Option.some.injEq] at ho); subst ho; (try dsimp only at hSw); go_simp; (first | done | with_reducible rfl))
          (try simp only [Act.put, List.setIfInBounds_toArray, List.set_cons_zero, List.set_cons_succ])
          refine hand_take 10 (some 54) ?_ (by kernel_rfl) (by kernel_rfl) (by kernel_rfl) (by kernel_rfl) (by kernel_rfl) (fun _ _ _ h => h) ?_ (by assumption) ?_
          rotate_left
          · (intro o ho w hSw; (simp only [List.getElem?_toArray, List.getElem?_cons_succ, List.getElem?_cons_zero, Option.some.injEq] at ho); subst ho; (try dsimp only at hSw); go_simp; (first | done | with_reducible rfl))
          (try simp only [Act.put, List.setIfInBounds_toArray, List.set_cons_zero, List.set_cons_succ])
          refine hand_take 11 (some 55) ?_ (by kernel_rfl) (by kernel_rfl) (by kernel_rfl) (by kernel_rfl) (by kernel_rfl) (fun _ _ _ h => h) ?_ (by assumption) ?_
          rotate_left
          · (intro o ho w hSw; (simp only [List.getElem?_toArray, List.getElem?_cons_succ, List.getElem?_cons_zero, Option.some.injEq] at ho); subst ho; (try dsimp only at hSw); go_simp; (first | done | with_reducible rfl))
          (try simp only [Act.put, List.setIfInBounds_toArray, List.set_cons_zero, List.set_cons_succ])
          refine hand_ready 12 (by kernel_rfl) (by kernel_rfl) (fun o ho K hK => ?_)
          (simp only [List.getElem?_toArray, List.getElem?_cons_succ, List.getElem?_cons_zero, Option.some.injEq] at ho)
          subst ho
          go_simp
          (go_at_call 11; (with_reducible refine (HSM.out).mono ?_); rintro e w5 ⟨rfl, hb5⟩; have HS2 := kept (show (w5.cell? ⟨g6, 0, none⟩ = some (.slice A1 k1 c1) ∧ w5.cell? ⟨g6, 1, none⟩ = some (.int .i64 n) ∧ w5.cell? ⟨g6, 2, none⟩ = some (.bool (decide (k1 < k2)))) ∧ (w5.cell? ⟨g7, 0, none⟩ = some (.slice A2 k2 c2) ∧ w5.cell? ⟨g7, 1, none⟩ = some (.int .i64 n) ∧ w5.cell? ⟨g7, 2, none⟩ = some (.bool false)) from ⟨⟨(Keeps.of_below hb5).cell_ HS.out.1.1, (Keeps.of_below hb5).cell_ HS.out.1.2.1, (Keeps.of_below hb5).cell_ HS.out.1.2.2⟩, ⟨(Keeps.of_below hb5).cell_ HS.out.2.1, (Keeps.of_below hb5).cell_ HS.out.2.2.1, (Keeps.of_below hb5).cell_ HS.out.2.2.2⟩⟩); have HBF := kept (bel_to ((Below.refl wc.heap.size wc).drew.trans hb5) HD5.out.bel); clear hb5)
          (try go_wp2_with fail)
          refine hK.out _ _ ?_ (fun hHeld => ?_)
          · ((try dsimp only); (first | with_reducible exact HS.out | with_reducible exact HS2.out))
          clear hK K
          (try simp only [Act.put, List.setIfInBounds_toArray, List.set_cons_zero, List.set_cons_succ])
          refine hand_take 13 (some 57) ?_ (by kernel_rfl) (by kernel_rfl) (by kernel_rfl) (by kernel_rfl) (by kernel_rfl) (fun _ _ _ h => h) ?_ (by assumption) ?_
          rotate_left
          · (intro o ho w hSw; (simp only [List.getElem?_toArray, List.getElem?_cons_succ, List.getElem?_cons_zero, Option.some.injEq] at ho); subst ho; (try dsimp only at hSw); go_simp; (first | done | with_reducible rfl))
          (try simp only [Act.put, List.setIfInBounds_toArray, List.set_cons_zero, List.set_cons_succ])
          refine hand_take 14 (some 58) ?_ (by kernel_rfl) (by kernel_rfl) (by kernel_rfl) (by kernel_rfl) (by kernel_rfl) (fun _ _ _ h => h) ?_ (by assumption) ?_
          rotate_left
          · (intro o ho w hSw; (simp only [List.getElem?_toArray, List.getElem?_cons_succ, List.getElem?_cons_zero, Option.some.injEq] at ho); subst ho; (try dsimp only at hSw); go_simp; (first | done | with_reducible rfl))
          (try simp only [Act.put, List.setIfInBounds_toArray, List.set_cons_zero, List.set_cons_succ])
          refine hand_take 15 (some 59) ?_ (by kernel_rfl) (by kernel_rfl) (by kernel_rfl) (by kernel_rfl) (by kernel_rfl) (fun _ _ _ h => h) ?_ (by assumption) ?_
          rotate_left
          · (intro o ho w hSw; (simp only [List.getElem?_toArray, List.getElem?_cons_succ, List.getElem?_cons_zero, Option.some.injEq] at ho); subst ho; (try dsimp only at hSw); go_simp; (first | done | with_reducible rfl))
          (try simp only [Act.put, List.setIfInBounds_toArray, List.set_cons_zero, List.set_cons_succ])
          refine hand_take 16 (some 60) ?_ (by kernel_rfl) (by kernel_rfl) (by kernel_rfl) (by kernel_rfl) (by kernel_rfl) (fun _ _ _ h => h) ?_ (by assumption) ?_
          rotate_left
          · (intro o ho w hSw; (simp only [List.getElem?_toArray, List.getElem?_cons_succ, List.getElem?_cons_zero, Option.some.injEq] at ho); subst ho; (try dsimp only at hSw); go_simp; (first | done | with_reducible rfl))
          (try simp only [Act.put, List.setIfInBounds_toArray, List.set_cons_zero, List.set_cons_succ])
          refine hand_take 17 (some 61) ?_ (by kernel_rfl) (by kernel_rfl) (by kernel_rfl) (by kernel_rfl) (by kernel_rfl) (fun _ _ _ h => h) ?_ (by assumption) ?_
          rotate_left
          · (intro o ho w hSw; (simp only [List.getElem?_toArray, List.getElem?_cons_succ, List.getElem?_cons_zero, Option.some.injEq] at ho); subst ho; (try dsimp only at hSw); go_simp; (first | done | with_reducible rfl))
          (try simp only [Act.put, List.setIfInBounds_toArray, List.set_cons_zero, List.set_cons_succ])
          refine hand_take 18 (some 62) ?_ (by kernel_rfl) (by kernel_rfl) (by kernel_rfl) (by kernel_rfl) (by kernel_rfl) (fun _ _ _ h => h) ?_ (by assumption) ?_
          rotate_left
          · (intro o ho w hSw; (simp only [List.getElem?_toArray, List.getElem?_cons_succ, List.getElem?_cons_zero, Option.some.injEq] at ho); subst ho; (try dsimp only at hSw); go_simp; (first | done | with_reducible rfl))
          (try simp only [Act.put, List.setIfInBounds_toArray, List.set_cons_zero, List.set_cons_succ])
          refine hand_take 19 (some 63) ?_ (by kernel_rfl) (by kernel_rfl) (by kernel_rfl) (by kernel_rfl) (by kernel_rfl) (fun _ _ _ h => h) ?_ (by assumption) ?_
          rotate_left
          · (intro o ho w hSw; (simp only [List.getElem?_toArray, List.getElem?_cons_succ, List.getElem?_cons_zero, Option.some.injEq] at ho); subst ho; (try dsimp only at hSw); go_simp; (first | done | with_reducible rfl))
          (try simp only [Act.put, List.setIfInBounds_toArray, List.set_cons_zero, List.set_cons_succ])
          refine hand_take 20 (some 64) ?_ (by kernel_rfl) (by kernel_rfl) (by kernel_rfl) (by kernel_rfl) (by kernel_rfl) (fun _ _ _ h => h) ?_ (by assumption) ?_
          rotate_left
          · (intro o ho w hSw; (simp only [List.getElem?_toArray, List.getElem?_cons_succ, List.getElem?_cons_zero, Option.some.injEq] at ho); subst ho; (try dsimp only at hSw); go_simp; (first | done | with_reducible rfl))
          (try simp only [Act.put, List.setIfInBounds_toArray, List.set_cons_zero, List.set_cons_succ])
          refine hand_take 21 (some 65) ?_ (by kernel_rfl) (by kernel_rfl) (by kernel_rfl) (by kernel_rfl) (by kernel_rfl) (fun _ _ _ h => h) ?_ (by assumption) ?_
          rotate_left
          · (intro o ho w hSw; (simp only [List.getElem?_toArray, List.getElem?_cons_succ, List.getElem?_cons_zero, Option.some.injEq] at ho); subst ho; (try dsimp only at hSw); go_simp; (first | done | with_reducible rfl))
          (try simp only [Act.put, List.setIfInBounds_toArray, List.set_cons_zero, List.set_cons_succ])
          refine hand_take 22 (some 66) ?_ (by kernel_rfl) (by kernel_rfl) (by kernel_rfl) (by kernel_rfl) (by kernel_rfl) (fun _ _ _ h => h) ?_ (by assumption) ?_
          rotate_left
          · (intro o ho w hSw; (simp only [List.getElem?_toArray, List.getElem?_cons_succ, List.getElem?_cons_zero, Option.some.injEq] at ho); subst ho; (try dsimp only at hSw); go_simp; (first | done | with_reducible rfl))
          (try simp only [Act.put, List.setIfInBounds_toArray, List.set_cons_zero, List.set_cons_succ])
          refine hand_take 23 (some 67) ?_ (by kernel_rfl) (by kernel_rfl) (by kernel_rfl) (by kernel_rfl) (by kernel_rfl) (fun _ _ _ h => h) ?_ (by assumption) ?_
          rotate_left
          · (intro o ho w hSw; (simp only [List.getElem?_toArray, List.getElem?_cons_succ, List.getElem?_cons_zero, Option.some.injEq] at ho); subst ho; (try dsimp only at hSw); go_simp; (first | done | with_reducible rfl))
          (try simp only [Act.put, List.setIfInBounds_toArray, List.set_cons_zero, List.set_cons_succ])
          refine hand_take 24 (some 68) ?_ (by kernel_rfl) (by kernel_rfl) (by kernel_rfl) (by kernel_rfl) (by kernel_rfl) (fun _ _ _ h => h) ?_ (by assumption) ?_
          rotate_left
          · (intro o ho w hSw; (simp only [List.getElem?_toArray, List.getElem?_cons_succ, List.getElem?_cons_zero, Option.some.injEq] at ho); subst ho; (try dsimp only at hSw); go_simp; (first | done | with_reducible rfl))
          (try simp only [Act.put, List.setIfInBounds_toArray, List.set_cons_zero, List.set_cons_succ])
          refine hand_take 25 (some 69) ?_ (by kernel_rfl) (by kernel_rfl) (by kernel_rfl) (by kernel_rfl) (by kernel_rfl) (fun _ _ _ h => h) ?_ (by assumption) ?_
          rotate_left
          · (intro o ho w hSw; (simp only [List.getElem?_toArray, List.getElem?_cons_succ, List.getElem?_cons_zero, Option.some.injEq] at ho); subst ho; (try dsimp only at hSw); go_simp; (first | done | with_reducible rfl))
          (try simp only [Act.put, List.setIfInBounds_toArray, List.set_cons_zero, List.set_cons_succ])
          refine hand_take 26 (some 70) ?_ (by kernel_rfl) (by kernel_rfl) (by kernel_rfl) (by kernel_rfl) (by kernel_rfl) (fun _ _ _ h => h) ?_ (by assumption) ?_
          rotate_left
          · (intro o ho w hSw; (simp only [List.getElem?_toArray, List.getElem?_cons_succ, List.getElem?_cons_zero, Option.some.injEq] at ho); subst ho; (try dsimp only at hSw); go_simp; (first | done | with_reducible rfl))
          (try simp only [Act.put, List.setIfInBounds_toArray, List.set_cons_zero, List.set_cons_succ])
          refine hand_take 27 (some 71) ?_ (by kernel_rfl) (by kernel_rfl) (by kernel_rfl) (by kernel_rfl) (by kernel_rfl) (fun _ _ _ h => h) ?_ (by assumption) ?_
          rotate_left
          · (intro o ho w hSw; (simp only [List.getElem?_toArray, List.getElem?_cons_succ, List.getElem?_cons_zero, Option.some.injEq] at ho); subst ho; (try dsimp only at hSw); go_simp; (first | done | with_reducible rfl))
          (try simp only [Act.put, List.setIfInBounds_toArray, List.set_cons_zero, List.set_cons_succ])
          refine hand_take 28 (some 72) ?_ (by kernel_rfl) (by kernel_rfl) (by kernel_rfl) (by kernel_rfl) (by kernel_rfl) (fun _ _ _ h => h) ?_ (by assumption) ?_
          rotate_left
          · (intro o ho w hSw; (simp only [List.getElem?_toArray, List.getElem?_cons_succ, List.getElem?_cons_zero, Option.some.injEq] at ho); subst ho; (try dsimp only at hSw); go_simp; (first | done | with_reducible rfl))
          (try simp only [Act.put, List.setIfInBounds_toArray, List.set_cons_zero, List.set_cons_succ])
          refine hand_take 29 (some 73) ?_ (by kernel_rfl) (by kernel_rfl) (by kernel_rfl) (by kernel_rfl) (by kernel_rfl) (fun _ _ _ h => h) ?_ (by assumption) ?_
          rotate_left
          · (intro o ho w hSw; (simp only [List.getElem?_toArray, List.getElem?_cons_succ, List.getElem?_cons_zero, Option.some.injEq] at ho); subst ho; (try dsimp only at hSw); go_simp; (first | done | with_reducible rfl))
          (try simp only [Act.put, List.setIfInBounds_toArray, List.set_cons_zero, List.set_cons_succ])
          refine hand_take 30 (some 74) ?_ (by kernel_rfl) (by kernel_rfl) (by kernel_rfl) (by kernel_rfl) (by kernel_rfl) (fun _ _ _ h => h) ?_ (by assumption) ?_
          rotate_left
          · (intro o ho w hSw; (simp only [List.getElem?_toArray, List.getElem?_cons_succ, List.getElem?_cons_zero, Option.some.injEq] at ho); subst ho; (try dsimp only at hSw); go_simp; (first | done | with_reducible rfl))
          (try simp only [Act.put, List.setIfInBounds_toArray, List.set_cons_zero, List.set_cons_succ])
          refine hand_take 31 (some 75) ?_ (by kernel_rfl) (by kernel_rfl) (by kernel_rfl) (by kernel_rfl) (by kernel_rfl) (fun _ _ _ h => h) ?_ (by assumption) ?_
          rotate_left
          · (intro o ho w hSw; (simp only [List.getElem?_toArray, List.getElem?_cons_succ, List.getElem?_cons_zero, Option.some.injEq] at ho); subst ho; (try dsimp only at hSw); go_simp; (first | done | with_reducible rfl))
          (try simp only [Act.put, List.setIfInBounds_toArray, List.set_cons_zero, List.set_cons_succ])
          refine hand_take 32 (some 76) ?_ (by kernel_rfl) (by kernel_rfl) (by kernel_rfl) (by kernel_rfl) (by kernel_rfl) (fun _ _ _ h => h) ?_ (by assumption) ?_
          rotate_left
          · (intro o ho w hSw; (simp only [List.getElem?_toArray, List.getElem?_cons_succ, List.getElem?_cons_zero, Option.some.injEq] at ho); subst ho; (try dsimp only at hSw); go_simp; (first | done | with_reducible rfl))
          (try simp only [Act.put, List.setIfInBounds_toArray, List.set_cons_zero, List.set_cons_succ])
          refine hand_take 33 (some 77) ?_ (by kernel_rfl) (by kernel_rfl) (by kernel_rfl) (by kernel_rfl) (by kernel_rfl) (fun _ _ _ h => h) ?_ (by assumption) ?_
          rotate_left
          · (intro o ho w hSw; (simp only [List.getElem?_toArray, List.getElem?_cons_succ, List.getElem?_cons_zero, Option.some.injEq] at ho); subst ho; (try dsimp only at hSw); go_simp; (first | done | with_reducible rfl))
          (try simp only [Act.put, List.setIfInBounds_toArray, List.set_cons_zero, List.set_cons_succ])
          refine hand_take 34 (some 78) ?_ (by kernel_rfl) (by kernel_rfl) (by kernel_rfl) (by kernel_rfl) (by kernel_rfl) (fun _ _ _ h => h) ?_ (by assumption) ?_
          rotate_left
          · (intro o ho w hSw; (simp only [List.getElem?_toArray, List.getElem?_cons_succ, List.getElem?_cons_zero, Option.some.injEq] at ho); subst ho; (try dsimp only at hSw); go_simp; (first | done | with_reducible rfl))
          (try simp only [Act.put, List.setIfInBounds_toArray, List.set_cons_zero, List.set_cons_succ])
          refine hand_take 35 (some 79) ?_ (by kernel_rfl) (by kernel_rfl) (by kernel_rfl) (by kernel_rfl) (by kernel_rfl) (fun _ _ _ h => h) ?_ (by assumption) ?_
          rotate_left
          · (intro o ho w hSw; (simp only [List.getElem?_toArray, List.getElem?_cons_succ, List.getElem?_cons_zero, Option.some.injEq] at ho); subst ho; (try dsimp only at hSw); go_simp; (first | done | with_reducible rfl))
          (try simp only [Act.put, List.setIfInBounds_toArray, List.set_cons_zero, List.set_cons_succ])
          refine hand_take 36 (some 80) ?_ (by kernel_rfl) (by kernel_rfl) (by kernel_rfl) (by kernel_rfl) (by kernel_rfl) (fun _ _ _ h => h) ?_ (by assumption) ?_
          rotate_left
          · (intro o ho w hSw; (simp only [List.getElem?_toArray, List.getElem?_cons_succ, List.getElem?_cons_zero, Option.some.injEq] at ho); subst ho; (try dsimp only at hSw); go_simp; (first | done | with_reducible rfl))
          (try simp only [Act.put, List.setIfInBounds_toArray, List.set_cons_zero, List.set_cons_succ])
          refine hand_take 37 (some 81) ?_ (by kernel_rfl) (by kernel_rfl) (by kernel_rfl) (by kernel_rfl) (by kernel_rfl) (fun _ _ _ h => h) ?_ (by assumption) ?_
          rotate_left
          · (intro o ho w hSw; (simp only [List.getElem?_toArray, List.getElem?_cons_succ, List.getElem?_cons_zero, Option.some.injEq] at ho); subst ho; (try dsimp only at hSw); go_simp; (first | done | with_reducible rfl))
          (try simp only [Act.put, List.setIfInBounds_toArray, List.set_cons_zero, List.set_cons_succ])
          refine hand_take 38 (some 82) ?_ (by kernel_rfl) (by kernel_rfl) (by kernel_rfl) (by kernel_rfl) (by kernel_rfl) (fun _ _ _ h => h) ?_ (by assumption) ?_
          rotate_left
          · (intro o ho w hSw; (simp only [List.getElem?_toArray, List.getElem?_cons_succ, List.getElem?_cons_zero, Option.some.injEq] at ho); subst ho; (try dsimp only at hSw); go_simp; (first | done | with_reducible rfl))
          (try simp only [Act.put, List.setIfInBounds_toArray, List.set_cons_zero, List.set_cons_succ])
          refine hand_take 39 (some 83) ?_ (by kernel_rfl) (by kernel_rfl) (by kernel_rfl) (by kernel_rfl) (by kernel_rfl) (fun _ _ _ h => h) ?_ (by assumption) ?_
          rotate_left
          · (intro o ho w hSw; (simp only [List.getElem?_toArray, List.getElem?_cons_succ, List.getElem?_cons_zero, Option.some.injEq] at ho); subst ho; (try dsimp only at hSw); go_simp; (first | done | with_reducible rfl))
          (try simp only [Act.put, List.setIfInBounds_toArray, List.set_cons_zero, List.set_cons_succ])
          refine hand_take 40 (some 84) ?_ (by kernel_rfl) (by kernel_rfl) (by kernel_rfl) (by kernel_rfl) (by kernel_rfl) (fun _ _ _ h => h) ?_ (by assumption) ?_
          rotate_left
          · (intro o ho w hSw; (simp only [List.getElem?_toArray, List.getElem?_cons_succ, List.getElem?_cons_zero, Option.some.injEq] at ho); subst ho; (try dsimp only at hSw); go_simp; (first | done | with_reducible rfl))
          (try simp only [Act.put, List.setIfInBounds_toArray, List.set_cons_zero, List.set_cons_succ])
          refine hand_take 41 (some 85) ?_ (by kernel_rfl) (by kernel_rfl) (by kernel_rfl) (by kernel_rfl) (by kernel_rfl) (fun _ _ _ h => h) ?_ (by assumption) ?_
          rotate_left
          · (intro o ho w hSw; (simp only [List.getElem?_toArray, List.getElem?_cons_succ, List.getElem?_cons_zero, Option.some.injEq] at ho); subst ho; (try dsimp only at hSw); go_simp; (first | done | with_reducible rfl))
          (try simp only [Act.put, List.setIfInBounds_toArray, List.set_cons_zero, List.set_cons_succ])
          refine hand_take 42 (some 86) ?_ (by kernel_rfl) (by kernel_rfl) (by kernel_rfl) (by kernel_rfl) (by kernel_rfl) (fun _ _ _ h => h) ?_ (by assumption) ?_
          rotate_left
          · (intro o ho w hSw; (simp only [List.getElem?_toArray, List.getElem?_cons_succ, List.getElem?_cons_zero, Option.some.injEq] at ho); subst ho; (try dsimp only at hSw); go_simp; (first | done | with_reducible rfl))
          (try simp only [Act.put, List.setIfInBounds_toArray, List.set_cons_zero, List.set_cons_succ])
          refine hand_take 43 (some 4) ?_ (by kernel_rfl) (by kernel_rfl) (by kernel_rfl) (by kernel_rfl) (by kernel_rfl) (fun _ _ _ h => h) ?_ (by assumption) ?_
          rotate_left
          · (intro o ho w hSw; (simp only [List.getElem?_toArray, List.getElem?_cons_succ, List.getElem?_cons_zero, Option.some.injEq] at ho); subst ho; (try dsimp only at hSw); go_simp; (first | done | with_reducible rfl))
          (try simp only [Act.put, List.setIfInBounds_toArray, List.set_cons_zero, List.set_cons_succ])
          refine wpAnyH_done (by kernel_rfl) ?_ _
          go_wp2
          go_ret
          exact ⟨by first | rfl | simp, HBF.out⟩
        · have hk12 : k1 = k2 := by have := HMQ.out; rw [if_neg hlim] at this; exact this
          subst hk12
          go_upto_region 9 with fail
          have HS := HSTA
          clear b0 kl
          refine wp_region_held_drew (S := (fun W' => (W'.cell? ⟨g6, 0, none⟩ = some (.slice A1 k1 c1) ∧ W'.cell? ⟨g6, 1, none⟩ = some (.int .i64 n) ∧ W'.cell? ⟨g6, 2, none⟩ = some (.bool (decide (k1 < k1)))) ∧ (W'.cell? ⟨g7, 0, none⟩ = some (.slice A2 k1 c2) ∧ W'.cell? ⟨g7, 1, none⟩ = some (.int .i64 n) ∧ W'.cell? ⟨g7, 2, none⟩ = some (.bool false)))) (by kernel_rfl) ?_ (fun hHeld => ?_)
          · ((try dsimp only); (first | with_reducible exact HS.out | with_reducible exact HS2.out))
          refine hand_take 0 (some 44) ?_ (by kernel_rfl) (by kernel_rfl) (by kernel_rfl) (by kernel_rfl) (by kernel_rfl) (fun _ _ _ h => h) ?_ (by assumption) ?_
          rotate_left
          · (intro o ho w hSw; (simp only [List.getElem?_toArray, List.getElem?_cons_succ, List.getElem?_cons_zero, Option.some.injEq] at ho); subst ho; (try dsimp only at hSw); go_simp; (first | done | with_reducible rfl))
          (try simp only [Act.put, List.setIfInBounds_toArray, List.set_cons_zero, List.set_cons_succ])
          refine hand_take 1 (some 45) ?_ (by kernel_rfl) (by kernel_rfl) (by kernel_rfl) (by kernel_rfl) (by kernel_rfl) (fun _ _ _ h => h) ?_ (by assumption) ?_
          rotate_left
          · (intro o ho w hSw; (simp only [List.getElem?_toArray, List.getElem?_cons_succ, List.getElem?_cons_zero, Option.some.injEq] at ho); subst ho; (try dsimp only at hSw); go_simp; (first | done | with_reducible rfl))
          (try simp only [Act.put, List.setIfInBounds_toArray, List.set_cons_zero, List.set_cons_succ])
          refine hand_take 2 (some 46) ?_ (by kernel_rfl) (by kernel_rfl) (by kernel_rfl) (by kernel_rfl) (by kernel_rfl) (fun _ _ _ h => h) ?_ (by assumption) ?_
          rotate_left
          · (intro o ho w hSw; (simp only [List.getElem?_toArray, List.getElem?_cons_succ, List.getElem?_cons_zero, Option.some.injEq] at ho); subst ho; (try dsimp only at hSw); go_simp; (first | done | with_reducible rfl))
          (try simp only [Act.put, List.setIfInBounds_toArray, List.set_cons_zero, List.set_cons_succ])
          refine hand_take 3 (some 47) ?_ (by kernel_rfl) (by kernel_rfl) (by kernel_rfl) (by kernel_rfl) (by kernel_rfl) (fun _ _ _ h => h) ?_ (by assumption) ?_
          rotate_left
          · (intro o ho w hSw; (simp only [List.getElem?_toArray, List.getElem?_cons_succ, List.getElem?_cons_zero, Option.some.injEq] at ho); subst ho; (try dsimp only at hSw); go_simp; (first | done | with_reducible rfl))
          (try simp only [Act.put, List.setIfInBounds_toArray, List.set_cons_zero, List.set_cons_succ])
          refine hand_take 4 (some 48) ?_ (by kernel_rfl) (by kernel_rfl) (by kernel_rfl) (by kernel_rfl) (by kernel_rfl) (fun _ _ _ h => h) ?_ (by assumption) ?_
          rotate_left
          · (intro o ho w hSw; (simp only [List.getElem?_toArray, List.getElem?_cons_succ, List.getElem?_cons_zero, Option.some.injEq] at ho); subst ho; (try dsimp only at hSw); go_simp; (first | done | with_reducible rfl))
          (try simp only [Act.put, List.setIfInBounds_toArray, List.set_cons_zero, List.set_cons_succ])
          refine hand_take 5 (some 49) ?_ (by kernel_rfl) (by kernel_rfl) (by kernel_rfl) (by kernel_rfl) (by kernel_rfl) (fun _ _ _ h => h) ?_ (by assumption) ?_
          rotate_left
          · (intro o ho w hSw; (simp only [List.getElem?_toArray, List.getElem?_cons_succ, List.getElem?_cons_zero, Option.some.injEq] at ho); subst ho; (try dsimp only at hSw); go_simp; (first | done | with_reducible rfl))
          (try simp only [Act.put, List.setIfInBounds_toArray, List.set_cons_zero, List.set_cons_succ])
          refine hand_take 6 (some 50) ?_ (by kernel_rfl) (by kernel_rfl) (by kernel_rfl) (by kernel_rfl) (by kernel_rfl) (fun _ _ _ h => h) ?_ (by assumption) ?_
          rotate_left
          · (intro o ho w hSw; (simp only [List.getElem?_toArray, List.getElem?_cons_succ, List.getElem?_cons_zero, Option.some.injEq] at ho); subst ho; (try dsimp only at hSw); go_simp; (first | done | with_reducible rfl))
          (try simp only [Act.put, List.setIfInBounds_toArray, List.set_cons_zero, List.set_cons_succ])
          refine hand_take 7 (some 51) ?_ (by kernel_rfl) (by kernel_rfl) (by kernel_rfl) (by kernel_rfl) (by kernel_rfl) (fun _ _ _ h => h) ?_ (by assumption) ?_
          rotate_left
          · (intro o ho w hSw; (simp only [List.getElem?_toArray, List.getElem?_cons_succ, List.getElem?_cons_zero, Option.some.injEq] at ho); subst ho; (try dsimp only at hSw); go_simp; (first | done | with_reducible rfl))
          (try simp only [Act.put, List.setIfInBounds_toArray, List.set_cons_zero, List.set_cons_succ])
          refine hand_take 8 (some 52) ?_ (by kernel_rfl) (by kernel_rfl) (by kernel_rfl) (by kernel_rfl) (by kernel_rfl) (fun _ _ _ h => h) ?_ (by assumption) ?_
          rotate_left
          · (intro o ho w hSw; (simp only [List.getElem?_toArray, List.getElem?_cons_succ, List.getElem?_cons_zero, Option.some.injEq] at ho); subst ho; (try dsimp only at hSw); go_simp; (first | done | with_reducible rfl))
          (try simp only [Act.put, List.setIfInBounds_toArray, List.set_cons_zero, List.set_cons_succ])
          refine hand_take 9 (some 53) ?_ (by kernel_rfl) (by kernel_rfl) (by kernel_rfl) (by kernel_rfl) (by kernel_rfl) (fun _ _ _ h => h) ?_ (by assumption) ?_
          rotate_left
          · (intro o ho w hSw; (simp only [List.getElem?_toArray, List.getElem?_cons_succ, List.getElem?_cons_zero, Option.some.injEq] at ho); subst ho; (try dsimp only at hSw); go_simp; (first | done | with_reducible rfl))
          (try simp only [Act.put, List.setIfInBounds_toArray, List.set_cons_zero, List.set_cons_succ])
          refine hand_take 10 (some 54) ?_ (by kernel_rfl) (by kernel_rfl) (by kernel_rfl) (by kernel_rfl) (by kernel_rfl) (fun _ _ _ h => h) ?_ (by assumption) ?_
          rotate_left
          · (intro o ho w hSw; (simp only [List.getElem?_toArray, List.getElem?_cons_succ, List.getElem?_cons_zero, Option.some.injEq] at ho); subst ho; (try dsimp only at hSw); go_simp; (first | done | with_reducible rfl))
          (try simp only [Act.put, List.setIfInBounds_toArray, List.set_cons_zero, List.set_cons_succ])
          refine hand_take 11 (some 55) ?_ (by kernel_rfl) (by kernel_rfl) (by kernel_rfl) (by kernel_rfl) (by kernel_rfl) (fun _ _ _ h => h) ?_ (by assumption) ?_
          rotate_left
          · (intro o ho w hSw; (simp only [List.getElem?_toArray, List.getElem?_cons_succ, List.getElem?_cons_zero, Option.some.injEq] at ho); subst ho; (try dsimp only at hSw); go_simp; (first | done | with_reducible rfl))
          (try simp only [Act.put, List.setIfInBounds_toArray, List.set_cons_zero, List.set_cons_succ])
          refine hand_ready 12 (by kernel_rfl) (by kernel_rfl) (fun o ho K hK => ?_)
          (simp only [List.getElem?_toArray, List.getElem?_cons_succ, List.getElem?_cons_zero, Option.some.injEq] at ho)
          subst ho
          go_simp
          (go_at_call 11; (with_reducible refine (HSM.out).mono ?_); rintro e w5 ⟨rfl, hb5⟩; have HS2 := kept (show (w5.cell? ⟨g6, 0, none⟩ = some (.slice A1 k1 c1) ∧ w5.cell? ⟨g6, 1, none⟩ = some (.int .i64 n) ∧ w5.cell? ⟨g6, 2, none⟩ = some (.bool (decide (k1 < k1)))) ∧ (w5.cell? ⟨g7, 0, none⟩ = some (.slice A2 k1 c2) ∧ w5.cell? ⟨g7, 1, none⟩ = some (.int .i64 n) ∧ w5.cell? ⟨g7, 2, none⟩ = some (.bool false)) from ⟨⟨(Keeps.of_below hb5).cell_ HS.out.1.1, (Keeps.of_below hb5).cell_ HS.out.1.2.1, (Keeps.of_below hb5).cell_ HS.out.1.2.2⟩, ⟨(Keeps.of_below hb5).cell_ HS.out.2.1, (Keeps.of_below hb5).cell_ HS.out.2.2.1, (Keeps.of_below hb5).cell_ HS.out.2.2.2⟩⟩); have HBF := kept (bel_to ((Below.refl wc.heap.size wc).drew.trans hb5) HD5.out.bel); clear hb5)
          (try go_wp2_with fail)
          refine hK.out _ _ ?_ (fun hHeld => ?_)
          · ((try dsimp only); (first | with_reducible exact HS.out | with_reducible exact HS2.out))
          clear hK K
          (try simp only [Act.put, List.setIfInBounds_toArray, List.set_cons_zero, List.set_cons_succ])
          refine hand_take 13 (some 57) ?_ (by kernel_rfl) (by kernel_rfl) (by kernel_rfl) (by kernel_rfl) (by kernel_rfl) (fun _ _ _ h => h) ?_ (by assumption) ?_
          rotate_left
          · (intro o ho w hSw; (simp only [List.getElem?_toArray, List.getElem?_cons_succ, List.getElem?_cons_zero, Option.some.injEq] at ho); subst ho; (try dsimp only at hSw); go_simp; (first | done | with_reducible rfl))
          (try simp only [Act.put, List.setIfInBounds_toArray, List.set_cons_zero, List.set_cons_succ])
          refine hand_take 14 (some 58) ?_ (by kernel_rfl) (by kernel_rfl) (by kernel_rfl) (by kernel_rfl) (by kernel_rfl) (fun _ _ _ h => h) ?_ (by assumption) ?_
          rotate_left
          · (intro o ho w hSw; (simp only [List.getElem?_toArray, List.getElem?_cons_succ, List.getElem?_cons_zero, Option.some.injEq] at ho); subst ho; (try dsimp only at hSw); go_simp; (first | done | with_reducible rfl))
          (try simp only [Act.put, List.setIfInBounds_toArray, List.set_cons_zero, List.set_cons_succ])
          refine hand_take 15 (some 59) ?_ (by kernel_rfl) (by kernel_rfl) (by kernel_rfl) (by kernel_rfl) (by kernel_rfl) (fun _ _ _ h => h) ?_ (by assumption) ?_
          rotate_left
          · (intro o ho w hSw; (simp only [List.getElem?_toArray, List.getElem?_cons_succ, List.getElem?_cons_zero, Option.some.injEq] at ho); subst ho; (try dsimp only at hSw); go_simp; (first | done | with_reducible rfl))
          (try simp only [Act.put, List.setIfInBounds_toArray, List.set_cons_zero, List.set_cons_succ])
          refine hand_take 16 (some 60) ?_ (by kernel_rfl) (by kernel_rfl) (by kernel_rfl) (by kernel_rfl) (by kernel_rfl) (fun _ _ _ h => h) ?_ (by assumption) ?_
          rotate_left
          · (intro o ho w hSw; (simp only [List.getElem?_toArray, List.getElem?_cons_succ, List.getElem?_cons_zero, Option.some.injEq] at ho); subst ho; (try dsimp only at hSw); go_simp; (first | done | with_reducible rfl))
          (try simp only [Act.put, List.setIfInBounds_toArray, List.set_cons_zero, List.set_cons_succ])
          refine hand_take 17 (some 61) ?_ (by kernel_rfl) (by kernel_rfl) (by kernel_rfl) (by kernel_rfl) (by kernel_rfl) (fun _ _ _ h => h) ?_ (by assumption) ?_
          rotate_left
          · (intro o ho w hSw; (simp only [List.getElem?_toArray, List.getElem?_cons_succ, List.getElem?_cons_zero, Option.some.injEq] at ho); subst ho; (try dsimp only at hSw); go_simp; (first | done | with_reducible rfl))
          (try simp only [Act.put, List.setIfInBounds_toArray, List.set_cons_zero, List.set_cons_succ])
          refine hand_take 18 (some 62) ?_ (by kernel_rfl) (by kernel_rfl) (by kernel_rfl) (by kernel_rfl) (by kernel_rfl) (fun _ _ _ h => h) ?_ (by assumption) ?_
          rotate_left
          · (intro o ho w hSw; (simp only [List.getElem?_toArray, List.getElem?_cons_succ, List.getElem?_cons_zero, Option.some.injEq] at ho); subst ho; (try dsimp only at hSw); go_simp; (first | done | with_reducible rfl))
          (try simp only [Act.put, List.setIfInBounds_toArray, List.set_cons_zero, List.set_cons_succ])
          refine hand_take 19 (some 63) ?_ (by kernel_rfl) (by kernel_rfl) (by kernel_rfl) (by kernel_rfl) (by kernel_rfl) (fun _ _ _ h => h) ?_ (by assumption) ?_
          rotate_left
          · (intro o ho w hSw; (simp only [List.getElem?_toArray, List.getElem?_cons_succ, List.getElem?_cons_zero, Option.some.injEq] at ho); subst ho; (try dsimp only at hSw); go_simp; (first | done | with_reducible rfl))
          (try simp only [Act.put, List.setIfInBounds_toArray, List.set_cons_zero, List.set_cons_succ])
          refine hand_take 20 (some 64) ?_ (by kernel_rfl) (by kernel_rfl) (by kernel_rfl) (by kernel_rfl) (by kernel_rfl) (fun _ _ _ h => h) ?_ (by assumption) ?_
          rotate_left
          · (intro o ho w hSw; (simp only [List.getElem?_toArray, List.getElem?_cons_succ, List.getElem?_cons_zero, Option.some.injEq] at ho); subst ho; (try dsimp only at hSw); go_simp; (first | done | with_reducible rfl))
          (try simp only [Act.put, List.setIfInBounds_toArray, List.set_cons_zero, List.set_cons_succ])
          refine hand_take 21 (some 65) ?_ (by kernel_rfl) (by kernel_rfl) (by kernel_rfl) (by kernel_rfl) (by kernel_rfl) (fun _ _ _ h => h) ?_ (by assumption) ?_
          rotate_left
          · (intro o ho w hSw; (simp only [List.getElem?_toArray, List.getElem?_cons_succ, List.getElem?_cons_zero, Option.some.injEq] at ho); subst ho; (try dsimp only at hSw); go_simp; (first | done | with_reducible rfl))
          (try simp only [Act.put, List.setIfInBounds_toArray, List.set_cons_zero, List.set_cons_succ])
          refine hand_take 22 (some 66) ?_ (by kernel_rfl) (by kernel_rfl) (by kernel_rfl) (by kernel_rfl) (by kernel_rfl) (fun _ _ _ h => h) ?_ (by assumption) ?_
          rotate_left
          · (intro o ho w hSw; (simp only [List.getElem?_toArray, List.getElem?_cons_succ, List.getElem?_cons_zero, Option.some.injEq] at ho); subst ho; (try dsimp only at hSw); go_simp; (first | done | with_reducible rfl))
          (try simp only [Act.put, List.setIfInBounds_toArray, List.set_cons_zero, List.set_cons_succ])
          refine hand_take 23 (some 67) ?_ (by kernel_rfl) (by kernel_rfl) (by kernel_rfl) (by kernel_rfl) (by kernel_rfl) (fun _ _ _ h => h) ?_ (by assumption) ?_
          rotate_left
          · (intro o ho w hSw; (simp only [List.getElem?_toArray, List.getElem?_cons_succ, List.getElem?_cons_zero, Option.some.injEq] at ho); subst ho; (try dsimp only at hSw); go_simp; (first | done | with_reducible rfl))
          (try simp only [Act.put, List.setIfInBounds_toArray, List.set_cons_zero, List.set_cons_succ])
          refine hand_take 24 (some 68) ?_ (by kernel_rfl) (by kernel_rfl) (by kernel_rfl) (by kernel_rfl) (by kernel_rfl) (fun _ _ _ h => h) ?_ (by assumption) ?_
          rotate_left
          · (intro o ho w hSw; (simp only [List.getElem?_toArray, List.getElem?_cons_succ, List.getElem?_cons_zero, Option.some.injEq] at ho); subst ho; (try dsimp only at hSw); go_simp; (first | done | with_reducible rfl))
          (try simp only [Act.put, List.setIfInBounds_toArray, List.set_cons_zero, List.set_cons_succ])
          refine hand_take 25 (some 69) ?_ (by kernel_rfl) (by kernel_rfl) (by kernel_rfl) (by kernel_rfl) (by kernel_rfl) (fun _ _ _ h => h) ?_ (by assumption) ?_
          rotate_left
          · (intro o ho w hSw; (simp only [List.getElem?_toArray, List.getElem?_cons_succ, List.getElem?_cons_zero, Option.some.injEq] at ho); subst ho; (try dsimp only at hSw); go_simp; (first | done | with_reducible rfl))
          (try simp only [Act.put, List.setIfInBounds_toArray, List.set_cons_zero, List.set_cons_succ])
          refine hand_take 26 (some 70) ?_ (by kernel_rfl) (by kernel_rfl) (by kernel_rfl) (by kernel_rfl) (by kernel_rfl) (fun _ _ _ h => h) ?_ (by assumption) ?_
          rotate_left
          · (intro o ho w hSw; (simp only [List.getElem?_toArray, List.getElem?_cons_succ, List.getElem?_cons_zero, Option.some.injEq] at ho); subst ho; (try dsimp only at hSw); go_simp; (first | done | with_reducible rfl))
          (try simp only [Act.put, List.setIfInBounds_toArray, List.set_cons_zero, List.set_cons_succ])
          refine hand_take 27 (some 71) ?_ (by kernel_rfl) (by kernel_rfl) (by kernel_rfl) (by kernel_rfl) (by kernel_rfl) (fun _ _ _ h => h) ?_ (by assumption) ?_
          rotate_left
          · (intro o ho w hSw; (simp only [List.getElem?_toArray, List.getElem?_cons_succ, List.getElem?_cons_zero, Option.some.injEq] at ho); subst ho; (try dsimp only at hSw); go_simp; (first | done | with_reducible rfl))
          (try simp only [Act.put, List.setIfInBounds_toArray, List.set_cons_zero, List.set_cons_succ])
          refine hand_take 28 (some 72) ?_ (by kernel_rfl) (by kernel_rfl) (by kernel_rfl) (by kernel_rfl) (by kernel_rfl) (fun _ _ _ h => h) ?_ (by assumption) ?_
          rotate_left
          · (intro o ho w hSw; (simp only [List.getElem?_toArray, List.getElem?_cons_succ, List.getElem?_cons_zero, Option.some.injEq] at ho); subst ho; (try dsimp only at hSw); go_simp; (first | done | with_reducible rfl))
          (try simp only [Act.put, List.setIfInBounds_toArray, List.set_cons_zero, List.set_cons_succ])
          refine hand_take 29 (some 73) ?_ (by kernel_rfl) (by kernel_rfl) (by kernel_rfl) (by kernel_rfl) (by kernel_rfl) (fun _ _ _ h => h) ?_ (by assumption) ?_
          rotate_left
          · (intro o ho w hSw; (simp only [List.getElem?_toArray, List.getElem?_cons_succ, List.getElem?_cons_zero, Option.some.injEq] at ho); subst ho; (try dsimp only at hSw); go_simp; (first | done | with_reducible rfl))
          (try simp only [Act.put, List.setIfInBounds_toArray, List.set_cons_zero, List.set_cons_succ])
          refine hand_take 30 (some 74) ?_ (by kernel_rfl) (by kernel_rfl) (by kernel_rfl) (by kernel_rfl) (by kernel_rfl) (fun _ _ _ h => h) ?_ (by assumption) ?_
          rotate_left
          · (intro o ho w hSw; (simp only [List.getElem?_toArray, List.getElem?_cons_succ, List.getElem?_cons_zero, Option.some.injEq] at ho); subst ho; (try dsimp only at hSw); go_simp; (first | done | with_reducible rfl))
          (try simp only [Act.put, List.setIfInBounds_toArray, List.set_cons_zero, List.set_cons_succ])
          refine hand_take 31 (some 75) ?_ (by kernel_rfl) (by kernel_rfl) (by kernel_rfl) (by kernel_rfl) (by kernel_rfl) (fun _ _ _ h => h) ?_ (by assumption) ?_
          rotate_left
          · (intro o ho w hSw; (simp only [List.getElem?_toArray, List.getElem?_cons_succ, List.getElem?_cons_zero, Option.some.injEq] at ho); subst ho; (try dsimp only at hSw); go_simp; (first | done | with_reducible rfl))
          (try simp only [Act.put, List.setIfInBounds_toArray, List.set_cons_zero, List.set_cons_succ])
          refine hand_take 32 (some 76) ?_ (by kernel_rfl) (by kernel_rfl) (by kernel_rfl) (by kernel_rfl) (by kernel_rfl) (fun _ _ _ h => h) ?_ (by assumption) ?_
          rotate_left
          · (intro o ho w hSw; (simp only [List.getElem?_toArray, List.getElem?_cons_succ, List.getElem?_cons_zero, Option.some.injEq] at ho); subst ho; (try dsimp only at hSw); go_simp; (first | done | with_reducible rfl))
          (try simp only [Act.put, List.setIfInBounds_toArray, List.set_cons_zero, List.set_cons_succ])
          refine hand_take 33 (some 77) ?_ (by kernel_rfl) (by kernel_rfl) (by kernel_rfl) (by kernel_rfl) (by kernel_rfl) (fun _ _ _ h => h) ?_ (by assumption) ?_
          rotate_left
          · (intro o ho w hSw; (simp only [List.getElem?_toArray, List.getElem?_cons_succ, List.getElem?_cons_zero, Option.some.injEq] at ho); subst ho; (try dsimp only at hSw); go_simp; (first | done | with_reducible rfl))
          (try simp only [Act.put, List.setIfInBounds_toArray, List.set_cons_zero, List.set_cons_succ])
          refine hand_take 34 (some 78) ?_ (by kernel_rfl) (by kernel_rfl) (by kernel_rfl) (by kernel_rfl) (by kernel_rfl) (fun _ _ _ h => h) ?_ (by assumption) ?_
          rotate_left
          · (intro o ho w hSw; (simp only [List.getElem?_toArray, List.getElem?_cons_succ, List.getElem?_cons_zero, Option.some.injEq] at ho); subst ho; (try dsimp only at hSw); go_simp; (first | done | with_reducible rfl))
          (try simp only [Act.put, List.setIfInBounds_toArray, List.set_cons_zero, List.set_cons_succ])
          refine hand_take 35 (some 79) ?_ (by kernel_rfl) (by kernel_rfl) (by kernel_rfl) (by kernel_rfl) (by kernel_rfl) (fun _ _ _ h => h) ?_ (by assumption) ?_
          rotate_left
          · (intro o ho w hSw; (simp only [List.getElem?_toArray, List.getElem?_cons_succ, List.getElem?_cons_zero, Option.some.injEq] at ho); subst ho; (try dsimp only at hSw); go_simp; (first | done | with_reducible rfl))
          (try simp only [Act.put, List.setIfInBounds_toArray, List.set_cons_zero, List.set_cons_succ])
          refine hand_take 36 (some 80) ?_ (by kernel_rfl) (by kernel_rfl) (by kernel_rfl) (by kernel_rfl) (by kernel_rfl) (fun _ _ _ h => h) ?_ (by assumption) ?_
          rotate_left
          · (intro o ho w hSw; (simp only [List.getElem?_toArray, List.getElem?_cons_succ, List.getElem?_cons_zero, Option.some.injEq] at ho); subst ho; (try dsimp only at hSw); go_simp; (first | done | with_reducible rfl))
          (try simp only [Act.put, List.setIfInBounds_toArray, List.set_cons_zero, List.set_cons_succ])
          refine hand_take 37 (some 81) ?_ (by kernel_rfl) (by kernel_rfl) (by kernel_rfl) (by kernel_rfl) (by kernel_rfl) (fun _ _ _ h => h) ?_ (by assumption) ?_
          rotate_left
          · (intro o ho w hSw; (simp only [List.getElem?_toArray, List.getElem?_cons_succ, List.getElem?_cons_zero, Option.some.injEq] at ho); subst ho; (try dsimp only at hSw); go_simp; (first | done | with_reducible rfl))
          (try simp only [Act.put, List.setIfInBounds_toArray, List.set_cons_zero, List.set_cons_succ])
          refine hand_take 38 (some 82) ?_ (by kernel_rfl) (by kernel_rfl) (by kernel_rfl) (by kernel_rfl) (by kernel_rfl) (fun _ _ _ h => h) ?_ (by assumption) ?_
          rotate_left
          · (intro o ho w hSw; (simp only [List.getElem?_toArray, List.getElem?_cons_succ, List.getElem?_cons_zero, Option.some.injEq] at ho); subst ho; (try dsimp only at hSw); go_simp; (first | done | with_reducible rfl))
          (try simp only [Act.put, List.setIfInBounds_toArray, List.set_cons_zero, List.set_cons_succ])
          refine hand_take 39 (some 83) ?_ (by kernel_rfl) (by kernel_rfl) (by kernel_rfl) (by kernel_rfl) (by kernel_rfl) (fun _ _ _ h => h) ?_ (by assumption) ?_
          rotate_left
          · (intro o ho w hSw; (simp only [List.getElem?_toArray, List.getElem?_cons_succ, List.getElem?_cons_zero, Option.some.injEq] at ho); subst ho; (try dsimp only at hSw); go_simp; (first | done | with_reducible rfl))
          (try simp only [Act.put, List.setIfInBounds_toArray, List.set_cons_zero, List.set_cons_succ])
          refine hand_take 40 (some 84) ?_ (by kernel_rfl) (by kernel_rfl) (by kernel_rfl) (by kernel_rfl) (by kernel_rfl) (fun _ _ _ h => h) ?_ (by assumption) ?_
          rotate_left
          · (intro o ho w hSw; (simp only [List.getElem?_toArray, List.getElem?_cons_succ, List.getElem?_cons_zero, Option.some.injEq] at ho); subst ho; (try dsimp only at hSw); go_simp; (first | done | with_reducible rfl))
          (try simp only [Act.put, List.setIfInBounds_toArray, List.set_cons_zero, List.set_cons_succ])
          refine hand_take 41 (some 85) ?_ (by kernel_rfl) (by kernel_rfl) (by kernel_rfl) (by kernel_rfl) (by kernel_rfl) (fun _ _ _ h => h) ?_ (by assumption) ?_
          rotate_left
          · (intro o ho w hSw; (simp only [List.getElem?_toArray, List.getElem?_cons_succ, List.getElem?_cons_zero, Option.some.injEq] at ho); subst ho; (try dsimp only at hSw); go_simp; (first | done | with_reducible rfl))
          (try simp only [Act.put, List.setIfInBounds_toArray, List.set_cons_zero, List.set_cons_succ])
          refine hand_take 42 (some 86) ?_ (by kernel_rfl) (by kernel_rfl) (by kernel_rfl) (by kernel_rfl) (by kernel_rfl) (fun _ _ _ h => h) ?_ (by assumption) ?_
          rotate_left
          · (intro o ho w hSw; (simp only [List.getElem?_toArray, List.getElem?_cons_succ, List.getElem?_cons_zero, Option.some.injEq] at ho); subst ho; (try dsimp only at hSw); go_simp; (first | done | with_reducible rfl))
          (try simp only [Act.put, List.setIfInBounds_toArray, List.set_cons_zero, List.set_cons_succ])
          refine hand_take 43 (some 4) ?_ (by kernel_rfl) (by kernel_rfl) (by kernel_rfl) (by kernel_rfl) (by kernel_rfl) (fun _ _ _ h => h) ?_ (by assumption) ?_
          rotate_left
          · (intro o ho w hSw; (simp only [List.getElem?_toArray, List.getElem?_cons_succ, List.getElem?_cons_zero, Option.some.injEq] at ho); subst ho; (try dsimp only at hSw); go_simp; (first | done | with_reducible rfl))
          (try simp only [Act.put, List.setIfInBounds_toArray, List.set_cons_zero, List.set_cons_succ])
          refine wpAnyH_done (by kernel_rfl) ?_ _
          go_wp2
          go_ret
          exact ⟨by first | rfl | simp, HBF.out⟩
end Go.Proofs.Ytepmamfbhocjjaa.siftLimits
end
