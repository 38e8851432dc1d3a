/-
  Texts laid together: SiftSievesWalk.
-/
import Derived.Test.YtepmamfbhocjjaaBSgd
section
/-
  The law SiftSieves, walked: each record is told just if the sieve keeps it; with Keys alike, without values; with Count none.
-/
namespace Go.Proofs.Ytepmamfbhocjjaa.siftSieves
open Go.ChangeShapes Go.WideShapes Go.ChangeAt Go.RowKit
set_option linter.unusedVariables false
set_option linter.unusedSimpArgs false

theorem qy_bare {w : World} {g : Nat} {L : LayQ} {q : Qy} (h : QyB w g L q) : QyB (((w.setCell ⟨g, 3, none⟩ (.int .i64 0)).setCell ⟨g, 7, none⟩ (.bool false)).setCell ⟨g, 6, none⟩ (.bool false)) g L (bareQ q false false) := ((h.set_ 3 (.int .i64 0)).set_ 7 (.bool false)).set_ 6 (.bool false)
theorem qy_keys {w : World} {g : Nat} {L : LayQ} {q : Qy} (h : QyB w g L (bareQ q false false)) : QyB (w.setCell ⟨g, 6, none⟩ (.bool true)) g L (bareQ q true false) := h.set_ 6 (.bool true)
theorem qy_count {w : World} {g : Nat} {L : LayQ} {q : Qy} (h : QyB w g L (bareQ q true false)) : QyB (w.setCell ⟨g, 7, none⟩ (.bool true)) g L (bareQ q true true) := h.set_ 7 (.bool true)
theorem count_next {q : Qy} {xs : List Kv} {k : Nat} (h : k < xs.length) : ((xs.take (k + 1)).filter (keepsQ q)).length = ((xs.take k).filter (keepsQ q)).length + (if keepsQ q xs[k] then 1 else 0) := by
  rw [List.take_succ_eq_append_getElem h, List.filter_append, List.length_append]
  congr 1
  cases hb : keepsQ q xs[k] <;> simp [hb]
set_option maxHeartbeats 4000000 in
set_option maxRecDepth 100000 in
theorem walk (W : World) (L : LayQ) (q : Qy) (A : Option Addr) (n c : Nat) (ps : List (LayV × Kv)) (rr : RdKs W A n ps) (nc : n ≤ c) (cm : c ≤ maxLen) (rb : n ≤ 140737488351232) :
    Calls Try.prog 5 #[vq L q, .slice A n c] W fun e w' => e = .returned (.bool true) ∧ Below W.heap.size W w' := by
  have HQ := kept (QyB.new W L q)
  have HB := kept (boxQ_below W L q)
  have HH := kept rr
  clear rr
  go_enter Try.func5, Try.ntmps5
  go_upto_region 1 with fail
  refine name_world (fun W1 hW1 => ?_)
  replace hW1 : W1 = boxQ W L q := hW1
  rw [← hW1] at HQ HB
  clear hW1
  have HL := kept (lives_any W1)
  go_wp2_with fail
  with_reducible refine HL.out.mono ?_
  rintro e w1 ⟨rfl, hb⟩
  replace HQ := kept (HQ.out.below_ hb HQ.out.lt)
  replace HB := kept (bel_to hb HB.out)
  clear hb HL
  have HF := kept (few_any A n c ps w1 (HH.out.below HB.out) rb)
  go_wp2_with fail
  with_reducible refine HF.out.mono ?_
  rintro e w2 ⟨t, rfl, hf, hb⟩
  replace HQ := kept (HQ.out.below_ hb HQ.out.lt)
  replace HB := kept (bel_to hb HB.out)
  clear hb HF
  cases t with
  | false =>
    clear hf
    have HL2 := kept (lives_any w2)
    go_wp2_with fail
    with_reducible refine HL2.out.mono ?_
    rintro e w9 ⟨rfl, hb9⟩
    have HB9 := kept (bel_to hb9 HB.out)
    clear hb9
    go_wp2
    go_ret
    exact ⟨rfl, HB9.out⟩
  | true =>
    have HFEW := kept (hf rfl)
    clear hf
    obtain ⟨b, hb⟩ : ∃ b, rightQ q = b := ⟨_, rfl⟩
    have HR := kept (rightQ_any L q w2 b hb)
    have HRB := kept hb
    clear hb
    obtain ⟨q0, q1, q2, q3, q4, q5, q6, q7, q8, q9, q10, q11⟩ := HQ.out.all
    go_wp2_with fail
    with_reducible refine HR.out.mono ?_
    clear q0 q1 q2 q3 q4 q5 q6 q7 q8 q9 q10 q11
    rintro e w3 ⟨rfl, hb⟩
    replace HQ := kept (HQ.out.below_ hb HQ.out.lt)
    replace HB := kept (bel_to hb HB.out)
    clear hb HR
    cases b with
    | false =>
      have HL2 := kept (lives_any w3)
      go_wp2_with fail
      with_reducible refine HL2.out.mono ?_
      rintro e w9 ⟨rfl, hb9⟩
      have HB9 := kept (bel_to hb9 HB.out)
      clear hb9
      go_wp2
      go_ret
      exact ⟨rfl, HB9.out⟩
    | true =>
      obtain ⟨q0, q1, q2, q3, q4, q5, q6, q7, q8, q9, q10, q11⟩ := HQ.out.all
      have f0 := Blk.frozen HQ.out
      have hqn := qy_bare HQ.out
      have hbn : Below W.heap.size W (((w3.setCell ⟨W.heap.size, 3, none⟩ (.int .i64 0)).setCell ⟨W.heap.size, 7, none⟩ (.bool false)).setCell ⟨W.heap.size, 6, none⟩ (.bool false)) := ((HB.out.setCell (p := ⟨W.heap.size, 3, none⟩) (Nat.le_refl _) _).setCell (p := ⟨W.heap.size, 7, none⟩) (Nat.le_refl _) _).setCell (p := ⟨W.heap.size, 6, none⟩) (Nat.le_refl _) _
      go_upto_region 4 with fail
      generalize ((w3.setCell ⟨W.heap.size, 3, none⟩ (.int .i64 0)).setCell ⟨W.heap.size, 7, none⟩ (.bool false)).setCell ⟨W.heap.size, 6, none⟩ (.bool false) = w4 at hqn hbn ⊢
      clear q0 q1 q2 q3 q4 q5 q6 q7 q8 q9 q10 q11 f0 HQ HB
      have HST : Hid (Below W.heap.size W w4 ∧ QyB w4 W.heap.size L (bareQ q false false)) := ⟨hbn, hqn⟩
      clear hbn hqn
      have hn6 : n ≤ 60 := HFEW.out.1
      have HU := kept HFEW.out.2
      have HXL : Hid ((ps.map Prod.snd).length = n) := by show _ = _; rw [List.length_map]; exact HH.out.ln
      clear HFEW
      go_wp2
      go_loopg [5, 30] n (fun kx s5 s30 wr => ∃ (k m : Nat), s5 = .int .i64 m ∧ s30 = .int .i64 k ∧ k ≤ n ∧ m ≤ k ∧ n - k ≤ kx ∧ Hid (Below W.heap.size W wr ∧ QyB wr W.heap.size L (bareQ q false false)) ∧ Hid (m = (((ps.map Prod.snd).take k).filter (keepsQ q)).length))
      case atStart => exact ⟨0, 0, rfl, rfl, Nat.zero_le _, Nat.le_refl _, Nat.le_refl _, HST, rfl⟩
      case round =>
        clear HST
        obtain ⟨k, m, rfl, rfl, hk, hm, hkx, HI, HC⟩ := hrel
        by_cases hlt : k < n
        · have hltz : (k : Int) < (n : Int) := by omega
          have hkp : k < ps.length := by rw [HH.out.ln]; exact hlt
          obtain ⟨b, o, rfl, h0, h1, h2, h3, h4, h5⟩ := (HH.out.keeps (Keeps.of_below HI.out.1)).at_ k hkp
          have hnx := count_next (q := q) (xs := ps.map Prod.snd) (k := k) (by rw [HXL.out]; exact hlt)
          rw [List.getElem_map] at hnx
          generalize ps[k] = p at h0 h1 h2 h3 h4 h5 hnx
          obtain ⟨⟨ka, kn, kc, va, vn, vc⟩, ⟨xk, xv, xc, xm, xe, xl⟩⟩ := p
          dsimp only at h0 h1 h2 h3 h4 h5 hnx
          obtain ⟨kb, hkb⟩ : ∃ kb, keepsQ q ⟨xk, xv, xc, xm, xe, xl⟩ = kb := ⟨_, rfl⟩
          rw [hkb] at hnx
          have hKP := fun W => kept (keepsQ_any L (bareQ q false false) ⟨ka, kn, kc, va, vn, vc⟩ ⟨xk, xv, xc, xm, xe, xl⟩ W kb hkb)
          have HNX := kept hnx
          have hbx := boxV_below wr ⟨ka, kn, kc, va, vn, vc⟩ ⟨xk, xv, xc, xm, xe, xl⟩
          have HX1 : Hid (Six (boxV wr ⟨ka, kn, kc, va, vn, vc⟩ ⟨xk, xv, xc, xm, xe, xl⟩) wr.heap.size ⟨ka, kn, kc, va, vn, vc⟩ ⟨xk, xv, xc, xm, xe, xl⟩) := Six.new wr ⟨ka, kn, kc, va, vn, vc⟩ ⟨xk, xv, xc, xm, xe, xl⟩
          have HB1 := kept (bel_to hbx HI.out.1)
          have HQ1 := kept (HI.out.2.below_ hbx HI.out.2.lt)
          clear hnx hkb hbx HI
          go_upto_region 8 with fail
          refine name_world (fun W1 hW1 => ?_)
          replace hW1 : W1 = boxV wr ⟨ka, kn, kc, va, vn, vc⟩ ⟨xk, xv, xc, xm, xe, xl⟩ := hW1
          rw [← hW1] at HX1 HB1 HQ1
          clear hW1 h0 h1 h2 h3 h4 h5
          obtain ⟨q0, q1, q2, q3, q4, q5, q6, q7, q8, q9, q10, q11⟩ := HQ1.out.all
          obtain ⟨v0, v1, v2, v3, v4, v5⟩ := HX1.out.cells
          dsimp only at v0 v1 v2 v3 v4 v5
          go_wp2_with fail
          with_reducible refine (hKP W1).out.mono ?_
          clear q0 q1 q2 q3 q4 q5 q6 q7 q8 q9 q10 q11 v0 v1 v2 v3 v4 v5 hKP HX1
          rintro e w5 ⟨rfl, hb⟩
          have HI2 : Hid (Below W.heap.size W w5 ∧ QyB w5 W.heap.size L (bareQ q false false)) := ⟨bel_to hb HB1.out, HQ1.out.below_ hb HQ1.out.lt⟩
          clear hb HB1 HQ1
          cases kb with
          | false =>
            go_wp2
            go_roundg (n - (k + 1))
            case measure => omega
            case rel => exact ⟨k + 1, m, rfl, by go_num, hlt, by omega, Nat.le_refl _, HI2, (show _ = _ by rw [HNX.out, ← HC.out]; rfl)⟩
          | true =>
            go_wp2
            go_roundg (n - (k + 1))
            case measure => omega
            case rel => exact ⟨k + 1, m + 1, by go_num, by go_num, hlt, by omega, Nat.le_refl _, HI2, (show _ = _ by rw [HNX.out, ← HC.out]; rfl)⟩
        · have hltz : ¬ (k : Int) < (n : Int) := by omega
          obtain rfl : k = n := by omega
          have hCM : m = ((ps.map Prod.snd).filter (keepsQ q)).length := by have := HC.out; rwa [List.take_of_length_le (by rw [HXL.out]; exact Nat.le_refl _)] at this
          have HM := kept (hCM.trans (allQ_len q (ps.map Prod.snd)).symm)
          clear hCM HC
          have hs1 := sift_any L (bareQ q false false) A k c ps wr (HH.out.below HI.out.1) (by omega) HU.out
          rw [bare_a HRB.out, HXL.out] at hs1
          have HS1 := kept hs1
          clear hs1
          obtain ⟨q0, q1, q2, q3, q4, q5, q6, q7, q8, q9, q10, q11⟩ := HI.out.2.all
          go_wp2_with fail
          with_reducible refine HS1.out.mono ?_
          clear q0 q1 q2 q3 q4 q5 q6 q7 q8 q9 q10 q11 HS1
          rintro e w5 ⟨A1, k1, c1, ps1, rfl, m1, rd1, kc1, hb, old1⟩
          have hwr : W.heap.size + 1 ≤ wr.heap.size := HI.out.2.lt
          have hb6 := (Below.refl w5.heap.size w5).alloc (Nat.le_refl _) (.cells #[.slice A1 k1 c1, .int .i64 k, .bool false] 30)
          have hbb := hb.trans (hb6.mono hb.size)
          have HQ := kept (HI.out.2.below_ hbb HI.out.2.lt)
          have HB := kept (bel_to hbb HI.out.1)
          have HA1 := kept (OutS.new rd1 old1 hwr (Nat.le_trans hwr hb.size) c1 k false)
          have HM1 := kept m1
          have hk1 : k1 = m := by rw [HM.out, ← m1, List.length_map, rd1.ln]
          subst hk1
          clear hb hb6 hbb m1 rd1 kc1 old1 hwr HI
          go_upto_region 12 with fail
          generalize hg1 : w5.heap.size = g1 at HA1 ⊢
          generalize w5.alloc (.cells #[.slice A1 k1 c1, .int .i64 k, .bool false] 30) = w6 at HQ HB HA1 ⊢
          clear hg1
          -- Keys
          have q6 := HQ.out.cells.2.2.2.1
          have f0 := Blk.frozen HQ.out
          replace HA1 := kept (HA1.out.set (Nat.lt_succ_self W.heap.size) 6 (.bool true))
          replace HB := kept (HB.out.setCell (p := ⟨W.heap.size, 6, none⟩) (Nat.le_refl _) (.bool true))
          replace HQ := kept (qy_keys HQ.out)
          go_upto_region 13 with fail
          clear q6 f0
          generalize w6.setCell ⟨W.heap.size, 6, none⟩ (.bool true) = w7 at HQ HB HA1 ⊢
          have hs2 := sift_any L (bareQ q true false) A k c ps w7 (HH.out.below HB.out) (by omega) HU.out
          rw [bare_b HRB.out, HXL.out] at hs2
          have HS2 := kept hs2
          clear hs2
          obtain ⟨q0, q1, q2, q3, q4, q5, q6, q7, q8, q9, q10, q11⟩ := HQ.out.all
          go_wp2_with fail
          with_reducible refine HS2.out.mono ?_
          clear q0 q1 q2 q3 q4 q5 q6 q7 q8 q9 q10 q11 HS2
          rintro e w8 ⟨A2, k2, c2, ps2, rfl, m2, rd2, kc2, hb, old2⟩
          have hw7 : W.heap.size + 1 ≤ w7.heap.size := HQ.out.lt
          have hb9 := (Below.refl w8.heap.size w8).alloc (Nat.le_refl _) (.cells #[.slice A2 k2 c2, .int .i64 k, .bool false] 30)
          have hbb := hb.trans (hb9.mono hb.size)
          replace HQ := kept (HQ.out.below_ hbb HQ.out.lt)
          replace HB := kept (bel_to hbb HB.out)
          replace HA1 := kept (HA1.out.below hbb)
          have HA2 := kept (OutS.new rd2 old2 hw7 (Nat.le_trans hw7 hb.size) c2 k false)
          have HM2 := kept m2
          have hk2 : k2 = k1 := by
            rw [← rd2.ln, ← List.length_map (f := Prod.snd), m2, List.length_map, ← HM1.out, List.length_map, HA1.out.rd.ln]
          subst hk2
          clear hb hb9 hbb m2 rd2 kc2 old2 hw7
          go_upto_region 14 with fail
          generalize hg2 : w8.heap.size = g2 at HA2 ⊢
          generalize w8.alloc (.cells #[.slice A2 k2 c2, .int .i64 k, .bool false] 30) = w9 at HQ HB HA1 HA2 ⊢
          clear hg2
          -- Count
          have q7 := HQ.out.cells.2.2.2.2.1
          have f0 := Blk.frozen HQ.out
          replace HA1 := kept (HA1.out.set (Nat.lt_succ_self W.heap.size) 7 (.bool true))
          replace HA2 := kept (HA2.out.set (Nat.lt_succ_self W.heap.size) 7 (.bool true))
          replace HB := kept (HB.out.setCell (p := ⟨W.heap.size, 7, none⟩) (Nat.le_refl _) (.bool true))
          replace HQ := kept (qy_count HQ.out)
          go_upto_region 15 with fail
          clear q7 f0
          generalize w9.setCell ⟨W.heap.size, 7, none⟩ (.bool true) = w10 at HQ HB HA1 HA2 ⊢
          have hs3 := sift_any L (bareQ q true true) A k c ps w10 (HH.out.below HB.out) (by omega) HU.out
          rw [bare_c HRB.out, HXL.out] at hs3
          have HS3 := kept hs3
          clear hs3
          obtain ⟨q0, q1, q2, q3, q4, q5, q6, q7, q8, q9, q10, q11⟩ := HQ.out.all
          go_wp2_with fail
          with_reducible refine HS3.out.mono ?_
          clear q0 q1 q2 q3 q4 q5 q6 q7 q8 q9 q10 q11 HS3
          rintro e w11 ⟨A3, k3, c3, ps3, rfl, m3, rd3, kc3, hb, old3⟩
          have hw10 : W.heap.size + 1 ≤ w10.heap.size := HQ.out.lt
          have hk3 : k3 = 0 := by rw [← rd3.ln, ← List.length_map (f := Prod.snd), m3]; rfl
          subst hk3
          have hb12 := (Below.refl w11.heap.size w11).alloc (Nat.le_refl _) (.cells #[.slice A3 0 c3, .int .i64 k, .bool false] 30)
          have hbb := hb.trans (hb12.mono hb.size)
          replace HQ := kept (HQ.out.below_ hbb HQ.out.lt)
          replace HB := kept (bel_to hbb HB.out)
          replace HA1 := kept (HA1.out.below hbb)
          replace HA2 := kept (HA2.out.below hbb)
          have HA3 := kept (OutS.new rd3 old3 hw10 (Nat.le_trans hw10 hb.size) c3 k false)
          clear hb hb12 hbb m3 rd3 kc3 old3 hw10
          go_upto_region 16 with fail
          generalize hg3 : w11.heap.size = g3 at HA3 ⊢
          generalize w11.alloc (.cells #[.slice A3 0 c3, .int .i64 k, .bool false] 30) = w12 at HQ HB HA1 HA2 HA3 ⊢
          clear hg3
          have x0 := HA1.out.c0
          have y0 := HA2.out.c0
          have z0 := HA3.out.c0
          have z1 := HA3.out.c1
          have z2 := HA3.out.c2
          have e1 : ((k2 : Int) != (k2 : Int)) = false := by simp
          have e2 : ((k : Int) != (k : Int)) = false := by simp
          go_wp2
          have HST2 : Hid (Below W.heap.size W w12 ∧ QyB w12 W.heap.size L (bareQ q true true) ∧ OutS (W.heap.size + 1) w12 g1 A1 k2 c1 k false ps1 ∧ OutS (W.heap.size + 1) w12 g2 A2 k2 c2 k false ps2) := ⟨HB.out, HQ.out, HA1.out, HA2.out⟩
          have HLN : Hid (ps1.length = k2 ∧ ps2.length = k2) := ⟨HA1.out.rd.ln, HA2.out.rd.ln⟩
          have HEL : Hid (∀ t (h1 : t < ps1.length) (h2 : t < ps2.length), ps2[t].2 = { ps1[t].2 with val := [] } ∧ keepsQ q ps1[t].2 = true) := by
            intro t h1 h2
            have e1 : (ps2.map Prod.snd)[t]'(by simpa using h2) = ((ps1.map Prod.snd).map (fun x => ({ x with val := [] } : Kv)))[t]'(by simpa using h1) := by
              simp only [HM2.out, HM1.out]
            refine ⟨by simpa using e1, ?_⟩
            apply allQ_keeps (l := ps.map Prod.snd)
            rw [← HM1.out]
            exact List.mem_map.2 ⟨ps1[t], List.getElem_mem h1, rfl⟩
          clear x0 y0 z0 z1 z2 e1 e2 HB HQ HA1 HA2 HA3 HM1 HM2 HH HU
          go_loopg [83] k2 (fun kx s83 wr => ∃ t : Nat, s83 = .int .i64 t ∧ t ≤ k2 ∧ k2 - t ≤ kx ∧ Hid (Below W.heap.size W wr ∧ QyB wr W.heap.size L (bareQ q true true) ∧ OutS (W.heap.size + 1) wr g1 A1 k2 c1 k false ps1 ∧ OutS (W.heap.size + 1) wr g2 A2 k2 c2 k false ps2))
          case atStart => exact ⟨0, rfl, Nat.zero_le _, Nat.le_refl _, HST2⟩
          case round =>
            clear HST2
            obtain ⟨t, rfl, htk, hkx, HI⟩ := hrel
            by_cases hlt : t < k2
            · have hltz : (t : Int) < (k2 : Int) := by omega
              have h1 : t < ps1.length := by rw [HLN.out.1]; exact hlt
              have h2 : t < ps2.length := by rw [HLN.out.2]; exact hlt
              obtain ⟨hx, hkp⟩ := HEL.out t h1 h2
              have rb := HI.out.2.2.2.rd.rd ps2[t] (List.getElem_mem h2)
              have ra := HI.out.2.2.1.rd.rd ps1[t] (List.getElem_mem h1)
              obtain ⟨b1, o1, hA1, a0, a1, a2, a3, a4, a5⟩ := HI.out.2.2.1.rd.at_ t h1
              obtain ⟨b2, o2, hA2, b0', b1', -⟩ := HI.out.2.2.2.rd.at_ t h2
              have x0 := HI.out.2.2.1.c0
              have y0 := HI.out.2.2.2.c0
              obtain ⟨q0, q1, q2, q3, q4, q5, q6, q7, q8, q9, q10, q11⟩ := HI.out.2.1.all
              rw [hA1] at x0
              rw [hA2] at y0
              have hvn : ps2[t].1.vn = 0 := by have := rb.val.1; rw [hx] at this; exact this.symm
              rw [hvn] at b1'
              have hkey : ps2[t].2.key = ps1[t].2.key := by rw [hx]
              have rbk := rb.key
              have rak := ra.key
              rw [hkey] at rbk
              generalize ps1[t] = p at a0 a1 a2 a3 a4 a5 rak rbk hkp hx hkey ra
              generalize ps2[t] = r at b0' b1' rbk hx hkey hvn rb
              obtain ⟨⟨ka, kn, kc, va, vn, vc⟩, ⟨xk, xv, xc, xm, xe, xl⟩⟩ := p
              obtain ⟨⟨la, ln, lc, ua, un, uc⟩, y⟩ := r
              dsimp only at a0 a1 a2 a3 a4 a5 rak b0' b1' rbk hkp
              have HSA := kept (same_any ka la kn ln kc lc xk xk wr.drew rak rbk true (by simp))
              have HKP := kept (keepsQ_any L (bareQ q true true) ⟨ka, kn, kc, va, vn, vc⟩ ⟨xk, xv, xc, xm, xe, xl⟩ wr.drew true hkp)
              have HS : Hid (wr.drew.cell? ⟨g1, 0, none⟩ = some (.slice (some ⟨b1, o1, none⟩) k2 c1) ∧ wr.drew.cell? ⟨b1, o1 + t * 6, none⟩ = some (.slice ka kn kc) ∧ wr.drew.cell? ⟨b1, o1 + t * 6 + 1, none⟩ = some (.slice va vn vc) ∧ wr.drew.cell? ⟨b1, o1 + t * 6 + 2, none⟩ = some (.int .i64 xc) ∧ wr.drew.cell? ⟨b1, o1 + t * 6 + 3, none⟩ = some (.int .i64 xm) ∧ wr.drew.cell? ⟨b1, o1 + t * 6 + 4, none⟩ = some (.int .i64 xe) ∧ wr.drew.cell? ⟨b1, o1 + t * 6 + 5, none⟩ = some (.int .i64 xl) ∧ wr.drew.cell? ⟨g2, 0, none⟩ = some (.slice (some ⟨b2, o2, none⟩) k2 c2) ∧ wr.drew.cell? ⟨b2, o2 + t * 6, none⟩ = some (.slice la ln lc) ∧ wr.drew.cell? ⟨b2, o2 + t * 6 + 1, none⟩ = some (.slice ua 0 uc) ∧ wr.drew.cell? ⟨W.heap.size, 0, none⟩ = some (.slice L.ka L.kn L.kc) ∧ wr.drew.cell? ⟨W.heap.size, 1, none⟩ = some (.slice L.ea L.en L.ec) ∧ wr.drew.cell? ⟨W.heap.size, 2, none⟩ = some (.int .i64 L.at_) ∧ wr.drew.cell? ⟨W.heap.size, 3, none⟩ = some (.int .i64 (bareQ q true true).limit) ∧ wr.drew.cell? ⟨W.heap.size, 4, none⟩ = some (.int .i64 (bareQ q true true).sort) ∧ wr.drew.cell? ⟨W.heap.size, 5, none⟩ = some (.bool (bareQ q true true).desc) ∧ wr.drew.cell? ⟨W.heap.size, 6, none⟩ = some (.bool (bareQ q true true).keys) ∧ wr.drew.cell? ⟨W.heap.size, 7, none⟩ = some (.bool (bareQ q true true).count) ∧ wr.drew.cell? ⟨W.heap.size, 8, none⟩ = some (.int .i64 (bareQ q true true).m0) ∧ wr.drew.cell? ⟨W.heap.size, 9, none⟩ = some (.int .i64 (bareQ q true true).m1) ∧ wr.drew.cell? ⟨W.heap.size, 10, none⟩ = some (.int .i64 (bareQ q true true).c0) ∧ wr.drew.cell? ⟨W.heap.size, 11, none⟩ = some (.int .i64 (bareQ q true true).c1)) := ⟨x0, a0, a1, a2, a3, a4, a5, y0, b0', b1', q0, q1, q2, q3, q4, q5, q6, q7, q8, q9, q10, q11⟩
              subst hA1 hA2
              clear x0 y0 a0 a1 a2 a3 a4 a5 b0' b1' q0 q1 q2 q3 q4 q5 q6 q7 q8 q9 q10 q11 rbk rak hkp hkey hvn rb ra hx h1 h2
              go_wp2_with fail
              refine wp_region_held_drew (S := (fun W' => W'.cell? ⟨g1, 0, none⟩ = some (.slice (some ⟨b1, o1, none⟩) k2 c1) ∧ W'.cell? ⟨b1, o1 + t * 6, none⟩ = some (.slice ka kn kc) ∧ W'.cell? ⟨b1, o1 + t * 6 + 1, none⟩ = some (.slice va vn vc) ∧ W'.cell? ⟨b1, o1 + t * 6 + 2, none⟩ = some (.int .i64 xc) ∧ W'.cell? ⟨b1, o1 + t * 6 + 3, none⟩ = some (.int .i64 xm) ∧ W'.cell? ⟨b1, o1 + t * 6 + 4, none⟩ = some (.int .i64 xe) ∧ W'.cell? ⟨b1, o1 + t * 6 + 5, none⟩ = some (.int .i64 xl) ∧ W'.cell? ⟨g2, 0, none⟩ = some (.slice (some ⟨b2, o2, none⟩) k2 c2) ∧ W'.cell? ⟨b2, o2 + t * 6, none⟩ = some (.slice la ln lc) ∧ W'.cell? ⟨b2, o2 + t * 6 + 1, none⟩ = some (.slice ua 0 uc) ∧ W'.cell? ⟨W.heap.size, 0, none⟩ = some (.slice L.ka L.kn L.kc) ∧ W'.cell? ⟨W.heap.size, 1, none⟩ = some (.slice L.ea L.en L.ec) ∧ W'.cell? ⟨W.heap.size, 2, none⟩ = some (.int .i64 L.at_) ∧ W'.cell? ⟨W.heap.size, 3, none⟩ = some (.int .i64 (bareQ q true true).limit) ∧ W'.cell? ⟨W.heap.size, 4, none⟩ = some (.int .i64 (bareQ q true true).sort) ∧ W'.cell? ⟨W.heap.size, 5, none⟩ = some (.bool (bareQ q true true).desc) ∧ W'.cell? ⟨W.heap.size, 6, none⟩ = some (.bool (bareQ q true true).keys) ∧ W'.cell? ⟨W.heap.size, 7, none⟩ = some (.bool (bareQ q true true).count) ∧ W'.cell? ⟨W.heap.size, 8, none⟩ = some (.int .i64 (bareQ q true true).m0) ∧ W'.cell? ⟨W.heap.size, 9, none⟩ = some (.int .i64 (bareQ q true true).m1) ∧ W'.cell? ⟨W.heap.size, 10, none⟩ = some (.int .i64 (bareQ q true true).c0) ∧ W'.cell? ⟨W.heap.size, 11, none⟩ = some (.int .i64 (bareQ q true true).c1))) (by kernel_rfl) ?_ (fun hHeld => ?_)
              · ((try dsimp only); (first | with_reducible exact HS.out | with_reducible exact HS2.out))
              refine hand_take 0 (some 86) ?_ (by kernel_rfl) (by kernel_rfl) (by kernel_rfl) (by kernel_rfl) (by kernel_rfl) (fun _ _ _ h => h) ?_ (by assumption) ?_
              rotate_left
              · (intro o ho w hSw; (simp only [List.getElem?_toArray, List.getElem?_cons_succ, List.getElem?_cons_zero, Option.some.injEq] at ho); subst ho; (try dsimp only at hSw); go_simp; (first | done | with_reducible rfl))
              (try simp only [Act.put, List.setIfInBounds_toArray, List.set_cons_zero, List.set_cons_succ])
              refine hand_take 1 (some 87) ?_ (by kernel_rfl) (by kernel_rfl) (by kernel_rfl) (by kernel_rfl) (by kernel_rfl) (fun _ _ _ h => h) ?_ (by assumption) ?_
              rotate_left
              · (intro o ho w hSw; (simp only [List.getElem?_toArray, List.getElem?_cons_succ, List.getElem?_cons_zero, Option.some.injEq] at ho); subst ho; (try dsimp only at hSw); go_simp; (first | done | with_reducible rfl))
              (try simp only [Act.put, List.setIfInBounds_toArray, List.set_cons_zero, List.set_cons_succ])
              refine hand_take 2 (some 88) ?_ (by kernel_rfl) (by kernel_rfl) (by kernel_rfl) (by kernel_rfl) (by kernel_rfl) (fun _ _ _ h => h) ?_ (by assumption) ?_
              rotate_left
              · (intro o ho w hSw; (simp only [List.getElem?_toArray, List.getElem?_cons_succ, List.getElem?_cons_zero, Option.some.injEq] at ho); subst ho; (try dsimp only at hSw); go_simp; (first | done | with_reducible rfl))
              (try simp only [Act.put, List.setIfInBounds_toArray, List.set_cons_zero, List.set_cons_succ])
              refine hand_take 3 (some 89) ?_ (by kernel_rfl) (by kernel_rfl) (by kernel_rfl) (by kernel_rfl) (by kernel_rfl) (fun _ _ _ h => h) ?_ (by assumption) ?_
              rotate_left
              · (intro o ho w hSw; (simp only [List.getElem?_toArray, List.getElem?_cons_succ, List.getElem?_cons_zero, Option.some.injEq] at ho); subst ho; (try dsimp only at hSw); go_simp; (first | done | with_reducible rfl))
              (try simp only [Act.put, List.setIfInBounds_toArray, List.set_cons_zero, List.set_cons_succ])
              refine hand_take 4 (some 90) ?_ (by kernel_rfl) (by kernel_rfl) (by kernel_rfl) (by kernel_rfl) (by kernel_rfl) (fun _ _ _ h => h) ?_ (by assumption) ?_
              rotate_left
              · (intro o ho w hSw; (simp only [List.getElem?_toArray, List.getElem?_cons_succ, List.getElem?_cons_zero, Option.some.injEq] at ho); subst ho; (try dsimp only at hSw); go_simp; (first | done | with_reducible rfl))
              (try simp only [Act.put, List.setIfInBounds_toArray, List.set_cons_zero, List.set_cons_succ])
              refine hand_take 5 (some 91) ?_ (by kernel_rfl) (by kernel_rfl) (by kernel_rfl) (by kernel_rfl) (by kernel_rfl) (fun _ _ _ h => h) ?_ (by assumption) ?_
              rotate_left
              · (intro o ho w hSw; (simp only [List.getElem?_toArray, List.getElem?_cons_succ, List.getElem?_cons_zero, Option.some.injEq] at ho); subst ho; (try dsimp only at hSw); go_simp; (first | done | with_reducible rfl))
              (try simp only [Act.put, List.setIfInBounds_toArray, List.set_cons_zero, List.set_cons_succ])
              refine hand_take 6 (some 92) ?_ (by kernel_rfl) (by kernel_rfl) (by kernel_rfl) (by kernel_rfl) (by kernel_rfl) (fun _ _ _ h => h) ?_ (by assumption) ?_
              rotate_left
              · (intro o ho w hSw; (simp only [List.getElem?_toArray, List.getElem?_cons_succ, List.getElem?_cons_zero, Option.some.injEq] at ho); subst ho; (try dsimp only at hSw); go_simp; (first | done | with_reducible rfl))
              (try simp only [Act.put, List.setIfInBounds_toArray, List.set_cons_zero, List.set_cons_succ])
              refine hand_take 7 (some 93) ?_ (by kernel_rfl) (by kernel_rfl) (by kernel_rfl) (by kernel_rfl) (by kernel_rfl) (fun _ _ _ h => h) ?_ (by assumption) ?_
              rotate_left
              · (intro o ho w hSw; (simp only [List.getElem?_toArray, List.getElem?_cons_succ, List.getElem?_cons_zero, Option.some.injEq] at ho); subst ho; (try dsimp only at hSw); go_simp; (first | done | with_reducible rfl))
              (try simp only [Act.put, List.setIfInBounds_toArray, List.set_cons_zero, List.set_cons_succ])
              refine hand_take 8 (some 94) ?_ (by kernel_rfl) (by kernel_rfl) (by kernel_rfl) (by kernel_rfl) (by kernel_rfl) (fun _ _ _ h => h) ?_ (by assumption) ?_
              rotate_left
              · (intro o ho w hSw; (simp only [List.getElem?_toArray, List.getElem?_cons_succ, List.getElem?_cons_zero, Option.some.injEq] at ho); subst ho; (try dsimp only at hSw); go_simp; (first | done | with_reducible rfl))
              (try simp only [Act.put, List.setIfInBounds_toArray, List.set_cons_zero, List.set_cons_succ])
              refine hand_take 9 (some 95) ?_ (by kernel_rfl) (by kernel_rfl) (by kernel_rfl) (by kernel_rfl) (by kernel_rfl) (fun _ _ _ h => h) ?_ (by assumption) ?_
              rotate_left
              · (intro o ho w hSw; (simp only [List.getElem?_toArray, List.getElem?_cons_succ, List.getElem?_cons_zero, Option.some.injEq] at ho); subst ho; (try dsimp only at hSw); go_simp; (first | done | with_reducible rfl))
              (try simp only [Act.put, List.setIfInBounds_toArray, List.set_cons_zero, List.set_cons_succ])
              refine hand_take 10 (some 96) ?_ (by kernel_rfl) (by kernel_rfl) (by kernel_rfl) (by kernel_rfl) (by kernel_rfl) (fun _ _ _ h => h) ?_ (by assumption) ?_
              rotate_left
              · (intro o ho w hSw; (simp only [List.getElem?_toArray, List.getElem?_cons_succ, List.getElem?_cons_zero, Option.some.injEq] at ho); subst ho; (try dsimp only at hSw); go_simp; (first | done | with_reducible rfl))
              (try simp only [Act.put, List.setIfInBounds_toArray, List.set_cons_zero, List.set_cons_succ])
              refine hand_take 11 (some 97) ?_ (by kernel_rfl) (by kernel_rfl) (by kernel_rfl) (by kernel_rfl) (by kernel_rfl) (fun _ _ _ h => h) ?_ (by assumption) ?_
              rotate_left
              · (intro o ho w hSw; (simp only [List.getElem?_toArray, List.getElem?_cons_succ, List.getElem?_cons_zero, Option.some.injEq] at ho); subst ho; (try dsimp only at hSw); go_simp; (first | done | with_reducible rfl))
              (try simp only [Act.put, List.setIfInBounds_toArray, List.set_cons_zero, List.set_cons_succ])
              refine hand_ready 12 (by kernel_rfl) (by kernel_rfl) (fun o ho K hK => ?_)
              (simp only [List.getElem?_toArray, List.getElem?_cons_succ, List.getElem?_cons_zero, Option.some.injEq] at ho)
              subst ho
              go_simp
              (go_at_call 15; (with_reducible refine (HSA.out).mono ?_); rintro e w4 ⟨rfl, rfl⟩)
              (try go_wp2_with fail)
              refine hK.out _ _ ?_ (fun hHeld => ?_)
              · ((try dsimp only); (first | with_reducible exact HS.out | with_reducible exact HS2.out))
              clear hK K
              (try simp only [Act.put, List.setIfInBounds_toArray, List.set_cons_zero, List.set_cons_succ])
              refine hand_take 13 (some 99) ?_ (by kernel_rfl) (by kernel_rfl) (by kernel_rfl) (by kernel_rfl) (by kernel_rfl) (fun _ _ _ h => h) ?_ (by assumption) ?_
              rotate_left
              · (intro o ho w hSw; (simp only [List.getElem?_toArray, List.getElem?_cons_succ, List.getElem?_cons_zero, Option.some.injEq] at ho); subst ho; (try dsimp only at hSw); go_simp; (first | done | with_reducible rfl))
              (try simp only [Act.put, List.setIfInBounds_toArray, List.set_cons_zero, List.set_cons_succ])
              refine hand_take 14 (some 100) ?_ (by kernel_rfl) (by kernel_rfl) (by kernel_rfl) (by kernel_rfl) (by kernel_rfl) (fun _ _ _ h => h) ?_ (by assumption) ?_
              rotate_left
              · (intro o ho w hSw; (simp only [List.getElem?_toArray, List.getElem?_cons_succ, List.getElem?_cons_zero, Option.some.injEq] at ho); subst ho; (try dsimp only at hSw); go_simp; (first | done | with_reducible rfl))
              (try simp only [Act.put, List.setIfInBounds_toArray, List.set_cons_zero, List.set_cons_succ])
              refine hand_take 15 (some 101) ?_ (by kernel_rfl) (by kernel_rfl) (by kernel_rfl) (by kernel_rfl) (by kernel_rfl) (fun _ _ _ h => h) ?_ (by assumption) ?_
              rotate_left
              · (intro o ho w hSw; (simp only [List.getElem?_toArray, List.getElem?_cons_succ, List.getElem?_cons_zero, Option.some.injEq] at ho); subst ho; (try dsimp only at hSw); go_simp; (first | done | with_reducible rfl))
              (try simp only [Act.put, List.setIfInBounds_toArray, List.set_cons_zero, List.set_cons_succ])
              refine hand_take 16 (some 102) ?_ (by kernel_rfl) (by kernel_rfl) (by kernel_rfl) (by kernel_rfl) (by kernel_rfl) (fun _ _ _ h => h) ?_ (by assumption) ?_
              rotate_left
              · (intro o ho w hSw; (simp only [List.getElem?_toArray, List.getElem?_cons_succ, List.getElem?_cons_zero, Option.some.injEq] at ho); subst ho; (try dsimp only at hSw); go_simp; (first | done | with_reducible rfl))
              (try simp only [Act.put, List.setIfInBounds_toArray, List.set_cons_zero, List.set_cons_succ])
              refine hand_take 17 (some 103) ?_ (by kernel_rfl) (by kernel_rfl) (by kernel_rfl) (by kernel_rfl) (by kernel_rfl) (fun _ _ _ h => h) ?_ (by assumption) ?_
              rotate_left
              · (intro o ho w hSw; (simp only [List.getElem?_toArray, List.getElem?_cons_succ, List.getElem?_cons_zero, Option.some.injEq] at ho); subst ho; (try dsimp only at hSw); go_simp; (first | done | with_reducible rfl))
              (try simp only [Act.put, List.setIfInBounds_toArray, List.set_cons_zero, List.set_cons_succ])
              refine hand_take 18 (some 104) ?_ (by kernel_rfl) (by kernel_rfl) (by kernel_rfl) (by kernel_rfl) (by kernel_rfl) (fun _ _ _ h => h) ?_ (by assumption) ?_
              rotate_left
              · (intro o ho w hSw; (simp only [List.getElem?_toArray, List.getElem?_cons_succ, List.getElem?_cons_zero, Option.some.injEq] at ho); subst ho; (try dsimp only at hSw); go_simp; (first | done | with_reducible rfl))
              (try simp only [Act.put, List.setIfInBounds_toArray, List.set_cons_zero, List.set_cons_succ])
              refine hand_take 19 (some 105) ?_ (by kernel_rfl) (by kernel_rfl) (by kernel_rfl) (by kernel_rfl) (by kernel_rfl) (fun _ _ _ h => h) ?_ (by assumption) ?_
              rotate_left
              · (intro o ho w hSw; (simp only [List.getElem?_toArray, List.getElem?_cons_succ, List.getElem?_cons_zero, Option.some.injEq] at ho); subst ho; (try dsimp only at hSw); go_simp; (first | done | with_reducible rfl))
              (try simp only [Act.put, List.setIfInBounds_toArray, List.set_cons_zero, List.set_cons_succ])
              refine hand_take 20 (some 106) ?_ (by kernel_rfl) (by kernel_rfl) (by kernel_rfl) (by kernel_rfl) (by kernel_rfl) (fun _ _ _ h => h) ?_ (by assumption) ?_
              rotate_left
              · (intro o ho w hSw; (simp only [List.getElem?_toArray, List.getElem?_cons_succ, List.getElem?_cons_zero, Option.some.injEq] at ho); subst ho; (try dsimp only at hSw); go_simp; (first | done | with_reducible rfl))
              (try simp only [Act.put, List.setIfInBounds_toArray, List.set_cons_zero, List.set_cons_succ])
              refine hand_take 21 (some 107) ?_ (by kernel_rfl) (by kernel_rfl) (by kernel_rfl) (by kernel_rfl) (by kernel_rfl) (fun _ _ _ h => h) ?_ (by assumption) ?_
              rotate_left
              · (intro o ho w hSw; (simp only [List.getElem?_toArray, List.getElem?_cons_succ, List.getElem?_cons_zero, Option.some.injEq] at ho); subst ho; (try dsimp only at hSw); go_simp; (first | done | with_reducible rfl))
              (try simp only [Act.put, List.setIfInBounds_toArray, List.set_cons_zero, List.set_cons_succ])
              refine hand_take 22 (some 108) ?_ (by kernel_rfl) (by kernel_rfl) (by kernel_rfl) (by kernel_rfl) (by kernel_rfl) (fun _ _ _ h => h) ?_ (by assumption) ?_
              rotate_left
              · (intro o ho w hSw; (simp only [List.getElem?_toArray, List.getElem?_cons_succ, List.getElem?_cons_zero, Option.some.injEq] at ho); subst ho; (try dsimp only at hSw); go_simp; (first | done | with_reducible rfl))
              (try simp only [Act.put, List.setIfInBounds_toArray, List.set_cons_zero, List.set_cons_succ])
              refine hand_take 23 (some 109) ?_ (by kernel_rfl) (by kernel_rfl) (by kernel_rfl) (by kernel_rfl) (by kernel_rfl) (fun _ _ _ h => h) ?_ (by assumption) ?_
              rotate_left
              · (intro o ho w hSw; (simp only [List.getElem?_toArray, List.getElem?_cons_succ, List.getElem?_cons_zero, Option.some.injEq] at ho); subst ho; (try dsimp only at hSw); go_simp; (first | done | with_reducible rfl))
              (try simp only [Act.put, List.setIfInBounds_toArray, List.set_cons_zero, List.set_cons_succ])
              refine hand_take 24 (some 110) ?_ (by kernel_rfl) (by kernel_rfl) (by kernel_rfl) (by kernel_rfl) (by kernel_rfl) (fun _ _ _ h => h) ?_ (by assumption) ?_
              rotate_left
              · (intro o ho w hSw; (simp only [List.getElem?_toArray, List.getElem?_cons_succ, List.getElem?_cons_zero, Option.some.injEq] at ho); subst ho; (try dsimp only at hSw); go_simp; (first | done | with_reducible rfl))
              (try simp only [Act.put, List.setIfInBounds_toArray, List.set_cons_zero, List.set_cons_succ])
              refine hand_take 25 (some 111) ?_ (by kernel_rfl) (by kernel_rfl) (by kernel_rfl) (by kernel_rfl) (by kernel_rfl) (fun _ _ _ h => h) ?_ (by assumption) ?_
              rotate_left
              · (intro o ho w hSw; (simp only [List.getElem?_toArray, List.getElem?_cons_succ, List.getElem?_cons_zero, Option.some.injEq] at ho); subst ho; (try dsimp only at hSw); go_simp; (first | done | with_reducible rfl))
              (try simp only [Act.put, List.setIfInBounds_toArray, List.set_cons_zero, List.set_cons_succ])
              refine hand_take 26 (some 112) ?_ (by kernel_rfl) (by kernel_rfl) (by kernel_rfl) (by kernel_rfl) (by kernel_rfl) (fun _ _ _ h => h) ?_ (by assumption) ?_
              rotate_left
              · (intro o ho w hSw; (simp only [List.getElem?_toArray, List.getElem?_cons_succ, List.getElem?_cons_zero, Option.some.injEq] at ho); subst ho; (try dsimp only at hSw); go_simp; (first | done | with_reducible rfl))
              (try simp only [Act.put, List.setIfInBounds_toArray, List.set_cons_zero, List.set_cons_succ])
              refine hand_take 27 (some 113) ?_ (by kernel_rfl) (by kernel_rfl) (by kernel_rfl) (by kernel_rfl) (by kernel_rfl) (fun _ _ _ h => h) ?_ (by assumption) ?_
              rotate_left
              · (intro o ho w hSw; (simp only [List.getElem?_toArray, List.getElem?_cons_succ, List.getElem?_cons_zero, Option.some.injEq] at ho); subst ho; (try dsimp only at hSw); go_simp; (first | done | with_reducible rfl))
              (try simp only [Act.put, List.setIfInBounds_toArray, List.set_cons_zero, List.set_cons_succ])
              refine hand_take 28 (some 114) ?_ (by kernel_rfl) (by kernel_rfl) (by kernel_rfl) (by kernel_rfl) (by kernel_rfl) (fun _ _ _ h => h) ?_ (by assumption) ?_
              rotate_left
              · (intro o ho w hSw; (simp only [List.getElem?_toArray, List.getElem?_cons_succ, List.getElem?_cons_zero, Option.some.injEq] at ho); subst ho; (try dsimp only at hSw); go_simp; (first | done | with_reducible rfl))
              (try simp only [Act.put, List.setIfInBounds_toArray, List.set_cons_zero, List.set_cons_succ])
              refine hand_take 29 (some 115) ?_ (by kernel_rfl) (by kernel_rfl) (by kernel_rfl) (by kernel_rfl) (by kernel_rfl) (fun _ _ _ h => h) ?_ (by assumption) ?_
              rotate_left
              · (intro o ho w hSw; (simp only [List.getElem?_toArray, List.getElem?_cons_succ, List.getElem?_cons_zero, Option.some.injEq] at ho); subst ho; (try dsimp only at hSw); go_simp; (first | done | with_reducible rfl))
              (try simp only [Act.put, List.setIfInBounds_toArray, List.set_cons_zero, List.set_cons_succ])
              refine hand_take 30 (some 116) ?_ (by kernel_rfl) (by kernel_rfl) (by kernel_rfl) (by kernel_rfl) (by kernel_rfl) (fun _ _ _ h => h) ?_ (by assumption) ?_
              rotate_left
              · (intro o ho w hSw; (simp only [List.getElem?_toArray, List.getElem?_cons_succ, List.getElem?_cons_zero, Option.some.injEq] at ho); subst ho; (try dsimp only at hSw); go_simp; (first | done | with_reducible rfl))
              (try simp only [Act.put, List.setIfInBounds_toArray, List.set_cons_zero, List.set_cons_succ])
              refine hand_ready 31 (by kernel_rfl) (by kernel_rfl) (fun o ho K hK => ?_)
              (simp only [List.getElem?_toArray, List.getElem?_cons_succ, List.getElem?_cons_zero, Option.some.injEq] at ho)
              subst ho
              go_simp
              (go_at_call 14; (with_reducible refine (HKP.out).mono ?_); rintro e w5 ⟨rfl, hb5⟩; have HS2 := kept (show w5.cell? ⟨g1, 0, none⟩ = some (.slice (some ⟨b1, o1, none⟩) k2 c1) ∧ w5.cell? ⟨b1, o1 + t * 6, none⟩ = some (.slice ka kn kc) ∧ w5.cell? ⟨b1, o1 + t * 6 + 1, none⟩ = some (.slice va vn vc) ∧ w5.cell? ⟨b1, o1 + t * 6 + 2, none⟩ = some (.int .i64 xc) ∧ w5.cell? ⟨b1, o1 + t * 6 + 3, none⟩ = some (.int .i64 xm) ∧ w5.cell? ⟨b1, o1 + t * 6 + 4, none⟩ = some (.int .i64 xe) ∧ w5.cell? ⟨b1, o1 + t * 6 + 5, none⟩ = some (.int .i64 xl) ∧ w5.cell? ⟨g2, 0, none⟩ = some (.slice (some ⟨b2, o2, none⟩) k2 c2) ∧ w5.cell? ⟨b2, o2 + t * 6, none⟩ = some (.slice la ln lc) ∧ w5.cell? ⟨b2, o2 + t * 6 + 1, none⟩ = some (.slice ua 0 uc) ∧ w5.cell? ⟨W.heap.size, 0, none⟩ = some (.slice L.ka L.kn L.kc) ∧ w5.cell? ⟨W.heap.size, 1, none⟩ = some (.slice L.ea L.en L.ec) ∧ w5.cell? ⟨W.heap.size, 2, none⟩ = some (.int .i64 L.at_) ∧ w5.cell? ⟨W.heap.size, 3, none⟩ = some (.int .i64 (bareQ q true true).limit) ∧ w5.cell? ⟨W.heap.size, 4, none⟩ = some (.int .i64 (bareQ q true true).sort) ∧ w5.cell? ⟨W.heap.size, 5, none⟩ = some (.bool (bareQ q true true).desc) ∧ w5.cell? ⟨W.heap.size, 6, none⟩ = some (.bool (bareQ q true true).keys) ∧ w5.cell? ⟨W.heap.size, 7, none⟩ = some (.bool (bareQ q true true).count) ∧ w5.cell? ⟨W.heap.size, 8, none⟩ = some (.int .i64 (bareQ q true true).m0) ∧ w5.cell? ⟨W.heap.size, 9, none⟩ = some (.int .i64 (bareQ q true true).m1) ∧ w5.cell? ⟨W.heap.size, 10, none⟩ = some (.int .i64 (bareQ q true true).c0) ∧ w5.cell? ⟨W.heap.size, 11, none⟩ = some (.int .i64 (bareQ q true true).c1) from ⟨(Keeps.of_below hb5).cell_ HS.out.1, (Keeps.of_below hb5).cell_ HS.out.2.1, (Keeps.of_below hb5).cell_ HS.out.2.2.1, (Keeps.of_below hb5).cell_ HS.out.2.2.2.1, (Keeps.of_below hb5).cell_ HS.out.2.2.2.2.1, (Keeps.of_below hb5).cell_ HS.out.2.2.2.2.2.1, (Keeps.of_below hb5).cell_ HS.out.2.2.2.2.2.2.1, (Keeps.of_below hb5).cell_ HS.out.2.2.2.2.2.2.2.1, (Keeps.of_below hb5).cell_ HS.out.2.2.2.2.2.2.2.2.1, (Keeps.of_below hb5).cell_ HS.out.2.2.2.2.2.2.2.2.2.1, (Keeps.of_below hb5).cell_ HS.out.2.2.2.2.2.2.2.2.2.2.1, (Keeps.of_below hb5).cell_ HS.out.2.2.2.2.2.2.2.2.2.2.2.1, (Keeps.of_below hb5).cell_ HS.out.2.2.2.2.2.2.2.2.2.2.2.2.1, (Keeps.of_below hb5).cell_ HS.out.2.2.2.2.2.2.2.2.2.2.2.2.2.1, (Keeps.of_below hb5).cell_ HS.out.2.2.2.2.2.2.2.2.2.2.2.2.2.2.1, (Keeps.of_below hb5).cell_ HS.out.2.2.2.2.2.2.2.2.2.2.2.2.2.2.2.1, (Keeps.of_below hb5).cell_ HS.out.2.2.2.2.2.2.2.2.2.2.2.2.2.2.2.2.1, (Keeps.of_below hb5).cell_ HS.out.2.2.2.2.2.2.2.2.2.2.2.2.2.2.2.2.2.1, (Keeps.of_below hb5).cell_ HS.out.2.2.2.2.2.2.2.2.2.2.2.2.2.2.2.2.2.2.1, (Keeps.of_below hb5).cell_ HS.out.2.2.2.2.2.2.2.2.2.2.2.2.2.2.2.2.2.2.2.1, (Keeps.of_below hb5).cell_ HS.out.2.2.2.2.2.2.2.2.2.2.2.2.2.2.2.2.2.2.2.2.1, (Keeps.of_below hb5).cell_ HS.out.2.2.2.2.2.2.2.2.2.2.2.2.2.2.2.2.2.2.2.2.2⟩); have hb6 : Below wr.heap.size wr w5 := (Below.refl wr.heap.size wr).drew.trans hb5; have HI2 : Hid (_ ∧ _ ∧ _ ∧ _) := kept (And.intro (bel_to hb6 HI.out.1) (And.intro (HI.out.2.1.below_ hb6 HI.out.2.1.lt) (And.intro (HI.out.2.2.1.below hb6) (HI.out.2.2.2.below hb6)))); clear hb5 hb6)
              (try go_wp2_with fail)
              refine hK.out _ _ ?_ (fun hHeld => ?_)
              · ((try dsimp only); (first | with_reducible exact HS.out | with_reducible exact HS2.out))
              clear hK K
              (try simp only [Act.put, List.setIfInBounds_toArray, List.set_cons_zero, List.set_cons_succ])
              refine hand_take 32 (some 118) ?_ (by kernel_rfl) (by kernel_rfl) (by kernel_rfl) (by kernel_rfl) (by kernel_rfl) (fun _ _ _ h => h) ?_ (by assumption) ?_
              rotate_left
              · (intro o ho w hSw; (simp only [List.getElem?_toArray, List.getElem?_cons_succ, List.getElem?_cons_zero, Option.some.injEq] at ho); subst ho; (try dsimp only at hSw); go_simp; (first | done | with_reducible rfl))
              (try simp only [Act.put, List.setIfInBounds_toArray, List.set_cons_zero, List.set_cons_succ])
              refine hand_take 33 (some 119) ?_ (by kernel_rfl) (by kernel_rfl) (by kernel_rfl) (by kernel_rfl) (by kernel_rfl) (fun _ _ _ h => h) ?_ (by assumption) ?_
              rotate_left
              · (intro o ho w hSw; (simp only [List.getElem?_toArray, List.getElem?_cons_succ, List.getElem?_cons_zero, Option.some.injEq] at ho); subst ho; (try dsimp only at hSw); go_simp; (first | done | with_reducible rfl))
              (try simp only [Act.put, List.setIfInBounds_toArray, List.set_cons_zero, List.set_cons_succ])
              refine wpAnyH_done (by kernel_rfl) ?_ _
              go_wp2
              go_roundg (k2 - (t + 1))
              case measure => omega
              case rel => exact ⟨t + 1, by go_num, hlt, Nat.le_refl _, HI2.out⟩
            · have hltz : ¬ (t : Int) < (k2 : Int) := by omega
              go_wp2
              go_ret
              exact ⟨rfl, HI.out.1⟩
end Go.Proofs.Ytepmamfbhocjjaa.siftSieves
end
