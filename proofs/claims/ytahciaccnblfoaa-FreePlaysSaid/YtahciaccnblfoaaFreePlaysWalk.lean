/-
  The walk of the law FreePlays.
-/
import Derived.Test.YtahciaccnblfoaaFt
namespace Go.Proofs.Ytahciaccnblfoaa
open Go.ChangeShapes Go.WideShapes Go.ChangeAt Go.RowKit
set_option linter.unusedVariables false
set_option linter.unusedSimpArgs false
namespace freePlays
theorem OwI.blk {w : World} {A : Option Addr} {n c : Nat} {S : List Int} (h : OwI w A n c S) (hn : 0 < n) : ∃ g cs, A = some ⟨g, 0, none⟩ ∧ Blk w g 3 cs ∧ n ≤ cs.length := by
  rcases h.form with ⟨_, h0, _⟩ | ⟨g, cur, rfl, hg, hnc, hcm, hcs, htk⟩
  · omega
  · exact ⟨g, cur.toList, rfl, hg, by rw [Array.length_toList, hcs]; exact hnc⟩
/-- The row handed in is written over: k cells are. -/
def Own (w9 : World) (A : Option Addr) (n : Nat) (wx : World) : Prop := Turned w9 wx (fun j => blkOf A = some j) ∧ (0 < n → ∃ g cs, A = some ⟨g, 0, none⟩ ∧ Blk wx g 3 cs ∧ n ≤ cs.length)
set_option maxRecDepth 100000 in
set_option maxHeartbeats 4000000 in
theorem walk (w : World) (z : Int) (wz : (Lit.int .i64 z).wf = true) (A : Option Addr) (n c : Nat) (hnc : n ≤ c) (hcm : c ≤ maxLen) (Z : Nat → Int) (hr : RdVals w A n (fun i => .int .i64 (Z i)) ∧ ∀ i, i < n → (Lit.int .i64 (Z i)).wf = true)
    (A1 : Option Addr) (n1 c1 : Nat) (hnc1 : n1 ≤ c1) (hcm1 : c1 ≤ maxLen) (K1 N1 : Nat → Int) (hr1 : RdPairs w A1 n1 K1 N1) :
    Calls Try.prog 3 #[.int .i64 z, .slice A n c, .slice A1 n1 c1] w fun e w' => e = .returned (.bool true) ∧ Below w.heap.size w w' := by
  have HR := kept (RdI.of_vals hr.1)
  have HR1 := kept hr1
  have hm : n ≤ maxLen := Nat.le_trans hnc hcm
  have hm1 : n1 ≤ maxLen := Nat.le_trans hnc1 hcm1
  unfold maxLen at hm hm1
  clear hr hr1 hcm hcm1
  by_cases hbig : (1100 : Int) < (n : Int)
  · go_enter Try.func3, Try.ntmps3
    go_wp2_with fail
    with_reducible refine (lives_any _).mono ?_
    rintro e w1 ⟨rfl, hb1⟩
    have HB1 := kept hb1
    clear hb1
    go_wp2_with fail
    with_reducible refine (lives_any _).mono ?_
    rintro e w2 ⟨rfl, hb2⟩
    have HB2 := kept hb2
    clear hb2
    go_wp2
    go_ret
    exact ⟨rfl, HB1.out.trans (HB2.out.mono HB1.out.size)⟩
  have hn : n ≤ 1100 := by omega
  have HAP := kept (fun (W : World) (hb : Below w.heap.size w W) =>
    show OwI (W.alloc (.cells #[] 3)) (some ⟨W.heap.size, 0, none⟩) 0 0 [] ∧ RdI (W.alloc (.cells #[] 3)) A n (lstOf Z n) ∧ Below W.heap.size W (W.alloc (.cells #[] 3)) from by
      have h1 : Below W.heap.size W (W.alloc (.cells #[] 3)) := (Below.refl _ _).alloc (Nat.le_refl _) _
      exact ⟨OwI.none_new W, HR.out.below (hb.trans (h1.mono hb.size)), h1⟩)
  have h0n : (0 : Nat) + n = n := by omega
  have hn6 : 0 + n ≤ 1000000 := by omega
  by_cases he : newErr z (lstOf Z n) = 0
  · have HN := kept (fun A2 c2 W (hr : RdI W A2 n (lstOf Z n)) => new_good z A2 n c2 (lstOf Z n) W hr (by omega) he)
    have HRN := kept (fun W (hb : Below w.heap.size w W) => rnew_any z A n c (lstOf Z n) W (HR.out.below hb) (by omega))
    rw [he] at HRN
    have HE := kept he
    clear he
    go_enter Try.func3, Try.ntmps3
    go_wp2_with (first | (go_at_call 8; (with_reducible refine (lives_any _).mono ?_); rintro e w1 ⟨rfl, hb1⟩; have HB1 := kept hb1 ; clear hb1) | (at_builtin; refine wpList_append_i rfl (.tmp 29) (.tmp 30) rfl rfl rfl ((HAP.out _ HB1.out).1) ((HAP.out _ HB1.out).2.1) hn6 ?_; intro A2 c2 w2 h2 t2 g2; rw [h0n, List.nil_append] at h2; rw [h0n]; have HO2 := kept h2; have HG2 : Hid (∀ g, blkOf A2 = some g → w1.heap.size ≤ g) := kept (fun g hg => by rcases g2 g hg with h | h; cases h; exact Nat.le_refl _; exact Nat.le_trans (HAP.out _ HB1.out).2.2.size h); have HB2 : Hid (Below w.heap.size w w2) := kept (HB1.out.trans ((Turned.only_new (HAP.out _ HB1.out).2.2 t2 (HAP.out _ HB1.out).2.2.size (fun i hi => by cases hi; exact Nat.le_refl _)).mono HB1.out.size)); clear h2 t2 g2) | (go_at_call 9; (with_reducible refine (HN.out _ _ _ HO2.out.reads).mono ?_); rintro e w3 ⟨f, rfl, h3⟩; have HB3 : Hid (Below w.heap.size w w3) := kept (HB2.out.trans (h3.out.2.1.mono HB2.out.size))) | (go_at_call 10; (with_reducible refine (HRN.out _ HB3.out).mono ?_); rintro e w9 ⟨P, rfl, h9⟩; obtain ⟨rr, gg, G, rfl, hG⟩ := h9.out.2 HE.out))
    have HB9 : Hid (Below w.heap.size w w9) := kept (HB3.out.trans (h9.out.1.mono HB3.out.size))
    have HLF := kept (h3.out.1.below h9.out.1)
    have HOW : Hid (∀ j, f.own j → w2.heap.size ≤ j ∧ j < w3.heap.size) := kept (fun j hj => ⟨h3.out.2.2 j hj, h3.out.1.lt hj⟩)
    have HOB : Hid (∀ g, blkOf A2 = some g → w.heap.size ≤ g ∧ g < w2.heap.size) := kept (fun g hg => ⟨Nat.le_trans HB1.out.size (HG2.out g hg), HO2.out.lt hg⟩)
    have HSZ : Hid (w.heap.size ≤ w2.heap.size ∧ w2.heap.size ≤ w3.heap.size) := kept ⟨HB2.out.size, h3.out.2.1.size⟩
    have HGF := kept hG
    have H0 : Hid (Own w9 A2 n w9) := kept ⟨Turned.refl _ _, fun hpos => by
      obtain ⟨g, cs, h1, h2, h3'⟩ := OwI.blk ((HO2.out.below h3.out.2.1).below h9.out.1) hpos
      exact ⟨g, cs, h1, h2, h3'⟩⟩
    clear h3 h9 hG HAP HN HRN HO2 HG2 HB1 HB2 HB3 HE
    go_loopw [95] (fun i wr => ∃ k : Nat, k ≤ n ∧ i = .int .i64 (k : Int) ∧ Hid (Own w9 A2 n wr)) (fun i _ => n - (intOf i).toNat)
    case atStart => exact ⟨0, Nat.zero_le _, rfl, H0⟩
    case round =>
      obtain ⟨k, hk, rfl, HW⟩ := hrel
      clear H0
      by_cases hlt : k < n
      · obtain ⟨g, cs, rfl, hb, hl⟩ := HW.out.2 (by omega)
        have fz := hb.frozen k
        have HE : Hid (Own w9 (some ⟨g, 0, none⟩) n (wr.setCell ⟨g, k, none⟩ (.int .i64 0))) := kept ⟨HW.out.1.setCell (p := ⟨g, k, none⟩) (fun _ => rfl) _, fun _ => ⟨g, _, rfl, hb.set_ k _, by rw [List.length_set]; exact hl⟩⟩
        have hsm : (wr.cell? ⟨g, k, none⟩).isSome = true := by rw [hb.cell, List.getElem?_eq_getElem (by omega)]; rfl
        obtain ⟨u, hu⟩ := Option.isSome_iff_exists.1 hsm
        clear hb hl hsm
        go_wp2
        go_roundw
        case rel => exact ⟨k + 1, by omega, by go_num, HE⟩
        case measure => simp [intOf]; omega
      · obtain rfl : k = n := by omega
        have H0 : Hid (Both w f.r rr gg ⟨z, addAll [] (lstOf Z k), []⟩ ⟨z, addAll [] (lstOf Z k), []⟩ wr ∧ Dis ⟨z, addAll [] (lstOf Z k), []⟩) := kept (by
          have hT := HW.out.1
          have hno : ∀ j, f.own j → ¬ blkOf A2 = some j := fun j hj hb => by
            have := HOW.out j hj
            have := HOB.out j hb
            omega
          obtain ⟨hG1, hG2, hG3, hG4⟩ := HGF.out
          have hno2 : ∀ j, w3.heap.size ≤ j → ¬ blkOf A2 = some j := fun j hj hb => by
            have := HOB.out j hb
            have := HSZ.out
            omega
          have hsz := HSZ.out
          refine ⟨⟨Turned.only_new HB9.out hT HB9.out.size (fun j hj => (HOB.out j hj).1), ⟨f, rfl, HLF.out.turned hT hno, fun j hj => ?_⟩, ⟨G, hG1.turned hT (hno2 _ hG3) (hno2 _ hG4), hG2⟩, by omega, by omega⟩, fun x _ hx => by simp at hx⟩
          have := HOW.out j hj
          exact ⟨by omega, by omega, by omega⟩)
        have HR1B := kept (fun (s : FSt) W (h : Both w f.r rr gg s s W) => HR1.out.below h.bel)
        generalize f.r = r at H0 HR1B ⊢
        clear HW HLF HOW HOB HSZ HGF HB9 hlt hk HR HR1
        generalize (⟨z, addAll [] (lstOf Z k), []⟩ : FSt) = s0 at H0
        go_wp2
        go_loopw [104] (fun i wx => ∃ (j : Nat) (s : FSt), j ≤ n1 ∧ i = .int .i64 (j : Int) ∧ Hid (Both w r rr gg s s wx ∧ Dis s)) (fun i _ => n1 - (intOf i).toNat)
        case atStart => exact ⟨0, s0, Nat.zero_le _, rfl, H0⟩
        case round =>
          obtain ⟨j, s, hj, rfl, HB⟩ := hrel
          clear H0
          by_cases hlt : j < n1
          · obtain ⟨b, o, rfl, p0, p1⟩ := (HR1B.out _ _ HB.out.1).there hlt
            by_cases h80 : (80 : Int) ≤ (j : Int)
            · go_wp2
              go_ret
              exact ⟨rfl, (HB.out.1.alloc _).bel⟩
            · generalize K1 j = K at p0
              generalize N1 j = N at p1
              by_cases k0 : K = 0
              · subst k0
                have HT := kept (take_b (HB.out.1.alloc (.cells #[.int .i64 0, .int .i64 N] 39)))
                have HRT := kept (fun W (h : Both w r rr gg s.take s W) => rtake_b h HB.out.1.ok HB.out.2)
                generalize s.taken.1 = t1 at HT HRT
                generalize s.taken.2 = t2 at HT HRT
                go_wp2_with (first | (go_at_call 11; (with_reducible refine (HT.out).mono ?_); rintro e w4 ⟨rfl, h4⟩) | (go_at_call 19; (with_reducible refine (HRT.out _ h4.out.1).mono ?_); rintro e w5 ⟨rfl, h5⟩))
                have HB5 := kept h5.out.1
                have HD5 := kept HB.out.2.take
                clear h4 h5 HT HRT p0 p1
                generalize s.take = sn at HB5 HD5
                have HO5 := kept HB5.out.ok
                have hl1 : sn.S.length ≤ 1000000 := by have := HO5.out.short.1; omega
                have hl2 : sn.H.length ≤ 1000000 := by have := HO5.out.short.2; omega
                have HRM := kept (room_b HB5.out)
                have HA1 := kept (rall_b HB5.out HO5.out HD5.out 1 sn.S (.inl ⟨rfl, rfl⟩))
                go_wp2_with (first | (go_at_call 15; (with_reducible refine (HRM.out).mono ?_); rintro e w' ⟨rfl, rfl⟩) | (go_at_call 22; (with_reducible refine (HA1.out).mono ?_); rintro e w6 ⟨A6, c6, rfl, h6⟩))
                have HB6 := kept h6.out.1
                have HSP := kept (spare_b HB6.out)
                clear h6 HRM HA1
                go_wp2_with (first | (go_at_call 16; (with_reducible refine (HSP.out).mono ?_); rintro e w7 ⟨A7, c7, rfl, h7⟩))
                have HB7 := kept h7.out.1
                have HW7 := kept h7.out.2.1
                have HA2 := kept (rall_b HB7.out HO5.out HD5.out 1 sn.S (.inl ⟨rfl, rfl⟩))
                clear h7 HSP
                go_wp2_with (first | (go_at_call 22; (with_reducible refine (HA2.out).mono ?_); rintro e w8 ⟨A8, c8, rfl, h8⟩))
                have HS1 := kept (same_true A7 A8 _ c7 c8 sn.S w8 (HW7.out.below h8.out.2.2.1).reads h8.out.2.1.reads hl1)
                have HB8 := kept h8.out.1
                clear h8 HA2 HW7
                go_wp2_with (first | (go_at_call 23; (with_reducible refine (HS1.out).mono ?_); rintro e w9 ⟨rfl, h9⟩))
                have HB9 : Hid (Both w r rr gg sn sn w9) := kept (by obtain ⟨q, rfl⟩ := h9.out; exact HB8.out.drewN q)
                have HHD := kept (held_b HB9.out)
                clear h9 HS1 HB8
                go_wp2_with (first | (go_at_call 17; (with_reducible refine (HHD.out).mono ?_); rintro e w10 ⟨A10, c10, rfl, h10⟩))
                have HB10 := kept h10.out.1
                have HW10 := kept h10.out.2.1
                have HA3 := kept (rall_b HB10.out HO5.out HD5.out 2 sn.H (.inr ⟨rfl, rfl⟩))
                clear h10 HHD
                go_wp2_with (first | (go_at_call 22; (with_reducible refine (HA3.out).mono ?_); rintro e w11 ⟨A11, c11, rfl, h11⟩))
                have HS2 := kept (same_true A10 A11 _ c10 c11 sn.H w11 (HW10.out.below h11.out.2.2.1).reads h11.out.2.1.reads hl2)
                have HB11 := kept h11.out.1
                clear h11 HA3 HW10
                go_wp2_with (first | (go_at_call 23; (with_reducible refine (HS2.out).mono ?_); rintro e w12 ⟨rfl, h12⟩))
                have HB12 : Hid (Both w r rr gg sn sn w12 ∧ Dis sn) := kept ⟨by obtain ⟨q, rfl⟩ := h12.out; exact HB11.out.drewN q, HD5.out⟩
                clear h12 HS2 HB11 HB5 HD5 HO5 HB6 HB7 HB9 HB10
                go_roundw
                case rel => exact ⟨j + 1, sn, by omega, by go_num, HB12⟩
                case measure => simp [intOf]; omega
              by_cases k1 : K = 1
              · subst k1
                have HBA := kept (HB.out.1.alloc (.cells #[.int .i64 1, .int .i64 N] 39))
                have HBK := kept (Blk.new wr 39 #[.int .i64 1, .int .i64 N])
                have HT := kept (give_b HBA.out.drew N)
                have HRT := kept (fun W (h : Both w r rr gg (s.give N) s W) => rgive_b h N)
                generalize s.may N = q at HT HRT
                go_wp2
                refine wp_region_held_drew (S := (fun W' => W'.cell? ⟨wr.heap.size, 1, none⟩ = some (.int .i64 N))) (by kernel_rfl) ?_ (fun hHeld => ?_)
                · ((try dsimp only); (first | exact HBK.out.cell 1 | exact (h4.out.2 _ _ HBK.out).cell 1 | exact (h5.out.2 _ _ (h4.out.2 _ _ HBK.out)).cell 1))
                refine hand_take 0 (some 139) ?_ (by kernel_rfl) (by kernel_rfl) (by kernel_rfl) (by kernel_rfl) (by kernel_rfl) (fun _ _ _ h => h) ?_ (by assumption) ?_
                rotate_left
                · (intro o ho w hSw; (simp only [List.getElem?_toArray, List.getElem?_cons_succ, List.getElem?_cons_zero, Option.some.injEq] at ho); subst ho; (try dsimp only at hSw); go_simp; (first | done | with_reducible rfl))
                (try simp only [Act.put, List.setIfInBounds_toArray, List.set_cons_zero, List.set_cons_succ])
                refine hand_take 1 (some 140) ?_ (by kernel_rfl) (by kernel_rfl) (by kernel_rfl) (by kernel_rfl) (by kernel_rfl) (fun _ _ _ h => h) ?_ (by assumption) ?_
                rotate_left
                · (intro o ho w hSw; (simp only [List.getElem?_toArray, List.getElem?_cons_succ, List.getElem?_cons_zero, Option.some.injEq] at ho); subst ho; (try dsimp only at hSw); go_simp; (first | done | with_reducible rfl))
                (try simp only [Act.put, List.setIfInBounds_toArray, List.set_cons_zero, List.set_cons_succ])
                refine hand_take 2 (some 141) ?_ (by kernel_rfl) (by kernel_rfl) (by kernel_rfl) (by kernel_rfl) (by kernel_rfl) (fun _ _ _ h => h) ?_ (by assumption) ?_
                rotate_left
                · (intro o ho w hSw; (simp only [List.getElem?_toArray, List.getElem?_cons_succ, List.getElem?_cons_zero, Option.some.injEq] at ho); subst ho; (try dsimp only at hSw); go_simp; (first | done | with_reducible rfl))
                (try simp only [Act.put, List.setIfInBounds_toArray, List.set_cons_zero, List.set_cons_succ])
                refine hand_take 4 (some 143) ?_ (by kernel_rfl) (by kernel_rfl) (by kernel_rfl) (by kernel_rfl) (by kernel_rfl) (fun _ _ _ h => h) ?_ (by assumption) ?_
                rotate_left
                · (intro o ho w hSw; (simp only [List.getElem?_toArray, List.getElem?_cons_succ, List.getElem?_cons_zero, Option.some.injEq] at ho); subst ho; (try dsimp only at hSw); go_simp; (first | done | with_reducible rfl))
                (try simp only [Act.put, List.setIfInBounds_toArray, List.set_cons_zero, List.set_cons_succ])
                refine hand_take 5 (some 144) ?_ (by kernel_rfl) (by kernel_rfl) (by kernel_rfl) (by kernel_rfl) (by kernel_rfl) (fun _ _ _ h => h) ?_ (by assumption) ?_
                rotate_left
                · (intro o ho w hSw; (simp only [List.getElem?_toArray, List.getElem?_cons_succ, List.getElem?_cons_zero, Option.some.injEq] at ho); subst ho; (try dsimp only at hSw); go_simp; (first | done | with_reducible rfl))
                (try simp only [Act.put, List.setIfInBounds_toArray, List.set_cons_zero, List.set_cons_succ])
                refine hand_take 6 (some 145) ?_ (by kernel_rfl) (by kernel_rfl) (by kernel_rfl) (by kernel_rfl) (by kernel_rfl) (fun _ _ _ h => h) ?_ (by assumption) ?_
                rotate_left
                · (intro o ho w hSw; (simp only [List.getElem?_toArray, List.getElem?_cons_succ, List.getElem?_cons_zero, Option.some.injEq] at ho); subst ho; (try dsimp only at hSw); go_simp; (first | done | with_reducible rfl))
                (try simp only [Act.put, List.setIfInBounds_toArray, List.set_cons_zero, List.set_cons_succ])
                refine hand_ready 3 (by kernel_rfl) (by kernel_rfl) (fun o ho K hK => ?_)
                (simp only [List.getElem?_toArray, List.getElem?_cons_succ, List.getElem?_cons_zero, Option.some.injEq] at ho)
                subst ho
                go_simp
                (go_at_call 13; (with_reducible refine HT.out.mono ?_); rintro e w4 ⟨rfl, h4⟩)
                (try go_wp2_with fail)
                refine hK.out _ _ ?_ (fun hHeld => ?_)
                · ((try dsimp only); (first | exact HBK.out.cell 1 | exact (h4.out.2 _ _ HBK.out).cell 1 | exact (h5.out.2 _ _ (h4.out.2 _ _ HBK.out)).cell 1))
                clear hK K
                (try simp only [Act.put, List.setIfInBounds_toArray, List.set_cons_zero, List.set_cons_succ])
                refine hand_ready 7 (by kernel_rfl) (by kernel_rfl) (fun o ho K hK => ?_)
                (simp only [List.getElem?_toArray, List.getElem?_cons_succ, List.getElem?_cons_zero, Option.some.injEq] at ho)
                subst ho
                go_simp
                (go_at_call 20; (with_reducible refine (HRT.out _ h4.out.1).mono ?_); rintro e w5 ⟨rfl, h5⟩)
                (try go_wp2_with fail)
                refine hK.out _ _ ?_ (fun hHeld => ?_)
                · ((try dsimp only); (first | exact HBK.out.cell 1 | exact (h4.out.2 _ _ HBK.out).cell 1 | exact (h5.out.2 _ _ (h4.out.2 _ _ HBK.out)).cell 1))
                clear hK K
                (try simp only [Act.put, List.setIfInBounds_toArray, List.set_cons_zero, List.set_cons_succ])
                refine hand_take 8 (some 147) ?_ (by kernel_rfl) (by kernel_rfl) (by kernel_rfl) (by kernel_rfl) (by kernel_rfl) (fun _ _ _ h => h) ?_ (by assumption) ?_
                rotate_left
                · (intro o ho w hSw; (simp only [List.getElem?_toArray, List.getElem?_cons_succ, List.getElem?_cons_zero, Option.some.injEq] at ho); subst ho; (try dsimp only at hSw); go_simp; (first | done | with_reducible rfl))
                (try simp only [Act.put, List.setIfInBounds_toArray, List.set_cons_zero, List.set_cons_succ])
                refine wpAnyH_done (by kernel_rfl) ?_ _
                have HB5 := kept h5.out.1
                have HD5 := kept (HB.out.2.give N)
                clear h4 h5 HT HRT HBA HBK p0 p1
                generalize s.give N = sn at HB5 HD5
                have HO5 := kept HB5.out.ok
                have hl1 : sn.S.length ≤ 1000000 := by have := HO5.out.short.1; omega
                have hl2 : sn.H.length ≤ 1000000 := by have := HO5.out.short.2; omega
                have HRM := kept (room_b HB5.out)
                have HA1 := kept (rall_b HB5.out HO5.out HD5.out 1 sn.S (.inl ⟨rfl, rfl⟩))
                go_wp2_with (first | (go_at_call 15; (with_reducible refine (HRM.out).mono ?_); rintro e w' ⟨rfl, rfl⟩) | (go_at_call 22; (with_reducible refine (HA1.out).mono ?_); rintro e w6 ⟨A6, c6, rfl, h6⟩))
                have HB6 := kept h6.out.1
                have HSP := kept (spare_b HB6.out)
                clear h6 HRM HA1
                go_wp2_with (first | (go_at_call 16; (with_reducible refine (HSP.out).mono ?_); rintro e w7 ⟨A7, c7, rfl, h7⟩))
                have HB7 := kept h7.out.1
                have HW7 := kept h7.out.2.1
                have HA2 := kept (rall_b HB7.out HO5.out HD5.out 1 sn.S (.inl ⟨rfl, rfl⟩))
                clear h7 HSP
                go_wp2_with (first | (go_at_call 22; (with_reducible refine (HA2.out).mono ?_); rintro e w8 ⟨A8, c8, rfl, h8⟩))
                have HS1 := kept (same_true A7 A8 _ c7 c8 sn.S w8 (HW7.out.below h8.out.2.2.1).reads h8.out.2.1.reads hl1)
                have HB8 := kept h8.out.1
                clear h8 HA2 HW7
                go_wp2_with (first | (go_at_call 23; (with_reducible refine (HS1.out).mono ?_); rintro e w9 ⟨rfl, h9⟩))
                have HB9 : Hid (Both w r rr gg sn sn w9) := kept (by obtain ⟨q, rfl⟩ := h9.out; exact HB8.out.drewN q)
                have HHD := kept (held_b HB9.out)
                clear h9 HS1 HB8
                go_wp2_with (first | (go_at_call 17; (with_reducible refine (HHD.out).mono ?_); rintro e w10 ⟨A10, c10, rfl, h10⟩))
                have HB10 := kept h10.out.1
                have HW10 := kept h10.out.2.1
                have HA3 := kept (rall_b HB10.out HO5.out HD5.out 2 sn.H (.inr ⟨rfl, rfl⟩))
                clear h10 HHD
                go_wp2_with (first | (go_at_call 22; (with_reducible refine (HA3.out).mono ?_); rintro e w11 ⟨A11, c11, rfl, h11⟩))
                have HS2 := kept (same_true A10 A11 _ c10 c11 sn.H w11 (HW10.out.below h11.out.2.2.1).reads h11.out.2.1.reads hl2)
                have HB11 := kept h11.out.1
                clear h11 HA3 HW10
                go_wp2_with (first | (go_at_call 23; (with_reducible refine (HS2.out).mono ?_); rintro e w12 ⟨rfl, h12⟩))
                have HB12 : Hid (Both w r rr gg sn sn w12 ∧ Dis sn) := kept ⟨by obtain ⟨q, rfl⟩ := h12.out; exact HB11.out.drewN q, HD5.out⟩
                clear h12 HS2 HB11 HB5 HD5 HO5 HB6 HB7 HB9 HB10
                go_roundw
                case rel => exact ⟨j + 1, sn, by omega, by go_num, HB12⟩
                case measure => simp [intOf]; omega
              by_cases k2 : K = 2
              · subst k2
                have HBA := kept (HB.out.1.alloc (.cells #[.int .i64 2, .int .i64 N] 39))
                have HBK := kept (Blk.new wr 39 #[.int .i64 2, .int .i64 N])
                have HT := kept (hold_b HBA.out.drew N)
                have HRT := kept (fun W (h : Both w r rr gg (s.hold N) s W) => rhold_b h N)
                generalize s.may N = q at HT HRT
                go_wp2
                refine wp_region_held_drew (S := (fun W' => W'.cell? ⟨wr.heap.size, 1, none⟩ = some (.int .i64 N))) (by kernel_rfl) ?_ (fun hHeld => ?_)
                · ((try dsimp only); (first | exact HBK.out.cell 1 | exact (h4.out.2 _ _ HBK.out).cell 1 | exact (h5.out.2 _ _ (h4.out.2 _ _ HBK.out)).cell 1))
                refine hand_take 0 (some 150) ?_ (by kernel_rfl) (by kernel_rfl) (by kernel_rfl) (by kernel_rfl) (by kernel_rfl) (fun _ _ _ h => h) ?_ (by assumption) ?_
                rotate_left
                · (intro o ho w hSw; (simp only [List.getElem?_toArray, List.getElem?_cons_succ, List.getElem?_cons_zero, Option.some.injEq] at ho); subst ho; (try dsimp only at hSw); go_simp; (first | done | with_reducible rfl))
                (try simp only [Act.put, List.setIfInBounds_toArray, List.set_cons_zero, List.set_cons_succ])
                refine hand_take 1 (some 151) ?_ (by kernel_rfl) (by kernel_rfl) (by kernel_rfl) (by kernel_rfl) (by kernel_rfl) (fun _ _ _ h => h) ?_ (by assumption) ?_
                rotate_left
                · (intro o ho w hSw; (simp only [List.getElem?_toArray, List.getElem?_cons_succ, List.getElem?_cons_zero, Option.some.injEq] at ho); subst ho; (try dsimp only at hSw); go_simp; (first | done | with_reducible rfl))
                (try simp only [Act.put, List.setIfInBounds_toArray, List.set_cons_zero, List.set_cons_succ])
                refine hand_take 2 (some 152) ?_ (by kernel_rfl) (by kernel_rfl) (by kernel_rfl) (by kernel_rfl) (by kernel_rfl) (fun _ _ _ h => h) ?_ (by assumption) ?_
                rotate_left
                · (intro o ho w hSw; (simp only [List.getElem?_toArray, List.getElem?_cons_succ, List.getElem?_cons_zero, Option.some.injEq] at ho); subst ho; (try dsimp only at hSw); go_simp; (first | done | with_reducible rfl))
                (try simp only [Act.put, List.setIfInBounds_toArray, List.set_cons_zero, List.set_cons_succ])
                refine hand_take 4 (some 154) ?_ (by kernel_rfl) (by kernel_rfl) (by kernel_rfl) (by kernel_rfl) (by kernel_rfl) (fun _ _ _ h => h) ?_ (by assumption) ?_
                rotate_left
                · (intro o ho w hSw; (simp only [List.getElem?_toArray, List.getElem?_cons_succ, List.getElem?_cons_zero, Option.some.injEq] at ho); subst ho; (try dsimp only at hSw); go_simp; (first | done | with_reducible rfl))
                (try simp only [Act.put, List.setIfInBounds_toArray, List.set_cons_zero, List.set_cons_succ])
                refine hand_take 5 (some 155) ?_ (by kernel_rfl) (by kernel_rfl) (by kernel_rfl) (by kernel_rfl) (by kernel_rfl) (fun _ _ _ h => h) ?_ (by assumption) ?_
                rotate_left
                · (intro o ho w hSw; (simp only [List.getElem?_toArray, List.getElem?_cons_succ, List.getElem?_cons_zero, Option.some.injEq] at ho); subst ho; (try dsimp only at hSw); go_simp; (first | done | with_reducible rfl))
                (try simp only [Act.put, List.setIfInBounds_toArray, List.set_cons_zero, List.set_cons_succ])
                refine hand_take 6 (some 156) ?_ (by kernel_rfl) (by kernel_rfl) (by kernel_rfl) (by kernel_rfl) (by kernel_rfl) (fun _ _ _ h => h) ?_ (by assumption) ?_
                rotate_left
                · (intro o ho w hSw; (simp only [List.getElem?_toArray, List.getElem?_cons_succ, List.getElem?_cons_zero, Option.some.injEq] at ho); subst ho; (try dsimp only at hSw); go_simp; (first | done | with_reducible rfl))
                (try simp only [Act.put, List.setIfInBounds_toArray, List.set_cons_zero, List.set_cons_succ])
                refine hand_ready 3 (by kernel_rfl) (by kernel_rfl) (fun o ho K hK => ?_)
                (simp only [List.getElem?_toArray, List.getElem?_cons_succ, List.getElem?_cons_zero, Option.some.injEq] at ho)
                subst ho
                go_simp
                (go_at_call 14; (with_reducible refine HT.out.mono ?_); rintro e w4 ⟨rfl, h4⟩)
                (try go_wp2_with fail)
                refine hK.out _ _ ?_ (fun hHeld => ?_)
                · ((try dsimp only); (first | exact HBK.out.cell 1 | exact (h4.out.2 _ _ HBK.out).cell 1 | exact (h5.out.2 _ _ (h4.out.2 _ _ HBK.out)).cell 1))
                clear hK K
                (try simp only [Act.put, List.setIfInBounds_toArray, List.set_cons_zero, List.set_cons_succ])
                refine hand_ready 7 (by kernel_rfl) (by kernel_rfl) (fun o ho K hK => ?_)
                (simp only [List.getElem?_toArray, List.getElem?_cons_succ, List.getElem?_cons_zero, Option.some.injEq] at ho)
                subst ho
                go_simp
                (go_at_call 20; (with_reducible refine (HRT.out _ h4.out.1).mono ?_); rintro e w5 ⟨rfl, h5⟩)
                (try go_wp2_with fail)
                refine hK.out _ _ ?_ (fun hHeld => ?_)
                · ((try dsimp only); (first | exact HBK.out.cell 1 | exact (h4.out.2 _ _ HBK.out).cell 1 | exact (h5.out.2 _ _ (h4.out.2 _ _ HBK.out)).cell 1))
                clear hK K
                (try simp only [Act.put, List.setIfInBounds_toArray, List.set_cons_zero, List.set_cons_succ])
                refine hand_take 8 (some 158) ?_ (by kernel_rfl) (by kernel_rfl) (by kernel_rfl) (by kernel_rfl) (by kernel_rfl) (fun _ _ _ h => h) ?_ (by assumption) ?_
                rotate_left
                · (intro o ho w hSw; (simp only [List.getElem?_toArray, List.getElem?_cons_succ, List.getElem?_cons_zero, Option.some.injEq] at ho); subst ho; (try dsimp only at hSw); go_simp; (first | done | with_reducible rfl))
                (try simp only [Act.put, List.setIfInBounds_toArray, List.set_cons_zero, List.set_cons_succ])
                refine wpAnyH_done (by kernel_rfl) ?_ _
                have HB5 := kept h5.out.1
                have HD5 := kept (HB.out.2.hold N)
                clear h4 h5 HT HRT HBA HBK p0 p1
                generalize s.hold N = sn at HB5 HD5
                have HO5 := kept HB5.out.ok
                have hl1 : sn.S.length ≤ 1000000 := by have := HO5.out.short.1; omega
                have hl2 : sn.H.length ≤ 1000000 := by have := HO5.out.short.2; omega
                have HRM := kept (room_b HB5.out)
                have HA1 := kept (rall_b HB5.out HO5.out HD5.out 1 sn.S (.inl ⟨rfl, rfl⟩))
                go_wp2_with (first | (go_at_call 15; (with_reducible refine (HRM.out).mono ?_); rintro e w' ⟨rfl, rfl⟩) | (go_at_call 22; (with_reducible refine (HA1.out).mono ?_); rintro e w6 ⟨A6, c6, rfl, h6⟩))
                have HB6 := kept h6.out.1
                have HSP := kept (spare_b HB6.out)
                clear h6 HRM HA1
                go_wp2_with (first | (go_at_call 16; (with_reducible refine (HSP.out).mono ?_); rintro e w7 ⟨A7, c7, rfl, h7⟩))
                have HB7 := kept h7.out.1
                have HW7 := kept h7.out.2.1
                have HA2 := kept (rall_b HB7.out HO5.out HD5.out 1 sn.S (.inl ⟨rfl, rfl⟩))
                clear h7 HSP
                go_wp2_with (first | (go_at_call 22; (with_reducible refine (HA2.out).mono ?_); rintro e w8 ⟨A8, c8, rfl, h8⟩))
                have HS1 := kept (same_true A7 A8 _ c7 c8 sn.S w8 (HW7.out.below h8.out.2.2.1).reads h8.out.2.1.reads hl1)
                have HB8 := kept h8.out.1
                clear h8 HA2 HW7
                go_wp2_with (first | (go_at_call 23; (with_reducible refine (HS1.out).mono ?_); rintro e w9 ⟨rfl, h9⟩))
                have HB9 : Hid (Both w r rr gg sn sn w9) := kept (by obtain ⟨q, rfl⟩ := h9.out; exact HB8.out.drewN q)
                have HHD := kept (held_b HB9.out)
                clear h9 HS1 HB8
                go_wp2_with (first | (go_at_call 17; (with_reducible refine (HHD.out).mono ?_); rintro e w10 ⟨A10, c10, rfl, h10⟩))
                have HB10 := kept h10.out.1
                have HW10 := kept h10.out.2.1
                have HA3 := kept (rall_b HB10.out HO5.out HD5.out 2 sn.H (.inr ⟨rfl, rfl⟩))
                clear h10 HHD
                go_wp2_with (first | (go_at_call 22; (with_reducible refine (HA3.out).mono ?_); rintro e w11 ⟨A11, c11, rfl, h11⟩))
                have HS2 := kept (same_true A10 A11 _ c10 c11 sn.H w11 (HW10.out.below h11.out.2.2.1).reads h11.out.2.1.reads hl2)
                have HB11 := kept h11.out.1
                clear h11 HA3 HW10
                go_wp2_with (first | (go_at_call 23; (with_reducible refine (HS2.out).mono ?_); rintro e w12 ⟨rfl, h12⟩))
                have HB12 : Hid (Both w r rr gg sn sn w12 ∧ Dis sn) := kept ⟨by obtain ⟨q, rfl⟩ := h12.out; exact HB11.out.drewN q, HD5.out⟩
                clear h12 HS2 HB11 HB5 HD5 HO5 HB6 HB7 HB9 HB10
                go_roundw
                case rel => exact ⟨j + 1, sn, by omega, by go_num, HB12⟩
                case measure => simp [intOf]; omega
              have b0 : (K == 0) = false := by simpa using k0
              have b1 : (K == 1) = false := by simpa using k1
              have b2 : (K == 2) = false := by simpa using k2
              clear k0 k1 k2
              have HT := kept (settle_b (HB.out.1.alloc (.cells #[.int .i64 K, .int .i64 N] 39)))
              have HRT := kept (fun W (h : Both w r rr gg s.settle s W) => rsettle_b h HB.out.1.ok HB.out.2)
              go_wp2_with (first | (go_at_call 12; (with_reducible refine (HT.out).mono ?_); rintro e w4 ⟨rfl, h4⟩) | (go_at_call 21; (with_reducible refine (HRT.out _ h4.out.1).mono ?_); rintro e w5 ⟨rfl, h5⟩))
              have HB5 := kept h5.out.1
              have HD5 := kept HB.out.2.settle
              clear h4 h5 HT HRT p0 p1
              generalize s.settle = sn at HB5 HD5
              have HO5 := kept HB5.out.ok
              have hl1 : sn.S.length ≤ 1000000 := by have := HO5.out.short.1; omega
              have hl2 : sn.H.length ≤ 1000000 := by have := HO5.out.short.2; omega
              have HRM := kept (room_b HB5.out)
              have HA1 := kept (rall_b HB5.out HO5.out HD5.out 1 sn.S (.inl ⟨rfl, rfl⟩))
              go_wp2_with (first | (go_at_call 15; (with_reducible refine (HRM.out).mono ?_); rintro e w' ⟨rfl, rfl⟩) | (go_at_call 22; (with_reducible refine (HA1.out).mono ?_); rintro e w6 ⟨A6, c6, rfl, h6⟩))
              have HB6 := kept h6.out.1
              have HSP := kept (spare_b HB6.out)
              clear h6 HRM HA1
              go_wp2_with (first | (go_at_call 16; (with_reducible refine (HSP.out).mono ?_); rintro e w7 ⟨A7, c7, rfl, h7⟩))
              have HB7 := kept h7.out.1
              have HW7 := kept h7.out.2.1
              have HA2 := kept (rall_b HB7.out HO5.out HD5.out 1 sn.S (.inl ⟨rfl, rfl⟩))
              clear h7 HSP
              go_wp2_with (first | (go_at_call 22; (with_reducible refine (HA2.out).mono ?_); rintro e w8 ⟨A8, c8, rfl, h8⟩))
              have HS1 := kept (same_true A7 A8 _ c7 c8 sn.S w8 (HW7.out.below h8.out.2.2.1).reads h8.out.2.1.reads hl1)
              have HB8 := kept h8.out.1
              clear h8 HA2 HW7
              go_wp2_with (first | (go_at_call 23; (with_reducible refine (HS1.out).mono ?_); rintro e w9 ⟨rfl, h9⟩))
              have HB9 : Hid (Both w r rr gg sn sn w9) := kept (by obtain ⟨q, rfl⟩ := h9.out; exact HB8.out.drewN q)
              have HHD := kept (held_b HB9.out)
              clear h9 HS1 HB8
              go_wp2_with (first | (go_at_call 17; (with_reducible refine (HHD.out).mono ?_); rintro e w10 ⟨A10, c10, rfl, h10⟩))
              have HB10 := kept h10.out.1
              have HW10 := kept h10.out.2.1
              have HA3 := kept (rall_b HB10.out HO5.out HD5.out 2 sn.H (.inr ⟨rfl, rfl⟩))
              clear h10 HHD
              go_wp2_with (first | (go_at_call 22; (with_reducible refine (HA3.out).mono ?_); rintro e w11 ⟨A11, c11, rfl, h11⟩))
              have HS2 := kept (same_true A10 A11 _ c10 c11 sn.H w11 (HW10.out.below h11.out.2.2.1).reads h11.out.2.1.reads hl2)
              have HB11 := kept h11.out.1
              clear h11 HA3 HW10
              go_wp2_with (first | (go_at_call 23; (with_reducible refine (HS2.out).mono ?_); rintro e w12 ⟨rfl, h12⟩))
              have HB12 : Hid (Both w r rr gg sn sn w12 ∧ Dis sn) := kept ⟨by obtain ⟨q, rfl⟩ := h12.out; exact HB11.out.drewN q, HD5.out⟩
              clear h12 HS2 HB11 HB5 HD5 HO5 HB6 HB7 HB9 HB10
              go_roundw
              case rel => exact ⟨j + 1, sn, by omega, by go_num, HB12⟩
              case measure => simp [intOf]; omega
          · obtain rfl : j = n1 := by omega
            go_wp2
            go_ret
            exact ⟨rfl, HB.out.1.bel⟩
  · obtain ⟨m, hmm⟩ : ∃ m, newErr z (lstOf Z n) = m := ⟨_, rfl⟩
    rw [hmm] at he
    have HN := kept (fun A2 c2 W (hr : RdI W A2 n (lstOf Z n)) => new_bad z A2 n c2 (lstOf Z n) m W hr (by omega) hmm he)
    have HRN := kept (fun W (hb : Below w.heap.size w W) => rnew_any z A n c (lstOf Z n) W (HR.out.below hb) (by omega))
    rw [hmm] at HRN
    have hb : (m != 0) = true := by simpa using he
    clear he hmm
    go_enter Try.func3, Try.ntmps3
    go_wp2_with (first | (go_at_call 8; (with_reducible refine (lives_any _).mono ?_); rintro e w1 ⟨rfl, hb1⟩; have HB1 := kept hb1 ; clear hb1) | (at_builtin; refine wpList_append_i rfl (.tmp 29) (.tmp 30) rfl rfl rfl ((HAP.out _ HB1.out).1) ((HAP.out _ HB1.out).2.1) hn6 ?_; intro A2 c2 w2 h2 t2 g2; rw [h0n, List.nil_append] at h2; rw [h0n]; have HO2 := kept h2; have HG2 : Hid (∀ g, blkOf A2 = some g → w1.heap.size ≤ g) := kept (fun g hg => by rcases g2 g hg with h | h; cases h; exact Nat.le_refl _; exact Nat.le_trans (HAP.out _ HB1.out).2.2.size h); have HB2 : Hid (Below w.heap.size w w2) := kept (HB1.out.trans ((Turned.only_new (HAP.out _ HB1.out).2.2 t2 (HAP.out _ HB1.out).2.2.size (fun i hi => by cases hi; exact Nat.le_refl _)).mono HB1.out.size)); clear h2 t2 g2) | (go_at_call 9; (with_reducible refine (HN.out _ _ _ HO2.out.reads).mono ?_); rintro e w3 ⟨rfl, h3⟩; have HB3 : Hid (Below w.heap.size w w3) := kept (HB2.out.trans (h3.out.mono HB2.out.size))) | (go_at_call 10; (with_reducible refine (HRN.out _ HB3.out).mono ?_); rintro e w9 ⟨P, rfl, h9⟩; have HB9 : Hid (Below w.heap.size w w9) := kept (HB3.out.trans (h9.out.1.mono HB3.out.size)) ; clear h9) | (go_at_call 11; (with_reducible refine (take_nil _).mono ?_); rintro e w' ⟨rfl, rfl⟩) | (go_at_call 12; (with_reducible refine (settle_nil _).mono ?_); rintro e w' ⟨rfl, rfl⟩) | (go_at_call 13; (with_reducible refine (give_nil 2 _).mono ?_); rintro e w' ⟨rfl, rfl⟩) | (go_at_call 14; (with_reducible refine (hold_nil 2 _).mono ?_); rintro e w' ⟨rfl, rfl⟩) | (go_at_call 15; (with_reducible refine (room_nil _).mono ?_); rintro e w' ⟨rfl, rfl⟩) | (go_at_call 16; (with_reducible refine (spare_nil _).mono ?_); rintro e w' ⟨rfl, rfl⟩) | (go_at_call 17; (with_reducible refine (held_nil _).mono ?_); rintro e w' ⟨rfl, rfl⟩) | (go_at_call 18; (with_reducible refine (copy_nil _).mono ?_); rintro e w' ⟨rfl, rfl⟩))
    go_ret
    exact ⟨rfl, HB9.out⟩
end freePlays
end Go.Proofs.Ytahciaccnblfoaa
