/-
  The walk of the law FreeOrders.
-/
import Derived.Test.YtahciaccnblfoaaFo
namespace Go.Proofs.Ytahciaccnblfoaa
open Go.ChangeShapes Go.WideShapes Go.ChangeAt Go.RowKit
set_option linter.unusedVariables false
set_option linter.unusedSimpArgs false
namespace freeOrders
theorem below8 {w2 W w4 w8 : World} {A4 : Option Addr} (h0 : Below w2.heap.size w2 W) (t4 : Turned W w4 (fun j => blkOf (some (⟨w2.heap.size, 0, none⟩ : Addr)) = some j)) (g4 : ∀ g, blkOf A4 = some g → blkOf (some (⟨w2.heap.size, 0, none⟩ : Addr)) = some g ∨ W.heap.size ≤ g)
    (t8 : Turned w4 w8 (fun j => blkOf A4 = some j)) : Below w2.heap.size w2 w8 := by
  have h4 : Below w2.heap.size w2 w4 := Turned.only_new h0 t4 h0.size (fun i hi => by cases hi; exact Nat.le_refl _)
  refine Turned.only_new h4 t8 h4.size (fun i hi => ?_)
  rcases g4 i hi with h | h
  · cases h; exact Nat.le_refl _
  · exact Nat.le_trans h0.size h
set_option maxHeartbeats 2000000 in
theorem walk (w : World) (A : Option Addr) (n c : Nat) (hnc : n ≤ c) (hcm : c ≤ maxLen) (Z : Nat → Int) (hr : RdVals w A n (fun i => .int .i64 (Z i)) ∧ ∀ i, i < n → (Lit.int .i64 (Z i)).wf = true)
    (tn : Int) (wt : (Lit.int .i64 tn).wf = true) :
    Calls Try.prog 7 #[.slice A n c, .int .i64 tn] w fun e w' => e = .returned (.bool true) ∧ Below w.heap.size w w' := by
  have HR := kept (RdI.of_vals hr.1)
  have hm : n ≤ maxLen := Nat.le_trans hnc hcm
  have HCM := kept hcm
  unfold maxLen at hm
  clear hr hcm
  by_cases h0 : n = 0
  · subst h0
    clear HCM
    go_enter Try.func7, Try.ntmps7
    go_wp2_with fail
    with_reducible refine (lives_any _).mono ?_
    rintro e w1 ⟨rfl, hb1⟩
    have HB1 := kept hb1
    clear hb1
    go_wp2_with fail
    with_reducible refine (lives_any _).mono ?_
    rintro e w2 ⟨rfl, hb2⟩
    have HB2 := kept hb2
    clear hb2
    go_wp2
    go_ret
    exact ⟨rfl, HB1.out.trans (HB2.out.mono HB1.out.size)⟩
  by_cases hbig : (1100 : Int) < (n : Int)
  · have hn0 : ((n : Int) == 0) = false := by simp; omega
    clear HCM
    go_enter Try.func7, Try.ntmps7
    go_wp2_with fail
    with_reducible refine (lives_any _).mono ?_
    rintro e w1 ⟨rfl, hb1⟩
    have HB1 := kept hb1
    clear hb1
    go_wp2_with fail
    with_reducible refine (lives_any _).mono ?_
    rintro e w2 ⟨rfl, hb2⟩
    have HB2 := kept hb2
    clear hb2
    go_wp2
    go_ret
    exact ⟨rfl, HB1.out.trans (HB2.out.mono HB1.out.size)⟩
  have hn : n ≤ 1100 := by omega
  obtain ⟨b, o, rfl, _⟩ := HR.out.2 (by omega)
  have hn0 : ((n : Int) == 0) = false := by simp; omega
  have hne : (n : Int) ≠ 0 := by omega
  obtain ⟨k, hk, hkw⟩ : ∃ k : Nat, k < n ∧ wrap64 ((IntKind.u64.wrap tn).tmod (n : Int)) = (k : Int) := by
    have h1 : 0 ≤ IntKind.u64.wrap tn := by simp [IntKind.wrap, IntKind.signed, IntKind.bits]; omega
    have h2 : 0 ≤ (IntKind.u64.wrap tn).tmod (n : Int) := Int.tmod_nonneg _ h1
    have h3 : (IntKind.u64.wrap tn).tmod (n : Int) < (n : Int) := Int.tmod_lt_of_pos _ (by omega)
    refine ⟨((IntKind.u64.wrap tn).tmod (n : Int)).toNat, by omega, ?_⟩
    generalize (IntKind.u64.wrap tn).tmod (n : Int) = x at h2 h3 ⊢
    rw [Int.toNat_of_nonneg h2]
    unfold wrap64
    omega
  have HKW := kept hkw
  have hck : ¬ (c = k) := by omega
  have hk0 : (0 : Int) ≤ (k : Int) := by omega
  have hk1 : (k : Int) ≤ (n : Int) := by omega
  have hk2 : (k : Int) ≤ (c : Int) := by omega
  have hkc : k ≤ c := by omega
  have hkn : k ≤ n := by omega
  have hlen : 0 + (n - k) + k = n := by omega
  -- what the second list is made of, in any world behind
  have HAP := kept (fun (W : World) (hb : Below w.heap.size w W) =>
    show OwI (W.drew.alloc (.cells #[] 3)) (some ⟨W.heap.size, 0, none⟩) 0 0 [] ∧ RdI (W.drew.alloc (.cells #[] 3)) (some ⟨b, o + k, none⟩) (n - k) ((lstOf Z n).drop k) ∧ RdI (W.drew.alloc (.cells #[] 3)) (some ⟨b, o, none⟩) k ((lstOf Z n).take k) ∧ Below W.heap.size W (W.drew.alloc (.cells #[] 3)) from by
      have h1 : Below W.heap.size W (W.drew.alloc (.cells #[] 3)) := (Below.refl _ _).drew.alloc (Nat.le_refl _) _
      have h2 := HR.out.below (hb.trans (h1.mono hb.size))
      exact ⟨OwI.none_new W.drew, h2.drop hkn, h2.take hkn, h1⟩)
  have HBL : Hid (b < w.heap.size) := kept (HR.out.lt (by omega) rfl)
  clear hck hk0 hk1 hk2 hkc hkn
  by_cases he : newErr 1024 (lstOf Z n) = 0
  · have HN := kept (fun W (hb : Below w.heap.size w W) => new_mine 1024 (some ⟨b, o, none⟩) n c (lstOf Z n) w W hb (HR.out.below hb) (by omega) he)
    have hz := newErr_zero he
    have HL : Hid ((addAll [] (lstOf Z n)).length = n) := kept (by rw [length_addAll hz.2.2 (fun x _ h => by simp at h), lstOf_length]; simp)
    have HZ := kept hz
    have HE := kept he
    clear he hz
    go_enter Try.func7, Try.ntmps7
    go_wp2_with (first | (go_at_call 8; (with_reducible refine (lives_any _).mono ?_); rintro e w1 ⟨rfl, hb1⟩; have HB1 := kept hb1 ; clear hb1) | (go_at_call 9; (with_reducible refine (HN.out _ HB1.out).mono ?_); rintro e w2 ⟨r, rfl, h2⟩))
    have HM2 := kept h2.out.1
    have HAQ := kept (HAP.out w2 HM2.out.1)
    have hnb : ∀ g, blkOf (some (⟨b, o, none⟩ : Addr)) = some g → ¬ blkOf (some (⟨w2.heap.size, 0, none⟩ : Addr)) = some g := fun g h1 h2 => by
      have h3 : b = g := by simpa [blkOf] using h1
      have h4 : w2.heap.size = g := by simpa [blkOf] using h2
      have := HBL.out
      have := HM2.out.1.size
      omega
    have hP : (([] ++ (lstOf Z n).drop k) ++ (lstOf Z n).take k).Perm (lstOf Z n) := by rw [List.nil_append]; exact turned_perm _ k
    have HN2 := kept (fun W A8 c8 (hb : Below w2.heap.size w2 W) (hr : RdI W A8 n (([] ++ (lstOf Z n).drop k) ++ (lstOf Z n).take k)) => new_mine 1024 A8 n c8 _ w W (HM2.out.1.trans (hb.mono HM2.out.1.size)) hr (by omega) (by rw [newErr_perm hP]; exact HE.out))
    rw [addAll_perm hP] at HN2
    clear hP
    clear h2 HAP HB1 HN
    have hck : ¬ (c = k) := by omega
    have hk0 : (0 : Int) ≤ (k : Int) := by omega
    have hk1 : (k : Int) ≤ (n : Int) := by omega
    have hk2 : (k : Int) ≤ (c : Int) := by omega
    have hkc : k ≤ c := by omega
    have hkn : k ≤ n := by omega
    refine wp_region_held_drew (S := (fun _ => True)) (by kernel_rfl) ?_ (fun hHeld => ?_)
    · ((try dsimp only); (all_goals trivial))
    refine hand_take 1 (some 41) ?_ (by kernel_rfl) (by kernel_rfl) (by kernel_rfl) (by kernel_rfl) (by kernel_rfl) (fun _ _ _ h => h) ?_ (by assumption) ?_
    rotate_left
    · (intro o ho w hSw; (simp only [List.getElem?_toArray, List.getElem?_cons_succ, List.getElem?_cons_zero, Option.some.injEq] at ho); subst ho; (try dsimp only at hSw); go_simp; (first | done | with_reducible rfl))
    (try simp only [Act.put, List.setIfInBounds_toArray, List.set_cons_zero, List.set_cons_succ])
    refine hand_take 2 (some 42) ?_ (by kernel_rfl) (by kernel_rfl) (by kernel_rfl) (by kernel_rfl) (by kernel_rfl) (fun _ _ _ h => h) ?_ (by assumption) ?_
    rotate_left
    · (intro o ho w hSw; (simp only [List.getElem?_toArray, List.getElem?_cons_succ, List.getElem?_cons_zero, Option.some.injEq] at ho); subst ho; (try dsimp only at hSw); go_simp; (first | done | with_reducible rfl))
    (try simp only [Act.put, List.setIfInBounds_toArray, List.set_cons_zero, List.set_cons_succ])
    refine hand_take 3 (some 43) ?_ (by kernel_rfl) (by kernel_rfl) (by kernel_rfl) (by kernel_rfl) (by kernel_rfl) (fun _ _ _ h => h) ?_ (by assumption) ?_
    rotate_left
    · (intro o ho w hSw; (simp only [List.getElem?_toArray, List.getElem?_cons_succ, List.getElem?_cons_zero, Option.some.injEq] at ho); subst ho; (try dsimp only at hSw); go_simp; (first | done | with_reducible rfl))
    (try simp only [Act.put, List.setIfInBounds_toArray, List.set_cons_zero, List.set_cons_succ])
    refine hand_take 5 (some 45) ?_ (by kernel_rfl) (by kernel_rfl) (by kernel_rfl) (by kernel_rfl) (by kernel_rfl) (fun _ _ _ h => h) ?_ (by assumption) ?_
    rotate_left
    · (intro o ho w hSw; (simp only [List.getElem?_toArray, List.getElem?_cons_succ, List.getElem?_cons_zero, Option.some.injEq] at ho); subst ho; (try dsimp only at hSw); go_simp; (first | done | with_reducible rfl))
    (try simp only [Act.put, List.setIfInBounds_toArray, List.set_cons_zero, List.set_cons_succ])
    refine hand_take 6 (some 46) ?_ (by kernel_rfl) (by kernel_rfl) (by kernel_rfl) (by kernel_rfl) (by kernel_rfl) (fun _ _ _ h => h) ?_ (by assumption) ?_
    rotate_left
    · (intro o ho w hSw; (simp only [List.getElem?_toArray, List.getElem?_cons_succ, List.getElem?_cons_zero, Option.some.injEq] at ho); subst ho; (try dsimp only at hSw); go_simp; (first | done | with_reducible rfl))
    (try simp only [Act.put, List.setIfInBounds_toArray, List.set_cons_zero, List.set_cons_succ])
    refine hand_take 7 (some 47) ?_ (by kernel_rfl) (by kernel_rfl) (by kernel_rfl) (by kernel_rfl) (by kernel_rfl) (fun _ _ _ h => h) ?_ (by assumption) ?_
    rotate_left
    · (intro o ho w hSw; (simp only [List.getElem?_toArray, List.getElem?_cons_succ, List.getElem?_cons_zero, Option.some.injEq] at ho); subst ho; (try dsimp only at hSw); go_simp; (first | done | with_reducible rfl))
    (try simp only [Act.put, List.setIfInBounds_toArray, List.set_cons_zero, List.set_cons_succ])
    refine hand_ready 0 (by kernel_rfl) (by kernel_rfl) (fun o ho K hK => ?_)
    (simp only [List.getElem?_toArray, List.getElem?_cons_succ, List.getElem?_cons_zero, Option.some.injEq] at ho)
    subst ho
    go_simp
    refine hK.out _ _ ?_ (fun hHeld => ?_)
    · ((try dsimp only); (all_goals trivial))
    clear hK K
    (try simp only [Act.put, List.setIfInBounds_toArray, List.set_cons_zero, List.set_cons_succ])
    refine hand_ready 4 (by kernel_rfl) (by kernel_rfl) (fun o ho K hK => ?_)
    (simp only [List.getElem?_toArray, List.getElem?_cons_succ, List.getElem?_cons_zero, Option.some.injEq] at ho)
    subst ho
    (refine wp_append_i (.tmp 40) (.tmp 43) rfl rfl rfl (HAQ.out.1) (HAQ.out.2.1) (by omega) ?_; intro A4 c4 w4 h4 t4 g4; have HO4 := kept h4; have HT4 := kept t4; have HG4 := kept g4; have HY4 := kept (HAQ.out.2.2.1.turned t4 hnb); clear h4 t4 g4)
    refine hK.out _ _ ?_ (fun hHeld => ?_)
    · ((try dsimp only); (all_goals trivial))
    clear hK K
    (try simp only [Act.put, List.setIfInBounds_toArray, List.set_cons_zero, List.set_cons_succ])
    refine hand_ready 8 (by kernel_rfl) (by kernel_rfl) (fun o ho K hK => ?_)
    (simp only [List.getElem?_toArray, List.getElem?_cons_succ, List.getElem?_cons_zero, Option.some.injEq] at ho)
    subst ho
    (refine wp_append_i (.tmp 44) (.tmp 47) rfl rfl rfl HO4.out HY4.out (by omega) ?_; intro A8 c8 w8 h8 t8 g8; rw [hlen] at h8 ⊢; have HO8 := kept h8; have HT8 := kept t8; have HG8 := kept g8; have HB8 : Hid (Below w2.heap.size w2 w8) := kept (below8 HAQ.out.2.2.2 HT4.out HG4.out HT8.out); clear h8 t8 g8)
    refine hK.out _ _ ?_ (fun hHeld => ?_)
    · ((try dsimp only); (all_goals trivial))
    clear hK K
    (try simp only [Act.put, List.setIfInBounds_toArray, List.set_cons_zero, List.set_cons_succ])
    refine hand_ready 9 (by kernel_rfl) (by kernel_rfl) (fun o ho K hK => ?_)
    (simp only [List.getElem?_toArray, List.getElem?_cons_succ, List.getElem?_cons_zero, Option.some.injEq] at ho)
    subst ho
    go_simp
    (go_at_call 9; (with_reducible refine (HN2.out w8 A8 c8 HB8.out HO8.out.reads).mono ?_); rintro e w9 ⟨r9, rfl, h9⟩)
    (try go_wp2_with fail)
    refine hK.out _ _ ?_ (fun hHeld => ?_)
    · ((try dsimp only); (all_goals trivial))
    clear hK K
    (try simp only [Act.put, List.setIfInBounds_toArray, List.set_cons_zero, List.set_cons_succ])
    refine hand_take 10 (some 39) ?_ (by kernel_rfl) (by kernel_rfl) (by kernel_rfl) (by kernel_rfl) (by kernel_rfl) (fun _ _ _ h => h) ?_ (by assumption) ?_
    rotate_left
    · (intro o ho w hSw; (simp only [List.getElem?_toArray, List.getElem?_cons_succ, List.getElem?_cons_zero, Option.some.injEq] at ho); subst ho; (try dsimp only at hSw); go_simp; (first | done | with_reducible rfl))
    (try simp only [Act.put, List.setIfInBounds_toArray, List.set_cons_zero, List.set_cons_succ])
    refine hand_take 11 (some 50) ?_ (by kernel_rfl) (by kernel_rfl) (by kernel_rfl) (by kernel_rfl) (by kernel_rfl) (fun _ _ _ h => h) ?_ (by assumption) ?_
    rotate_left
    · (intro o ho w hSw; (simp only [List.getElem?_toArray, List.getElem?_cons_succ, List.getElem?_cons_zero, Option.some.injEq] at ho); subst ho; (try dsimp only at hSw); go_simp; (first | done | with_reducible rfl))
    (try simp only [Act.put, List.setIfInBounds_toArray, List.set_cons_zero, List.set_cons_succ])
    refine hand_take 12 (some 51) ?_ (by kernel_rfl) (by kernel_rfl) (by kernel_rfl) (by kernel_rfl) (by kernel_rfl) (fun _ _ _ h => h) ?_ (by assumption) ?_
    rotate_left
    · (intro o ho w hSw; (simp only [List.getElem?_toArray, List.getElem?_cons_succ, List.getElem?_cons_zero, Option.some.injEq] at ho); subst ho; (try dsimp only at hSw); go_simp; (first | done | with_reducible rfl))
    (try simp only [Act.put, List.setIfInBounds_toArray, List.set_cons_zero, List.set_cons_succ])
    refine hand_take 13 (some 8) ?_ (by kernel_rfl) (by kernel_rfl) (by kernel_rfl) (by kernel_rfl) (by kernel_rfl) (fun _ _ _ h => h) ?_ (by assumption) ?_
    rotate_left
    · (intro o ho w hSw; (simp only [List.getElem?_toArray, List.getElem?_cons_succ, List.getElem?_cons_zero, Option.some.injEq] at ho); subst ho; (try dsimp only at hSw); go_simp; (first | done | with_reducible rfl))
    (try simp only [Act.put, List.setIfInBounds_toArray, List.set_cons_zero, List.set_cons_succ])
    refine hand_take 14 (some 9) ?_ (by kernel_rfl) (by kernel_rfl) (by kernel_rfl) (by kernel_rfl) (by kernel_rfl) (fun _ _ _ h => h) ?_ (by assumption) ?_
    rotate_left
    · (intro o ho w hSw; (simp only [List.getElem?_toArray, List.getElem?_cons_succ, List.getElem?_cons_zero, Option.some.injEq] at ho); subst ho; (try dsimp only at hSw); go_simp; (first | done | with_reducible rfl))
    (try simp only [Act.put, List.setIfInBounds_toArray, List.set_cons_zero, List.set_cons_succ])
    refine wpAnyH_done (by kernel_rfl) ?_ _
    have HB29 : Hid (Below w2.heap.size w2 w9) := kept (HB8.out.trans (h9.out.2.1.mono HB8.out.size))
    have HX9 := kept (HM2.out.below HB29.out)
    have HY9 := kept h9.out.1
    have HN3 := kept (new_good 1024 none 0 0 [] w9 (RdI.nil_ w9 none) (by omega) (by decide))
    clear HAQ HO4 HT4 HG4 HY4 HO8 HT8 HG8 HB8 HB29 HM2 HN2 h9 hnb
    go_wp2_with (first | (go_at_call 9; (with_reducible refine (HN3.out).mono ?_); rintro e w10 ⟨g, rfl, h10⟩))
    obtain ⟨hbx, fx, hfx, hlx, hox⟩ := HX9.out
    obtain ⟨hby, fy, hfy, hly, hoy⟩ := HY9.out
    subst hfx
    subst hfy
    have HXL := kept (hlx.below h10.out.2.1)
    have HYL := kept (hly.below h10.out.2.1)
    have HXA : Hid (∀ j, fx.own j → ¬ g.own j) := kept (fun j hj hg => by
      have := hlx.lt hj
      have := h10.out.2.2 j hg
      omega)
    have HYA : Hid (∀ j, fy.own j → ¬ g.own j) := kept (fun j hj hg => by
      have := hly.lt hj
      have := h10.out.2.2 j hg
      omega)
    have HBW : Hid (Below w.heap.size w w10) := kept (hbx.trans (h10.out.2.1.mono hbx.size))
    have HGO : Hid (∀ j, g.own j → w.heap.size ≤ j) := kept (fun j hj => Nat.le_trans hbx.size (h10.out.2.2 j hj))
    have H0 : Hid (LLeft w10 w10 g ⟨1024, addAll [] ((lstOf Z n).take 0), []⟩) := kept h10.out.1.left_same
    clear hbx hlx hox hby hly hoy h10 HX9 HY9 HN3
    obtain ⟨S, hS⟩ : ∃ S, addAll [] (lstOf Z n) = S := ⟨_, rfl⟩
    rw [hS] at HL HXL HYL
    have HS := kept hS
    clear hS
    go_loopw [73] (fun i wr => ∃ j : Nat, j ≤ n ∧ i = .int .i64 (j : Int) ∧ Hid (LLeft w10 wr g ⟨1024, addAll [] ((lstOf Z n).take j), []⟩)) (fun i _ => n - (intOf i).toNat)
    case atStart => exact ⟨0, Nat.zero_le _, rfl, H0⟩
    case round =>
      obtain ⟨j, hj, rfl, hrel⟩ := hrel
      obtain ⟨g', hg1, hg2, hg3, hg4⟩ := hrel.out
      have HG1 := kept hg1
      have HG2 := kept hg2
      have HG3 := kept hg3
      have HG4 := kept hg4
      have HBR : Hid (Below w.heap.size w wr) := kept (Turned.only_new HBW.out hg3 HBW.out.size HGO.out)
      clear hg2 hg3 hg4 hrel H0
      by_cases hlt : j < n
      · obtain ⟨b', o', e', hc⟩ := (HR.out.below HBR.out).at_ hlt
        cases e'
        have hjZ : j < (lstOf Z n).length := by rw [HR.out.1]; exact hlt
        have HT := kept (addAll_take [] (lstOf Z n) j hjZ)
        have HMAY : Hid ((⟨1024, addAll [] ((lstOf Z n).take j), []⟩ : FSt).may (lstOf Z n)[j] = 0) := kept (by
          have h1 := HZ.out.2.1 _ (List.getElem_mem hjZ)
          have h2 := (nodup_snoc.1 (take_snoc hjZ ▸ (List.Sublist.nodup (List.take_sublist (j + 1) (lstOf Z n)) HZ.out.2.2))).2
          unfold FSt.may
          rw [if_pos h1, if_neg]
          rintro (h3 | h3)
          · exact h2 (by simpa [mem_addAll] using h3)
          · simp at h3)
        have HGV := kept (give_any g' _ ((lstOf Z n)[j]) wr HG2.out)
        have HGI : Hid ((⟨1024, addAll [] ((lstOf Z n).take j), []⟩ : FSt).give (lstOf Z n)[j] = ⟨1024, addAll [] ((lstOf Z n).take (j + 1)), []⟩) := kept (by
          unfold FSt.give
          rw [if_pos HMAY.out, HT.out])
        rw [hg1, HMAY.out, HGI.out] at HGV
        clear HMAY HGI HT
        generalize (lstOf Z n)[j] = x at hc HGV
        clear hjZ hg1
        go_wp2_with (first | (go_at_call 13; (with_reducible refine (HGV.out).mono ?_); rintro e w11 ⟨rfl, h11⟩))
        have HE : Hid (LLeft w10 w11 g ⟨1024, addAll [] ((lstOf Z n).take (j + 1)), []⟩) := kept (LLeft.step HG3.out HG4.out HG1.out h11.out)
        clear h11 hc
        go_roundw
        case rel => exact ⟨j + 1, by omega, by go_num, HE⟩
        case measure => simp [intOf]; omega
      · obtain rfl : j = n := by omega
        have ht : (lstOf Z j).take j = lstOf Z j := List.take_of_length_le (by rw [HR.out.1]; exact Nat.le_refl _)
        rw [ht, HS.out] at HG2
        have HXR := kept (HXL.out.turned HG3.out HXA.out)
        have HYR := kept (HYL.out.turned HG3.out HYA.out)
        clear ht HXL HYL HXA HYA HG3 HG4 HGO
        have hSn : S.length ≤ 1000000 := by rw [HL.out]; omega
        have HS1 := kept (spare_any fx _ wr HXR.out)
        go_wp2_with (first | (go_at_call 16; (with_reducible refine (HS1.out).mono ?_); rintro e w12 ⟨A12, c12, rfl, h12⟩))
        have HB12 := kept h12.out.2.1
        have HO12 := kept h12.out.1
        have HS2 := kept (spare_any fy _ w12 (HYR.out.below HB12.out))
        clear h12
        go_wp2_with (first | (go_at_call 16; (with_reducible refine (HS2.out).mono ?_); rintro e w13 ⟨A13, c13, rfl, h13⟩))
        have HB13 : Hid (Below wr.heap.size wr w13) := kept (HB12.out.trans (h13.out.2.1.mono HB12.out.size))
        have HSM := kept (same_true A12 A13 _ c12 c13 S w13 (HO12.out.below h13.out.2.1).reads h13.out.1.reads hSn)
        clear h13 HB12 HO12
        go_wp2_with (first | (go_at_call 23; (with_reducible refine (HSM.out).mono ?_); rintro e w14 ⟨rfl, h14⟩))
        have HB14 : Hid (Below wr.heap.size wr w14) := kept (by
          obtain ⟨q, rfl⟩ := h14.out
          have h1 := HB13.out
          exact ⟨h1.os, h1.tape, h1.output, h1.size, h1.block⟩)
        clear h14 HB13 HSM
        have HS3 := kept (spare_any fx _ w14 (HXR.out.below HB14.out))
        go_wp2_with (first | (go_at_call 16; (with_reducible refine (HS3.out).mono ?_); rintro e w15 ⟨A15, c15, rfl, h15⟩))
        have HB15 : Hid (Below wr.heap.size wr w15) := kept (HB14.out.trans (h15.out.2.1.mono HB14.out.size))
        have HO15 := kept h15.out.1
        have HS4 := kept (spare_any g' _ w15 (HG2.out.below HB15.out))
        rw [hg1] at HS4
        clear h15
        go_wp2_with (first | (go_at_call 16; (with_reducible refine (HS4.out).mono ?_); rintro e w16 ⟨A16, c16, rfl, h16⟩))
        have HB16 : Hid (Below wr.heap.size wr w16) := kept (HB15.out.trans (h16.out.2.1.mono HB15.out.size))
        have HSN := kept (same_true A15 A16 _ c15 c16 S w16 (HO15.out.below h16.out.2.1).reads h16.out.1.reads hSn)
        clear h16 HO15
        go_wp2_with (first | (go_at_call 23; (with_reducible refine (HSN.out).mono ?_); rintro e w17 ⟨rfl, h17⟩))
        have HB17 : Hid (Below wr.heap.size wr w17) := kept (by
          obtain ⟨q, rfl⟩ := h17.out
          have h1 := HB16.out
          exact ⟨h1.os, h1.tape, h1.output, h1.size, h1.block⟩)
        clear h17 HSN
        have HRM := kept (room_any fx _ w17 (HXR.out.below HB17.out))
        simp only at HRM
        rw [HL.out] at HRM
        go_wp2_with (first | (go_at_call 15; (with_reducible refine (HRM.out).mono ?_); rintro e w18 ⟨rfl, rfl⟩))
        go_ret
        exact ⟨rfl, HBR.out.trans (HB17.out.mono HBR.out.size)⟩
  · obtain ⟨m, hmm⟩ : ∃ m, newErr 1024 (lstOf Z n) = m := ⟨_, rfl⟩
    rw [hmm] at he
    have HN := kept (fun W (hb : Below w.heap.size w W) => new_bad 1024 (some ⟨b, o, none⟩) n c (lstOf Z n) m W (HR.out.below hb) (by omega) hmm he)
    have hb : (m != 0) = true := by simpa using he
    have HE := kept he
    have HMM := kept hmm
    clear he hmm
    go_enter Try.func7, Try.ntmps7
    go_wp2_with (first | (go_at_call 8; (with_reducible refine (lives_any _).mono ?_); rintro e w1 ⟨rfl, hb1⟩; have HB1 := kept hb1 ; clear hb1) | (go_at_call 9; (with_reducible refine (HN.out _ HB1.out).mono ?_); rintro e w2 ⟨rfl, h2⟩))
    have HB2 : Hid (Below w.heap.size w w2) := kept (HB1.out.trans (h2.out.mono HB1.out.size))
    have HAQ := kept (HAP.out w2 HB2.out)
    have hnb : ∀ g, blkOf (some (⟨b, o, none⟩ : Addr)) = some g → ¬ blkOf (some (⟨w2.heap.size, 0, none⟩ : Addr)) = some g := fun g h1 h2 => by
      have h3 : b = g := by simpa [blkOf] using h1
      have h4 : w2.heap.size = g := by simpa [blkOf] using h2
      have := HBL.out
      have := HB2.out.size
      omega
    have hP : (([] ++ (lstOf Z n).drop k) ++ (lstOf Z n).take k).Perm (lstOf Z n) := by rw [List.nil_append]; exact turned_perm _ k
    have HN2 := kept (fun W A8 c8 (hr : RdI W A8 n (([] ++ (lstOf Z n).drop k) ++ (lstOf Z n).take k)) => new_bad 1024 A8 n c8 _ m W hr (by omega) (by rw [newErr_perm hP]; exact HMM.out) HE.out)
    clear hP
    clear h2 HAP HB1 HN
    have hck : ¬ (c = k) := by omega
    have hk0 : (0 : Int) ≤ (k : Int) := by omega
    have hk1 : (k : Int) ≤ (n : Int) := by omega
    have hk2 : (k : Int) ≤ (c : Int) := by omega
    have hkc : k ≤ c := by omega
    have hkn : k ≤ n := by omega
    refine wp_region_held_drew (S := (fun _ => True)) (by kernel_rfl) ?_ (fun hHeld => ?_)
    · ((try dsimp only); (all_goals trivial))
    refine hand_take 1 (some 41) ?_ (by kernel_rfl) (by kernel_rfl) (by kernel_rfl) (by kernel_rfl) (by kernel_rfl) (fun _ _ _ h => h) ?_ (by assumption) ?_
    rotate_left
    · (intro o ho w hSw; (simp only [List.getElem?_toArray, List.getElem?_cons_succ, List.getElem?_cons_zero, Option.some.injEq] at ho); subst ho; (try dsimp only at hSw); go_simp; (first | done | with_reducible rfl))
    (try simp only [Act.put, List.setIfInBounds_toArray, List.set_cons_zero, List.set_cons_succ])
    refine hand_take 2 (some 42) ?_ (by kernel_rfl) (by kernel_rfl) (by kernel_rfl) (by kernel_rfl) (by kernel_rfl) (fun _ _ _ h => h) ?_ (by assumption) ?_
    rotate_left
    · (intro o ho w hSw; (simp only [List.getElem?_toArray, List.getElem?_cons_succ, List.getElem?_cons_zero, Option.some.injEq] at ho); subst ho; (try dsimp only at hSw); go_simp; (first | done | with_reducible rfl))
    (try simp only [Act.put, List.setIfInBounds_toArray, List.set_cons_zero, List.set_cons_succ])
    refine hand_take 3 (some 43) ?_ (by kernel_rfl) (by kernel_rfl) (by kernel_rfl) (by kernel_rfl) (by kernel_rfl) (fun _ _ _ h => h) ?_ (by assumption) ?_
    rotate_left
    · (intro o ho w hSw; (simp only [List.getElem?_toArray, List.getElem?_cons_succ, List.getElem?_cons_zero, Option.some.injEq] at ho); subst ho; (try dsimp only at hSw); go_simp; (first | done | with_reducible rfl))
    (try simp only [Act.put, List.setIfInBounds_toArray, List.set_cons_zero, List.set_cons_succ])
    refine hand_take 5 (some 45) ?_ (by kernel_rfl) (by kernel_rfl) (by kernel_rfl) (by kernel_rfl) (by kernel_rfl) (fun _ _ _ h => h) ?_ (by assumption) ?_
    rotate_left
    · (intro o ho w hSw; (simp only [List.getElem?_toArray, List.getElem?_cons_succ, List.getElem?_cons_zero, Option.some.injEq] at ho); subst ho; (try dsimp only at hSw); go_simp; (first | done | with_reducible rfl))
    (try simp only [Act.put, List.setIfInBounds_toArray, List.set_cons_zero, List.set_cons_succ])
    refine hand_take 6 (some 46) ?_ (by kernel_rfl) (by kernel_rfl) (by kernel_rfl) (by kernel_rfl) (by kernel_rfl) (fun _ _ _ h => h) ?_ (by assumption) ?_
    rotate_left
    · (intro o ho w hSw; (simp only [List.getElem?_toArray, List.getElem?_cons_succ, List.getElem?_cons_zero, Option.some.injEq] at ho); subst ho; (try dsimp only at hSw); go_simp; (first | done | with_reducible rfl))
    (try simp only [Act.put, List.setIfInBounds_toArray, List.set_cons_zero, List.set_cons_succ])
    refine hand_take 7 (some 47) ?_ (by kernel_rfl) (by kernel_rfl) (by kernel_rfl) (by kernel_rfl) (by kernel_rfl) (fun _ _ _ h => h) ?_ (by assumption) ?_
    rotate_left
    · (intro o ho w hSw; (simp only [List.getElem?_toArray, List.getElem?_cons_succ, List.getElem?_cons_zero, Option.some.injEq] at ho); subst ho; (try dsimp only at hSw); go_simp; (first | done | with_reducible rfl))
    (try simp only [Act.put, List.setIfInBounds_toArray, List.set_cons_zero, List.set_cons_succ])
    refine hand_ready 0 (by kernel_rfl) (by kernel_rfl) (fun o ho K hK => ?_)
    (simp only [List.getElem?_toArray, List.getElem?_cons_succ, List.getElem?_cons_zero, Option.some.injEq] at ho)
    subst ho
    go_simp
    refine hK.out _ _ ?_ (fun hHeld => ?_)
    · ((try dsimp only); (all_goals trivial))
    clear hK K
    (try simp only [Act.put, List.setIfInBounds_toArray, List.set_cons_zero, List.set_cons_succ])
    refine hand_ready 4 (by kernel_rfl) (by kernel_rfl) (fun o ho K hK => ?_)
    (simp only [List.getElem?_toArray, List.getElem?_cons_succ, List.getElem?_cons_zero, Option.some.injEq] at ho)
    subst ho
    (refine wp_append_i (.tmp 40) (.tmp 43) rfl rfl rfl (HAQ.out.1) (HAQ.out.2.1) (by omega) ?_; intro A4 c4 w4 h4 t4 g4; have HO4 := kept h4; have HT4 := kept t4; have HG4 := kept g4; have HY4 := kept (HAQ.out.2.2.1.turned t4 hnb); clear h4 t4 g4)
    refine hK.out _ _ ?_ (fun hHeld => ?_)
    · ((try dsimp only); (all_goals trivial))
    clear hK K
    (try simp only [Act.put, List.setIfInBounds_toArray, List.set_cons_zero, List.set_cons_succ])
    refine hand_ready 8 (by kernel_rfl) (by kernel_rfl) (fun o ho K hK => ?_)
    (simp only [List.getElem?_toArray, List.getElem?_cons_succ, List.getElem?_cons_zero, Option.some.injEq] at ho)
    subst ho
    (refine wp_append_i (.tmp 44) (.tmp 47) rfl rfl rfl HO4.out HY4.out (by omega) ?_; intro A8 c8 w8 h8 t8 g8; rw [hlen] at h8 ⊢; have HO8 := kept h8; have HT8 := kept t8; have HG8 := kept g8; have HB8 : Hid (Below w2.heap.size w2 w8) := kept (below8 HAQ.out.2.2.2 HT4.out HG4.out HT8.out); clear h8 t8 g8)
    refine hK.out _ _ ?_ (fun hHeld => ?_)
    · ((try dsimp only); (all_goals trivial))
    clear hK K
    (try simp only [Act.put, List.setIfInBounds_toArray, List.set_cons_zero, List.set_cons_succ])
    refine hand_ready 9 (by kernel_rfl) (by kernel_rfl) (fun o ho K hK => ?_)
    (simp only [List.getElem?_toArray, List.getElem?_cons_succ, List.getElem?_cons_zero, Option.some.injEq] at ho)
    subst ho
    go_simp
    (go_at_call 9; (with_reducible refine (HN2.out w8 A8 c8 HO8.out.reads).mono ?_); rintro e w9 ⟨rfl, h9⟩)
    (try go_wp2_with fail)
    refine hK.out _ _ ?_ (fun hHeld => ?_)
    · ((try dsimp only); (all_goals trivial))
    clear hK K
    (try simp only [Act.put, List.setIfInBounds_toArray, List.set_cons_zero, List.set_cons_succ])
    refine hand_take 10 (some 39) ?_ (by kernel_rfl) (by kernel_rfl) (by kernel_rfl) (by kernel_rfl) (by kernel_rfl) (fun _ _ _ h => h) ?_ (by assumption) ?_
    rotate_left
    · (intro o ho w hSw; (simp only [List.getElem?_toArray, List.getElem?_cons_succ, List.getElem?_cons_zero, Option.some.injEq] at ho); subst ho; (try dsimp only at hSw); go_simp; (first | done | with_reducible rfl))
    (try simp only [Act.put, List.setIfInBounds_toArray, List.set_cons_zero, List.set_cons_succ])
    refine hand_take 11 (some 50) ?_ (by kernel_rfl) (by kernel_rfl) (by kernel_rfl) (by kernel_rfl) (by kernel_rfl) (fun _ _ _ h => h) ?_ (by assumption) ?_
    rotate_left
    · (intro o ho w hSw; (simp only [List.getElem?_toArray, List.getElem?_cons_succ, List.getElem?_cons_zero, Option.some.injEq] at ho); subst ho; (try dsimp only at hSw); go_simp; (first | done | with_reducible rfl))
    (try simp only [Act.put, List.setIfInBounds_toArray, List.set_cons_zero, List.set_cons_succ])
    refine hand_take 12 (some 51) ?_ (by kernel_rfl) (by kernel_rfl) (by kernel_rfl) (by kernel_rfl) (by kernel_rfl) (fun _ _ _ h => h) ?_ (by assumption) ?_
    rotate_left
    · (intro o ho w hSw; (simp only [List.getElem?_toArray, List.getElem?_cons_succ, List.getElem?_cons_zero, Option.some.injEq] at ho); subst ho; (try dsimp only at hSw); go_simp; (first | done | with_reducible rfl))
    (try simp only [Act.put, List.setIfInBounds_toArray, List.set_cons_zero, List.set_cons_succ])
    refine hand_take 13 (some 8) ?_ (by kernel_rfl) (by kernel_rfl) (by kernel_rfl) (by kernel_rfl) (by kernel_rfl) (fun _ _ _ h => h) ?_ (by assumption) ?_
    rotate_left
    · (intro o ho w hSw; (simp only [List.getElem?_toArray, List.getElem?_cons_succ, List.getElem?_cons_zero, Option.some.injEq] at ho); subst ho; (try dsimp only at hSw); go_simp; (first | done | with_reducible rfl))
    (try simp only [Act.put, List.setIfInBounds_toArray, List.set_cons_zero, List.set_cons_succ])
    refine hand_take 14 (some 9) ?_ (by kernel_rfl) (by kernel_rfl) (by kernel_rfl) (by kernel_rfl) (by kernel_rfl) (fun _ _ _ h => h) ?_ (by assumption) ?_
    rotate_left
    · (intro o ho w hSw; (simp only [List.getElem?_toArray, List.getElem?_cons_succ, List.getElem?_cons_zero, Option.some.injEq] at ho); subst ho; (try dsimp only at hSw); go_simp; (first | done | with_reducible rfl))
    (try simp only [Act.put, List.setIfInBounds_toArray, List.set_cons_zero, List.set_cons_succ])
    refine wpAnyH_done (by kernel_rfl) ?_ _
    have HB9 : Hid (Below w.heap.size w w9) := kept (by
      have h1 := HB2.out.trans (HB8.out.mono HB2.out.size)
      exact h1.trans (h9.out.mono h1.size))
    have HN3 := kept (new_good 1024 none 0 0 [] w9 (RdI.nil_ w9 none) (by omega) (by decide))
    clear HAQ HO4 HT4 HG4 HY4 HO8 HT8 HG8 HB8 HN2 h9 hnb
    go_wp2_with (first | (go_at_call 9; (with_reducible refine (HN3.out).mono ?_); rintro e w10 ⟨g, rfl, h10⟩))
    go_ret
    exact ⟨rfl, HB9.out.trans (h10.out.2.1.mono HB9.out.size)⟩
end freeOrders
end Go.Proofs.Ytahciaccnblfoaa
