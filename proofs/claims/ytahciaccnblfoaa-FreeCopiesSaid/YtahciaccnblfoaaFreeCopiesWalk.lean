/-
  The walk of the law FreeCopies.
-/
import Derived.Test.YtahciaccnblfoaaFd
namespace Go.Proofs.Ytahciaccnblfoaa
open Go.ChangeShapes Go.WideShapes Go.ChangeAt Go.RowKit
set_option linter.unusedVariables false
namespace freeCopies
set_option maxHeartbeats 2000000 in
theorem walk (w : World) (A : Option Addr) (n c : Nat) (hnc : n ≤ c) (hcm : c ≤ maxLen) (Z : Nat → Int) (hr : RdVals w A n (fun i => .int .i64 (Z i)) ∧ ∀ i, i < n → (Lit.int .i64 (Z i)).wf = true)
    (A1 : Option Addr) (n1 c1 : Nat) (hnc1 : n1 ≤ c1) (hcm1 : c1 ≤ maxLen) (K1 N1 : Nat → Int) (hr1 : RdPairs w A1 n1 K1 N1)
    (A2 : Option Addr) (n2 c2 : Nat) (hnc2 : n2 ≤ c2) (hcm2 : c2 ≤ maxLen) (K2 N2 : Nat → Int) (hr2 : RdPairs w A2 n2 K2 N2) :
    Calls Try.prog 5 #[.slice A n c, .slice A1 n1 c1, .slice A2 n2 c2] w fun e w' => e = .returned (.bool true) ∧ Below w.heap.size w w' := by
  have HR := kept (RdI.of_vals hr.1)
  have HR1 := kept hr1
  have HR2 := kept hr2
  have hm : n ≤ maxLen := Nat.le_trans hnc hcm
  have hm1 : n1 ≤ maxLen := Nat.le_trans hnc1 hcm1
  have hm2 : n2 ≤ maxLen := Nat.le_trans hnc2 hcm2
  unfold maxLen at hm hm1 hm2
  clear hr hr1 hr2 hcm hcm1 hcm2
  by_cases hsm : (1100 : Int) < (n : Int) ∨ (80 : Int) < (n1 : Int) ∨ (80 : Int) < (n2 : Int)
  · by_cases h1 : (1100 : Int) < (n : Int)
    · clear hsm
      go_enter Try.func5, Try.ntmps5
      go_wp2_with fail
      with_reducible refine (lives_any _).mono ?_
      rintro e w1 ⟨rfl, hb1⟩
      have HB1 := kept hb1
      clear hb1
      go_wp2_with fail
      with_reducible refine (lives_any _).mono ?_
      rintro e w2 ⟨rfl, hb2⟩
      have HB2 := kept hb2
      clear hb2
      go_wp2
      go_ret
      exact ⟨rfl, HB1.out.trans (HB2.out.mono HB1.out.size)⟩
    · by_cases h2 : (80 : Int) < (n1 : Int)
      · clear hsm
        go_enter Try.func5, Try.ntmps5
        go_wp2_with fail
        with_reducible refine (lives_any _).mono ?_
        rintro e w1 ⟨rfl, hb1⟩
        have HB1 := kept hb1
        clear hb1
        go_wp2_with fail
        with_reducible refine (lives_any _).mono ?_
        rintro e w2 ⟨rfl, hb2⟩
        have HB2 := kept hb2
        clear hb2
        go_wp2
        go_ret
        exact ⟨rfl, HB1.out.trans (HB2.out.mono HB1.out.size)⟩
      · have h3 : (80 : Int) < (n2 : Int) := by omega
        clear hsm
        go_enter Try.func5, Try.ntmps5
        go_wp2_with fail
        with_reducible refine (lives_any _).mono ?_
        rintro e w1 ⟨rfl, hb1⟩
        have HB1 := kept hb1
        clear hb1
        go_wp2_with fail
        with_reducible refine (lives_any _).mono ?_
        rintro e w2 ⟨rfl, hb2⟩
        have HB2 := kept hb2
        clear hb2
        go_wp2
        go_ret
        exact ⟨rfl, HB1.out.trans (HB2.out.mono HB1.out.size)⟩
  · have hn : n ≤ 1100 := by omega
    have hn1 : n1 ≤ 80 := by omega
    have hn2 : n2 ≤ 80 := by omega
    clear hsm hm hm1 hm2
    by_cases he : newErr 64 (lstOf Z n) = 0
    · have HN := kept (fun W (hb : Below w.heap.size w W) => new_mine 64 A n c (lstOf Z n) w W hb (HR.out.below hb) (by omega) he)
      clear he
      generalize (⟨64, addAll [] (lstOf Z n), []⟩ : FSt) = s0 at HN
      go_enter Try.func5, Try.ntmps5
      go_wp2_with (first | (go_at_call 8; (with_reducible refine (lives_any _).mono ?_); rintro e w1 ⟨rfl, hb1⟩; have HB1 := kept hb1 ; clear hb1) | (go_at_call 9; (with_reducible refine (HN.out _ HB1.out).mono ?_); rintro e w2 ⟨r, rfl, h2⟩))
      have H0 : Hid (Mine w r (s0.acts K1 N1 0) w2) := kept h2.out.1
      clear h2 HN HB1
      go_loopw [45] (fun i wr => ∃ k : Nat, k ≤ n1 ∧ i = .int .i64 (k : Int) ∧ Hid (Mine w r (s0.acts K1 N1 k) wr)) (fun i _ => n1 - (intOf i).toNat)
      case atStart => exact ⟨0, Nat.zero_le _, rfl, H0⟩
      case round =>
        obtain ⟨k, hk, rfl, HM⟩ := hrel
        clear H0
        by_cases hlt : k < n1
        · obtain ⟨b, o, rfl, p0, p1⟩ := (HR1.out.below HM.out.1).there hlt
          have HD := kept (do_mine (HM.out.alloc (.cells #[.int .i64 (K1 k), .int .i64 (N1 k)] 39)) (K1 k) (N1 k))
          go_wp2_with (first | (go_at_call 24; (with_reducible refine (HD.out).mono ?_); rintro e w3 ⟨rfl, h3⟩))
          go_roundw
          case rel => exact ⟨k + 1, by omega, by go_num, h3⟩
          case measure => simp [intOf]; omega
        · obtain rfl : k = n1 := by omega
          generalize s0.acts K1 N1 k = s at HM
          obtain ⟨hb, f, hfr, hl, ho⟩ := HM.out
          have HB := kept hb
          have HL := kept hl
          have HO := kept ho
          have HFR := kept hfr
          subst hfr
          clear hb hl ho HM
          have hs1 : s.S.length ≤ 1000000 := by have := HL.out.1.short; omega
          have hs2 : s.H.length ≤ 1000000 := by have := HL.out.1.short; omega
          have HC := kept (copy_any_f f s wr HL.out)
          go_wp2_with (first | (go_at_call 18; (with_reducible refine (HC.out).mono ?_); rintro e w4 ⟨g, rfl, h4⟩))
          have HL4 := kept (HL.out.below h4.out.2.1)
          have HS5 := kept (spare_any f s w4 HL4.out)
          go_wp2_with (first | (go_at_call 16; (with_reducible refine (HS5.out).mono ?_); rintro e w5 ⟨A5, c5, rfl, h5⟩))
          have HL5 := kept (HL4.out.below h5.out.2.1)
          have HS6 := kept (held_any f s w5 HL5.out)
          go_wp2_with (first | (go_at_call 17; (with_reducible refine (HS6.out).mono ?_); rintro e w6 ⟨A6, c6, rfl, h6⟩))
          have HB46 : Hid (Below w4.heap.size w4 w6) := kept (h5.out.2.1.trans (h6.out.2.1.mono h5.out.2.1.size))
          have HG6 := kept (h4.out.1.below HB46.out)
          have HS7 := kept (spare_any g s w6 HG6.out)
          go_wp2_with (first | (go_at_call 16; (with_reducible refine (HS7.out).mono ?_); rintro e w7 ⟨A7, c7, rfl, h7⟩))
          have HO57 : Hid (OwI w7 A5 s.S.length c5 s.S) := kept ((h5.out.1.below h6.out.2.1).below h7.out.2.1)
          have HM7 := kept (same_true A7 A5 _ c7 c5 s.S w7 h7.out.1.reads HO57.out.reads hs1)
          go_wp2_with (first | (go_at_call 23; (with_reducible refine (HM7.out).mono ?_); rintro e w8 ⟨rfl, h8⟩))
          obtain ⟨q8, rfl⟩ := h8.out
          have HB67 := kept h7.out.2.1
          have HS9 := kept (held_any g s (w7.drewN q8) ((HG6.out.below HB67.out).drewN q8))
          clear h8
          go_wp2_with (first | (go_at_call 17; (with_reducible refine (HS9.out).mono ?_); rintro e w9 ⟨A9, c9, rfl, h9⟩))
          have HO69 : Hid (OwI w9 A6 s.H.length c6 s.H) := kept (((h6.out.1.below h7.out.2.1).drewN q8).below h9.out.2.1)
          have HM9 := kept (same_true A9 A6 _ c9 c6 s.H w9 h9.out.1.reads HO69.out.reads hs2)
          go_wp2_with (first | (go_at_call 23; (with_reducible refine (HM9.out).mono ?_); rintro e w10 ⟨rfl, h10⟩))
          obtain ⟨q10, rfl⟩ := h10.out
          have HB79 : Hid (Below w7.heap.size w7 w9) := kept ((show Below w7.heap.size (w7.drewN q8) w9 from h9.out.2.1) |> fun h => ⟨h.os, h.tape, h.output, h.size, h.block⟩)
          have HB410 : Hid (Below w4.heap.size w4 (w9.drewN q10)) := kept (by
            have h1 : Below w4.heap.size w4 w9 := (HB46.out.trans (HB67.out.mono HB46.out.size)).trans (HB79.out.mono (Nat.le_trans HB46.out.size HB67.out.size))
            exact ⟨h1.os, h1.tape, h1.output, h1.size, h1.block⟩)
          clear h10
          have HX := kept (show Lst (w9.drewN q10) f s ∧ Lst (w9.drewN q10) g s ∧ OwI (w9.drewN q10) A5 s.S.length c5 s.S ∧ OwI (w9.drewN q10) A6 s.H.length c6 s.H ∧ Below w.heap.size w (w9.drewN q10) from
            ⟨HL4.out.below HB410.out, h4.out.1.below HB410.out, (HO57.out.below HB79.out).drewN q10, HO69.out.drewN q10, (HB.out.trans (h4.out.2.1.mono HB.out.size)).trans (HB410.out.mono (Nat.le_trans HB.out.size h4.out.2.1.size))⟩)
          have HY := kept (show (∀ j, g.own j → w.heap.size ≤ j) ∧ (∀ j, g.own j → ¬ f.own j) ∧ (∀ j, g.own j → blkOf A5 ≠ some j) ∧ (∀ j, g.own j → blkOf A6 ≠ some j) from by
            refine ⟨fun j hj => Nat.le_trans HB.out.size (h4.out.2.2 j hj), fun j hj hf => ?_, fun j hj hf => ?_, fun j hj hf => ?_⟩
            · have h1 := h4.out.2.2 j hj
              have h2 := HL.out.lt hf
              omega
            · have h1 := h5.out.2.2 j hf
              have h2 := h4.out.1.lt hj
              omega
            · have h1 := h6.out.2.2 j hf
              have h2 := h4.out.1.lt hj
              have h3 := h5.out.2.1.size
              omega)
          have H0 : Hid (LLeft (w9.drewN q10) (w9.drewN q10) g (s.acts K2 N2 0)) := kept HX.out.2.1.left_same
          clear h9 h7 h6 h5 h4 HB79 HB410 HB67 HB46 HO69 HO57 HL4 HL5 HG6 HB HL
          generalize w9.drewN q10 = wb at HX H0 ⊢
          go_wp2
          go_loopw [73] (fun i wx => ∃ j : Nat, j ≤ n2 ∧ i = .int .i64 (j : Int) ∧ Hid (LLeft wb wx g (s.acts K2 N2 j))) (fun i _ => n2 - (intOf i).toNat)
          case atStart => exact ⟨0, Nat.zero_le _, rfl, H0⟩
          case round =>
            obtain ⟨j, hj, rfl, hrel⟩ := hrel
            obtain ⟨g', hg1, hg2, hg3, hg4⟩ := hrel.out
            have HG2 := kept hg2
            have HG3 := kept hg3
            have HG4 := kept hg4
            have HG1 := kept hg1
            have HBW : Hid (Below w.heap.size w wr) := kept (Turned.only_new HX.out.2.2.2.2 hg3 HX.out.2.2.2.2.size HY.out.1)
            clear hg2 hg3 hg4 hrel H0
            by_cases hlt2 : j < n2
            · obtain ⟨b, o, rfl, p0, p1⟩ := (HR2.out.below HBW.out).there hlt2
              have HD := kept (do_left (HG2.out.alloc (.cells #[.int .i64 (K2 j), .int .i64 (N2 j)] 39)) (K2 j) (N2 j))
              rw [hg1] at HD
              clear hg1
              go_wp2_with (first | (go_at_call 24; (with_reducible refine (HD.out).mono ?_); rintro e w3 ⟨rfl, h3⟩))
              have HE : Hid (LLeft wb w3 g (s.acts K2 N2 (j + 1))) := kept (LLeft.step HG3.out HG4.out HG1.out h3.out.of_alloc)
              clear h3
              go_roundw
              case rel => exact ⟨j + 1, by omega, by go_num, HE⟩
              case measure => simp [intOf]; omega
            · obtain rfl : j = n2 := by omega
              clear hg1
              have HF : Hid (Lst wr f s) := kept (HX.out.1.turned HG3.out (fun i hi hg => HY.out.2.1 i hg hi))
              have HS := kept (spare_any f s wr HF.out)
              go_wp2_with (first | (go_at_call 16; (with_reducible refine (HS.out).mono ?_); rintro e w11 ⟨A11, c11, rfl, h11⟩))
              have HO5 : Hid (OwI wr A5 s.S.length c5 s.S) := kept (HX.out.2.2.1.turned HG3.out (fun i hi hg => HY.out.2.2.1 i hg hi))
              have HO6 : Hid (OwI wr A6 s.H.length c6 s.H) := kept (HX.out.2.2.2.1.turned HG3.out (fun i hi hg => HY.out.2.2.2 i hg hi))
              have HM := kept (same_true A11 A5 _ c11 c5 s.S w11 h11.out.1.reads (HO5.out.below h11.out.2.1).reads hs1)
              go_wp2_with (first | (go_at_call 23; (with_reducible refine (HM.out).mono ?_); rintro e w12 ⟨rfl, h12⟩))
              obtain ⟨q12, rfl⟩ := h12.out
              have HH := kept (held_any f s (w11.drewN q12) ((HF.out.below h11.out.2.1).drewN q12))
              clear h12
              go_wp2_with (first | (go_at_call 17; (with_reducible refine (HH.out).mono ?_); rintro e w13 ⟨A13, c13, rfl, h13⟩))
              have HM2 := kept (same_true A13 A6 _ c13 c6 s.H w13 h13.out.1.reads (((HO6.out.below h11.out.2.1).drewN q12).below h13.out.2.1).reads hs2)
              go_wp2_with (first | (go_at_call 23; (with_reducible refine (HM2.out).mono ?_); rintro e w14 ⟨rfl, h14⟩))
              obtain ⟨q14, rfl⟩ := h14.out
              go_ret
              refine ⟨rfl, ?_⟩
              have h1 := HBW.out.trans (h11.out.2.1.mono HBW.out.size)
              have h2 : Below w.heap.size w (w11.drewN q12) := ⟨h1.os, h1.tape, h1.output, h1.size, h1.block⟩
              have h3 := h2.trans (h13.out.2.1.mono h2.size)
              exact ⟨h3.os, h3.tape, h3.output, h3.size, h3.block⟩
    · have HN := kept (fun W (hb : Below w.heap.size w W) => new_bad 64 A n c (lstOf Z n) _ W (HR.out.below hb) (by omega) rfl he)
      have hb : (newErr 64 (lstOf Z n) != 0) = true := by simpa using he
      generalize newErr 64 (lstOf Z n) = m at HN hb
      clear he
      go_enter Try.func5, Try.ntmps5
      go_wp2_with (first | (go_at_call 8; (with_reducible refine (lives_any _).mono ?_); rintro e w1 ⟨rfl, hb1⟩; have HB1 := kept hb1 ; clear hb1) | (go_at_call 9; (with_reducible refine (HN.out _ HB1.out).mono ?_); rintro e w2 ⟨rfl, h2⟩))
      go_ret
      exact ⟨rfl, HB1.out.trans (h2.out.mono HB1.out.size)⟩
end freeCopies
end Go.Proofs.Ytahciaccnblfoaa
