/-
  The walk of the law GensSuffix.
-/
import Derived.Test.YthpaliagmnclfaaHf
import Derived.BigQuiet
namespace Go.Proofs.Ythpaliagmnclfaa
open Go.ChangeShapes Go.WideShapes Go.ChangeAt Go.RowKit Go.Deep
set_option linter.unusedVariables false
set_option linter.unusedSimpArgs false
namespace gensSuffix
/-- How the entries from main on lie in all entries. -/
structure Suf (all suf : List (Rv × Bool)) (main : Int) : Prop where
  le : suf.length ≤ all.length
  eq : suf = all.drop (all.length - suf.length)
  at_ : ∀ i (h : i < all.length), decide (main ≤ all[i].1.1) = decide (all.length - suf.length ≤ i)
  big : all.length ≤ 9223372036854775807
theorem Suf.wrapK {all suf : List (Rv × Bool)} {main : Int} (h : Suf all suf main) {K : Nat} (hK : all.length - suf.length = K) : wrap64 ((all.length : Int) - (suf.length : Int)) = (K : Int) := by
  have h1 := h.le
  have h2 := h.big
  rw [IntWalk.wrap64_in _ ⟨by omega, by omega⟩]
  omega
theorem Suf.k0 {all suf : List (Rv × Bool)} {main : Int} (h : Suf all suf main) {K : Nat} (hK : all.length - suf.length = K) : decide ((K : Int) < 0) = false := by simp
theorem behind {w w2 w3 w4 : World} {gs : List Gn} {main : Int} {A3 : Option Addr} {c3 : Nat} {e : Ending} (hi : GInv gs) (ho : w3.ownsRow w2.heap.size 51 3 (.slice A3 (sinceG gs (-9223372036854775808)).length c3) (sinceG gs (-9223372036854775808)).length (entC (sinceG gs (-9223372036854775808)))) (h3 : Below w2.heap.size w2 w3) (h2 : Below w.heap.size w w2)
    (hs : ∃ A' c', e = .returned (.slice A' (sinceG gs main).length c') ∧ w4.ownsRow w3.heap.size 51 3 (.slice A' (sinceG gs main).length c') (sinceG gs main).length (entC (sinceG gs main)) ∧ Below w3.heap.size w3 w4) :
    ∃ A4 c4, e = .returned (.slice A4 (sinceG gs main).length c4) ∧ Suf (sinceG gs (-9223372036854775808)) (sinceG gs main) main ∧ RdE w4 A4 (sinceG gs main) ∧ RdE w4 A3 (sinceG gs (-9223372036854775808)) ∧ Below w.heap.size w w4 := by
  obtain ⟨A4, c4, he, ho4, hb⟩ := hs
  obtain ⟨k1, k2, k3⟩ := since_last hi main
  refine ⟨A4, c4, he, ⟨k1, k2, k3, ?_⟩, RdE.of_own ho4, (RdE.of_own ho).keeps (Keeps.of_below hb), bel_to hb (bel_to h3 h2)⟩
  have h1 := (gown_cap ho).1
  have h2 := (gown_cap ho).2.1
  unfold maxLen at h2
  omega
set_option maxHeartbeats 4000000 in
theorem walk (w : World) (A : Option Addr) (n c : Nat) (hnc : n ≤ c) (hcm : c ≤ maxLen) (X : Nat → Ac) (hX : RdAc w A n X) (main : Int) (wm : (Lit.int .i64 main).wf = true) :
    Calls Try.prog 6 #[.slice A n c, .int .i64 main] w fun e w' => e = .returned (.bool true) ∧ Below w.heap.size w w' := by
  have HL := kept (lives_any w)
  have HM := fun W (h : Below w.heap.size w W) => kept (made_any (hX.keeps (Keeps.of_below h)) hnc hcm (fun _ => True) trivial (fun _ _ _ _ _ _ => trivial))
  clear hX hnc hcm wm
  go_enter Try.func6, Try.ntmps6
  go_wp2_with (first | (go_at_call 7; (with_reducible refine (HL.out).mono ?_); rintro e w1 ⟨rfl, hb⟩; have HB1 := kept hb; clear hb) | (go_at_call 8; (with_reducible refine ((HM _ HB1.out).out).mono ?_); rintro e w2 hm; obtain ⟨r, F, gs, last, rfl, hg, hi, hbd, hv, _, hF, hb⟩ := hm; have HB2 := kept (bel_to hb HB1.out); have HS := fun W (h : Below w2.heap.size w2 W) m => kept (gsince_any (hg.below h) hi hbd (by omega) m); have HGI := kept hi; clear hb hg hi hbd hv hF) | (go_at_call 12; (with_reducible refine ((HS _ (Below.refl _ _) _).out).mono ?_); rintro e w3 hs; obtain ⟨A3, c3, rfl, ho, hb⟩ := hs; have HB3 := kept hb; have HO3 := kept ho; clear hb ho) | (go_at_call 12; (with_reducible refine ((HS _ HB3.out _).out).mono ?_); rintro e w4 hs; obtain ⟨A4, c4, e4, HP, HR4, HR3, HB4⟩ := behind HGI.out HO3.out HB3.out HB2.out hs; subst e4; clear HGI HO3 HS hs; generalize sinceG gs (-9223372036854775808) = all at HP HR3 ⊢; generalize sinceG gs main = suf at HP HR4 ⊢; obtain ⟨K, hK⟩ : ∃ K, all.length - suf.length = K := ⟨_, rfl⟩; have hwk := HP.wrapK hK; have hk0 := HP.k0 hK))
  have hNm : all.length ≤ 9223372036854775807 := HP.big
  have HP := kept HP
  have HR3 := kept HR3
  have HR4 := kept HR4
  have HB4 := kept HB4
  obtain ⟨N, hN⟩ : ∃ N, all.length = N := ⟨_, rfl⟩
  rw [hwk, hN]
  rw [hN] at hNm
  have H0 : Hid (Below w4.heap.size w4 w4) := kept (Below.refl _ _)
  go_loopw [33] (fun i wr => ∃ (j : Nat), j ≤ N ∧ i = .int .i64 (j : Int) ∧ Hid (Below w4.heap.size w4 wr)) (fun i _ => N - (intOf i).toNat)
  case atStart => exact ⟨0, Nat.zero_le _, rfl, H0⟩
  case round =>
    obtain ⟨j, hj, rfl, HI⟩ := hrel
    clear H0
    have hwj : wrap64 ((j : Int) + 1) = (j : Int) + 1 ∨ j = N := by
      by_cases h : j < N
      · exact .inl (IntWalk.wrap64_in _ ⟨by omega, by omega⟩)
      · exact .inr (by omega)
    by_cases hjn : j < N
    · have hwj : wrap64 ((j : Int) + 1) = (j : Int) + 1 := IntWalk.wrap64_in _ ⟨by omega, by omega⟩
      have hj0 : (0 : Int) ≤ (j : Int) := by omega
      have hjn' : (j : Int) < (N : Int) := by omega
      have hjl : j < all.length := by omega
      obtain ⟨g, o, hA, a0, a1, a2⟩ := (HR3.out.keeps (Keeps.of_below HI.out)) j hjl
      have hbb : Below wr.heap.size wr (wr.alloc (.cells #[.int .i64 all[j].1.1, .int .i64 all[j].1.2, .bool all[j].2] 51)) := (Below.refl _ wr).alloc (Nat.le_refl _) _
      have HBB := kept (bel_to hbb HI.out)
      have hd := HP.out.at_ j hjl
      rw [hK] at hd
      have HSU : Hid (K ≤ j → ∀ W, Below w4.heap.size w4 W → ∃ g o, A4 = some ⟨g, o, none⟩ ∧ j - K < suf.length ∧ W.cell? ⟨g, o + (j - K) * 3, none⟩ = some (.int .i64 all[j].1.1) ∧ W.cell? ⟨g, o + (j - K) * 3 + 1, none⟩ = some (.int .i64 all[j].1.2) ∧ W.cell? ⟨g, o + (j - K) * 3 + 2, none⟩ = some (.bool all[j].2)) := kept (fun hk W hW => by
        have h1 := HP.out.le
        have h2 := HP.out.eq
        have hlt : j - K < suf.length := by omega
        obtain ⟨g, o, e, b0, b1, b2⟩ := (HR4.out.keeps (Keeps.of_below hW)) (j - K) hlt
        have he : suf[j - K] = all[j] := by
          have : suf[j - K]? = all[j]? := by
            rw [h2, List.getElem?_drop, hK, show K + (j - K) = j by omega]
          rw [List.getElem?_eq_getElem hlt, List.getElem?_eq_getElem hjl] at this
          exact Option.some.inj this
        rw [he] at b0 b1 b2
        exact ⟨g, o, e, hlt, b0, b1, b2⟩)
      have hne := fun W => neq_ent all[j].1 all[j].1 all[j].2 all[j].2 W
      simp only [decide_true, Bool.not_true] at hne
      have HK0 := kept (Blk.new wr 51 #[.int .i64 all[j].1.1, .int .i64 all[j].1.2, .bool all[j].2])
      generalize all[j] = x at a0 a1 a2 hbb HBB hd HSU hne HK0
      obtain ⟨⟨xm, xs⟩, xd⟩ := x
      simp only at a0 a1 a2 hbb HBB hd HSU hne HK0
      subst hA
      have HJ := kept (And.intro hjn hj)
      have HSL := kept HP.out.le
      have hwk2 : K ≤ j → wrap64 ((j : Int) - (K : Int)) = ((j - K : Nat) : Int) := fun h => by rw [IntWalk.wrap64_in _ ⟨by omega, by omega⟩]; omega
      clear hbb HI hjn hj hjl HP
      go_upto_region 11 with fail
      generalize wr.alloc (.cells #[.int .i64 xm, .int .i64 xs, .bool xd] 51) = W2 at HBB HK0 ⊢
      obtain ⟨e0, e1, e2⟩ : W2.cell? ⟨wr.heap.size, 0, none⟩ = some (.int .i64 xm) ∧ W2.cell? ⟨wr.heap.size, 1, none⟩ = some (.int .i64 xs) ∧ W2.cell? ⟨wr.heap.size, 2, none⟩ = some (.bool xd) := ⟨HK0.out.cell 0, HK0.out.cell 1, HK0.out.cell 2⟩
      have HB5 := fun nq => kept (bel_to ((Turned.refl W2 (fun _ => False)).drewN nq).below_ HBB.out)
      by_cases hk : K ≤ j
      · obtain ⟨g4, o4, hA4, hlt, b0, b1, b2⟩ := HSU.out hk W2 HBB.out
        subst hA4
        have hwk3 := hwk2 hk
        have hk' : (K : Int) ≤ (j : Int) := by omega
        have hk'' : decide ((K : Int) ≤ (j : Int)) = true := decide_eq_true hk'
        have hge : decide (main ≤ xm) = true := by rw [hd]; exact decide_eq_true hk
        have hge' : main ≤ xm := of_decide_eq_true hge
        have hnn : (0 : Int) ≤ ((j - K : Nat) : Int) := by omega
        have hlt' : ((j - K : Nat) : Int) < (suf.length : Int) := by omega
        obtain ⟨q, hq⟩ : ∃ q : Nat, j - K = q := ⟨_, rfl⟩
        rw [hq] at hlt b0 b1 b2 hwk3 hnn hlt'
        clear hd hwk2 HSU hlt hk
        go_quiet (fail)
        have HB6 := HB5 nq
        clear HB5 HBB HK0
        generalize W2.drewN nq = W3 at HB6 ⊢
        go_wp2
        go_roundw
        case rel => exact ⟨j + 1, by have := HJ.out; omega, by go_num, HB6⟩
        case measure => have := HJ.out; simp [intOf]; omega
      · have hk' : ¬ (K : Int) ≤ (j : Int) := by omega
        have hk'' : decide ((K : Int) ≤ (j : Int)) = false := decide_eq_false hk'
        have hge : decide (main ≤ xm) = false := by rw [hd]; exact decide_eq_false hk
        have hge' : ¬ main ≤ xm := of_decide_eq_false hge
        clear hd hwk2 HSU hk
        go_quiet (fail)
        have HB6 := HB5 nq
        clear HB5 HBB HK0
        generalize W2.drewN nq = W3 at HB6 ⊢
        go_wp2
        go_roundw
        case rel => exact ⟨j + 1, by have := HJ.out; omega, by go_num, HB6⟩
        case measure => have := HJ.out; simp [intOf]; omega
    · obtain rfl : j = N := by omega
      go_wp2
      go_returns
      exact ⟨rfl, bel_to HI.out HB4.out⟩
end gensSuffix
end Go.Proofs.Ythpaliagmnclfaa
