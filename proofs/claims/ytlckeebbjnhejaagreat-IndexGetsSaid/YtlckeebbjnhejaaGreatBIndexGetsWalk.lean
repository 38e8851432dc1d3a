/-
  Texts laid together: IndexGetsWalk.
-/
import Derived.Test.YtlckeebbjnhejaaGreatBKv
import Derived.Test.YtlckeebbjnhejaaGreatBHc
import Derived.BigQuiet
section
/-
  The walk of the law IndexGets.
-/
namespace Go.Proofs.YtlckeebbjnhejaaGreat
open Go.ChangeShapes Go.WideShapes Go.ChangeAt Go.RowKit Go.Deep
set_option linter.unusedVariables false
set_option linter.unusedSimpArgs false
namespace indexGets
theorem in_one (k key : List UInt8) : inB k key [] = decide (k = key) := by unfold inB; rw [if_pos rfl]
/-- What a key's range alone tells. -/
theorem hits_one {P : List PE} (h : RiseX P) (k : List UInt8) (m : Int) : hitsX P k [] m = oneX k (getG (loX P k) m) := by
  have none_of : ∀ Q : List PE, (∀ x ∈ Q, x.1 ≠ k) → Q.filter (inX k []) = [] := fun Q hQ => by
    rw [List.filter_eq_nil_iff]
    intro x hx
    show ¬ inB x.1 k [] = true
    rw [in_one]
    simpa using hQ x hx
  rcases parted h k with ⟨_, Q, e, R, rfl, _, he, hlo, _, hq, hr⟩ | ⟨_, Q, R, rfl, _, hlo, _, hq, hr⟩
  · have h1 := none_of Q (fun x hx => ahead_ne (hq x hx))
    have h2 := none_of R (fun x hx e2 => ahead_ne (hr x hx) e2.symm)
    unfold hitsX
    rw [List.filter_append, h1, List.nil_append, List.filter_cons, if_pos (show inX k [] e = true from by show inB e.1 k [] = true; rw [in_one, he]; simp), h2, hlo]
    cases hg : getG e.2 m with
    | none => simp [hg, oneX]
    | some f => simp [hg, oneX, he]
  · have h1 := none_of Q (fun x hx => ahead_ne (hq x hx))
    have h2 := none_of R (fun x hx e2 => ahead_ne (hr x hx) e2.symm)
    unfold hitsX
    rw [List.filter_append, h1, h2, hlo, getG_nil]
    rfl
set_option maxHeartbeats 4000000 in
theorem walk (w : World) (A : Option Addr) (n c : Nat) (hnc : n ≤ c) (hcm : c ≤ maxLen) (X : Nat → AcK) (hX : RdAcK w A n X) (A1 : Option Addr) (n1 c1 : Nat) (x1 : List UInt8) (h1 : Rd w A1 n1 x1) (hnc1 : n1 ≤ c1) (hb1 : n1 ≤ 140737488351232) (at_ : Int) (wa : (Lit.int .i64 at_).wf = true) :
    Calls Tryz.prog 3 #[.slice A n c, .slice A1 n1 c1, .int .i64 at_] w fun e w' => e = .returned (.bool true) ∧ Below w.heap.size w w' := by
  have HL := kept (livesX_any w)
  have HF := fun W (h : Below w.heap.size w W) => kept (few_any (hX.keeps (Keeps.of_below h)) hnc hcm)
  have HX := kept hX
  have H1 := kept h1
  clear hX hnc hcm wa h1
  go_enter Tryz.func3, Tryz.ntmps3
  go_wp2_with fail
  with_reducible refine HL.out.mono ?_
  rintro e w1 ⟨rfl, hb⟩
  have HB1 := kept hb
  clear hb HL
  go_wp2_with fail
  with_reducible refine (HF w1 HB1.out).out.mono ?_
  rintro e w2 ⟨t, rfl, hf, hb⟩
  have HB2 := kept (bel_to hb HB1.out)
  clear hb HF
  cases t with
  | false =>
    have HL2 := kept (livesX_any w2)
    clear hf
    go_wp2_with fail
    with_reducible refine HL2.out.mono ?_
    rintro e w3 ⟨rfl, hb⟩
    have HB3 := kept (bel_to hb HB2.out)
    clear hb
    go_wp2
    go_returns
    exact ⟨rfl, HB3.out⟩
  | true =>
    have HM := kept (madeX_any (c := c) (HX.out.keeps (Keeps.of_below HB2.out)) (hf rfl))
    clear hf
    go_wp2_with fail
    with_reducible refine HM.out.mono ?_
    rintro e w3 ⟨x, F, l, P, y, rfl, hj⟩
    have HJ := kept hj
    have HB3 := kept (bel_to hj.bel HB2.out)
    clear hj HM
    have HE := kept (hits_one HJ.out.good.inv.rise x1 at_)
    generalize hgo : getG (loX P x1) at_ = o at HE
    have HG := kept (xgetP_any HJ.out.ix HJ.out.good.inv (by omega) A1 n1 c1 x1 (H1.out.keeps (Keeps.of_below HB3.out)) at_ hgo)
    clear hgo
    go_wp2_with fail
    with_reducible refine HG.out.mono ?_
    rintro e w4 ⟨rfl, hb4⟩
    have HB5 := kept (bel_to ((Below.refl w4.heap.size w4).alloc (Nat.le_refl _) (.cells #[.int .i64 (fnd o).1.1, .int .i64 (fnd o).1.2, .int .i64 (fnd o).2.1, .int .i64 (fnd o).2.2] 31)) hb4)
    have HK5 := kept (Blk.new w4 31 #[.int .i64 (fnd o).1.1, .int .i64 (fnd o).1.2, .int .i64 (fnd o).2.1, .int .i64 (fnd o).2.2])
    clear hb4 HG
    go_upto_region 5 with fail
    generalize w4.alloc (.cells #[.int .i64 (fnd o).1.1, .int .i64 (fnd o).1.2, .int .i64 (fnd o).2.1, .int .i64 (fnd o).2.2] 31) = W5 at HB5 HK5 ⊢
    have HBW5 := kept (bel_to HB5.out HB3.out)
    have HR := kept (xrangeP_any (HJ.out.ix.below HB5.out) HJ.out.good.inv (by omega) A1 n1 c1 x1 (H1.out.keeps (Keeps.of_below HBW5.out)) (by omega) none 0 0 [] (Rd.nil_ _ _) (by omega) at_)
    go_wp2_with fail
    with_reducible refine HR.out.mono ?_
    rintro e w6 ⟨A6, n6, k6, hs, rfl, ho6, hh, hb6⟩
    have HB6 := kept (bel_to hb6 HBW5.out)
    have HK6 := kept (HK5.out.below hb6 HK5.out.lt)
    rw [HE.out] at hh
    clear hb6 HR HB5 HK5 HE
    cases o with
    | none =>
      have hn6 : n6 = 0 := by rw [← ho6.ln, ← List.length_map (f := HtL.px), hh]; rfl
      subst hn6
      clear ho6 hh
      simp only [Option.isSome_none]
      go_wp2_with fail
      go_quiet (fail)
      go_wp2
      go_returns
      exact ⟨rfl, drewN_below HB6.out _⟩
    | some f =>
      have hn6 : n6 = 1 := by rw [← ho6.ln, ← List.length_map (f := HtL.px), hh]; rfl
      subst hn6
      obtain ⟨g, rfl, H, hH0, ⟨z0, z1, z2, z3, z4⟩, hrd, hHn⟩ := ho6.at_ (i := 0) (by omega)
      have hpx : H.px = (x1, f) := by
        have := congrArg (fun l => l[0]?) hh
        rw [List.getElem?_map, hH0] at this
        exact Option.some.inj this
      obtain ⟨HA, Hn, Hc, Hxs, Hf⟩ := H
      injection hpx with e1 e2
      obtain rfl : x1 = Hxs := Eq.symm e1
      obtain rfl : f = Hf := Eq.symm e2
      have HSM := kept (same_any HA A1 Hn n1 Hc c1 x1 x1 w6.drew hrd (H1.out.keeps (Keeps.of_below HB6.out.drew)) true (by simp))
      have HS0 := kept (show (fun W' : World => (W'.cell? ⟨g, 0, none⟩ = some (.slice HA Hn Hc) ∧ W'.cell? ⟨g, 1, none⟩ = some (.int .i64 f.1.1) ∧ W'.cell? ⟨g, 2, none⟩ = some (.int .i64 f.1.2) ∧ W'.cell? ⟨g, 3, none⟩ = some (.int .i64 f.2.1) ∧ W'.cell? ⟨g, 4, none⟩ = some (.int .i64 f.2.2)) ∧ W'.cell? ⟨w4.heap.size, 0, none⟩ = some (.int .i64 f.1.1) ∧ W'.cell? ⟨w4.heap.size, 1, none⟩ = some (.int .i64 f.1.2) ∧ W'.cell? ⟨w4.heap.size, 2, none⟩ = some (.int .i64 f.2.1) ∧ W'.cell? ⟨w4.heap.size, 3, none⟩ = some (.int .i64 f.2.2)) w6.drew from ⟨⟨z0, z1, z2, z3, z4⟩, HK6.out.cell 0, HK6.out.cell 1, HK6.out.cell 2, HK6.out.cell 3⟩)
      have hef := fun W => eql_found f.1.1 f.1.2 f.2.1 f.2.2 f.1.1 f.1.2 f.2.1 f.2.2 W
      simp only [decide_true, and_self] at hef
      clear ho6 hh z0 z1 z2 z3 z4 hrd hHn HK6 hH0
      go_wp2
      refine wp_region_held_drew (S := (fun W' : World => (W'.cell? ⟨g, 0, none⟩ = some (.slice HA Hn Hc) ∧ W'.cell? ⟨g, 1, none⟩ = some (.int .i64 f.1.1) ∧ W'.cell? ⟨g, 2, none⟩ = some (.int .i64 f.1.2) ∧ W'.cell? ⟨g, 3, none⟩ = some (.int .i64 f.2.1) ∧ W'.cell? ⟨g, 4, none⟩ = some (.int .i64 f.2.2)) ∧ W'.cell? ⟨w4.heap.size, 0, none⟩ = some (.int .i64 f.1.1) ∧ W'.cell? ⟨w4.heap.size, 1, none⟩ = some (.int .i64 f.1.2) ∧ W'.cell? ⟨w4.heap.size, 2, none⟩ = some (.int .i64 f.2.1) ∧ W'.cell? ⟨w4.heap.size, 3, none⟩ = some (.int .i64 f.2.2))) (by kernel_rfl) ?_ (fun hHeld => ?_)
      · ((try dsimp only); (with_reducible exact HS0.out))
      refine hand_take 0 (some 32) ?_ (by kernel_rfl) (by kernel_rfl) (by kernel_rfl) (by kernel_rfl) (by kernel_rfl) (fun _ _ _ h => h) ?_ (by assumption) ?_
      rotate_left
      · (intro o ho w hSw; (simp only [List.getElem?_toArray, List.getElem?_cons_succ, List.getElem?_cons_zero, Option.some.injEq] at ho); subst ho; (try dsimp only at hSw); go_simp; (first | done | with_reducible rfl))
      (try simp only [Act.put, List.setIfInBounds_toArray, List.set_cons_zero, List.set_cons_succ])
      refine hand_take 1 (some 33) ?_ (by kernel_rfl) (by kernel_rfl) (by kernel_rfl) (by kernel_rfl) (by kernel_rfl) (fun _ _ _ h => h) ?_ (by assumption) ?_
      rotate_left
      · (intro o ho w hSw; (simp only [List.getElem?_toArray, List.getElem?_cons_succ, List.getElem?_cons_zero, Option.some.injEq] at ho); subst ho; (try dsimp only at hSw); go_simp; (first | done | with_reducible rfl))
      (try simp only [Act.put, List.setIfInBounds_toArray, List.set_cons_zero, List.set_cons_succ])
      refine hand_take 2 (some 34) ?_ (by kernel_rfl) (by kernel_rfl) (by kernel_rfl) (by kernel_rfl) (by kernel_rfl) (fun _ _ _ h => h) ?_ (by assumption) ?_
      rotate_left
      · (intro o ho w hSw; (simp only [List.getElem?_toArray, List.getElem?_cons_succ, List.getElem?_cons_zero, Option.some.injEq] at ho); subst ho; (try dsimp only at hSw); go_simp; (first | done | with_reducible rfl))
      (try simp only [Act.put, List.setIfInBounds_toArray, List.set_cons_zero, List.set_cons_succ])
      refine hand_take 3 (some 35) ?_ (by kernel_rfl) (by kernel_rfl) (by kernel_rfl) (by kernel_rfl) (by kernel_rfl) (fun _ _ _ h => h) ?_ (by assumption) ?_
      rotate_left
      · (intro o ho w hSw; (simp only [List.getElem?_toArray, List.getElem?_cons_succ, List.getElem?_cons_zero, Option.some.injEq] at ho); subst ho; (try dsimp only at hSw); go_simp; (first | done | with_reducible rfl))
      (try simp only [Act.put, List.setIfInBounds_toArray, List.set_cons_zero, List.set_cons_succ])
      refine hand_take 4 (some 36) ?_ (by kernel_rfl) (by kernel_rfl) (by kernel_rfl) (by kernel_rfl) (by kernel_rfl) (fun _ _ _ h => h) ?_ (by assumption) ?_
      rotate_left
      · (intro o ho w hSw; (simp only [List.getElem?_toArray, List.getElem?_cons_succ, List.getElem?_cons_zero, Option.some.injEq] at ho); subst ho; (try dsimp only at hSw); go_simp; (first | done | with_reducible rfl))
      (try simp only [Act.put, List.setIfInBounds_toArray, List.set_cons_zero, List.set_cons_succ])
      refine hand_take 5 (some 37) ?_ (by kernel_rfl) (by kernel_rfl) (by kernel_rfl) (by kernel_rfl) (by kernel_rfl) (fun _ _ _ h => h) ?_ (by assumption) ?_
      rotate_left
      · (intro o ho w hSw; (simp only [List.getElem?_toArray, List.getElem?_cons_succ, List.getElem?_cons_zero, Option.some.injEq] at ho); subst ho; (try dsimp only at hSw); go_simp; (first | done | with_reducible rfl))
      (try simp only [Act.put, List.setIfInBounds_toArray, List.set_cons_zero, List.set_cons_succ])
      refine hand_take 6 (some 38) ?_ (by kernel_rfl) (by kernel_rfl) (by kernel_rfl) (by kernel_rfl) (by kernel_rfl) (fun _ _ _ h => h) ?_ (by assumption) ?_
      rotate_left
      · (intro o ho w hSw; (simp only [List.getElem?_toArray, List.getElem?_cons_succ, List.getElem?_cons_zero, Option.some.injEq] at ho); subst ho; (try dsimp only at hSw); go_simp; (first | done | with_reducible rfl))
      (try simp only [Act.put, List.setIfInBounds_toArray, List.set_cons_zero, List.set_cons_succ])
      refine hand_take 7 (some 39) ?_ (by kernel_rfl) (by kernel_rfl) (by kernel_rfl) (by kernel_rfl) (by kernel_rfl) (fun _ _ _ h => h) ?_ (by assumption) ?_
      rotate_left
      · (intro o ho w hSw; (simp only [List.getElem?_toArray, List.getElem?_cons_succ, List.getElem?_cons_zero, Option.some.injEq] at ho); subst ho; (try dsimp only at hSw); go_simp; (first | done | with_reducible rfl))
      (try simp only [Act.put, List.setIfInBounds_toArray, List.set_cons_zero, List.set_cons_succ])
      refine hand_take 8 (some 40) ?_ (by kernel_rfl) (by kernel_rfl) (by kernel_rfl) (by kernel_rfl) (by kernel_rfl) (fun _ _ _ h => h) ?_ (by assumption) ?_
      rotate_left
      · (intro o ho w hSw; (simp only [List.getElem?_toArray, List.getElem?_cons_succ, List.getElem?_cons_zero, Option.some.injEq] at ho); subst ho; (try dsimp only at hSw); go_simp; (first | done | with_reducible rfl))
      (try simp only [Act.put, List.setIfInBounds_toArray, List.set_cons_zero, List.set_cons_succ])
      refine hand_take 9 (some 41) ?_ (by kernel_rfl) (by kernel_rfl) (by kernel_rfl) (by kernel_rfl) (by kernel_rfl) (fun _ _ _ h => h) ?_ (by assumption) ?_
      rotate_left
      · (intro o ho w hSw; (simp only [List.getElem?_toArray, List.getElem?_cons_succ, List.getElem?_cons_zero, Option.some.injEq] at ho); subst ho; (try dsimp only at hSw); go_simp; (first | done | with_reducible rfl))
      (try simp only [Act.put, List.setIfInBounds_toArray, List.set_cons_zero, List.set_cons_succ])
      refine hand_take 10 (some 42) ?_ (by kernel_rfl) (by kernel_rfl) (by kernel_rfl) (by kernel_rfl) (by kernel_rfl) (fun _ _ _ h => h) ?_ (by assumption) ?_
      rotate_left
      · (intro o ho w hSw; (simp only [List.getElem?_toArray, List.getElem?_cons_succ, List.getElem?_cons_zero, Option.some.injEq] at ho); subst ho; (try dsimp only at hSw); go_simp; (first | done | with_reducible rfl))
      (try simp only [Act.put, List.setIfInBounds_toArray, List.set_cons_zero, List.set_cons_succ])
      refine hand_take 11 (some 43) ?_ (by kernel_rfl) (by kernel_rfl) (by kernel_rfl) (by kernel_rfl) (by kernel_rfl) (fun _ _ _ h => h) ?_ (by assumption) ?_
      rotate_left
      · (intro o ho w hSw; (simp only [List.getElem?_toArray, List.getElem?_cons_succ, List.getElem?_cons_zero, Option.some.injEq] at ho); subst ho; (try dsimp only at hSw); go_simp; (first | done | with_reducible rfl))
      (try simp only [Act.put, List.setIfInBounds_toArray, List.set_cons_zero, List.set_cons_succ])
      refine hand_take 12 (some 44) ?_ (by kernel_rfl) (by kernel_rfl) (by kernel_rfl) (by kernel_rfl) (by kernel_rfl) (fun _ _ _ h => h) ?_ (by assumption) ?_
      rotate_left
      · (intro o ho w hSw; (simp only [List.getElem?_toArray, List.getElem?_cons_succ, List.getElem?_cons_zero, Option.some.injEq] at ho); subst ho; (try dsimp only at hSw); go_simp; (first | done | with_reducible rfl))
      (try simp only [Act.put, List.setIfInBounds_toArray, List.set_cons_zero, List.set_cons_succ])
      refine hand_take 13 (some 45) ?_ (by kernel_rfl) (by kernel_rfl) (by kernel_rfl) (by kernel_rfl) (by kernel_rfl) (fun _ _ _ h => h) ?_ (by assumption) ?_
      rotate_left
      · (intro o ho w hSw; (simp only [List.getElem?_toArray, List.getElem?_cons_succ, List.getElem?_cons_zero, Option.some.injEq] at ho); subst ho; (try dsimp only at hSw); go_simp; (first | done | with_reducible rfl))
      (try simp only [Act.put, List.setIfInBounds_toArray, List.set_cons_zero, List.set_cons_succ])
      refine hand_take 14 (some 46) ?_ (by kernel_rfl) (by kernel_rfl) (by kernel_rfl) (by kernel_rfl) (by kernel_rfl) (fun _ _ _ h => h) ?_ (by assumption) ?_
      rotate_left
      · (intro o ho w hSw; (simp only [List.getElem?_toArray, List.getElem?_cons_succ, List.getElem?_cons_zero, Option.some.injEq] at ho); subst ho; (try dsimp only at hSw); go_simp; (first | done | with_reducible rfl))
      (try simp only [Act.put, List.setIfInBounds_toArray, List.set_cons_zero, List.set_cons_succ])
      refine hand_take 15 (some 47) ?_ (by kernel_rfl) (by kernel_rfl) (by kernel_rfl) (by kernel_rfl) (by kernel_rfl) (fun _ _ _ h => h) ?_ (by assumption) ?_
      rotate_left
      · (intro o ho w hSw; (simp only [List.getElem?_toArray, List.getElem?_cons_succ, List.getElem?_cons_zero, Option.some.injEq] at ho); subst ho; (try dsimp only at hSw); go_simp; (first | done | with_reducible rfl))
      (try simp only [Act.put, List.setIfInBounds_toArray, List.set_cons_zero, List.set_cons_succ])
      refine hand_take 16 (some 48) ?_ (by kernel_rfl) (by kernel_rfl) (by kernel_rfl) (by kernel_rfl) (by kernel_rfl) (fun _ _ _ h => h) ?_ (by assumption) ?_
      rotate_left
      · (intro o ho w hSw; (simp only [List.getElem?_toArray, List.getElem?_cons_succ, List.getElem?_cons_zero, Option.some.injEq] at ho); subst ho; (try dsimp only at hSw); go_simp; (first | done | with_reducible rfl))
      (try simp only [Act.put, List.setIfInBounds_toArray, List.set_cons_zero, List.set_cons_succ])
      refine hand_take 17 (some 49) ?_ (by kernel_rfl) (by kernel_rfl) (by kernel_rfl) (by kernel_rfl) (by kernel_rfl) (fun _ _ _ h => h) ?_ (by assumption) ?_
      rotate_left
      · (intro o ho w hSw; (simp only [List.getElem?_toArray, List.getElem?_cons_succ, List.getElem?_cons_zero, Option.some.injEq] at ho); subst ho; (try dsimp only at hSw); go_simp; (first | done | with_reducible rfl))
      (try simp only [Act.put, List.setIfInBounds_toArray, List.set_cons_zero, List.set_cons_succ])
      refine hand_take 18 (some 50) ?_ (by kernel_rfl) (by kernel_rfl) (by kernel_rfl) (by kernel_rfl) (by kernel_rfl) (fun _ _ _ h => h) ?_ (by assumption) ?_
      rotate_left
      · (intro o ho w hSw; (simp only [List.getElem?_toArray, List.getElem?_cons_succ, List.getElem?_cons_zero, Option.some.injEq] at ho); subst ho; (try dsimp only at hSw); go_simp; (first | done | with_reducible rfl))
      (try simp only [Act.put, List.setIfInBounds_toArray, List.set_cons_zero, List.set_cons_succ])
      refine hand_take 19 (some 51) ?_ (by kernel_rfl) (by kernel_rfl) (by kernel_rfl) (by kernel_rfl) (by kernel_rfl) (fun _ _ _ h => h) ?_ (by assumption) ?_
      rotate_left
      · (intro o ho w hSw; (simp only [List.getElem?_toArray, List.getElem?_cons_succ, List.getElem?_cons_zero, Option.some.injEq] at ho); subst ho; (try dsimp only at hSw); go_simp; (first | done | with_reducible rfl))
      (try simp only [Act.put, List.setIfInBounds_toArray, List.set_cons_zero, List.set_cons_succ])
      refine hand_take 20 (some 52) ?_ (by kernel_rfl) (by kernel_rfl) (by kernel_rfl) (by kernel_rfl) (by kernel_rfl) (fun _ _ _ h => h) ?_ (by assumption) ?_
      rotate_left
      · (intro o ho w hSw; (simp only [List.getElem?_toArray, List.getElem?_cons_succ, List.getElem?_cons_zero, Option.some.injEq] at ho); subst ho; (try dsimp only at hSw); go_simp; (first | done | with_reducible rfl))
      (try simp only [Act.put, List.setIfInBounds_toArray, List.set_cons_zero, List.set_cons_succ])
      refine hand_take 21 (some 53) ?_ (by kernel_rfl) (by kernel_rfl) (by kernel_rfl) (by kernel_rfl) (by kernel_rfl) (fun _ _ _ h => h) ?_ (by assumption) ?_
      rotate_left
      · (intro o ho w hSw; (simp only [List.getElem?_toArray, List.getElem?_cons_succ, List.getElem?_cons_zero, Option.some.injEq] at ho); subst ho; (try dsimp only at hSw); go_simp; (first | done | with_reducible rfl))
      (try simp only [Act.put, List.setIfInBounds_toArray, List.set_cons_zero, List.set_cons_succ])
      refine hand_take 22 (some 54) ?_ (by kernel_rfl) (by kernel_rfl) (by kernel_rfl) (by kernel_rfl) (by kernel_rfl) (fun _ _ _ h => h) ?_ (by assumption) ?_
      rotate_left
      · (intro o ho w hSw; (simp only [List.getElem?_toArray, List.getElem?_cons_succ, List.getElem?_cons_zero, Option.some.injEq] at ho); subst ho; (try dsimp only at hSw); go_simp; (first | done | with_reducible rfl))
      (try simp only [Act.put, List.setIfInBounds_toArray, List.set_cons_zero, List.set_cons_succ])
      refine hand_take 23 (some 55) ?_ (by kernel_rfl) (by kernel_rfl) (by kernel_rfl) (by kernel_rfl) (by kernel_rfl) (fun _ _ _ h => h) ?_ (by assumption) ?_
      rotate_left
      · (intro o ho w hSw; (simp only [List.getElem?_toArray, List.getElem?_cons_succ, List.getElem?_cons_zero, Option.some.injEq] at ho); subst ho; (try dsimp only at hSw); go_simp; (first | done | with_reducible rfl))
      (try simp only [Act.put, List.setIfInBounds_toArray, List.set_cons_zero, List.set_cons_succ])
      refine hand_take 24 (some 56) ?_ (by kernel_rfl) (by kernel_rfl) (by kernel_rfl) (by kernel_rfl) (by kernel_rfl) (fun _ _ _ h => h) ?_ (by assumption) ?_
      rotate_left
      · (intro o ho w hSw; (simp only [List.getElem?_toArray, List.getElem?_cons_succ, List.getElem?_cons_zero, Option.some.injEq] at ho); subst ho; (try dsimp only at hSw); go_simp; (first | done | with_reducible rfl))
      (try simp only [Act.put, List.setIfInBounds_toArray, List.set_cons_zero, List.set_cons_succ])
      refine hand_take 25 (some 57) ?_ (by kernel_rfl) (by kernel_rfl) (by kernel_rfl) (by kernel_rfl) (by kernel_rfl) (fun _ _ _ h => h) ?_ (by assumption) ?_
      rotate_left
      · (intro o ho w hSw; (simp only [List.getElem?_toArray, List.getElem?_cons_succ, List.getElem?_cons_zero, Option.some.injEq] at ho); subst ho; (try dsimp only at hSw); go_simp; (first | done | with_reducible rfl))
      (try simp only [Act.put, List.setIfInBounds_toArray, List.set_cons_zero, List.set_cons_succ])
      refine hand_ready 26 (by kernel_rfl) (by kernel_rfl) (fun o ho K hK => ?_)
      (simp only [List.getElem?_toArray, List.getElem?_cons_succ, List.getElem?_cons_zero, Option.some.injEq] at ho)
      subst ho
      go_simp
      (go_at_call 13; (with_reducible refine HSM.out.mono ?_); rintro e _ ⟨rfl, rfl⟩)
      (try go_wp2_with fail)
      refine hK.out _ _ ?_ (fun hHeld => ?_)
      · ((try dsimp only); (with_reducible exact HS0.out))
      clear hK K
      (try simp only [Act.put, List.setIfInBounds_toArray, List.set_cons_zero, List.set_cons_succ])
      refine hand_take 27 (some 59) ?_ (by kernel_rfl) (by kernel_rfl) (by kernel_rfl) (by kernel_rfl) (by kernel_rfl) (fun _ _ _ h => h) ?_ (by assumption) ?_
      rotate_left
      · (intro o ho w hSw; (simp only [List.getElem?_toArray, List.getElem?_cons_succ, List.getElem?_cons_zero, Option.some.injEq] at ho); subst ho; (try dsimp only at hSw); go_simp; (first | done | with_reducible rfl))
      (try simp only [Act.put, List.setIfInBounds_toArray, List.set_cons_zero, List.set_cons_succ])
      refine hand_take 28 (some 60) ?_ (by kernel_rfl) (by kernel_rfl) (by kernel_rfl) (by kernel_rfl) (by kernel_rfl) (fun _ _ _ h => h) ?_ (by assumption) ?_
      rotate_left
      · (intro o ho w hSw; (simp only [List.getElem?_toArray, List.getElem?_cons_succ, List.getElem?_cons_zero, Option.some.injEq] at ho); subst ho; (try dsimp only at hSw); go_simp; (first | done | with_reducible rfl))
      (try simp only [Act.put, List.setIfInBounds_toArray, List.set_cons_zero, List.set_cons_succ])
      refine hand_take 29 (some 61) ?_ (by kernel_rfl) (by kernel_rfl) (by kernel_rfl) (by kernel_rfl) (by kernel_rfl) (fun _ _ _ h => h) ?_ (by assumption) ?_
      rotate_left
      · (intro o ho w hSw; (simp only [List.getElem?_toArray, List.getElem?_cons_succ, List.getElem?_cons_zero, Option.some.injEq] at ho); subst ho; (try dsimp only at hSw); go_simp; (first | done | with_reducible rfl))
      (try simp only [Act.put, List.setIfInBounds_toArray, List.set_cons_zero, List.set_cons_succ])
      refine hand_take 30 (some 6) ?_ (by kernel_rfl) (by kernel_rfl) (by kernel_rfl) (by kernel_rfl) (by kernel_rfl) (fun _ _ _ h => h) ?_ (by assumption) ?_
      rotate_left
      · (intro o ho w hSw; (simp only [List.getElem?_toArray, List.getElem?_cons_succ, List.getElem?_cons_zero, Option.some.injEq] at ho); subst ho; (try dsimp only at hSw); go_simp; (first | done | with_reducible rfl))
      (try simp only [Act.put, List.setIfInBounds_toArray, List.set_cons_zero, List.set_cons_succ])
      refine wpAnyH_done (by kernel_rfl) ?_ _
      clear hHeld
      go_wp2
      go_returns
      exact ⟨rfl, HB6.out.drew⟩
end indexGets
end Go.Proofs.YtlckeebbjnhejaaGreat
end
