/-
  Texts laid together: Go.
-/
import Derived.Test.YtlckeebbjnhejaaGreatBGf
import Derived.Test.YtlckeebbjnhejaaGreatBGh
section
/-
  package gens, call by call: upTo, Get.
-/
namespace Go.Proofs.YtlckeebbjnhejaaGreat
open Go.ChangeShapes Go.WideShapes Go.ChangeAt Go.RowKit Go.Deep
set_option linter.unusedVariables false
set_option linter.unusedSimpArgs false

/-- Generation i as it lies. -/
theorem GsL.cells_at {w : World} {r : Nat} {A : Option Addr} {n k : Nat} {Ls : List GL} {gs : List Gn} (h : GsL w r A n k Ls gs) {i : Nat} (hi : i < n) : ∃ g L x, A = some ⟨g, 0, none⟩ ∧ Ls[i]? = some L ∧ gs[i]? = some x ∧ GlAt w L x ∧
    w.cell? ⟨g, i * 5, none⟩ = some (.int .i64 L.c) ∧ w.cell? ⟨g, i * 5 + 1, none⟩ = some (.int .i64 L.v) ∧ w.cell? ⟨g, i * 5 + 2, none⟩ = some (.slice L.A L.n L.k) ∧ w.cell? ⟨g, i * 5 + 3, none⟩ = some (.int .i64 L.e.1) ∧ w.cell? ⟨g, i * 5 + 4, none⟩ = some (.int .i64 L.e.2) := by
  have hl : i < Ls.length := by rw [h.ln]; exact hi
  have hg : i < gs.length := by rw [h.gn]; exact hi
  obtain ⟨g, rfl, _, _, _, _, hc⟩ := gown_at h.own (by omega)
  have hcc := fun j (hj : j < 5) => glC_at Ls i hl j hj
  exact ⟨g, Ls[i], gs[i], rfl, List.getElem?_eq_getElem hl, List.getElem?_eq_getElem hg, h.el i hl hg, hc _ _ (hcc 0 (by omega)), hc _ _ (hcc 1 (by omega)), hc _ _ (hcc 2 (by omega)), hc _ _ (hcc 3 (by omega)), hc _ _ (hcc 4 (by omega))⟩
set_option maxHeartbeats 2000000 in
theorem upTo_any {w : World} {r : Nat} {A : Option Addr} {n k : Nat} {Ls : List GL} {gs : List Gn} (h : GsL w r A n k Ls gs) (hi : GInv gs) {N : Nat} (hN : BdG gs N) (hn : N ≤ 900000) (at_ : Int) :
    Calls Tryz.prog 53 #[.pointer (some ⟨r, 0, none⟩), .int .i64 at_] w fun e w' => e = .returned (.tuple #[.int .i64 (ebl gs (bnd at_) : Int), .int .i64 ((lookG (bnd at_) gs).2 : Int)]) ∧ Below w.heap.size w w' := by
  have hnN : n ≤ N := by rw [← h.gn]; exact hN.1
  have hB0 := (Below.refl w.heap.size w).alloc (Nat.le_refl _) (.cells #[.int .i64 at_, .int .i64 9223372036854775807] 29)
  have HT := kept (two_new w 29 at_ 9223372036854775807)
  have H0 := kept (h.below hB0)
  have HE := kept (endedB_any H0.out hi (bnd at_) (by omega))
  have hlk := (lookG_drop hi (bnd at_)).2
  have hel := ebl_le gs (bnd at_)
  rw [h.gn] at hel
  rw [hlk]
  have HB := kept hB0
  have HBL := fun (L : GL) (x : Gn) (W : World) (h1 : GlAt W L x) (hx : x ∈ gs) => kept (below_any L x (bnd at_) W (RdR.of_own h1.own) (by rw [h1.n]; have := hN.2 x hx; omega) (hi.puts hx))
  simp only [GL.val] at HBL
  generalize ebl gs (bnd at_) = E at HE hel ⊢
  clear hlk hB0 h hi hN
  obtain ⟨t0, t1⟩ := HT.out
  by_cases hEn : E < n
  · obtain ⟨g, L, x, rfl, hL, hx, hat, c0, c1, c2, c3, c4⟩ := H0.out.cells_at hEn
    have hxm := List.mem_of_getElem? hx
    rw [hx]
    have HX := kept (And.intro hat (And.intro c0 (And.intro c1 (And.intro c2 (And.intro c3 c4)))))
    have hlt : (E : Int) < (n : Int) := by omega
    have hE0 : (0 : Int) ≤ (E : Int) := by omega
    have HBL := fun W h1 => HBL L x W h1 hxm
    clear hat c0 c1 c2 c3 c4 hL hx hxm hEn hel
    show Calls _ _ _ _ fun e w' => e = .returned (.tuple #[.int .i64 (E : Int), .int .i64 ((cntR x.ps (bnd at_) : Nat) : Int)]) ∧ Below w.heap.size w w'
    generalize ((cntR x.ps (bnd at_) : Nat) : Int) = P at HBL ⊢
    go_enter Tryz.func53, Tryz.ntmps53
    go_wp2_with fail
    generalize w.alloc (.cells #[.int .i64 at_, .int .i64 9223372036854775807] 29) = W0 at H0 HE HB HT HX t0 t1 ⊢
    with_reducible refine HE.out.mono ?_
    rintro e w1 ⟨rfl, hb⟩
    have hkp := Keeps.of_below hb
    have hbx := (H0.out.below hb).box.cell 0
    have hr : w1.cell? ⟨r, 0, none⟩ = some (.slice (some ⟨g, 0, none⟩) n k) := hbx
    have HS0 := kept (show (fun W' : World => (W'.cell? ⟨w.heap.size, 0, none⟩ = some (.int .i64 at_) ∧ W'.cell? ⟨w.heap.size, 1, none⟩ = some (.int .i64 9223372036854775807) ∧ W'.cell? ⟨r, 0, none⟩ = some (.slice (some ⟨g, 0, none⟩) n k)) ∧ (W'.cell? ⟨g, E * 5, none⟩ = some (.int .i64 L.c) ∧ W'.cell? ⟨g, E * 5 + 1, none⟩ = some (.int .i64 L.v) ∧ W'.cell? ⟨g, E * 5 + 2, none⟩ = some (.slice L.A L.n L.k) ∧ W'.cell? ⟨g, E * 5 + 3, none⟩ = some (.int .i64 L.e.1) ∧ W'.cell? ⟨g, E * 5 + 4, none⟩ = some (.int .i64 L.e.2))) w1.drew from ⟨⟨hkp.cell_ t0, hkp.cell_ t1, hbx⟩, hkp.cell_ HX.out.2.1, hkp.cell_ HX.out.2.2.1, hkp.cell_ HX.out.2.2.2.1, hkp.cell_ HX.out.2.2.2.2.1, hkp.cell_ HX.out.2.2.2.2.2⟩)
    have HB1 := kept (bel_to hb HB.out).drew
    have HBL1 := HBL w1.drew ((HX.out.1.below hb).below (Below.refl w1.heap.size w1).drew)
    clear hb hkp hbx t0 t1
    go_wp2
    clear hr
    refine wp_region_held_drew (S := (fun W' => (W'.cell? ⟨w.heap.size, 0, none⟩ = some (.int .i64 at_) ∧ W'.cell? ⟨w.heap.size, 1, none⟩ = some (.int .i64 9223372036854775807) ∧ W'.cell? ⟨r, 0, none⟩ = some (.slice (some ⟨g, 0, none⟩) n k)) ∧ (W'.cell? ⟨g, E * 5, none⟩ = some (.int .i64 L.c) ∧ W'.cell? ⟨g, E * 5 + 1, none⟩ = some (.int .i64 L.v) ∧ W'.cell? ⟨g, E * 5 + 2, none⟩ = some (.slice L.A L.n L.k) ∧ W'.cell? ⟨g, E * 5 + 3, none⟩ = some (.int .i64 L.e.1) ∧ W'.cell? ⟨g, E * 5 + 4, none⟩ = some (.int .i64 L.e.2)))) (by kernel_rfl) ?_ (fun hHeld => ?_)
    · ((try dsimp only); (first | with_reducible exact HS0.out | with_reducible exact HS1.out))
    refine hand_take 0 (some 21) ?_ (by kernel_rfl) (by kernel_rfl) (by kernel_rfl) (by kernel_rfl) (by kernel_rfl) (fun _ _ _ h => h) ?_ (by assumption) ?_
    rotate_left
    · (intro o ho w hSw; (simp only [List.getElem?_toArray, List.getElem?_cons_succ, List.getElem?_cons_zero, Option.some.injEq] at ho); subst ho; (try dsimp only at hSw); go_simp; (first | done | with_reducible rfl))
    (try simp only [Act.put, List.setIfInBounds_toArray, List.set_cons_zero, List.set_cons_succ])
    refine hand_take 1 (some 22) ?_ (by kernel_rfl) (by kernel_rfl) (by kernel_rfl) (by kernel_rfl) (by kernel_rfl) (fun _ _ _ h => h) ?_ (by assumption) ?_
    rotate_left
    · (intro o ho w hSw; (simp only [List.getElem?_toArray, List.getElem?_cons_succ, List.getElem?_cons_zero, Option.some.injEq] at ho); subst ho; (try dsimp only at hSw); go_simp; (first | done | with_reducible rfl))
    (try simp only [Act.put, List.setIfInBounds_toArray, List.set_cons_zero, List.set_cons_succ])
    refine hand_take 2 (some 23) ?_ (by kernel_rfl) (by kernel_rfl) (by kernel_rfl) (by kernel_rfl) (by kernel_rfl) (fun _ _ _ h => h) ?_ (by assumption) ?_
    rotate_left
    · (intro o ho w hSw; (simp only [List.getElem?_toArray, List.getElem?_cons_succ, List.getElem?_cons_zero, Option.some.injEq] at ho); subst ho; (try dsimp only at hSw); go_simp; (first | done | with_reducible rfl))
    (try simp only [Act.put, List.setIfInBounds_toArray, List.set_cons_zero, List.set_cons_succ])
    refine hand_take 3 (some 24) ?_ (by kernel_rfl) (by kernel_rfl) (by kernel_rfl) (by kernel_rfl) (by kernel_rfl) (fun _ _ _ h => h) ?_ (by assumption) ?_
    rotate_left
    · (intro o ho w hSw; (simp only [List.getElem?_toArray, List.getElem?_cons_succ, List.getElem?_cons_zero, Option.some.injEq] at ho); subst ho; (try dsimp only at hSw); go_simp; (first | done | with_reducible rfl))
    (try simp only [Act.put, List.setIfInBounds_toArray, List.set_cons_zero, List.set_cons_succ])
    refine hand_take 4 (some 25) ?_ (by kernel_rfl) (by kernel_rfl) (by kernel_rfl) (by kernel_rfl) (by kernel_rfl) (fun _ _ _ h => h) ?_ (by assumption) ?_
    rotate_left
    · (intro o ho w hSw; (simp only [List.getElem?_toArray, List.getElem?_cons_succ, List.getElem?_cons_zero, Option.some.injEq] at ho); subst ho; (try dsimp only at hSw); go_simp; (first | done | with_reducible rfl))
    (try simp only [Act.put, List.setIfInBounds_toArray, List.set_cons_zero, List.set_cons_succ])
    refine hand_take 5 (some 26) ?_ (by kernel_rfl) (by kernel_rfl) (by kernel_rfl) (by kernel_rfl) (by kernel_rfl) (fun _ _ _ h => h) ?_ (by assumption) ?_
    rotate_left
    · (intro o ho w hSw; (simp only [List.getElem?_toArray, List.getElem?_cons_succ, List.getElem?_cons_zero, Option.some.injEq] at ho); subst ho; (try dsimp only at hSw); go_simp; (first | done | with_reducible rfl))
    (try simp only [Act.put, List.setIfInBounds_toArray, List.set_cons_zero, List.set_cons_succ])
    refine hand_take 6 (some 27) ?_ (by kernel_rfl) (by kernel_rfl) (by kernel_rfl) (by kernel_rfl) (by kernel_rfl) (fun _ _ _ h => h) ?_ (by assumption) ?_
    rotate_left
    · (intro o ho w hSw; (simp only [List.getElem?_toArray, List.getElem?_cons_succ, List.getElem?_cons_zero, Option.some.injEq] at ho); subst ho; (try dsimp only at hSw); go_simp; (first | done | with_reducible rfl))
    (try simp only [Act.put, List.setIfInBounds_toArray, List.set_cons_zero, List.set_cons_succ])
    refine hand_take 7 (some 28) ?_ (by kernel_rfl) (by kernel_rfl) (by kernel_rfl) (by kernel_rfl) (by kernel_rfl) (fun _ _ _ h => h) ?_ (by assumption) ?_
    rotate_left
    · (intro o ho w hSw; (simp only [List.getElem?_toArray, List.getElem?_cons_succ, List.getElem?_cons_zero, Option.some.injEq] at ho); subst ho; (try dsimp only at hSw); go_simp; (first | done | with_reducible rfl))
    (try simp only [Act.put, List.setIfInBounds_toArray, List.set_cons_zero, List.set_cons_succ])
    refine hand_ready 8 (by kernel_rfl) (by kernel_rfl) (fun o ho K hK => ?_)
    (simp only [List.getElem?_toArray, List.getElem?_cons_succ, List.getElem?_cons_zero, Option.some.injEq] at ho)
    subst ho
    go_simp
    (go_at_call 77; (with_reducible refine HBL1.out.mono ?_); rintro e w2 ⟨rfl, hb⟩; (have hkp := Keeps.of_below hb); (have HS1 := kept (show (fun W' : World => (W'.cell? ⟨w.heap.size, 0, none⟩ = some (.int .i64 at_) ∧ W'.cell? ⟨w.heap.size, 1, none⟩ = some (.int .i64 9223372036854775807) ∧ W'.cell? ⟨r, 0, none⟩ = some (.slice (some ⟨g, 0, none⟩) n k)) ∧ (W'.cell? ⟨g, E * 5, none⟩ = some (.int .i64 L.c) ∧ W'.cell? ⟨g, E * 5 + 1, none⟩ = some (.int .i64 L.v) ∧ W'.cell? ⟨g, E * 5 + 2, none⟩ = some (.slice L.A L.n L.k) ∧ W'.cell? ⟨g, E * 5 + 3, none⟩ = some (.int .i64 L.e.1) ∧ W'.cell? ⟨g, E * 5 + 4, none⟩ = some (.int .i64 L.e.2))) w2 from ⟨⟨hkp.cell_ HS0.out.1.1, hkp.cell_ HS0.out.1.2.1, hkp.cell_ HS0.out.1.2.2⟩, hkp.cell_ HS0.out.2.1, hkp.cell_ HS0.out.2.2.1, hkp.cell_ HS0.out.2.2.2.1, hkp.cell_ HS0.out.2.2.2.2.1, hkp.cell_ HS0.out.2.2.2.2.2⟩)); have HB2 := kept (bel_to hb HB1.out); clear hb hkp)
    (try go_wp2_with fail)
    refine hK.out _ _ ?_ (fun hHeld => ?_)
    · ((try dsimp only); (first | with_reducible exact HS0.out | with_reducible exact HS1.out))
    clear hK K
    (try simp only [Act.put, List.setIfInBounds_toArray, List.set_cons_zero, List.set_cons_succ])
    refine hand_take 9 (some 5) ?_ (by kernel_rfl) (by kernel_rfl) (by kernel_rfl) (by kernel_rfl) (by kernel_rfl) (fun _ _ _ h => h) ?_ (by assumption) ?_
    rotate_left
    · (intro o ho w hSw; (simp only [List.getElem?_toArray, List.getElem?_cons_succ, List.getElem?_cons_zero, Option.some.injEq] at ho); subst ho; (try dsimp only at hSw); go_simp; (first | done | with_reducible rfl))
    (try simp only [Act.put, List.setIfInBounds_toArray, List.set_cons_zero, List.set_cons_succ])
    refine wpAnyH_done (by kernel_rfl) ?_ _
    clear hHeld
    go_wp2
    go_returns
    exact ⟨rfl, HB2.out⟩
  · have hEe : E = n := by omega
    subst hEe
    have hnone : gs[E]? = none := List.getElem?_eq_none (by rw [H0.out.gn]; exact Nat.le_refl _)
    rw [hnone]
    show Calls _ _ _ _ fun e w' => e = .returned (.tuple #[.int .i64 (E : Int), .int .i64 0]) ∧ Below w.heap.size w w'
    have hlt : ¬ (E : Int) < (E : Int) := by omega
    clear hnone HBL hEn hel
    go_enter Tryz.func53, Tryz.ntmps53
    go_wp2_with fail
    generalize w.alloc (.cells #[.int .i64 at_, .int .i64 9223372036854775807] 29) = W0 at H0 HE HB HT t0 t1 ⊢
    with_reducible refine HE.out.mono ?_
    rintro e w1 ⟨rfl, hb⟩
    have hbx : w1.cell? ⟨r, 0, none⟩ = some (.slice A E k) := (H0.out.below hb).box.cell 0
    have HB1 := kept (bel_to hb HB.out)
    clear hb t0 t1
    go_wp2
    go_returns
    exact ⟨rfl, HB1.out⟩
/-- What Get answers. -/
def getV (o : Option (Rv × Int × Int)) : Value := match o with
  | some (q, c, v) => .tuple #[.agg #[.int .i64 q.1, .int .i64 q.2, .int .i64 c, .int .i64 v], .bool true]
  | none => .tuple #[.agg #[.int .i64 0, .int .i64 0, .int .i64 0, .int .i64 0], .bool false]
/-- What getG says, by what upTo finds. -/
theorem getG_none {gs : List Gn} {at_ : Int} (h : (lookG (bnd at_) gs).2 = 0) : getG gs at_ = none := by
  unfold getG
  cases hv : lookG (bnd at_) gs with
  | mk l p =>
    rw [hv] at h
    simp only at h
    subst h
    cases l <;> rfl
theorem getG_some {gs : List Gn} (hi : GInv gs) {at_ : Int} {p : Nat} (h : (lookG (bnd at_) gs).2 = p + 1) : ∃ x z, gs[ebl gs (bnd at_)]? = some x ∧ x.ps[p]? = some z ∧ getG gs at_ = some (z, x.c, wrap64 (x.v + (p : Int))) ∧ compactG gs at_ = { x with ps := x.ps.drop p, v := wrap64 (x.v + (p : Int)) } :: gs.drop (ebl gs (bnd at_) + 1) := by
  obtain ⟨h1, h2⟩ := lookG_drop hi (bnd at_)
  rw [h] at h2
  cases hx : gs[ebl gs (bnd at_)]? with
  | none => rw [hx] at h2; cases h2
  | some x =>
    rw [hx] at h2
    simp only at h2
    have hc := cntR_le x.ps (bnd at_)
    have hp : p < x.ps.length := by omega
    obtain ⟨hl, hxx⟩ := List.getElem?_eq_some_iff.1 hx
    have hd : gs.drop (ebl gs (bnd at_)) = x :: gs.drop (ebl gs (bnd at_) + 1) := by rw [List.drop_eq_getElem_cons hl, hxx]
    refine ⟨x, x.ps[p], rfl, List.getElem?_eq_getElem hp, ?_, ?_⟩
    · unfold getG
      rw [show lookG (bnd at_) gs = (x :: gs.drop (ebl gs (bnd at_) + 1), p + 1) from Prod.ext (h1.trans hd) h]
      simp only [List.getElem?_eq_getElem hp]
    · unfold compactG
      rw [show lookG (bnd at_) gs = (x :: gs.drop (ebl gs (bnd at_) + 1), p + 1) from Prod.ext (h1.trans hd) h]
theorem compactG_none {gs : List Gn} (hi : GInv gs) {at_ : Int} (h : (lookG (bnd at_) gs).2 = 0) : compactG gs at_ = gs.drop (ebl gs (bnd at_)) := by
  have h1 := (lookG_drop hi (bnd at_)).1
  unfold compactG
  cases hv : lookG (bnd at_) gs with
  | mk l p =>
    rw [hv] at h h1
    simp only at h h1
    subst h h1
    cases gs.drop (ebl gs (bnd at_)) <;> rfl
set_option maxHeartbeats 2000000 in
theorem gget_any {w : World} {r : Nat} {F : Nat → Prop} {gs : List Gn} (h : Gs w r F gs) (hi : GInv gs) {N : Nat} (hN : BdG gs N) (hn : N ≤ 900000) (at_ : Int) :
    Calls Tryz.prog 26 #[.pointer (some ⟨r, 0, none⟩), .int .i64 at_] w fun e w' => e = .returned (getV (getG gs at_)) ∧ Below w.heap.size w w' := by
  obtain ⟨A, n, k, Ls, h, hF⟩ := h
  have hB0 := (Below.refl w.heap.size w).alloc (Nat.le_refl _) (.cells #[.int .i64 0, .int .i64 0, .int .i64 0, .int .i64 0] 31)
  have HK := kept (Blk.new w 31 #[.int .i64 0, .int .i64 0, .int .i64 0, .int .i64 0])
  have H0 := kept (h.below hB0)
  have HU := kept (upTo_any H0.out hi hN hn at_)
  have HB := kept hB0
  cases hp : (lookG (bnd at_) gs).2 with
  | zero =>
    rw [getG_none hp]
    rw [hp] at HU
    generalize ebl gs (bnd at_) = E at HU
    clear hp hB0 h hi hN
    show Calls _ _ _ _ fun e w' => e = .returned (.tuple #[.agg #[.int .i64 0, .int .i64 0, .int .i64 0, .int .i64 0], .bool false]) ∧ Below w.heap.size w w'
    go_enter Tryz.func26, Tryz.ntmps26
    go_wp2_with fail
    generalize w.alloc (.cells #[.int .i64 0, .int .i64 0, .int .i64 0, .int .i64 0] 31) = W0 at HK HB HU H0 ⊢
    with_reducible refine HU.out.mono ?_
    rintro e w1 ⟨rfl, hb⟩
    have hk := HK.out.below hb HK.out.lt
    have q0 : w1.cell? ⟨w.heap.size, 0, none⟩ = some (.int .i64 0) := hk.cell 0
    have q1 : w1.cell? ⟨w.heap.size, 1, none⟩ = some (.int .i64 0) := hk.cell 1
    have q2 : w1.cell? ⟨w.heap.size, 2, none⟩ = some (.int .i64 0) := hk.cell 2
    have q3 : w1.cell? ⟨w.heap.size, 3, none⟩ = some (.int .i64 0) := hk.cell 3
    have f0 := hk.frozen 0
    have f1 := hk.frozen 1
    have f2 := hk.frozen 2
    have f3 := hk.frozen 3
    have HB1 := kept (bel_to hb HB.out)
    have HK1 := kept hk
    clear hb hk
    go_wp2
    have hx2 := gstore4 HK1.out HB1.out (Nat.le_refl _) (.int .i64 0) (.int .i64 0) (.int .i64 0) (.int .i64 0)
    generalize (((w1.setCell ⟨w.heap.size, 0, none⟩ (.int .i64 0)).setCell ⟨w.heap.size, 1, none⟩ (.int .i64 0)).setCell ⟨w.heap.size, 2, none⟩ (.int .i64 0)).setCell ⟨w.heap.size, 3, none⟩ (.int .i64 0) = X at hx2 ⊢
    obtain ⟨hbk, hbx, _⟩ := hx2
    have v0 : X.cell? ⟨w.heap.size, 0, none⟩ = some (.int .i64 0) := hbk.cell 0
    have v1 : X.cell? ⟨w.heap.size, 1, none⟩ = some (.int .i64 0) := hbk.cell 1
    have v2 : X.cell? ⟨w.heap.size, 2, none⟩ = some (.int .i64 0) := hbk.cell 2
    have v3 : X.cell? ⟨w.heap.size, 3, none⟩ = some (.int .i64 0) := hbk.cell 3
    exact bodyPost_ret (v := .tuple #[.agg #[.int .i64 0, .int .i64 0, .int .i64 0, .int .i64 0], .bool false]) (by simp [results, Tryz.results26, go_sem, v0, v1, v2, v3]) rfl ⟨rfl, hbx⟩
  | succ p =>
    obtain ⟨x, z, hx, hz, hg, _⟩ := getG_some hi hp
    rw [hg]
    rw [hp] at HU
    obtain ⟨hl, hxx⟩ := List.getElem?_eq_some_iff.1 hx
    have hEn : ebl gs (bnd at_) < n := by rw [← h.gn]; exact hl
    obtain ⟨g, L, x', rfl, hL, hx', hat, c0, c1, c2, c3, c4⟩ := H0.out.cells_at hEn
    obtain rfl : x = x' := by rw [hx] at hx'; exact Option.some.inj hx'
    obtain ⟨hpl, hzz⟩ := List.getElem?_eq_some_iff.1 hz
    have hxN := hN.2 x (List.mem_of_getElem? hx)
    obtain ⟨g2, o2, hA2, z0, z1⟩ := (RdR.of_own hat.own).2 p hpl
    rw [hzz] at z0 z1
    have hpn : (p : Int) < (L.n : Int) := by rw [hat.n]; omega
    have hp0 : (0 : Int) ≤ (p : Int) := by omega
    have hpk : wrap64 (p : Int) = (p : Int) := IntWalk.wrap64_in _ ⟨by omega, by omega⟩
    have hEN : (ebl gs (bnd at_) : Int) < (n : Int) := by omega
    have hE0 : (0 : Int) ≤ (ebl gs (bnd at_) : Int) := by omega
    have hg2w : g2 < w.heap.size := by
      obtain ⟨i, hi1, hi2⟩ := List.getElem_of_mem (List.mem_of_getElem? hL)
      obtain ⟨hl3, hl4⟩ := List.getElem?_eq_some_iff.1 hL
      have hat0 := h.el (ebl gs (bnd at_)) hl3 hl
      rw [hl4] at hat0
      exact hat0.lt (by unfold GL.row; rw [hA2]; rfl)
    rw [hA2] at c2
    have HF := fun W => kept (found_any L z (p : Int) W)
    simp only [GL.val] at HF
    rw [hA2, hat.c, hat.v] at HF
    rw [hat.c] at c0
    rw [hat.v] at c1
    have HX := kept (And.intro c0 (And.intro c1 (And.intro c2 (And.intro c3 (And.intro c4 (And.intro z0 z1))))))
    generalize ebl gs (bnd at_) = E at HU HX hEN hE0
    clear hx' hx hz hzz hxx hl hL hat c0 c1 c2 c3 c4 z0 z1 hg hp hB0 hi hN hpl hxN hEn hF
    show Calls _ _ _ _ fun e w' => e = .returned (.tuple #[.agg #[.int .i64 z.1, .int .i64 z.2, .int .i64 x.c, .int .i64 (wrap64 (x.v + (p : Int)))], .bool true]) ∧ Below w.heap.size w w'
    generalize wrap64 (x.v + (p : Int)) = vv at HF ⊢
    generalize x.c = cc at HF HX ⊢
    generalize x.v = xv at HF HX
    go_enter Tryz.func26, Tryz.ntmps26
    go_wp2_with fail
    generalize w.alloc (.cells #[.int .i64 0, .int .i64 0, .int .i64 0, .int .i64 0] 31) = W0 at HK HB HU H0 HX ⊢
    with_reducible refine HU.out.mono ?_
    rintro e w1 ⟨rfl, hb⟩
    have hkp := Keeps.of_below hb
    have hr : w1.cell? ⟨r, 0, none⟩ = some (.slice (some ⟨g, 0, none⟩) n k) := (H0.out.below hb).box.cell 0
    obtain ⟨c0, c1, c2, c3, c4, z0, z1⟩ := HX.out
    replace c0 := hkp.cell_ c0
    replace c1 := hkp.cell_ c1
    replace c2 := hkp.cell_ c2
    replace c3 := hkp.cell_ c3
    replace c4 := hkp.cell_ c4
    have HK1 := kept (HK.out.below hb HK.out.lt)
    have HB1 := kept (bel_to hb HB.out)
    have HZ1 := kept (And.intro (hkp.cell_ z0) (hkp.cell_ z1))
    clear hb hkp z0 z1
    have hb2 : Below w1.heap.size w1 (w1.alloc (.cells #[.int .i64 cc, .int .i64 xv, .slice (some ⟨g2, o2, none⟩) L.n L.k, .int .i64 L.e.1, .int .i64 L.e.2] 99)).drew := ((Below.refl _ w1).alloc (Nat.le_refl _) _).drew
    have hq2 : Blk (w1.alloc (.cells #[.int .i64 cc, .int .i64 xv, .slice (some ⟨g2, o2, none⟩) L.n L.k, .int .i64 L.e.1, .int .i64 L.e.2] 99)).drew w1.heap.size 99 [.int .i64 cc, .int .i64 xv, .slice (some ⟨g2, o2, none⟩) L.n L.k, .int .i64 L.e.1, .int .i64 L.e.2] := Blk.new w1 99 #[.int .i64 cc, .int .i64 xv, .slice (some ⟨g2, o2, none⟩) L.n L.k, .int .i64 L.e.1, .int .i64 L.e.2]
    have HS0 := kept (show (fun W' : World => (W'.cell? ⟨w1.heap.size, 0, none⟩ = some (.int .i64 cc) ∧ W'.cell? ⟨w1.heap.size, 1, none⟩ = some (.int .i64 xv) ∧ W'.cell? ⟨w1.heap.size, 2, none⟩ = some (.slice (some ⟨g2, o2, none⟩) L.n L.k) ∧ W'.cell? ⟨w1.heap.size, 3, none⟩ = some (.int .i64 L.e.1) ∧ W'.cell? ⟨w1.heap.size, 4, none⟩ = some (.int .i64 L.e.2)) ∧ (W'.cell? ⟨g2, o2 + p * 2, none⟩ = some (.int .i64 z.1) ∧ W'.cell? ⟨g2, o2 + p * 2 + 1, none⟩ = some (.int .i64 z.2))) (w1.alloc (.cells #[.int .i64 cc, .int .i64 xv, .slice (some ⟨g2, o2, none⟩) L.n L.k, .int .i64 L.e.1, .int .i64 L.e.2] 99)).drew from ⟨⟨hq2.cell 0, hq2.cell 1, hq2.cell 2, hq2.cell 3, hq2.cell 4⟩, (Keeps.of_below hb2).cell_ HZ1.out.1, (Keeps.of_below hb2).cell_ HZ1.out.2⟩)
    have HK2 := kept (HK1.out.below hb2 HK1.out.lt)
    have HB2 := kept (bel_to hb2 HB1.out)
    have hwn : w.heap.size < w1.heap.size := HK1.out.lt
    have hg2 : g2 < w.heap.size := hg2w
    clear hb2 hq2
    go_wp2
    simp only [hpk]
    clear hr c0 c1 c2 c3 c4
    refine wp_region_held_drew (S := (fun W' => (W'.cell? ⟨w1.heap.size, 0, none⟩ = some (.int .i64 cc) ∧ W'.cell? ⟨w1.heap.size, 1, none⟩ = some (.int .i64 xv) ∧ W'.cell? ⟨w1.heap.size, 2, none⟩ = some (.slice (some ⟨g2, o2, none⟩) L.n L.k) ∧ W'.cell? ⟨w1.heap.size, 3, none⟩ = some (.int .i64 L.e.1) ∧ W'.cell? ⟨w1.heap.size, 4, none⟩ = some (.int .i64 L.e.2)) ∧ (W'.cell? ⟨g2, o2 + p * 2, none⟩ = some (.int .i64 z.1) ∧ W'.cell? ⟨g2, o2 + p * 2 + 1, none⟩ = some (.int .i64 z.2)))) (by kernel_rfl) ?_ (fun hHeld => ?_)
    · ((try dsimp only); (first | with_reducible exact HS0.out | with_reducible exact HS1.out | (with_reducible exact HS2.out)))
    (generalize (w1.alloc (.cells #[.int .i64 cc, .int .i64 xv, .slice (some ⟨g2, o2, none⟩) L.n L.k, .int .i64 L.e.1, .int .i64 L.e.2] 99)).drew = W2 at HS0 HK2 HB2 hHeld ⊢)
    refine hand_take 0 (some 28) ?_ (by kernel_rfl) (by kernel_rfl) (by kernel_rfl) (by kernel_rfl) (by kernel_rfl) (fun _ _ _ h => h) ?_ (by assumption) ?_
    rotate_left
    · (intro o ho w hSw; (simp only [List.getElem?_toArray, List.getElem?_cons_succ, List.getElem?_cons_zero, Option.some.injEq] at ho); subst ho; (try dsimp only at hSw); go_simp; (first | done | with_reducible rfl))
    (try simp only [Act.put, List.setIfInBounds_toArray, List.set_cons_zero, List.set_cons_succ])
    refine hand_take 1 (some 29) ?_ (by kernel_rfl) (by kernel_rfl) (by kernel_rfl) (by kernel_rfl) (by kernel_rfl) (fun _ _ _ h => h) ?_ (by assumption) ?_
    rotate_left
    · (intro o ho w hSw; (simp only [List.getElem?_toArray, List.getElem?_cons_succ, List.getElem?_cons_zero, Option.some.injEq] at ho); subst ho; (try dsimp only at hSw); go_simp; (first | done | with_reducible rfl))
    (try simp only [Act.put, List.setIfInBounds_toArray, List.set_cons_zero, List.set_cons_succ])
    refine hand_take 2 (some 30) ?_ (by kernel_rfl) (by kernel_rfl) (by kernel_rfl) (by kernel_rfl) (by kernel_rfl) (fun _ _ _ h => h) ?_ (by assumption) ?_
    rotate_left
    · (intro o ho w hSw; (simp only [List.getElem?_toArray, List.getElem?_cons_succ, List.getElem?_cons_zero, Option.some.injEq] at ho); subst ho; (try dsimp only at hSw); go_simp; (first | done | with_reducible rfl))
    (try simp only [Act.put, List.setIfInBounds_toArray, List.set_cons_zero, List.set_cons_succ])
    refine hand_take 3 (some 31) ?_ (by kernel_rfl) (by kernel_rfl) (by kernel_rfl) (by kernel_rfl) (by kernel_rfl) (fun _ _ _ h => h) ?_ (by assumption) ?_
    rotate_left
    · (intro o ho w hSw; (simp only [List.getElem?_toArray, List.getElem?_cons_succ, List.getElem?_cons_zero, Option.some.injEq] at ho); subst ho; (try dsimp only at hSw); go_simp; (first | done | with_reducible rfl))
    (try simp only [Act.put, List.setIfInBounds_toArray, List.set_cons_zero, List.set_cons_succ])
    refine hand_take 4 (some 32) ?_ (by kernel_rfl) (by kernel_rfl) (by kernel_rfl) (by kernel_rfl) (by kernel_rfl) (fun _ _ _ h => h) ?_ (by assumption) ?_
    rotate_left
    · (intro o ho w hSw; (simp only [List.getElem?_toArray, List.getElem?_cons_succ, List.getElem?_cons_zero, Option.some.injEq] at ho); subst ho; (try dsimp only at hSw); go_simp; (first | done | with_reducible rfl))
    (try simp only [Act.put, List.setIfInBounds_toArray, List.set_cons_zero, List.set_cons_succ])
    refine hand_take 5 (some 33) ?_ (by kernel_rfl) (by kernel_rfl) (by kernel_rfl) (by kernel_rfl) (by kernel_rfl) (fun _ _ _ h => h) ?_ (by assumption) ?_
    rotate_left
    · (intro o ho w hSw; (simp only [List.getElem?_toArray, List.getElem?_cons_succ, List.getElem?_cons_zero, Option.some.injEq] at ho); subst ho; (try dsimp only at hSw); go_simp; (first | done | with_reducible rfl))
    (try simp only [Act.put, List.setIfInBounds_toArray, List.set_cons_zero, List.set_cons_succ])
    refine hand_take 6 (some 34) ?_ (by kernel_rfl) (by kernel_rfl) (by kernel_rfl) (by kernel_rfl) (by kernel_rfl) (fun _ _ _ h => h) ?_ (by assumption) ?_
    rotate_left
    · (intro o ho w hSw; (simp only [List.getElem?_toArray, List.getElem?_cons_succ, List.getElem?_cons_zero, Option.some.injEq] at ho); subst ho; (try dsimp only at hSw); go_simp; (first | done | with_reducible rfl))
    (try simp only [Act.put, List.setIfInBounds_toArray, List.set_cons_zero, List.set_cons_succ])
    refine hand_ready 7 (by kernel_rfl) (by kernel_rfl) (fun o ho K hK => ?_)
    (simp only [List.getElem?_toArray, List.getElem?_cons_succ, List.getElem?_cons_zero, Option.some.injEq] at ho)
    subst ho
    go_simp
    (go_at_call 54; (with_reducible refine (HF _).out.mono ?_); rintro e w3 ⟨rfl, hb⟩; (have hkp := Keeps.of_below hb); (have HS1 := kept (show (fun W' : World => (W'.cell? ⟨w1.heap.size, 0, none⟩ = some (.int .i64 cc) ∧ W'.cell? ⟨w1.heap.size, 1, none⟩ = some (.int .i64 xv) ∧ W'.cell? ⟨w1.heap.size, 2, none⟩ = some (.slice (some ⟨g2, o2, none⟩) L.n L.k) ∧ W'.cell? ⟨w1.heap.size, 3, none⟩ = some (.int .i64 L.e.1) ∧ W'.cell? ⟨w1.heap.size, 4, none⟩ = some (.int .i64 L.e.2)) ∧ (W'.cell? ⟨g2, o2 + p * 2, none⟩ = some (.int .i64 z.1) ∧ W'.cell? ⟨g2, o2 + p * 2 + 1, none⟩ = some (.int .i64 z.2))) w3 from ⟨⟨hkp.cell_ HS0.out.1.1, hkp.cell_ HS0.out.1.2.1, hkp.cell_ HS0.out.1.2.2.1, hkp.cell_ HS0.out.1.2.2.2.1, hkp.cell_ HS0.out.1.2.2.2.2⟩, hkp.cell_ HS0.out.2.1, hkp.cell_ HS0.out.2.2⟩)); have HB3 := kept (bel_to hb HB2.out); have HK3 := kept (HK2.out.below hb HK2.out.lt); (have q0 : w3.cell? ⟨w.heap.size, 0, none⟩ = some (.int .i64 0) := HK3.out.cell 0); (have q1 : w3.cell? ⟨w.heap.size, 1, none⟩ = some (.int .i64 0) := HK3.out.cell 1); (have q2 : w3.cell? ⟨w.heap.size, 2, none⟩ = some (.int .i64 0) := HK3.out.cell 2); (have q3 : w3.cell? ⟨w.heap.size, 3, none⟩ = some (.int .i64 0) := HK3.out.cell 3); have f0 := HK3.out.frozen 0; have f1 := HK3.out.frozen 1; have f2 := HK3.out.frozen 2; have f3 := HK3.out.frozen 3; clear hb hkp)
    (try go_wp2_with fail)
    refine hK.out _ _ ?_ (fun hHeld => ?_)
    · ((try dsimp only); (first | with_reducible exact HS0.out | with_reducible exact HS1.out | (with_reducible exact HS2.out)))
    clear hK K
    (try simp only [Act.put, List.setIfInBounds_toArray, List.set_cons_zero, List.set_cons_succ])
    refine hand_ready 8 (by kernel_rfl) (by kernel_rfl) (fun o ho K hK => ?_)
    (simp only [List.getElem?_toArray, List.getElem?_cons_succ, List.getElem?_cons_zero, Option.some.injEq] at ho)
    subst ho
    go_simp
    (have hx2 := gstore4 HK3.out HB3.out (Nat.le_refl _) (.int .i64 z.1) (.int .i64 z.2) (.int .i64 cc) (.int .i64 vv); generalize (((w3.setCell ⟨w.heap.size, 0, none⟩ (.int .i64 z.1)).setCell ⟨w.heap.size, 1, none⟩ (.int .i64 z.2)).setCell ⟨w.heap.size, 2, none⟩ (.int .i64 cc)).setCell ⟨w.heap.size, 3, none⟩ (.int .i64 vv) = X at hx2 ⊢; have HX := kept hx2; (have HS2 := kept (show (fun W' : World => (W'.cell? ⟨w1.heap.size, 0, none⟩ = some (.int .i64 cc) ∧ W'.cell? ⟨w1.heap.size, 1, none⟩ = some (.int .i64 xv) ∧ W'.cell? ⟨w1.heap.size, 2, none⟩ = some (.slice (some ⟨g2, o2, none⟩) L.n L.k) ∧ W'.cell? ⟨w1.heap.size, 3, none⟩ = some (.int .i64 L.e.1) ∧ W'.cell? ⟨w1.heap.size, 4, none⟩ = some (.int .i64 L.e.2)) ∧ (W'.cell? ⟨g2, o2 + p * 2, none⟩ = some (.int .i64 z.1) ∧ W'.cell? ⟨g2, o2 + p * 2 + 1, none⟩ = some (.int .i64 z.2))) X from (by obtain ⟨⟨s0, s1, s2, s3, s4⟩, s5, s6⟩ := HS1.out; have hf := hx2.2.2; exact ⟨⟨(hf _ (by show w1.heap.size ≠ w.heap.size; omega)).trans s0, (hf _ (by show w1.heap.size ≠ w.heap.size; omega)).trans s1, (hf _ (by show w1.heap.size ≠ w.heap.size; omega)).trans s2, (hf _ (by show w1.heap.size ≠ w.heap.size; omega)).trans s3, (hf _ (by show w1.heap.size ≠ w.heap.size; omega)).trans s4⟩, (hf _ (by show g2 ≠ w.heap.size; omega)).trans s5, (hf _ (by show g2 ≠ w.heap.size; omega)).trans s6⟩))); clear hx2 q0 q1 q2 q3 f0 f1 f2 f3)
    refine hK.out _ _ ?_ (fun hHeld => ?_)
    · ((try dsimp only); (first | with_reducible exact HS0.out | with_reducible exact HS1.out | (with_reducible exact HS2.out)))
    clear hK K
    (try simp only [Act.put, List.setIfInBounds_toArray, List.set_cons_zero, List.set_cons_succ])
    refine hand_take 9 (some 5) ?_ (by kernel_rfl) (by kernel_rfl) (by kernel_rfl) (by kernel_rfl) (by kernel_rfl) (fun _ _ _ h => h) ?_ (by assumption) ?_
    rotate_left
    · (intro o ho w hSw; (simp only [List.getElem?_toArray, List.getElem?_cons_succ, List.getElem?_cons_zero, Option.some.injEq] at ho); subst ho; (try dsimp only at hSw); go_simp; (first | done | with_reducible rfl))
    (try simp only [Act.put, List.setIfInBounds_toArray, List.set_cons_zero, List.set_cons_succ])
    refine wpAnyH_done (by kernel_rfl) ?_ _
    clear hHeld
    go_wp2
    obtain ⟨hbk, hbx, _⟩ := HX.out
    have v0 : X.cell? ⟨w.heap.size, 0, none⟩ = some (.int .i64 z.1) := hbk.cell 0
    have v1 : X.cell? ⟨w.heap.size, 1, none⟩ = some (.int .i64 z.2) := hbk.cell 1
    have v2 : X.cell? ⟨w.heap.size, 2, none⟩ = some (.int .i64 cc) := hbk.cell 2
    have v3 : X.cell? ⟨w.heap.size, 3, none⟩ = some (.int .i64 vv) := hbk.cell 3
    exact bodyPost_ret (v := .tuple #[.agg #[.int .i64 z.1, .int .i64 z.2, .int .i64 cc, .int .i64 vv], .bool true]) (by simp [results, Tryz.results26, go_sem, v0, v1, v2, v3]) rfl ⟨rfl, hbx⟩
end Go.Proofs.YtlckeebbjnhejaaGreat
end
