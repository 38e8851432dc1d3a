/-
  Texts laid together: Go Gt.
-/
import Derived.Test.YtlckeebbjnhejaaGreatBGf
import Derived.Test.YtlckeebbjnhejaaGreatBGh
section
/-
  package gens, call by call: upTo, Get.
-/
namespace Go.Proofs.YtlckeebbjnhejaaGreat
open Go.ChangeShapes Go.WideShapes Go.ChangeAt Go.RowKit Go.Deep
set_option linter.unusedVariables false
set_option linter.unusedSimpArgs false

/-- Generation i as it lies. -/
theorem GsL.cells_at {w : World} {r : Nat} {A : Option Addr} {n k : Nat} {Ls : List GL} {gs : List Gn} (h : GsL w r A n k Ls gs) {i : Nat} (hi : i < n) : ∃ g L x, A = some ⟨g, 0, none⟩ ∧ Ls[i]? = some L ∧ gs[i]? = some x ∧ GlAt w L x ∧
    w.cell? ⟨g, i * 5, none⟩ = some (.int .i64 L.c) ∧ w.cell? ⟨g, i * 5 + 1, none⟩ = some (.int .i64 L.v) ∧ w.cell? ⟨g, i * 5 + 2, none⟩ = some (.slice L.A L.n L.k) ∧ w.cell? ⟨g, i * 5 + 3, none⟩ = some (.int .i64 L.e.1) ∧ w.cell? ⟨g, i * 5 + 4, none⟩ = some (.int .i64 L.e.2) := by
  have hl : i < Ls.length := by rw [h.ln]; exact hi
  have hg : i < gs.length := by rw [h.gn]; exact hi
  obtain ⟨g, rfl, _, _, _, _, hc⟩ := gown_at h.own (by omega)
  have hcc := fun j (hj : j < 5) => glC_at Ls i hl j hj
  exact ⟨g, Ls[i], gs[i], rfl, List.getElem?_eq_getElem hl, List.getElem?_eq_getElem hg, h.el i hl hg, hc _ _ (hcc 0 (by omega)), hc _ _ (hcc 1 (by omega)), hc _ _ (hcc 2 (by omega)), hc _ _ (hcc 3 (by omega)), hc _ _ (hcc 4 (by omega))⟩
set_option maxHeartbeats 2000000 in
theorem upTo_any {w : World} {r : Nat} {A : Option Addr} {n k : Nat} {Ls : List GL} {gs : List Gn} (h : GsL w r A n k Ls gs) (hi : GInv gs) {N : Nat} (hN : BdG gs N) (hn : N ≤ 900000) (at_ : Int) :
    Calls Tryz.prog 53 #[.pointer (some ⟨r, 0, none⟩), .int .i64 at_] w fun e w' => e = .returned (.tuple #[.int .i64 (ebl gs (bnd at_) : Int), .int .i64 ((lookG (bnd at_) gs).2 : Int)]) ∧ Below w.heap.size w w' := by
  have hnN : n ≤ N := by rw [← h.gn]; exact hN.1
  have hB0 := (Below.refl w.heap.size w).alloc (Nat.le_refl _) (.cells #[.int .i64 at_, .int .i64 9223372036854775807] 29)
  have HT := kept (two_new w 29 at_ 9223372036854775807)
  have H0 := kept (h.below hB0)
  have HE := kept (endedB_any H0.out hi (bnd at_) (by omega))
  have hlk := (lookG_drop hi (bnd at_)).2
  have hel := ebl_le gs (bnd at_)
  rw [h.gn] at hel
  rw [hlk]
  have HB := kept hB0
  have HBL := fun (L : GL) (x : Gn) (W : World) (h1 : GlAt W L x) (hx : x ∈ gs) => kept (below_any L x (bnd at_) W (RdR.of_own h1.own) (by rw [h1.n]; have := hN.2 x hx; omega) (hi.puts hx))
  simp only [GL.val] at HBL
  generalize ebl gs (bnd at_) = E at HE hel ⊢
  clear hlk hB0 h hi hN
  obtain ⟨t0, t1⟩ := HT.out
  by_cases hEn : E < n
  · obtain ⟨g, L, x, rfl, hL, hx, hat, c0, c1, c2, c3, c4⟩ := H0.out.cells_at hEn
    have hxm := List.mem_of_getElem? hx
    rw [hx]
    have HX := kept (And.intro hat (And.intro c0 (And.intro c1 (And.intro c2 (And.intro c3 c4)))))
    have hlt : (E : Int) < (n : Int) := by omega
    have hE0 : (0 : Int) ≤ (E : Int) := by omega
    have HBL := fun W h1 => HBL L x W h1 hxm
    clear hat c0 c1 c2 c3 c4 hL hx hxm hEn hel
    show Calls _ _ _ _ fun e w' => e = .returned (.tuple #[.int .i64 (E : Int), .int .i64 ((cntR x.ps (bnd at_) : Nat) : Int)]) ∧ Below w.heap.size w w'
    generalize ((cntR x.ps (bnd at_) : Nat) : Int) = P at HBL ⊢
    go_enter Tryz.func53, Tryz.ntmps53
    go_wp2_with fail
    generalize w.alloc (.cells #[.int .i64 at_, .int .i64 9223372036854775807] 29) = W0 at H0 HE HB HT HX t0 t1 ⊢
    with_reducible refine HE.out.mono ?_
    rintro e w1 ⟨rfl, hb⟩
    have hkp := Keeps.of_below hb
    have hbx := (H0.out.below hb).box.cell 0
    have hr : w1.cell? ⟨r, 0, none⟩ = some (.slice (some ⟨g, 0, none⟩) n k) := hbx
    have HS0 := kept (show (fun W' : World => (W'.cell? ⟨w.heap.size, 0, none⟩ = some (.int .i64 at_) ∧ W'.cell? ⟨w.heap.size, 1, none⟩ = some (.int .i64 9223372036854775807) ∧ W'.cell? ⟨r, 0, none⟩ = some (.slice (some ⟨g, 0, none⟩) n k)) ∧ (W'.cell? ⟨g, E * 5, none⟩ = some (.int .i64 L.c) ∧ W'.cell? ⟨g, E * 5 + 1, none⟩ = some (.int .i64 L.v) ∧ W'.cell? ⟨g, E * 5 + 2, none⟩ = some (.slice L.A L.n L.k) ∧ W'.cell? ⟨g, E * 5 + 3, none⟩ = some (.int .i64 L.e.1) ∧ W'.cell? ⟨g, E * 5 + 4, none⟩ = some (.int .i64 L.e.2))) w1.drew from ⟨⟨hkp.cell_ t0, hkp.cell_ t1, hbx⟩, hkp.cell_ HX.out.2.1, hkp.cell_ HX.out.2.2.1, hkp.cell_ HX.out.2.2.2.1, hkp.cell_ HX.out.2.2.2.2.1, hkp.cell_ HX.out.2.2.2.2.2⟩)
    have HB1 := kept (bel_to hb HB.out).drew
    have HBL1 := HBL w1.drew ((HX.out.1.below hb).below (Below.refl w1.heap.size w1).drew)
    clear hb hkp hbx t0 t1
    go_wp2
    clear hr
    refine wp_region_held_drew (S := (fun W' => (W'.cell? ⟨w.heap.size, 0, none⟩ = some (.int .i64 at_) ∧ W'.cell? ⟨w.heap.size, 1, none⟩ = some (.int .i64 9223372036854775807) ∧ W'.cell? ⟨r, 0, none⟩ = some (.slice (some ⟨g, 0, none⟩) n k)) ∧ (W'.cell? ⟨g, E * 5, none⟩ = some (.int .i64 L.c) ∧ W'.cell? ⟨g, E * 5 + 1, none⟩ = some (.int .i64 L.v) ∧ W'.cell? ⟨g, E * 5 + 2, none⟩ = some (.slice L.A L.n L.k) ∧ W'.cell? ⟨g, E * 5 + 3, none⟩ = some (.int .i64 L.e.1) ∧ W'.cell? ⟨g, E * 5 + 4, none⟩ = some (.int .i64 L.e.2)))) (by kernel_rfl) ?_ (fun hHeld => ?_)
    · ((try dsimp only); (first | with_reducible exact HS0.out | with_reducible exact HS1.out))
    refine hand_take 0 (some 21) ?_ (by kernel_rfl) (by kernel_rfl) (by kernel_rfl) (by kernel_rfl) (by kernel_rfl) (fun _ _ _ h => h) ?_ (by assumption) ?_
    rotate_left
    · (intro o ho w hSw; (simp only [List.getElem?_toArray, List.getElem?_cons_succ, List.getElem?_cons_zero, Option.some.injEq] at ho); subst ho; (try dsimp only at hSw); go_simp; (first | done | with_reducible rfl))
    (try simp only [Act.put, List.setIfInBounds_toArray, List.set_cons_zero, List.set_cons_succ])
    refine hand_take 1 (some 22) ?_ (by kernel_rfl) (by kernel_rfl) (by kernel_rfl) (by kernel_rfl) (by kernel_rfl) (fun _ _ _ h => h) ?_ (by assumption) ?_
    rotate_left
    · (intro o ho w hSw; (simp only [List.getElem?_toArray, List.getElem?_cons_succ, List.getElem?_cons_zero, Option.some.injEq] at ho); subst ho; (try dsimp only at hSw); go_simp; (first | done | with_reducible rfl))
    (try simp only [Act.put, List.setIfInBounds_toArray, List.set_cons_zero, List.set_cons_succ])
    refine hand_take 2 (some 23) ?_ (by kernel_rfl) (by kernel_rfl) (by kernel_rfl) (by kernel_rfl) (by kernel_rfl) (fun _ _ _ h => h) ?_ (by assumption) ?_
    rotate_left
    · (intro o ho w hSw; (simp only [List.getElem?_toArray, List.getElem?_cons_succ, List.getElem?_cons_zero, Option.some.injEq] at ho); subst ho; (try dsimp only at hSw); go_simp; (first | done | with_reducible rfl))
    (try simp only [Act.put, List.setIfInBounds_toArray, List.set_cons_zero, List.set_cons_succ])
    refine hand_take 3 (some 24) ?_ (by kernel_rfl) (by kernel_rfl) (by kernel_rfl) (by kernel_rfl) (by kernel_rfl) (fun _ _ _ h => h) ?_ (by assumption) ?_
    rotate_left
    · (intro o ho w hSw; (simp only [List.getElem?_toArray, List.getElem?_cons_succ, List.getElem?_cons_zero, Option.some.injEq] at ho); subst ho; (try dsimp only at hSw); go_simp; (first | done | with_reducible rfl))
    (try simp only [Act.put, List.setIfInBounds_toArray, List.set_cons_zero, List.set_cons_succ])
    refine hand_take 4 (some 25) ?_ (by kernel_rfl) (by kernel_rfl) (by kernel_rfl) (by kernel_rfl) (by kernel_rfl) (fun _ _ _ h => h) ?_ (by assumption) ?_
    rotate_left
    · (intro o ho w hSw; (simp only [List.getElem?_toArray, List.getElem?_cons_succ, List.getElem?_cons_zero, Option.some.injEq] at ho); subst ho; (try dsimp only at hSw); go_simp; (first | done | with_reducible rfl))
    (try simp only [Act.put, List.setIfInBounds_toArray, List.set_cons_zero, List.set_cons_succ])
    refine hand_take 5 (some 26) ?_ (by kernel_rfl) (by kernel_rfl) (by kernel_rfl) (by kernel_rfl) (by kernel_rfl) (fun _ _ _ h => h) ?_ (by assumption) ?_
    rotate_left
    · (intro o ho w hSw; (simp only [List.getElem?_toArray, List.getElem?_cons_succ, List.getElem?_cons_zero, Option.some.injEq] at ho); subst ho; (try dsimp only at hSw); go_simp; (first | done | with_reducible rfl))
    (try simp only [Act.put, List.setIfInBounds_toArray, List.set_cons_zero, List.set_cons_succ])
    refine hand_take 6 (some 27) ?_ (by kernel_rfl) (by kernel_rfl) (by kernel_rfl) (by kernel_rfl) (by kernel_rfl) (fun _ _ _ h => h) ?_ (by assumption) ?_
    rotate_left
    · (intro o ho w hSw; (simp only [List.getElem?_toArray, List.getElem?_cons_succ, List.getElem?_cons_zero, Option.some.injEq] at ho); subst ho; (try dsimp only at hSw); go_simp; (first | done | with_reducible rfl))
    (try simp only [Act.put, List.setIfInBounds_toArray, List.set_cons_zero, List.set_cons_succ])
    refine hand_take 7 (some 28) ?_ (by kernel_rfl) (by kernel_rfl) (by kernel_rfl) (by kernel_rfl) (by kernel_rfl) (fun _ _ _ h => h) ?_ (by assumption) ?_
    rotate_left
    · (intro o ho w hSw; (simp only [List.getElem?_toArray, List.getElem?_cons_succ, List.getElem?_cons_zero, Option.some.injEq] at ho); subst ho; (try dsimp only at hSw); go_simp; (first | done | with_reducible rfl))
    (try simp only [Act.put, List.setIfInBounds_toArray, List.set_cons_zero, List.set_cons_succ])
    refine hand_ready 8 (by kernel_rfl) (by kernel_rfl) (fun o ho K hK => ?_)
    (simp only [List.getElem?_toArray, List.getElem?_cons_succ, List.getElem?_cons_zero, Option.some.injEq] at ho)
    subst ho
    go_simp
    (go_at_call 77; (with_reducible refine HBL1.out.mono ?_); rintro e w2 ⟨rfl, hb⟩; (have hkp := Keeps.of_below hb); (have HS1 := kept (show (fun W' : World => (W'.cell? ⟨w.heap.size, 0, none⟩ = some (.int .i64 at_) ∧ W'.cell? ⟨w.heap.size, 1, none⟩ = some (.int .i64 9223372036854775807) ∧ W'.cell? ⟨r, 0, none⟩ = some (.slice (some ⟨g, 0, none⟩) n k)) ∧ (W'.cell? ⟨g, E * 5, none⟩ = some (.int .i64 L.c) ∧ W'.cell? ⟨g, E * 5 + 1, none⟩ = some (.int .i64 L.v) ∧ W'.cell? ⟨g, E * 5 + 2, none⟩ = some (.slice L.A L.n L.k) ∧ W'.cell? ⟨g, E * 5 + 3, none⟩ = some (.int .i64 L.e.1) ∧ W'.cell? ⟨g, E * 5 + 4, none⟩ = some (.int .i64 L.e.2))) w2 from ⟨⟨hkp.cell_ HS0.out.1.1, hkp.cell_ HS0.out.1.2.1, hkp.cell_ HS0.out.1.2.2⟩, hkp.cell_ HS0.out.2.1, hkp.cell_ HS0.out.2.2.1, hkp.cell_ HS0.out.2.2.2.1, hkp.cell_ HS0.out.2.2.2.2.1, hkp.cell_ HS0.out.2.2.2.2.2⟩)); have HB2 := kept (bel_to hb HB1.out); clear hb hkp)
    (try go_wp2_with fail)
    refine hK.out _ _ ?_ (fun hHeld => ?_)
    · ((try dsimp only); (first | with_reducible exact HS0.out | with_reducible exact HS1.out))
    clear hK K
    (try simp only [Act.put, List.setIfInBounds_toArray, List.set_cons_zero, List.set_cons_succ])
    refine hand_take 9 (some 5) ?_ (by kernel_rfl) (by kernel_rfl) (by kernel_rfl) (by kernel_rfl) (by kernel_rfl) (fun _ _ _ h => h) ?_ (by assumption) ?_
    rotate_left
    · (intro o ho w hSw; (simp only [List.getElem?_toArray, List.getElem?_cons_succ, List.getElem?_cons_zero, Option.some.injEq] at ho); subst ho; (try dsimp only at hSw); go_simp; (first | done | with_reducible rfl))
    (try simp only [Act.put, List.setIfInBounds_toArray, List.set_cons_zero, List.set_cons_succ])
    refine wpAnyH_done (by kernel_rfl) ?_ _
    clear hHeld
    go_wp2
    go_returns
    exact ⟨rfl, HB2.out⟩
  · have hEe : E = n := by omega
    subst hEe
    have hnone : gs[E]? = none := List.getElem?_eq_none (by rw [H0.out.gn]; exact Nat.le_refl _)
    rw [hnone]
    show Calls _ _ _ _ fun e w' => e = .returned (.tuple #[.int .i64 (E : Int), .int .i64 0]) ∧ Below w.heap.size w w'
    have hlt : ¬ (E : Int) < (E : Int) := by omega
    clear hnone HBL hEn hel
    go_enter Tryz.func53, Tryz.ntmps53
    go_wp2_with fail
    generalize w.alloc (.cells #[.int .i64 at_, .int .i64 9223372036854775807] 29) = W0 at H0 HE HB HT t0 t1 ⊢
    with_reducible refine HE.out.mono ?_
    rintro e w1 ⟨rfl, hb⟩
    have hbx : w1.cell? ⟨r, 0, none⟩ = some (.slice A E k) := (H0.out.below hb).box.cell 0
    have HB1 := kept (bel_to hb HB.out)
    clear hb t0 t1
    go_wp2
    go_returns
    exact ⟨rfl, HB1.out⟩
/-- What Get answers. -/
def getV (o : Option (Rv × Int × Int)) : Value := match o with
  | some (q, c, v) => .tuple #[.agg #[.int .i64 q.1, .int .i64 q.2, .int .i64 c, .int .i64 v], .bool true]
  | none => .tuple #[.agg #[.int .i64 0, .int .i64 0, .int .i64 0, .int .i64 0], .bool false]
/-- What getG says, by what upTo finds. -/
theorem getG_none {gs : List Gn} {at_ : Int} (h : (lookG (bnd at_) gs).2 = 0) : getG gs at_ = none := by
  unfold getG
  cases hv : lookG (bnd at_) gs with
  | mk l p =>
    rw [hv] at h
    simp only at h
    subst h
    cases l <;> rfl
theorem getG_some {gs : List Gn} (hi : GInv gs) {at_ : Int} {p : Nat} (h : (lookG (bnd at_) gs).2 = p + 1) : ∃ x z, gs[ebl gs (bnd at_)]? = some x ∧ x.ps[p]? = some z ∧ getG gs at_ = some (z, x.c, wrap64 (x.v + (p : Int))) ∧ compactG gs at_ = { x with ps := x.ps.drop p, v := wrap64 (x.v + (p : Int)) } :: gs.drop (ebl gs (bnd at_) + 1) := by
  obtain ⟨h1, h2⟩ := lookG_drop hi (bnd at_)
  rw [h] at h2
  cases hx : gs[ebl gs (bnd at_)]? with
  | none => rw [hx] at h2; cases h2
  | some x =>
    rw [hx] at h2
    simp only at h2
    have hc := cntR_le x.ps (bnd at_)
    have hp : p < x.ps.length := by omega
    obtain ⟨hl, hxx⟩ := List.getElem?_eq_some_iff.1 hx
    have hd : gs.drop (ebl gs (bnd at_)) = x :: gs.drop (ebl gs (bnd at_) + 1) := by rw [List.drop_eq_getElem_cons hl, hxx]
    refine ⟨x, x.ps[p], rfl, List.getElem?_eq_getElem hp, ?_, ?_⟩
    · unfold getG
      rw [show lookG (bnd at_) gs = (x :: gs.drop (ebl gs (bnd at_) + 1), p + 1) from Prod.ext (h1.trans hd) h]
      simp only [List.getElem?_eq_getElem hp]
    · unfold compactG
      rw [show lookG (bnd at_) gs = (x :: gs.drop (ebl gs (bnd at_) + 1), p + 1) from Prod.ext (h1.trans hd) h]
theorem compactG_none {gs : List Gn} (hi : GInv gs) {at_ : Int} (h : (lookG (bnd at_) gs).2 = 0) : compactG gs at_ = gs.drop (ebl gs (bnd at_)) := by
  have h1 := (lookG_drop hi (bnd at_)).1
  unfold compactG
  cases hv : lookG (bnd at_) gs with
  | mk l p =>
    rw [hv] at h h1
    simp only at h h1
    subst h h1
    cases gs.drop (ebl gs (bnd at_)) <;> rfl
set_option maxHeartbeats 2000000 in
theorem gget_any {w : World} {r : Nat} {F : Nat → Prop} {gs : List Gn} (h : Gs w r F gs) (hi : GInv gs) {N : Nat} (hN : BdG gs N) (hn : N ≤ 900000) (at_ : Int) :
    Calls Tryz.prog 26 #[.pointer (some ⟨r, 0, none⟩), .int .i64 at_] w fun e w' => e = .returned (getV (getG gs at_)) ∧ Below w.heap.size w w' := by
  obtain ⟨A, n, k, Ls, h, hF⟩ := h
  have hB0 := (Below.refl w.heap.size w).alloc (Nat.le_refl _) (.cells #[.int .i64 0, .int .i64 0, .int .i64 0, .int .i64 0] 31)
  have HK := kept (Blk.new w 31 #[.int .i64 0, .int .i64 0, .int .i64 0, .int .i64 0])
  have H0 := kept (h.below hB0)
  have HU := kept (upTo_any H0.out hi hN hn at_)
  have HB := kept hB0
  cases hp : (lookG (bnd at_) gs).2 with
  | zero =>
    rw [getG_none hp]
    rw [hp] at HU
    generalize ebl gs (bnd at_) = E at HU
    clear hp hB0 h hi hN
    show Calls _ _ _ _ fun e w' => e = .returned (.tuple #[.agg #[.int .i64 0, .int .i64 0, .int .i64 0, .int .i64 0], .bool false]) ∧ Below w.heap.size w w'
    go_enter Tryz.func26, Tryz.ntmps26
    go_wp2_with fail
    generalize w.alloc (.cells #[.int .i64 0, .int .i64 0, .int .i64 0, .int .i64 0] 31) = W0 at HK HB HU H0 ⊢
    with_reducible refine HU.out.mono ?_
    rintro e w1 ⟨rfl, hb⟩
    have hk := HK.out.below hb HK.out.lt
    have q0 : w1.cell? ⟨w.heap.size, 0, none⟩ = some (.int .i64 0) := hk.cell 0
    have q1 : w1.cell? ⟨w.heap.size, 1, none⟩ = some (.int .i64 0) := hk.cell 1
    have q2 : w1.cell? ⟨w.heap.size, 2, none⟩ = some (.int .i64 0) := hk.cell 2
    have q3 : w1.cell? ⟨w.heap.size, 3, none⟩ = some (.int .i64 0) := hk.cell 3
    have f0 := hk.frozen 0
    have f1 := hk.frozen 1
    have f2 := hk.frozen 2
    have f3 := hk.frozen 3
    have HB1 := kept (bel_to hb HB.out)
    have HK1 := kept hk
    clear hb hk
    go_wp2
    have hx2 := gstore4 HK1.out HB1.out (Nat.le_refl _) (.int .i64 0) (.int .i64 0) (.int .i64 0) (.int .i64 0)
    generalize (((w1.setCell ⟨w.heap.size, 0, none⟩ (.int .i64 0)).setCell ⟨w.heap.size, 1, none⟩ (.int .i64 0)).setCell ⟨w.heap.size, 2, none⟩ (.int .i64 0)).setCell ⟨w.heap.size, 3, none⟩ (.int .i64 0) = X at hx2 ⊢
    obtain ⟨hbk, hbx, _⟩ := hx2
    have v0 : X.cell? ⟨w.heap.size, 0, none⟩ = some (.int .i64 0) := hbk.cell 0
    have v1 : X.cell? ⟨w.heap.size, 1, none⟩ = some (.int .i64 0) := hbk.cell 1
    have v2 : X.cell? ⟨w.heap.size, 2, none⟩ = some (.int .i64 0) := hbk.cell 2
    have v3 : X.cell? ⟨w.heap.size, 3, none⟩ = some (.int .i64 0) := hbk.cell 3
    exact bodyPost_ret (v := .tuple #[.agg #[.int .i64 0, .int .i64 0, .int .i64 0, .int .i64 0], .bool false]) (by simp [results, Tryz.results26, go_sem, v0, v1, v2, v3]) rfl ⟨rfl, hbx⟩
  | succ p =>
    obtain ⟨x, z, hx, hz, hg, _⟩ := getG_some hi hp
    rw [hg]
    rw [hp] at HU
    obtain ⟨hl, hxx⟩ := List.getElem?_eq_some_iff.1 hx
    have hEn : ebl gs (bnd at_) < n := by rw [← h.gn]; exact hl
    obtain ⟨g, L, x', rfl, hL, hx', hat, c0, c1, c2, c3, c4⟩ := H0.out.cells_at hEn
    obtain rfl : x = x' := by rw [hx] at hx'; exact Option.some.inj hx'
    obtain ⟨hpl, hzz⟩ := List.getElem?_eq_some_iff.1 hz
    have hxN := hN.2 x (List.mem_of_getElem? hx)
    obtain ⟨g2, o2, hA2, z0, z1⟩ := (RdR.of_own hat.own).2 p hpl
    rw [hzz] at z0 z1
    have hpn : (p : Int) < (L.n : Int) := by rw [hat.n]; omega
    have hp0 : (0 : Int) ≤ (p : Int) := by omega
    have hpk : wrap64 (p : Int) = (p : Int) := IntWalk.wrap64_in _ ⟨by omega, by omega⟩
    have hEN : (ebl gs (bnd at_) : Int) < (n : Int) := by omega
    have hE0 : (0 : Int) ≤ (ebl gs (bnd at_) : Int) := by omega
    have hg2w : g2 < w.heap.size := by
      obtain ⟨i, hi1, hi2⟩ := List.getElem_of_mem (List.mem_of_getElem? hL)
      obtain ⟨hl3, hl4⟩ := List.getElem?_eq_some_iff.1 hL
      have hat0 := h.el (ebl gs (bnd at_)) hl3 hl
      rw [hl4] at hat0
      exact hat0.lt (by unfold GL.row; rw [hA2]; rfl)
    rw [hA2] at c2
    have HF := fun W => kept (found_any L z (p : Int) W)
    simp only [GL.val] at HF
    rw [hA2, hat.c, hat.v] at HF
    rw [hat.c] at c0
    rw [hat.v] at c1
    have HX := kept (And.intro c0 (And.intro c1 (And.intro c2 (And.intro c3 (And.intro c4 (And.intro z0 z1))))))
    generalize ebl gs (bnd at_) = E at HU HX hEN hE0
    clear hx' hx hz hzz hxx hl hL hat c0 c1 c2 c3 c4 z0 z1 hg hp hB0 hi hN hpl hxN hEn hF
    show Calls _ _ _ _ fun e w' => e = .returned (.tuple #[.agg #[.int .i64 z.1, .int .i64 z.2, .int .i64 x.c, .int .i64 (wrap64 (x.v + (p : Int)))], .bool true]) ∧ Below w.heap.size w w'
    generalize wrap64 (x.v + (p : Int)) = vv at HF ⊢
    generalize x.c = cc at HF HX ⊢
    generalize x.v = xv at HF HX
    go_enter Tryz.func26, Tryz.ntmps26
    go_wp2_with fail
    generalize w.alloc (.cells #[.int .i64 0, .int .i64 0, .int .i64 0, .int .i64 0] 31) = W0 at HK HB HU H0 HX ⊢
    with_reducible refine HU.out.mono ?_
    rintro e w1 ⟨rfl, hb⟩
    have hkp := Keeps.of_below hb
    have hr : w1.cell? ⟨r, 0, none⟩ = some (.slice (some ⟨g, 0, none⟩) n k) := (H0.out.below hb).box.cell 0
    obtain ⟨c0, c1, c2, c3, c4, z0, z1⟩ := HX.out
    replace c0 := hkp.cell_ c0
    replace c1 := hkp.cell_ c1
    replace c2 := hkp.cell_ c2
    replace c3 := hkp.cell_ c3
    replace c4 := hkp.cell_ c4
    have HK1 := kept (HK.out.below hb HK.out.lt)
    have HB1 := kept (bel_to hb HB.out)
    have HZ1 := kept (And.intro (hkp.cell_ z0) (hkp.cell_ z1))
    clear hb hkp z0 z1
    have hb2 : Below w1.heap.size w1 (w1.alloc (.cells #[.int .i64 cc, .int .i64 xv, .slice (some ⟨g2, o2, none⟩) L.n L.k, .int .i64 L.e.1, .int .i64 L.e.2] 99)).drew := ((Below.refl _ w1).alloc (Nat.le_refl _) _).drew
    have hq2 : Blk (w1.alloc (.cells #[.int .i64 cc, .int .i64 xv, .slice (some ⟨g2, o2, none⟩) L.n L.k, .int .i64 L.e.1, .int .i64 L.e.2] 99)).drew w1.heap.size 99 [.int .i64 cc, .int .i64 xv, .slice (some ⟨g2, o2, none⟩) L.n L.k, .int .i64 L.e.1, .int .i64 L.e.2] := Blk.new w1 99 #[.int .i64 cc, .int .i64 xv, .slice (some ⟨g2, o2, none⟩) L.n L.k, .int .i64 L.e.1, .int .i64 L.e.2]
    have HS0 := kept (show (fun W' : World => (W'.cell? ⟨w1.heap.size, 0, none⟩ = some (.int .i64 cc) ∧ W'.cell? ⟨w1.heap.size, 1, none⟩ = some (.int .i64 xv) ∧ W'.cell? ⟨w1.heap.size, 2, none⟩ = some (.slice (some ⟨g2, o2, none⟩) L.n L.k) ∧ W'.cell? ⟨w1.heap.size, 3, none⟩ = some (.int .i64 L.e.1) ∧ W'.cell? ⟨w1.heap.size, 4, none⟩ = some (.int .i64 L.e.2)) ∧ (W'.cell? ⟨g2, o2 + p * 2, none⟩ = some (.int .i64 z.1) ∧ W'.cell? ⟨g2, o2 + p * 2 + 1, none⟩ = some (.int .i64 z.2))) (w1.alloc (.cells #[.int .i64 cc, .int .i64 xv, .slice (some ⟨g2, o2, none⟩) L.n L.k, .int .i64 L.e.1, .int .i64 L.e.2] 99)).drew from ⟨⟨hq2.cell 0, hq2.cell 1, hq2.cell 2, hq2.cell 3, hq2.cell 4⟩, (Keeps.of_below hb2).cell_ HZ1.out.1, (Keeps.of_below hb2).cell_ HZ1.out.2⟩)
    have HK2 := kept (HK1.out.below hb2 HK1.out.lt)
    have HB2 := kept (bel_to hb2 HB1.out)
    have hwn : w.heap.size < w1.heap.size := HK1.out.lt
    have hg2 : g2 < w.heap.size := hg2w
    clear hb2 hq2
    go_wp2
    simp only [hpk]
    clear hr c0 c1 c2 c3 c4
    refine wp_region_held_drew (S := (fun W' => (W'.cell? ⟨w1.heap.size, 0, none⟩ = some (.int .i64 cc) ∧ W'.cell? ⟨w1.heap.size, 1, none⟩ = some (.int .i64 xv) ∧ W'.cell? ⟨w1.heap.size, 2, none⟩ = some (.slice (some ⟨g2, o2, none⟩) L.n L.k) ∧ W'.cell? ⟨w1.heap.size, 3, none⟩ = some (.int .i64 L.e.1) ∧ W'.cell? ⟨w1.heap.size, 4, none⟩ = some (.int .i64 L.e.2)) ∧ (W'.cell? ⟨g2, o2 + p * 2, none⟩ = some (.int .i64 z.1) ∧ W'.cell? ⟨g2, o2 + p * 2 + 1, none⟩ = some (.int .i64 z.2)))) (by kernel_rfl) ?_ (fun hHeld => ?_)
    · ((try dsimp only); (first | with_reducible exact HS0.out | with_reducible exact HS1.out | (with_reducible exact HS2.out)))
    (generalize (w1.alloc (.cells #[.int .i64 cc, .int .i64 xv, .slice (some ⟨g2, o2, none⟩) L.n L.k, .int .i64 L.e.1, .int .i64 L.e.2] 99)).drew = W2 at HS0 HK2 HB2 hHeld ⊢)
    refine hand_take 0 (some 28) ?_ (by kernel_rfl) (by kernel_rfl) (by kernel_rfl) (by kernel_rfl) (by kernel_rfl) (fun _ _ _ h => h) ?_ (by assumption) ?_
    rotate_left
    · (intro o ho w hSw; (simp only [List.getElem?_toArray, List.getElem?_cons_succ, List.getElem?_cons_zero, Option.some.injEq] at ho); subst ho; (try dsimp only at hSw); go_simp; (first | done | with_reducible rfl))
    (try simp only [Act.put, List.setIfInBounds_toArray, List.set_cons_zero, List.set_cons_succ])
    refine hand_take 1 (some 29) ?_ (by kernel_rfl) (by kernel_rfl) (by kernel_rfl) (by kernel_rfl) (by kernel_rfl) (fun _ _ _ h => h) ?_ (by assumption) ?_
    rotate_left
    · (intro o ho w hSw; (simp only [List.getElem?_toArray, List.getElem?_cons_succ, List.getElem?_cons_zero, Option.some.injEq] at ho); subst ho; (try dsimp only at hSw); go_simp; (first | done | with_reducible rfl))
    (try simp only [Act.put, List.setIfInBounds_toArray, List.set_cons_zero, List.set_cons_succ])
    refine hand_take 2 (some 30) ?_ (by kernel_rfl) (by kernel_rfl) (by kernel_rfl) (by kernel_rfl) (by kernel_rfl) (fun _ _ _ h => h) ?_ (by assumption) ?_
    rotate_left
    · (intro o ho w hSw; (simp only [List.getElem?_toArray, List.getElem?_cons_succ, List.getElem?_cons_zero, Option.some.injEq] at ho); subst ho; (try dsimp only at hSw); go_simp; (first | done | with_reducible rfl))
    (try simp only [Act.put, List.setIfInBounds_toArray, List.set_cons_zero, List.set_cons_succ])
    refine hand_take 3 (some 31) ?_ (by kernel_rfl) (by kernel_rfl) (by kernel_rfl) (by kernel_rfl) (by kernel_rfl) (fun _ _ _ h => h) ?_ (by assumption) ?_
    rotate_left
    · (intro o ho w hSw; (simp only [List.getElem?_toArray, List.getElem?_cons_succ, List.getElem?_cons_zero, Option.some.injEq] at ho); subst ho; (try dsimp only at hSw); go_simp; (first | done | with_reducible rfl))
    (try simp only [Act.put, List.setIfInBounds_toArray, List.set_cons_zero, List.set_cons_succ])
    refine hand_take 4 (some 32) ?_ (by kernel_rfl) (by kernel_rfl) (by kernel_rfl) (by kernel_rfl) (by kernel_rfl) (fun _ _ _ h => h) ?_ (by assumption) ?_
    rotate_left
    · (intro o ho w hSw; (simp only [List.getElem?_toArray, List.getElem?_cons_succ, List.getElem?_cons_zero, Option.some.injEq] at ho); subst ho; (try dsimp only at hSw); go_simp; (first | done | with_reducible rfl))
    (try simp only [Act.put, List.setIfInBounds_toArray, List.set_cons_zero, List.set_cons_succ])
    refine hand_take 5 (some 33) ?_ (by kernel_rfl) (by kernel_rfl) (by kernel_rfl) (by kernel_rfl) (by kernel_rfl) (fun _ _ _ h => h) ?_ (by assumption) ?_
    rotate_left
    · (intro o ho w hSw; (simp only [List.getElem?_toArray, List.getElem?_cons_succ, List.getElem?_cons_zero, Option.some.injEq] at ho); subst ho; (try dsimp only at hSw); go_simp; (first | done | with_reducible rfl))
    (try simp only [Act.put, List.setIfInBounds_toArray, List.set_cons_zero, List.set_cons_succ])
    refine hand_take 6 (some 34) ?_ (by kernel_rfl) (by kernel_rfl) (by kernel_rfl) (by kernel_rfl) (by kernel_rfl) (fun _ _ _ h => h) ?_ (by assumption) ?_
    rotate_left
    · (intro o ho w hSw; (simp only [List.getElem?_toArray, List.getElem?_cons_succ, List.getElem?_cons_zero, Option.some.injEq] at ho); subst ho; (try dsimp only at hSw); go_simp; (first | done | with_reducible rfl))
    (try simp only [Act.put, List.setIfInBounds_toArray, List.set_cons_zero, List.set_cons_succ])
    refine hand_ready 7 (by kernel_rfl) (by kernel_rfl) (fun o ho K hK => ?_)
    (simp only [List.getElem?_toArray, List.getElem?_cons_succ, List.getElem?_cons_zero, Option.some.injEq] at ho)
    subst ho
    go_simp
    (go_at_call 54; (with_reducible refine (HF _).out.mono ?_); rintro e w3 ⟨rfl, hb⟩; (have hkp := Keeps.of_below hb); (have HS1 := kept (show (fun W' : World => (W'.cell? ⟨w1.heap.size, 0, none⟩ = some (.int .i64 cc) ∧ W'.cell? ⟨w1.heap.size, 1, none⟩ = some (.int .i64 xv) ∧ W'.cell? ⟨w1.heap.size, 2, none⟩ = some (.slice (some ⟨g2, o2, none⟩) L.n L.k) ∧ W'.cell? ⟨w1.heap.size, 3, none⟩ = some (.int .i64 L.e.1) ∧ W'.cell? ⟨w1.heap.size, 4, none⟩ = some (.int .i64 L.e.2)) ∧ (W'.cell? ⟨g2, o2 + p * 2, none⟩ = some (.int .i64 z.1) ∧ W'.cell? ⟨g2, o2 + p * 2 + 1, none⟩ = some (.int .i64 z.2))) w3 from ⟨⟨hkp.cell_ HS0.out.1.1, hkp.cell_ HS0.out.1.2.1, hkp.cell_ HS0.out.1.2.2.1, hkp.cell_ HS0.out.1.2.2.2.1, hkp.cell_ HS0.out.1.2.2.2.2⟩, hkp.cell_ HS0.out.2.1, hkp.cell_ HS0.out.2.2⟩)); have HB3 := kept (bel_to hb HB2.out); have HK3 := kept (HK2.out.below hb HK2.out.lt); (have q0 : w3.cell? ⟨w.heap.size, 0, none⟩ = some (.int .i64 0) := HK3.out.cell 0); (have q1 : w3.cell? ⟨w.heap.size, 1, none⟩ = some (.int .i64 0) := HK3.out.cell 1); (have q2 : w3.cell? ⟨w.heap.size, 2, none⟩ = some (.int .i64 0) := HK3.out.cell 2); (have q3 : w3.cell? ⟨w.heap.size, 3, none⟩ = some (.int .i64 0) := HK3.out.cell 3); have f0 := HK3.out.frozen 0; have f1 := HK3.out.frozen 1; have f2 := HK3.out.frozen 2; have f3 := HK3.out.frozen 3; clear hb hkp)
    (try go_wp2_with fail)
    refine hK.out _ _ ?_ (fun hHeld => ?_)
    · ((try dsimp only); (first | with_reducible exact HS0.out | with_reducible exact HS1.out | (with_reducible exact HS2.out)))
    clear hK K
    (try simp only [Act.put, List.setIfInBounds_toArray, List.set_cons_zero, List.set_cons_succ])
    refine hand_ready 8 (by kernel_rfl) (by kernel_rfl) (fun o ho K hK => ?_)
    (simp only [List.getElem?_toArray, List.getElem?_cons_succ, List.getElem?_cons_zero, Option.some.injEq] at ho)
    subst ho
    go_simp
    (have hx2 := gstore4 HK3.out HB3.out (Nat.le_refl _) (.int .i64 z.1) (.int .i64 z.2) (.int .i64 cc) (.int .i64 vv); generalize (((w3.setCell ⟨w.heap.size, 0, none⟩ (.int .i64 z.1)).setCell ⟨w.heap.size, 1, none⟩ (.int .i64 z.2)).setCell ⟨w.heap.size, 2, none⟩ (.int .i64 cc)).setCell ⟨w.heap.size, 3, none⟩ (.int .i64 vv) = X at hx2 ⊢; have HX := kept hx2; (have HS2 := kept (show (fun W' : World => (W'.cell? ⟨w1.heap.size, 0, none⟩ = some (.int .i64 cc) ∧ W'.cell? ⟨w1.heap.size, 1, none⟩ = some (.int .i64 xv) ∧ W'.cell? ⟨w1.heap.size, 2, none⟩ = some (.slice (some ⟨g2, o2, none⟩) L.n L.k) ∧ W'.cell? ⟨w1.heap.size, 3, none⟩ = some (.int .i64 L.e.1) ∧ W'.cell? ⟨w1.heap.size, 4, none⟩ = some (.int .i64 L.e.2)) ∧ (W'.cell? ⟨g2, o2 + p * 2, none⟩ = some (.int .i64 z.1) ∧ W'.cell? ⟨g2, o2 + p * 2 + 1, none⟩ = some (.int .i64 z.2))) X from (by obtain ⟨⟨s0, s1, s2, s3, s4⟩, s5, s6⟩ := HS1.out; have hf := hx2.2.2; exact ⟨⟨(hf _ (by show w1.heap.size ≠ w.heap.size; omega)).trans s0, (hf _ (by show w1.heap.size ≠ w.heap.size; omega)).trans s1, (hf _ (by show w1.heap.size ≠ w.heap.size; omega)).trans s2, (hf _ (by show w1.heap.size ≠ w.heap.size; omega)).trans s3, (hf _ (by show w1.heap.size ≠ w.heap.size; omega)).trans s4⟩, (hf _ (by show g2 ≠ w.heap.size; omega)).trans s5, (hf _ (by show g2 ≠ w.heap.size; omega)).trans s6⟩))); clear hx2 q0 q1 q2 q3 f0 f1 f2 f3)
    refine hK.out _ _ ?_ (fun hHeld => ?_)
    · ((try dsimp only); (first | with_reducible exact HS0.out | with_reducible exact HS1.out | (with_reducible exact HS2.out)))
    clear hK K
    (try simp only [Act.put, List.setIfInBounds_toArray, List.set_cons_zero, List.set_cons_succ])
    refine hand_take 9 (some 5) ?_ (by kernel_rfl) (by kernel_rfl) (by kernel_rfl) (by kernel_rfl) (by kernel_rfl) (fun _ _ _ h => h) ?_ (by assumption) ?_
    rotate_left
    · (intro o ho w hSw; (simp only [List.getElem?_toArray, List.getElem?_cons_succ, List.getElem?_cons_zero, Option.some.injEq] at ho); subst ho; (try dsimp only at hSw); go_simp; (first | done | with_reducible rfl))
    (try simp only [Act.put, List.setIfInBounds_toArray, List.set_cons_zero, List.set_cons_succ])
    refine wpAnyH_done (by kernel_rfl) ?_ _
    clear hHeld
    go_wp2
    obtain ⟨hbk, hbx, _⟩ := HX.out
    have v0 : X.cell? ⟨w.heap.size, 0, none⟩ = some (.int .i64 z.1) := hbk.cell 0
    have v1 : X.cell? ⟨w.heap.size, 1, none⟩ = some (.int .i64 z.2) := hbk.cell 1
    have v2 : X.cell? ⟨w.heap.size, 2, none⟩ = some (.int .i64 cc) := hbk.cell 2
    have v3 : X.cell? ⟨w.heap.size, 3, none⟩ = some (.int .i64 vv) := hbk.cell 3
    exact bodyPost_ret (v := .tuple #[.agg #[.int .i64 z.1, .int .i64 z.2, .int .i64 cc, .int .i64 vv], .bool true]) (by simp [results, Tryz.results26, go_sem, v0, v1, v2, v3]) rfl ⟨rfl, hbx⟩
end Go.Proofs.YtlckeebbjnhejaaGreat
end

section
/-
  package gens, call by call: Since.
-/
namespace Go.Proofs.YtlckeebbjnhejaaGreat
open Go.ChangeShapes Go.WideShapes Go.ChangeAt Go.RowKit Go.Deep
set_option linter.unusedVariables false
set_option linter.unusedSimpArgs false

theorem own_mono2 {w : World} {base base' : Nat} {e : TypeId} {sz : Nat} {v : Value} {n : Nat} {xs : List Value} (h : w.ownsRow base e sz v n xs) (hb : base' ≤ base) : w.ownsRow base' e sz v n xs := by
  refine ⟨h.1, ?_⟩
  rcases h.2 with h0 | ⟨g, cap, cur, hv, hg, r⟩
  · exact .inl h0
  · exact .inr ⟨g, cap, cur, hv, Nat.le_trans hb hg, r⟩
def entC (es : List (Rv × Bool)) : List Value := es.flatMap fun p => [.int .i64 p.1.1, .int .i64 p.1.2, .bool p.2]
theorem entC_append (a b : List (Rv × Bool)) : entC (a ++ b) = entC a ++ entC b := by simp [entC]
theorem entC_length : ∀ es : List (Rv × Bool), (entC es).length = es.length * 3
  | [] => rfl
  | p :: es => by
    have := entC_length es
    unfold entC at this ⊢
    rw [List.flatMap_cons, List.length_append, this]
    simp; omega
theorem entinfo : (Tryz.prog.info? 87).map (fun i => (i.zero, i.size, i.bytes)) = some (some (.agg #[.int .i64 0, .int .i64 0, .bool false]), 3, 24) := by kernel_rfl
/-- What has been told so far. -/
structure OutI (W0 : World) (Ao : Option Addr) (no co : Nat) (es : List (Rv × Bool)) (wr : World) : Prop where
  own : wr.ownsRow W0.heap.size 87 3 (.slice Ao no co) no (entC es)
  bel : Below W0.heap.size W0 wr
theorem OutI.below {W0 wr w' : World} {Ao : Option Addr} {no co : Nat} {es : List (Rv × Bool)} (h : OutI W0 Ao no co es wr) (hb : Below wr.heap.size wr w') : OutI W0 Ao no co es w' :=
  ⟨gown_turned h.own (Turned.of_below hb (fun _ => False)) (fun _ _ e => e), bel_to hb h.bel⟩
theorem OutI.no_ {W0 wr : World} {Ao : Option Addr} {no co : Nat} {es : List (Rv × Bool)} (h : OutI W0 Ao no co es wr) : no = es.length := by
  have := h.own.1
  rw [entC_length] at this
  omega
/-- The entries of the first i generations from number E on. -/
def sinceI (gs : List Gn) (b : Rv) (E i : Nat) : List (Rv × Bool) := ((gs.drop E).take i).flatMap (entG b)
theorem sinceI_succ {gs : List Gn} {b : Rv} {E i : Nat} {x : Gn} (h : gs[E + i]? = some x) : sinceI gs b E (i + 1) = sinceI gs b E i ++ entG b x := by
  unfold sinceI
  have h2 : (gs.drop E)[i]? = some x := by rw [List.getElem?_drop]; exact h
  obtain ⟨hl, hx⟩ := List.getElem?_eq_some_iff.1 h2
  rw [List.take_succ_eq_append_getElem hl, List.flatMap_append, List.flatMap_singleton, hx]
theorem entG_len {x : Gn} {N : Nat} (h : x.ps.length ≤ N) (b : Rv) : (entG b x).length ≤ N + 1 := by
  unfold entG
  rw [List.length_append, List.length_map, List.length_drop]
  split <;> simp <;> omega
theorem sinceI_len {gs : List Gn} {N : Nat} (h : ∀ x ∈ gs, x.ps.length ≤ N) (b : Rv) (E : Nat) : ∀ i, (sinceI gs b E i).length ≤ i * (N + 1)
  | 0 => by simp [sinceI]
  | i + 1 => by
    cases hx : gs[E + i]? with
    | none =>
      have e : sinceI gs b E (i + 1) = sinceI gs b E i := by
        unfold sinceI
        have h2 : (gs.drop E).length ≤ i := by
          rw [List.length_drop]
          have := List.getElem?_eq_none_iff.1 hx
          omega
        rw [List.take_of_length_le h2, List.take_of_length_le (by omega)]
      rw [e, Nat.succ_mul]
      have := sinceI_len h b E i
      omega
    | some x =>
      rw [sinceI_succ hx, List.length_append, Nat.succ_mul]
      have h1 := sinceI_len h b E i
      have h2 := entG_len (h x (List.mem_of_getElem? hx)) b
      omega
/-- The entries of a generation's puts from number c on, the first j of them. -/
def entP (ps : List Rv) (c j : Nat) : List (Rv × Bool) := ((ps.drop c).take j).map fun q => (q, false)
theorem entP_succ {ps : List Rv} {c j : Nat} {q : Rv} (h : ps[c + j]? = some q) : entP ps c (j + 1) = entP ps c j ++ [(q, false)] := by
  unfold entP
  have h2 : (ps.drop c)[j]? = some q := by rw [List.getElem?_drop]; exact h
  obtain ⟨hl, hx⟩ := List.getElem?_eq_some_iff.1 h2
  rw [List.take_succ_eq_append_getElem hl, List.map_append, hx]
  rfl
theorem entP_len (ps : List Rv) (c j : Nat) : (entP ps c j).length ≤ j := by unfold entP; rw [List.length_map, List.length_take]; omega
theorem entP_all (ps : List Rv) (c j : Nat) (h : ps.length - c ≤ j) : entP ps c j = (ps.drop c).map fun q => (q, false) := by
  unfold entP
  rw [List.take_of_length_le (by rw [List.length_drop]; omega)]
set_option maxRecDepth 100000 in
set_option maxHeartbeats 4000000 in
theorem gsince_any {w : World} {r : Nat} {F : Nat → Prop} {gs : List Gn} (h : Gs w r F gs) (hi : GInv gs) {N : Nat} (hN : BdG gs N) (hn : N ≤ 1000) (main : Int) :
    Calls Tryz.prog 43 #[.pointer (some ⟨r, 0, none⟩), .int .i64 main] w fun e w' => ∃ A' c', e = .returned (.slice A' (sinceG gs main).length c') ∧ w'.ownsRow w.heap.size 87 3 (.slice A' (sinceG gs main).length c') (sinceG gs main).length (entC (sinceG gs main)) ∧ Below w.heap.size w w' := by
  obtain ⟨A, n, k, Ls, h, hF⟩ := h
  have hnN : n ≤ N := by rw [← h.gn]; exact hN.1
  have hNs := hN.2
  have hB0 := (Below.refl w.heap.size w).alloc (Nat.le_refl _) (.cells #[.int .i64 main, .int .i64 0] 29)
  have HT := kept (two_new w 29 main 0)
  obtain ⟨t0, t1⟩ := HT.out
  have H0 := kept (h.below hB0)
  have HE := kept (endedB_any (H0.out.below (Below.refl _ _).drew) hi (main, 0) (by omega))
  have hel := ebl_le gs (main, 0)
  rw [h.gn] at hel
  have HB := kept hB0
  have HI := kept hi
  obtain ⟨hnk, hkm, hA0⟩ := gown_cap h.own
  have hbx : (w.alloc (.cells #[.int .i64 main, .int .i64 0] 29)).cell? ⟨r, 0, none⟩ = some (.slice A n k) := H0.out.box.cell 0
  have HSG : Hid (sinceG gs main = sinceI gs (main, 0) (ebl gs (main, 0)) (n - ebl gs (main, 0))) := kept (by
    unfold sinceG sinceI
    rw [List.take_of_length_le (by rw [List.length_drop, h.gn]; exact Nat.le_refl _)])
  generalize sinceG gs main = sg at HSG ⊢
  generalize ebl gs (main, 0) = E at HE hel HSG
  clear h hF hi hN hB0
  have HS0 := kept (show (fun W' : World => (W'.cell? ⟨w.heap.size, 0, none⟩ = some (.int .i64 main) ∧ W'.cell? ⟨w.heap.size, 1, none⟩ = some (.int .i64 0)) ∧ W'.cell? ⟨r, 0, none⟩ = some (.slice A n k)) (w.alloc (.cells #[.int .i64 main, .int .i64 0] 29)).drew from ⟨⟨t0, t1⟩, hbx⟩)
  obtain ⟨o0, had, ho0⟩ : ∃ o0, (∀ g, A = some ⟨g, 0, none⟩ → (if k = E then some (⟨g, 0, none⟩ : Addr) else some ⟨g, E * 5, none⟩) = some ⟨g, o0, none⟩) ∧ (E < n → o0 = E * 5) := by
    by_cases hk : k = E
    · exact ⟨0, fun g _ => by rw [if_pos hk], fun h => by omega⟩
    · exact ⟨E * 5, fun g _ => by rw [if_neg hk], fun _ => rfl⟩
  have hEn0 : (0 : Int) ≤ (E : Int) := by omega
  have hEn1 : (E : Int) ≤ (n : Int) := by omega
  have hEk : E ≤ k := by omega
  have hnk1 : (n : Int) ≤ (k : Int) := by omega
  have hkm' : (k : Int) ≤ 9223372036854775807 := by unfold maxLen at hkm; omega
  have HO := kept (And.intro ho0 (And.intro hel hnN))
  cases A with
  | none =>
    obtain ⟨rfl, rfl⟩ := hA0 rfl
    obtain rfl : E = 0 := by omega
    have hsg : sg = [] := by rw [HSG.out]; simp [sinceI]
    subst hsg
    clear HSG had ho0 hel hkm hnk hA0 t0 t1 hbx HO hEn0 hEn1 hEk hnk1 hkm' hnN
    go_enter Tryz.func43, Tryz.ntmps43
    go_wp2
    generalize w.alloc (.cells #[.int .i64 main, .int .i64 0] 29) = W0 at H0 HE HB HT HS0 ⊢
    refine wp_region_held_drew (S := (fun W' => (W'.cell? ⟨w.heap.size, 0, none⟩ = some (.int .i64 main) ∧ W'.cell? ⟨w.heap.size, 1, none⟩ = some (.int .i64 0)) ∧ W'.cell? ⟨r, 0, none⟩ = some (.slice none 0 0))) (by kernel_rfl) ?_ (fun hHeld => ?_)
    · ((try dsimp only); (first | with_reducible exact HS0.out | with_reducible exact HS1.out))
    refine hand_take 0 (some 15) ?_ (by kernel_rfl) (by kernel_rfl) (by kernel_rfl) (by kernel_rfl) (by kernel_rfl) (fun _ _ _ h => h) ?_ (by assumption) ?_
    rotate_left
    · (intro o ho w hSw; (simp only [List.getElem?_toArray, List.getElem?_cons_succ, List.getElem?_cons_zero, Option.some.injEq] at ho); subst ho; (try dsimp only at hSw); go_simp; (first | done | with_reducible rfl))
    (try simp only [Act.put, List.setIfInBounds_toArray, List.set_cons_zero, List.set_cons_succ])
    refine hand_take 1 (some 16) ?_ (by kernel_rfl) (by kernel_rfl) (by kernel_rfl) (by kernel_rfl) (by kernel_rfl) (fun _ _ _ h => h) ?_ (by assumption) ?_
    rotate_left
    · (intro o ho w hSw; (simp only [List.getElem?_toArray, List.getElem?_cons_succ, List.getElem?_cons_zero, Option.some.injEq] at ho); subst ho; (try dsimp only at hSw); go_simp; (first | done | with_reducible rfl))
    (try simp only [Act.put, List.setIfInBounds_toArray, List.set_cons_zero, List.set_cons_succ])
    refine hand_take 2 (some 17) ?_ (by kernel_rfl) (by kernel_rfl) (by kernel_rfl) (by kernel_rfl) (by kernel_rfl) (fun _ _ _ h => h) ?_ (by assumption) ?_
    rotate_left
    · (intro o ho w hSw; (simp only [List.getElem?_toArray, List.getElem?_cons_succ, List.getElem?_cons_zero, Option.some.injEq] at ho); subst ho; (try dsimp only at hSw); go_simp; (first | done | with_reducible rfl))
    (try simp only [Act.put, List.setIfInBounds_toArray, List.set_cons_zero, List.set_cons_succ])
    refine hand_take 3 (some 18) ?_ (by kernel_rfl) (by kernel_rfl) (by kernel_rfl) (by kernel_rfl) (by kernel_rfl) (fun _ _ _ h => h) ?_ (by assumption) ?_
    rotate_left
    · (intro o ho w hSw; (simp only [List.getElem?_toArray, List.getElem?_cons_succ, List.getElem?_cons_zero, Option.some.injEq] at ho); subst ho; (try dsimp only at hSw); go_simp; (first | done | with_reducible rfl))
    (try simp only [Act.put, List.setIfInBounds_toArray, List.set_cons_zero, List.set_cons_succ])
    refine hand_take 4 (some 19) ?_ (by kernel_rfl) (by kernel_rfl) (by kernel_rfl) (by kernel_rfl) (by kernel_rfl) (fun _ _ _ h => h) ?_ (by assumption) ?_
    rotate_left
    · (intro o ho w hSw; (simp only [List.getElem?_toArray, List.getElem?_cons_succ, List.getElem?_cons_zero, Option.some.injEq] at ho); subst ho; (try dsimp only at hSw); go_simp; (first | done | with_reducible rfl))
    (try simp only [Act.put, List.setIfInBounds_toArray, List.set_cons_zero, List.set_cons_succ])
    refine hand_take 5 (some 20) ?_ (by kernel_rfl) (by kernel_rfl) (by kernel_rfl) (by kernel_rfl) (by kernel_rfl) (fun _ _ _ h => h) ?_ (by assumption) ?_
    rotate_left
    · (intro o ho w hSw; (simp only [List.getElem?_toArray, List.getElem?_cons_succ, List.getElem?_cons_zero, Option.some.injEq] at ho); subst ho; (try dsimp only at hSw); go_simp; (first | done | with_reducible rfl))
    (try simp only [Act.put, List.setIfInBounds_toArray, List.set_cons_zero, List.set_cons_succ])
    refine hand_take 9 (some 24) ?_ (by kernel_rfl) (by kernel_rfl) (by kernel_rfl) (by kernel_rfl) (by kernel_rfl) (fun _ _ _ h => h) ?_ (by assumption) ?_
    rotate_left
    · (intro o ho w hSw; (simp only [List.getElem?_toArray, List.getElem?_cons_succ, List.getElem?_cons_zero, Option.some.injEq] at ho); subst ho; (try dsimp only at hSw); go_simp; (first | done | with_reducible rfl))
    (try simp only [Act.put, List.setIfInBounds_toArray, List.set_cons_zero, List.set_cons_succ])
    refine hand_ready 6 (by kernel_rfl) (by kernel_rfl) (fun o ho K hK => ?_)
    (simp only [List.getElem?_toArray, List.getElem?_cons_succ, List.getElem?_cons_zero, Option.some.injEq] at ho)
    subst ho
    go_simp
    (go_at_call 76; (with_reducible refine HE.out.mono ?_); rintro e w1 ⟨rfl, hb⟩; (have hkp := Keeps.of_below hb); (have HS1 := kept (show (fun W' : World => (W'.cell? ⟨w.heap.size, 0, none⟩ = some (.int .i64 main) ∧ W'.cell? ⟨w.heap.size, 1, none⟩ = some (.int .i64 0)) ∧ W'.cell? ⟨r, 0, none⟩ = some (.slice none 0 0)) w1 from ⟨⟨hkp.cell_ HS0.out.1.1, hkp.cell_ HS0.out.1.2⟩, hkp.cell_ HS0.out.2⟩)); have HB1 := kept (bel_to (w := W0) hb (Below.refl _ _).drew); clear hb hkp)
    (try go_wp2_with fail)
    refine hK.out _ _ ?_ (fun hHeld => ?_)
    · ((try dsimp only); (first | with_reducible exact HS0.out | with_reducible exact HS1.out))
    clear hK K
    (try simp only [Act.put, List.setIfInBounds_toArray, List.set_cons_zero, List.set_cons_succ])
    refine hand_take 7 (some 22) ?_ (by kernel_rfl) (by kernel_rfl) (by kernel_rfl) (by kernel_rfl) (by kernel_rfl) (fun _ _ _ h => h) ?_ (by assumption) ?_
    rotate_left
    · (intro o ho w hSw; (simp only [List.getElem?_toArray, List.getElem?_cons_succ, List.getElem?_cons_zero, Option.some.injEq] at ho); subst ho; (try dsimp only at hSw); go_simp; (first | done | with_reducible rfl))
    (try simp only [Act.put, List.setIfInBounds_toArray, List.set_cons_zero, List.set_cons_succ])
    refine hand_take 8 (some 23) ?_ (by kernel_rfl) (by kernel_rfl) (by kernel_rfl) (by kernel_rfl) (by kernel_rfl) (fun _ _ _ h => h) ?_ (by assumption) ?_
    rotate_left
    · (intro o ho w hSw; (simp only [List.getElem?_toArray, List.getElem?_cons_succ, List.getElem?_cons_zero, Option.some.injEq] at ho); subst ho; (try dsimp only at hSw); go_simp; (first | done | with_reducible rfl))
    (try simp only [Act.put, List.setIfInBounds_toArray, List.set_cons_zero, List.set_cons_succ])
    refine wpAnyH_done (by kernel_rfl) ?_ _
    clear hHeld
    go_wp2
    refine wp_loop_rounds 1 ?_
    rw [rounds_succ]
    go_wp2
    go_ret
    exact ⟨none, 0, rfl, World.ownsRow_nil _ _ _ _, bel_to HB1.out HB.out⟩
  | some ad =>
    have hadg : ∃ g, ad = ⟨g, 0, none⟩ := by
      rcases H0.out.own.2 with ⟨e0, _⟩ | ⟨g, cap, cur, hv, _⟩
      · cases e0
      · injection hv with hA _ _
        exact ⟨g, by injection hA⟩
    obtain ⟨g, rfl⟩ := hadg
    have had' := had g rfl
    clear had ho0 hel hkm hnk hA0 t0 t1 hbx
    go_enter Tryz.func43, Tryz.ntmps43
    go_wp2
    generalize w.alloc (.cells #[.int .i64 main, .int .i64 0] 29) = W0 at H0 HE HB HT HS0 ⊢
    refine wp_region_held_drew (S := (fun W' => (W'.cell? ⟨w.heap.size, 0, none⟩ = some (.int .i64 main) ∧ W'.cell? ⟨w.heap.size, 1, none⟩ = some (.int .i64 0)) ∧ W'.cell? ⟨r, 0, none⟩ = some (.slice (some ⟨g, 0, none⟩) n k))) (by kernel_rfl) ?_ (fun hHeld => ?_)
    · ((try dsimp only); (first | with_reducible exact HS0.out | with_reducible exact HS1.out))
    refine hand_take 0 (some 15) ?_ (by kernel_rfl) (by kernel_rfl) (by kernel_rfl) (by kernel_rfl) (by kernel_rfl) (fun _ _ _ h => h) ?_ (by assumption) ?_
    rotate_left
    · (intro o ho w hSw; (simp only [List.getElem?_toArray, List.getElem?_cons_succ, List.getElem?_cons_zero, Option.some.injEq] at ho); subst ho; (try dsimp only at hSw); go_simp; (first | done | with_reducible rfl))
    (try simp only [Act.put, List.setIfInBounds_toArray, List.set_cons_zero, List.set_cons_succ])
    refine hand_take 1 (some 16) ?_ (by kernel_rfl) (by kernel_rfl) (by kernel_rfl) (by kernel_rfl) (by kernel_rfl) (fun _ _ _ h => h) ?_ (by assumption) ?_
    rotate_left
    · (intro o ho w hSw; (simp only [List.getElem?_toArray, List.getElem?_cons_succ, List.getElem?_cons_zero, Option.some.injEq] at ho); subst ho; (try dsimp only at hSw); go_simp; (first | done | with_reducible rfl))
    (try simp only [Act.put, List.setIfInBounds_toArray, List.set_cons_zero, List.set_cons_succ])
    refine hand_take 2 (some 17) ?_ (by kernel_rfl) (by kernel_rfl) (by kernel_rfl) (by kernel_rfl) (by kernel_rfl) (fun _ _ _ h => h) ?_ (by assumption) ?_
    rotate_left
    · (intro o ho w hSw; (simp only [List.getElem?_toArray, List.getElem?_cons_succ, List.getElem?_cons_zero, Option.some.injEq] at ho); subst ho; (try dsimp only at hSw); go_simp; (first | done | with_reducible rfl))
    (try simp only [Act.put, List.setIfInBounds_toArray, List.set_cons_zero, List.set_cons_succ])
    refine hand_take 3 (some 18) ?_ (by kernel_rfl) (by kernel_rfl) (by kernel_rfl) (by kernel_rfl) (by kernel_rfl) (fun _ _ _ h => h) ?_ (by assumption) ?_
    rotate_left
    · (intro o ho w hSw; (simp only [List.getElem?_toArray, List.getElem?_cons_succ, List.getElem?_cons_zero, Option.some.injEq] at ho); subst ho; (try dsimp only at hSw); go_simp; (first | done | with_reducible rfl))
    (try simp only [Act.put, List.setIfInBounds_toArray, List.set_cons_zero, List.set_cons_succ])
    refine hand_take 4 (some 19) ?_ (by kernel_rfl) (by kernel_rfl) (by kernel_rfl) (by kernel_rfl) (by kernel_rfl) (fun _ _ _ h => h) ?_ (by assumption) ?_
    rotate_left
    · (intro o ho w hSw; (simp only [List.getElem?_toArray, List.getElem?_cons_succ, List.getElem?_cons_zero, Option.some.injEq] at ho); subst ho; (try dsimp only at hSw); go_simp; (first | done | with_reducible rfl))
    (try simp only [Act.put, List.setIfInBounds_toArray, List.set_cons_zero, List.set_cons_succ])
    refine hand_take 5 (some 20) ?_ (by kernel_rfl) (by kernel_rfl) (by kernel_rfl) (by kernel_rfl) (by kernel_rfl) (fun _ _ _ h => h) ?_ (by assumption) ?_
    rotate_left
    · (intro o ho w hSw; (simp only [List.getElem?_toArray, List.getElem?_cons_succ, List.getElem?_cons_zero, Option.some.injEq] at ho); subst ho; (try dsimp only at hSw); go_simp; (first | done | with_reducible rfl))
    (try simp only [Act.put, List.setIfInBounds_toArray, List.set_cons_zero, List.set_cons_succ])
    refine hand_take 9 (some 24) ?_ (by kernel_rfl) (by kernel_rfl) (by kernel_rfl) (by kernel_rfl) (by kernel_rfl) (fun _ _ _ h => h) ?_ (by assumption) ?_
    rotate_left
    · (intro o ho w hSw; (simp only [List.getElem?_toArray, List.getElem?_cons_succ, List.getElem?_cons_zero, Option.some.injEq] at ho); subst ho; (try dsimp only at hSw); go_simp; (first | done | with_reducible rfl))
    (try simp only [Act.put, List.setIfInBounds_toArray, List.set_cons_zero, List.set_cons_succ])
    refine hand_ready 6 (by kernel_rfl) (by kernel_rfl) (fun o ho K hK => ?_)
    (simp only [List.getElem?_toArray, List.getElem?_cons_succ, List.getElem?_cons_zero, Option.some.injEq] at ho)
    subst ho
    go_simp
    (go_at_call 76; (with_reducible refine HE.out.mono ?_); rintro e w1 ⟨rfl, hb⟩; (have hkp := Keeps.of_below hb); (have HS1 := kept (show (fun W' : World => (W'.cell? ⟨w.heap.size, 0, none⟩ = some (.int .i64 main) ∧ W'.cell? ⟨w.heap.size, 1, none⟩ = some (.int .i64 0)) ∧ W'.cell? ⟨r, 0, none⟩ = some (.slice (some ⟨g, 0, none⟩) n k)) w1 from ⟨⟨hkp.cell_ HS0.out.1.1, hkp.cell_ HS0.out.1.2⟩, hkp.cell_ HS0.out.2⟩)); have HB1 := kept (bel_to (w := W0) hb (Below.refl _ _).drew); clear hb hkp)
    (try go_wp2_with fail)
    refine hK.out _ _ ?_ (fun hHeld => ?_)
    · ((try dsimp only); (first | with_reducible exact HS0.out | with_reducible exact HS1.out))
    clear hK K
    (try simp only [Act.put, List.setIfInBounds_toArray, List.set_cons_zero, List.set_cons_succ])
    refine hand_take 7 (some 22) ?_ (by kernel_rfl) (by kernel_rfl) (by kernel_rfl) (by kernel_rfl) (by kernel_rfl) (fun _ _ _ h => h) ?_ (by assumption) ?_
    rotate_left
    · (intro o ho w hSw; (simp only [List.getElem?_toArray, List.getElem?_cons_succ, List.getElem?_cons_zero, Option.some.injEq] at ho); subst ho; (try dsimp only at hSw); go_simp; (first | done | with_reducible rfl))
    (try simp only [Act.put, List.setIfInBounds_toArray, List.set_cons_zero, List.set_cons_succ])
    refine hand_take 8 (some 23) ?_ (by kernel_rfl) (by kernel_rfl) (by kernel_rfl) (by kernel_rfl) (by kernel_rfl) (fun _ _ _ h => h) ?_ (by assumption) ?_
    rotate_left
    · (intro o ho w hSw; (simp only [List.getElem?_toArray, List.getElem?_cons_succ, List.getElem?_cons_zero, Option.some.injEq] at ho); subst ho; (try dsimp only at hSw); go_simp; (first | done | with_reducible rfl))
    (try simp only [Act.put, List.setIfInBounds_toArray, List.set_cons_zero, List.set_cons_succ])
    refine wpAnyH_done (by kernel_rfl) ?_ _
    clear hHeld
    have HO0 : Hid (OutI W0 none 0 0 (sinceI gs (main, 0) E 0) w1) := kept ⟨World.ownsRow_nil _ _ _ _, HB1.out⟩
    clear HS0 HS1 HB1 HE had'
    go_wp2
    go_loopw [24, 6] (fun i o wr => ∃ (j : Nat) (Ao : Option Addr) (no co : Nat), j ≤ n - E ∧ i = .int .i64 (j : Int) ∧ o = .slice Ao no co ∧ Hid (OutI W0 Ao no co (sinceI gs (main, 0) E j) wr)) (fun i _ _ => n - E - (intOf i).toNat)
    case atStart => exact ⟨0, none, 0, 0, Nat.zero_le _, rfl, rfl, HO0⟩
    case round =>
      obtain ⟨j, Ao, no, co, hj, rfl, rfl, HOI⟩ := hrel
      clear HO0
      rename World => wo
      by_cases hjn : j < n - E
      · obtain ⟨ho0, hel, hnN⟩ := HO.out
        obtain rfl := ho0 (by omega)
        have hoi := HOI.out
        have hkr := Keeps.of_below hoi.bel
        obtain ⟨g', L, x, hg', hL, hx, hat, c0, c1, c2, c3, c4⟩ := H0.out.cells_at (i := E + j) (by omega)
        replace c0 := hkr.cell_ c0
        replace c1 := hkr.cell_ c1
        replace c2 := hkr.cell_ c2
        replace c3 := hkr.cell_ c3
        replace c4 := hkr.cell_ c4
        obtain rfl : g = g' := by simpa using hg'
        have hxm := List.mem_of_getElem? hx
        have hxN := hNs x hxm
        have hps := HI.out.puts hxm
        have hxne := HI.out.ne x hxm
        have hSuc := sinceI_succ (b := (main, 0)) hx
        have hLen := sinceI_len hNs (main, 0) E j
        have hno := hoi.no_
        have hjl : j * (N + 1) ≤ 1000 * 1001 := Nat.mul_le_mul (by omega) (by omega)
        rw [Nat.add_mul] at c0 c1 c2 c3 c4
        obtain ⟨g2, hA2, _, hg2l, hnk2, hkm2, hpc⟩ := gown_at hat.own (by rw [hat.n]; exact List.length_pos_iff.2 hxne)
        rw [hA2] at c2
        have hcnt := cntR_le x.ps (main, 0)
        have hbG : Below wo.heap.size wo (wo.alloc (.cells #[.int .i64 L.c, .int .i64 L.v, .slice (some ⟨g2, 0, none⟩) L.n L.k, .int .i64 L.e.1, .int .i64 L.e.2] 99)).drew := ((Below.refl _ wo).alloc (Nat.le_refl _) _).drew
        have hqG : Blk (wo.alloc (.cells #[.int .i64 L.c, .int .i64 L.v, .slice (some ⟨g2, 0, none⟩) L.n L.k, .int .i64 L.e.1, .int .i64 L.e.2] 99)).drew wo.heap.size 99 [.int .i64 L.c, .int .i64 L.v, .slice (some ⟨g2, 0, none⟩) L.n L.k, .int .i64 L.e.1, .int .i64 L.e.2] := Blk.new wo 99 #[.int .i64 L.c, .int .i64 L.v, .slice (some ⟨g2, 0, none⟩) L.n L.k, .int .i64 L.e.1, .int .i64 L.e.2]
        have htb := HT.out.keeps (Keeps.of_below hoi.bel)
        have HS0 := kept (show (fun W' : World => (W'.cell? ⟨w.heap.size, 0, none⟩ = some (.int .i64 main) ∧ W'.cell? ⟨w.heap.size, 1, none⟩ = some (.int .i64 0)) ∧ (W'.cell? ⟨wo.heap.size, 0, none⟩ = some (.int .i64 L.c) ∧ W'.cell? ⟨wo.heap.size, 1, none⟩ = some (.int .i64 L.v) ∧ W'.cell? ⟨wo.heap.size, 2, none⟩ = some (.slice (some ⟨g2, 0, none⟩) L.n L.k) ∧ W'.cell? ⟨wo.heap.size, 3, none⟩ = some (.int .i64 L.e.1) ∧ W'.cell? ⟨wo.heap.size, 4, none⟩ = some (.int .i64 L.e.2))) (wo.alloc (.cells #[.int .i64 L.c, .int .i64 L.v, .slice (some ⟨g2, 0, none⟩) L.n L.k, .int .i64 L.e.1, .int .i64 L.e.2] 99)).drew from ⟨⟨(Keeps.of_below hbG).cell_ htb.1, (Keeps.of_below hbG).cell_ htb.2⟩, hqG.cell 0, hqG.cell 1, hqG.cell 2, hqG.cell 3, hqG.cell 4⟩)
        have HBL := below_any L x (main, 0) (wo.alloc (.cells #[.int .i64 L.c, .int .i64 L.v, .slice (some ⟨g2, 0, none⟩) L.n L.k, .int .i64 L.e.1, .int .i64 L.e.2] 99)).drew (RdR.of_own ((hat.below hoi.bel).below hbG).own) (by rw [hat.n]; omega) hps
        simp only [GL.val] at HBL
        rw [hA2] at HBL
        have HBL := kept HBL
        have HEN := fun W => kept (ended_any L x hat.e W)
        simp only [GL.val] at HEN
        rw [hA2] at HEN
        obtain ⟨cn, hcn⟩ : ∃ cn, cntR x.ps (main, 0) = cn := ⟨_, rfl⟩
        rw [hcn] at HBL hcnt
        obtain ⟨o2, ho2, ho2'⟩ : ∃ o2, (if L.k = cn then (some ⟨g2, 0, none⟩ : Option Addr) else some ⟨g2, cn * 2, none⟩) = some ⟨g2, o2, none⟩ ∧ (cn < L.n → o2 = cn * 2) := by
          by_cases hk : L.k = cn
          · exact ⟨0, by rw [if_pos hk], fun h => by omega⟩
          · exact ⟨cn * 2, by rw [if_neg hk], fun _ => rfl⟩
        have hEnt : entG (main, 0) x = (x.ps.drop cn).map (fun q => (q, false)) ++ (if x.ended then [(x.e, true)] else []) := by unfold entG; rw [hcn]
        have hjn2 := hjn
        have HX := kept (And.intro hat (And.intro hpc (And.intro hSuc (And.intro hEnt (And.intro ho2' (And.intro hxN (And.intro hno (And.intro hLen (And.intro hjl (And.intro hoi (And.intro hcnt (And.intro hbG (And.intro hqG hjn2)))))))))))))
        have hj0 : (0 : Int) ≤ (j : Int) := by omega
        have hjn' : (j : Int) < ((n - E : Nat) : Int) := by omega
        have hcn0 : (0 : Int) ≤ (cn : Int) := by omega
        have hcn1 : (cn : Int) ≤ (L.n : Int) := by rw [hat.n]; omega
        have hcn2 : cn ≤ L.k := by have := hat.n; omega
        have hnk3 : (L.n : Int) ≤ (L.k : Int) := by omega
        have hkm3 : (L.k : Int) ≤ 9223372036854775807 := by unfold maxLen at hkm2; omega
        clear hg' hL hx hat hxm hxN hps hxne hSuc hLen hno hjl hA2 hg2l hnk2 hkm2 hpc hcnt hbG hqG htb hcn ho2' hEnt hjn2 hoi hkr HOI ho0 hel hnN
        go_wp2
        clear c0 c1 c2 c3 c4
        refine wp_region_held_drew (S := (fun W' => (W'.cell? ⟨w.heap.size, 0, none⟩ = some (.int .i64 main) ∧ W'.cell? ⟨w.heap.size, 1, none⟩ = some (.int .i64 0)) ∧ (W'.cell? ⟨wo.heap.size, 0, none⟩ = some (.int .i64 L.c) ∧ W'.cell? ⟨wo.heap.size, 1, none⟩ = some (.int .i64 L.v) ∧ W'.cell? ⟨wo.heap.size, 2, none⟩ = some (.slice (some ⟨g2, 0, none⟩) L.n L.k) ∧ W'.cell? ⟨wo.heap.size, 3, none⟩ = some (.int .i64 L.e.1) ∧ W'.cell? ⟨wo.heap.size, 4, none⟩ = some (.int .i64 L.e.2)))) (by kernel_rfl) ?_ (fun hHeld => ?_)
        · ((try dsimp only); (first | with_reducible exact HS0.out | with_reducible exact HS1.out))
        (generalize (wo.alloc (.cells #[.int .i64 L.c, .int .i64 L.v, .slice (some ⟨g2, 0, none⟩) L.n L.k, .int .i64 L.e.1, .int .i64 L.e.2] 99)).drew = W2 at HS0 HBL HX hHeld ⊢)
        refine hand_take 0 (some 28) ?_ (by kernel_rfl) (by kernel_rfl) (by kernel_rfl) (by kernel_rfl) (by kernel_rfl) (fun _ _ _ h => h) ?_ (by assumption) ?_
        rotate_left
        · (intro o ho w hSw; (simp only [List.getElem?_toArray, List.getElem?_cons_succ, List.getElem?_cons_zero, Option.some.injEq] at ho); subst ho; (try dsimp only at hSw); go_simp; (first | done | with_reducible rfl))
        (try simp only [Act.put, List.setIfInBounds_toArray, List.set_cons_zero, List.set_cons_succ])
        refine hand_take 1 (some 29) ?_ (by kernel_rfl) (by kernel_rfl) (by kernel_rfl) (by kernel_rfl) (by kernel_rfl) (fun _ _ _ h => h) ?_ (by assumption) ?_
        rotate_left
        · (intro o ho w hSw; (simp only [List.getElem?_toArray, List.getElem?_cons_succ, List.getElem?_cons_zero, Option.some.injEq] at ho); subst ho; (try dsimp only at hSw); go_simp; (first | done | with_reducible rfl))
        (try simp only [Act.put, List.setIfInBounds_toArray, List.set_cons_zero, List.set_cons_succ])
        refine hand_take 2 (some 30) ?_ (by kernel_rfl) (by kernel_rfl) (by kernel_rfl) (by kernel_rfl) (by kernel_rfl) (fun _ _ _ h => h) ?_ (by assumption) ?_
        rotate_left
        · (intro o ho w hSw; (simp only [List.getElem?_toArray, List.getElem?_cons_succ, List.getElem?_cons_zero, Option.some.injEq] at ho); subst ho; (try dsimp only at hSw); go_simp; (first | done | with_reducible rfl))
        (try simp only [Act.put, List.setIfInBounds_toArray, List.set_cons_zero, List.set_cons_succ])
        refine hand_take 3 (some 31) ?_ (by kernel_rfl) (by kernel_rfl) (by kernel_rfl) (by kernel_rfl) (by kernel_rfl) (fun _ _ _ h => h) ?_ (by assumption) ?_
        rotate_left
        · (intro o ho w hSw; (simp only [List.getElem?_toArray, List.getElem?_cons_succ, List.getElem?_cons_zero, Option.some.injEq] at ho); subst ho; (try dsimp only at hSw); go_simp; (first | done | with_reducible rfl))
        (try simp only [Act.put, List.setIfInBounds_toArray, List.set_cons_zero, List.set_cons_succ])
        refine hand_take 7 (some 35) ?_ (by kernel_rfl) (by kernel_rfl) (by kernel_rfl) (by kernel_rfl) (by kernel_rfl) (fun _ _ _ h => h) ?_ (by assumption) ?_
        rotate_left
        · (intro o ho w hSw; (simp only [List.getElem?_toArray, List.getElem?_cons_succ, List.getElem?_cons_zero, Option.some.injEq] at ho); subst ho; (try dsimp only at hSw); go_simp; (first | done | with_reducible rfl))
        (try simp only [Act.put, List.setIfInBounds_toArray, List.set_cons_zero, List.set_cons_succ])
        refine hand_ready 4 (by kernel_rfl) (by kernel_rfl) (fun o ho K hK => ?_)
        (simp only [List.getElem?_toArray, List.getElem?_cons_succ, List.getElem?_cons_zero, Option.some.injEq] at ho)
        subst ho
        go_simp
        (go_at_call 77; (with_reducible refine HBL.out.mono ?_); rintro e w3 ⟨rfl, hb⟩; (have hkp := Keeps.of_below hb); (have HS1 := kept (show (fun W' : World => (W'.cell? ⟨w.heap.size, 0, none⟩ = some (.int .i64 main) ∧ W'.cell? ⟨w.heap.size, 1, none⟩ = some (.int .i64 0)) ∧ (W'.cell? ⟨wo.heap.size, 0, none⟩ = some (.int .i64 L.c) ∧ W'.cell? ⟨wo.heap.size, 1, none⟩ = some (.int .i64 L.v) ∧ W'.cell? ⟨wo.heap.size, 2, none⟩ = some (.slice (some ⟨g2, 0, none⟩) L.n L.k) ∧ W'.cell? ⟨wo.heap.size, 3, none⟩ = some (.int .i64 L.e.1) ∧ W'.cell? ⟨wo.heap.size, 4, none⟩ = some (.int .i64 L.e.2))) w3 from ⟨⟨hkp.cell_ HS0.out.1.1, hkp.cell_ HS0.out.1.2⟩, hkp.cell_ HS0.out.2.1, hkp.cell_ HS0.out.2.2.1, hkp.cell_ HS0.out.2.2.2.1, hkp.cell_ HS0.out.2.2.2.2.1, hkp.cell_ HS0.out.2.2.2.2.2⟩)); have HB3 := kept hb; clear hb hkp)
        (try go_wp2_with fail)
        refine hK.out _ _ ?_ (fun hHeld => ?_)
        · ((try dsimp only); (first | with_reducible exact HS0.out | with_reducible exact HS1.out))
        clear hK K
        (try simp only [Act.put, List.setIfInBounds_toArray, List.set_cons_zero, List.set_cons_succ])
        refine hand_take 5 (some 33) ?_ (by kernel_rfl) (by kernel_rfl) (by kernel_rfl) (by kernel_rfl) (by kernel_rfl) (fun _ _ _ h => h) ?_ (by assumption) ?_
        rotate_left
        · (intro o ho w hSw; (simp only [List.getElem?_toArray, List.getElem?_cons_succ, List.getElem?_cons_zero, Option.some.injEq] at ho); subst ho; (try dsimp only at hSw); go_simp; (first | done | with_reducible rfl))
        (try simp only [Act.put, List.setIfInBounds_toArray, List.set_cons_zero, List.set_cons_succ])
        refine hand_take 6 (some 34) ?_ (by kernel_rfl) (by kernel_rfl) (by kernel_rfl) (by kernel_rfl) (by kernel_rfl) (fun _ _ _ h => h) ?_ (by assumption) ?_
        rotate_left
        · (intro o ho w hSw; (simp only [List.getElem?_toArray, List.getElem?_cons_succ, List.getElem?_cons_zero, Option.some.injEq] at ho); subst ho; (try dsimp only at hSw); go_simp; (first | done | with_reducible rfl))
        (try simp only [Act.put, List.setIfInBounds_toArray, List.set_cons_zero, List.set_cons_succ])
        refine wpAnyH_done (by kernel_rfl) ?_ _
        clear hHeld
        obtain ⟨hat, hpc, hSuc, hEnt, ho2', hxN, hno, hLen, hjl, hoi, hcnt, hbG, hqG, hjn2⟩ := HX.out
        have hb13 := bel_to HB3.out hbG
        have HO3 : Hid (OutI W0 Ao no co (sinceI gs (main, 0) E j ++ entP x.ps cn 0) w3 ∧ Turned w3 w3 (fun q => (Value.slice Ao no co).ownBlock = some q) ∧ ∀ q, (Value.slice Ao no co).ownBlock = some q → (Value.slice Ao no co).ownBlock = some q ∨ w3.heap.size ≤ q) := kept ⟨by
          rw [show entP x.ps cn 0 = [] by simp [entP], List.append_nil]
          exact hoi.below hb13, Turned.refl _ _, fun q hq => .inl hq⟩
        have HB13 := kept (And.intro hb13 (hqG.below HB3.out hqG.lt))
        clear hat hpc hSuc hEnt ho2' hxN hno hLen hjl hoi hcnt hbG hqG hb13 hjn2
        go_wp2
        go_loopw [35, 6] (fun i o wr2 => ∃ (q : Nat) (A2 : Option Addr) (n2 c2 : Nat), q ≤ L.n - cn ∧ i = .int .i64 (q : Int) ∧ o = .slice A2 n2 c2 ∧ Hid (OutI W0 A2 n2 c2 (sinceI gs (main, 0) E j ++ entP x.ps cn q) wr2 ∧ Turned w3 wr2 (fun q => (Value.slice Ao no co).ownBlock = some q) ∧ ∀ q, (Value.slice A2 n2 c2).ownBlock = some q → (Value.slice Ao no co).ownBlock = some q ∨ w3.heap.size ≤ q)) (fun i _ _ => L.n - cn - (intOf i).toNat)
        case atStart => exact ⟨0, Ao, no, co, Nat.zero_le _, rfl, rfl, HO3⟩
        case round =>
          obtain ⟨q, A2, n2, k2, hq, rfl, rfl, HQ⟩ := hrel
          clear HO3
          obtain ⟨hat, hpc, hSuc, hEnt, ho2', hxN, hno, hLen, hjl, hoi, hcnt, hbG, hqG, hjn2⟩ := HX.out
          obtain ⟨hoq, htq, hlq⟩ := HQ.out
          have hn2 := hoq.no_
          rw [List.length_append] at hn2
          have hle := entP_len x.ps cn q
          have hLn := hat.n
          by_cases hqn : q < L.n - cn
          · obtain rfl := ho2' (by omega)
            have hql : cn + q < x.ps.length := by omega
            obtain ⟨z, hz⟩ : ∃ z, x.ps[cn + q]? = some z := ⟨_, List.getElem?_eq_getElem hql⟩
            obtain ⟨hz1, hz2⟩ := List.getElem?_eq_some_iff.1 hz
            obtain ⟨r0, r1⟩ := rvC_at x.ps (cn + q) hql
            rw [hz2] at r0 r1
            have z0 := (Keeps.of_below hoq.bel).cell_ (hpc _ _ r0)
            have z1 := (Keeps.of_below hoq.bel).cell_ (hpc _ _ r1)
            rw [Nat.add_mul] at z0 z1
            have hq0 : (0 : Int) ≤ (q : Int) := by omega
            have hq1 : (q : Int) < ((L.n - cn : Nat) : Int) := by omega
            have hn2b : n2 + 1 ≤ 3000000 := by omega
            have hES := entP_succ hz
            have hba : Below wr.heap.size wr ((wr.alloc (.cells #[.int .i64 z.1, .int .i64 z.2] 29)).alloc (.cells #[.int .i64 z.1, .int .i64 z.2, .bool false] 87)) := ((Below.refl _ wr).alloc (Nat.le_refl _) _).alloc (by simp) _
            have hbl : Blk ((wr.alloc (.cells #[.int .i64 z.1, .int .i64 z.2] 29)).alloc (.cells #[.int .i64 z.1, .int .i64 z.2, .bool false] 87)) (wr.heap.size + 1) 87 [.int .i64 z.1, .int .i64 z.2, .bool false] := by
              have := Blk.new (wr.alloc (.cells #[.int .i64 z.1, .int .i64 z.2] 29)) 87 #[.int .i64 z.1, .int .i64 z.2, .bool false]
              rwa [World.size_alloc] at this
            have HY := kept (And.intro (hoq.below hba) (And.intro htq (And.intro hlq (And.intro hba (And.intro hbl (And.intro hES hqn))))))
            clear hat hpc hSuc hEnt ho2' hxN hno hLen hjl hoi hcnt hbG hqG hjn2 hoq htq hlq hn2 hle hLn hql hz hz1 hz2 r0 r1 hES hba hbl hqn HQ
            go_wp2_with (first | (at_builtin; refine wpList_append_g rfl _ _ 84 rfl 87 ⟨wr.heap.size + 1, 0, none⟩ rfl rfl Tryz.underlying84 entinfo rfl (by decide) (by decide) HY.out.1.own (ys := [.int .i64 z.1, .int .i64 z.2, .bool false]) rfl (fun j u hj => by rw [gadd_at, Nat.zero_add, HY.out.2.2.2.2.1.cell j]; exact hj) (by intro u hu; simp only [List.mem_cons, List.not_mem_nil, or_false] at hu; rcases hu with rfl | rfl | rfl <;> rfl) (by exact hn2b) HY.out.1.bel.size ?_; intro A8 c8 w8 h8 g8 loc8; have H8 := kept (And.intro h8 (And.intro g8 loc8)); clear h8 g8 loc8))
            have HQ2 : Hid (OutI W0 A8 (n2 + 1) c8 (sinceI gs (main, 0) E j ++ entP x.ps cn (q + 1)) w8 ∧ Turned w3 w8 (fun q => (Value.slice Ao no co).ownBlock = some q) ∧ ∀ q, (Value.slice A8 (n2 + 1) c8).ownBlock = some q → (Value.slice Ao no co).ownBlock = some q ∨ w3.heap.size ≤ q) := kept (by
              obtain ⟨h8, g8, loc8⟩ := H8.out
              obtain ⟨hoq, htq, hlq, hba, hbl, hES, hqn⟩ := HY.out
              have hs3 := htq.size
              have hsb := hba.size
              refine ⟨⟨by rw [hES, ← List.append_assoc, entC_append]; exact h8, hoq.bel.grown g8 hoq.bel.size (fun y hy => (gown_lt hoq.own hy).1)⟩, (htq.trans (Turned.of_below hba _)).grown g8 (fun y hy e => (hlq y e).elim id (fun e => by omega)), fun y hy => ?_⟩
              rcases loc8 with e | e
              · exact hlq y (e.symm.trans hy)
              · have e2 := e.symm.trans hy
                injection e2 with e2
                exact .inr (by omega))
            have HJ := kept HY.out.2.2.2.2.2.2
            clear HY H8 z0 z1
            go_roundw
            case rel => exact ⟨q + 1, A8, n2 + 1, c8, by have := HJ.out; omega, by go_num, rfl, HQ2⟩
            case measure => have := HJ.out; simp [intOf]; omega
          · have hqe : L.n - cn ≤ q := by omega
            rw [entP_all x.ps cn q (by omega)] at hoq
            have hnb : ¬ (Value.slice Ao no co).ownBlock = some wo.heap.size := fun e => absurd (gown_lt hoi.own e).2 (Nat.lt_irrefl _)
            have hbx := htq.blk HB13.out.2 hnb
            have c0 : wr.cell? ⟨wo.heap.size, 0, none⟩ = some (.int .i64 L.c) := hbx.cell 0
            have c1 : wr.cell? ⟨wo.heap.size, 1, none⟩ = some (.int .i64 L.v) := hbx.cell 1
            have c2 : wr.cell? ⟨wo.heap.size, 2, none⟩ = some (.slice (some ⟨g2, 0, none⟩) L.n L.k) := hbx.cell 2
            have c3 : wr.cell? ⟨wo.heap.size, 3, none⟩ = some (.int .i64 L.e.1) := hbx.cell 3
            have c4 : wr.cell? ⟨wo.heap.size, 4, none⟩ = some (.int .i64 L.e.2) := hbx.cell 4
            have hn2b : n2 + 1 ≤ 3000000 := by omega
            have hle2 := hat.e
            have hqlt : ¬ (q : Int) < ((L.n - cn : Nat) : Int) := by omega
            have hqq : q = L.n - cn := by omega
            subst hqq
            have HZ := kept (And.intro hoq (And.intro hSuc (And.intro hEnt (And.intro hle2 (And.intro hjn2 hbx)))))
            clear hat hpc hSuc hEnt ho2' hxN hno hLen hjl hoi hcnt hbG hqG hjn2 hoq htq hlq hn2 hle hLn hqn hqe hnb hbx hle2 HQ hq
            cases hxe : x.ended
            · rw [hxe] at HEN
              go_wp2_with (first | (go_at_call 78; (with_reducible refine ((HEN _).out).mono ?_); rintro e w5 ⟨rfl, hb⟩; have HB5 := kept hb; clear hb))
              have HOI2 : Hid (OutI W0 A2 n2 k2 (sinceI gs (main, 0) E (j + 1)) w5) := kept (by
                obtain ⟨hoq, hSuc, hEnt, hle2, hjn2, hbx⟩ := HZ.out
                rw [hSuc, hEnt, hxe]
                simp only [Bool.false_eq_true, if_false, List.append_nil]
                exact hoq.below HB5.out)
              have HJ := kept HZ.out.2.2.2.2.1
              clear HZ c0 c1 c2 c3 c4
              go_roundw
              case rel => exact ⟨j + 1, A2, n2, _, by have := HJ.out; omega, by go_num, rfl, HOI2⟩
              case measure => have := HJ.out; simp [intOf]; omega
            · rw [hxe] at HEN
              go_wp2_with fail
              with_reducible refine (HEN _).out.mono ?_
              rintro e w5 ⟨rfl, hb⟩
              obtain ⟨hoq, hSuc, hEnt, hle2, hjn2, hbx⟩ := HZ.out
              have hbx5 := hbx.below hb hbx.lt
              have d3 : w5.cell? ⟨wo.heap.size, 3, none⟩ = some (.int .i64 L.e.1) := hbx5.cell 3
              have d4 : w5.cell? ⟨wo.heap.size, 4, none⟩ = some (.int .i64 L.e.2) := hbx5.cell 4
              have hba : Below w5.heap.size w5 (w5.alloc (.cells #[.int .i64 L.e.1, .int .i64 L.e.2, .bool true] 87)) := (Below.refl _ w5).alloc (Nat.le_refl _) _
              have hbl := Blk.new w5 87 #[.int .i64 L.e.1, .int .i64 L.e.2, .bool true]
              have HY := kept (And.intro ((hoq.below hb).below hba) (And.intro hSuc (And.intro hEnt (And.intro hle2 (And.intro hbl hjn2)))))
              clear hoq hSuc hEnt hle2 hjn2 hbx hbx5 hb hba hbl c0 c1 c2 c3 c4 HZ
              go_wp2_with (first | (at_builtin; refine wpList_append_g rfl _ _ 84 rfl 87 ⟨w5.heap.size, 0, none⟩ rfl rfl Tryz.underlying84 entinfo rfl (by decide) (by decide) HY.out.1.own (ys := [.int .i64 L.e.1, .int .i64 L.e.2, .bool true]) rfl (fun j u hj => by rw [gadd_at, Nat.zero_add, HY.out.2.2.2.2.1.cell j]; exact hj) (by intro u hu; simp only [List.mem_cons, List.not_mem_nil, or_false] at hu; rcases hu with rfl | rfl | rfl <;> rfl) (by exact hn2b) HY.out.1.bel.size ?_; intro A8 c8 w8 h8 g8 loc8; have H8 := kept (And.intro h8 (And.intro g8 loc8)); clear h8 g8 loc8))
              have HOI2 : Hid (OutI W0 A8 (n2 + 1) c8 (sinceI gs (main, 0) E (j + 1)) w8) := kept (by
                obtain ⟨h8, g8, loc8⟩ := H8.out
                obtain ⟨hoq, hSuc, hEnt, hle2, hbl, hjn2⟩ := HY.out
                refine ⟨?_, hoq.bel.grown g8 hoq.bel.size (fun y hy => (gown_lt hoq.own hy).1)⟩
                rw [hSuc, hEnt, hxe, ← hle2]
                simp only [if_true]
                rw [← List.append_assoc, entC_append]
                exact h8)
              have HJ := kept HY.out.2.2.2.2.2
              clear HY H8 d3 d4
              go_roundw
              case rel => exact ⟨j + 1, A8, n2 + 1, c8, by have := HJ.out; omega, by go_num, rfl, HOI2⟩
              case measure => have := HJ.out; simp [intOf]; omega
      · obtain rfl : j = n - E := by omega
        have HQ := kept (And.intro HOI.out HSG.out)
        clear HOI HSG
        go_wp2
        go_ret
        obtain ⟨hoi, rfl⟩ := HQ.out
        obtain rfl := hoi.no_
        exact ⟨Ao, co, rfl, own_mono2 hoi.own HB.out.size, bel_to hoi.bel HB.out⟩
end Go.Proofs.YtlckeebbjnhejaaGreat
end
