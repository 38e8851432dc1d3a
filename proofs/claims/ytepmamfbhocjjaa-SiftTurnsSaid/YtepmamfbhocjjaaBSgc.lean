/-
  Texts laid together: Sgc.
-/
import Derived.Test.YtepmamfbhocjjaaBSgb
import Derived.Deep.CutRange
section
/-
  Package sift: the closure that sorts, in any world that has come of the one it was made in.
-/
namespace Go.Proofs.Ytepmamfbhocjjaa
open Go.ChangeShapes Go.WideShapes Go.ChangeAt Go.RowKit
set_option linter.unusedVariables false
set_option linter.unusedSimpArgs false

theorem reg_of {W : World} {qb g : Nat} {L : LayQ} {q : Qy} {M N : LayV} {x y : Kv} (h : QyB W qb L q ∧ Six W g M x ∧ Six W (g + 1) N y) :
    W.cell? ⟨qb, 4, none⟩ = some (.int .i64 q.sort) ∧ (W.cell? ⟨g, 0, none⟩ = some (.slice M.ka M.kn M.kc) ∧ W.cell? ⟨g, 1, none⟩ = some (.slice M.va M.vn M.vc) ∧ W.cell? ⟨g, 2, none⟩ = some (.int .i64 x.c) ∧ W.cell? ⟨g, 3, none⟩ = some (.int .i64 x.m) ∧ W.cell? ⟨g, 4, none⟩ = some (.int .i64 x.v) ∧ W.cell? ⟨g, 5, none⟩ = some (.int .i64 x.l)) ∧ (W.cell? ⟨g + 1, 0, none⟩ = some (.slice N.ka N.kn N.kc) ∧ W.cell? ⟨g + 1, 1, none⟩ = some (.slice N.va N.vn N.vc) ∧ W.cell? ⟨g + 1, 2, none⟩ = some (.int .i64 y.c) ∧ W.cell? ⟨g + 1, 3, none⟩ = some (.int .i64 y.m) ∧ W.cell? ⟨g + 1, 4, none⟩ = some (.int .i64 y.v) ∧ W.cell? ⟨g + 1, 5, none⟩ = some (.int .i64 y.l)) :=
  ⟨h.1.cells.2.1, h.2.1.cells, h.2.2.cells⟩
/-- What stands while the closure's last statement runs. -/
def Stand (W : World) (qb g : Nat) (L : LayQ) (q : Qy) (M N : LayV) (x y : Kv) : Prop := QyB W qb L q ∧ Six W g M x ∧ Six W (g + 1) N y
theorem Stand.below {W W' : World} {qb g : Nat} {L : LayQ} {q : Qy} {M N : LayV} {x y : Kv} (h : Stand W qb g L q M N x y) (hb : Below W.heap.size W W') : Stand W' qb g L q M N x y :=
  ⟨h.1.below_ hb h.1.lt, h.2.1.below_ hb h.2.1.lt, h.2.2.below_ hb h.2.2.lt⟩
theorem Stand.drew {W : World} {qb g : Nat} {L : LayQ} {q : Qy} {M N : LayV} {x y : Kv} (h : Stand W qb g L q M N x y) : Stand W.drew qb g L q M N x y := h
theorem stand_new {L : LayQ} {q : Qy} (M N : LayV) (x y : Kv) {qb : Nat} {w : World} (hq : QyB w qb L q) : Stand (boxV (boxV w M x) N y) qb w.heap.size L q M N x y ∧ Gro w (boxV (boxV w M x) N y) := by
  have hx := Six.new w M x
  have hy := Six.new (boxV w M x) N y
  rw [boxV_size] at hy
  have hx2 := hx.below_ (boxV_below (boxV w M x) N y) (by rw [boxV_size]; omega)
  have hb0 : Gro w (boxV (boxV w M x) N y) := ((Gro.refl w).alloc _).alloc _
  exact ⟨⟨hq.below_ hb0.below hq.lt, hx2, hy⟩, hb0⟩
set_option maxHeartbeats 2000000 in
set_option maxRecDepth 100000 in
theorem closure_up (L : LayQ) (q : Qy) (hd : q.desc = false) (M N : LayV) (x y : Kv) (qb : Nat) (w : World) (hq : QyB w qb L q) (h : RdV w M x) (g : RdV w N y) :
    Calls Try.prog 21 #[vkv M x, vkv N y, .pointer (some ⟨qb, 0, none⟩)] w fun e w' => e = .returned (.int .i64 (ordU q.sort x y)) ∧ Gro w w' := by
  obtain ⟨o, ho⟩ : ∃ o, ordU q.sort x y = o := ⟨_, rfl⟩
  rw [ho]
  obtain ⟨hst, hb0⟩ := stand_new M N x y hq
  obtain ⟨hs2, hb2⟩ := stand_new M N x y hq
  have kd := hst.1.cells.2.2.1
  obtain ⟨v1, v2, v3, v4, v5, v6⟩ := hst.2.1.cells
  obtain ⟨u1, u2, u3, u4, u5, u6⟩ := hst.2.2.cells
  have f1 := Blk.frozen hst.2.1
  have f2 := Blk.frozen hst.2.2
  rw [hd] at kd
  have HO : Hid (o = ordU q.sort x y) := ho.symm
  have HST := kept hs2
  have HB := kept hb2
  have HRX := kept (h.below hb2.below)
  have HRY := kept (g.below hb2.below)
  obtain ⟨c1, hc1⟩ : ∃ c1, ordQ q.sort x y = c1 := ⟨_, rfl⟩
  obtain ⟨c2, hc2⟩ : ∃ c2, ordB x.key y.key = c2 := ⟨_, rfl⟩
  obtain ⟨r, hr⟩ : ∃ r, (if c1 = 0 then c2 else c1) = r := ⟨_, rfl⟩
  have HRES : Hid (r = o) := by show _ = _; rw [← hr, ← hc1, ← hc2]; exact HO.out.symm
  have HC1 := fun W h g => kept (compareQ_any q.sort M N x y W h g)
  have HC2 := fun W h g => kept (bytesCompare_any M.ka N.ka M.kn N.kn M.kc N.kc x.key y.key W h g)
  rw [hc1] at HC1
  rw [hc2] at HC2
  have HOR : ∀ (t : TypeId) (w W : World), W = w.alloc (.cells #[.int .i64 c1, .int .i64 c2] t) → Hid _ := fun t w W h => kept (or_new c1 c2 t w W h)
  clear hc1 hc2 HO
  clear hst hb0 h g hq ho hd hs2 hb2
  go_enter Try.func21, Try.ntmps21
  go_upto_region 3 with fail
  clear kd v1 v2 v3 v4 v5 v6 u1 u2 u3 u4 u5 u6 f1 f2
  refine name_world (fun W0 hW0 => ?_)
  replace hW0 : W0 = boxV (boxV w M x) N y := hW0
  rw [← hW0] at HST HB HRX HRY
  clear hW0
  rw [hr] at HOR
  have HS : Hid _ := reg_of (HST.out.drew)
  replace HST := kept HST.out.drew
  replace HRX := kept (HRX.out.drew)
  replace HRY := kept (HRY.out.drew)
  replace HB := kept HB.out.drew
  obtain ⟨ka, kn, kc, va, vn, vc⟩ := M
  obtain ⟨xk, xx, xc, xm, xv, xl⟩ := x
  obtain ⟨la, ln, lc, ua, un, uc⟩ := N
  obtain ⟨yk, yx, yc, ym, yv, yl⟩ := y
  obtain ⟨sort, limit, m0, m1, c0, c1', desc, keys, count⟩ := q
  dsimp only at *
  refine wp_region_held_drew (S := (fun W' => W'.cell? ⟨qb, 4, none⟩ = some (.int .i64 sort) ∧ (W'.cell? ⟨w.heap.size, 0, none⟩ = some (.slice ka kn kc) ∧ W'.cell? ⟨w.heap.size, 1, none⟩ = some (.slice va vn vc) ∧ W'.cell? ⟨w.heap.size, 2, none⟩ = some (.int .i64 xc) ∧ W'.cell? ⟨w.heap.size, 3, none⟩ = some (.int .i64 xm) ∧ W'.cell? ⟨w.heap.size, 4, none⟩ = some (.int .i64 xv) ∧ W'.cell? ⟨w.heap.size, 5, none⟩ = some (.int .i64 xl)) ∧ (W'.cell? ⟨w.heap.size + 1, 0, none⟩ = some (.slice la ln lc) ∧ W'.cell? ⟨w.heap.size + 1, 1, none⟩ = some (.slice ua un uc) ∧ W'.cell? ⟨w.heap.size + 1, 2, none⟩ = some (.int .i64 yc) ∧ W'.cell? ⟨w.heap.size + 1, 3, none⟩ = some (.int .i64 ym) ∧ W'.cell? ⟨w.heap.size + 1, 4, none⟩ = some (.int .i64 yv) ∧ W'.cell? ⟨w.heap.size + 1, 5, none⟩ = some (.int .i64 yl)))) (by kernel_rfl) ?_ (fun hHeld => ?_)
  · ((try dsimp only); (with_reducible exact HS.out))
  generalize W0.drew = W at HB HS HST HRX HRY hHeld ⊢
  refine hand_take 0 (some 10) ?_ (by kernel_rfl) (by kernel_rfl) (by kernel_rfl) (by kernel_rfl) (by kernel_rfl) (fun _ _ _ h => h) ?_ (by assumption) ?_
  rotate_left
  · (intro o ho w hSw; (simp only [List.getElem?_toArray, List.getElem?_cons_succ, List.getElem?_cons_zero, Option.some.injEq] at ho); subst ho; (try dsimp only at hSw); go_simp; (first | done | with_reducible rfl))
  (try simp only [Act.put, List.setIfInBounds_toArray, List.set_cons_zero, List.set_cons_succ])
  refine hand_take 1 (some 11) ?_ (by kernel_rfl) (by kernel_rfl) (by kernel_rfl) (by kernel_rfl) (by kernel_rfl) (fun _ _ _ h => h) ?_ (by assumption) ?_
  rotate_left
  · (intro o ho w hSw; (simp only [List.getElem?_toArray, List.getElem?_cons_succ, List.getElem?_cons_zero, Option.some.injEq] at ho); subst ho; (try dsimp only at hSw); go_simp; (first | done | with_reducible rfl))
  (try simp only [Act.put, List.setIfInBounds_toArray, List.set_cons_zero, List.set_cons_succ])
  refine hand_take 2 (some 12) ?_ (by kernel_rfl) (by kernel_rfl) (by kernel_rfl) (by kernel_rfl) (by kernel_rfl) (fun _ _ _ h => h) ?_ (by assumption) ?_
  rotate_left
  · (intro o ho w hSw; (simp only [List.getElem?_toArray, List.getElem?_cons_succ, List.getElem?_cons_zero, Option.some.injEq] at ho); subst ho; (try dsimp only at hSw); go_simp; (first | done | with_reducible rfl))
  (try simp only [Act.put, List.setIfInBounds_toArray, List.set_cons_zero, List.set_cons_succ])
  refine hand_take 3 (some 13) ?_ (by kernel_rfl) (by kernel_rfl) (by kernel_rfl) (by kernel_rfl) (by kernel_rfl) (fun _ _ _ h => h) ?_ (by assumption) ?_
  rotate_left
  · (intro o ho w hSw; (simp only [List.getElem?_toArray, List.getElem?_cons_succ, List.getElem?_cons_zero, Option.some.injEq] at ho); subst ho; (try dsimp only at hSw); go_simp; (first | done | with_reducible rfl))
  (try simp only [Act.put, List.setIfInBounds_toArray, List.set_cons_zero, List.set_cons_succ])
  refine hand_take 5 (some 15) ?_ (by kernel_rfl) (by kernel_rfl) (by kernel_rfl) (by kernel_rfl) (by kernel_rfl) (fun _ _ _ h => h) ?_ (by assumption) ?_
  rotate_left
  · (intro o ho w hSw; (simp only [List.getElem?_toArray, List.getElem?_cons_succ, List.getElem?_cons_zero, Option.some.injEq] at ho); subst ho; (try dsimp only at hSw); go_simp; (first | done | with_reducible rfl))
  (try simp only [Act.put, List.setIfInBounds_toArray, List.set_cons_zero, List.set_cons_succ])
  refine hand_take 6 (some 16) ?_ (by kernel_rfl) (by kernel_rfl) (by kernel_rfl) (by kernel_rfl) (by kernel_rfl) (fun _ _ _ h => h) ?_ (by assumption) ?_
  rotate_left
  · (intro o ho w hSw; (simp only [List.getElem?_toArray, List.getElem?_cons_succ, List.getElem?_cons_zero, Option.some.injEq] at ho); subst ho; (try dsimp only at hSw); go_simp; (first | done | with_reducible rfl))
  (try simp only [Act.put, List.setIfInBounds_toArray, List.set_cons_zero, List.set_cons_succ])
  refine hand_take 7 (some 17) ?_ (by kernel_rfl) (by kernel_rfl) (by kernel_rfl) (by kernel_rfl) (by kernel_rfl) (fun _ _ _ h => h) ?_ (by assumption) ?_
  rotate_left
  · (intro o ho w hSw; (simp only [List.getElem?_toArray, List.getElem?_cons_succ, List.getElem?_cons_zero, Option.some.injEq] at ho); subst ho; (try dsimp only at hSw); go_simp; (first | done | with_reducible rfl))
  (try simp only [Act.put, List.setIfInBounds_toArray, List.set_cons_zero, List.set_cons_succ])
  refine hand_take 8 (some 18) ?_ (by kernel_rfl) (by kernel_rfl) (by kernel_rfl) (by kernel_rfl) (by kernel_rfl) (fun _ _ _ h => h) ?_ (by assumption) ?_
  rotate_left
  · (intro o ho w hSw; (simp only [List.getElem?_toArray, List.getElem?_cons_succ, List.getElem?_cons_zero, Option.some.injEq] at ho); subst ho; (try dsimp only at hSw); go_simp; (first | done | with_reducible rfl))
  (try simp only [Act.put, List.setIfInBounds_toArray, List.set_cons_zero, List.set_cons_succ])
  refine hand_ready 4 (by kernel_rfl) (by kernel_rfl) (fun o ho K hK => ?_)
  (simp only [List.getElem?_toArray, List.getElem?_cons_succ, List.getElem?_cons_zero, Option.some.injEq] at ho)
  subst ho
  go_simp
  (go_at_call 23; (with_reducible refine (HC1 _ HRX.out HRY.out).out.mono ?_); rintro e w1 ⟨rfl, hg⟩; have HST1 := kept (HST.out.below hg.below); have HS1 := kept (reg_of HST1.out); replace HB := kept (HB.out.trans hg); replace HRX := kept (HRX.out.below hg.below); replace HRY := kept (HRY.out.below hg.below); clear hg HS HST; have HS := HS1; have HST := HST1; clear HS1 HST1)
  (try go_wp2_with fail)
  refine hK.out _ _ ?_ (fun hHeld => ?_)
  · ((try dsimp only); (with_reducible exact HS.out))
  clear hK K
  (try simp only [Act.put, List.setIfInBounds_toArray, List.set_cons_zero, List.set_cons_succ])
  refine hand_ready 9 (by kernel_rfl) (by kernel_rfl) (fun o ho K hK => ?_)
  (simp only [List.getElem?_toArray, List.getElem?_cons_succ, List.getElem?_cons_zero, Option.some.injEq] at ho)
  subst ho
  go_simp
  (go_at_call 24; (with_reducible refine (HC2 _ HRX.out.key HRY.out.key).out.mono ?_); rintro e w' ⟨rfl, rfl⟩)
  (try go_wp2_with fail)
  refine hK.out _ _ ?_ (fun hHeld => ?_)
  · ((try dsimp only); (with_reducible exact HS.out))
  clear hK K
  (try simp only [Act.put, List.setIfInBounds_toArray, List.set_cons_zero, List.set_cons_succ])
  refine hand_ready 10 (by kernel_rfl) (by kernel_rfl) (fun o ho K hK => ?_)
  (simp only [List.getElem?_toArray, List.getElem?_cons_succ, List.getElem?_cons_zero, Option.some.injEq] at ho)
  subst ho
  go_simp
  (refine name_world (fun W1 hW => ?_); have HW := kept hW; have HST1 := kept (by have := HST.out.below (Gro.alloc_eq (Gro.refl _) hW).below; exact this); have HS1 := kept (reg_of HST1.out); replace HB := kept (HB.out.alloc_eq hW); clear hW HS HST; have HS := HS1; have HST := HST1; clear HS1 HST1)
  refine hK.out _ _ ?_ (fun hHeld => ?_)
  · ((try dsimp only); (with_reducible exact HS.out))
  clear hK K
  (try simp only [Act.put, List.setIfInBounds_toArray, List.set_cons_zero, List.set_cons_succ])
  refine hand_ready 11 (by kernel_rfl) (by kernel_rfl) (fun o ho K hK => ?_)
  (simp only [List.getElem?_toArray, List.getElem?_cons_succ, List.getElem?_cons_zero, Option.some.injEq] at ho)
  subst ho
  go_simp
  (go_at_call 22; (with_reducible refine (HOR _ _ _ HW.out).out.mono ?_); rintro e w' ⟨rfl, rfl⟩)
  (try go_wp2_with fail)
  refine hK.out _ _ ?_ (fun hHeld => ?_)
  · ((try dsimp only); (with_reducible exact HS.out))
  clear hK K
  (try simp only [Act.put, List.setIfInBounds_toArray, List.set_cons_zero, List.set_cons_succ])
  refine hand_take 12 (some 5) ?_ (by kernel_rfl) (by kernel_rfl) (by kernel_rfl) (by kernel_rfl) (by kernel_rfl) (fun _ _ _ h => h) ?_ (by assumption) ?_
  rotate_left
  · (intro o ho w hSw; (simp only [List.getElem?_toArray, List.getElem?_cons_succ, List.getElem?_cons_zero, Option.some.injEq] at ho); subst ho; (try dsimp only at hSw); go_simp; (first | done | with_reducible rfl))
  (try simp only [Act.put, List.setIfInBounds_toArray, List.set_cons_zero, List.set_cons_succ])
  refine wpAnyH_done (by kernel_rfl) ?_ _
  go_wp2
  go_ret
  exact ⟨ret_int HRES.out, HB.out⟩
set_option maxHeartbeats 2000000 in
set_option maxRecDepth 100000 in
theorem closure_down (L : LayQ) (q : Qy) (hd : q.desc = true) (M N : LayV) (x y : Kv) (qb : Nat) (w : World) (hq : QyB w qb L q) (h : RdV w M x) (g : RdV w N y) :
    Calls Try.prog 21 #[vkv N y, vkv M x, .pointer (some ⟨qb, 0, none⟩)] w fun e w' => e = .returned (.int .i64 (ordU q.sort x y)) ∧ Gro w w' := by
  obtain ⟨o, ho⟩ : ∃ o, ordU q.sort x y = o := ⟨_, rfl⟩
  rw [ho]
  obtain ⟨hst, hb0⟩ := stand_new N M y x hq
  obtain ⟨hs2, hb2⟩ := stand_new M N x y hq
  have kd := hst.1.cells.2.2.1
  obtain ⟨v1, v2, v3, v4, v5, v6⟩ := hst.2.1.cells
  obtain ⟨u1, u2, u3, u4, u5, u6⟩ := hst.2.2.cells
  have f1 := Blk.frozen hst.2.1
  have f2 := Blk.frozen hst.2.2
  rw [hd] at kd
  have HO : Hid (o = ordU q.sort x y) := ho.symm
  have HST := kept hs2
  have HB := kept hb2
  have HRX := kept (h.below hb2.below)
  have HRY := kept (g.below hb2.below)
  obtain ⟨c1, hc1⟩ : ∃ c1, ordQ q.sort x y = c1 := ⟨_, rfl⟩
  obtain ⟨c2, hc2⟩ : ∃ c2, ordB x.key y.key = c2 := ⟨_, rfl⟩
  obtain ⟨r, hr⟩ : ∃ r, (if c1 = 0 then c2 else c1) = r := ⟨_, rfl⟩
  have HRES : Hid (r = o) := by show _ = _; rw [← hr, ← hc1, ← hc2]; exact HO.out.symm
  have HC1 := fun W h g => kept (compareQ_any q.sort M N x y W h g)
  have HC2 := fun W h g => kept (bytesCompare_any M.ka N.ka M.kn N.kn M.kc N.kc x.key y.key W h g)
  rw [hc1] at HC1
  rw [hc2] at HC2
  have HOR : ∀ (t : TypeId) (w W : World), W = w.alloc (.cells #[.int .i64 c1, .int .i64 c2] t) → Hid _ := fun t w W h => kept (or_new c1 c2 t w W h)
  clear hc1 hc2 HO
  clear hst hb0 h g hq ho hd hs2 hb2
  go_enter Try.func21, Try.ntmps21
  go_upto_region 3 with fail
  clear kd v1 v2 v3 v4 v5 v6 u1 u2 u3 u4 u5 u6 f1 f2
  refine name_world (fun W0 hW0 => ?_)
  replace hW0 : W0 = boxV (boxV w M x) N y := hW0
  rw [← hW0] at HST HB HRX HRY
  clear hW0
  rw [hr] at HOR
  have HS : Hid _ := reg_of (HST.out.drew)
  replace HST := kept HST.out.drew
  replace HRX := kept (HRX.out.drew)
  replace HRY := kept (HRY.out.drew)
  replace HB := kept HB.out.drew
  obtain ⟨ka, kn, kc, va, vn, vc⟩ := M
  obtain ⟨xk, xx, xc, xm, xv, xl⟩ := x
  obtain ⟨la, ln, lc, ua, un, uc⟩ := N
  obtain ⟨yk, yx, yc, ym, yv, yl⟩ := y
  obtain ⟨sort, limit, m0, m1, c0, c1', desc, keys, count⟩ := q
  dsimp only at *
  refine wp_region_held_drew (S := (fun W' => W'.cell? ⟨qb, 4, none⟩ = some (.int .i64 sort) ∧ (W'.cell? ⟨w.heap.size, 0, none⟩ = some (.slice ka kn kc) ∧ W'.cell? ⟨w.heap.size, 1, none⟩ = some (.slice va vn vc) ∧ W'.cell? ⟨w.heap.size, 2, none⟩ = some (.int .i64 xc) ∧ W'.cell? ⟨w.heap.size, 3, none⟩ = some (.int .i64 xm) ∧ W'.cell? ⟨w.heap.size, 4, none⟩ = some (.int .i64 xv) ∧ W'.cell? ⟨w.heap.size, 5, none⟩ = some (.int .i64 xl)) ∧ (W'.cell? ⟨w.heap.size + 1, 0, none⟩ = some (.slice la ln lc) ∧ W'.cell? ⟨w.heap.size + 1, 1, none⟩ = some (.slice ua un uc) ∧ W'.cell? ⟨w.heap.size + 1, 2, none⟩ = some (.int .i64 yc) ∧ W'.cell? ⟨w.heap.size + 1, 3, none⟩ = some (.int .i64 ym) ∧ W'.cell? ⟨w.heap.size + 1, 4, none⟩ = some (.int .i64 yv) ∧ W'.cell? ⟨w.heap.size + 1, 5, none⟩ = some (.int .i64 yl)))) (by kernel_rfl) ?_ (fun hHeld => ?_)
  · ((try dsimp only); (with_reducible exact HS.out))
  generalize W0.drew = W at HB HS HST HRX HRY hHeld ⊢
  refine hand_take 0 (some 10) ?_ (by kernel_rfl) (by kernel_rfl) (by kernel_rfl) (by kernel_rfl) (by kernel_rfl) (fun _ _ _ h => h) ?_ (by assumption) ?_
  rotate_left
  · (intro o ho w hSw; (simp only [List.getElem?_toArray, List.getElem?_cons_succ, List.getElem?_cons_zero, Option.some.injEq] at ho); subst ho; (try dsimp only at hSw); go_simp; (first | done | with_reducible rfl))
  (try simp only [Act.put, List.setIfInBounds_toArray, List.set_cons_zero, List.set_cons_succ])
  refine hand_take 1 (some 11) ?_ (by kernel_rfl) (by kernel_rfl) (by kernel_rfl) (by kernel_rfl) (by kernel_rfl) (fun _ _ _ h => h) ?_ (by assumption) ?_
  rotate_left
  · (intro o ho w hSw; (simp only [List.getElem?_toArray, List.getElem?_cons_succ, List.getElem?_cons_zero, Option.some.injEq] at ho); subst ho; (try dsimp only at hSw); go_simp; (first | done | with_reducible rfl))
  (try simp only [Act.put, List.setIfInBounds_toArray, List.set_cons_zero, List.set_cons_succ])
  refine hand_take 2 (some 12) ?_ (by kernel_rfl) (by kernel_rfl) (by kernel_rfl) (by kernel_rfl) (by kernel_rfl) (fun _ _ _ h => h) ?_ (by assumption) ?_
  rotate_left
  · (intro o ho w hSw; (simp only [List.getElem?_toArray, List.getElem?_cons_succ, List.getElem?_cons_zero, Option.some.injEq] at ho); subst ho; (try dsimp only at hSw); go_simp; (first | done | with_reducible rfl))
  (try simp only [Act.put, List.setIfInBounds_toArray, List.set_cons_zero, List.set_cons_succ])
  refine hand_take 3 (some 13) ?_ (by kernel_rfl) (by kernel_rfl) (by kernel_rfl) (by kernel_rfl) (by kernel_rfl) (fun _ _ _ h => h) ?_ (by assumption) ?_
  rotate_left
  · (intro o ho w hSw; (simp only [List.getElem?_toArray, List.getElem?_cons_succ, List.getElem?_cons_zero, Option.some.injEq] at ho); subst ho; (try dsimp only at hSw); go_simp; (first | done | with_reducible rfl))
  (try simp only [Act.put, List.setIfInBounds_toArray, List.set_cons_zero, List.set_cons_succ])
  refine hand_take 5 (some 15) ?_ (by kernel_rfl) (by kernel_rfl) (by kernel_rfl) (by kernel_rfl) (by kernel_rfl) (fun _ _ _ h => h) ?_ (by assumption) ?_
  rotate_left
  · (intro o ho w hSw; (simp only [List.getElem?_toArray, List.getElem?_cons_succ, List.getElem?_cons_zero, Option.some.injEq] at ho); subst ho; (try dsimp only at hSw); go_simp; (first | done | with_reducible rfl))
  (try simp only [Act.put, List.setIfInBounds_toArray, List.set_cons_zero, List.set_cons_succ])
  refine hand_take 6 (some 16) ?_ (by kernel_rfl) (by kernel_rfl) (by kernel_rfl) (by kernel_rfl) (by kernel_rfl) (fun _ _ _ h => h) ?_ (by assumption) ?_
  rotate_left
  · (intro o ho w hSw; (simp only [List.getElem?_toArray, List.getElem?_cons_succ, List.getElem?_cons_zero, Option.some.injEq] at ho); subst ho; (try dsimp only at hSw); go_simp; (first | done | with_reducible rfl))
  (try simp only [Act.put, List.setIfInBounds_toArray, List.set_cons_zero, List.set_cons_succ])
  refine hand_take 7 (some 17) ?_ (by kernel_rfl) (by kernel_rfl) (by kernel_rfl) (by kernel_rfl) (by kernel_rfl) (fun _ _ _ h => h) ?_ (by assumption) ?_
  rotate_left
  · (intro o ho w hSw; (simp only [List.getElem?_toArray, List.getElem?_cons_succ, List.getElem?_cons_zero, Option.some.injEq] at ho); subst ho; (try dsimp only at hSw); go_simp; (first | done | with_reducible rfl))
  (try simp only [Act.put, List.setIfInBounds_toArray, List.set_cons_zero, List.set_cons_succ])
  refine hand_take 8 (some 18) ?_ (by kernel_rfl) (by kernel_rfl) (by kernel_rfl) (by kernel_rfl) (by kernel_rfl) (fun _ _ _ h => h) ?_ (by assumption) ?_
  rotate_left
  · (intro o ho w hSw; (simp only [List.getElem?_toArray, List.getElem?_cons_succ, List.getElem?_cons_zero, Option.some.injEq] at ho); subst ho; (try dsimp only at hSw); go_simp; (first | done | with_reducible rfl))
  (try simp only [Act.put, List.setIfInBounds_toArray, List.set_cons_zero, List.set_cons_succ])
  refine hand_ready 4 (by kernel_rfl) (by kernel_rfl) (fun o ho K hK => ?_)
  (simp only [List.getElem?_toArray, List.getElem?_cons_succ, List.getElem?_cons_zero, Option.some.injEq] at ho)
  subst ho
  go_simp
  (go_at_call 23; (with_reducible refine (HC1 _ HRX.out HRY.out).out.mono ?_); rintro e w1 ⟨rfl, hg⟩; have HST1 := kept (HST.out.below hg.below); have HS1 := kept (reg_of HST1.out); replace HB := kept (HB.out.trans hg); replace HRX := kept (HRX.out.below hg.below); replace HRY := kept (HRY.out.below hg.below); clear hg HS HST; have HS := HS1; have HST := HST1; clear HS1 HST1)
  (try go_wp2_with fail)
  refine hK.out _ _ ?_ (fun hHeld => ?_)
  · ((try dsimp only); (with_reducible exact HS.out))
  clear hK K
  (try simp only [Act.put, List.setIfInBounds_toArray, List.set_cons_zero, List.set_cons_succ])
  refine hand_ready 9 (by kernel_rfl) (by kernel_rfl) (fun o ho K hK => ?_)
  (simp only [List.getElem?_toArray, List.getElem?_cons_succ, List.getElem?_cons_zero, Option.some.injEq] at ho)
  subst ho
  go_simp
  (go_at_call 24; (with_reducible refine (HC2 _ HRX.out.key HRY.out.key).out.mono ?_); rintro e w' ⟨rfl, rfl⟩)
  (try go_wp2_with fail)
  refine hK.out _ _ ?_ (fun hHeld => ?_)
  · ((try dsimp only); (with_reducible exact HS.out))
  clear hK K
  (try simp only [Act.put, List.setIfInBounds_toArray, List.set_cons_zero, List.set_cons_succ])
  refine hand_ready 10 (by kernel_rfl) (by kernel_rfl) (fun o ho K hK => ?_)
  (simp only [List.getElem?_toArray, List.getElem?_cons_succ, List.getElem?_cons_zero, Option.some.injEq] at ho)
  subst ho
  go_simp
  (refine name_world (fun W1 hW => ?_); have HW := kept hW; have HST1 := kept (by have := HST.out.below (Gro.alloc_eq (Gro.refl _) hW).below; exact this); have HS1 := kept (reg_of HST1.out); replace HB := kept (HB.out.alloc_eq hW); clear hW HS HST; have HS := HS1; have HST := HST1; clear HS1 HST1)
  refine hK.out _ _ ?_ (fun hHeld => ?_)
  · ((try dsimp only); (with_reducible exact HS.out))
  clear hK K
  (try simp only [Act.put, List.setIfInBounds_toArray, List.set_cons_zero, List.set_cons_succ])
  refine hand_ready 11 (by kernel_rfl) (by kernel_rfl) (fun o ho K hK => ?_)
  (simp only [List.getElem?_toArray, List.getElem?_cons_succ, List.getElem?_cons_zero, Option.some.injEq] at ho)
  subst ho
  go_simp
  (go_at_call 22; (with_reducible refine (HOR _ _ _ HW.out).out.mono ?_); rintro e w' ⟨rfl, rfl⟩)
  (try go_wp2_with fail)
  refine hK.out _ _ ?_ (fun hHeld => ?_)
  · ((try dsimp only); (with_reducible exact HS.out))
  clear hK K
  (try simp only [Act.put, List.setIfInBounds_toArray, List.set_cons_zero, List.set_cons_succ])
  refine hand_take 12 (some 5) ?_ (by kernel_rfl) (by kernel_rfl) (by kernel_rfl) (by kernel_rfl) (by kernel_rfl) (fun _ _ _ h => h) ?_ (by assumption) ?_
  rotate_left
  · (intro o ho w hSw; (simp only [List.getElem?_toArray, List.getElem?_cons_succ, List.getElem?_cons_zero, Option.some.injEq] at ho); subst ho; (try dsimp only at hSw); go_simp; (first | done | with_reducible rfl))
  (try simp only [Act.put, List.setIfInBounds_toArray, List.set_cons_zero, List.set_cons_succ])
  refine wpAnyH_done (by kernel_rfl) ?_ _
  go_wp2
  go_ret
  exact ⟨ret_int HRES.out, HB.out⟩
theorem closure_any (L : LayQ) (q : Qy) (M N : LayV) (x y : Kv) (qb : Nat) (w : World) (hq : QyB w qb L q) (h : RdV w M x) (g : RdV w N y) :
    Calls Try.prog 21 #[vkv M x, vkv N y, .pointer (some ⟨qb, 0, none⟩)] w fun e w' => e = .returned (.int .i64 (ordS q x y)) ∧ Gro w w' := by
  unfold ordS
  cases hd : q.desc
  · exact closure_up L q hd M N x y qb w hq h g
  · exact closure_down L q hd N M y x qb w hq g h
end Go.Proofs.Ytepmamfbhocjjaa
end
