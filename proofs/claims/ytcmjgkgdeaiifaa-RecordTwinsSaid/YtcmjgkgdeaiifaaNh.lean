/-
  The package's own Twin; the fact that every law of the layer begins with; few; an argument of type api.KV, opened.
-/
import Derived.Test.YtcmjgkgdeaiifaaNg
import Derived.Test.YtcmjgkgdeaiifaaOpn
namespace Go.Proofs.Ytcmjgkgdeaiifaa
open Go.ChangeShapes Go.WideShapes Go.ChangeAt Go.RowKit
set_option linter.unusedVariables false
set_option linter.unusedSimpArgs false

set_option maxRecDepth 100000 in
set_option maxHeartbeats 2000000 in
theorem twin_kv (L : LayV) (x : Kv) (w : World) (h : RdV w L x) :
    Calls Try.prog 22 #[vkv L x] w fun e w' => ∃ M, e = .returned (vkv M x) ∧ OwV w' w.heap.size M x ∧ Below w.heap.size w w' := by
  obtain ⟨s1, s2, hB, hz⟩ := two_blocks w L x
  obtain ⟨k1, k2, k3, k4, k5, k6⟩ := s1.cells
  have HS := kept s1
  have HZ := kept s2
  have HB := kept hB
  have HN := kept hz
  have HH := kept h
  have HX := kept (h.below hB)
  clear h s1 s2 hB hz
  obtain ⟨ka, kn, kc, va, vn, vc⟩ := L
  obtain ⟨xk, xv, c, m, v, l⟩ := x
  unfold boxV zeroes at *
  dsimp only at *
  have HC1 := fun W hr => kept (clone_any ka kn kc xk W hr (by have := HH.out.kb; dsimp only at this; omega))
  have HC2 := fun W hr => kept (clone_any va vn vc xv W hr (by have := HH.out.vb; dsimp only at this; omega))
  have HKV := kept (And.intro HH.out.kb HH.out.vb)
  dsimp only at HKV
  replace HN := kept (show w.heap.size + 2 ≤ _ from Nat.le_of_eq HN.out.symm)
  have HX := kept HX.out
  have HS0 := kept (And.intro k1 k2)
  clear HH
  go_enter Try.func22, Try.ntmps22
  go_wp2_with fail
  refine region_L [7, 9] ((fun W' => W'.cell? ⟨w.heap.size, 0, none⟩ = some (.slice ka kn kc) ∧ W'.cell? ⟨w.heap.size, 1, none⟩ = some (.slice va vn vc))) (by kernel_rfl) ?_ (fun hHeld => ?_)
  · ((try dsimp only); (first | exact ⟨(Keeps.drew _).cell_ HS0.out.1, (Keeps.drew _).cell_ HS0.out.2⟩ | with_reducible exact HQ.out | with_reducible exact HQ2.out))
  (try simp only [List.size_toArray, List.length_cons, List.length_nil, Nat.reduceAdd, Array.replicate_succ, Array.replicate_zero, List.push_toArray, List.append_toArray, List.nil_append, List.cons_append])
  refine take_P 0 (some 3) ?_ (by (intro o ho w; (simp only [List.getElem?_toArray, List.getElem?_cons_succ, List.getElem?_cons_zero, Option.some.injEq] at ho); subst ho; go_simp; (first | done | with_reducible rfl))) (by ((try simp only [Act.put, hA, h0, h1]); (first | done | rfl))) (by first | exact fun _ => by assumption | exact fun hE => absurd hE (by decide))
  (try simp only [Act.put, List.setIfInBounds_toArray, List.set_cons_zero, List.set_cons_succ])
  refine take_L 1 (some 4) ?_ (by (intro o ho w hSw; (simp only [List.getElem?_toArray, List.getElem?_cons_succ, List.getElem?_cons_zero, Option.some.injEq] at ho); subst ho; (try dsimp only at hSw); go_simp; (first | done | with_reducible rfl))) (by ((try simp only [Act.put, hA, h0, h1]); (first | done | rfl)))
  (try simp only [Act.put, List.setIfInBounds_toArray, List.set_cons_zero, List.set_cons_succ])
  refine take_P 3 (some 6) ?_ (by (intro o ho w; (simp only [List.getElem?_toArray, List.getElem?_cons_succ, List.getElem?_cons_zero, Option.some.injEq] at ho); subst ho; go_simp; (first | done | with_reducible rfl))) (by ((try simp only [Act.put, hA, h0, h1]); (first | done | rfl))) (by first | exact fun _ => by assumption | exact fun hE => absurd hE (by decide))
  (try simp only [Act.put, List.setIfInBounds_toArray, List.set_cons_zero, List.set_cons_succ])
  refine take_L 4 (some 7) ?_ (by (intro o ho w hSw; (simp only [List.getElem?_toArray, List.getElem?_cons_succ, List.getElem?_cons_zero, Option.some.injEq] at ho); subst ho; (try dsimp only at hSw); go_simp; (first | done | with_reducible rfl))) (by ((try simp only [Act.put, hA, h0, h1]); (first | done | rfl)))
  (try simp only [Act.put, List.setIfInBounds_toArray, List.set_cons_zero, List.set_cons_succ])
  refine ready_L 2 (fun o ho K hK => ?_)
  (simp only [List.getElem?_toArray, List.getElem?_cons_succ, List.getElem?_cons_zero, Option.some.injEq] at ho)
  subst ho
  go_simp
  (go_at_call 39; (with_reducible refine (HC1 _ (HX.out.drew).key).out.mono ?_); rintro e w1 ⟨A1, c1, rfl, hown, hb⟩; replace hb := (Below.refl _ _).drew.trans hb; have HO1 := kept (own_mono hown (show w.heap.size + 2 ≤ _ from HN.out)); have HL1 := kept hown.lt; have HS1 := kept (HS.out.below_ hb HS.out.lt); have HZ1 := kept (HZ.out.below hb HZ.out.lt); have HB1 := kept (HB.out.trans (hb.mono HB.out.size)); have HX1 := kept (HX.out.below hb); have HN1 := kept (Nat.le_trans HN.out hb.size); have HQ : Hid (w1.cell? ⟨w.heap.size, 0, none⟩ = some (.slice ka kn kc) ∧ w1.cell? ⟨w.heap.size, 1, none⟩ = some (.slice va vn vc)) := kept (And.intro (Blk.cell HS1.out 0) (Blk.cell HS1.out 1)); clear hown hb)
  (try go_wp2_with fail)
  refine hK.out _ _ ?_ (fun hHeld => ?_)
  · (first | exact fun hE => absurd hE (by decide) | (intro _; (try dsimp only); (first | exact ⟨(Keeps.drew _).cell_ HS0.out.1, (Keeps.drew _).cell_ HS0.out.2⟩ | with_reducible exact HQ.out | with_reducible exact HQ2.out)))
  clear hK K
  (try replace hHeld := hHeld (by decide))
  (try simp only [Act.put, List.setIfInBounds_toArray, List.set_cons_zero, List.set_cons_succ])
  refine take_P 6 (some 9) ?_ (by (intro o ho w; (simp only [List.getElem?_toArray, List.getElem?_cons_succ, List.getElem?_cons_zero, Option.some.injEq] at ho); subst ho; go_simp; (first | done | with_reducible rfl))) (by ((try simp only [Act.put, hA, h0, h1]); (first | done | rfl))) (by first | exact fun _ => by assumption | exact fun hE => absurd hE (by decide))
  (try simp only [Act.put, List.setIfInBounds_toArray, List.set_cons_zero, List.set_cons_succ])
  refine ready_L 5 (fun o ho K hK => ?_)
  (simp only [List.getElem?_toArray, List.getElem?_cons_succ, List.getElem?_cons_zero, Option.some.injEq] at ho)
  subst ho
  go_simp
  (go_at_call 39; (with_reducible refine (HC2 _ HX1.out.val).out.mono ?_); rintro e w2 ⟨A2, c2, rfl, hown, hb⟩; have HO2 := kept (own_stays HO1.out hb); have HO3 := kept hown; have HS2 := kept (HS1.out.below_ hb HS1.out.lt); have HZ2 := kept (HZ1.out.below hb HZ1.out.lt); have HB2 := kept (HB1.out.trans (hb.mono HB1.out.size)); have HQ2 : Hid (w2.cell? ⟨w.heap.size, 0, none⟩ = some (.slice ka kn kc) ∧ w2.cell? ⟨w.heap.size, 1, none⟩ = some (.slice va vn vc)) := kept (And.intro (Blk.cell HS2.out 0) (Blk.cell HS2.out 1)); have g0 := HQ2.out.1; have g1 := HQ2.out.2; have f0 := Blk.frozen HS2.out 0; have f1 := Blk.frozen HS2.out 1; clear hown hb)
  (try go_wp2_with fail)
  refine hK.out _ _ ?_ (fun hHeld => ?_)
  · (first | exact fun hE => absurd hE (by decide) | (intro _; (try dsimp only); (first | exact ⟨(Keeps.drew _).cell_ HS0.out.1, (Keeps.drew _).cell_ HS0.out.2⟩ | with_reducible exact HQ.out | with_reducible exact HQ2.out)))
  clear hK K
  (try replace hHeld := hHeld (by decide))
  (try simp only [Act.put, List.setIfInBounds_toArray, List.set_cons_zero, List.set_cons_succ])
  refine ready_L 7 (fun o ho K hK => ?_)
  (simp only [List.getElem?_toArray, List.getElem?_cons_succ, List.getElem?_cons_zero, Option.some.injEq] at ho)
  subst ho
  go_simp
  refine hK.out _ _ ?_ (fun hHeld => ?_)
  · (first | exact fun hE => absurd hE (by decide) | (intro _; (try dsimp only); (first | exact ⟨(Keeps.drew _).cell_ HS0.out.1, (Keeps.drew _).cell_ HS0.out.2⟩ | with_reducible exact HQ.out | with_reducible exact HQ2.out)))
  clear hK K
  (try replace hHeld := hHeld (by decide))
  (try simp only [Act.put, List.setIfInBounds_toArray, List.set_cons_zero, List.set_cons_succ])
  refine take_P 8 (some 10) ?_ (by (intro o ho w; (simp only [List.getElem?_toArray, List.getElem?_cons_succ, List.getElem?_cons_zero, Option.some.injEq] at ho); subst ho; go_simp; (first | done | with_reducible rfl))) (by ((try simp only [Act.put, hA, h0, h1]); (first | done | rfl))) (by first | exact fun _ => by assumption | exact fun hE => absurd hE (by decide))
  (try simp only [Act.put, List.setIfInBounds_toArray, List.set_cons_zero, List.set_cons_succ])
  refine ready_L 9 (fun o ho K hK => ?_)
  (simp only [List.getElem?_toArray, List.getElem?_cons_succ, List.getElem?_cons_zero, Option.some.injEq] at ho)
  subst ho
  go_simp
  refine hK.out _ _ ?_ (fun hHeld => ?_)
  · (first | exact fun hE => absurd hE (by decide) | (intro _; (try dsimp only); (first | exact ⟨(Keeps.drew _).cell_ HS0.out.1, (Keeps.drew _).cell_ HS0.out.2⟩ | with_reducible exact HQ.out | with_reducible exact HQ2.out)))
  clear hK K
  (try replace hHeld := hHeld (by decide))
  (try simp only [Act.put, List.setIfInBounds_toArray, List.set_cons_zero, List.set_cons_succ])
  refine done_L (by kernel_rfl) ?_ _
  have hs3 := Blk.set_ (Blk.set_ HS2.out 0 (.slice A1 kn c1)) 1 (.slice A2 vn c2)
  simp only [cellsV, List.set_cons_zero, List.set_cons_succ] at hs3
  have hzz := (HZ2.out.far (p := ⟨w.heap.size, 0, none⟩) (by simp) (.slice A1 kn c1)).far (p := ⟨w.heap.size, 1, none⟩) (by simp) (.slice A2 vn c2)
  have hbb := (HB2.out.setCell (p := ⟨w.heap.size, 0, none⟩) (Nat.le_refl _) (.slice A1 kn c1)).setCell (p := ⟨w.heap.size, 1, none⟩) (Nat.le_refl _) (.slice A2 vn c2)
  have hoo : OwV ((w2.setCell ⟨w.heap.size, 0, none⟩ (.slice A1 kn c1)).setCell ⟨w.heap.size, 1, none⟩ (.slice A2 vn c2)) (w.heap.size + 2) ⟨A1, kn, c1, A2, vn, c2⟩ ⟨xk, xv, c, m, v, l⟩ :=
    ⟨_, HN1.out, own_far (own_far HO2.out (by omega) 0 _) (by omega) 1 _, own_far (own_far HO3.out (by have := HN1.out; omega) 0 _) (by have := HN1.out; omega) 1 _, fun k hk => (HL1.out k hk).2, HKV.out.1, HKV.out.2⟩
  have hcc : Six ((w2.setCell ⟨w.heap.size, 0, none⟩ (.slice A1 kn c1)).setCell ⟨w.heap.size, 1, none⟩ (.slice A2 vn c2)) w.heap.size ⟨A1, kn, c1, A2, vn, c2⟩ ⟨xk, xv, c, m, v, l⟩ := hs3
  replace hcc := hcc.cells
  clear hs3 HX HC1 HC2 HS HZ HB HO1 HB1 HS1 HZ1 HX1 HO2 HO3 HS2 HZ2 HB2 HQ HQ2 HS0 g0 g1 f0 f1 k1 k2 k3 k4 k5 k6 hHeld
  obtain ⟨X, hX⟩ : ∃ X, (w2.setCell ⟨w.heap.size, 0, none⟩ (.slice A1 kn c1)).setCell ⟨w.heap.size, 1, none⟩ (.slice A2 vn c2) = X := ⟨_, rfl⟩
  rw [hX] at hcc hzz hbb hoo ⊢
  obtain ⟨k1, k2, k3, k4, k5, k6⟩ := hcc
  dsimp only at k1 k2 k3 k4 k5 k6
  have z0 : X.cell? ⟨w.heap.size + 1, 0, none⟩ = some (.slice none 0 0) := hzz.cell 0
  have z1 : X.cell? ⟨w.heap.size + 1, 1, none⟩ = some (.slice none 0 0) := hzz.cell 1
  have z2 : X.cell? ⟨w.heap.size + 1, 2, none⟩ = some (.int .i64 0) := hzz.cell 2
  have z3 : X.cell? ⟨w.heap.size + 1, 3, none⟩ = some (.int .i64 0) := hzz.cell 3
  have z4 : X.cell? ⟨w.heap.size + 1, 4, none⟩ = some (.int .i64 0) := hzz.cell 4
  have z5 : X.cell? ⟨w.heap.size + 1, 5, none⟩ = some (.int .i64 0) := hzz.cell 5
  have f0 := hzz.frozen 0
  have f1 := hzz.frozen 1
  have f2 := hzz.frozen 2
  have f3 := hzz.frozen 3
  have f4 := hzz.frozen 4
  have f5 := hzz.frozen 5
  have hq := set6_blk hzz (.slice A1 kn c1) (.slice A2 vn c2) (.int .i64 c) (.int .i64 m) (.int .i64 v) (.int .i64 l)
  have hB := set6_below (q := w.heap.size + 1) hbb (Nat.le_succ _) (.slice A1 kn c1) (.slice A2 vn c2) (.int .i64 c) (.int .i64 m) (.int .i64 v) (.int .i64 l)
  have hO := OwV.set6 (q := w.heap.size + 1) hoo (by omega) (.slice A1 kn c1) (.slice A2 vn c2) (.int .i64 c) (.int .i64 m) (.int .i64 v) (.int .i64 l)
  have HQ := kept (And.intro hq (And.intro hB (hO.mono (by omega : w.heap.size ≤ w.heap.size + 2))))
  clear hq hB hO hzz hbb hoo
  go_wp2
  obtain ⟨hq, hB, hO⟩ := HQ.out
  unfold set6 at hq hB hO
  generalize ((((((X.setCell ⟨w.heap.size + 1, 0, none⟩ (.slice A1 kn c1)).setCell ⟨w.heap.size + 1, 1, none⟩ (.slice A2 vn c2)).setCell ⟨w.heap.size + 1, 2, none⟩ (.int .i64 c)).setCell ⟨w.heap.size + 1, 3, none⟩ (.int .i64 m)).setCell ⟨w.heap.size + 1, 4, none⟩ (.int .i64 v)).setCell ⟨w.heap.size + 1, 5, none⟩ (.int .i64 l)) = Y at hq hB hO ⊢
  have v0 : Y.cell? ⟨w.heap.size + 1, 0, none⟩ = some (.slice A1 kn c1) := hq.cell 0
  have v1 : Y.cell? ⟨w.heap.size + 1, 1, none⟩ = some (.slice A2 vn c2) := hq.cell 1
  have v2 : Y.cell? ⟨w.heap.size + 1, 2, none⟩ = some (.int .i64 c) := hq.cell 2
  have v3 : Y.cell? ⟨w.heap.size + 1, 3, none⟩ = some (.int .i64 m) := hq.cell 3
  have v4 : Y.cell? ⟨w.heap.size + 1, 4, none⟩ = some (.int .i64 v) := hq.cell 4
  have v5 : Y.cell? ⟨w.heap.size + 1, 5, none⟩ = some (.int .i64 l) := hq.cell 5
  refine bodyPost_ret (v := .agg #[.slice A1 kn c1, .slice A2 vn c2, .int .i64 c, .int .i64 m, .int .i64 v, .int .i64 l]) ?_ rfl ?_
  · simp [results, Try.results22, go_sem, v0, v1, v2, v3, v4, v5]
  · exact ⟨⟨A1, kn, c1, A2, vn, c2⟩, rfl, hO, hB⟩
theorem lives_kv (w : World) : Calls Try.prog 7 #[] w fun e w' => e = .returned (.bool true) ∧ Below w.heap.size w w' := by
  have HA := kept ((Below.refl w.heap.size w).alloc (Nat.le_refl _) (.cells #[.int .u8 97] 5 (1, 2)))
  have HT : Hid (Calls Try.prog 11 #[.slice (some ⟨w.heap.size, 0, none⟩) 1 1] (w.alloc (.cells #[.int .u8 97] 5 (1, 2))) fun e w' => ∃ A' c', e = .returned (.tuple #[.slice A' 4 c', .int .i64 0]) ∧ w'.ownsRow (w.alloc (.cells #[.int .u8 97] 5 (1, 2))).heap.size 5 1 (.slice A' 4 c') 4 (cellsOf (headB 2 [97])) ∧ Below (w.alloc (.cells #[.int .u8 97] 5 (1, 2))).heap.size (w.alloc (.cells #[.int .u8 97] 5 (1, 2))) w') := kept (tomb_yes (some ⟨w.heap.size, 0, none⟩) 1 1 [97] _ ⟨Rd.marked w 5 [97] (1, 2), Nat.le_refl _⟩ rfl)
  have kc := conv_lit w #[.int .u8 97] 1 1
  go_enter Try.func7, Try.ntmps7
  go_wp2_with fail
  with_reducible refine HT.out.mono ?_
  clear kc
  rintro e w1 ⟨A1, c1, rfl, hown, hb⟩
  have c1 : (convert 22 9 (.slice A1 4 c1)).run Try.prog w1 = .ok (.string ⟨#[2, 0, 1, 97]⟩) w1 := (Rd.of_own hown).string (P := Try.prog) c1 22 5 9 Try.underlying22 Try.underlying5 Try.underlying9
  have HB := kept (bel_to hb HA.out)
  clear hown hb
  go_wp2
  go_ret
  exact ⟨by first | rfl | simp, HB.out⟩
theorem few_kv (L : LayV) (x : Kv) (w : World) (h : RdV w L x) (b : Bool) (hb : (decide (L.kn ≤ 200) && decide (L.vn ≤ 2000)) = b) :
    Calls Try.prog 8 #[vkv L x] w fun e w' => e = .returned (.bool b) ∧ Below w.heap.size w w' := by
  obtain ⟨k1, k2, k3, k4, k5, k6⟩ := (Six.new w L x).cells
  have HB0 := kept (boxV_below w L x)
  have HE := kept hb.symm
  clear h hb
  obtain ⟨ka, kn, kc, va, vn, vc⟩ := L
  obtain ⟨xk, xv, c, m, v, l⟩ := x
  unfold boxV at *
  dsimp only at *
  by_cases h : kn ≤ 200
  · have h1 : decide ((kn : Int) ≤ 200) = true := by simp; omega
    go_enter Try.func8, Try.ntmps8
    go_wp2
    go_ret
    exact ⟨ret_bool (by rw [HE.out, Bool.eq_iff_iff]; simp [h]; omega), HB0.out⟩
  · have h1 : decide ((kn : Int) ≤ 200) = false := by simp; omega
    go_enter Try.func8, Try.ntmps8
    go_wp2
    go_ret
    exact ⟨ret_bool (by rw [HE.out]; simp [h]), HB0.out⟩
section
variable {H : Type} {enc : TypeId × Value → H} {W : World}
theorem kv_of {fuel : Nat} {cs : List Value} {x : DataW H × List MemPlace} (hw : Wt x.1 24) (hl : cs.length = 6) (h : DataW.trod enc Try.prog W 0 (fun _ => true) true fuel 24 cs = some x) :
    ∃ (L : LayV) (y : Kv), cs = [.slice L.ka L.kn L.kc, .slice L.va L.vn L.vc, .int .i64 y.c, .int .i64 y.m, .int .i64 y.v, .int .i64 y.l] ∧ RdV W L y := by
  match cs, hl with
  | [c0, c1, c2, c3, c4, c5], _ =>
    obtain ⟨m, hf⟩ := fields_of Try.underlying24 (by kernel_rfl) hw h
    obtain ⟨y0, q0, g0⟩ := hf 0 _ (by simp) rfl
    obtain ⟨y1, q1, g1⟩ := hf 1 _ (by simp) rfl
    obtain ⟨y2, q2, g2⟩ := hf 2 _ (by simp) rfl
    obtain ⟨y3, q3, g3⟩ := hf 3 _ (by simp) rfl
    obtain ⟨y4, q4, g4⟩ := hf 4 _ (by simp) rfl
    obtain ⟨y5, q5, g5⟩ := hf 5 _ (by simp) rfl
    obtain ⟨ka, kn, kc, xk, e0, r0, l0, m0⟩ := bytes_of q0 g0
    obtain ⟨va, vn, vc, xv, e1, r1, l1, m1⟩ := bytes_of q1 g1
    obtain ⟨c, e2, _⟩ := i64_of g2
    obtain ⟨mo, e3, _⟩ := i64_of g3
    obtain ⟨ve, e4, _⟩ := i64_of g4
    obtain ⟨le, e5, _⟩ := i64_of g5
    simp only [List.getElem_cons_zero, List.getElem_cons_succ] at e0 e1 e2 e3 e4 e5
    subst e0 e1 e2 e3 e4 e5
    exact ⟨⟨ka, kn, kc, va, vn, vc⟩, ⟨xk, xv, c, mo, ve, le⟩, rfl, r0, r1, l0, l1, m0, m1⟩
set_option maxRecDepth 100000 in
theorem opened_kv {r : Reach} {b0 : Nat} {v : Value} {d : DataW H} {p : List MemPlace} (hw : Wt d 24) (hv : Value.okWide Try.prog W r b0 24 v) (h : DataW.Trod enc Try.prog W 0 (fun _ => true) true 24 v d p) : ∃ (L : LayV) (x : Kv), v = vkv L x ∧ RdV W L x := by
  obtain ⟨cs, rfl, hsz⟩ := okWide_struct Try.underlying24 hv
  obtain ⟨l⟩ := cs
  have h6 : l.length = 6 := hsz.trans (by kernel_rfl)
  obtain ⟨fuel, hf⟩ := h
  have hf : DataW.trod enc Try.prog W 0 (fun _ => true) true fuel 24 l = some (d, p) := by simpa [Value.cells] using hf
  obtain ⟨L, y, e, hr⟩ := kv_of hw h6 hf
  subst e
  exact ⟨L, y, rfl, hr⟩
end
end Go.Proofs.Ytcmjgkgdeaiifaa
