/-
  What record's Encode answers: the bytes of a right record; nothing of another one.
-/
import Derived.Test.YtcmjgkgdeaiifaaNc
namespace Go.Proofs.Ytcmjgkgdeaiifaa
open Go.ChangeShapes Go.WideShapes Go.ChangeAt Go.RowKit
set_option linter.unusedVariables false
set_option linter.unusedSimpArgs false

theorem six_keeps {w w' : World} {g : Nat} {a b c d e f : Value} (h : w.cell? ⟨g, 0, none⟩ = some a ∧ w.cell? ⟨g, 1, none⟩ = some b ∧ w.cell? ⟨g, 2, none⟩ = some c ∧ w.cell? ⟨g, 3, none⟩ = some d ∧ w.cell? ⟨g, 4, none⟩ = some e ∧ w.cell? ⟨g, 5, none⟩ = some f) (k : Keeps w w') :
    w'.cell? ⟨g, 0, none⟩ = some a ∧ w'.cell? ⟨g, 1, none⟩ = some b ∧ w'.cell? ⟨g, 2, none⟩ = some c ∧ w'.cell? ⟨g, 3, none⟩ = some d ∧ w'.cell? ⟨g, 4, none⟩ = some e ∧ w'.cell? ⟨g, 5, none⟩ = some f :=
  ⟨k.cell_ h.1, k.cell_ h.2.1, k.cell_ h.2.2.1, k.cell_ h.2.2.2.1, k.cell_ h.2.2.2.2.1, k.cell_ h.2.2.2.2.2⟩
theorem RdV.has_key {w : World} {L : LayV} {x : Kv} (h : RdV w L x) : Has w L.ka L.kn L.kc x.key := ⟨h.key, h.kc⟩
theorem RdV.has_val {w : World} {L : LayV} {x : Kv} (h : RdV w L x) : Has w L.va L.vn L.vc x.val := ⟨h.val, h.vc⟩
theorem encode_kv_no (L : LayV) (x : Kv) (w : World) (hR : rightV x = false) (h : RdV w L x) :
    Calls Try.prog 10 #[vkv L x] w fun e w' => e = .returned (.tuple #[.slice none 0 0, .int .i64 4]) ∧ Below w.heap.size w w' := by
  have HR := fun W hr => kept (right_kv L x W false hR hr)
  have HA := kept ((Below.refl w.heap.size w).alloc (Nat.le_refl _) (.cells #[.slice L.ka L.kn L.kc, .slice L.va L.vn L.vc, .int .i64 x.c, .int .i64 x.m, .int .i64 x.v, .int .i64 x.l] 24))
  have H0 := kept (h.below HA.out)
  obtain ⟨k1, k2, k3, k4, k5, k6⟩ := (Six.new w L x).cells
  clear h hR
  obtain ⟨ka, kn, kc, va, vn, vc⟩ := L
  obtain ⟨xk, xv, c, m, v, l⟩ := x
  dsimp only at *
  go_enter Try.func10, Try.ntmps10
  go_wp2_with (first | (go_at_call 13; (with_reducible refine ((HR _ H0.out).out).mono ?_); rintro e w1 ⟨rfl, hb⟩; have HB := kept (bel_to hb HA.out); clear hb))
  go_ret2
  exact ⟨rfl, HB.out⟩
set_option maxHeartbeats 4000000 in
set_option maxRecDepth 100000 in
theorem encode_kv_nat (ka : Option Addr) (kn kc : Nat) (va : Option Addr) (vn vc : Nat) (xk xv : List UInt8) (c m v l : Nat) (w : World) (hR : rightV ⟨xk, xv, c, m, v, l⟩ = true) (h : RdV w ⟨ka, kn, kc, va, vn, vc⟩ ⟨xk, xv, c, m, v, l⟩)
    (hc : c ≤ 4611686018427387904) (hm : m ≤ 4611686018427387904) (hv : v ≤ 4611686018427387904) (hl : l ≤ 4611686018427387904) (hkn : kn ≤ 64) (hvn : vn ≤ 1024) :
    Calls Try.prog 10 #[.agg #[.slice ka kn kc, .slice va vn vc, .int .i64 (c : Int), .int .i64 (m : Int), .int .i64 (v : Int), .int .i64 (l : Int)]] w fun e w' => ∃ A' c', e = .returned (.tuple #[.slice A' (37 + (kn + vn)) c', .int .i64 0]) ∧ w'.ownsRow w.heap.size 5 1 (.slice A' (37 + (kn + vn)) c') (37 + (kn + vn)) (cellsOf (kvB ⟨xk, xv, c, m, v, l⟩)) ∧ Below w.heap.size w w' := by
  have HR := fun W hr => kept (right_kv ⟨ka, kn, kc, va, vn, vc⟩ ⟨xk, xv, c, m, v, l⟩ W true hR hr)
  have HN1 := fun W => kept (number_k c W hc)
  have HN2 := fun W => kept (number_k m W hm)
  have HN3 := fun W => kept (number_k v W hv)
  have HN4 := fun W => kept (number_k l W hl)
  have HKN := kept hkn
  have HVN := kept hvn
  have HE : Hid (kvB ⟨xk, xv, c, m, v, l⟩ = headB 1 xk ++ (numsB c m v l ++ textB xv)) := kvB_nat _ _ _ _ _ _
  have HA := kept ((Below.refl w.heap.size w).alloc (Nat.le_refl _) (.cells #[.slice ka kn kc, .slice va vn vc, .int .i64 (c : Int), .int .i64 (m : Int), .int .i64 (v : Int), .int .i64 (l : Int)] 24))
  have H0 := kept (h.below HA.out)
  have HS0 := kept (Six.new w ⟨ka, kn, kc, va, vn, vc⟩ ⟨xk, xv, c, m, v, l⟩)
  obtain ⟨k1, k2, k3, k4, k5, k6⟩ := HS0.out.cells
  clear h hR hc hm hv hl hkn hvn
  go_enter Try.func10, Try.ntmps10
  go_wp2_with fail
  with_reducible refine (HR _ H0.out).out.mono ?_
  rintro e W ⟨rfl, hb⟩
  have HS := kept (HS0.out.below (hb.mono (Nat.le_refl _))).cells
  dsimp only at HS
  have HK := kept (H0.out.below hb).has_key
  have HV := kept (H0.out.below hb).has_val
  dsimp only at HK HV
  have HB := kept (bel_to hb HA.out)
  clear hb k1 k2 k3 k4 k5 k6 HS0 H0 HA
  go_wp2_with fail
  refine wp_region_held_drew (S := (fun W' => W'.cell? ⟨w.heap.size, 0, none⟩ = some (.slice ka kn kc) ∧ W'.cell? ⟨w.heap.size, 1, none⟩ = some (.slice va vn vc) ∧ W'.cell? ⟨w.heap.size, 2, none⟩ = some (.int .i64 (c : Int)) ∧ W'.cell? ⟨w.heap.size, 3, none⟩ = some (.int .i64 (m : Int)) ∧ W'.cell? ⟨w.heap.size, 4, none⟩ = some (.int .i64 (v : Int)) ∧ W'.cell? ⟨w.heap.size, 5, none⟩ = some (.int .i64 (l : Int)))) (by kernel_rfl) ?_ (fun hHeld => ?_)
  · ((try dsimp only); (first | with_reducible exact HS.out | exact six_keeps HS.out (Keeps.drew _)))
  (replace HB := kept HB.out.drew; replace HS := kept (six_keeps HS.out (Keeps.drew _)); replace HK := kept (HK.out.keeps (Keeps.drew _)); replace HV := kept (HV.out.keeps (Keeps.drew _)); generalize W.drew = W0 at HB HS HK HV hHeld ⊢)
  refine hand_take 0 (some 8) ?_ (by kernel_rfl) (by kernel_rfl) (by kernel_rfl) (by kernel_rfl) (by kernel_rfl) (fun _ _ _ h => h) ?_ (by assumption) ?_
  rotate_left
  · (intro o ho w hSw; (simp only [List.getElem?_toArray, List.getElem?_cons_succ, List.getElem?_cons_zero, Option.some.injEq] at ho); subst ho; (try dsimp only at hSw); go_simp; (first | done | with_reducible rfl))
  (try simp only [Act.put, List.setIfInBounds_toArray, List.set_cons_zero, List.set_cons_succ])
  refine hand_take 1 (some 9) ?_ (by kernel_rfl) (by kernel_rfl) (by kernel_rfl) (by kernel_rfl) (by kernel_rfl) (fun _ _ _ h => h) ?_ (by assumption) ?_
  rotate_left
  · (intro o ho w hSw; (simp only [List.getElem?_toArray, List.getElem?_cons_succ, List.getElem?_cons_zero, Option.some.injEq] at ho); subst ho; (try dsimp only at hSw); go_simp; (first | done | with_reducible rfl))
  (try simp only [Act.put, List.setIfInBounds_toArray, List.set_cons_zero, List.set_cons_succ])
  refine hand_take 3 (some 11) ?_ (by kernel_rfl) (by kernel_rfl) (by kernel_rfl) (by kernel_rfl) (by kernel_rfl) (fun _ _ _ h => h) ?_ (by assumption) ?_
  rotate_left
  · (intro o ho w hSw; (simp only [List.getElem?_toArray, List.getElem?_cons_succ, List.getElem?_cons_zero, Option.some.injEq] at ho); subst ho; (try dsimp only at hSw); go_simp; (first | done | with_reducible rfl))
  (try simp only [Act.put, List.setIfInBounds_toArray, List.set_cons_zero, List.set_cons_succ])
  refine hand_take 4 (some 12) ?_ (by kernel_rfl) (by kernel_rfl) (by kernel_rfl) (by kernel_rfl) (by kernel_rfl) (fun _ _ _ h => h) ?_ (by assumption) ?_
  rotate_left
  · (intro o ho w hSw; (simp only [List.getElem?_toArray, List.getElem?_cons_succ, List.getElem?_cons_zero, Option.some.injEq] at ho); subst ho; (try dsimp only at hSw); go_simp; (first | done | with_reducible rfl))
  (try simp only [Act.put, List.setIfInBounds_toArray, List.set_cons_zero, List.set_cons_succ])
  refine hand_take 6 (some 14) ?_ (by kernel_rfl) (by kernel_rfl) (by kernel_rfl) (by kernel_rfl) (by kernel_rfl) (fun _ _ _ h => h) ?_ (by assumption) ?_
  rotate_left
  · (intro o ho w hSw; (simp only [List.getElem?_toArray, List.getElem?_cons_succ, List.getElem?_cons_zero, Option.some.injEq] at ho); subst ho; (try dsimp only at hSw); go_simp; (first | done | with_reducible rfl))
  (try simp only [Act.put, List.setIfInBounds_toArray, List.set_cons_zero, List.set_cons_succ])
  refine hand_take 7 (some 15) ?_ (by kernel_rfl) (by kernel_rfl) (by kernel_rfl) (by kernel_rfl) (by kernel_rfl) (fun _ _ _ h => h) ?_ (by assumption) ?_
  rotate_left
  · (intro o ho w hSw; (simp only [List.getElem?_toArray, List.getElem?_cons_succ, List.getElem?_cons_zero, Option.some.injEq] at ho); subst ho; (try dsimp only at hSw); go_simp; (first | done | with_reducible rfl))
  (try simp only [Act.put, List.setIfInBounds_toArray, List.set_cons_zero, List.set_cons_succ])
  refine hand_take 9 (some 17) ?_ (by kernel_rfl) (by kernel_rfl) (by kernel_rfl) (by kernel_rfl) (by kernel_rfl) (fun _ _ _ h => h) ?_ (by assumption) ?_
  rotate_left
  · (intro o ho w hSw; (simp only [List.getElem?_toArray, List.getElem?_cons_succ, List.getElem?_cons_zero, Option.some.injEq] at ho); subst ho; (try dsimp only at hSw); go_simp; (first | done | with_reducible rfl))
  (try simp only [Act.put, List.setIfInBounds_toArray, List.set_cons_zero, List.set_cons_succ])
  refine hand_take 10 (some 18) ?_ (by kernel_rfl) (by kernel_rfl) (by kernel_rfl) (by kernel_rfl) (by kernel_rfl) (fun _ _ _ h => h) ?_ (by assumption) ?_
  rotate_left
  · (intro o ho w hSw; (simp only [List.getElem?_toArray, List.getElem?_cons_succ, List.getElem?_cons_zero, Option.some.injEq] at ho); subst ho; (try dsimp only at hSw); go_simp; (first | done | with_reducible rfl))
  (try simp only [Act.put, List.setIfInBounds_toArray, List.set_cons_zero, List.set_cons_succ])
  refine hand_ready 2 (by kernel_rfl) (by kernel_rfl) (fun o ho K hK => ?_)
  (simp only [List.getElem?_toArray, List.getElem?_cons_succ, List.getElem?_cons_zero, Option.some.injEq] at ho)
  subst ho
  go_simp
  (go_at_call 24; (with_reducible refine ((HN1 _).out).mono ?_); rintro e W ⟨A1, c1, rfl, hown, hb⟩; have hk := Keeps.of_below hb; have HB := kept (bel_to hb HB.out); have HS := kept (six_keeps HS.out hk); have HK := kept (HK.out.keeps hk); have HV := kept (HV.out.keeps hk); (try replace H1 := kept (H1.out.keeps hk)); (try replace H2 := kept (H2.out.keeps hk)); (try replace H3 := kept (H3.out.keeps hk)); (try replace H4 := kept (H4.out.keeps hk)); (try replace H5 := kept (H5.out.keeps hk)); (try replace H6 := kept (H6.out.keeps hk)); have H1 := kept (Has.of_own hown); clear hown hb hk)
  (try go_wp2_with fail)
  refine hK.out _ _ ?_ (fun hHeld => ?_)
  · ((try dsimp only); (first | with_reducible exact HS.out | exact six_keeps HS.out (Keeps.drew _)))
  clear hK K
  (try simp only [Act.put, List.setIfInBounds_toArray, List.set_cons_zero, List.set_cons_succ])
  refine hand_ready 5 (by kernel_rfl) (by kernel_rfl) (fun o ho K hK => ?_)
  (simp only [List.getElem?_toArray, List.getElem?_cons_succ, List.getElem?_cons_zero, Option.some.injEq] at ho)
  subst ho
  go_simp
  (go_at_call 24; (with_reducible refine ((HN2 _).out).mono ?_); rintro e W ⟨A2, c2, rfl, hown, hb⟩; have hk := Keeps.of_below hb; have HB := kept (bel_to hb HB.out); have HS := kept (six_keeps HS.out hk); have HK := kept (HK.out.keeps hk); have HV := kept (HV.out.keeps hk); (try replace H1 := kept (H1.out.keeps hk)); (try replace H2 := kept (H2.out.keeps hk)); (try replace H3 := kept (H3.out.keeps hk)); (try replace H4 := kept (H4.out.keeps hk)); (try replace H5 := kept (H5.out.keeps hk)); (try replace H6 := kept (H6.out.keeps hk)); have H2 := kept (Has.of_own hown); clear hown hb hk)
  (try go_wp2_with fail)
  refine hK.out _ _ ?_ (fun hHeld => ?_)
  · ((try dsimp only); (first | with_reducible exact HS.out | exact six_keeps HS.out (Keeps.drew _)))
  clear hK K
  (try simp only [Act.put, List.setIfInBounds_toArray, List.set_cons_zero, List.set_cons_succ])
  refine hand_ready 8 (by kernel_rfl) (by kernel_rfl) (fun o ho K hK => ?_)
  (simp only [List.getElem?_toArray, List.getElem?_cons_succ, List.getElem?_cons_zero, Option.some.injEq] at ho)
  subst ho
  go_simp
  (go_at_call 24; (with_reducible refine ((HN3 _).out).mono ?_); rintro e W ⟨A3, c3, rfl, hown, hb⟩; have hk := Keeps.of_below hb; have HB := kept (bel_to hb HB.out); have HS := kept (six_keeps HS.out hk); have HK := kept (HK.out.keeps hk); have HV := kept (HV.out.keeps hk); (try replace H1 := kept (H1.out.keeps hk)); (try replace H2 := kept (H2.out.keeps hk)); (try replace H3 := kept (H3.out.keeps hk)); (try replace H4 := kept (H4.out.keeps hk)); (try replace H5 := kept (H5.out.keeps hk)); (try replace H6 := kept (H6.out.keeps hk)); have H3 := kept (Has.of_own hown); clear hown hb hk)
  (try go_wp2_with fail)
  refine hK.out _ _ ?_ (fun hHeld => ?_)
  · ((try dsimp only); (first | with_reducible exact HS.out | exact six_keeps HS.out (Keeps.drew _)))
  clear hK K
  (try simp only [Act.put, List.setIfInBounds_toArray, List.set_cons_zero, List.set_cons_succ])
  refine hand_ready 11 (by kernel_rfl) (by kernel_rfl) (fun o ho K hK => ?_)
  (simp only [List.getElem?_toArray, List.getElem?_cons_succ, List.getElem?_cons_zero, Option.some.injEq] at ho)
  subst ho
  go_simp
  (go_at_call 24; (with_reducible refine ((HN4 _).out).mono ?_); rintro e W ⟨A4, c4, rfl, hown, hb⟩; have hk := Keeps.of_below hb; have HB := kept (bel_to hb HB.out); have HS := kept (six_keeps HS.out hk); have HK := kept (HK.out.keeps hk); have HV := kept (HV.out.keeps hk); (try replace H1 := kept (H1.out.keeps hk)); (try replace H2 := kept (H2.out.keeps hk)); (try replace H3 := kept (H3.out.keeps hk)); (try replace H4 := kept (H4.out.keeps hk)); (try replace H5 := kept (H5.out.keeps hk)); (try replace H6 := kept (H6.out.keeps hk)); have H4 := kept (Has.of_own hown); clear hown hb hk)
  (try go_wp2_with fail)
  refine hK.out _ _ ?_ (fun hHeld => ?_)
  · ((try dsimp only); (first | with_reducible exact HS.out | exact six_keeps HS.out (Keeps.drew _)))
  clear hK K
  (try simp only [Act.put, List.setIfInBounds_toArray, List.set_cons_zero, List.set_cons_succ])
  refine hand_ready 12 (by kernel_rfl) (by kernel_rfl) (fun o ho K hK => ?_)
  (simp only [List.getElem?_toArray, List.getElem?_cons_succ, List.getElem?_cons_zero, Option.some.injEq] at ho)
  subst ho
  go_simp
  (refine name_world (fun W hW => ?_); have HW := kept hW; have hk := keeps_alloc hW; have HS := kept (six_keeps HS.out hk); clear hW hk)
  refine hK.out _ _ ?_ (fun hHeld => ?_)
  · ((try dsimp only); (first | with_reducible exact HS.out | exact six_keeps HS.out (Keeps.drew _)))
  clear hK K
  (try simp only [Act.put, List.setIfInBounds_toArray, List.set_cons_zero, List.set_cons_succ])
  refine hand_ready 13 (by kernel_rfl) (by kernel_rfl) (fun o ho K hK => ?_)
  (simp only [List.getElem?_toArray, List.getElem?_cons_succ, List.getElem?_cons_zero, Option.some.injEq] at ho)
  subst ho
  go_simp
  (go_at_call 23; (with_reducible refine (concat_four HW.out H1.out H2.out H3.out H4.out 32 rfl (by decide)).mono ?_); rintro e W5 ⟨A9, c9, rfl, hown, hb⟩; have hk := Keeps.of_below hb; have HS := kept (six_keeps HS.out hk); have hk2 := (keeps_alloc HW.out).trans hk; have HK := kept (HK.out.keeps hk2); have HV := kept (HV.out.keeps hk2); have H6 : Hid (Has W5 A9 32 c9 (numsB c m v l)) := kept (Has.of_own hown); have HB := kept (bel_to hb (bel_to (below_alloc HW.out) HB.out)); clear H1 H2 H3 H4; clear hown hb hk hk2 HW)
  (try go_wp2_with fail)
  refine hK.out _ _ ?_ (fun hHeld => ?_)
  · ((try dsimp only); (first | with_reducible exact HS.out | exact six_keeps HS.out (Keeps.drew _)))
  clear hK K
  (try simp only [Act.put, List.setIfInBounds_toArray, List.set_cons_zero, List.set_cons_succ])
  refine hand_take 14 (some 4) ?_ (by kernel_rfl) (by kernel_rfl) (by kernel_rfl) (by kernel_rfl) (by kernel_rfl) (fun _ _ _ h => h) ?_ (by assumption) ?_
  rotate_left
  · (intro o ho w hSw; (simp only [List.getElem?_toArray, List.getElem?_cons_succ, List.getElem?_cons_zero, Option.some.injEq] at ho); subst ho; (try dsimp only at hSw); go_simp; (first | done | with_reducible rfl))
  (try simp only [Act.put, List.setIfInBounds_toArray, List.set_cons_zero, List.set_cons_succ])
  refine wpAnyH_done (by kernel_rfl) ?_ _
  go_wp2_with fail
  skip
  refine wp_region_held_drew (S := (fun W' => W'.cell? ⟨w.heap.size, 0, none⟩ = some (.slice ka kn kc) ∧ W'.cell? ⟨w.heap.size, 1, none⟩ = some (.slice va vn vc) ∧ W'.cell? ⟨w.heap.size, 2, none⟩ = some (.int .i64 (c : Int)) ∧ W'.cell? ⟨w.heap.size, 3, none⟩ = some (.int .i64 (m : Int)) ∧ W'.cell? ⟨w.heap.size, 4, none⟩ = some (.int .i64 (v : Int)) ∧ W'.cell? ⟨w.heap.size, 5, none⟩ = some (.int .i64 (l : Int)))) (by kernel_rfl) ?_ (fun hHeld => ?_)
  · ((try dsimp only); (first | with_reducible exact HS.out | exact six_keeps HS.out (Keeps.drew _)))
  (replace HB := kept HB.out.drew; replace HS := kept (six_keeps HS.out (Keeps.drew _)); replace HK := kept (HK.out.keeps (Keeps.drew _)); replace HV := kept (HV.out.keeps (Keeps.drew _)); replace H6 := kept (H6.out.keeps (Keeps.drew _)); generalize W5.drew = W0 at HB HS HK HV H6 hHeld ⊢)
  refine hand_take 0 (some 22) ?_ (by kernel_rfl) (by kernel_rfl) (by kernel_rfl) (by kernel_rfl) (by kernel_rfl) (fun _ _ _ h => h) ?_ (by assumption) ?_
  rotate_left
  · (intro o ho w hSw; (simp only [List.getElem?_toArray, List.getElem?_cons_succ, List.getElem?_cons_zero, Option.some.injEq] at ho); subst ho; (try dsimp only at hSw); go_simp; (first | done | with_reducible rfl))
  (try simp only [Act.put, List.setIfInBounds_toArray, List.set_cons_zero, List.set_cons_succ])
  refine hand_take 1 (some 23) ?_ (by kernel_rfl) (by kernel_rfl) (by kernel_rfl) (by kernel_rfl) (by kernel_rfl) (fun _ _ _ h => h) ?_ (by assumption) ?_
  rotate_left
  · (intro o ho w hSw; (simp only [List.getElem?_toArray, List.getElem?_cons_succ, List.getElem?_cons_zero, Option.some.injEq] at ho); subst ho; (try dsimp only at hSw); go_simp; (first | done | with_reducible rfl))
  (try simp only [Act.put, List.setIfInBounds_toArray, List.set_cons_zero, List.set_cons_succ])
  refine hand_take 3 (some 25) ?_ (by kernel_rfl) (by kernel_rfl) (by kernel_rfl) (by kernel_rfl) (by kernel_rfl) (fun _ _ _ h => h) ?_ (by assumption) ?_
  rotate_left
  · (intro o ho w hSw; (simp only [List.getElem?_toArray, List.getElem?_cons_succ, List.getElem?_cons_zero, Option.some.injEq] at ho); subst ho; (try dsimp only at hSw); go_simp; (first | done | with_reducible rfl))
  (try simp only [Act.put, List.setIfInBounds_toArray, List.set_cons_zero, List.set_cons_succ])
  refine hand_take 4 (some 26) ?_ (by kernel_rfl) (by kernel_rfl) (by kernel_rfl) (by kernel_rfl) (by kernel_rfl) (fun _ _ _ h => h) ?_ (by assumption) ?_
  rotate_left
  · (intro o ho w hSw; (simp only [List.getElem?_toArray, List.getElem?_cons_succ, List.getElem?_cons_zero, Option.some.injEq] at ho); subst ho; (try dsimp only at hSw); go_simp; (first | done | with_reducible rfl))
  (try simp only [Act.put, List.setIfInBounds_toArray, List.set_cons_zero, List.set_cons_succ])
  refine hand_take 5 (some 27) ?_ (by kernel_rfl) (by kernel_rfl) (by kernel_rfl) (by kernel_rfl) (by kernel_rfl) (fun _ _ _ h => h) ?_ (by assumption) ?_
  rotate_left
  · (intro o ho w hSw; (simp only [List.getElem?_toArray, List.getElem?_cons_succ, List.getElem?_cons_zero, Option.some.injEq] at ho); subst ho; (try dsimp only at hSw); go_simp; (first | done | with_reducible rfl))
  (try simp only [Act.put, List.setIfInBounds_toArray, List.set_cons_zero, List.set_cons_succ])
  refine hand_ready 2 (by kernel_rfl) (by kernel_rfl) (fun o ho K hK => ?_)
  (simp only [List.getElem?_toArray, List.getElem?_cons_succ, List.getElem?_cons_zero, Option.some.injEq] at ho)
  subst ho
  go_simp
  (go_at_call 25; (with_reducible refine (head_one _ _ _ _ _ HK.out (Nat.lt_of_le_of_lt HKN.out (by decide))).mono ?_); rintro e W ⟨A1, c1, rfl, hown, hb⟩; have hk := Keeps.of_below hb; have HB := kept (bel_to hb HB.out); have HS := kept (six_keeps HS.out hk); have HK := kept (HK.out.keeps hk); have HV := kept (HV.out.keeps hk); (try replace H1 := kept (H1.out.keeps hk)); (try replace H2 := kept (H2.out.keeps hk)); (try replace H3 := kept (H3.out.keeps hk)); (try replace H4 := kept (H4.out.keeps hk)); (try replace H5 := kept (H5.out.keeps hk)); (try replace H6 := kept (H6.out.keeps hk)); have H1 := kept (Has.of_own hown); clear hown hb hk)
  (try go_wp2_with fail)
  refine hK.out _ _ ?_ (fun hHeld => ?_)
  · ((try dsimp only); (first | with_reducible exact HS.out | exact six_keeps HS.out (Keeps.drew _)))
  clear hK K
  (try simp only [Act.put, List.setIfInBounds_toArray, List.set_cons_zero, List.set_cons_succ])
  refine hand_ready 6 (by kernel_rfl) (by kernel_rfl) (fun o ho K hK => ?_)
  (simp only [List.getElem?_toArray, List.getElem?_cons_succ, List.getElem?_cons_zero, Option.some.injEq] at ho)
  subst ho
  go_simp
  (go_at_call 26; (with_reducible refine (text_k _ _ _ _ _ HV.out (Nat.lt_of_le_of_lt HVN.out (by decide))).mono ?_); rintro e W ⟨A2, c2, rfl, hown, hb⟩; have hk := Keeps.of_below hb; have HB := kept (bel_to hb HB.out); have HS := kept (six_keeps HS.out hk); have HK := kept (HK.out.keeps hk); have HV := kept (HV.out.keeps hk); (try replace H1 := kept (H1.out.keeps hk)); (try replace H2 := kept (H2.out.keeps hk)); (try replace H3 := kept (H3.out.keeps hk)); (try replace H4 := kept (H4.out.keeps hk)); (try replace H5 := kept (H5.out.keeps hk)); (try replace H6 := kept (H6.out.keeps hk)); have H2 := kept (Has.of_own hown); clear hown hb hk)
  (try go_wp2_with fail)
  refine hK.out _ _ ?_ (fun hHeld => ?_)
  · ((try dsimp only); (first | with_reducible exact HS.out | exact six_keeps HS.out (Keeps.drew _)))
  clear hK K
  (try simp only [Act.put, List.setIfInBounds_toArray, List.set_cons_zero, List.set_cons_succ])
  refine hand_ready 7 (by kernel_rfl) (by kernel_rfl) (fun o ho K hK => ?_)
  (simp only [List.getElem?_toArray, List.getElem?_cons_succ, List.getElem?_cons_zero, Option.some.injEq] at ho)
  subst ho
  go_simp
  (refine name_world (fun W hW => ?_); have HW := kept hW; have hk := keeps_alloc hW; have HS := kept (six_keeps HS.out hk); clear hW hk)
  refine hK.out _ _ ?_ (fun hHeld => ?_)
  · ((try dsimp only); (first | with_reducible exact HS.out | exact six_keeps HS.out (Keeps.drew _)))
  clear hK K
  (try simp only [Act.put, List.setIfInBounds_toArray, List.set_cons_zero, List.set_cons_succ])
  refine hand_ready 8 (by kernel_rfl) (by kernel_rfl) (fun o ho K hK => ?_)
  (simp only [List.getElem?_toArray, List.getElem?_cons_succ, List.getElem?_cons_zero, Option.some.injEq] at ho)
  subst ho
  go_simp
  (go_at_call 23; (with_reducible refine (concat_three HW.out H1.out H6.out H2.out (37 + (kn + vn)) (by omega) (by have := HKN.out; have := HVN.out; omega)).mono ?_); rintro e W5 ⟨A9, c9, rfl, hown, hb⟩; have hk := Keeps.of_below hb; have HS := kept (six_keeps HS.out hk); have hk2 := (keeps_alloc HW.out).trans hk; have HK := kept (HK.out.keeps hk2); have HV := kept (HV.out.keeps hk2); have HO := kept (own_mono hown (Nat.le_succ_of_le HB.out.size)); have HE9 := kept (bel_to hb (bel_to (below_alloc HW.out) HB.out));  clear hown hb hk hk2 HW)
  (try go_wp2_with fail)
  refine hK.out _ _ ?_ (fun hHeld => ?_)
  · ((try dsimp only); (first | with_reducible exact HS.out | exact six_keeps HS.out (Keeps.drew _)))
  clear hK K
  (try simp only [Act.put, List.setIfInBounds_toArray, List.set_cons_zero, List.set_cons_succ])
  refine hand_take 9 (some 2) ?_ (by kernel_rfl) (by kernel_rfl) (by kernel_rfl) (by kernel_rfl) (by kernel_rfl) (fun _ _ _ h => h) ?_ (by assumption) ?_
  rotate_left
  · (intro o ho w hSw; (simp only [List.getElem?_toArray, List.getElem?_cons_succ, List.getElem?_cons_zero, Option.some.injEq] at ho); subst ho; (try dsimp only at hSw); go_simp; (first | done | with_reducible rfl))
  (try simp only [Act.put, List.setIfInBounds_toArray, List.set_cons_zero, List.set_cons_succ])
  refine hand_take 10 (some 3) ?_ (by kernel_rfl) (by kernel_rfl) (by kernel_rfl) (by kernel_rfl) (by kernel_rfl) (fun _ _ _ h => h) ?_ (by assumption) ?_
  rotate_left
  · (intro o ho w hSw; (simp only [List.getElem?_toArray, List.getElem?_cons_succ, List.getElem?_cons_zero, Option.some.injEq] at ho); subst ho; (try dsimp only at hSw); go_simp; (first | done | with_reducible rfl))
  (try simp only [Act.put, List.setIfInBounds_toArray, List.set_cons_zero, List.set_cons_succ])
  refine wpAnyH_done (by kernel_rfl) ?_ _
  go_wp2
  go_ret2
  exact ⟨_, _, rfl, by rw [HE.out]; exact HO.out, HE9.out⟩
end Go.Proofs.Ytcmjgkgdeaiifaa
