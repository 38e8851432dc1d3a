/-
  The document's own history, loosely: Tomb, Restore.
-/
import Derived.Test.YthpaliagmnclfaaGv
namespace Go.Proofs.Ythpaliagmnclfaa
open Go.ChangeShapes Go.WideShapes Go.ChangeAt Go.RowKit Go.Deep
set_option linter.unusedVariables false
set_option linter.unusedSimpArgs false

set_option maxHeartbeats 2000000 in
theorem rtomb_any {w : World} {b n : Nat} (h : RF w b n) (hn : n ≤ 900000) (q : Rv) :
    Calls Try.prog 27 #[.pointer (some ⟨b, 0, none⟩), .agg #[.int .i64 q.1, .int .i64 q.2]] w (RChg w b n) := by
  have hB0 := (Below.refl w.heap.size w).alloc (Nat.le_refl _) (.cells #[.int .i64 q.1, .int .i64 q.2] 29)
  have HT := kept (two_new w 29 q.1 q.2)
  have H0 := kept (h.below hB0)
  have HB := kept hB0
  have HCH := kept (rcheck_any H0.out (by omega) q)
  have HL := fun W (h : RF W b n) => kept (rlast_any h (by omega))
  have HH := kept h
  clear hB0 h
  go_enter Try.func27, Try.ntmps27
  go_wp2_with fail
  generalize w.alloc (.cells #[.int .i64 q.1, .int .i64 q.2] 29) = W0 at H0 HB HT HCH ⊢
  obtain ⟨t0, t1⟩ := HT.out
  go_wp2_with fail
  with_reducible refine HCH.out.mono ?_
  rintro e w1 ⟨er, her, rfl, hb⟩
  rcases her with rfl | her
  · have H1 := kept (H0.out.below hb)
    have HB1 := kept (bel_to hb HB.out)
    have HT1 := kept (HT.out.keeps (Keeps.of_below hb))
    have HL1 := HL _ H1.out
    clear hb t0 t1
    go_wp2_with fail
    with_reducible refine HL1.out.mono ?_
    rintro e w3 ⟨x, ok, rfl, hb⟩
    have HR3 := kept (H1.out.below hb)
    have HB3 := kept (bel_to hb HB1.out)
    have HT3 := kept (HT1.out.keeps (Keeps.of_below hb))
    obtain ⟨csb, HHB⟩ : ∃ cs, Hid (w.heap[b]? = some (.cells cs 46 (0, 0))) := by
      obtain ⟨A, k, I, h1, _⟩ := HH.out
      exact ⟨_, h1⟩
    have HX := fun o => kept (bel_to ((Below.refl w3.heap.size w3).alloc (Nat.le_refl _) o) HB3.out)
    have v0 : ∀ o, (w3.alloc o).cell? ⟨w.heap.size, 0, none⟩ = some (.int .i64 q.1) := fun o => (Keeps.alloc w3 o).cell_ HT3.out.1
    have v1 : ∀ o, (w3.alloc o).cell? ⟨w.heap.size, 1, none⟩ = some (.int .i64 q.2) := fun o => (Keeps.alloc w3 o).cell_ HT3.out.2
    clear hb HL HT HT1 H0 HCH H1 HB1 HL1
    cases ok
    · go_wp2
      go_returns
      exact ⟨7, n, by simp, rfl, HH.out.below (HX _).out, by omega, fun h => absurd h (by decide), TurnR.of_below (HX _).out⟩
    · cases hxt : x.t
      · have hrf : RF (w3.alloc (.cells #[.int .i64 x.a, .int .i64 x.b, .bool false, .int .i64 x.c, .int .i64 x.v] 83)) b n := HR3.out.below ((Below.refl w3.heap.size w3).alloc (Nat.le_refl _) _)
        obtain ⟨A, k, I, hbx, hown, hIl⟩ := hrf
        have hbs : Below w.heap.size w (w3.alloc (.cells #[.int .i64 x.a, .int .i64 x.b, .bool false, .int .i64 x.c, .int .i64 x.v] 83)) := bel_to ((Below.refl w3.heap.size w3).alloc (Nat.le_refl _) _) HB3.out
        have htw : Two (w3.alloc (.cells #[.int .i64 x.a, .int .i64 x.b, .bool false, .int .i64 x.c, .int .i64 x.v] 83)) w.heap.size q.1 q.2 := HT3.out.keeps (Keeps.of_below ((Below.refl w3.heap.size w3).alloc (Nat.le_refl _) _))
        go_wp2
        generalize hEs : (w3.alloc (.cells #[.int .i64 x.a, .int .i64 x.b, .bool false, .int .i64 x.c, .int .i64 x.v] 83)) = Es at hbx hown hbs htw ⊢
        have hbe : Below Es.heap.size Es Es.drew := (Below.refl _ _).drew
        have HBX := kept (hbx.below hbe hbx.lt)
        have howns := gown_turned hown (Turned.of_below hbe (fun _ => False)) (fun _ _ e => e)
        have HBW := kept (bel_to hbe hbs)
        have HI := kept (And.intro (show (renC I).length = n * 5 by rw [renC_length, hIl]) (And.intro (show 0 < n → ∃ ad, A = some ad ∧ ∀ j u, (renC I)[j]? = some u → Es.drew.cell? (ad.add j) = some u from fun h0 => by obtain ⟨g, e, _⟩ := gown_at howns h0; subst e; exact ⟨_, rfl, fun j u hj => howns.cells (g := g) rfl j u hj⟩) hIl))
        have HS0 := kept (show (fun W' : World => W'.cell? ⟨b, 0, none⟩ = some (.slice A n k) ∧ W'.cell? ⟨w.heap.size, 0, none⟩ = some (.int .i64 q.1) ∧ W'.cell? ⟨w.heap.size, 1, none⟩ = some (.int .i64 q.2)) Es.drew from ⟨HBX.out.cell 0, htw.1, htw.2⟩)
        have HZ := kept (Below.refl Es.drew.heap.size Es.drew)
        clear hbx hown hbs hbe htw howns hIl hEs
        refine region_L [13] ((fun W' => W'.cell? ⟨b, 0, none⟩ = some (.slice A n k) ∧ W'.cell? ⟨w.heap.size, 0, none⟩ = some (.int .i64 q.1) ∧ W'.cell? ⟨w.heap.size, 1, none⟩ = some (.int .i64 q.2))) (by kernel_rfl) ?_ (fun hHeld => ?_)
        · ((try dsimp only); (first | with_reducible exact HS0.out | with_reducible exact HS.out))
        (try simp only [List.size_toArray, List.length_cons, List.length_nil, Nat.reduceAdd, Array.replicate_succ, Array.replicate_zero, List.push_toArray, List.append_toArray, List.nil_append, List.cons_append])
        refine take_P 0 (some 25) ?_ (by (intro o ho w; (simp only [List.getElem?_toArray, List.getElem?_cons_succ, List.getElem?_cons_zero, Option.some.injEq] at ho); subst ho; go_simp; (first | done | with_reducible rfl))) (by ((try simp only [Act.put, hA, h0, h1]); (first | done | rfl))) (by first | exact fun _ => by assumption | exact fun hE => absurd hE (by decide))
        (try simp only [Act.put, List.setIfInBounds_toArray, List.set_cons_zero, List.set_cons_succ])
        refine take_P 2 (some 27) ?_ (by (intro o ho w; (simp only [List.getElem?_toArray, List.getElem?_cons_succ, List.getElem?_cons_zero, Option.some.injEq] at ho); subst ho; go_simp; (first | done | with_reducible rfl))) (by ((try simp only [Act.put, hA, h0, h1]); (first | done | rfl))) (by first | exact fun _ => by assumption | exact fun hE => absurd hE (by decide))
        (try simp only [Act.put, List.setIfInBounds_toArray, List.set_cons_zero, List.set_cons_succ])
        refine take_P 3 (some 28) ?_ (by (intro o ho w; (simp only [List.getElem?_toArray, List.getElem?_cons_succ, List.getElem?_cons_zero, Option.some.injEq] at ho); subst ho; go_simp; (first | done | with_reducible rfl))) (by ((try simp only [Act.put, hA, h0, h1]); (first | done | rfl))) (by first | exact fun _ => by assumption | exact fun hE => absurd hE (by decide))
        (try simp only [Act.put, List.setIfInBounds_toArray, List.set_cons_zero, List.set_cons_succ])
        refine take_P 4 (some 29) ?_ (by (intro o ho w; (simp only [List.getElem?_toArray, List.getElem?_cons_succ, List.getElem?_cons_zero, Option.some.injEq] at ho); subst ho; go_simp; (first | done | with_reducible rfl))) (by ((try simp only [Act.put, hA, h0, h1]); (first | done | rfl))) (by first | exact fun _ => by assumption | exact fun hE => absurd hE (by decide))
        (try simp only [Act.put, List.setIfInBounds_toArray, List.set_cons_zero, List.set_cons_succ])
        refine take_L 5 (some 30) ?_ (by (intro o ho w hSw; (simp only [List.getElem?_toArray, List.getElem?_cons_succ, List.getElem?_cons_zero, Option.some.injEq] at ho); subst ho; (try dsimp only at hSw); go_simp; (first | done | with_reducible rfl))) (by ((try simp only [Act.put, hA, h0, h1]); (first | done | rfl)))
        (try simp only [Act.put, List.setIfInBounds_toArray, List.set_cons_zero, List.set_cons_succ])
        refine take_L 7 (some 32) ?_ (by (intro o ho w hSw; (simp only [List.getElem?_toArray, List.getElem?_cons_succ, List.getElem?_cons_zero, Option.some.injEq] at ho); subst ho; (try dsimp only at hSw); go_simp; (first | done | with_reducible rfl))) (by ((try simp only [Act.put, hA, h0, h1]); (first | done | rfl)))
        (try simp only [Act.put, List.setIfInBounds_toArray, List.set_cons_zero, List.set_cons_succ])
        refine take_P 8 (some 33) ?_ (by (intro o ho w; (simp only [List.getElem?_toArray, List.getElem?_cons_succ, List.getElem?_cons_zero, Option.some.injEq] at ho); subst ho; go_simp; (first | done | with_reducible rfl))) (by ((try simp only [Act.put, hA, h0, h1]); (first | done | rfl))) (by first | exact fun _ => by assumption | exact fun hE => absurd hE (by decide))
        (try simp only [Act.put, List.setIfInBounds_toArray, List.set_cons_zero, List.set_cons_succ])
        refine two_L 1 9 (fun o ho K hK => ?_) (fun o ho K hK => ?_)
        · (simp only [List.getElem?_toArray, List.getElem?_cons_succ, List.getElem?_cons_zero, Option.some.injEq] at ho)
          subst ho
          go_simp
          (refine name_world (fun We hWe => ?_); (try replace hWe := hWe.trans (drew_alloc_ _ _)); have hbe := below_alloc hWe; have HE := kept (ren_empty HZ.out.size hWe); replace HZ := kept (bel_to hbe HZ.out); (try have HNE := kept (ne_new' HY.out hWe)); (try replace HY := kept (HY.out.below hbe HY.out.lt)); (have HS := kept (show (fun W' : World => W'.cell? ⟨b, 0, none⟩ = some (.slice A n k) ∧ W'.cell? ⟨w.heap.size, 0, none⟩ = some (.int .i64 q.1) ∧ W'.cell? ⟨w.heap.size, 1, none⟩ = some (.int .i64 q.2)) _ from ⟨(Keeps.of_below HZ.out).cell_ HS0.out.1, (Keeps.of_below HZ.out).cell_ HS0.out.2.1, (Keeps.of_below HZ.out).cell_ HS0.out.2.2⟩)); clear hbe hWe)
          refine hK.out _ _ ?_ (fun hHeld => ?_)
          · (first | exact fun hE => absurd hE (by decide) | (intro _; (try dsimp only); (first | with_reducible exact HS0.out | with_reducible exact HS.out)))
          clear hK K
          (try replace hHeld := hHeld (by decide))
          (try simp only [Act.put, List.setIfInBounds_toArray, List.set_cons_zero, List.set_cons_succ])
          refine two_L 6 9 (fun o ho K hK => ?_) (fun o ho K hK => ?_)
          · (simp only [List.getElem?_toArray, List.getElem?_cons_succ, List.getElem?_cons_zero, Option.some.injEq] at ho)
            subst ho
            (refine wp_append_h (.tmp 26) (.tmp 30) 44 rfl 83 rfl rfl Try.underlying44 reninfo rfl (by decide) (by decide) HE.out (ys := renC I) HI.out.1 (fun h0 => by obtain ⟨ad, e, hc⟩ := HI.out.2.1 h0; exact ⟨ad, e, fun j u hj => (Keeps.of_below HZ.out).cell_ (hc j u hj)⟩) (renC_one _) (by omega) HZ.out.size ?_; intro A6 c6 w6 h6 g6; rw [Nat.zero_add, List.nil_append] at h6; (try simp only [Nat.zero_add]); have HP := kept h6; (try replace HY := kept (blk_grown HY.out g6 (fun e => HNE.out (Option.some.inj e).symm))); replace HZ := kept (bel_grown HZ.out (Nat.le_refl _) HE.out g6); (have HS := kept (show (fun W' : World => W'.cell? ⟨b, 0, none⟩ = some (.slice A n k) ∧ W'.cell? ⟨w.heap.size, 0, none⟩ = some (.int .i64 q.1) ∧ W'.cell? ⟨w.heap.size, 1, none⟩ = some (.int .i64 q.2)) _ from ⟨(Keeps.of_below HZ.out).cell_ HS0.out.1, (Keeps.of_below HZ.out).cell_ HS0.out.2.1, (Keeps.of_below HZ.out).cell_ HS0.out.2.2⟩)); clear h6 g6)
            refine hK.out _ _ ?_ (fun hHeld => ?_)
            · (first | exact fun hE => absurd hE (by decide) | (intro _; (try dsimp only); (first | with_reducible exact HS0.out | with_reducible exact HS.out)))
            clear hK K
            (try replace hHeld := hHeld (by decide))
            (try simp only [Act.put, List.setIfInBounds_toArray, List.set_cons_zero, List.set_cons_succ])
            refine ready_L 9 (fun o ho K hK => ?_)
            (simp only [List.getElem?_toArray, List.getElem?_cons_succ, List.getElem?_cons_zero, Option.some.injEq] at ho)
            subst ho
            go_simp
            (refine name_world (fun Wy hWy => ?_); (try replace hWy := hWy.trans (drew_alloc_ _ _)); have hby := below_alloc hWy; have HY := kept (ren_new hWy); replace HZ := kept (bel_to hby HZ.out); (try have HNE := kept (ne_new HE.out hWy)); (try replace HE := kept (gown_turned HE.out (Turned.of_below hby (fun _ => False)) (fun _ _ e => e))); (try replace HP := kept (gown_turned HP.out (Turned.of_below hby (fun _ => False)) (fun _ _ e => e))); (have HS := kept (show (fun W' : World => W'.cell? ⟨b, 0, none⟩ = some (.slice A n k) ∧ W'.cell? ⟨w.heap.size, 0, none⟩ = some (.int .i64 q.1) ∧ W'.cell? ⟨w.heap.size, 1, none⟩ = some (.int .i64 q.2)) _ from ⟨(Keeps.of_below HZ.out).cell_ HS0.out.1, (Keeps.of_below HZ.out).cell_ HS0.out.2.1, (Keeps.of_below HZ.out).cell_ HS0.out.2.2⟩)); clear hby hWy)
            refine hK.out _ _ ?_ (fun hHeld => ?_)
            · (first | exact fun hE => absurd hE (by decide) | (intro _; (try dsimp only); (first | with_reducible exact HS0.out | with_reducible exact HS.out)))
            clear hK K
            (try replace hHeld := hHeld (by decide))
            (try simp only [Act.put, List.setIfInBounds_toArray, List.set_cons_zero, List.set_cons_succ])
            refine ready_L 10 (fun o ho K hK => ?_)
            (simp only [List.getElem?_toArray, List.getElem?_cons_succ, List.getElem?_cons_zero, Option.some.injEq] at ho)
            subst ho
            (refine wp_append_h (.tmp 31) (.tmp 34) 44 rfl 83 rfl rfl Try.underlying44 reninfo rfl (by decide) (by decide) HP.out (ys := [.int .i64 q.1, .int .i64 q.2, .bool true, .int .i64 0, .int .i64 0]) rfl (fun _ => ⟨_, rfl, fun j u hj => by rw [gadd_at, Nat.zero_add]; exact (HY.out.cell j).trans hj⟩) (by intro u hu; simp only [List.mem_cons, List.not_mem_nil, or_false] at hu; rcases hu with rfl | rfl | rfl | rfl | rfl <;> rfl) (by omega) HZ.out.size ?_; intro A9 c9 w9 h9 g9; have HP9 := kept h9; replace HZ := kept (bel_grown HZ.out (Nat.le_refl _) HP.out g9); (have HS := kept (show (fun W' : World => W'.cell? ⟨b, 0, none⟩ = some (.slice A n k) ∧ W'.cell? ⟨w.heap.size, 0, none⟩ = some (.int .i64 q.1) ∧ W'.cell? ⟨w.heap.size, 1, none⟩ = some (.int .i64 q.2)) _ from ⟨(Keeps.of_below HZ.out).cell_ HS0.out.1, (Keeps.of_below HZ.out).cell_ HS0.out.2.1, (Keeps.of_below HZ.out).cell_ HS0.out.2.2⟩)); (have hb9 := HS.out.1); have f9 := (HBX.out.below HZ.out HBX.out.lt).frozen 0; clear h9 g9)
            refine hK.out _ _ ?_ (fun hHeld => ?_)
            · (first | exact fun hE => absurd hE (by decide) | (intro _; (try dsimp only); (first | with_reducible exact HS0.out | with_reducible exact HS.out)))
            clear hK K
            (try replace hHeld := hHeld (by decide))
            (try simp only [Act.put, List.setIfInBounds_toArray, List.set_cons_zero, List.set_cons_succ])
            refine take_P 11 (some 36) ?_ (by (intro o ho w; (simp only [List.getElem?_toArray, List.getElem?_cons_succ, List.getElem?_cons_zero, Option.some.injEq] at ho); subst ho; go_simp; (first | done | with_reducible rfl))) (by ((try simp only [Act.put, hA, h0, h1]); (first | done | rfl))) (by first | exact fun _ => by assumption | exact fun hE => absurd hE (by decide))
            (try simp only [Act.put, List.setIfInBounds_toArray, List.set_cons_zero, List.set_cons_succ])
            refine take_P 12 (some 37) ?_ (by (intro o ho w; (simp only [List.getElem?_toArray, List.getElem?_cons_succ, List.getElem?_cons_zero, Option.some.injEq] at ho); subst ho; go_simp; (first | done | with_reducible rfl))) (by ((try simp only [Act.put, hA, h0, h1]); (first | done | rfl))) (by first | exact fun _ => by assumption | exact fun hE => absurd hE (by decide))
            (try simp only [Act.put, List.setIfInBounds_toArray, List.set_cons_zero, List.set_cons_succ])
            refine ready_L 13 (fun o ho K hK => ?_)
            (simp only [List.getElem?_toArray, List.getElem?_cons_succ, List.getElem?_cons_zero, Option.some.injEq] at ho)
            subst ho
            go_simp
            skip
            refine hK.out _ _ ?_ (fun hHeld => ?_)
            · (first | exact fun hE => absurd hE (by decide) | (intro _; (try dsimp only); (first | with_reducible exact HS0.out | with_reducible exact HS.out)))
            clear hK K
            (try replace hHeld := hHeld (by decide))
            (try simp only [Act.put, List.setIfInBounds_toArray, List.set_cons_zero, List.set_cons_succ])
            refine done_L (by kernel_rfl) ?_ _
            clear hHeld hb9 f9
            go_wp2
            go_returns
            have hbX := (HBX.out.below HZ.out HBX.out.lt).set_ 0 (.slice A9 (n + 1) c9)
            have tX : Turned w9 (w9.setCell ⟨b, 0, none⟩ (.slice A9 (n + 1) c9)) (fun j => j = b) := (Turned.refl w9 (fun j => j = b)).setCell (p := ⟨b, 0, none⟩) (fun _ => rfl) _
            have h9 := HP9.out
            have h9' : w9.ownsRow Es.drew.heap.size 83 5 (.slice A9 (n + 1) c9) (n + 1) (renC (I ++ [⟨q.1, q.2, true, 0, 0⟩])) := by
              rw [renC_append]
              exact h9
            have hoX := gown_turned h9' tX (fun j hj e => by have := (gown_lt h9' hj).1; have := HBX.out.lt; omega)
            refine ⟨0, n + 1, by simp, rfl, ⟨A9, c9, I ++ [⟨q.1, q.2, true, 0, 0⟩], hbX, own_mono3 hoX (Nat.le_of_lt HBX.out.lt), by simp [HI.out.2.2]⟩, Nat.le_refl _, fun _ => by omega, ?_⟩
            exact ((Turned.of_below (bel_to HZ.out HBW.out) (OfT b w)).chain tX (fun j hj e => by subst e; exact ⟨Nat.le_refl _, _, _, _, HHB.out, .inl rfl⟩))
          · (simp only [List.getElem?_toArray, List.getElem?_cons_succ, List.getElem?_cons_zero, Option.some.injEq] at ho)
            subst ho
            go_simp
            (refine name_world (fun Wy hWy => ?_); (try replace hWy := hWy.trans (drew_alloc_ _ _)); have hby := below_alloc hWy; have HY := kept (ren_new hWy); replace HZ := kept (bel_to hby HZ.out); (try have HNE := kept (ne_new HE.out hWy)); (try replace HE := kept (gown_turned HE.out (Turned.of_below hby (fun _ => False)) (fun _ _ e => e))); (try replace HP := kept (gown_turned HP.out (Turned.of_below hby (fun _ => False)) (fun _ _ e => e))); (have HS := kept (show (fun W' : World => W'.cell? ⟨b, 0, none⟩ = some (.slice A n k) ∧ W'.cell? ⟨w.heap.size, 0, none⟩ = some (.int .i64 q.1) ∧ W'.cell? ⟨w.heap.size, 1, none⟩ = some (.int .i64 q.2)) _ from ⟨(Keeps.of_below HZ.out).cell_ HS0.out.1, (Keeps.of_below HZ.out).cell_ HS0.out.2.1, (Keeps.of_below HZ.out).cell_ HS0.out.2.2⟩)); clear hby hWy)
            refine hK.out _ _ ?_ (fun hHeld => ?_)
            · (first | exact fun hE => absurd hE (by decide) | (intro _; (try dsimp only); (first | with_reducible exact HS0.out | with_reducible exact HS.out)))
            clear hK K
            (try replace hHeld := hHeld (by decide))
            (try simp only [Act.put, List.setIfInBounds_toArray, List.set_cons_zero, List.set_cons_succ])
            refine ready_L 6 (fun o ho K hK => ?_)
            (simp only [List.getElem?_toArray, List.getElem?_cons_succ, List.getElem?_cons_zero, Option.some.injEq] at ho)
            subst ho
            (refine wp_append_h (.tmp 26) (.tmp 30) 44 rfl 83 rfl rfl Try.underlying44 reninfo rfl (by decide) (by decide) HE.out (ys := renC I) HI.out.1 (fun h0 => by obtain ⟨ad, e, hc⟩ := HI.out.2.1 h0; exact ⟨ad, e, fun j u hj => (Keeps.of_below HZ.out).cell_ (hc j u hj)⟩) (renC_one _) (by omega) HZ.out.size ?_; intro A6 c6 w6 h6 g6; rw [Nat.zero_add, List.nil_append] at h6; (try simp only [Nat.zero_add]); have HP := kept h6; (try replace HY := kept (blk_grown HY.out g6 (fun e => HNE.out (Option.some.inj e).symm))); replace HZ := kept (bel_grown HZ.out (Nat.le_refl _) HE.out g6); (have HS := kept (show (fun W' : World => W'.cell? ⟨b, 0, none⟩ = some (.slice A n k) ∧ W'.cell? ⟨w.heap.size, 0, none⟩ = some (.int .i64 q.1) ∧ W'.cell? ⟨w.heap.size, 1, none⟩ = some (.int .i64 q.2)) _ from ⟨(Keeps.of_below HZ.out).cell_ HS0.out.1, (Keeps.of_below HZ.out).cell_ HS0.out.2.1, (Keeps.of_below HZ.out).cell_ HS0.out.2.2⟩)); clear h6 g6)
            refine hK.out _ _ ?_ (fun hHeld => ?_)
            · (first | exact fun hE => absurd hE (by decide) | (intro _; (try dsimp only); (first | with_reducible exact HS0.out | with_reducible exact HS.out)))
            clear hK K
            (try replace hHeld := hHeld (by decide))
            (try simp only [Act.put, List.setIfInBounds_toArray, List.set_cons_zero, List.set_cons_succ])
            refine ready_L 10 (fun o ho K hK => ?_)
            (simp only [List.getElem?_toArray, List.getElem?_cons_succ, List.getElem?_cons_zero, Option.some.injEq] at ho)
            subst ho
            (refine wp_append_h (.tmp 31) (.tmp 34) 44 rfl 83 rfl rfl Try.underlying44 reninfo rfl (by decide) (by decide) HP.out (ys := [.int .i64 q.1, .int .i64 q.2, .bool true, .int .i64 0, .int .i64 0]) rfl (fun _ => ⟨_, rfl, fun j u hj => by rw [gadd_at, Nat.zero_add]; exact (HY.out.cell j).trans hj⟩) (by intro u hu; simp only [List.mem_cons, List.not_mem_nil, or_false] at hu; rcases hu with rfl | rfl | rfl | rfl | rfl <;> rfl) (by omega) HZ.out.size ?_; intro A9 c9 w9 h9 g9; have HP9 := kept h9; replace HZ := kept (bel_grown HZ.out (Nat.le_refl _) HP.out g9); (have HS := kept (show (fun W' : World => W'.cell? ⟨b, 0, none⟩ = some (.slice A n k) ∧ W'.cell? ⟨w.heap.size, 0, none⟩ = some (.int .i64 q.1) ∧ W'.cell? ⟨w.heap.size, 1, none⟩ = some (.int .i64 q.2)) _ from ⟨(Keeps.of_below HZ.out).cell_ HS0.out.1, (Keeps.of_below HZ.out).cell_ HS0.out.2.1, (Keeps.of_below HZ.out).cell_ HS0.out.2.2⟩)); (have hb9 := HS.out.1); have f9 := (HBX.out.below HZ.out HBX.out.lt).frozen 0; clear h9 g9)
            refine hK.out _ _ ?_ (fun hHeld => ?_)
            · (first | exact fun hE => absurd hE (by decide) | (intro _; (try dsimp only); (first | with_reducible exact HS0.out | with_reducible exact HS.out)))
            clear hK K
            (try replace hHeld := hHeld (by decide))
            (try simp only [Act.put, List.setIfInBounds_toArray, List.set_cons_zero, List.set_cons_succ])
            refine take_P 11 (some 36) ?_ (by (intro o ho w; (simp only [List.getElem?_toArray, List.getElem?_cons_succ, List.getElem?_cons_zero, Option.some.injEq] at ho); subst ho; go_simp; (first | done | with_reducible rfl))) (by ((try simp only [Act.put, hA, h0, h1]); (first | done | rfl))) (by first | exact fun _ => by assumption | exact fun hE => absurd hE (by decide))
            (try simp only [Act.put, List.setIfInBounds_toArray, List.set_cons_zero, List.set_cons_succ])
            refine take_P 12 (some 37) ?_ (by (intro o ho w; (simp only [List.getElem?_toArray, List.getElem?_cons_succ, List.getElem?_cons_zero, Option.some.injEq] at ho); subst ho; go_simp; (first | done | with_reducible rfl))) (by ((try simp only [Act.put, hA, h0, h1]); (first | done | rfl))) (by first | exact fun _ => by assumption | exact fun hE => absurd hE (by decide))
            (try simp only [Act.put, List.setIfInBounds_toArray, List.set_cons_zero, List.set_cons_succ])
            refine ready_L 13 (fun o ho K hK => ?_)
            (simp only [List.getElem?_toArray, List.getElem?_cons_succ, List.getElem?_cons_zero, Option.some.injEq] at ho)
            subst ho
            go_simp
            skip
            refine hK.out _ _ ?_ (fun hHeld => ?_)
            · (first | exact fun hE => absurd hE (by decide) | (intro _; (try dsimp only); (first | with_reducible exact HS0.out | with_reducible exact HS.out)))
            clear hK K
            (try replace hHeld := hHeld (by decide))
            (try simp only [Act.put, List.setIfInBounds_toArray, List.set_cons_zero, List.set_cons_succ])
            refine done_L (by kernel_rfl) ?_ _
            clear hHeld hb9 f9
            go_wp2
            go_returns
            have hbX := (HBX.out.below HZ.out HBX.out.lt).set_ 0 (.slice A9 (n + 1) c9)
            have tX : Turned w9 (w9.setCell ⟨b, 0, none⟩ (.slice A9 (n + 1) c9)) (fun j => j = b) := (Turned.refl w9 (fun j => j = b)).setCell (p := ⟨b, 0, none⟩) (fun _ => rfl) _
            have h9 := HP9.out
            have h9' : w9.ownsRow Es.drew.heap.size 83 5 (.slice A9 (n + 1) c9) (n + 1) (renC (I ++ [⟨q.1, q.2, true, 0, 0⟩])) := by
              rw [renC_append]
              exact h9
            have hoX := gown_turned h9' tX (fun j hj e => by have := (gown_lt h9' hj).1; have := HBX.out.lt; omega)
            refine ⟨0, n + 1, by simp, rfl, ⟨A9, c9, I ++ [⟨q.1, q.2, true, 0, 0⟩], hbX, own_mono3 hoX (Nat.le_of_lt HBX.out.lt), by simp [HI.out.2.2]⟩, Nat.le_refl _, fun _ => by omega, ?_⟩
            exact ((Turned.of_below (bel_to HZ.out HBW.out) (OfT b w)).chain tX (fun j hj e => by subst e; exact ⟨Nat.le_refl _, _, _, _, HHB.out, .inl rfl⟩))
        · (simp only [List.getElem?_toArray, List.getElem?_cons_succ, List.getElem?_cons_zero, Option.some.injEq] at ho)
          subst ho
          go_simp
          (refine name_world (fun Wy hWy => ?_); (try replace hWy := hWy.trans (drew_alloc_ _ _)); have hby := below_alloc hWy; have HY := kept (ren_new hWy); replace HZ := kept (bel_to hby HZ.out); (try have HNE := kept (ne_new HE.out hWy)); (try replace HE := kept (gown_turned HE.out (Turned.of_below hby (fun _ => False)) (fun _ _ e => e))); (try replace HP := kept (gown_turned HP.out (Turned.of_below hby (fun _ => False)) (fun _ _ e => e))); (have HS := kept (show (fun W' : World => W'.cell? ⟨b, 0, none⟩ = some (.slice A n k) ∧ W'.cell? ⟨w.heap.size, 0, none⟩ = some (.int .i64 q.1) ∧ W'.cell? ⟨w.heap.size, 1, none⟩ = some (.int .i64 q.2)) _ from ⟨(Keeps.of_below HZ.out).cell_ HS0.out.1, (Keeps.of_below HZ.out).cell_ HS0.out.2.1, (Keeps.of_below HZ.out).cell_ HS0.out.2.2⟩)); clear hby hWy)
          refine hK.out _ _ ?_ (fun hHeld => ?_)
          · (first | exact fun hE => absurd hE (by decide) | (intro _; (try dsimp only); (first | with_reducible exact HS0.out | with_reducible exact HS.out)))
          clear hK K
          (try replace hHeld := hHeld (by decide))
          (try simp only [Act.put, List.setIfInBounds_toArray, List.set_cons_zero, List.set_cons_succ])
          refine ready_L 1 (fun o ho K hK => ?_)
          (simp only [List.getElem?_toArray, List.getElem?_cons_succ, List.getElem?_cons_zero, Option.some.injEq] at ho)
          subst ho
          go_simp
          (refine name_world (fun We hWe => ?_); (try replace hWe := hWe.trans (drew_alloc_ _ _)); have hbe := below_alloc hWe; have HE := kept (ren_empty HZ.out.size hWe); replace HZ := kept (bel_to hbe HZ.out); (try have HNE := kept (ne_new' HY.out hWe)); (try replace HY := kept (HY.out.below hbe HY.out.lt)); (have HS := kept (show (fun W' : World => W'.cell? ⟨b, 0, none⟩ = some (.slice A n k) ∧ W'.cell? ⟨w.heap.size, 0, none⟩ = some (.int .i64 q.1) ∧ W'.cell? ⟨w.heap.size, 1, none⟩ = some (.int .i64 q.2)) _ from ⟨(Keeps.of_below HZ.out).cell_ HS0.out.1, (Keeps.of_below HZ.out).cell_ HS0.out.2.1, (Keeps.of_below HZ.out).cell_ HS0.out.2.2⟩)); clear hbe hWe)
          refine hK.out _ _ ?_ (fun hHeld => ?_)
          · (first | exact fun hE => absurd hE (by decide) | (intro _; (try dsimp only); (first | with_reducible exact HS0.out | with_reducible exact HS.out)))
          clear hK K
          (try replace hHeld := hHeld (by decide))
          (try simp only [Act.put, List.setIfInBounds_toArray, List.set_cons_zero, List.set_cons_succ])
          refine ready_L 6 (fun o ho K hK => ?_)
          (simp only [List.getElem?_toArray, List.getElem?_cons_succ, List.getElem?_cons_zero, Option.some.injEq] at ho)
          subst ho
          (refine wp_append_h (.tmp 26) (.tmp 30) 44 rfl 83 rfl rfl Try.underlying44 reninfo rfl (by decide) (by decide) HE.out (ys := renC I) HI.out.1 (fun h0 => by obtain ⟨ad, e, hc⟩ := HI.out.2.1 h0; exact ⟨ad, e, fun j u hj => (Keeps.of_below HZ.out).cell_ (hc j u hj)⟩) (renC_one _) (by omega) HZ.out.size ?_; intro A6 c6 w6 h6 g6; rw [Nat.zero_add, List.nil_append] at h6; (try simp only [Nat.zero_add]); have HP := kept h6; (try replace HY := kept (blk_grown HY.out g6 (fun e => HNE.out (Option.some.inj e).symm))); replace HZ := kept (bel_grown HZ.out (Nat.le_refl _) HE.out g6); (have HS := kept (show (fun W' : World => W'.cell? ⟨b, 0, none⟩ = some (.slice A n k) ∧ W'.cell? ⟨w.heap.size, 0, none⟩ = some (.int .i64 q.1) ∧ W'.cell? ⟨w.heap.size, 1, none⟩ = some (.int .i64 q.2)) _ from ⟨(Keeps.of_below HZ.out).cell_ HS0.out.1, (Keeps.of_below HZ.out).cell_ HS0.out.2.1, (Keeps.of_below HZ.out).cell_ HS0.out.2.2⟩)); clear h6 g6)
          refine hK.out _ _ ?_ (fun hHeld => ?_)
          · (first | exact fun hE => absurd hE (by decide) | (intro _; (try dsimp only); (first | with_reducible exact HS0.out | with_reducible exact HS.out)))
          clear hK K
          (try replace hHeld := hHeld (by decide))
          (try simp only [Act.put, List.setIfInBounds_toArray, List.set_cons_zero, List.set_cons_succ])
          refine ready_L 10 (fun o ho K hK => ?_)
          (simp only [List.getElem?_toArray, List.getElem?_cons_succ, List.getElem?_cons_zero, Option.some.injEq] at ho)
          subst ho
          (refine wp_append_h (.tmp 31) (.tmp 34) 44 rfl 83 rfl rfl Try.underlying44 reninfo rfl (by decide) (by decide) HP.out (ys := [.int .i64 q.1, .int .i64 q.2, .bool true, .int .i64 0, .int .i64 0]) rfl (fun _ => ⟨_, rfl, fun j u hj => by rw [gadd_at, Nat.zero_add]; exact (HY.out.cell j).trans hj⟩) (by intro u hu; simp only [List.mem_cons, List.not_mem_nil, or_false] at hu; rcases hu with rfl | rfl | rfl | rfl | rfl <;> rfl) (by omega) HZ.out.size ?_; intro A9 c9 w9 h9 g9; have HP9 := kept h9; replace HZ := kept (bel_grown HZ.out (Nat.le_refl _) HP.out g9); (have HS := kept (show (fun W' : World => W'.cell? ⟨b, 0, none⟩ = some (.slice A n k) ∧ W'.cell? ⟨w.heap.size, 0, none⟩ = some (.int .i64 q.1) ∧ W'.cell? ⟨w.heap.size, 1, none⟩ = some (.int .i64 q.2)) _ from ⟨(Keeps.of_below HZ.out).cell_ HS0.out.1, (Keeps.of_below HZ.out).cell_ HS0.out.2.1, (Keeps.of_below HZ.out).cell_ HS0.out.2.2⟩)); (have hb9 := HS.out.1); have f9 := (HBX.out.below HZ.out HBX.out.lt).frozen 0; clear h9 g9)
          refine hK.out _ _ ?_ (fun hHeld => ?_)
          · (first | exact fun hE => absurd hE (by decide) | (intro _; (try dsimp only); (first | with_reducible exact HS0.out | with_reducible exact HS.out)))
          clear hK K
          (try replace hHeld := hHeld (by decide))
          (try simp only [Act.put, List.setIfInBounds_toArray, List.set_cons_zero, List.set_cons_succ])
          refine take_P 11 (some 36) ?_ (by (intro o ho w; (simp only [List.getElem?_toArray, List.getElem?_cons_succ, List.getElem?_cons_zero, Option.some.injEq] at ho); subst ho; go_simp; (first | done | with_reducible rfl))) (by ((try simp only [Act.put, hA, h0, h1]); (first | done | rfl))) (by first | exact fun _ => by assumption | exact fun hE => absurd hE (by decide))
          (try simp only [Act.put, List.setIfInBounds_toArray, List.set_cons_zero, List.set_cons_succ])
          refine take_P 12 (some 37) ?_ (by (intro o ho w; (simp only [List.getElem?_toArray, List.getElem?_cons_succ, List.getElem?_cons_zero, Option.some.injEq] at ho); subst ho; go_simp; (first | done | with_reducible rfl))) (by ((try simp only [Act.put, hA, h0, h1]); (first | done | rfl))) (by first | exact fun _ => by assumption | exact fun hE => absurd hE (by decide))
          (try simp only [Act.put, List.setIfInBounds_toArray, List.set_cons_zero, List.set_cons_succ])
          refine ready_L 13 (fun o ho K hK => ?_)
          (simp only [List.getElem?_toArray, List.getElem?_cons_succ, List.getElem?_cons_zero, Option.some.injEq] at ho)
          subst ho
          go_simp
          skip
          refine hK.out _ _ ?_ (fun hHeld => ?_)
          · (first | exact fun hE => absurd hE (by decide) | (intro _; (try dsimp only); (first | with_reducible exact HS0.out | with_reducible exact HS.out)))
          clear hK K
          (try replace hHeld := hHeld (by decide))
          (try simp only [Act.put, List.setIfInBounds_toArray, List.set_cons_zero, List.set_cons_succ])
          refine done_L (by kernel_rfl) ?_ _
          clear hHeld hb9 f9
          go_wp2
          go_returns
          have hbX := (HBX.out.below HZ.out HBX.out.lt).set_ 0 (.slice A9 (n + 1) c9)
          have tX : Turned w9 (w9.setCell ⟨b, 0, none⟩ (.slice A9 (n + 1) c9)) (fun j => j = b) := (Turned.refl w9 (fun j => j = b)).setCell (p := ⟨b, 0, none⟩) (fun _ => rfl) _
          have h9 := HP9.out
          have h9' : w9.ownsRow Es.drew.heap.size 83 5 (.slice A9 (n + 1) c9) (n + 1) (renC (I ++ [⟨q.1, q.2, true, 0, 0⟩])) := by
            rw [renC_append]
            exact h9
          have hoX := gown_turned h9' tX (fun j hj e => by have := (gown_lt h9' hj).1; have := HBX.out.lt; omega)
          refine ⟨0, n + 1, by simp, rfl, ⟨A9, c9, I ++ [⟨q.1, q.2, true, 0, 0⟩], hbX, own_mono3 hoX (Nat.le_of_lt HBX.out.lt), by simp [HI.out.2.2]⟩, Nat.le_refl _, fun _ => by omega, ?_⟩
          exact ((Turned.of_below (bel_to HZ.out HBW.out) (OfT b w)).chain tX (fun j hj e => by subst e; exact ⟨Nat.le_refl _, _, _, _, HHB.out, .inl rfl⟩))
      · go_wp2
        go_returns
        exact ⟨7, n, by simp, rfl, HH.out.below (HX _).out, by omega, fun h => absurd h (by decide), TurnR.of_below (HX _).out⟩
  · have HX := kept (bel_to hb HB.out)
    rcases her with rfl | rfl
    all_goals
      go_wp2
      go_returns
      exact ⟨_, n, by simp, rfl, HH.out.below HX.out, by omega, fun h => absurd h (by decide), TurnR.of_below HX.out⟩
end Go.Proofs.Ythpaliagmnclfaa
