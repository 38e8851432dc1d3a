/-
  Texts laid together: Gx Gy.
-/
import Derived.Test.YtlckeebbjnhejaaGreatBGv
section
/-
  The document's own history, loosely: Tomb, Restore.
-/
namespace Go.Proofs.YtlckeebbjnhejaaGreat
open Go.ChangeShapes Go.WideShapes Go.ChangeAt Go.RowKit Go.Deep
set_option linter.unusedVariables false
set_option linter.unusedSimpArgs false

set_option maxHeartbeats 2000000 in
theorem rtomb_any {w : World} {B b n : Nat} (h : RF w B b n) (hn : n ≤ 900000) (q : Rv) :
    Calls Tryz.prog 69 #[.pointer (some ⟨b, 0, none⟩), .agg #[.int .i64 q.1, .int .i64 q.2]] w (RChg w B b n) := by
  have hB0 := (Below.refl w.heap.size w).alloc (Nat.le_refl _) (.cells #[.int .i64 q.1, .int .i64 q.2] 29)
  have HT := kept (two_new w 29 q.1 q.2)
  have H0 := kept (h.below hB0)
  have HB := kept hB0
  have HCH := kept (rcheck_any H0.out (by omega) q)
  have HL := fun W (h : RF W B b n) => kept (rlast_any h (by omega))
  have HH := kept h
  clear hB0 h
  go_enter Tryz.func69, Tryz.ntmps69
  go_wp2_with fail
  generalize w.alloc (.cells #[.int .i64 q.1, .int .i64 q.2] 29) = W0 at H0 HB HT HCH ⊢
  obtain ⟨t0, t1⟩ := HT.out
  go_wp2_with fail
  with_reducible refine HCH.out.mono ?_
  rintro e w1 ⟨er, her, rfl, hb⟩
  rcases her with rfl | her
  · have H1 := kept (H0.out.below hb)
    have HB1 := kept (bel_to hb HB.out)
    have HT1 := kept (HT.out.keeps (Keeps.of_below hb))
    have HL1 := HL _ H1.out
    clear hb t0 t1
    go_wp2_with fail
    with_reducible refine HL1.out.mono ?_
    rintro e w3 ⟨x, ok, rfl, hb⟩
    have HR3 := kept (H1.out.below hb)
    have HB3 := kept (bel_to hb HB1.out)
    have HT3 := kept (HT1.out.keeps (Keeps.of_below hb))
    obtain ⟨csb, HHB⟩ : ∃ cs, Hid (w.heap[b]? = some (.cells cs 118 (0, 0))) := by
      obtain ⟨A, k, I, h1, _⟩ := HH.out
      exact ⟨_, h1⟩
    have HX := fun o => kept (bel_to ((Below.refl w3.heap.size w3).alloc (Nat.le_refl _) o) HB3.out)
    have v0 : ∀ o, (w3.alloc o).cell? ⟨w.heap.size, 0, none⟩ = some (.int .i64 q.1) := fun o => (Keeps.alloc w3 o).cell_ HT3.out.1
    have v1 : ∀ o, (w3.alloc o).cell? ⟨w.heap.size, 1, none⟩ = some (.int .i64 q.2) := fun o => (Keeps.alloc w3 o).cell_ HT3.out.2
    clear hb HL HT HT1 H0 HCH H1 HB1 HL1
    cases ok
    · go_wp2
      go_returns
      exact ⟨7, n, by simp, rfl, HH.out.below (HX _).out, by omega, fun h => absurd h (by decide), TurnR.of_below (HX _).out⟩
    · cases hxt : x.t
      · have hrf : RF (w3.alloc (.cells #[.int .i64 x.a, .int .i64 x.b, .bool false, .int .i64 x.c, .int .i64 x.v] 124)) B b n := HR3.out.below ((Below.refl w3.heap.size w3).alloc (Nat.le_refl _) _)
        obtain ⟨A, k, I, hbx, hown, hIl, _⟩ := hrf
        have hbs : Below w.heap.size w (w3.alloc (.cells #[.int .i64 x.a, .int .i64 x.b, .bool false, .int .i64 x.c, .int .i64 x.v] 124)) := bel_to ((Below.refl w3.heap.size w3).alloc (Nat.le_refl _) _) HB3.out
        have htw : Two (w3.alloc (.cells #[.int .i64 x.a, .int .i64 x.b, .bool false, .int .i64 x.c, .int .i64 x.v] 124)) w.heap.size q.1 q.2 := HT3.out.keeps (Keeps.of_below ((Below.refl w3.heap.size w3).alloc (Nat.le_refl _) _))
        go_wp2
        generalize hEs : (w3.alloc (.cells #[.int .i64 x.a, .int .i64 x.b, .bool false, .int .i64 x.c, .int .i64 x.v] 124)) = Es at hbx hown hbs htw ⊢
        have hbe : Below Es.heap.size Es Es.drew := (Below.refl _ _).drew
        have HBX := kept (hbx.below hbe hbx.lt)
        have howns := gown_turned hown (Turned.of_below hbe (fun _ => False)) (fun _ _ e => e)
        have HBW := kept (bel_to hbe hbs)
        have HI := kept (And.intro (show (renC I).length = n * 5 by rw [renC_length, hIl]) (And.intro (show 0 < n → ∃ ad, A = some ad ∧ ∀ j u, (renC I)[j]? = some u → Es.drew.cell? (ad.add j) = some u from fun h0 => by obtain ⟨g, e, _⟩ := gown_at howns h0; subst e; exact ⟨_, rfl, fun j u hj => howns.cells (g := g) rfl j u hj⟩) hIl))
        have HS0 := kept (show (fun W' : World => W'.cell? ⟨b, 0, none⟩ = some (.slice A n k) ∧ W'.cell? ⟨w.heap.size, 0, none⟩ = some (.int .i64 q.1) ∧ W'.cell? ⟨w.heap.size, 1, none⟩ = some (.int .i64 q.2)) Es.drew from ⟨HBX.out.cell 0, htw.1, htw.2⟩)
        have HZ := kept (Below.refl Es.drew.heap.size Es.drew)
        clear hbx hown hbs hbe htw howns hIl hEs
        refine region_L [13] ((fun W' => W'.cell? ⟨b, 0, none⟩ = some (.slice A n k) ∧ W'.cell? ⟨w.heap.size, 0, none⟩ = some (.int .i64 q.1) ∧ W'.cell? ⟨w.heap.size, 1, none⟩ = some (.int .i64 q.2))) (by kernel_rfl) ?_ (fun hHeld => ?_)
        · ((try dsimp only); (first | with_reducible exact HS0.out | with_reducible exact HS.out))
        (try simp only [List.size_toArray, List.length_cons, List.length_nil, Nat.reduceAdd, Array.replicate_succ, Array.replicate_zero, List.push_toArray, List.append_toArray, List.nil_append, List.cons_append])
        refine take_P 0 (some 25) ?_ (by (intro o ho w; (simp only [List.getElem?_toArray, List.getElem?_cons_succ, List.getElem?_cons_zero, Option.some.injEq] at ho); subst ho; go_simp; (first | done | with_reducible rfl))) (by ((try simp only [Act.put, hA, h0, h1]); (first | done | rfl))) (by first | exact fun _ => by assumption | exact fun hE => absurd hE (by decide))
        (try simp only [Act.put, List.setIfInBounds_toArray, List.set_cons_zero, List.set_cons_succ])
        refine take_P 2 (some 27) ?_ (by (intro o ho w; (simp only [List.getElem?_toArray, List.getElem?_cons_succ, List.getElem?_cons_zero, Option.some.injEq] at ho); subst ho; go_simp; (first | done | with_reducible rfl))) (by ((try simp only [Act.put, hA, h0, h1]); (first | done | rfl))) (by first | exact fun _ => by assumption | exact fun hE => absurd hE (by decide))
        (try simp only [Act.put, List.setIfInBounds_toArray, List.set_cons_zero, List.set_cons_succ])
        refine take_P 3 (some 28) ?_ (by (intro o ho w; (simp only [List.getElem?_toArray, List.getElem?_cons_succ, List.getElem?_cons_zero, Option.some.injEq] at ho); subst ho; go_simp; (first | done | with_reducible rfl))) (by ((try simp only [Act.put, hA, h0, h1]); (first | done | rfl))) (by first | exact fun _ => by assumption | exact fun hE => absurd hE (by decide))
        (try simp only [Act.put, List.setIfInBounds_toArray, List.set_cons_zero, List.set_cons_succ])
        refine take_P 4 (some 29) ?_ (by (intro o ho w; (simp only [List.getElem?_toArray, List.getElem?_cons_succ, List.getElem?_cons_zero, Option.some.injEq] at ho); subst ho; go_simp; (first | done | with_reducible rfl))) (by ((try simp only [Act.put, hA, h0, h1]); (first | done | rfl))) (by first | exact fun _ => by assumption | exact fun hE => absurd hE (by decide))
        (try simp only [Act.put, List.setIfInBounds_toArray, List.set_cons_zero, List.set_cons_succ])
        refine take_L 5 (some 30) ?_ (by (intro o ho w hSw; (simp only [List.getElem?_toArray, List.getElem?_cons_succ, List.getElem?_cons_zero, Option.some.injEq] at ho); subst ho; (try dsimp only at hSw); go_simp; (first | done | with_reducible rfl))) (by ((try simp only [Act.put, hA, h0, h1]); (first | done | rfl)))
        (try simp only [Act.put, List.setIfInBounds_toArray, List.set_cons_zero, List.set_cons_succ])
        refine take_L 7 (some 32) ?_ (by (intro o ho w hSw; (simp only [List.getElem?_toArray, List.getElem?_cons_succ, List.getElem?_cons_zero, Option.some.injEq] at ho); subst ho; (try dsimp only at hSw); go_simp; (first | done | with_reducible rfl))) (by ((try simp only [Act.put, hA, h0, h1]); (first | done | rfl)))
        (try simp only [Act.put, List.setIfInBounds_toArray, List.set_cons_zero, List.set_cons_succ])
        refine take_P 8 (some 33) ?_ (by (intro o ho w; (simp only [List.getElem?_toArray, List.getElem?_cons_succ, List.getElem?_cons_zero, Option.some.injEq] at ho); subst ho; go_simp; (first | done | with_reducible rfl))) (by ((try simp only [Act.put, hA, h0, h1]); (first | done | rfl))) (by first | exact fun _ => by assumption | exact fun hE => absurd hE (by decide))
        (try simp only [Act.put, List.setIfInBounds_toArray, List.set_cons_zero, List.set_cons_succ])
        refine two_L 1 9 (fun o ho K hK => ?_) (fun o ho K hK => ?_)
        · (simp only [List.getElem?_toArray, List.getElem?_cons_succ, List.getElem?_cons_zero, Option.some.injEq] at ho)
          subst ho
          go_simp
          (refine name_world (fun We hWe => ?_); (try replace hWe := hWe.trans (drew_alloc_ _ _)); have hbe := below_alloc hWe; have HE := kept (ren_empty HZ.out.size hWe); replace HZ := kept (bel_to hbe HZ.out); (try have HNE := kept (ne_new' HY.out hWe)); (try replace HY := kept (HY.out.below hbe HY.out.lt)); (have HS := kept (show (fun W' : World => W'.cell? ⟨b, 0, none⟩ = some (.slice A n k) ∧ W'.cell? ⟨w.heap.size, 0, none⟩ = some (.int .i64 q.1) ∧ W'.cell? ⟨w.heap.size, 1, none⟩ = some (.int .i64 q.2)) _ from ⟨(Keeps.of_below HZ.out).cell_ HS0.out.1, (Keeps.of_below HZ.out).cell_ HS0.out.2.1, (Keeps.of_below HZ.out).cell_ HS0.out.2.2⟩)); clear hbe hWe)
          refine hK.out _ _ ?_ (fun hHeld => ?_)
          · (first | exact fun hE => absurd hE (by decide) | (intro _; (try dsimp only); (first | with_reducible exact HS0.out | with_reducible exact HS.out)))
          clear hK K
          (try replace hHeld := hHeld (by decide))
          (try simp only [Act.put, List.setIfInBounds_toArray, List.set_cons_zero, List.set_cons_succ])
          refine two_L 6 9 (fun o ho K hK => ?_) (fun o ho K hK => ?_)
          · (simp only [List.getElem?_toArray, List.getElem?_cons_succ, List.getElem?_cons_zero, Option.some.injEq] at ho)
            subst ho
            (refine wp_append_h (.tmp 26) (.tmp 30) 116 rfl 124 rfl rfl Tryz.underlying116 reninfo rfl (by decide) (by decide) HE.out (ys := renC I) HI.out.1 (fun h0 => by obtain ⟨ad, e, hc⟩ := HI.out.2.1 h0; exact ⟨ad, e, fun j u hj => (Keeps.of_below HZ.out).cell_ (hc j u hj)⟩) (renC_one _) (by omega) HZ.out.size ?_; intro A6 c6 w6 h6 g6; rw [Nat.zero_add, List.nil_append] at h6; (try simp only [Nat.zero_add]); have HP := kept h6; (try replace HY := kept (blk_grown HY.out g6 (fun e => HNE.out (Option.some.inj e).symm))); replace HZ := kept (bel_grown HZ.out (Nat.le_refl _) HE.out g6); (have HS := kept (show (fun W' : World => W'.cell? ⟨b, 0, none⟩ = some (.slice A n k) ∧ W'.cell? ⟨w.heap.size, 0, none⟩ = some (.int .i64 q.1) ∧ W'.cell? ⟨w.heap.size, 1, none⟩ = some (.int .i64 q.2)) _ from ⟨(Keeps.of_below HZ.out).cell_ HS0.out.1, (Keeps.of_below HZ.out).cell_ HS0.out.2.1, (Keeps.of_below HZ.out).cell_ HS0.out.2.2⟩)); clear h6 g6)
            refine hK.out _ _ ?_ (fun hHeld => ?_)
            · (first | exact fun hE => absurd hE (by decide) | (intro _; (try dsimp only); (first | with_reducible exact HS0.out | with_reducible exact HS.out)))
            clear hK K
            (try replace hHeld := hHeld (by decide))
            (try simp only [Act.put, List.setIfInBounds_toArray, List.set_cons_zero, List.set_cons_succ])
            refine ready_L 9 (fun o ho K hK => ?_)
            (simp only [List.getElem?_toArray, List.getElem?_cons_succ, List.getElem?_cons_zero, Option.some.injEq] at ho)
            subst ho
            go_simp
            (refine name_world (fun Wy hWy => ?_); (try replace hWy := hWy.trans (drew_alloc_ _ _)); have hby := below_alloc hWy; have HY := kept (ren_new hWy); replace HZ := kept (bel_to hby HZ.out); (try have HNE := kept (ne_new HE.out hWy)); (try replace HE := kept (gown_turned HE.out (Turned.of_below hby (fun _ => False)) (fun _ _ e => e))); (try replace HP := kept (gown_turned HP.out (Turned.of_below hby (fun _ => False)) (fun _ _ e => e))); (have HS := kept (show (fun W' : World => W'.cell? ⟨b, 0, none⟩ = some (.slice A n k) ∧ W'.cell? ⟨w.heap.size, 0, none⟩ = some (.int .i64 q.1) ∧ W'.cell? ⟨w.heap.size, 1, none⟩ = some (.int .i64 q.2)) _ from ⟨(Keeps.of_below HZ.out).cell_ HS0.out.1, (Keeps.of_below HZ.out).cell_ HS0.out.2.1, (Keeps.of_below HZ.out).cell_ HS0.out.2.2⟩)); clear hby hWy)
            refine hK.out _ _ ?_ (fun hHeld => ?_)
            · (first | exact fun hE => absurd hE (by decide) | (intro _; (try dsimp only); (first | with_reducible exact HS0.out | with_reducible exact HS.out)))
            clear hK K
            (try replace hHeld := hHeld (by decide))
            (try simp only [Act.put, List.setIfInBounds_toArray, List.set_cons_zero, List.set_cons_succ])
            refine ready_L 10 (fun o ho K hK => ?_)
            (simp only [List.getElem?_toArray, List.getElem?_cons_succ, List.getElem?_cons_zero, Option.some.injEq] at ho)
            subst ho
            (refine wp_append_h (.tmp 31) (.tmp 34) 116 rfl 124 rfl rfl Tryz.underlying116 reninfo rfl (by decide) (by decide) HP.out (ys := [.int .i64 q.1, .int .i64 q.2, .bool true, .int .i64 0, .int .i64 0]) rfl (fun _ => ⟨_, rfl, fun j u hj => by rw [gadd_at, Nat.zero_add]; exact (HY.out.cell j).trans hj⟩) (by intro u hu; simp only [List.mem_cons, List.not_mem_nil, or_false] at hu; rcases hu with rfl | rfl | rfl | rfl | rfl <;> rfl) (by omega) HZ.out.size ?_; intro A9 c9 w9 h9 g9; have HP9 := kept h9; replace HZ := kept (bel_grown HZ.out (Nat.le_refl _) HP.out g9); (have HS := kept (show (fun W' : World => W'.cell? ⟨b, 0, none⟩ = some (.slice A n k) ∧ W'.cell? ⟨w.heap.size, 0, none⟩ = some (.int .i64 q.1) ∧ W'.cell? ⟨w.heap.size, 1, none⟩ = some (.int .i64 q.2)) _ from ⟨(Keeps.of_below HZ.out).cell_ HS0.out.1, (Keeps.of_below HZ.out).cell_ HS0.out.2.1, (Keeps.of_below HZ.out).cell_ HS0.out.2.2⟩)); (have hb9 := HS.out.1); have f9 := (HBX.out.below HZ.out HBX.out.lt).frozen 0; clear h9 g9)
            refine hK.out _ _ ?_ (fun hHeld => ?_)
            · (first | exact fun hE => absurd hE (by decide) | (intro _; (try dsimp only); (first | with_reducible exact HS0.out | with_reducible exact HS.out)))
            clear hK K
            (try replace hHeld := hHeld (by decide))
            (try simp only [Act.put, List.setIfInBounds_toArray, List.set_cons_zero, List.set_cons_succ])
            refine take_P 11 (some 36) ?_ (by (intro o ho w; (simp only [List.getElem?_toArray, List.getElem?_cons_succ, List.getElem?_cons_zero, Option.some.injEq] at ho); subst ho; go_simp; (first | done | with_reducible rfl))) (by ((try simp only [Act.put, hA, h0, h1]); (first | done | rfl))) (by first | exact fun _ => by assumption | exact fun hE => absurd hE (by decide))
            (try simp only [Act.put, List.setIfInBounds_toArray, List.set_cons_zero, List.set_cons_succ])
            refine take_P 12 (some 37) ?_ (by (intro o ho w; (simp only [List.getElem?_toArray, List.getElem?_cons_succ, List.getElem?_cons_zero, Option.some.injEq] at ho); subst ho; go_simp; (first | done | with_reducible rfl))) (by ((try simp only [Act.put, hA, h0, h1]); (first | done | rfl))) (by first | exact fun _ => by assumption | exact fun hE => absurd hE (by decide))
            (try simp only [Act.put, List.setIfInBounds_toArray, List.set_cons_zero, List.set_cons_succ])
            refine ready_L 13 (fun o ho K hK => ?_)
            (simp only [List.getElem?_toArray, List.getElem?_cons_succ, List.getElem?_cons_zero, Option.some.injEq] at ho)
            subst ho
            go_simp
            skip
            refine hK.out _ _ ?_ (fun hHeld => ?_)
            · (first | exact fun hE => absurd hE (by decide) | (intro _; (try dsimp only); (first | with_reducible exact HS0.out | with_reducible exact HS.out)))
            clear hK K
            (try replace hHeld := hHeld (by decide))
            (try simp only [Act.put, List.setIfInBounds_toArray, List.set_cons_zero, List.set_cons_succ])
            refine done_L (by kernel_rfl) ?_ _
            clear hHeld hb9 f9
            go_wp2
            go_returns
            have hbX := (HBX.out.below HZ.out HBX.out.lt).set_ 0 (.slice A9 (n + 1) c9)
            have tX : Turned w9 (w9.setCell ⟨b, 0, none⟩ (.slice A9 (n + 1) c9)) (fun j => j = b) := (Turned.refl w9 (fun j => j = b)).setCell (p := ⟨b, 0, none⟩) (fun _ => rfl) _
            have h9 := HP9.out
            have h9' : w9.ownsRow Es.drew.heap.size 124 5 (.slice A9 (n + 1) c9) (n + 1) (renC (I ++ [⟨q.1, q.2, true, 0, 0⟩])) := by
              rw [renC_append]
              exact h9
            have hoX := gown_turned h9' tX (fun j hj e => by have := (gown_lt h9' hj).1; have := HBX.out.lt; omega)
            refine ⟨0, n + 1, by simp, rfl, ⟨A9, c9, I ++ [⟨q.1, q.2, true, 0, 0⟩], hbX, own_mono3 hoX (Nat.le_trans HH.out.le (Nat.le_of_lt HBX.out.lt)), by simp [HI.out.2.2], HH.out.le⟩, Nat.le_refl _, fun _ => by omega, ?_⟩
            exact ((Turned.of_below (bel_to HZ.out HBW.out) (OfT B w)).chain tX (fun j hj e => by subst e; exact ⟨HH.out.le, _, _, _, HHB.out, .inl rfl⟩))
          · (simp only [List.getElem?_toArray, List.getElem?_cons_succ, List.getElem?_cons_zero, Option.some.injEq] at ho)
            subst ho
            go_simp
            (refine name_world (fun Wy hWy => ?_); (try replace hWy := hWy.trans (drew_alloc_ _ _)); have hby := below_alloc hWy; have HY := kept (ren_new hWy); replace HZ := kept (bel_to hby HZ.out); (try have HNE := kept (ne_new HE.out hWy)); (try replace HE := kept (gown_turned HE.out (Turned.of_below hby (fun _ => False)) (fun _ _ e => e))); (try replace HP := kept (gown_turned HP.out (Turned.of_below hby (fun _ => False)) (fun _ _ e => e))); (have HS := kept (show (fun W' : World => W'.cell? ⟨b, 0, none⟩ = some (.slice A n k) ∧ W'.cell? ⟨w.heap.size, 0, none⟩ = some (.int .i64 q.1) ∧ W'.cell? ⟨w.heap.size, 1, none⟩ = some (.int .i64 q.2)) _ from ⟨(Keeps.of_below HZ.out).cell_ HS0.out.1, (Keeps.of_below HZ.out).cell_ HS0.out.2.1, (Keeps.of_below HZ.out).cell_ HS0.out.2.2⟩)); clear hby hWy)
            refine hK.out _ _ ?_ (fun hHeld => ?_)
            · (first | exact fun hE => absurd hE (by decide) | (intro _; (try dsimp only); (first | with_reducible exact HS0.out | with_reducible exact HS.out)))
            clear hK K
            (try replace hHeld := hHeld (by decide))
            (try simp only [Act.put, List.setIfInBounds_toArray, List.set_cons_zero, List.set_cons_succ])
            refine ready_L 6 (fun o ho K hK => ?_)
            (simp only [List.getElem?_toArray, List.getElem?_cons_succ, List.getElem?_cons_zero, Option.some.injEq] at ho)
            subst ho
            (refine wp_append_h (.tmp 26) (.tmp 30) 116 rfl 124 rfl rfl Tryz.underlying116 reninfo rfl (by decide) (by decide) HE.out (ys := renC I) HI.out.1 (fun h0 => by obtain ⟨ad, e, hc⟩ := HI.out.2.1 h0; exact ⟨ad, e, fun j u hj => (Keeps.of_below HZ.out).cell_ (hc j u hj)⟩) (renC_one _) (by omega) HZ.out.size ?_; intro A6 c6 w6 h6 g6; rw [Nat.zero_add, List.nil_append] at h6; (try simp only [Nat.zero_add]); have HP := kept h6; (try replace HY := kept (blk_grown HY.out g6 (fun e => HNE.out (Option.some.inj e).symm))); replace HZ := kept (bel_grown HZ.out (Nat.le_refl _) HE.out g6); (have HS := kept (show (fun W' : World => W'.cell? ⟨b, 0, none⟩ = some (.slice A n k) ∧ W'.cell? ⟨w.heap.size, 0, none⟩ = some (.int .i64 q.1) ∧ W'.cell? ⟨w.heap.size, 1, none⟩ = some (.int .i64 q.2)) _ from ⟨(Keeps.of_below HZ.out).cell_ HS0.out.1, (Keeps.of_below HZ.out).cell_ HS0.out.2.1, (Keeps.of_below HZ.out).cell_ HS0.out.2.2⟩)); clear h6 g6)
            refine hK.out _ _ ?_ (fun hHeld => ?_)
            · (first | exact fun hE => absurd hE (by decide) | (intro _; (try dsimp only); (first | with_reducible exact HS0.out | with_reducible exact HS.out)))
            clear hK K
            (try replace hHeld := hHeld (by decide))
            (try simp only [Act.put, List.setIfInBounds_toArray, List.set_cons_zero, List.set_cons_succ])
            refine ready_L 10 (fun o ho K hK => ?_)
            (simp only [List.getElem?_toArray, List.getElem?_cons_succ, List.getElem?_cons_zero, Option.some.injEq] at ho)
            subst ho
            (refine wp_append_h (.tmp 31) (.tmp 34) 116 rfl 124 rfl rfl Tryz.underlying116 reninfo rfl (by decide) (by decide) HP.out (ys := [.int .i64 q.1, .int .i64 q.2, .bool true, .int .i64 0, .int .i64 0]) rfl (fun _ => ⟨_, rfl, fun j u hj => by rw [gadd_at, Nat.zero_add]; exact (HY.out.cell j).trans hj⟩) (by intro u hu; simp only [List.mem_cons, List.not_mem_nil, or_false] at hu; rcases hu with rfl | rfl | rfl | rfl | rfl <;> rfl) (by omega) HZ.out.size ?_; intro A9 c9 w9 h9 g9; have HP9 := kept h9; replace HZ := kept (bel_grown HZ.out (Nat.le_refl _) HP.out g9); (have HS := kept (show (fun W' : World => W'.cell? ⟨b, 0, none⟩ = some (.slice A n k) ∧ W'.cell? ⟨w.heap.size, 0, none⟩ = some (.int .i64 q.1) ∧ W'.cell? ⟨w.heap.size, 1, none⟩ = some (.int .i64 q.2)) _ from ⟨(Keeps.of_below HZ.out).cell_ HS0.out.1, (Keeps.of_below HZ.out).cell_ HS0.out.2.1, (Keeps.of_below HZ.out).cell_ HS0.out.2.2⟩)); (have hb9 := HS.out.1); have f9 := (HBX.out.below HZ.out HBX.out.lt).frozen 0; clear h9 g9)
            refine hK.out _ _ ?_ (fun hHeld => ?_)
            · (first | exact fun hE => absurd hE (by decide) | (intro _; (try dsimp only); (first | with_reducible exact HS0.out | with_reducible exact HS.out)))
            clear hK K
            (try replace hHeld := hHeld (by decide))
            (try simp only [Act.put, List.setIfInBounds_toArray, List.set_cons_zero, List.set_cons_succ])
            refine take_P 11 (some 36) ?_ (by (intro o ho w; (simp only [List.getElem?_toArray, List.getElem?_cons_succ, List.getElem?_cons_zero, Option.some.injEq] at ho); subst ho; go_simp; (first | done | with_reducible rfl))) (by ((try simp only [Act.put, hA, h0, h1]); (first | done | rfl))) (by first | exact fun _ => by assumption | exact fun hE => absurd hE (by decide))
            (try simp only [Act.put, List.setIfInBounds_toArray, List.set_cons_zero, List.set_cons_succ])
            refine take_P 12 (some 37) ?_ (by (intro o ho w; (simp only [List.getElem?_toArray, List.getElem?_cons_succ, List.getElem?_cons_zero, Option.some.injEq] at ho); subst ho; go_simp; (first | done | with_reducible rfl))) (by ((try simp only [Act.put, hA, h0, h1]); (first | done | rfl))) (by first | exact fun _ => by assumption | exact fun hE => absurd hE (by decide))
            (try simp only [Act.put, List.setIfInBounds_toArray, List.set_cons_zero, List.set_cons_succ])
            refine ready_L 13 (fun o ho K hK => ?_)
            (simp only [List.getElem?_toArray, List.getElem?_cons_succ, List.getElem?_cons_zero, Option.some.injEq] at ho)
            subst ho
            go_simp
            skip
            refine hK.out _ _ ?_ (fun hHeld => ?_)
            · (first | exact fun hE => absurd hE (by decide) | (intro _; (try dsimp only); (first | with_reducible exact HS0.out | with_reducible exact HS.out)))
            clear hK K
            (try replace hHeld := hHeld (by decide))
            (try simp only [Act.put, List.setIfInBounds_toArray, List.set_cons_zero, List.set_cons_succ])
            refine done_L (by kernel_rfl) ?_ _
            clear hHeld hb9 f9
            go_wp2
            go_returns
            have hbX := (HBX.out.below HZ.out HBX.out.lt).set_ 0 (.slice A9 (n + 1) c9)
            have tX : Turned w9 (w9.setCell ⟨b, 0, none⟩ (.slice A9 (n + 1) c9)) (fun j => j = b) := (Turned.refl w9 (fun j => j = b)).setCell (p := ⟨b, 0, none⟩) (fun _ => rfl) _
            have h9 := HP9.out
            have h9' : w9.ownsRow Es.drew.heap.size 124 5 (.slice A9 (n + 1) c9) (n + 1) (renC (I ++ [⟨q.1, q.2, true, 0, 0⟩])) := by
              rw [renC_append]
              exact h9
            have hoX := gown_turned h9' tX (fun j hj e => by have := (gown_lt h9' hj).1; have := HBX.out.lt; omega)
            refine ⟨0, n + 1, by simp, rfl, ⟨A9, c9, I ++ [⟨q.1, q.2, true, 0, 0⟩], hbX, own_mono3 hoX (Nat.le_trans HH.out.le (Nat.le_of_lt HBX.out.lt)), by simp [HI.out.2.2], HH.out.le⟩, Nat.le_refl _, fun _ => by omega, ?_⟩
            exact ((Turned.of_below (bel_to HZ.out HBW.out) (OfT B w)).chain tX (fun j hj e => by subst e; exact ⟨HH.out.le, _, _, _, HHB.out, .inl rfl⟩))
        · (simp only [List.getElem?_toArray, List.getElem?_cons_succ, List.getElem?_cons_zero, Option.some.injEq] at ho)
          subst ho
          go_simp
          (refine name_world (fun Wy hWy => ?_); (try replace hWy := hWy.trans (drew_alloc_ _ _)); have hby := below_alloc hWy; have HY := kept (ren_new hWy); replace HZ := kept (bel_to hby HZ.out); (try have HNE := kept (ne_new HE.out hWy)); (try replace HE := kept (gown_turned HE.out (Turned.of_below hby (fun _ => False)) (fun _ _ e => e))); (try replace HP := kept (gown_turned HP.out (Turned.of_below hby (fun _ => False)) (fun _ _ e => e))); (have HS := kept (show (fun W' : World => W'.cell? ⟨b, 0, none⟩ = some (.slice A n k) ∧ W'.cell? ⟨w.heap.size, 0, none⟩ = some (.int .i64 q.1) ∧ W'.cell? ⟨w.heap.size, 1, none⟩ = some (.int .i64 q.2)) _ from ⟨(Keeps.of_below HZ.out).cell_ HS0.out.1, (Keeps.of_below HZ.out).cell_ HS0.out.2.1, (Keeps.of_below HZ.out).cell_ HS0.out.2.2⟩)); clear hby hWy)
          refine hK.out _ _ ?_ (fun hHeld => ?_)
          · (first | exact fun hE => absurd hE (by decide) | (intro _; (try dsimp only); (first | with_reducible exact HS0.out | with_reducible exact HS.out)))
          clear hK K
          (try replace hHeld := hHeld (by decide))
          (try simp only [Act.put, List.setIfInBounds_toArray, List.set_cons_zero, List.set_cons_succ])
          refine ready_L 1 (fun o ho K hK => ?_)
          (simp only [List.getElem?_toArray, List.getElem?_cons_succ, List.getElem?_cons_zero, Option.some.injEq] at ho)
          subst ho
          go_simp
          (refine name_world (fun We hWe => ?_); (try replace hWe := hWe.trans (drew_alloc_ _ _)); have hbe := below_alloc hWe; have HE := kept (ren_empty HZ.out.size hWe); replace HZ := kept (bel_to hbe HZ.out); (try have HNE := kept (ne_new' HY.out hWe)); (try replace HY := kept (HY.out.below hbe HY.out.lt)); (have HS := kept (show (fun W' : World => W'.cell? ⟨b, 0, none⟩ = some (.slice A n k) ∧ W'.cell? ⟨w.heap.size, 0, none⟩ = some (.int .i64 q.1) ∧ W'.cell? ⟨w.heap.size, 1, none⟩ = some (.int .i64 q.2)) _ from ⟨(Keeps.of_below HZ.out).cell_ HS0.out.1, (Keeps.of_below HZ.out).cell_ HS0.out.2.1, (Keeps.of_below HZ.out).cell_ HS0.out.2.2⟩)); clear hbe hWe)
          refine hK.out _ _ ?_ (fun hHeld => ?_)
          · (first | exact fun hE => absurd hE (by decide) | (intro _; (try dsimp only); (first | with_reducible exact HS0.out | with_reducible exact HS.out)))
          clear hK K
          (try replace hHeld := hHeld (by decide))
          (try simp only [Act.put, List.setIfInBounds_toArray, List.set_cons_zero, List.set_cons_succ])
          refine ready_L 6 (fun o ho K hK => ?_)
          (simp only [List.getElem?_toArray, List.getElem?_cons_succ, List.getElem?_cons_zero, Option.some.injEq] at ho)
          subst ho
          (refine wp_append_h (.tmp 26) (.tmp 30) 116 rfl 124 rfl rfl Tryz.underlying116 reninfo rfl (by decide) (by decide) HE.out (ys := renC I) HI.out.1 (fun h0 => by obtain ⟨ad, e, hc⟩ := HI.out.2.1 h0; exact ⟨ad, e, fun j u hj => (Keeps.of_below HZ.out).cell_ (hc j u hj)⟩) (renC_one _) (by omega) HZ.out.size ?_; intro A6 c6 w6 h6 g6; rw [Nat.zero_add, List.nil_append] at h6; (try simp only [Nat.zero_add]); have HP := kept h6; (try replace HY := kept (blk_grown HY.out g6 (fun e => HNE.out (Option.some.inj e).symm))); replace HZ := kept (bel_grown HZ.out (Nat.le_refl _) HE.out g6); (have HS := kept (show (fun W' : World => W'.cell? ⟨b, 0, none⟩ = some (.slice A n k) ∧ W'.cell? ⟨w.heap.size, 0, none⟩ = some (.int .i64 q.1) ∧ W'.cell? ⟨w.heap.size, 1, none⟩ = some (.int .i64 q.2)) _ from ⟨(Keeps.of_below HZ.out).cell_ HS0.out.1, (Keeps.of_below HZ.out).cell_ HS0.out.2.1, (Keeps.of_below HZ.out).cell_ HS0.out.2.2⟩)); clear h6 g6)
          refine hK.out _ _ ?_ (fun hHeld => ?_)
          · (first | exact fun hE => absurd hE (by decide) | (intro _; (try dsimp only); (first | with_reducible exact HS0.out | with_reducible exact HS.out)))
          clear hK K
          (try replace hHeld := hHeld (by decide))
          (try simp only [Act.put, List.setIfInBounds_toArray, List.set_cons_zero, List.set_cons_succ])
          refine ready_L 10 (fun o ho K hK => ?_)
          (simp only [List.getElem?_toArray, List.getElem?_cons_succ, List.getElem?_cons_zero, Option.some.injEq] at ho)
          subst ho
          (refine wp_append_h (.tmp 31) (.tmp 34) 116 rfl 124 rfl rfl Tryz.underlying116 reninfo rfl (by decide) (by decide) HP.out (ys := [.int .i64 q.1, .int .i64 q.2, .bool true, .int .i64 0, .int .i64 0]) rfl (fun _ => ⟨_, rfl, fun j u hj => by rw [gadd_at, Nat.zero_add]; exact (HY.out.cell j).trans hj⟩) (by intro u hu; simp only [List.mem_cons, List.not_mem_nil, or_false] at hu; rcases hu with rfl | rfl | rfl | rfl | rfl <;> rfl) (by omega) HZ.out.size ?_; intro A9 c9 w9 h9 g9; have HP9 := kept h9; replace HZ := kept (bel_grown HZ.out (Nat.le_refl _) HP.out g9); (have HS := kept (show (fun W' : World => W'.cell? ⟨b, 0, none⟩ = some (.slice A n k) ∧ W'.cell? ⟨w.heap.size, 0, none⟩ = some (.int .i64 q.1) ∧ W'.cell? ⟨w.heap.size, 1, none⟩ = some (.int .i64 q.2)) _ from ⟨(Keeps.of_below HZ.out).cell_ HS0.out.1, (Keeps.of_below HZ.out).cell_ HS0.out.2.1, (Keeps.of_below HZ.out).cell_ HS0.out.2.2⟩)); (have hb9 := HS.out.1); have f9 := (HBX.out.below HZ.out HBX.out.lt).frozen 0; clear h9 g9)
          refine hK.out _ _ ?_ (fun hHeld => ?_)
          · (first | exact fun hE => absurd hE (by decide) | (intro _; (try dsimp only); (first | with_reducible exact HS0.out | with_reducible exact HS.out)))
          clear hK K
          (try replace hHeld := hHeld (by decide))
          (try simp only [Act.put, List.setIfInBounds_toArray, List.set_cons_zero, List.set_cons_succ])
          refine take_P 11 (some 36) ?_ (by (intro o ho w; (simp only [List.getElem?_toArray, List.getElem?_cons_succ, List.getElem?_cons_zero, Option.some.injEq] at ho); subst ho; go_simp; (first | done | with_reducible rfl))) (by ((try simp only [Act.put, hA, h0, h1]); (first | done | rfl))) (by first | exact fun _ => by assumption | exact fun hE => absurd hE (by decide))
          (try simp only [Act.put, List.setIfInBounds_toArray, List.set_cons_zero, List.set_cons_succ])
          refine take_P 12 (some 37) ?_ (by (intro o ho w; (simp only [List.getElem?_toArray, List.getElem?_cons_succ, List.getElem?_cons_zero, Option.some.injEq] at ho); subst ho; go_simp; (first | done | with_reducible rfl))) (by ((try simp only [Act.put, hA, h0, h1]); (first | done | rfl))) (by first | exact fun _ => by assumption | exact fun hE => absurd hE (by decide))
          (try simp only [Act.put, List.setIfInBounds_toArray, List.set_cons_zero, List.set_cons_succ])
          refine ready_L 13 (fun o ho K hK => ?_)
          (simp only [List.getElem?_toArray, List.getElem?_cons_succ, List.getElem?_cons_zero, Option.some.injEq] at ho)
          subst ho
          go_simp
          skip
          refine hK.out _ _ ?_ (fun hHeld => ?_)
          · (first | exact fun hE => absurd hE (by decide) | (intro _; (try dsimp only); (first | with_reducible exact HS0.out | with_reducible exact HS.out)))
          clear hK K
          (try replace hHeld := hHeld (by decide))
          (try simp only [Act.put, List.setIfInBounds_toArray, List.set_cons_zero, List.set_cons_succ])
          refine done_L (by kernel_rfl) ?_ _
          clear hHeld hb9 f9
          go_wp2
          go_returns
          have hbX := (HBX.out.below HZ.out HBX.out.lt).set_ 0 (.slice A9 (n + 1) c9)
          have tX : Turned w9 (w9.setCell ⟨b, 0, none⟩ (.slice A9 (n + 1) c9)) (fun j => j = b) := (Turned.refl w9 (fun j => j = b)).setCell (p := ⟨b, 0, none⟩) (fun _ => rfl) _
          have h9 := HP9.out
          have h9' : w9.ownsRow Es.drew.heap.size 124 5 (.slice A9 (n + 1) c9) (n + 1) (renC (I ++ [⟨q.1, q.2, true, 0, 0⟩])) := by
            rw [renC_append]
            exact h9
          have hoX := gown_turned h9' tX (fun j hj e => by have := (gown_lt h9' hj).1; have := HBX.out.lt; omega)
          refine ⟨0, n + 1, by simp, rfl, ⟨A9, c9, I ++ [⟨q.1, q.2, true, 0, 0⟩], hbX, own_mono3 hoX (Nat.le_trans HH.out.le (Nat.le_of_lt HBX.out.lt)), by simp [HI.out.2.2], HH.out.le⟩, Nat.le_refl _, fun _ => by omega, ?_⟩
          exact ((Turned.of_below (bel_to HZ.out HBW.out) (OfT B w)).chain tX (fun j hj e => by subst e; exact ⟨HH.out.le, _, _, _, HHB.out, .inl rfl⟩))
      · go_wp2
        go_returns
        exact ⟨7, n, by simp, rfl, HH.out.below (HX _).out, by omega, fun h => absurd h (by decide), TurnR.of_below (HX _).out⟩
  · have HX := kept (bel_to hb HB.out)
    rcases her with rfl | rfl
    all_goals
      go_wp2
      go_returns
      exact ⟨_, n, by simp, rfl, HH.out.below HX.out, by omega, fun h => absurd h (by decide), TurnR.of_below HX.out⟩
end Go.Proofs.YtlckeebbjnhejaaGreat
end

section
/-
  The document's own history, loosely: Restore.
-/
namespace Go.Proofs.YtlckeebbjnhejaaGreat
open Go.ChangeShapes Go.WideShapes Go.ChangeAt Go.RowKit Go.Deep
set_option linter.unusedVariables false
set_option linter.unusedSimpArgs false

/-- One cell of the last entry is written. -/
theorem RF.set_last {W : World} {B b n : Nat} (h : RF W B b n) (h0 : 0 < n) : ∃ g k, W.cell? ⟨b, 0, none⟩ = some (.slice (some ⟨g, 0, none⟩) n k) ∧ g ≠ b ∧ OfT B W g ∧ ∀ j (hj : j = 3 ∨ j = 4), (∃ v, W.cell? ⟨g, (n - 1) * 5 + j, none⟩ = some (.int .i64 v)) ∧ W.frozen? ⟨g, (n - 1) * 5 + j, none⟩ = false ∧ ∀ u : Int, RF (W.setCell ⟨g, (n - 1) * 5 + j, none⟩ (.int .i64 u)) B b n := by
  obtain ⟨A, k, I, h1, h2, h3, h4⟩ := h
  obtain ⟨g, rfl, hbg, hgl, _, _, hc⟩ := gown_at h2 h0
  obtain ⟨cur, hcur⟩ := gown_cl (k := 0) h2 (g := g) rfl
  have hgb : g ≠ b := ne_of_types hcur (show W.heap[b]? = some _ from h1) (by decide)
  have hml : n - 1 < I.length := by omega
  refine ⟨g, k, h1.cell 0, hgb, ⟨hbg, _, _, _, hcur, .inr rfl⟩, fun j hj => ?_⟩
  have hj5 : j < 5 := by omega
  have hcc := renC_at I (n - 1) hml j hj5
  refine ⟨?_, gfrozen hcur _, fun u => ?_⟩
  · rcases hj with rfl | rfl
    · exact ⟨_, hc _ _ hcc⟩
    · exact ⟨_, hc _ _ hcc⟩
  · have hs := gown_set h2 ((n - 1) * 5 + j) (.int .i64 u)
    have hx : ∃ x' : En5, x'.cells = I[n - 1].cells.set j (.int .i64 u) := by
      rcases hj with rfl | rfl
      · exact ⟨{ I[n - 1] with c := u }, rfl⟩
      · exact ⟨{ I[n - 1] with v := u }, rfl⟩
    obtain ⟨x', hx'⟩ := hx
    rw [renC_set I (n - 1) hml j (.int .i64 u) x' hj5 hx'] at hs
    exact ⟨_, k, I.set (n - 1) x', h1.far hgb.symm _, hs, by simp [h3], h4⟩
/-- What Restore leaves. -/
def RRes (w : World) (B b n : Nat) (e : Ending) (w' : World) : Prop := ∃ (er : Int) (n' : Nat), e = .returned (.int .i64 er) ∧ RF w' B b n' ∧ n' ≤ n + 1 ∧ TurnR B w w'
theorem rrest_tomb {w : World} {B b n : Nat} (h : RF w B b n) (hn : n ≤ 900000) (q : Rv) (c v : Int) :
    Calls Tryz.prog 75 #[.pointer (some ⟨b, 0, none⟩), .agg #[.int .i64 q.1, .int .i64 q.2], .int .i64 c, .int .i64 v, .bool true] w (RRes w B b n) := by
  have hB0 := (Below.refl w.heap.size w).alloc (Nat.le_refl _) (.cells #[.int .i64 q.1, .int .i64 q.2] 29)
  have HT := kept (rtomb_any (h.below hB0) hn q)
  have HB := kept hB0
  clear hB0 h
  go_enter Tryz.func75, Tryz.ntmps75
  go_wp2_with fail
  with_reducible refine HT.out.mono ?_
  rintro e w1 ⟨er, n', _, rfl, hr, hn', _, ht⟩
  have HX := kept (And.intro hr (And.intro hn' ((TurnR.of_below HB.out).trans ht)))
  clear hr hn' ht
  go_wp2
  go_returns
  exact ⟨er, n', rfl, HX.out.1, HX.out.2.1, HX.out.2.2⟩
set_option maxHeartbeats 4000000 in
theorem rrest_put {w : World} {B b n : Nat} (h : RF w B b n) (hn : n ≤ 900000) (q : Rv) (c v : Int) :
    Calls Tryz.prog 75 #[.pointer (some ⟨b, 0, none⟩), .agg #[.int .i64 q.1, .int .i64 q.2], .int .i64 c, .int .i64 v, .bool false] w (RRes w B b n) := by
  have hB0 := (Below.refl w.heap.size w).alloc (Nat.le_refl _) (.cells #[.int .i64 q.1, .int .i64 q.2] 29)
  have HT := kept (two_new w 29 q.1 q.2)
  have H0 := kept (h.below hB0)
  have HB := kept hB0
  have HR := fun W => kept (refRight_r q.1 q.2 W)
  have HL := fun W (h : RF W B b n) => kept (rlast_any h (by omega))
  have HP := fun W (h : RF W B b n) => kept (rput_any h hn q)
  have HH := kept h
  clear hB0 h
  have hcase : (rightR q.1 q.2 = false ∨ (rightR q.1 q.2 = true ∧ (c < 1 ∨ (¬ c < 1 ∧ q.1 < c) ∨ (¬ c < 1 ∧ ¬ q.1 < c ∧ v < 1)))) ∨ (rightR q.1 q.2 = true ∧ ¬ c < 1 ∧ ¬ q.1 < c ∧ ¬ v < 1) := by
    cases rightR q.1 q.2
    · exact .inl (.inl rfl)
    · by_cases h1 : c < 1
      · exact .inl (.inr ⟨rfl, .inl h1⟩)
      · by_cases h2 : q.1 < c
        · exact .inl (.inr ⟨rfl, .inr (.inl ⟨h1, h2⟩)⟩)
        · by_cases h3 : v < 1
          · exact .inl (.inr ⟨rfl, .inr (.inr ⟨h1, h2, h3⟩)⟩)
          · exact .inr ⟨rfl, h1, h2, h3⟩
  rcases hcase with hbad | ⟨hr, h1, h2, h3⟩
  · rcases hbad with hr | ⟨hr, h1 | ⟨h1, h2⟩ | ⟨h1, h2, h3⟩⟩
    all_goals
      rw [hr] at HR
      go_enter Tryz.func75, Tryz.ntmps75
      go_wp2_with fail
      with_reducible refine (HR _).out.mono ?_
      rintro e w1 ⟨rfl, hb⟩
      have t0 := (HT.out.keeps (Keeps.of_below hb)).1
      have HX := kept (bel_to hb HB.out)
      clear hb
      go_wp2
      go_returns
      exact ⟨2, n, rfl, HH.out.below HX.out, by omega, TurnR.of_below HX.out⟩
  · rw [hr] at HR
    have hd1 : decide (c < 1) = false := by simp; omega
    have hd2 : decide (q.1 < c) = false := by simp; omega
    have hd3 : decide (v < 1) = false := by simp; omega
    go_enter Tryz.func75, Tryz.ntmps75
    go_wp2_with fail
    generalize w.alloc (.cells #[.int .i64 q.1, .int .i64 q.2] 29) = W0 at H0 HB HT ⊢
    with_reducible refine (HR _).out.mono ?_
    rintro e w1 ⟨rfl, hb⟩
    have HT1 := kept (HT.out.keeps (Keeps.of_below hb))
    have t0 := HT1.out.1
    have HB1 := kept (bel_to hb HB.out)
    have HL1 := HL _ (H0.out.below hb)
    have H1 := kept (H0.out.below hb)
    clear hb
    go_wp2_with fail
    with_reducible refine HL1.out.mono ?_
    rintro e w3 ⟨x, ok, rfl, hb⟩
    have hb3 : ∀ o, Below w3.heap.size w3 (w3.alloc o) := fun o => (Below.refl w3.heap.size w3).alloc (Nat.le_refl _) o
    have HB3 := kept (bel_to hb HB1.out)
    have HX := fun o => kept (bel_to (hb3 o) HB3.out)
    have H3 := fun o => kept ((H1.out.below hb).below (hb3 o))
    have HT3 := HT1.out.keeps (Keeps.of_below hb)
    have v0 : ∀ o, (w3.alloc o).cell? ⟨w.heap.size, 0, none⟩ = some (.int .i64 q.1) := fun o => (Keeps.alloc w3 o).cell_ HT3.1
    have v1 : ∀ o, (w3.alloc o).cell? ⟨w.heap.size, 1, none⟩ = some (.int .i64 q.2) := fun o => (Keeps.alloc w3 o).cell_ HT3.2
    have HP3 := fun o => HP _ (H3 o).out
    clear hb HT3 t0
    have hgo : (ok = false ∨ (ok = true ∧ x.t = true) ∨ (ok = true ∧ x.t = false ∧ x.c = c ∧ v = wrap64 (x.v + 1))) ∨ (ok = true ∧ x.t = false ∧ (x.c ≠ c ∨ (x.c = c ∧ v ≠ wrap64 (x.v + 1)))) := by
      cases ok
      · exact .inl (.inl rfl)
      · cases x.t
        · by_cases e1 : x.c = c
          · by_cases e2 : v = wrap64 (x.v + 1)
            · exact .inl (.inr (.inr ⟨rfl, rfl, e1, e2⟩))
            · exact .inr ⟨rfl, rfl, .inr ⟨e1, e2⟩⟩
          · exact .inr ⟨rfl, rfl, .inl e1⟩
        · exact .inl (.inr (.inl ⟨rfl, rfl⟩))
    rcases hgo with hgo | ⟨rfl, hxt, hne | ⟨heq, hne⟩⟩
    · rcases hgo with rfl | ⟨rfl, hxt⟩ | ⟨rfl, hxt, hxc, hxv⟩
      all_goals
        try have hxc' : (x.c != c) = false := by simp [hxc]
        try have hxv' : (v != wrap64 (x.v + 1)) = false := by simp [hxv]
        try clear hxc hxv
        go_wp2_with fail
        with_reducible refine (HP3 _).out.mono ?_
        rintro e w5 ⟨er, n', her, rfl, hr5, hn5, hpos, ht5⟩
        have HR5 := kept (And.intro hr5 (And.intro hn5 ((TurnR.of_below (HX _).out).trans ht5)))
        clear hr5 hn5 ht5
        rcases her with rfl | rfl | rfl | rfl | rfl
        · have hp := hpos rfl
          obtain ⟨g, k, hb0, hgb, hgT, hst⟩ := HR5.out.1.set_last hp
          obtain ⟨m, rfl⟩ : ∃ m, n' = m + 1 := ⟨n' - 1, by omega⟩
          have hmn : m ≤ n := by have := HR5.out.2.1; omega
          simp only [Nat.add_sub_cancel] at hst
          obtain ⟨⟨o3, hc3⟩, hf3, hr3⟩ := hst 3 (.inl rfl)
          have HS0 := kept (show (fun W' : World => W'.cell? ⟨b, 0, none⟩ = some (.slice (some ⟨g, 0, none⟩) (m + 1) k)) w5.drew from hb0)
          have hwr : wrap64 (m : Int) = (m : Int) := IntWalk.wrap64_in _ ⟨by omega, by omega⟩
          have hwr2 : IntKind.i64.wrap (m : Int) = (m : Int) := IntWalk.i64_in _ ⟨by omega, by omega⟩
          have hmm : (m : Int) + 1 - 1 = (m : Int) := by omega
          have hm0 : (0 : Int) ≤ (m : Int) := by omega
          have hm1 : (m : Int) < (m : Int) + 1 := by omega
          have HX1 : Hid (RF (w5.setCell ⟨g, m * 5 + 3, none⟩ (.int .i64 c)).drew B b (m + 1) ∧ TurnR B w5 (w5.setCell ⟨g, m * 5 + 3, none⟩ (.int .i64 c)).drew ∧ (w5.setCell ⟨g, m * 5 + 3, none⟩ (.int .i64 c)).drew.cell? ⟨b, 0, none⟩ = some (.slice (some ⟨g, 0, none⟩) (m + 1) k)) := kept ⟨(hr3 c).below (Below.refl _ _).drew, ((Turned.refl w5 (OfT B w5)).setCell (p := ⟨g, m * 5 + 3, none⟩) (fun _ => hgT) _).drew, (gcell_far (b := g) _ rfl (by show b ≠ g; exact fun e => hgb e.symm)).trans hb0⟩
          have hc3' : w5.drew.cell? ⟨g, m * 5 + 3, none⟩ = some (.int .i64 o3) := hc3
          have hf3' : w5.drew.frozen? ⟨g, m * 5 + 3, none⟩ = false := hf3
          clear hb0 hst hr3 hpos hgT
          go_wp2
          refine wp_region_held_drew (S := (fun W' => W'.cell? ⟨b, 0, none⟩ = some (.slice (some ⟨g, 0, none⟩) (m + 1) k))) (by kernel_rfl) ?_ (fun hHeld => ?_)
          · ((try dsimp only); (first | with_reducible exact HS0.out | with_reducible exact HX1.out.2.2))
          refine hand_take 0 (some 65) ?_ (by kernel_rfl) (by kernel_rfl) (by kernel_rfl) (by kernel_rfl) (by kernel_rfl) (fun _ _ _ h => h) ?_ (by assumption) ?_
          rotate_left
          · (intro o ho w hSw; (simp only [List.getElem?_toArray, List.getElem?_cons_succ, List.getElem?_cons_zero, Option.some.injEq] at ho); subst ho; (try dsimp only at hSw); go_simp; (first | done | with_reducible rfl))
          (try simp only [Act.put, List.setIfInBounds_toArray, List.set_cons_zero, List.set_cons_succ])
          refine hand_take 1 (some 66) ?_ (by kernel_rfl) (by kernel_rfl) (by kernel_rfl) (by kernel_rfl) (by kernel_rfl) (fun _ _ _ h => h) ?_ (by assumption) ?_
          rotate_left
          · (intro o ho w hSw; (simp only [List.getElem?_toArray, List.getElem?_cons_succ, List.getElem?_cons_zero, Option.some.injEq] at ho); subst ho; (try dsimp only at hSw); go_simp; (first | done | with_reducible rfl))
          (try simp only [Act.put, List.setIfInBounds_toArray, List.set_cons_zero, List.set_cons_succ])
          refine hand_take 2 (some 67) ?_ (by kernel_rfl) (by kernel_rfl) (by kernel_rfl) (by kernel_rfl) (by kernel_rfl) (fun _ _ _ h => h) ?_ (by assumption) ?_
          rotate_left
          · (intro o ho w hSw; (simp only [List.getElem?_toArray, List.getElem?_cons_succ, List.getElem?_cons_zero, Option.some.injEq] at ho); subst ho; (try dsimp only at hSw); go_simp; (first | done | with_reducible rfl))
          (try simp only [Act.put, List.setIfInBounds_toArray, List.set_cons_zero, List.set_cons_succ])
          refine hand_take 3 (some 68) ?_ (by kernel_rfl) (by kernel_rfl) (by kernel_rfl) (by kernel_rfl) (by kernel_rfl) (fun _ _ _ h => h) ?_ (by assumption) ?_
          rotate_left
          · (intro o ho w hSw; (simp only [List.getElem?_toArray, List.getElem?_cons_succ, List.getElem?_cons_zero, Option.some.injEq] at ho); subst ho; (try dsimp only at hSw); go_simp; (first | done | with_reducible rfl))
          (try simp only [Act.put, List.setIfInBounds_toArray, List.set_cons_zero, List.set_cons_succ])
          refine hand_take 4 (some 69) ?_ (by kernel_rfl) (by kernel_rfl) (by kernel_rfl) (by kernel_rfl) (by kernel_rfl) (fun _ _ _ h => h) ?_ (by assumption) ?_
          rotate_left
          · (intro o ho w hSw; (simp only [List.getElem?_toArray, List.getElem?_cons_succ, List.getElem?_cons_zero, Option.some.injEq] at ho); subst ho; (try dsimp only at hSw); go_simp; (first | done | with_reducible rfl))
          (try simp only [Act.put, List.setIfInBounds_toArray, List.set_cons_zero, List.set_cons_succ])
          refine hand_take 5 (some 70) ?_ (by kernel_rfl) (by kernel_rfl) (by kernel_rfl) (by kernel_rfl) (by kernel_rfl) (fun _ _ _ h => h) ?_ (by assumption) ?_
          rotate_left
          · (intro o ho w hSw; (simp only [List.getElem?_toArray, List.getElem?_cons_succ, List.getElem?_cons_zero, Option.some.injEq] at ho); subst ho; (try dsimp only at hSw); go_simp; (first | done | with_reducible rfl))
          (try simp only [Act.put, List.setIfInBounds_toArray, List.set_cons_zero, List.set_cons_succ])
          refine hand_take 6 (some 71) ?_ (by kernel_rfl) (by kernel_rfl) (by kernel_rfl) (by kernel_rfl) (by kernel_rfl) (fun _ _ _ h => h) ?_ (by assumption) ?_
          rotate_left
          · (intro o ho w hSw; (simp only [List.getElem?_toArray, List.getElem?_cons_succ, List.getElem?_cons_zero, Option.some.injEq] at ho); subst ho; (try dsimp only at hSw); go_simp; (first | done | with_reducible rfl))
          (try simp only [Act.put, List.setIfInBounds_toArray, List.set_cons_zero, List.set_cons_succ])
          refine hand_take 7 (some 72) ?_ (by kernel_rfl) (by kernel_rfl) (by kernel_rfl) (by kernel_rfl) (by kernel_rfl) (fun _ _ _ h => h) ?_ (by assumption) ?_
          rotate_left
          · (intro o ho w hSw; (simp only [List.getElem?_toArray, List.getElem?_cons_succ, List.getElem?_cons_zero, Option.some.injEq] at ho); subst ho; (try dsimp only at hSw); go_simp; (first | done | with_reducible rfl))
          (try simp only [Act.put, List.setIfInBounds_toArray, List.set_cons_zero, List.set_cons_succ])
          refine hand_take 8 (some 73) ?_ (by kernel_rfl) (by kernel_rfl) (by kernel_rfl) (by kernel_rfl) (by kernel_rfl) (fun _ _ _ h => h) ?_ (by assumption) ?_
          rotate_left
          · (intro o ho w hSw; (simp only [List.getElem?_toArray, List.getElem?_cons_succ, List.getElem?_cons_zero, Option.some.injEq] at ho); subst ho; (try dsimp only at hSw); go_simp; (first | done | with_reducible rfl))
          (try simp only [Act.put, List.setIfInBounds_toArray, List.set_cons_zero, List.set_cons_succ])
          refine hand_take 9 (some 74) ?_ (by kernel_rfl) (by kernel_rfl) (by kernel_rfl) (by kernel_rfl) (by kernel_rfl) (fun _ _ _ h => h) ?_ (by assumption) ?_
          rotate_left
          · (intro o ho w hSw; (simp only [List.getElem?_toArray, List.getElem?_cons_succ, List.getElem?_cons_zero, Option.some.injEq] at ho); subst ho; (try dsimp only at hSw); go_simp; (first | done | with_reducible rfl))
          (try simp only [Act.put, List.setIfInBounds_toArray, List.set_cons_zero, List.set_cons_succ])
          refine hand_take 10 (some 75) ?_ (by kernel_rfl) (by kernel_rfl) (by kernel_rfl) (by kernel_rfl) (by kernel_rfl) (fun _ _ _ h => h) ?_ (by assumption) ?_
          rotate_left
          · (intro o ho w hSw; (simp only [List.getElem?_toArray, List.getElem?_cons_succ, List.getElem?_cons_zero, Option.some.injEq] at ho); subst ho; (try dsimp only at hSw); go_simp; (first | done | with_reducible rfl))
          (try simp only [Act.put, List.setIfInBounds_toArray, List.set_cons_zero, List.set_cons_succ])
          refine hand_take 11 (some 76) ?_ (by kernel_rfl) (by kernel_rfl) (by kernel_rfl) (by kernel_rfl) (by kernel_rfl) (fun _ _ _ h => h) ?_ (by assumption) ?_
          rotate_left
          · (intro o ho w hSw; (simp only [List.getElem?_toArray, List.getElem?_cons_succ, List.getElem?_cons_zero, Option.some.injEq] at ho); subst ho; (try dsimp only at hSw); go_simp; (first | done | with_reducible rfl))
          (try simp only [Act.put, List.setIfInBounds_toArray, List.set_cons_zero, List.set_cons_succ])
          refine hand_take 12 (some 77) ?_ (by kernel_rfl) (by kernel_rfl) (by kernel_rfl) (by kernel_rfl) (by kernel_rfl) (fun _ _ _ h => h) ?_ (by assumption) ?_
          rotate_left
          · (intro o ho w hSw; (simp only [List.getElem?_toArray, List.getElem?_cons_succ, List.getElem?_cons_zero, Option.some.injEq] at ho); subst ho; (try dsimp only at hSw); go_simp; (first | done | with_reducible rfl))
          (try simp only [Act.put, List.setIfInBounds_toArray, List.set_cons_zero, List.set_cons_succ])
          refine hand_ready 13 (by kernel_rfl) (by kernel_rfl) (fun o ho K hK => ?_)
          (simp only [List.getElem?_toArray, List.getElem?_cons_succ, List.getElem?_cons_zero, Option.some.injEq] at ho)
          subst ho
          go_simp
          (generalize (w5.setCell ⟨g, m * 5 + 3, none⟩ (.int .i64 c)).drew = X1 at HX1 ⊢)
          refine hK.out _ _ ?_ (fun hHeld => ?_)
          · ((try dsimp only); (first | with_reducible exact HS0.out | with_reducible exact HX1.out.2.2))
          clear hK K
          (try simp only [Act.put, List.setIfInBounds_toArray, List.set_cons_zero, List.set_cons_succ])
          refine wpAnyH_done (by kernel_rfl) ?_ _
          clear hHeld hc3 hc3' hf3 hf3' HS0
          obtain ⟨g4, k4, hb4, hgb4, hgT4, hst4⟩ := HX1.out.1.set_last (by omega)
          simp only [Nat.add_sub_cancel] at hst4
          obtain ⟨⟨o4, hc4⟩, hf4, hr4⟩ := hst4 4 (.inr rfl)
          have HS4 := kept (show (fun W' : World => W'.cell? ⟨b, 0, none⟩ = some (.slice (some ⟨g4, 0, none⟩) (m + 1) k4)) X1.drew from hb4)
          have hc4' : X1.drew.cell? ⟨g4, m * 5 + 4, none⟩ = some (.int .i64 o4) := hc4
          have hf4' : X1.drew.frozen? ⟨g4, m * 5 + 4, none⟩ = false := hf4
          have HX2 : Hid (RF (X1.setCell ⟨g4, m * 5 + 4, none⟩ (.int .i64 v)).drew B b (m + 1) ∧ TurnR B X1 (X1.setCell ⟨g4, m * 5 + 4, none⟩ (.int .i64 v)).drew ∧ (X1.setCell ⟨g4, m * 5 + 4, none⟩ (.int .i64 v)).drew.cell? ⟨b, 0, none⟩ = some (.slice (some ⟨g4, 0, none⟩) (m + 1) k4)) := kept ⟨(hr4 v).below (Below.refl _ _).drew, ((Turned.refl X1 (OfT B X1)).setCell (p := ⟨g4, m * 5 + 4, none⟩) (fun _ => hgT4) _).drew, (gcell_far (b := g4) _ rfl (by show b ≠ g4; exact fun e => hgb4 e.symm)).trans hb4⟩
          clear hb4 hst4 hr4 hgT4
          go_wp2
          refine wp_region_held_drew (S := (fun W' => W'.cell? ⟨b, 0, none⟩ = some (.slice (some ⟨g4, 0, none⟩) (m + 1) k4))) (by kernel_rfl) ?_ (fun hHeld => ?_)
          · ((try dsimp only); (first | with_reducible exact HS4.out | with_reducible exact HX2.out.2.2))
          refine hand_take 0 (some 78) ?_ (by kernel_rfl) (by kernel_rfl) (by kernel_rfl) (by kernel_rfl) (by kernel_rfl) (fun _ _ _ h => h) ?_ (by assumption) ?_
          rotate_left
          · (intro o ho w hSw; (simp only [List.getElem?_toArray, List.getElem?_cons_succ, List.getElem?_cons_zero, Option.some.injEq] at ho); subst ho; (try dsimp only at hSw); go_simp; (first | done | with_reducible rfl))
          (try simp only [Act.put, List.setIfInBounds_toArray, List.set_cons_zero, List.set_cons_succ])
          refine hand_take 1 (some 79) ?_ (by kernel_rfl) (by kernel_rfl) (by kernel_rfl) (by kernel_rfl) (by kernel_rfl) (fun _ _ _ h => h) ?_ (by assumption) ?_
          rotate_left
          · (intro o ho w hSw; (simp only [List.getElem?_toArray, List.getElem?_cons_succ, List.getElem?_cons_zero, Option.some.injEq] at ho); subst ho; (try dsimp only at hSw); go_simp; (first | done | with_reducible rfl))
          (try simp only [Act.put, List.setIfInBounds_toArray, List.set_cons_zero, List.set_cons_succ])
          refine hand_take 2 (some 80) ?_ (by kernel_rfl) (by kernel_rfl) (by kernel_rfl) (by kernel_rfl) (by kernel_rfl) (fun _ _ _ h => h) ?_ (by assumption) ?_
          rotate_left
          · (intro o ho w hSw; (simp only [List.getElem?_toArray, List.getElem?_cons_succ, List.getElem?_cons_zero, Option.some.injEq] at ho); subst ho; (try dsimp only at hSw); go_simp; (first | done | with_reducible rfl))
          (try simp only [Act.put, List.setIfInBounds_toArray, List.set_cons_zero, List.set_cons_succ])
          refine hand_take 3 (some 81) ?_ (by kernel_rfl) (by kernel_rfl) (by kernel_rfl) (by kernel_rfl) (by kernel_rfl) (fun _ _ _ h => h) ?_ (by assumption) ?_
          rotate_left
          · (intro o ho w hSw; (simp only [List.getElem?_toArray, List.getElem?_cons_succ, List.getElem?_cons_zero, Option.some.injEq] at ho); subst ho; (try dsimp only at hSw); go_simp; (first | done | with_reducible rfl))
          (try simp only [Act.put, List.setIfInBounds_toArray, List.set_cons_zero, List.set_cons_succ])
          refine hand_take 4 (some 82) ?_ (by kernel_rfl) (by kernel_rfl) (by kernel_rfl) (by kernel_rfl) (by kernel_rfl) (fun _ _ _ h => h) ?_ (by assumption) ?_
          rotate_left
          · (intro o ho w hSw; (simp only [List.getElem?_toArray, List.getElem?_cons_succ, List.getElem?_cons_zero, Option.some.injEq] at ho); subst ho; (try dsimp only at hSw); go_simp; (first | done | with_reducible rfl))
          (try simp only [Act.put, List.setIfInBounds_toArray, List.set_cons_zero, List.set_cons_succ])
          refine hand_take 5 (some 83) ?_ (by kernel_rfl) (by kernel_rfl) (by kernel_rfl) (by kernel_rfl) (by kernel_rfl) (fun _ _ _ h => h) ?_ (by assumption) ?_
          rotate_left
          · (intro o ho w hSw; (simp only [List.getElem?_toArray, List.getElem?_cons_succ, List.getElem?_cons_zero, Option.some.injEq] at ho); subst ho; (try dsimp only at hSw); go_simp; (first | done | with_reducible rfl))
          (try simp only [Act.put, List.setIfInBounds_toArray, List.set_cons_zero, List.set_cons_succ])
          refine hand_take 6 (some 84) ?_ (by kernel_rfl) (by kernel_rfl) (by kernel_rfl) (by kernel_rfl) (by kernel_rfl) (fun _ _ _ h => h) ?_ (by assumption) ?_
          rotate_left
          · (intro o ho w hSw; (simp only [List.getElem?_toArray, List.getElem?_cons_succ, List.getElem?_cons_zero, Option.some.injEq] at ho); subst ho; (try dsimp only at hSw); go_simp; (first | done | with_reducible rfl))
          (try simp only [Act.put, List.setIfInBounds_toArray, List.set_cons_zero, List.set_cons_succ])
          refine hand_take 7 (some 85) ?_ (by kernel_rfl) (by kernel_rfl) (by kernel_rfl) (by kernel_rfl) (by kernel_rfl) (fun _ _ _ h => h) ?_ (by assumption) ?_
          rotate_left
          · (intro o ho w hSw; (simp only [List.getElem?_toArray, List.getElem?_cons_succ, List.getElem?_cons_zero, Option.some.injEq] at ho); subst ho; (try dsimp only at hSw); go_simp; (first | done | with_reducible rfl))
          (try simp only [Act.put, List.setIfInBounds_toArray, List.set_cons_zero, List.set_cons_succ])
          refine hand_take 8 (some 86) ?_ (by kernel_rfl) (by kernel_rfl) (by kernel_rfl) (by kernel_rfl) (by kernel_rfl) (fun _ _ _ h => h) ?_ (by assumption) ?_
          rotate_left
          · (intro o ho w hSw; (simp only [List.getElem?_toArray, List.getElem?_cons_succ, List.getElem?_cons_zero, Option.some.injEq] at ho); subst ho; (try dsimp only at hSw); go_simp; (first | done | with_reducible rfl))
          (try simp only [Act.put, List.setIfInBounds_toArray, List.set_cons_zero, List.set_cons_succ])
          refine hand_take 9 (some 87) ?_ (by kernel_rfl) (by kernel_rfl) (by kernel_rfl) (by kernel_rfl) (by kernel_rfl) (fun _ _ _ h => h) ?_ (by assumption) ?_
          rotate_left
          · (intro o ho w hSw; (simp only [List.getElem?_toArray, List.getElem?_cons_succ, List.getElem?_cons_zero, Option.some.injEq] at ho); subst ho; (try dsimp only at hSw); go_simp; (first | done | with_reducible rfl))
          (try simp only [Act.put, List.setIfInBounds_toArray, List.set_cons_zero, List.set_cons_succ])
          refine hand_take 10 (some 88) ?_ (by kernel_rfl) (by kernel_rfl) (by kernel_rfl) (by kernel_rfl) (by kernel_rfl) (fun _ _ _ h => h) ?_ (by assumption) ?_
          rotate_left
          · (intro o ho w hSw; (simp only [List.getElem?_toArray, List.getElem?_cons_succ, List.getElem?_cons_zero, Option.some.injEq] at ho); subst ho; (try dsimp only at hSw); go_simp; (first | done | with_reducible rfl))
          (try simp only [Act.put, List.setIfInBounds_toArray, List.set_cons_zero, List.set_cons_succ])
          refine hand_take 11 (some 89) ?_ (by kernel_rfl) (by kernel_rfl) (by kernel_rfl) (by kernel_rfl) (by kernel_rfl) (fun _ _ _ h => h) ?_ (by assumption) ?_
          rotate_left
          · (intro o ho w hSw; (simp only [List.getElem?_toArray, List.getElem?_cons_succ, List.getElem?_cons_zero, Option.some.injEq] at ho); subst ho; (try dsimp only at hSw); go_simp; (first | done | with_reducible rfl))
          (try simp only [Act.put, List.setIfInBounds_toArray, List.set_cons_zero, List.set_cons_succ])
          refine hand_take 12 (some 90) ?_ (by kernel_rfl) (by kernel_rfl) (by kernel_rfl) (by kernel_rfl) (by kernel_rfl) (fun _ _ _ h => h) ?_ (by assumption) ?_
          rotate_left
          · (intro o ho w hSw; (simp only [List.getElem?_toArray, List.getElem?_cons_succ, List.getElem?_cons_zero, Option.some.injEq] at ho); subst ho; (try dsimp only at hSw); go_simp; (first | done | with_reducible rfl))
          (try simp only [Act.put, List.setIfInBounds_toArray, List.set_cons_zero, List.set_cons_succ])
          refine hand_ready 13 (by kernel_rfl) (by kernel_rfl) (fun o ho K hK => ?_)
          (simp only [List.getElem?_toArray, List.getElem?_cons_succ, List.getElem?_cons_zero, Option.some.injEq] at ho)
          subst ho
          go_simp
          (generalize (X1.setCell ⟨g4, m * 5 + 4, none⟩ (.int .i64 v)).drew = X2 at HX2 ⊢)
          refine hK.out _ _ ?_ (fun hHeld => ?_)
          · ((try dsimp only); (first | with_reducible exact HS4.out | with_reducible exact HX2.out.2.2))
          clear hK K
          (try simp only [Act.put, List.setIfInBounds_toArray, List.set_cons_zero, List.set_cons_succ])
          refine wpAnyH_done (by kernel_rfl) ?_ _
          clear hHeld hc4 hc4' hf4 hf4' HS4
          go_wp2
          go_returns
          exact ⟨0, m + 1, rfl, HX2.out.1, by omega, (HR5.out.2.2.trans HX1.out.2.1).trans HX2.out.2.1⟩
        all_goals
          clear hpos
          go_wp2
          go_returns
          exact ⟨_, n', rfl, HR5.out.1, HR5.out.2.1, HR5.out.2.2⟩
    · have hne' : (x.c != c) = true := by simpa using hne
      go_wp2
      go_returns
      exact ⟨4, n, rfl, HH.out.below (HX _).out, by omega, TurnR.of_below (HX _).out⟩
    · have hne' : (v != wrap64 (x.v + 1)) = true := by simpa using hne
      go_wp2
      go_returns
      exact ⟨4, n, rfl, HH.out.below (HX _).out, by omega, TurnR.of_below (HX _).out⟩
end Go.Proofs.YtlckeebbjnhejaaGreat
end
