/-
  The document's own history, loosely: Restore.
-/
import Derived.Test.YthpaliagmnclfaaGx
namespace Go.Proofs.Ythpaliagmnclfaa
open Go.ChangeShapes Go.WideShapes Go.ChangeAt Go.RowKit Go.Deep
set_option linter.unusedVariables false
set_option linter.unusedSimpArgs false

/-- One cell of the last entry is written. -/
theorem RF.set_last {W : World} {b n : Nat} (h : RF W b n) (h0 : 0 < n) : ∃ g k, W.cell? ⟨b, 0, none⟩ = some (.slice (some ⟨g, 0, none⟩) n k) ∧ g ≠ b ∧ OfT b W g ∧ ∀ j (hj : j = 3 ∨ j = 4), (∃ v, W.cell? ⟨g, (n - 1) * 5 + j, none⟩ = some (.int .i64 v)) ∧ W.frozen? ⟨g, (n - 1) * 5 + j, none⟩ = false ∧ ∀ u : Int, RF (W.setCell ⟨g, (n - 1) * 5 + j, none⟩ (.int .i64 u)) b n := by
  obtain ⟨A, k, I, h1, h2, h3⟩ := h
  obtain ⟨g, rfl, hbg, hgl, _, _, hc⟩ := gown_at h2 h0
  obtain ⟨cur, hcur⟩ := gown_cl (k := 0) h2 (g := g) rfl
  have hgb : g ≠ b := ne_of_types hcur (show W.heap[b]? = some _ from h1) (by decide)
  have hml : n - 1 < I.length := by omega
  refine ⟨g, k, h1.cell 0, hgb, ⟨hbg, _, _, _, hcur, .inr rfl⟩, fun j hj => ?_⟩
  have hj5 : j < 5 := by omega
  have hcc := renC_at I (n - 1) hml j hj5
  refine ⟨?_, gfrozen hcur _, fun u => ?_⟩
  · rcases hj with rfl | rfl
    · exact ⟨_, hc _ _ hcc⟩
    · exact ⟨_, hc _ _ hcc⟩
  · have hs := gown_set h2 ((n - 1) * 5 + j) (.int .i64 u)
    have hx : ∃ x' : En5, x'.cells = I[n - 1].cells.set j (.int .i64 u) := by
      rcases hj with rfl | rfl
      · exact ⟨{ I[n - 1] with c := u }, rfl⟩
      · exact ⟨{ I[n - 1] with v := u }, rfl⟩
    obtain ⟨x', hx'⟩ := hx
    rw [renC_set I (n - 1) hml j (.int .i64 u) x' hj5 hx'] at hs
    exact ⟨_, k, I.set (n - 1) x', h1.far hgb.symm _, hs, by simp [h3]⟩
/-- What Restore leaves. -/
def RRes (w : World) (b n : Nat) (e : Ending) (w' : World) : Prop := ∃ (er : Int) (n' : Nat), e = .returned (.int .i64 er) ∧ RF w' b n' ∧ n' ≤ n + 1 ∧ TurnR b w w'
theorem rrest_tomb {w : World} {b n : Nat} (h : RF w b n) (hn : n ≤ 900000) (q : Rv) (c v : Int) :
    Calls Try.prog 30 #[.pointer (some ⟨b, 0, none⟩), .agg #[.int .i64 q.1, .int .i64 q.2], .int .i64 c, .int .i64 v, .bool true] w (RRes w b n) := by
  have hB0 := (Below.refl w.heap.size w).alloc (Nat.le_refl _) (.cells #[.int .i64 q.1, .int .i64 q.2] 29)
  have HT := kept (rtomb_any (h.below hB0) hn q)
  have HB := kept hB0
  clear hB0 h
  go_enter Try.func30, Try.ntmps30
  go_wp2_with fail
  with_reducible refine HT.out.mono ?_
  rintro e w1 ⟨er, n', _, rfl, hr, hn', _, ht⟩
  have HX := kept (And.intro hr (And.intro hn' ((TurnR.of_below HB.out).trans ht)))
  clear hr hn' ht
  go_wp2
  go_returns
  exact ⟨er, n', rfl, HX.out.1, HX.out.2.1, HX.out.2.2⟩
set_option maxHeartbeats 4000000 in
theorem rrest_put {w : World} {b n : Nat} (h : RF w b n) (hn : n ≤ 900000) (q : Rv) (c v : Int) :
    Calls Try.prog 30 #[.pointer (some ⟨b, 0, none⟩), .agg #[.int .i64 q.1, .int .i64 q.2], .int .i64 c, .int .i64 v, .bool false] w (RRes w b n) := by
  have hB0 := (Below.refl w.heap.size w).alloc (Nat.le_refl _) (.cells #[.int .i64 q.1, .int .i64 q.2] 29)
  have HT := kept (two_new w 29 q.1 q.2)
  have H0 := kept (h.below hB0)
  have HB := kept hB0
  have HR := fun W => kept (refRight_r q.1 q.2 W)
  have HL := fun W (h : RF W b n) => kept (rlast_any h (by omega))
  have HP := fun W (h : RF W b n) => kept (rput_any h hn q)
  have HH := kept h
  clear hB0 h
  have hcase : (rightR q.1 q.2 = false ∨ (rightR q.1 q.2 = true ∧ (c < 1 ∨ (¬ c < 1 ∧ q.1 < c) ∨ (¬ c < 1 ∧ ¬ q.1 < c ∧ v < 1)))) ∨ (rightR q.1 q.2 = true ∧ ¬ c < 1 ∧ ¬ q.1 < c ∧ ¬ v < 1) := by
    cases rightR q.1 q.2
    · exact .inl (.inl rfl)
    · by_cases h1 : c < 1
      · exact .inl (.inr ⟨rfl, .inl h1⟩)
      · by_cases h2 : q.1 < c
        · exact .inl (.inr ⟨rfl, .inr (.inl ⟨h1, h2⟩)⟩)
        · by_cases h3 : v < 1
          · exact .inl (.inr ⟨rfl, .inr (.inr ⟨h1, h2, h3⟩)⟩)
          · exact .inr ⟨rfl, h1, h2, h3⟩
  rcases hcase with hbad | ⟨hr, h1, h2, h3⟩
  · rcases hbad with hr | ⟨hr, h1 | ⟨h1, h2⟩ | ⟨h1, h2, h3⟩⟩
    all_goals
      rw [hr] at HR
      go_enter Try.func30, Try.ntmps30
      go_wp2_with fail
      with_reducible refine (HR _).out.mono ?_
      rintro e w1 ⟨rfl, hb⟩
      have t0 := (HT.out.keeps (Keeps.of_below hb)).1
      have HX := kept (bel_to hb HB.out)
      clear hb
      go_wp2
      go_returns
      exact ⟨2, n, rfl, HH.out.below HX.out, by omega, TurnR.of_below HX.out⟩
  · rw [hr] at HR
    have hd1 : decide (c < 1) = false := by simp; omega
    have hd2 : decide (q.1 < c) = false := by simp; omega
    have hd3 : decide (v < 1) = false := by simp; omega
    go_enter Try.func30, Try.ntmps30
    go_wp2_with fail
    generalize w.alloc (.cells #[.int .i64 q.1, .int .i64 q.2] 29) = W0 at H0 HB HT ⊢
    with_reducible refine (HR _).out.mono ?_
    rintro e w1 ⟨rfl, hb⟩
    have HT1 := kept (HT.out.keeps (Keeps.of_below hb))
    have t0 := HT1.out.1
    have HB1 := kept (bel_to hb HB.out)
    have HL1 := HL _ (H0.out.below hb)
    have H1 := kept (H0.out.below hb)
    clear hb
    go_wp2_with fail
    with_reducible refine HL1.out.mono ?_
    rintro e w3 ⟨x, ok, rfl, hb⟩
    have hb3 : ∀ o, Below w3.heap.size w3 (w3.alloc o) := fun o => (Below.refl w3.heap.size w3).alloc (Nat.le_refl _) o
    have HB3 := kept (bel_to hb HB1.out)
    have HX := fun o => kept (bel_to (hb3 o) HB3.out)
    have H3 := fun o => kept ((H1.out.below hb).below (hb3 o))
    have HT3 := HT1.out.keeps (Keeps.of_below hb)
    have v0 : ∀ o, (w3.alloc o).cell? ⟨w.heap.size, 0, none⟩ = some (.int .i64 q.1) := fun o => (Keeps.alloc w3 o).cell_ HT3.1
    have v1 : ∀ o, (w3.alloc o).cell? ⟨w.heap.size, 1, none⟩ = some (.int .i64 q.2) := fun o => (Keeps.alloc w3 o).cell_ HT3.2
    have HP3 := fun o => HP _ (H3 o).out
    clear hb HT3 t0
    have hgo : (ok = false ∨ (ok = true ∧ x.t = true) ∨ (ok = true ∧ x.t = false ∧ x.c = c ∧ v = wrap64 (x.v + 1))) ∨ (ok = true ∧ x.t = false ∧ (x.c ≠ c ∨ (x.c = c ∧ v ≠ wrap64 (x.v + 1)))) := by
      cases ok
      · exact .inl (.inl rfl)
      · cases x.t
        · by_cases e1 : x.c = c
          · by_cases e2 : v = wrap64 (x.v + 1)
            · exact .inl (.inr (.inr ⟨rfl, rfl, e1, e2⟩))
            · exact .inr ⟨rfl, rfl, .inr ⟨e1, e2⟩⟩
          · exact .inr ⟨rfl, rfl, .inl e1⟩
        · exact .inl (.inr (.inl ⟨rfl, rfl⟩))
    rcases hgo with hgo | ⟨rfl, hxt, hne | ⟨heq, hne⟩⟩
    · rcases hgo with rfl | ⟨rfl, hxt⟩ | ⟨rfl, hxt, hxc, hxv⟩
      all_goals
        try have hxc' : (x.c != c) = false := by simp [hxc]
        try have hxv' : (v != wrap64 (x.v + 1)) = false := by simp [hxv]
        try clear hxc hxv
        go_wp2_with fail
        with_reducible refine (HP3 _).out.mono ?_
        rintro e w5 ⟨er, n', her, rfl, hr5, hn5, hpos, ht5⟩
        have HR5 := kept (And.intro hr5 (And.intro hn5 ((TurnR.of_below (HX _).out).trans ht5)))
        clear hr5 hn5 ht5
        rcases her with rfl | rfl | rfl | rfl | rfl
        · have hp := hpos rfl
          obtain ⟨g, k, hb0, hgb, hgT, hst⟩ := HR5.out.1.set_last hp
          obtain ⟨m, rfl⟩ : ∃ m, n' = m + 1 := ⟨n' - 1, by omega⟩
          have hmn : m ≤ n := by have := HR5.out.2.1; omega
          simp only [Nat.add_sub_cancel] at hst
          obtain ⟨⟨o3, hc3⟩, hf3, hr3⟩ := hst 3 (.inl rfl)
          have HS0 := kept (show (fun W' : World => W'.cell? ⟨b, 0, none⟩ = some (.slice (some ⟨g, 0, none⟩) (m + 1) k)) w5.drew from hb0)
          have hwr : wrap64 (m : Int) = (m : Int) := IntWalk.wrap64_in _ ⟨by omega, by omega⟩
          have hwr2 : IntKind.i64.wrap (m : Int) = (m : Int) := IntWalk.i64_in _ ⟨by omega, by omega⟩
          have hmm : (m : Int) + 1 - 1 = (m : Int) := by omega
          have hm0 : (0 : Int) ≤ (m : Int) := by omega
          have hm1 : (m : Int) < (m : Int) + 1 := by omega
          have HX1 : Hid (RF (w5.setCell ⟨g, m * 5 + 3, none⟩ (.int .i64 c)).drew b (m + 1) ∧ TurnR b w5 (w5.setCell ⟨g, m * 5 + 3, none⟩ (.int .i64 c)).drew ∧ (w5.setCell ⟨g, m * 5 + 3, none⟩ (.int .i64 c)).drew.cell? ⟨b, 0, none⟩ = some (.slice (some ⟨g, 0, none⟩) (m + 1) k)) := kept ⟨(hr3 c).below (Below.refl _ _).drew, ((Turned.refl w5 (OfT b w5)).setCell (p := ⟨g, m * 5 + 3, none⟩) (fun _ => hgT) _).drew, (gcell_far (b := g) _ rfl (by show b ≠ g; exact fun e => hgb e.symm)).trans hb0⟩
          have hc3' : w5.drew.cell? ⟨g, m * 5 + 3, none⟩ = some (.int .i64 o3) := hc3
          have hf3' : w5.drew.frozen? ⟨g, m * 5 + 3, none⟩ = false := hf3
          clear hb0 hst hr3 hpos hgT
          go_wp2
          refine wp_region_held_drew (S := (fun W' => W'.cell? ⟨b, 0, none⟩ = some (.slice (some ⟨g, 0, none⟩) (m + 1) k))) (by kernel_rfl) ?_ (fun hHeld => ?_)
          · ((try dsimp only); (first | with_reducible exact HS0.out | with_reducible exact HX1.out.2.2))
          refine hand_take 0 (some 65) ?_ (by kernel_rfl) (by kernel_rfl) (by kernel_rfl) (by kernel_rfl) (by kernel_rfl) (fun _ _ _ h => h) ?_ (by assumption) ?_
          rotate_left
          · (intro o ho w hSw; (simp only [List.getElem?_toArray, List.getElem?_cons_succ, List.getElem?_cons_zero, Option.some.injEq] at ho); subst ho; (try dsimp only at hSw); go_simp; (first | done | with_reducible rfl))
          (try simp only [Act.put, List.setIfInBounds_toArray, List.set_cons_zero, List.set_cons_succ])
          refine hand_take 1 (some 66) ?_ (by kernel_rfl) (by kernel_rfl) (by kernel_rfl) (by kernel_rfl) (by kernel_rfl) (fun _ _ _ h => h) ?_ (by assumption) ?_
          rotate_left
          · (intro o ho w hSw; (simp only [List.getElem?_toArray, List.getElem?_cons_succ, List.getElem?_cons_zero, Option.some.injEq] at ho); subst ho; (try dsimp only at hSw); go_simp; (first | done | with_reducible rfl))
          (try simp only [Act.put, List.setIfInBounds_toArray, List.set_cons_zero, List.set_cons_succ])
          refine hand_take 2 (some 67) ?_ (by kernel_rfl) (by kernel_rfl) (by kernel_rfl) (by kernel_rfl) (by kernel_rfl) (fun _ _ _ h => h) ?_ (by assumption) ?_
          rotate_left
          · (intro o ho w hSw; (simp only [List.getElem?_toArray, List.getElem?_cons_succ, List.getElem?_cons_zero, Option.some.injEq] at ho); subst ho; (try dsimp only at hSw); go_simp; (first | done | with_reducible rfl))
          (try simp only [Act.put, List.setIfInBounds_toArray, List.set_cons_zero, List.set_cons_succ])
          refine hand_take 3 (some 68) ?_ (by kernel_rfl) (by kernel_rfl) (by kernel_rfl) (by kernel_rfl) (by kernel_rfl) (fun _ _ _ h => h) ?_ (by assumption) ?_
          rotate_left
          · (intro o ho w hSw; (simp only [List.getElem?_toArray, List.getElem?_cons_succ, List.getElem?_cons_zero, Option.some.injEq] at ho); subst ho; (try dsimp only at hSw); go_simp; (first | done | with_reducible rfl))
          (try simp only [Act.put, List.setIfInBounds_toArray, List.set_cons_zero, List.set_cons_succ])
          refine hand_take 4 (some 69) ?_ (by kernel_rfl) (by kernel_rfl) (by kernel_rfl) (by kernel_rfl) (by kernel_rfl) (fun _ _ _ h => h) ?_ (by assumption) ?_
          rotate_left
          · (intro o ho w hSw; (simp only [List.getElem?_toArray, List.getElem?_cons_succ, List.getElem?_cons_zero, Option.some.injEq] at ho); subst ho; (try dsimp only at hSw); go_simp; (first | done | with_reducible rfl))
          (try simp only [Act.put, List.setIfInBounds_toArray, List.set_cons_zero, List.set_cons_succ])
          refine hand_take 5 (some 70) ?_ (by kernel_rfl) (by kernel_rfl) (by kernel_rfl) (by kernel_rfl) (by kernel_rfl) (fun _ _ _ h => h) ?_ (by assumption) ?_
          rotate_left
          · (intro o ho w hSw; (simp only [List.getElem?_toArray, List.getElem?_cons_succ, List.getElem?_cons_zero, Option.some.injEq] at ho); subst ho; (try dsimp only at hSw); go_simp; (first | done | with_reducible rfl))
          (try simp only [Act.put, List.setIfInBounds_toArray, List.set_cons_zero, List.set_cons_succ])
          refine hand_take 6 (some 71) ?_ (by kernel_rfl) (by kernel_rfl) (by kernel_rfl) (by kernel_rfl) (by kernel_rfl) (fun _ _ _ h => h) ?_ (by assumption) ?_
          rotate_left
          · (intro o ho w hSw; (simp only [List.getElem?_toArray, List.getElem?_cons_succ, List.getElem?_cons_zero, Option.some.injEq] at ho); subst ho; (try dsimp only at hSw); go_simp; (first | done | with_reducible rfl))
          (try simp only [Act.put, List.setIfInBounds_toArray, List.set_cons_zero, List.set_cons_succ])
          refine hand_take 7 (some 72) ?_ (by kernel_rfl) (by kernel_rfl) (by kernel_rfl) (by kernel_rfl) (by kernel_rfl) (fun _ _ _ h => h) ?_ (by assumption) ?_
          rotate_left
          · (intro o ho w hSw; (simp only [List.getElem?_toArray, List.getElem?_cons_succ, List.getElem?_cons_zero, Option.some.injEq] at ho); subst ho; (try dsimp only at hSw); go_simp; (first | done | with_reducible rfl))
          (try simp only [Act.put, List.setIfInBounds_toArray, List.set_cons_zero, List.set_cons_succ])
          refine hand_take 8 (some 73) ?_ (by kernel_rfl) (by kernel_rfl) (by kernel_rfl) (by kernel_rfl) (by kernel_rfl) (fun _ _ _ h => h) ?_ (by assumption) ?_
          rotate_left
          · (intro o ho w hSw; (simp only [List.getElem?_toArray, List.getElem?_cons_succ, List.getElem?_cons_zero, Option.some.injEq] at ho); subst ho; (try dsimp only at hSw); go_simp; (first | done | with_reducible rfl))
          (try simp only [Act.put, List.setIfInBounds_toArray, List.set_cons_zero, List.set_cons_succ])
          refine hand_take 9 (some 74) ?_ (by kernel_rfl) (by kernel_rfl) (by kernel_rfl) (by kernel_rfl) (by kernel_rfl) (fun _ _ _ h => h) ?_ (by assumption) ?_
          rotate_left
          · (intro o ho w hSw; (simp only [List.getElem?_toArray, List.getElem?_cons_succ, List.getElem?_cons_zero, Option.some.injEq] at ho); subst ho; (try dsimp only at hSw); go_simp; (first | done | with_reducible rfl))
          (try simp only [Act.put, List.setIfInBounds_toArray, List.set_cons_zero, List.set_cons_succ])
          refine hand_take 10 (some 75) ?_ (by kernel_rfl) (by kernel_rfl) (by kernel_rfl) (by kernel_rfl) (by kernel_rfl) (fun _ _ _ h => h) ?_ (by assumption) ?_
          rotate_left
          · (intro o ho w hSw; (simp only [List.getElem?_toArray, List.getElem?_cons_succ, List.getElem?_cons_zero, Option.some.injEq] at ho); subst ho; (try dsimp only at hSw); go_simp; (first | done | with_reducible rfl))
          (try simp only [Act.put, List.setIfInBounds_toArray, List.set_cons_zero, List.set_cons_succ])
          refine hand_take 11 (some 76) ?_ (by kernel_rfl) (by kernel_rfl) (by kernel_rfl) (by kernel_rfl) (by kernel_rfl) (fun _ _ _ h => h) ?_ (by assumption) ?_
          rotate_left
          · (intro o ho w hSw; (simp only [List.getElem?_toArray, List.getElem?_cons_succ, List.getElem?_cons_zero, Option.some.injEq] at ho); subst ho; (try dsimp only at hSw); go_simp; (first | done | with_reducible rfl))
          (try simp only [Act.put, List.setIfInBounds_toArray, List.set_cons_zero, List.set_cons_succ])
          refine hand_take 12 (some 77) ?_ (by kernel_rfl) (by kernel_rfl) (by kernel_rfl) (by kernel_rfl) (by kernel_rfl) (fun _ _ _ h => h) ?_ (by assumption) ?_
          rotate_left
          · (intro o ho w hSw; (simp only [List.getElem?_toArray, List.getElem?_cons_succ, List.getElem?_cons_zero, Option.some.injEq] at ho); subst ho; (try dsimp only at hSw); go_simp; (first | done | with_reducible rfl))
          (try simp only [Act.put, List.setIfInBounds_toArray, List.set_cons_zero, List.set_cons_succ])
          refine hand_ready 13 (by kernel_rfl) (by kernel_rfl) (fun o ho K hK => ?_)
          (simp only [List.getElem?_toArray, List.getElem?_cons_succ, List.getElem?_cons_zero, Option.some.injEq] at ho)
          subst ho
          go_simp
          (generalize (w5.setCell ⟨g, m * 5 + 3, none⟩ (.int .i64 c)).drew = X1 at HX1 ⊢)
          refine hK.out _ _ ?_ (fun hHeld => ?_)
          · ((try dsimp only); (first | with_reducible exact HS0.out | with_reducible exact HX1.out.2.2))
          clear hK K
          (try simp only [Act.put, List.setIfInBounds_toArray, List.set_cons_zero, List.set_cons_succ])
          refine wpAnyH_done (by kernel_rfl) ?_ _
          clear hHeld hc3 hc3' hf3 hf3' HS0
          obtain ⟨g4, k4, hb4, hgb4, hgT4, hst4⟩ := HX1.out.1.set_last (by omega)
          simp only [Nat.add_sub_cancel] at hst4
          obtain ⟨⟨o4, hc4⟩, hf4, hr4⟩ := hst4 4 (.inr rfl)
          have HS4 := kept (show (fun W' : World => W'.cell? ⟨b, 0, none⟩ = some (.slice (some ⟨g4, 0, none⟩) (m + 1) k4)) X1.drew from hb4)
          have hc4' : X1.drew.cell? ⟨g4, m * 5 + 4, none⟩ = some (.int .i64 o4) := hc4
          have hf4' : X1.drew.frozen? ⟨g4, m * 5 + 4, none⟩ = false := hf4
          have HX2 : Hid (RF (X1.setCell ⟨g4, m * 5 + 4, none⟩ (.int .i64 v)).drew b (m + 1) ∧ TurnR b X1 (X1.setCell ⟨g4, m * 5 + 4, none⟩ (.int .i64 v)).drew ∧ (X1.setCell ⟨g4, m * 5 + 4, none⟩ (.int .i64 v)).drew.cell? ⟨b, 0, none⟩ = some (.slice (some ⟨g4, 0, none⟩) (m + 1) k4)) := kept ⟨(hr4 v).below (Below.refl _ _).drew, ((Turned.refl X1 (OfT b X1)).setCell (p := ⟨g4, m * 5 + 4, none⟩) (fun _ => hgT4) _).drew, (gcell_far (b := g4) _ rfl (by show b ≠ g4; exact fun e => hgb4 e.symm)).trans hb4⟩
          clear hb4 hst4 hr4 hgT4
          go_wp2
          refine wp_region_held_drew (S := (fun W' => W'.cell? ⟨b, 0, none⟩ = some (.slice (some ⟨g4, 0, none⟩) (m + 1) k4))) (by kernel_rfl) ?_ (fun hHeld => ?_)
          · ((try dsimp only); (first | with_reducible exact HS4.out | with_reducible exact HX2.out.2.2))
          refine hand_take 0 (some 78) ?_ (by kernel_rfl) (by kernel_rfl) (by kernel_rfl) (by kernel_rfl) (by kernel_rfl) (fun _ _ _ h => h) ?_ (by assumption) ?_
          rotate_left
          · (intro o ho w hSw; (simp only [List.getElem?_toArray, List.getElem?_cons_succ, List.getElem?_cons_zero, Option.some.injEq] at ho); subst ho; (try dsimp only at hSw); go_simp; (first | done | with_reducible rfl))
          (try simp only [Act.put, List.setIfInBounds_toArray, List.set_cons_zero, List.set_cons_succ])
          refine hand_take 1 (some 79) ?_ (by kernel_rfl) (by kernel_rfl) (by kernel_rfl) (by kernel_rfl) (by kernel_rfl) (fun _ _ _ h => h) ?_ (by assumption) ?_
          rotate_left
          · (intro o ho w hSw; (simp only [List.getElem?_toArray, List.getElem?_cons_succ, List.getElem?_cons_zero, Option.some.injEq] at ho); subst ho; (try dsimp only at hSw); go_simp; (first | done | with_reducible rfl))
          (try simp only [Act.put, List.setIfInBounds_toArray, List.set_cons_zero, List.set_cons_succ])
          refine hand_take 2 (some 80) ?_ (by kernel_rfl) (by kernel_rfl) (by kernel_rfl) (by kernel_rfl) (by kernel_rfl) (fun _ _ _ h => h) ?_ (by assumption) ?_
          rotate_left
          · (intro o ho w hSw; (simp only [List.getElem?_toArray, List.getElem?_cons_succ, List.getElem?_cons_zero, Option.some.injEq] at ho); subst ho; (try dsimp only at hSw); go_simp; (first | done | with_reducible rfl))
          (try simp only [Act.put, List.setIfInBounds_toArray, List.set_cons_zero, List.set_cons_succ])
          refine hand_take 3 (some 81) ?_ (by kernel_rfl) (by kernel_rfl) (by kernel_rfl) (by kernel_rfl) (by kernel_rfl) (fun _ _ _ h => h) ?_ (by assumption) ?_
          rotate_left
          · (intro o ho w hSw; (simp only [List.getElem?_toArray, List.getElem?_cons_succ, List.getElem?_cons_zero, Option.some.injEq] at ho); subst ho; (try dsimp only at hSw); go_simp; (first | done | with_reducible rfl))
          (try simp only [Act.put, List.setIfInBounds_toArray, List.set_cons_zero, List.set_cons_succ])
          refine hand_take 4 (some 82) ?_ (by kernel_rfl) (by kernel_rfl) (by kernel_rfl) (by kernel_rfl) (by kernel_rfl) (fun _ _ _ h => h) ?_ (by assumption) ?_
          rotate_left
          · (intro o ho w hSw; (simp only [List.getElem?_toArray, List.getElem?_cons_succ, List.getElem?_cons_zero, Option.some.injEq] at ho); subst ho; (try dsimp only at hSw); go_simp; (first | done | with_reducible rfl))
          (try simp only [Act.put, List.setIfInBounds_toArray, List.set_cons_zero, List.set_cons_succ])
          refine hand_take 5 (some 83) ?_ (by kernel_rfl) (by kernel_rfl) (by kernel_rfl) (by kernel_rfl) (by kernel_rfl) (fun _ _ _ h => h) ?_ (by assumption) ?_
          rotate_left
          · (intro o ho w hSw; (simp only [List.getElem?_toArray, List.getElem?_cons_succ, List.getElem?_cons_zero, Option.some.injEq] at ho); subst ho; (try dsimp only at hSw); go_simp; (first | done | with_reducible rfl))
          (try simp only [Act.put, List.setIfInBounds_toArray, List.set_cons_zero, List.set_cons_succ])
          refine hand_take 6 (some 84) ?_ (by kernel_rfl) (by kernel_rfl) (by kernel_rfl) (by kernel_rfl) (by kernel_rfl) (fun _ _ _ h => h) ?_ (by assumption) ?_
          rotate_left
          · (intro o ho w hSw; (simp only [List.getElem?_toArray, List.getElem?_cons_succ, List.getElem?_cons_zero, Option.some.injEq] at ho); subst ho; (try dsimp only at hSw); go_simp; (first | done | with_reducible rfl))
          (try simp only [Act.put, List.setIfInBounds_toArray, List.set_cons_zero, List.set_cons_succ])
          refine hand_take 7 (some 85) ?_ (by kernel_rfl) (by kernel_rfl) (by kernel_rfl) (by kernel_rfl) (by kernel_rfl) (fun _ _ _ h => h) ?_ (by assumption) ?_
          rotate_left
          · (intro o ho w hSw; (simp only [List.getElem?_toArray, List.getElem?_cons_succ, List.getElem?_cons_zero, Option.some.injEq] at ho); subst ho; (try dsimp only at hSw); go_simp; (first | done | with_reducible rfl))
          (try simp only [Act.put, List.setIfInBounds_toArray, List.set_cons_zero, List.set_cons_succ])
          refine hand_take 8 (some 86) ?_ (by kernel_rfl) (by kernel_rfl) (by kernel_rfl) (by kernel_rfl) (by kernel_rfl) (fun _ _ _ h => h) ?_ (by assumption) ?_
          rotate_left
          · (intro o ho w hSw; (simp only [List.getElem?_toArray, List.getElem?_cons_succ, List.getElem?_cons_zero, Option.some.injEq] at ho); subst ho; (try dsimp only at hSw); go_simp; (first | done | with_reducible rfl))
          (try simp only [Act.put, List.setIfInBounds_toArray, List.set_cons_zero, List.set_cons_succ])
          refine hand_take 9 (some 87) ?_ (by kernel_rfl) (by kernel_rfl) (by kernel_rfl) (by kernel_rfl) (by kernel_rfl) (fun _ _ _ h => h) ?_ (by assumption) ?_
          rotate_left
          · (intro o ho w hSw; (simp only [List.getElem?_toArray, List.getElem?_cons_succ, List.getElem?_cons_zero, Option.some.injEq] at ho); subst ho; (try dsimp only at hSw); go_simp; (first | done | with_reducible rfl))
          (try simp only [Act.put, List.setIfInBounds_toArray, List.set_cons_zero, List.set_cons_succ])
          refine hand_take 10 (some 88) ?_ (by kernel_rfl) (by kernel_rfl) (by kernel_rfl) (by kernel_rfl) (by kernel_rfl) (fun _ _ _ h => h) ?_ (by assumption) ?_
          rotate_left
          · (intro o ho w hSw; (simp only [List.getElem?_toArray, List.getElem?_cons_succ, List.getElem?_cons_zero, Option.some.injEq] at ho); subst ho; (try dsimp only at hSw); go_simp; (first | done | with_reducible rfl))
          (try simp only [Act.put, List.setIfInBounds_toArray, List.set_cons_zero, List.set_cons_succ])
          refine hand_take 11 (some 89) ?_ (by kernel_rfl) (by kernel_rfl) (by kernel_rfl) (by kernel_rfl) (by kernel_rfl) (fun _ _ _ h => h) ?_ (by assumption) ?_
          rotate_left
          · (intro o ho w hSw; (simp only [List.getElem?_toArray, List.getElem?_cons_succ, List.getElem?_cons_zero, Option.some.injEq] at ho); subst ho; (try dsimp only at hSw); go_simp; (first | done | with_reducible rfl))
          (try simp only [Act.put, List.setIfInBounds_toArray, List.set_cons_zero, List.set_cons_succ])
          refine hand_take 12 (some 90) ?_ (by kernel_rfl) (by kernel_rfl) (by kernel_rfl) (by kernel_rfl) (by kernel_rfl) (fun _ _ _ h => h) ?_ (by assumption) ?_
          rotate_left
          · (intro o ho w hSw; (simp only [List.getElem?_toArray, List.getElem?_cons_succ, List.getElem?_cons_zero, Option.some.injEq] at ho); subst ho; (try dsimp only at hSw); go_simp; (first | done | with_reducible rfl))
          (try simp only [Act.put, List.setIfInBounds_toArray, List.set_cons_zero, List.set_cons_succ])
          refine hand_ready 13 (by kernel_rfl) (by kernel_rfl) (fun o ho K hK => ?_)
          (simp only [List.getElem?_toArray, List.getElem?_cons_succ, List.getElem?_cons_zero, Option.some.injEq] at ho)
          subst ho
          go_simp
          (generalize (X1.setCell ⟨g4, m * 5 + 4, none⟩ (.int .i64 v)).drew = X2 at HX2 ⊢)
          refine hK.out _ _ ?_ (fun hHeld => ?_)
          · ((try dsimp only); (first | with_reducible exact HS4.out | with_reducible exact HX2.out.2.2))
          clear hK K
          (try simp only [Act.put, List.setIfInBounds_toArray, List.set_cons_zero, List.set_cons_succ])
          refine wpAnyH_done (by kernel_rfl) ?_ _
          clear hHeld hc4 hc4' hf4 hf4' HS4
          go_wp2
          go_returns
          exact ⟨0, m + 1, rfl, HX2.out.1, by omega, (HR5.out.2.2.trans HX1.out.2.1).trans HX2.out.2.1⟩
        all_goals
          clear hpos
          go_wp2
          go_returns
          exact ⟨_, n', rfl, HR5.out.1, HR5.out.2.1, HR5.out.2.2⟩
    · have hne' : (x.c != c) = true := by simpa using hne
      go_wp2
      go_returns
      exact ⟨4, n, rfl, HH.out.below (HX _).out, by omega, TurnR.of_below (HX _).out⟩
    · have hne' : (v != wrap64 (x.v + 1)) = true := by simpa using hne
      go_wp2
      go_returns
      exact ⟨4, n, rfl, HH.out.below (HX _).out, by omega, TurnR.of_below (HX _).out⟩
end Go.Proofs.Ythpaliagmnclfaa
