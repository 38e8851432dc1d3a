/-
  Texts laid together: Gm Gu.
-/
import Derived.Test.YtlckeebbjnhejaaGreatBGh
section
/-
  package gens, call by call: Restore.
-/
namespace Go.Proofs.YtlckeebbjnhejaaGreat
open Go.ChangeShapes Go.WideShapes Go.ChangeAt Go.RowKit Go.Deep
set_option linter.unusedVariables false
set_option linter.unusedSimpArgs false

/-- What is told of a put, as data: may it be? -/
def okR (q : Rv) (c v : Int) : Bool := rightR q.1 q.2 && decide (1 ≤ c) && decide (c ≤ q.1) && decide (1 ≤ v)
def restC (gs : List Gn) (q : Rv) (c v : Int) : Int := if okR q c v then (if goingG gs && !decide ((c, v) = nextG gs q) then 4 else mcG gs q) else 2
def restG (gs : List Gn) (q : Rv) (c v : Int) : List Gn := if restC gs q c v = 0 then addG gs q c v else gs
theorem neq_found (q1 q2 c v q1' q2' c' v' : Int) (w : World) : (binOp .neq 31 (.agg #[.int .i64 q1, .int .i64 q2, .int .i64 c, .int .i64 v]) (.agg #[.int .i64 q1', .int .i64 q2', .int .i64 c', .int .i64 v'])).run Tryz.prog w = .ok (.bool (!(decide (q1 = q1' ∧ q2 = q2' ∧ c = c' ∧ v = v')))) w := by
  go_simp
  by_cases h1 : q1 = q1' <;> by_cases h2 : q2 = q2' <;> by_cases h3 : c = c' <;> by_cases h4 : v = v' <;> simp [h1, h2, h3, h4]
theorem grest_tomb {w : World} {r : Nat} {F : Nat → Prop} {gs : List Gn} (h : Gs w r F gs) (hi : GInv gs) {N : Nat} (hN : BdG gs N) (hn : N ≤ 900000) (q : Rv) (c v : Int) :
    Calls Tryz.prog 74 #[.pointer (some ⟨r, 0, none⟩), .agg #[.int .i64 q.1, .int .i64 q.2, .int .i64 c, .int .i64 v], .bool true] w fun e w' => e = .returned (.int .i64 (tombC gs q)) ∧ GLeft w r F (tombG gs q) w' := by
  have hB0 := (Below.refl w.heap.size w).alloc (Nat.le_refl _) (.cells #[.int .i64 q.1, .int .i64 q.2, .int .i64 c, .int .i64 v] 31)
  have HT := kept (gtomb_any (h.below hB0) hi hN hn q)
  have HB := kept hB0
  generalize tombC gs q = e0 at HT ⊢
  generalize tombG gs q = P at HT ⊢
  clear hB0 h hi hN
  go_enter Tryz.func74, Tryz.ntmps74
  go_wp2_with (first | (go_at_call 50; (with_reducible refine (HT.out).mono ?_); rintro e w1 ⟨rfl, hb⟩; have HX := kept (GLeft.after HB.out hb); clear hb))
  go_ret
  exact ⟨rfl, HX.out⟩
set_option maxHeartbeats 2000000 in
theorem grest_bad {w : World} {r : Nat} (q : Rv) (c v : Int) (hk : okR q c v = false) :
    Calls Tryz.prog 74 #[.pointer (some ⟨r, 0, none⟩), .agg #[.int .i64 q.1, .int .i64 q.2, .int .i64 c, .int .i64 v], .bool false] w fun e w' => e = .returned (.int .i64 2) ∧ Below w.heap.size w w' := by
  have hB0 := (Below.refl w.heap.size w).alloc (Nat.le_refl _) (.cells #[.int .i64 q.1, .int .i64 q.2, .int .i64 c, .int .i64 v] 31)
  have HK := kept (Blk.new w 31 #[.int .i64 q.1, .int .i64 q.2, .int .i64 c, .int .i64 v])
  have HR := fun W => kept (right_r q.1 q.2 W)
  have HB := kept hB0
  unfold okR at hk
  generalize rightR q.1 q.2 = b at HR hk
  clear hB0
  cases b
  · go_enter Tryz.func74, Tryz.ntmps74
    go_wp2_with (first | (go_at_call 104; (with_reducible refine ((HR _).out).mono ?_); rintro e w1 ⟨rfl, hb⟩; have HX := kept (bel_to hb HB.out); clear hb))
    go_ret
    exact ⟨rfl, HX.out⟩
  · have hcase : (c < 1) ∨ (¬ c < 1 ∧ q.1 < c) ∨ (¬ c < 1 ∧ ¬ q.1 < c ∧ v < 1) := by
      by_cases h1 : c < 1
      · exact .inl h1
      · by_cases h2 : q.1 < c
        · exact .inr (.inl ⟨h1, h2⟩)
        · by_cases h3 : v < 1
          · exact .inr (.inr ⟨h1, h2, h3⟩)
          · rw [show decide (1 ≤ c) = true by simp; omega, show decide (c ≤ q.1) = true by simp; omega, show decide (1 ≤ v) = true by simp; omega] at hk
            cases hk
    clear hk
    rcases hcase with h1 | ⟨h1, h2⟩ | ⟨h1, h2, h3⟩
    all_goals
      go_enter Tryz.func74, Tryz.ntmps74
      go_wp2_with (first | (go_at_call 104; (with_reducible refine ((HR _).out).mono ?_); rintro e w1 ⟨rfl, hb⟩; have HX := kept (bel_to hb HB.out); have hk := HK.out.below hb HK.out.lt; have z0 := hk.cell 0; have z1 := hk.cell 1; have z2 := hk.cell 2; have z3 := hk.cell 3; simp only [List.getElem?_cons_zero, List.getElem?_cons_succ] at z0 z1 z2 z3; clear hb hk))
      go_ret
      exact ⟨rfl, HX.out⟩
theorem going_g {w : World} {r : Nat} {F : Nat → Prop} {gs : List Gn} (h : Gs w r F gs) {N : Nat} (hN : BdG gs N) (hn : N ≤ 900000) :
    Calls Tryz.prog 85 #[.pointer (some ⟨r, 0, none⟩)] w fun e w' => (if goingG gs then ∃ g o, e = .returned (.pointer (some ⟨g, o, none⟩)) else e = .returned (.pointer none)) ∧ Below w.heap.size w w' := by
  obtain ⟨A, n, k, Ls, h, hF⟩ := h
  have hn1 : n ≤ 1000000 := by have := hN.1; rw [h.gn] at this; omega
  cases hg : goingG gs
  · exact (going_any h hn1 hg).mono fun e w' ⟨h1, h2⟩ => ⟨h1, h2⟩
  · rcases h.snoc with ⟨rfl, rfl, rfl⟩ | ⟨g, m, Li, L, gi, x, rfl, rfl, rfl, rfl, hl⟩
    · simp [goingG] at hg
    · have hx : x.ended = false := by simpa [goingG] using hg
      have := going_some hl hn1
      rw [hx] at this
      exact this.mono fun e w' ⟨h1, h2⟩ => ⟨⟨g, m * 5, h1⟩, h2⟩
set_option maxHeartbeats 4000000 in
theorem grest_ok {w : World} {r : Nat} {F : Nat → Prop} {gs : List Gn} (h : Gs w r F gs) (hi : GInv gs) {N : Nat} (hN : BdG gs N) (hn : N ≤ 900000) (q : Rv) (c v : Int) (hk : okR q c v = true) :
    Calls Tryz.prog 74 #[.pointer (some ⟨r, 0, none⟩), .agg #[.int .i64 q.1, .int .i64 q.2, .int .i64 c, .int .i64 v], .bool false] w fun e w' => e = .returned (.int .i64 (if goingG gs && !decide ((c, v) = nextG gs q) then 4 else mcG gs q)) ∧ GLeft w r F (if (goingG gs && !decide ((c, v) = nextG gs q)) = false ∧ mcG gs q = 0 then addG gs q c v else gs) w' := by
  have hB0 := (Below.refl w.heap.size w).alloc (Nat.le_refl _) (.cells #[.int .i64 q.1, .int .i64 q.2, .int .i64 c, .int .i64 v] 31)
  have HK := kept (Blk.new w 31 #[.int .i64 q.1, .int .i64 q.2, .int .i64 c, .int .i64 v])
  unfold okR at hk
  simp only [Bool.and_eq_true, decide_eq_true_eq] at hk
  obtain ⟨⟨⟨hr, h1⟩, h2⟩, h3⟩ := hk
  have hd1 : decide (c < 1) = false := by simp; omega
  have hd2 : decide (q.1 < c) = false := by simp; omega
  have hd3 : decide (v < 1) = false := by simp; omega
  have hp1 : ¬ c < 1 := by omega
  have hp2 : ¬ q.1 < c := by omega
  have hp3 : ¬ v < 1 := by omega
  have HR := fun W => kept (right_r q.1 q.2 W)
  rw [hr] at HR
  have HB := kept hB0
  have H0 := kept (h.below hB0)
  have HGO := fun W (h : Gs W r F gs) => kept (going_g h hN hn)
  have HNX := fun W (h : Gs W r F gs) => kept (next_g h hN hn q)
  have HMC := fun W (h : Gs W r F gs) => kept (mayCome_g h hi hN hn q)
  have HAD := fun W (h : Gs W r F gs) => kept (add_any h hN hn q c v)
  have hnq := fun W => neq_found q.1 q.2 c v q.1 q.2 (nextG gs q).1 (nextG gs q).2 W
  have heq : decide (q.1 = q.1 ∧ q.2 = q.2 ∧ c = (nextG gs q).1 ∧ v = (nextG gs q).2) = decide ((c, v) = nextG gs q) := by
    rw [decide_eq_decide]
    exact ⟨fun ⟨_, _, a, b⟩ => by rw [a, b], fun e => by rw [← e]; simp⟩
  rw [heq] at hnq
  have hmc := mcG_cases gs q
  generalize addG gs q c v = P at HAD ⊢
  generalize mcG gs q = mc at HMC hmc ⊢
  generalize decide ((c, v) = nextG gs q) = same at hnq ⊢
  generalize nextG gs q = nx at hnq HNX
  generalize goingG gs = go at HGO ⊢
  have HW := kept h
  clear hB0 h hi hN heq hr h1 h2 h3
  cases go
  · simp only [Bool.false_and, Bool.false_eq_true, if_false, true_and] at HGO ⊢
    go_enter Tryz.func74, Tryz.ntmps74
    go_wp2_with fail
    generalize w.alloc (.cells #[.int .i64 q.1, .int .i64 q.2, .int .i64 c, .int .i64 v] 31) = W0 at HK HB H0 ⊢
    with_reducible refine (HR _).out.mono ?_
    rintro e w1 ⟨rfl, hb⟩
    have hk := HK.out.below hb HK.out.lt
    have z0 : w1.cell? ⟨w.heap.size, 0, none⟩ = some (.int .i64 q.1) := hk.cell 0
    have z1 : w1.cell? ⟨w.heap.size, 1, none⟩ = some (.int .i64 q.2) := hk.cell 1
    have z2 : w1.cell? ⟨w.heap.size, 2, none⟩ = some (.int .i64 c) := hk.cell 2
    have z3 : w1.cell? ⟨w.heap.size, 3, none⟩ = some (.int .i64 v) := hk.cell 3
    have HS0 := kept (show (fun W' : World => W'.cell? ⟨w.heap.size, 0, none⟩ = some (.int .i64 q.1) ∧ W'.cell? ⟨w.heap.size, 1, none⟩ = some (.int .i64 q.2) ∧ W'.cell? ⟨w.heap.size, 2, none⟩ = some (.int .i64 c) ∧ W'.cell? ⟨w.heap.size, 3, none⟩ = some (.int .i64 v)) w1.drew from ⟨z0, z1, z2, z3⟩)
    have H1 := kept ((H0.out.below hb).below (Below.refl w1.heap.size w1).drew)
    have HB1 := kept (bel_to hb HB.out).drew
    have HGO1 := HGO _ H1.out
    clear hb hk
    go_wp2
    clear z0 z1 z2 z3
    refine wp_region_held_drew (S := (fun W' => W'.cell? ⟨w.heap.size, 0, none⟩ = some (.int .i64 q.1) ∧ W'.cell? ⟨w.heap.size, 1, none⟩ = some (.int .i64 q.2) ∧ W'.cell? ⟨w.heap.size, 2, none⟩ = some (.int .i64 c) ∧ W'.cell? ⟨w.heap.size, 3, none⟩ = some (.int .i64 v))) (by kernel_rfl) ?_ (fun hHeld => ?_)
    · ((try dsimp only); (first | with_reducible exact HS0.out | with_reducible exact HS1.out))
    refine hand_take 0 (some 41) ?_ (by kernel_rfl) (by kernel_rfl) (by kernel_rfl) (by kernel_rfl) (by kernel_rfl) (fun _ _ _ h => h) ?_ (by assumption) ?_
    rotate_left
    · (intro o ho w hSw; (simp only [List.getElem?_toArray, List.getElem?_cons_succ, List.getElem?_cons_zero, Option.some.injEq] at ho); subst ho; (try dsimp only at hSw); go_simp; (first | done | with_reducible rfl))
    (try simp only [Act.put, List.setIfInBounds_toArray, List.set_cons_zero, List.set_cons_succ])
    refine hand_ready 1 (by kernel_rfl) (by kernel_rfl) (fun o ho K hK => ?_)
    (simp only [List.getElem?_toArray, List.getElem?_cons_succ, List.getElem?_cons_zero, Option.some.injEq] at ho)
    subst ho
    go_simp
    (go_at_call 85; (with_reducible refine HGO1.out.mono ?_); rintro e w2 ⟨rfl, hb⟩; (have hkp := Keeps.of_below hb); (have HS1 := kept (show (fun W' : World => W'.cell? ⟨w.heap.size, 0, none⟩ = some (.int .i64 q.1) ∧ W'.cell? ⟨w.heap.size, 1, none⟩ = some (.int .i64 q.2) ∧ W'.cell? ⟨w.heap.size, 2, none⟩ = some (.int .i64 c) ∧ W'.cell? ⟨w.heap.size, 3, none⟩ = some (.int .i64 v)) w2 from ⟨hkp.cell_ HS0.out.1, hkp.cell_ HS0.out.2.1, hkp.cell_ HS0.out.2.2.1, hkp.cell_ HS0.out.2.2.2⟩)); have H2 := kept (H1.out.below hb); have HB2 := kept (bel_to hb HB1.out); have HNX2 := HNX _ H2.out; clear hb hkp)
    (try go_wp2_with fail)
    refine hK.out _ _ ?_ (fun hHeld => ?_)
    · ((try dsimp only); (first | with_reducible exact HS0.out | with_reducible exact HS1.out))
    clear hK K
    (try simp only [Act.put, List.setIfInBounds_toArray, List.set_cons_zero, List.set_cons_succ])
    refine hand_take 2 (some 43) ?_ (by kernel_rfl) (by kernel_rfl) (by kernel_rfl) (by kernel_rfl) (by kernel_rfl) (fun _ _ _ h => h) ?_ (by assumption) ?_
    rotate_left
    · (intro o ho w hSw; (simp only [List.getElem?_toArray, List.getElem?_cons_succ, List.getElem?_cons_zero, Option.some.injEq] at ho); subst ho; (try dsimp only at hSw); go_simp; (first | done | with_reducible rfl))
    (try simp only [Act.put, List.setIfInBounds_toArray, List.set_cons_zero, List.set_cons_succ])
    refine hand_take 3 (some 44) ?_ (by kernel_rfl) (by kernel_rfl) (by kernel_rfl) (by kernel_rfl) (by kernel_rfl) (fun _ _ _ h => h) ?_ (by assumption) ?_
    rotate_left
    · (intro o ho w hSw; (simp only [List.getElem?_toArray, List.getElem?_cons_succ, List.getElem?_cons_zero, Option.some.injEq] at ho); subst ho; (try dsimp only at hSw); go_simp; (first | done | with_reducible rfl))
    (try simp only [Act.put, List.setIfInBounds_toArray, List.set_cons_zero, List.set_cons_succ])
    refine hand_skip 4 (some 45) (by kernel_rfl) (by kernel_rfl) (by kernel_rfl) (by kernel_rfl) (by kernel_rfl) (fun _ _ _ h => h) (by assumption) ?_
    (try simp only [Act.put, List.setIfInBounds_toArray, List.set_cons_zero, List.set_cons_succ])
    refine hand_skip 5 (some 46) (by kernel_rfl) (by kernel_rfl) (by kernel_rfl) (by kernel_rfl) (by kernel_rfl) (fun _ _ _ h => h) (by assumption) ?_
    (try simp only [Act.put, List.setIfInBounds_toArray, List.set_cons_zero, List.set_cons_succ])
    refine hand_skip 6 (some 47) (by kernel_rfl) (by kernel_rfl) (by kernel_rfl) (by kernel_rfl) (by kernel_rfl) (fun _ _ _ h => h) (by assumption) ?_
    (try simp only [Act.put, List.setIfInBounds_toArray, List.set_cons_zero, List.set_cons_succ])
    refine hand_skip 7 (some 48) (by kernel_rfl) (by kernel_rfl) (by kernel_rfl) (by kernel_rfl) (by kernel_rfl) (fun _ _ _ h => h) (by assumption) ?_
    (try simp only [Act.put, List.setIfInBounds_toArray, List.set_cons_zero, List.set_cons_succ])
    refine hand_skip 8 (some 49) (by kernel_rfl) (by kernel_rfl) (by kernel_rfl) (by kernel_rfl) (by kernel_rfl) (fun _ _ _ h => h) (by assumption) ?_
    (try simp only [Act.put, List.setIfInBounds_toArray, List.set_cons_zero, List.set_cons_succ])
    refine hand_skip 9 (some 50) (by kernel_rfl) (by kernel_rfl) (by kernel_rfl) (by kernel_rfl) (by kernel_rfl) (fun _ _ _ h => h) (by assumption) ?_
    (try simp only [Act.put, List.setIfInBounds_toArray, List.set_cons_zero, List.set_cons_succ])
    refine hand_take 10 (some 51) ?_ (by kernel_rfl) (by kernel_rfl) (by kernel_rfl) (by kernel_rfl) (by kernel_rfl) (fun _ _ _ h => h) ?_ (by assumption) ?_
    rotate_left
    · (intro o ho w hSw; (simp only [List.getElem?_toArray, List.getElem?_cons_succ, List.getElem?_cons_zero, Option.some.injEq] at ho); subst ho; (try dsimp only at hSw); go_simp; (first | done | with_reducible rfl))
    (try simp only [Act.put, List.setIfInBounds_toArray, List.set_cons_zero, List.set_cons_succ])
    refine hand_take 11 (some 40) ?_ (by kernel_rfl) (by kernel_rfl) (by kernel_rfl) (by kernel_rfl) (by kernel_rfl) (fun _ _ _ h => h) ?_ (by assumption) ?_
    rotate_left
    · (intro o ho w hSw; (simp only [List.getElem?_toArray, List.getElem?_cons_succ, List.getElem?_cons_zero, Option.some.injEq] at ho); subst ho; (try dsimp only at hSw); go_simp; (first | done | with_reducible rfl))
    (try simp only [Act.put, List.setIfInBounds_toArray, List.set_cons_zero, List.set_cons_succ])
    refine wpAnyH_done (by kernel_rfl) ?_ _
    clear hHeld
    have HMC2 := HMC _ H2.out
    obtain ⟨z0, z1, z2, z3⟩ := HS1.out
    rcases hmc with rfl | rfl | rfl
    · go_wp2_with fail
      with_reducible refine HMC2.out.mono ?_
      rintro e w4 ⟨rfl, hb⟩
      have hkp := Keeps.of_below hb
      have y0 := hkp.cell_ z0
      have y1 := hkp.cell_ z1
      have y2 := hkp.cell_ z2
      have y3 := hkp.cell_ z3
      have H4 := kept (H2.out.below hb)
      have HB4 := kept (bel_to hb HB2.out)
      have HAD4 := HAD _ H4.out
      clear hb hkp z0 z1 z2 z3
      go_wp2_with (first | (go_at_call 83; (with_reducible refine (HAD4.out).mono ?_); rintro e w5 ⟨rfl, hb⟩; have HX := kept (GLeft.after HB4.out hb); clear hb))
      go_ret
      exact ⟨rfl, HX.out⟩
    all_goals
      go_wp2_with (first | (go_at_call 82; (with_reducible refine (HMC2.out).mono ?_); rintro e w4 ⟨rfl, hb⟩; have HX := kept (bel_to hb HB2.out); clear hb))
      go_ret
      exact ⟨rfl, GLeft.of_below HW.out HX.out⟩
  · simp only [if_true] at HGO
    cases same
    · show Calls _ _ _ _ fun e w' => e = .returned (.int .i64 4) ∧ GLeft w r F gs w'
      simp only [Bool.not_false] at hnq
      go_enter Tryz.func74, Tryz.ntmps74
      go_wp2_with fail
      generalize w.alloc (.cells #[.int .i64 q.1, .int .i64 q.2, .int .i64 c, .int .i64 v] 31) = W0 at HK HB H0 ⊢
      with_reducible refine (HR _).out.mono ?_
      rintro e w1 ⟨rfl, hb⟩
      have hk := HK.out.below hb HK.out.lt
      have z0 : w1.cell? ⟨w.heap.size, 0, none⟩ = some (.int .i64 q.1) := hk.cell 0
      have z1 : w1.cell? ⟨w.heap.size, 1, none⟩ = some (.int .i64 q.2) := hk.cell 1
      have z2 : w1.cell? ⟨w.heap.size, 2, none⟩ = some (.int .i64 c) := hk.cell 2
      have z3 : w1.cell? ⟨w.heap.size, 3, none⟩ = some (.int .i64 v) := hk.cell 3
      have HS0 := kept (show (fun W' : World => W'.cell? ⟨w.heap.size, 0, none⟩ = some (.int .i64 q.1) ∧ W'.cell? ⟨w.heap.size, 1, none⟩ = some (.int .i64 q.2) ∧ W'.cell? ⟨w.heap.size, 2, none⟩ = some (.int .i64 c) ∧ W'.cell? ⟨w.heap.size, 3, none⟩ = some (.int .i64 v)) w1.drew from ⟨z0, z1, z2, z3⟩)
      have H1 := kept ((H0.out.below hb).below (Below.refl w1.heap.size w1).drew)
      have HB1 := kept (bel_to hb HB.out).drew
      have HGO1 := HGO _ H1.out
      clear hb hk
      go_wp2
      clear z0 z1 z2 z3
      refine wp_region_held_drew (S := (fun W' => W'.cell? ⟨w.heap.size, 0, none⟩ = some (.int .i64 q.1) ∧ W'.cell? ⟨w.heap.size, 1, none⟩ = some (.int .i64 q.2) ∧ W'.cell? ⟨w.heap.size, 2, none⟩ = some (.int .i64 c) ∧ W'.cell? ⟨w.heap.size, 3, none⟩ = some (.int .i64 v))) (by kernel_rfl) ?_ (fun hHeld => ?_)
      · ((try dsimp only); (first | with_reducible exact HS0.out | with_reducible exact HS1.out | (with_reducible exact HS2.out)))
      refine hand_take 0 (some 41) ?_ (by kernel_rfl) (by kernel_rfl) (by kernel_rfl) (by kernel_rfl) (by kernel_rfl) (fun _ _ _ h => h) ?_ (by assumption) ?_
      rotate_left
      · (intro o ho w hSw; (simp only [List.getElem?_toArray, List.getElem?_cons_succ, List.getElem?_cons_zero, Option.some.injEq] at ho); subst ho; (try dsimp only at hSw); go_simp; (first | done | with_reducible rfl))
      (try simp only [Act.put, List.setIfInBounds_toArray, List.set_cons_zero, List.set_cons_succ])
      refine hand_ready 1 (by kernel_rfl) (by kernel_rfl) (fun o ho K hK => ?_)
      (simp only [List.getElem?_toArray, List.getElem?_cons_succ, List.getElem?_cons_zero, Option.some.injEq] at ho)
      subst ho
      go_simp
      (go_at_call 85; (with_reducible refine HGO1.out.mono ?_); rintro e w2 ⟨⟨g2, o2, rfl⟩, hb⟩; (have hkp := Keeps.of_below hb); (have HS1 := kept (show (fun W' : World => W'.cell? ⟨w.heap.size, 0, none⟩ = some (.int .i64 q.1) ∧ W'.cell? ⟨w.heap.size, 1, none⟩ = some (.int .i64 q.2) ∧ W'.cell? ⟨w.heap.size, 2, none⟩ = some (.int .i64 c) ∧ W'.cell? ⟨w.heap.size, 3, none⟩ = some (.int .i64 v)) w2 from ⟨hkp.cell_ HS0.out.1, hkp.cell_ HS0.out.2.1, hkp.cell_ HS0.out.2.2.1, hkp.cell_ HS0.out.2.2.2⟩)); have H2 := kept (H1.out.below hb); have HB2 := kept (bel_to hb HB1.out); have HNX2 := HNX _ H2.out; clear hb hkp)
      (try go_wp2_with fail)
      refine hK.out _ _ ?_ (fun hHeld => ?_)
      · ((try dsimp only); (first | with_reducible exact HS0.out | with_reducible exact HS1.out | (with_reducible exact HS2.out)))
      clear hK K
      (try simp only [Act.put, List.setIfInBounds_toArray, List.set_cons_zero, List.set_cons_succ])
      refine hand_take 2 (some 43) ?_ (by kernel_rfl) (by kernel_rfl) (by kernel_rfl) (by kernel_rfl) (by kernel_rfl) (fun _ _ _ h => h) ?_ (by assumption) ?_
      rotate_left
      · (intro o ho w hSw; (simp only [List.getElem?_toArray, List.getElem?_cons_succ, List.getElem?_cons_zero, Option.some.injEq] at ho); subst ho; (try dsimp only at hSw); go_simp; (first | done | with_reducible rfl))
      (try simp only [Act.put, List.setIfInBounds_toArray, List.set_cons_zero, List.set_cons_succ])
      refine hand_take 3 (some 44) ?_ (by kernel_rfl) (by kernel_rfl) (by kernel_rfl) (by kernel_rfl) (by kernel_rfl) (fun _ _ _ h => h) ?_ (by assumption) ?_
      rotate_left
      · (intro o ho w hSw; (simp only [List.getElem?_toArray, List.getElem?_cons_succ, List.getElem?_cons_zero, Option.some.injEq] at ho); subst ho; (try dsimp only at hSw); go_simp; (first | done | with_reducible rfl))
      (try simp only [Act.put, List.setIfInBounds_toArray, List.set_cons_zero, List.set_cons_succ])
      refine hand_take 4 (some 45) ?_ (by kernel_rfl) (by kernel_rfl) (by kernel_rfl) (by kernel_rfl) (by kernel_rfl) (fun _ _ _ h => h) ?_ (by assumption) ?_
      rotate_left
      · (intro o ho w hSw; (simp only [List.getElem?_toArray, List.getElem?_cons_succ, List.getElem?_cons_zero, Option.some.injEq] at ho); subst ho; (try dsimp only at hSw); go_simp; (first | done | with_reducible rfl))
      (try simp only [Act.put, List.setIfInBounds_toArray, List.set_cons_zero, List.set_cons_succ])
      refine hand_take 5 (some 46) ?_ (by kernel_rfl) (by kernel_rfl) (by kernel_rfl) (by kernel_rfl) (by kernel_rfl) (fun _ _ _ h => h) ?_ (by assumption) ?_
      rotate_left
      · (intro o ho w hSw; (simp only [List.getElem?_toArray, List.getElem?_cons_succ, List.getElem?_cons_zero, Option.some.injEq] at ho); subst ho; (try dsimp only at hSw); go_simp; (first | done | with_reducible rfl))
      (try simp only [Act.put, List.setIfInBounds_toArray, List.set_cons_zero, List.set_cons_succ])
      refine hand_take 6 (some 47) ?_ (by kernel_rfl) (by kernel_rfl) (by kernel_rfl) (by kernel_rfl) (by kernel_rfl) (fun _ _ _ h => h) ?_ (by assumption) ?_
      rotate_left
      · (intro o ho w hSw; (simp only [List.getElem?_toArray, List.getElem?_cons_succ, List.getElem?_cons_zero, Option.some.injEq] at ho); subst ho; (try dsimp only at hSw); go_simp; (first | done | with_reducible rfl))
      (try simp only [Act.put, List.setIfInBounds_toArray, List.set_cons_zero, List.set_cons_succ])
      refine hand_take 7 (some 48) ?_ (by kernel_rfl) (by kernel_rfl) (by kernel_rfl) (by kernel_rfl) (by kernel_rfl) (fun _ _ _ h => h) ?_ (by assumption) ?_
      rotate_left
      · (intro o ho w hSw; (simp only [List.getElem?_toArray, List.getElem?_cons_succ, List.getElem?_cons_zero, Option.some.injEq] at ho); subst ho; (try dsimp only at hSw); go_simp; (first | done | with_reducible rfl))
      (try simp only [Act.put, List.setIfInBounds_toArray, List.set_cons_zero, List.set_cons_succ])
      refine hand_ready 8 (by kernel_rfl) (by kernel_rfl) (fun o ho K hK => ?_)
      (simp only [List.getElem?_toArray, List.getElem?_cons_succ, List.getElem?_cons_zero, Option.some.injEq] at ho)
      subst ho
      go_simp
      (go_at_call 84; (with_reducible refine HNX2.out.mono ?_); rintro e w3 ⟨rfl, hb⟩; (have hkp := Keeps.of_below hb); (have HS2 := kept (show (fun W' : World => W'.cell? ⟨w.heap.size, 0, none⟩ = some (.int .i64 q.1) ∧ W'.cell? ⟨w.heap.size, 1, none⟩ = some (.int .i64 q.2) ∧ W'.cell? ⟨w.heap.size, 2, none⟩ = some (.int .i64 c) ∧ W'.cell? ⟨w.heap.size, 3, none⟩ = some (.int .i64 v)) w3 from ⟨hkp.cell_ HS1.out.1, hkp.cell_ HS1.out.2.1, hkp.cell_ HS1.out.2.2.1, hkp.cell_ HS1.out.2.2.2⟩)); have H3 := kept (H2.out.below hb); have HB3 := kept (bel_to hb HB2.out); clear hb hkp)
      (try go_wp2_with fail)
      refine hK.out _ _ ?_ (fun hHeld => ?_)
      · ((try dsimp only); (first | with_reducible exact HS0.out | with_reducible exact HS1.out | (with_reducible exact HS2.out)))
      clear hK K
      (try simp only [Act.put, List.setIfInBounds_toArray, List.set_cons_zero, List.set_cons_succ])
      refine hand_take 9 (some 50) ?_ (by kernel_rfl) (by kernel_rfl) (by kernel_rfl) (by kernel_rfl) (by kernel_rfl) (fun _ _ _ h => h) ?_ (by assumption) ?_
      rotate_left
      · (intro o ho w hSw; (simp only [List.getElem?_toArray, List.getElem?_cons_succ, List.getElem?_cons_zero, Option.some.injEq] at ho); subst ho; (try dsimp only at hSw); go_simp; (first | done | with_reducible rfl))
      (try simp only [Act.put, List.setIfInBounds_toArray, List.set_cons_zero, List.set_cons_succ])
      refine hand_take 10 (some 51) ?_ (by kernel_rfl) (by kernel_rfl) (by kernel_rfl) (by kernel_rfl) (by kernel_rfl) (fun _ _ _ h => h) ?_ (by assumption) ?_
      rotate_left
      · (intro o ho w hSw; (simp only [List.getElem?_toArray, List.getElem?_cons_succ, List.getElem?_cons_zero, Option.some.injEq] at ho); subst ho; (try dsimp only at hSw); go_simp; (first | done | with_reducible rfl))
      (try simp only [Act.put, List.setIfInBounds_toArray, List.set_cons_zero, List.set_cons_succ])
      refine hand_take 11 (some 40) ?_ (by kernel_rfl) (by kernel_rfl) (by kernel_rfl) (by kernel_rfl) (by kernel_rfl) (fun _ _ _ h => h) ?_ (by assumption) ?_
      rotate_left
      · (intro o ho w hSw; (simp only [List.getElem?_toArray, List.getElem?_cons_succ, List.getElem?_cons_zero, Option.some.injEq] at ho); subst ho; (try dsimp only at hSw); go_simp; (first | done | with_reducible rfl))
      (try simp only [Act.put, List.setIfInBounds_toArray, List.set_cons_zero, List.set_cons_succ])
      refine wpAnyH_done (by kernel_rfl) ?_ _
      clear hHeld
      go_wp2
      go_ret
      exact ⟨rfl, GLeft.of_below HW.out HB3.out⟩
    · simp only [Bool.not_true, Bool.and_false, Bool.false_eq_true, if_false, true_and] at hnq ⊢
      go_enter Tryz.func74, Tryz.ntmps74
      go_wp2_with fail
      generalize w.alloc (.cells #[.int .i64 q.1, .int .i64 q.2, .int .i64 c, .int .i64 v] 31) = W0 at HK HB H0 ⊢
      with_reducible refine (HR _).out.mono ?_
      rintro e w1 ⟨rfl, hb⟩
      have hk := HK.out.below hb HK.out.lt
      have z0 : w1.cell? ⟨w.heap.size, 0, none⟩ = some (.int .i64 q.1) := hk.cell 0
      have z1 : w1.cell? ⟨w.heap.size, 1, none⟩ = some (.int .i64 q.2) := hk.cell 1
      have z2 : w1.cell? ⟨w.heap.size, 2, none⟩ = some (.int .i64 c) := hk.cell 2
      have z3 : w1.cell? ⟨w.heap.size, 3, none⟩ = some (.int .i64 v) := hk.cell 3
      have HS0 := kept (show (fun W' : World => W'.cell? ⟨w.heap.size, 0, none⟩ = some (.int .i64 q.1) ∧ W'.cell? ⟨w.heap.size, 1, none⟩ = some (.int .i64 q.2) ∧ W'.cell? ⟨w.heap.size, 2, none⟩ = some (.int .i64 c) ∧ W'.cell? ⟨w.heap.size, 3, none⟩ = some (.int .i64 v)) w1.drew from ⟨z0, z1, z2, z3⟩)
      have H1 := kept ((H0.out.below hb).below (Below.refl w1.heap.size w1).drew)
      have HB1 := kept (bel_to hb HB.out).drew
      have HGO1 := HGO _ H1.out
      clear hb hk
      go_wp2
      clear z0 z1 z2 z3
      refine wp_region_held_drew (S := (fun W' => W'.cell? ⟨w.heap.size, 0, none⟩ = some (.int .i64 q.1) ∧ W'.cell? ⟨w.heap.size, 1, none⟩ = some (.int .i64 q.2) ∧ W'.cell? ⟨w.heap.size, 2, none⟩ = some (.int .i64 c) ∧ W'.cell? ⟨w.heap.size, 3, none⟩ = some (.int .i64 v))) (by kernel_rfl) ?_ (fun hHeld => ?_)
      · ((try dsimp only); (first | with_reducible exact HS0.out | with_reducible exact HS1.out | (with_reducible exact HS2.out)))
      refine hand_take 0 (some 41) ?_ (by kernel_rfl) (by kernel_rfl) (by kernel_rfl) (by kernel_rfl) (by kernel_rfl) (fun _ _ _ h => h) ?_ (by assumption) ?_
      rotate_left
      · (intro o ho w hSw; (simp only [List.getElem?_toArray, List.getElem?_cons_succ, List.getElem?_cons_zero, Option.some.injEq] at ho); subst ho; (try dsimp only at hSw); go_simp; (first | done | with_reducible rfl))
      (try simp only [Act.put, List.setIfInBounds_toArray, List.set_cons_zero, List.set_cons_succ])
      refine hand_ready 1 (by kernel_rfl) (by kernel_rfl) (fun o ho K hK => ?_)
      (simp only [List.getElem?_toArray, List.getElem?_cons_succ, List.getElem?_cons_zero, Option.some.injEq] at ho)
      subst ho
      go_simp
      (go_at_call 85; (with_reducible refine HGO1.out.mono ?_); rintro e w2 ⟨⟨g2, o2, rfl⟩, hb⟩; (have hkp := Keeps.of_below hb); (have HS1 := kept (show (fun W' : World => W'.cell? ⟨w.heap.size, 0, none⟩ = some (.int .i64 q.1) ∧ W'.cell? ⟨w.heap.size, 1, none⟩ = some (.int .i64 q.2) ∧ W'.cell? ⟨w.heap.size, 2, none⟩ = some (.int .i64 c) ∧ W'.cell? ⟨w.heap.size, 3, none⟩ = some (.int .i64 v)) w2 from ⟨hkp.cell_ HS0.out.1, hkp.cell_ HS0.out.2.1, hkp.cell_ HS0.out.2.2.1, hkp.cell_ HS0.out.2.2.2⟩)); have H2 := kept (H1.out.below hb); have HB2 := kept (bel_to hb HB1.out); have HNX2 := HNX _ H2.out; clear hb hkp)
      (try go_wp2_with fail)
      refine hK.out _ _ ?_ (fun hHeld => ?_)
      · ((try dsimp only); (first | with_reducible exact HS0.out | with_reducible exact HS1.out | (with_reducible exact HS2.out)))
      clear hK K
      (try simp only [Act.put, List.setIfInBounds_toArray, List.set_cons_zero, List.set_cons_succ])
      refine hand_take 2 (some 43) ?_ (by kernel_rfl) (by kernel_rfl) (by kernel_rfl) (by kernel_rfl) (by kernel_rfl) (fun _ _ _ h => h) ?_ (by assumption) ?_
      rotate_left
      · (intro o ho w hSw; (simp only [List.getElem?_toArray, List.getElem?_cons_succ, List.getElem?_cons_zero, Option.some.injEq] at ho); subst ho; (try dsimp only at hSw); go_simp; (first | done | with_reducible rfl))
      (try simp only [Act.put, List.setIfInBounds_toArray, List.set_cons_zero, List.set_cons_succ])
      refine hand_take 3 (some 44) ?_ (by kernel_rfl) (by kernel_rfl) (by kernel_rfl) (by kernel_rfl) (by kernel_rfl) (fun _ _ _ h => h) ?_ (by assumption) ?_
      rotate_left
      · (intro o ho w hSw; (simp only [List.getElem?_toArray, List.getElem?_cons_succ, List.getElem?_cons_zero, Option.some.injEq] at ho); subst ho; (try dsimp only at hSw); go_simp; (first | done | with_reducible rfl))
      (try simp only [Act.put, List.setIfInBounds_toArray, List.set_cons_zero, List.set_cons_succ])
      refine hand_take 4 (some 45) ?_ (by kernel_rfl) (by kernel_rfl) (by kernel_rfl) (by kernel_rfl) (by kernel_rfl) (fun _ _ _ h => h) ?_ (by assumption) ?_
      rotate_left
      · (intro o ho w hSw; (simp only [List.getElem?_toArray, List.getElem?_cons_succ, List.getElem?_cons_zero, Option.some.injEq] at ho); subst ho; (try dsimp only at hSw); go_simp; (first | done | with_reducible rfl))
      (try simp only [Act.put, List.setIfInBounds_toArray, List.set_cons_zero, List.set_cons_succ])
      refine hand_take 5 (some 46) ?_ (by kernel_rfl) (by kernel_rfl) (by kernel_rfl) (by kernel_rfl) (by kernel_rfl) (fun _ _ _ h => h) ?_ (by assumption) ?_
      rotate_left
      · (intro o ho w hSw; (simp only [List.getElem?_toArray, List.getElem?_cons_succ, List.getElem?_cons_zero, Option.some.injEq] at ho); subst ho; (try dsimp only at hSw); go_simp; (first | done | with_reducible rfl))
      (try simp only [Act.put, List.setIfInBounds_toArray, List.set_cons_zero, List.set_cons_succ])
      refine hand_take 6 (some 47) ?_ (by kernel_rfl) (by kernel_rfl) (by kernel_rfl) (by kernel_rfl) (by kernel_rfl) (fun _ _ _ h => h) ?_ (by assumption) ?_
      rotate_left
      · (intro o ho w hSw; (simp only [List.getElem?_toArray, List.getElem?_cons_succ, List.getElem?_cons_zero, Option.some.injEq] at ho); subst ho; (try dsimp only at hSw); go_simp; (first | done | with_reducible rfl))
      (try simp only [Act.put, List.setIfInBounds_toArray, List.set_cons_zero, List.set_cons_succ])
      refine hand_take 7 (some 48) ?_ (by kernel_rfl) (by kernel_rfl) (by kernel_rfl) (by kernel_rfl) (by kernel_rfl) (fun _ _ _ h => h) ?_ (by assumption) ?_
      rotate_left
      · (intro o ho w hSw; (simp only [List.getElem?_toArray, List.getElem?_cons_succ, List.getElem?_cons_zero, Option.some.injEq] at ho); subst ho; (try dsimp only at hSw); go_simp; (first | done | with_reducible rfl))
      (try simp only [Act.put, List.setIfInBounds_toArray, List.set_cons_zero, List.set_cons_succ])
      refine hand_ready 8 (by kernel_rfl) (by kernel_rfl) (fun o ho K hK => ?_)
      (simp only [List.getElem?_toArray, List.getElem?_cons_succ, List.getElem?_cons_zero, Option.some.injEq] at ho)
      subst ho
      go_simp
      (go_at_call 84; (with_reducible refine HNX2.out.mono ?_); rintro e w3 ⟨rfl, hb⟩; (have hkp := Keeps.of_below hb); (have HS2 := kept (show (fun W' : World => W'.cell? ⟨w.heap.size, 0, none⟩ = some (.int .i64 q.1) ∧ W'.cell? ⟨w.heap.size, 1, none⟩ = some (.int .i64 q.2) ∧ W'.cell? ⟨w.heap.size, 2, none⟩ = some (.int .i64 c) ∧ W'.cell? ⟨w.heap.size, 3, none⟩ = some (.int .i64 v)) w3 from ⟨hkp.cell_ HS1.out.1, hkp.cell_ HS1.out.2.1, hkp.cell_ HS1.out.2.2.1, hkp.cell_ HS1.out.2.2.2⟩)); have H3 := kept (H2.out.below hb); have HB3 := kept (bel_to hb HB2.out); clear hb hkp)
      (try go_wp2_with fail)
      refine hK.out _ _ ?_ (fun hHeld => ?_)
      · ((try dsimp only); (first | with_reducible exact HS0.out | with_reducible exact HS1.out | (with_reducible exact HS2.out)))
      clear hK K
      (try simp only [Act.put, List.setIfInBounds_toArray, List.set_cons_zero, List.set_cons_succ])
      refine hand_take 9 (some 50) ?_ (by kernel_rfl) (by kernel_rfl) (by kernel_rfl) (by kernel_rfl) (by kernel_rfl) (fun _ _ _ h => h) ?_ (by assumption) ?_
      rotate_left
      · (intro o ho w hSw; (simp only [List.getElem?_toArray, List.getElem?_cons_succ, List.getElem?_cons_zero, Option.some.injEq] at ho); subst ho; (try dsimp only at hSw); go_simp; (first | done | with_reducible rfl))
      (try simp only [Act.put, List.setIfInBounds_toArray, List.set_cons_zero, List.set_cons_succ])
      refine hand_take 10 (some 51) ?_ (by kernel_rfl) (by kernel_rfl) (by kernel_rfl) (by kernel_rfl) (by kernel_rfl) (fun _ _ _ h => h) ?_ (by assumption) ?_
      rotate_left
      · (intro o ho w hSw; (simp only [List.getElem?_toArray, List.getElem?_cons_succ, List.getElem?_cons_zero, Option.some.injEq] at ho); subst ho; (try dsimp only at hSw); go_simp; (first | done | with_reducible rfl))
      (try simp only [Act.put, List.setIfInBounds_toArray, List.set_cons_zero, List.set_cons_succ])
      refine hand_take 11 (some 40) ?_ (by kernel_rfl) (by kernel_rfl) (by kernel_rfl) (by kernel_rfl) (by kernel_rfl) (fun _ _ _ h => h) ?_ (by assumption) ?_
      rotate_left
      · (intro o ho w hSw; (simp only [List.getElem?_toArray, List.getElem?_cons_succ, List.getElem?_cons_zero, Option.some.injEq] at ho); subst ho; (try dsimp only at hSw); go_simp; (first | done | with_reducible rfl))
      (try simp only [Act.put, List.setIfInBounds_toArray, List.set_cons_zero, List.set_cons_succ])
      refine wpAnyH_done (by kernel_rfl) ?_ _
      clear hHeld
      have HMC3 := HMC _ H3.out
      obtain ⟨z0, z1, z2, z3⟩ := HS2.out
      rcases hmc with rfl | rfl | rfl
      · go_wp2_with fail
        with_reducible refine HMC3.out.mono ?_
        rintro e w4 ⟨rfl, hb⟩
        have hkp := Keeps.of_below hb
        have y0 := hkp.cell_ z0
        have y1 := hkp.cell_ z1
        have y2 := hkp.cell_ z2
        have y3 := hkp.cell_ z3
        have H4 := kept (H3.out.below hb)
        have HB4 := kept (bel_to hb HB3.out)
        have HAD4 := HAD _ H4.out
        clear hb hkp z0 z1 z2 z3
        go_wp2_with (first | (go_at_call 83; (with_reducible refine (HAD4.out).mono ?_); rintro e w5 ⟨rfl, hb⟩; have HX := kept (GLeft.after HB4.out hb); clear hb))
        go_ret
        exact ⟨rfl, HX.out⟩
      all_goals
        go_wp2_with (first | (go_at_call 82; (with_reducible refine (HMC3.out).mono ?_); rintro e w4 ⟨rfl, hb⟩; have HX := kept (bel_to hb HB3.out); clear hb))
        go_ret
        exact ⟨rfl, GLeft.of_below HW.out HX.out⟩
theorem grest_put {w : World} {r : Nat} {F : Nat → Prop} {gs : List Gn} (h : Gs w r F gs) (hi : GInv gs) {N : Nat} (hN : BdG gs N) (hn : N ≤ 900000) (q : Rv) (c v : Int) :
    Calls Tryz.prog 74 #[.pointer (some ⟨r, 0, none⟩), .agg #[.int .i64 q.1, .int .i64 q.2, .int .i64 c, .int .i64 v], .bool false] w fun e w' => e = .returned (.int .i64 (restC gs q c v)) ∧ GLeft w r F (restG gs q c v) w' := by
  cases hk : okR q c v
  · have e : restC gs q c v = 2 := by unfold restC; rw [hk]; rfl
    have e' : restG gs q c v = gs := by unfold restG; rw [e]; rfl
    rw [e, e']
    exact (grest_bad q c v hk).mono fun e w' ⟨h1, h2⟩ => ⟨h1, GLeft.of_below h h2⟩
  · have e : restC gs q c v = if goingG gs && !decide ((c, v) = nextG gs q) then 4 else mcG gs q := by unfold restC; rw [hk]; rfl
    have e' : restG gs q c v = if (goingG gs && !decide ((c, v) = nextG gs q)) = false ∧ mcG gs q = 0 then addG gs q c v else gs := by
      unfold restG
      rw [e]
      cases goingG gs && !decide ((c, v) = nextG gs q) <;> simp
    rw [e, e']
    exact grest_ok h hi hN hn q c v hk
end Go.Proofs.YtlckeebbjnhejaaGreat
end

section
/-
  The document's own history, as far as a law that doesn't look at its answers wants it: its calls end, and turn nothing but its own memory.
-/
namespace Go.Proofs.YtlckeebbjnhejaaGreat
open Go.ChangeShapes Go.WideShapes Go.ChangeAt Go.RowKit Go.Deep
set_option linter.unusedVariables false
set_option linter.unusedSimpArgs false

structure En5 where
  a : Int
  b : Int
  t : Bool
  c : Int
  v : Int
def En5.cells (x : En5) : List Value := [.int .i64 x.a, .int .i64 x.b, .bool x.t, .int .i64 x.c, .int .i64 x.v]
def renC (I : List En5) : List Value := I.flatMap En5.cells
theorem renC_length : ∀ I : List En5, (renC I).length = I.length * 5
  | [] => rfl
  | x :: I => by
    have := renC_length I
    unfold renC at this ⊢
    rw [List.flatMap_cons, List.length_append, this]
    simp [En5.cells]; omega
theorem renC_append (a b : List En5) : renC (a ++ b) = renC a ++ renC b := by simp [renC]
theorem renC_one (I : List En5) : ∀ u ∈ renC I, u.oneCell' = true := by
  intro u hu
  obtain ⟨L, _, hp⟩ := List.mem_flatMap.1 hu
  simp only [En5.cells, List.mem_cons, List.not_mem_nil, or_false] at hp
  rcases hp with rfl | rfl | rfl | rfl | rfl <;> rfl
theorem renC_at : ∀ (I : List En5) (i : Nat) (h : i < I.length) (j : Nat), j < 5 → (renC I)[i * 5 + j]? = I[i].cells[j]?
  | L :: Ls, 0, _, j, hj => by
    show (L.cells ++ renC Ls)[0 * 5 + j]? = _
    rw [List.getElem?_append_left (by simp [En5.cells]; omega)]; simp
  | L :: Ls, i + 1, h, j, hj => by
    show (L.cells ++ renC Ls)[(i + 1) * 5 + j]? = _
    rw [List.getElem?_append_right (by simp [En5.cells]; omega)]
    have := renC_at Ls i (by simpa using h) j hj
    rw [show (i + 1) * 5 + j - L.cells.length = i * 5 + j by simp [En5.cells]; omega, this]
    simp
theorem renC_set : ∀ (I : List En5) (i : Nat) (h : i < I.length) (j : Nat) (u : Value) (x' : En5), j < 5 → x'.cells = I[i].cells.set j u → (renC I).set (i * 5 + j) u = renC (I.set i x')
  | L :: Ls, 0, _, j, u, L', hj, e => by
    have e : L'.cells = L.cells.set j u := e
    show (L.cells ++ renC Ls).set (0 * 5 + j) u = L'.cells ++ renC Ls
    rw [e, List.set_append_left _ _ (by simp [En5.cells]; omega)]
    simp
  | L :: Ls, i + 1, h, j, u, L', hj, e => by
    have := renC_set Ls i (by simpa using h) j u L' hj (by simpa using e)
    show (L.cells ++ renC Ls).set ((i + 1) * 5 + j) u = L.cells ++ renC (Ls.set i L')
    rw [← this, List.set_append_right _ _ (by simp [En5.cells]; omega)]
    congr 2
    simp [En5.cells]; omega
theorem reninfo : (Tryz.prog.info? 124).map (fun i => (i.zero, i.size, i.bytes)) = some (some (.agg #[.int .i64 0, .int .i64 0, .bool false, .int .i64 0, .int .i64 0]), 5, 40) := by kernel_rfl
/-- The document's history in block b: n entries; the row lies from block B on. -/
def RF (w : World) (B b n : Nat) : Prop := ∃ A k I, Blk w b 118 [.slice A n k] ∧ w.ownsRow B 124 5 (.slice A n k) n (renC I) ∧ I.length = n ∧ B ≤ b
theorem RF.le {w : World} {B b n : Nat} (h : RF w B b n) : B ≤ b := by
  obtain ⟨_, _, _, _, _, _, h⟩ := h
  exact h
/-- Blocks of its types, from B on. -/
def OfT (B : Nat) (w : World) (j : Nat) : Prop := B ≤ j ∧ ∃ cur t f, w.heap[j]? = some (.cells cur t f) ∧ (t = 118 ∨ t = 124)
def TurnR (B : Nat) (w w' : World) : Prop := Turned w w' (OfT B w)
theorem TurnR.trans {B : Nat} {w w1 w2 : World} (h : TurnR B w w1) (k : TurnR B w1 w2) : TurnR B w w2 :=
  ⟨k.os.trans h.os, k.tape.trans h.tape, k.output.trans h.output, Nat.le_trans h.size k.size, fun i hi hn => (k.block i (Nat.lt_of_lt_of_le hi h.size) (fun ⟨hb, c, t, f, e, ht⟩ => hn ⟨hb, c, t, f, by rw [← h.block i hi hn]; exact e, ht⟩)).trans (h.block i hi hn)⟩
theorem TurnR.of_below {B : Nat} {w w' : World} (h : Below w.heap.size w w') : TurnR B w w' := Turned.of_below h _
theorem RF.below {w w' : World} {B b n : Nat} (h : RF w B b n) (hb : Below w.heap.size w w') : RF w' B b n := by
  obtain ⟨A, k, I, h1, h2, h3⟩ := h
  exact ⟨A, k, I, h1.below hb h1.lt, gown_turned h2 (Turned.of_below hb (fun _ => False)) (fun _ _ e => e), h3⟩
theorem gstore5 {B : Nat} {w W : World} {b : Nat} {t : TypeId} {x0 x1 x2 x3 x4 : Value} (hq : Blk W b t [x0, x1, x2, x3, x4]) (hb : Below B w W) (hB : B ≤ b) (u0 u1 u2 u3 u4 : Value) :
    Blk (((((W.setCell ⟨b, 0, none⟩ u0).setCell ⟨b, 1, none⟩ u1).setCell ⟨b, 2, none⟩ u2).setCell ⟨b, 3, none⟩ u3).setCell ⟨b, 4, none⟩ u4) b t [u0, u1, u2, u3, u4] ∧ Below B w (((((W.setCell ⟨b, 0, none⟩ u0).setCell ⟨b, 1, none⟩ u1).setCell ⟨b, 2, none⟩ u2).setCell ⟨b, 3, none⟩ u3).setCell ⟨b, 4, none⟩ u4) ∧ ∀ p : Addr, p.block ≠ b → (((((W.setCell ⟨b, 0, none⟩ u0).setCell ⟨b, 1, none⟩ u1).setCell ⟨b, 2, none⟩ u2).setCell ⟨b, 3, none⟩ u3).setCell ⟨b, 4, none⟩ u4).cell? p = W.cell? p :=
  ⟨((((hq.set_ 0 u0).set_ 1 u1).set_ 2 u2).set_ 3 u3).set_ 4 u4, ((((hb.setCell (p := ⟨b, 0, none⟩) hB u0).setCell (p := ⟨b, 1, none⟩) hB u1).setCell (p := ⟨b, 2, none⟩) hB u2).setCell (p := ⟨b, 3, none⟩) hB u3).setCell (p := ⟨b, 4, none⟩) hB u4, fun p hp => (gcell_far (b := b) u4 rfl hp).trans ((gcell_far (b := b) u3 rfl hp).trans ((gcell_far (b := b) u2 rfl hp).trans ((gcell_far (b := b) u1 rfl hp).trans (gcell_far (b := b) u0 rfl hp))))⟩
abbrev enV (x : En5) : Value := .agg #[.int .i64 x.a, .int .i64 x.b, .bool x.t, .int .i64 x.c, .int .i64 x.v]
/-- What last answers: some entry, or none. -/
def RLast (w : World) (e : Ending) (w' : World) : Prop := ∃ x ok, e = .returned (.tuple #[enV x, .bool ok]) ∧ Below w.heap.size w w'
set_option maxRecDepth 100000 in
set_option maxHeartbeats 2000000 in
theorem rlast_any {w : World} {B b n : Nat} (h : RF w B b n) (hn : n ≤ 1000000) :
    Calls Tryz.prog 102 #[.pointer (some ⟨b, 0, none⟩)] w (RLast w) := by
  obtain ⟨A, k, I, h1, h2, h3⟩ := h
  have hB0 := (Below.refl w.heap.size w).alloc (Nat.le_refl _) (.cells #[.int .i64 0, .int .i64 0, .bool false, .int .i64 0, .int .i64 0] 124)
  have HK := kept (Blk.new w 124 #[.int .i64 0, .int .i64 0, .bool false, .int .i64 0, .int .i64 0])
  have hbx : (w.alloc (.cells #[.int .i64 0, .int .i64 0, .bool false, .int .i64 0, .int .i64 0] 124)).cell? ⟨b, 0, none⟩ = some (.slice A n k) := (h1.below hB0 h1.lt).cell 0
  obtain ⟨q0, q1, q2, q3, q4⟩ : (w.alloc (.cells #[.int .i64 0, .int .i64 0, .bool false, .int .i64 0, .int .i64 0] 124)).cell? ⟨w.heap.size, 0, none⟩ = some (.int .i64 0) ∧ (w.alloc (.cells #[.int .i64 0, .int .i64 0, .bool false, .int .i64 0, .int .i64 0] 124)).cell? ⟨w.heap.size, 1, none⟩ = some (.int .i64 0) ∧ (w.alloc (.cells #[.int .i64 0, .int .i64 0, .bool false, .int .i64 0, .int .i64 0] 124)).cell? ⟨w.heap.size, 2, none⟩ = some (.bool false) ∧ (w.alloc (.cells #[.int .i64 0, .int .i64 0, .bool false, .int .i64 0, .int .i64 0] 124)).cell? ⟨w.heap.size, 3, none⟩ = some (.int .i64 0) ∧ (w.alloc (.cells #[.int .i64 0, .int .i64 0, .bool false, .int .i64 0, .int .i64 0] 124)).cell? ⟨w.heap.size, 4, none⟩ = some (.int .i64 0) := ⟨HK.out.cell 0, HK.out.cell 1, HK.out.cell 2, HK.out.cell 3, HK.out.cell 4⟩
  have f0 := HK.out.frozen 0
  have f1 := HK.out.frozen 1
  have f2 := HK.out.frozen 2
  have f3 := HK.out.frozen 3
  have f4 := HK.out.frozen 4
  have HB := kept hB0
  rcases Nat.eq_zero_or_pos n with h0 | h0
  · subst h0
    clear h1 h2 h3 hB0
    go_enter Tryz.func102, Tryz.ntmps102
    go_wp2_with fail
    generalize w.alloc (.cells #[.int .i64 0, .int .i64 0, .bool false, .int .i64 0, .int .i64 0] 124) = W0 at HK HB hbx q0 q1 q2 q3 q4 f0 f1 f2 f3 f4 ⊢
    go_wp2
    exact bodyPost_ret (v := .tuple #[.agg #[.int .i64 0, .int .i64 0, .bool false, .int .i64 0, .int .i64 0], .bool false]) (by simp [results, Tryz.results102, go_sem, q0, q1, q2, q3, q4]) rfl ⟨⟨0, 0, false, 0, 0⟩, false, rfl, HB.out⟩
  · obtain ⟨m, rfl⟩ : ∃ m, n = m + 1 := ⟨n - 1, by omega⟩
    obtain ⟨g, rfl, _, hgl, _, _, hc⟩ := gown_at h2 h0
    have hml : m < I.length := by omega
    have hcc := fun j (hj : j < 5) => renC_at I m hml j hj
    generalize I[m] = x at hcc
    have hkp := Keeps.of_below hB0
    have c0 := hkp.cell_ (hc _ _ (hcc 0 (by omega)))
    have c1 := hkp.cell_ (hc _ _ (hcc 1 (by omega)))
    have c2 := hkp.cell_ (hc _ _ (hcc 2 (by omega)))
    have c3 := hkp.cell_ (hc _ _ (hcc 3 (by omega)))
    have c4 := hkp.cell_ (hc _ _ (hcc 4 (by omega)))
    have hbl := h1.lt
    have HS0 := kept (show (fun W' : World => W'.cell? ⟨b, 0, none⟩ = some (.slice (some ⟨g, 0, none⟩) (m + 1) k) ∧ (W'.cell? ⟨g, m * 5, none⟩ = some (.int .i64 x.a) ∧ W'.cell? ⟨g, m * 5 + 1, none⟩ = some (.int .i64 x.b) ∧ W'.cell? ⟨g, m * 5 + 2, none⟩ = some (.bool x.t) ∧ W'.cell? ⟨g, m * 5 + 3, none⟩ = some (.int .i64 x.c) ∧ W'.cell? ⟨g, m * 5 + 4, none⟩ = some (.int .i64 x.v))) (w.alloc (.cells #[.int .i64 0, .int .i64 0, .bool false, .int .i64 0, .int .i64 0] 124)).drew from ⟨hbx, c0, c1, c2, c3, c4⟩)
    have hmm : (m : Int) + 1 - 1 = (m : Int) := by omega
    have hwr : wrap64 (m : Int) = (m : Int) := IntWalk.wrap64_in _ ⟨by omega, by omega⟩
    have hwr2 : IntKind.i64.wrap (m : Int) = (m : Int) := IntWalk.i64_in _ ⟨by omega, by omega⟩
    have hm0 : (0 : Int) ≤ (m : Int) := by omega
    have hm1 : (m : Int) < (m : Int) + 1 := by omega
    have hne : ((m : Int) + 1 == 0) = false := by simp; omega
    clear h1 h2 h3 hB0 hkp hcc hc c0 c1 c2 c3 c4 hml
    go_enter Tryz.func102, Tryz.ntmps102
    go_wp2_with fail
    generalize w.alloc (.cells #[.int .i64 0, .int .i64 0, .bool false, .int .i64 0, .int .i64 0] 124) = W0 at HK HB HS0 hbx q0 q1 q2 q3 q4 f0 f1 f2 f3 f4 ⊢
    go_wp2
    have HKd := kept (show Blk W0.drew w.heap.size _ _ from HK.out)
    clear hbx q0 q1 q2 q3 q4 f0 f1 f2 f3 f4
    refine wp_region_held_drew (S := (fun W' => W'.cell? ⟨b, 0, none⟩ = some (.slice (some ⟨g, 0, none⟩) (m + 1) k) ∧ (W'.cell? ⟨g, m * 5, none⟩ = some (.int .i64 x.a) ∧ W'.cell? ⟨g, m * 5 + 1, none⟩ = some (.int .i64 x.b) ∧ W'.cell? ⟨g, m * 5 + 2, none⟩ = some (.bool x.t) ∧ W'.cell? ⟨g, m * 5 + 3, none⟩ = some (.int .i64 x.c) ∧ W'.cell? ⟨g, m * 5 + 4, none⟩ = some (.int .i64 x.v)))) (by kernel_rfl) ?_ (fun hHeld => ?_)
    · ((try dsimp only); (first | with_reducible exact HS0.out | with_reducible exact HS1.out))
    (have HBd := kept (HB.out.drew); generalize W0.drew = W2 at HS0 HKd HBd hHeld ⊢; (have q0 : W2.cell? ⟨w.heap.size, 0, none⟩ = some (.int .i64 0) := HKd.out.cell 0); (have q1 : W2.cell? ⟨w.heap.size, 1, none⟩ = some (.int .i64 0) := HKd.out.cell 1); (have q2 : W2.cell? ⟨w.heap.size, 2, none⟩ = some (.bool false) := HKd.out.cell 2); (have q3 : W2.cell? ⟨w.heap.size, 3, none⟩ = some (.int .i64 0) := HKd.out.cell 3); (have q4 : W2.cell? ⟨w.heap.size, 4, none⟩ = some (.int .i64 0) := HKd.out.cell 4); have f0 := HKd.out.frozen 0; have f1 := HKd.out.frozen 1; have f2 := HKd.out.frozen 2; have f3 := HKd.out.frozen 3; have f4 := HKd.out.frozen 4)
    refine hand_take 0 (some 11) ?_ (by kernel_rfl) (by kernel_rfl) (by kernel_rfl) (by kernel_rfl) (by kernel_rfl) (fun _ _ _ h => h) ?_ (by assumption) ?_
    rotate_left
    · (intro o ho w hSw; (simp only [List.getElem?_toArray, List.getElem?_cons_succ, List.getElem?_cons_zero, Option.some.injEq] at ho); subst ho; (try dsimp only at hSw); go_simp; (first | done | with_reducible rfl))
    (try simp only [Act.put, List.setIfInBounds_toArray, List.set_cons_zero, List.set_cons_succ])
    refine hand_take 1 (some 12) ?_ (by kernel_rfl) (by kernel_rfl) (by kernel_rfl) (by kernel_rfl) (by kernel_rfl) (fun _ _ _ h => h) ?_ (by assumption) ?_
    rotate_left
    · (intro o ho w hSw; (simp only [List.getElem?_toArray, List.getElem?_cons_succ, List.getElem?_cons_zero, Option.some.injEq] at ho); subst ho; (try dsimp only at hSw); go_simp; (first | done | with_reducible rfl))
    (try simp only [Act.put, List.setIfInBounds_toArray, List.set_cons_zero, List.set_cons_succ])
    refine hand_take 2 (some 13) ?_ (by kernel_rfl) (by kernel_rfl) (by kernel_rfl) (by kernel_rfl) (by kernel_rfl) (fun _ _ _ h => h) ?_ (by assumption) ?_
    rotate_left
    · (intro o ho w hSw; (simp only [List.getElem?_toArray, List.getElem?_cons_succ, List.getElem?_cons_zero, Option.some.injEq] at ho); subst ho; (try dsimp only at hSw); go_simp; (first | done | with_reducible rfl))
    (try simp only [Act.put, List.setIfInBounds_toArray, List.set_cons_zero, List.set_cons_succ])
    refine hand_take 3 (some 14) ?_ (by kernel_rfl) (by kernel_rfl) (by kernel_rfl) (by kernel_rfl) (by kernel_rfl) (fun _ _ _ h => h) ?_ (by assumption) ?_
    rotate_left
    · (intro o ho w hSw; (simp only [List.getElem?_toArray, List.getElem?_cons_succ, List.getElem?_cons_zero, Option.some.injEq] at ho); subst ho; (try dsimp only at hSw); go_simp; (first | done | with_reducible rfl))
    (try simp only [Act.put, List.setIfInBounds_toArray, List.set_cons_zero, List.set_cons_succ])
    refine hand_take 4 (some 15) ?_ (by kernel_rfl) (by kernel_rfl) (by kernel_rfl) (by kernel_rfl) (by kernel_rfl) (fun _ _ _ h => h) ?_ (by assumption) ?_
    rotate_left
    · (intro o ho w hSw; (simp only [List.getElem?_toArray, List.getElem?_cons_succ, List.getElem?_cons_zero, Option.some.injEq] at ho); subst ho; (try dsimp only at hSw); go_simp; (first | done | with_reducible rfl))
    (try simp only [Act.put, List.setIfInBounds_toArray, List.set_cons_zero, List.set_cons_succ])
    refine hand_take 5 (some 16) ?_ (by kernel_rfl) (by kernel_rfl) (by kernel_rfl) (by kernel_rfl) (by kernel_rfl) (fun _ _ _ h => h) ?_ (by assumption) ?_
    rotate_left
    · (intro o ho w hSw; (simp only [List.getElem?_toArray, List.getElem?_cons_succ, List.getElem?_cons_zero, Option.some.injEq] at ho); subst ho; (try dsimp only at hSw); go_simp; (first | done | with_reducible rfl))
    (try simp only [Act.put, List.setIfInBounds_toArray, List.set_cons_zero, List.set_cons_succ])
    refine hand_take 6 (some 17) ?_ (by kernel_rfl) (by kernel_rfl) (by kernel_rfl) (by kernel_rfl) (by kernel_rfl) (fun _ _ _ h => h) ?_ (by assumption) ?_
    rotate_left
    · (intro o ho w hSw; (simp only [List.getElem?_toArray, List.getElem?_cons_succ, List.getElem?_cons_zero, Option.some.injEq] at ho); subst ho; (try dsimp only at hSw); go_simp; (first | done | with_reducible rfl))
    (try simp only [Act.put, List.setIfInBounds_toArray, List.set_cons_zero, List.set_cons_succ])
    refine hand_take 7 (some 18) ?_ (by kernel_rfl) (by kernel_rfl) (by kernel_rfl) (by kernel_rfl) (by kernel_rfl) (fun _ _ _ h => h) ?_ (by assumption) ?_
    rotate_left
    · (intro o ho w hSw; (simp only [List.getElem?_toArray, List.getElem?_cons_succ, List.getElem?_cons_zero, Option.some.injEq] at ho); subst ho; (try dsimp only at hSw); go_simp; (first | done | with_reducible rfl))
    (try simp only [Act.put, List.setIfInBounds_toArray, List.set_cons_zero, List.set_cons_succ])
    refine hand_take 8 (some 19) ?_ (by kernel_rfl) (by kernel_rfl) (by kernel_rfl) (by kernel_rfl) (by kernel_rfl) (fun _ _ _ h => h) ?_ (by assumption) ?_
    rotate_left
    · (intro o ho w hSw; (simp only [List.getElem?_toArray, List.getElem?_cons_succ, List.getElem?_cons_zero, Option.some.injEq] at ho); subst ho; (try dsimp only at hSw); go_simp; (first | done | with_reducible rfl))
    (try simp only [Act.put, List.setIfInBounds_toArray, List.set_cons_zero, List.set_cons_succ])
    refine hand_take 9 (some 20) ?_ (by kernel_rfl) (by kernel_rfl) (by kernel_rfl) (by kernel_rfl) (by kernel_rfl) (fun _ _ _ h => h) ?_ (by assumption) ?_
    rotate_left
    · (intro o ho w hSw; (simp only [List.getElem?_toArray, List.getElem?_cons_succ, List.getElem?_cons_zero, Option.some.injEq] at ho); subst ho; (try dsimp only at hSw); go_simp; (first | done | with_reducible rfl))
    (try simp only [Act.put, List.setIfInBounds_toArray, List.set_cons_zero, List.set_cons_succ])
    refine hand_take 10 (some 21) ?_ (by kernel_rfl) (by kernel_rfl) (by kernel_rfl) (by kernel_rfl) (by kernel_rfl) (fun _ _ _ h => h) ?_ (by assumption) ?_
    rotate_left
    · (intro o ho w hSw; (simp only [List.getElem?_toArray, List.getElem?_cons_succ, List.getElem?_cons_zero, Option.some.injEq] at ho); subst ho; (try dsimp only at hSw); go_simp; (first | done | with_reducible rfl))
    (try simp only [Act.put, List.setIfInBounds_toArray, List.set_cons_zero, List.set_cons_succ])
    refine hand_take 11 (some 22) ?_ (by kernel_rfl) (by kernel_rfl) (by kernel_rfl) (by kernel_rfl) (by kernel_rfl) (fun _ _ _ h => h) ?_ (by assumption) ?_
    rotate_left
    · (intro o ho w hSw; (simp only [List.getElem?_toArray, List.getElem?_cons_succ, List.getElem?_cons_zero, Option.some.injEq] at ho); subst ho; (try dsimp only at hSw); go_simp; (first | done | with_reducible rfl))
    (try simp only [Act.put, List.setIfInBounds_toArray, List.set_cons_zero, List.set_cons_succ])
    refine hand_ready 12 (by kernel_rfl) (by kernel_rfl) (fun o ho K hK => ?_)
    (simp only [List.getElem?_toArray, List.getElem?_cons_succ, List.getElem?_cons_zero, Option.some.injEq] at ho)
    subst ho
    go_simp
    (have hx2 := gstore5 HKd.out HBd.out (Nat.le_refl _) (.int .i64 x.a) (.int .i64 x.b) (.bool x.t) (.int .i64 x.c) (.int .i64 x.v); generalize ((((W2.setCell ⟨w.heap.size, 0, none⟩ (.int .i64 x.a)).setCell ⟨w.heap.size, 1, none⟩ (.int .i64 x.b)).setCell ⟨w.heap.size, 2, none⟩ (.bool x.t)).setCell ⟨w.heap.size, 3, none⟩ (.int .i64 x.c)).setCell ⟨w.heap.size, 4, none⟩ (.int .i64 x.v) = X at hx2 ⊢; have HX := kept hx2; (have HS1 := kept (show (fun W' : World => W'.cell? ⟨b, 0, none⟩ = some (.slice (some ⟨g, 0, none⟩) (m + 1) k) ∧ (W'.cell? ⟨g, m * 5, none⟩ = some (.int .i64 x.a) ∧ W'.cell? ⟨g, m * 5 + 1, none⟩ = some (.int .i64 x.b) ∧ W'.cell? ⟨g, m * 5 + 2, none⟩ = some (.bool x.t) ∧ W'.cell? ⟨g, m * 5 + 3, none⟩ = some (.int .i64 x.c) ∧ W'.cell? ⟨g, m * 5 + 4, none⟩ = some (.int .i64 x.v))) X from (by obtain ⟨s0, s2, s3, s4, s5, s6⟩ := HS0.out; have hf := hx2.2.2; exact ⟨(hf _ (by show b ≠ w.heap.size; omega)).trans s0, (hf _ (by show g ≠ w.heap.size; omega)).trans s2, (hf _ (by show g ≠ w.heap.size; omega)).trans s3, (hf _ (by show g ≠ w.heap.size; omega)).trans s4, (hf _ (by show g ≠ w.heap.size; omega)).trans s5, (hf _ (by show g ≠ w.heap.size; omega)).trans s6⟩))); clear hx2 q0 q1 q2 q3 q4 f0 f1 f2 f3 f4)
    refine hK.out _ _ ?_ (fun hHeld => ?_)
    · ((try dsimp only); (first | with_reducible exact HS0.out | with_reducible exact HS1.out))
    clear hK K
    (try simp only [Act.put, List.setIfInBounds_toArray, List.set_cons_zero, List.set_cons_succ])
    refine hand_take 13 (some 3) ?_ (by kernel_rfl) (by kernel_rfl) (by kernel_rfl) (by kernel_rfl) (by kernel_rfl) (fun _ _ _ h => h) ?_ (by assumption) ?_
    rotate_left
    · (intro o ho w hSw; (simp only [List.getElem?_toArray, List.getElem?_cons_succ, List.getElem?_cons_zero, Option.some.injEq] at ho); subst ho; (try dsimp only at hSw); go_simp; (first | done | with_reducible rfl))
    (try simp only [Act.put, List.setIfInBounds_toArray, List.set_cons_zero, List.set_cons_succ])
    refine wpAnyH_done (by kernel_rfl) ?_ _
    clear hHeld
    go_wp2
    obtain ⟨hbk, hbx, _⟩ := HX.out
    have v0 : X.cell? ⟨w.heap.size, 0, none⟩ = some (.int .i64 x.a) := hbk.cell 0
    have v1 : X.cell? ⟨w.heap.size, 1, none⟩ = some (.int .i64 x.b) := hbk.cell 1
    have v2 : X.cell? ⟨w.heap.size, 2, none⟩ = some (.bool x.t) := hbk.cell 2
    have v3 : X.cell? ⟨w.heap.size, 3, none⟩ = some (.int .i64 x.c) := hbk.cell 3
    have v4 : X.cell? ⟨w.heap.size, 4, none⟩ = some (.int .i64 x.v) := hbk.cell 4
    exact bodyPost_ret (v := .tuple #[enV x, .bool true]) (by simp [results, Tryz.results102, go_sem, v0, v1, v2, v3, v4]) rfl ⟨x, true, rfl, hbx⟩
end Go.Proofs.YtlckeebbjnhejaaGreat
end
