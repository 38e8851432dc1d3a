/-
  package gens, call by call: Restore.
-/
import Derived.Test.YthpaliagmnclfaaGl
namespace Go.Proofs.Ythpaliagmnclfaa
open Go.ChangeShapes Go.WideShapes Go.ChangeAt Go.RowKit Go.Deep
set_option linter.unusedVariables false
set_option linter.unusedSimpArgs false

/-- What is told of a put, as data: may it be? -/
def okR (q : Rv) (c v : Int) : Bool := rightR q.1 q.2 && decide (1 ≤ c) && decide (c ≤ q.1) && decide (1 ≤ v)
def restC (gs : List Gn) (q : Rv) (c v : Int) : Int := if okR q c v then (if goingG gs && !decide ((c, v) = nextG gs q) then 4 else mcG gs q) else 2
def restG (gs : List Gn) (q : Rv) (c v : Int) : List Gn := if restC gs q c v = 0 then addG gs q c v else gs
theorem neq_found (q1 q2 c v q1' q2' c' v' : Int) (w : World) : (binOp .neq 33 (.agg #[.int .i64 q1, .int .i64 q2, .int .i64 c, .int .i64 v]) (.agg #[.int .i64 q1', .int .i64 q2', .int .i64 c', .int .i64 v'])).run Try.prog w = .ok (.bool (!(decide (q1 = q1' ∧ q2 = q2' ∧ c = c' ∧ v = v')))) w := by
  go_simp
  by_cases h1 : q1 = q1' <;> by_cases h2 : q2 = q2' <;> by_cases h3 : c = c' <;> by_cases h4 : v = v' <;> simp [h1, h2, h3, h4]
theorem grest_tomb {w : World} {r : Nat} {F : Nat → Prop} {gs : List Gn} (h : Gs w r F gs) (hi : GInv gs) {N : Nat} (hN : BdG gs N) (hn : N ≤ 900000) (q : Rv) (c v : Int) :
    Calls Try.prog 29 #[.pointer (some ⟨r, 0, none⟩), .agg #[.int .i64 q.1, .int .i64 q.2, .int .i64 c, .int .i64 v], .bool true] w fun e w' => e = .returned (.int .i64 (tombC gs q)) ∧ GLeft w r F (tombG gs q) w' := by
  have hB0 := (Below.refl w.heap.size w).alloc (Nat.le_refl _) (.cells #[.int .i64 q.1, .int .i64 q.2, .int .i64 c, .int .i64 v] 33)
  have HT := kept (gtomb_any (h.below hB0) hi hN hn q)
  have HB := kept hB0
  generalize tombC gs q = e0 at HT ⊢
  generalize tombG gs q = P at HT ⊢
  clear hB0 h hi hN
  go_enter Try.func29, Try.ntmps29
  go_wp2_with (first | (go_at_call 14; (with_reducible refine (HT.out).mono ?_); rintro e w1 ⟨rfl, hb⟩; have HX := kept (GLeft.after HB.out hb); clear hb))
  go_ret
  exact ⟨rfl, HX.out⟩
set_option maxHeartbeats 2000000 in
theorem grest_bad {w : World} {r : Nat} (q : Rv) (c v : Int) (hk : okR q c v = false) :
    Calls Try.prog 29 #[.pointer (some ⟨r, 0, none⟩), .agg #[.int .i64 q.1, .int .i64 q.2, .int .i64 c, .int .i64 v], .bool false] w fun e w' => e = .returned (.int .i64 2) ∧ Below w.heap.size w w' := by
  have hB0 := (Below.refl w.heap.size w).alloc (Nat.le_refl _) (.cells #[.int .i64 q.1, .int .i64 q.2, .int .i64 c, .int .i64 v] 33)
  have HK := kept (Blk.new w 33 #[.int .i64 q.1, .int .i64 q.2, .int .i64 c, .int .i64 v])
  have HR := fun W => kept (right_r q.1 q.2 W)
  have HB := kept hB0
  unfold okR at hk
  generalize rightR q.1 q.2 = b at HR hk
  clear hB0
  cases b
  · go_enter Try.func29, Try.ntmps29
    go_wp2_with (first | (go_at_call 42; (with_reducible refine ((HR _).out).mono ?_); rintro e w1 ⟨rfl, hb⟩; have HX := kept (bel_to hb HB.out); clear hb))
    go_ret
    exact ⟨rfl, HX.out⟩
  · have hcase : (c < 1) ∨ (¬ c < 1 ∧ q.1 < c) ∨ (¬ c < 1 ∧ ¬ q.1 < c ∧ v < 1) := by
      by_cases h1 : c < 1
      · exact .inl h1
      · by_cases h2 : q.1 < c
        · exact .inr (.inl ⟨h1, h2⟩)
        · by_cases h3 : v < 1
          · exact .inr (.inr ⟨h1, h2, h3⟩)
          · rw [show decide (1 ≤ c) = true by simp; omega, show decide (c ≤ q.1) = true by simp; omega, show decide (1 ≤ v) = true by simp; omega] at hk
            cases hk
    clear hk
    rcases hcase with h1 | ⟨h1, h2⟩ | ⟨h1, h2, h3⟩
    all_goals
      go_enter Try.func29, Try.ntmps29
      go_wp2_with (first | (go_at_call 42; (with_reducible refine ((HR _).out).mono ?_); rintro e w1 ⟨rfl, hb⟩; have HX := kept (bel_to hb HB.out); have hk := HK.out.below hb HK.out.lt; have z0 := hk.cell 0; have z1 := hk.cell 1; have z2 := hk.cell 2; have z3 := hk.cell 3; simp only [List.getElem?_cons_zero, List.getElem?_cons_succ] at z0 z1 z2 z3; clear hb hk))
      go_ret
      exact ⟨rfl, HX.out⟩
theorem going_g {w : World} {r : Nat} {F : Nat → Prop} {gs : List Gn} (h : Gs w r F gs) {N : Nat} (hN : BdG gs N) (hn : N ≤ 900000) :
    Calls Try.prog 32 #[.pointer (some ⟨r, 0, none⟩)] w fun e w' => (if goingG gs then ∃ g o, e = .returned (.pointer (some ⟨g, o, none⟩)) else e = .returned (.pointer none)) ∧ Below w.heap.size w w' := by
  obtain ⟨A, n, k, Ls, h, hF⟩ := h
  have hn1 : n ≤ 1000000 := by have := hN.1; rw [h.gn] at this; omega
  cases hg : goingG gs
  · exact (going_any h hn1 hg).mono fun e w' ⟨h1, h2⟩ => ⟨h1, h2⟩
  · rcases h.snoc with ⟨rfl, rfl, rfl⟩ | ⟨g, m, Li, L, gi, x, rfl, rfl, rfl, rfl, hl⟩
    · simp [goingG] at hg
    · have hx : x.ended = false := by simpa [goingG] using hg
      have := going_some hl hn1
      rw [hx] at this
      exact this.mono fun e w' ⟨h1, h2⟩ => ⟨⟨g, m * 5, h1⟩, h2⟩
set_option maxHeartbeats 4000000 in
theorem grest_ok {w : World} {r : Nat} {F : Nat → Prop} {gs : List Gn} (h : Gs w r F gs) (hi : GInv gs) {N : Nat} (hN : BdG gs N) (hn : N ≤ 900000) (q : Rv) (c v : Int) (hk : okR q c v = true) :
    Calls Try.prog 29 #[.pointer (some ⟨r, 0, none⟩), .agg #[.int .i64 q.1, .int .i64 q.2, .int .i64 c, .int .i64 v], .bool false] w fun e w' => e = .returned (.int .i64 (if goingG gs && !decide ((c, v) = nextG gs q) then 4 else mcG gs q)) ∧ GLeft w r F (if (goingG gs && !decide ((c, v) = nextG gs q)) = false ∧ mcG gs q = 0 then addG gs q c v else gs) w' := by
  have hB0 := (Below.refl w.heap.size w).alloc (Nat.le_refl _) (.cells #[.int .i64 q.1, .int .i64 q.2, .int .i64 c, .int .i64 v] 33)
  have HK := kept (Blk.new w 33 #[.int .i64 q.1, .int .i64 q.2, .int .i64 c, .int .i64 v])
  unfold okR at hk
  simp only [Bool.and_eq_true, decide_eq_true_eq] at hk
  obtain ⟨⟨⟨hr, h1⟩, h2⟩, h3⟩ := hk
  have hd1 : decide (c < 1) = false := by simp; omega
  have hd2 : decide (q.1 < c) = false := by simp; omega
  have hd3 : decide (v < 1) = false := by simp; omega
  have hp1 : ¬ c < 1 := by omega
  have hp2 : ¬ q.1 < c := by omega
  have hp3 : ¬ v < 1 := by omega
  have HR := fun W => kept (right_r q.1 q.2 W)
  rw [hr] at HR
  have HB := kept hB0
  have H0 := kept (h.below hB0)
  have HGO := fun W (h : Gs W r F gs) => kept (going_g h hN hn)
  have HNX := fun W (h : Gs W r F gs) => kept (next_g h hN hn q)
  have HMC := fun W (h : Gs W r F gs) => kept (mayCome_g h hi hN hn q)
  have HAD := fun W (h : Gs W r F gs) => kept (add_any h hN hn q c v)
  have hnq := fun W => neq_found q.1 q.2 c v q.1 q.2 (nextG gs q).1 (nextG gs q).2 W
  have heq : decide (q.1 = q.1 ∧ q.2 = q.2 ∧ c = (nextG gs q).1 ∧ v = (nextG gs q).2) = decide ((c, v) = nextG gs q) := by
    rw [decide_eq_decide]
    exact ⟨fun ⟨_, _, a, b⟩ => by rw [a, b], fun e => by rw [← e]; simp⟩
  rw [heq] at hnq
  have hmc := mcG_cases gs q
  generalize addG gs q c v = P at HAD ⊢
  generalize mcG gs q = mc at HMC hmc ⊢
  generalize decide ((c, v) = nextG gs q) = same at hnq ⊢
  generalize nextG gs q = nx at hnq HNX
  generalize goingG gs = go at HGO ⊢
  have HW := kept h
  clear hB0 h hi hN heq hr h1 h2 h3
  cases go
  · simp only [Bool.false_and, Bool.false_eq_true, if_false, true_and] at HGO ⊢
    go_enter Try.func29, Try.ntmps29
    go_wp2_with fail
    generalize w.alloc (.cells #[.int .i64 q.1, .int .i64 q.2, .int .i64 c, .int .i64 v] 33) = W0 at HK HB H0 ⊢
    with_reducible refine (HR _).out.mono ?_
    rintro e w1 ⟨rfl, hb⟩
    have hk := HK.out.below hb HK.out.lt
    have z0 : w1.cell? ⟨w.heap.size, 0, none⟩ = some (.int .i64 q.1) := hk.cell 0
    have z1 : w1.cell? ⟨w.heap.size, 1, none⟩ = some (.int .i64 q.2) := hk.cell 1
    have z2 : w1.cell? ⟨w.heap.size, 2, none⟩ = some (.int .i64 c) := hk.cell 2
    have z3 : w1.cell? ⟨w.heap.size, 3, none⟩ = some (.int .i64 v) := hk.cell 3
    have HS0 := kept (show (fun W' : World => W'.cell? ⟨w.heap.size, 0, none⟩ = some (.int .i64 q.1) ∧ W'.cell? ⟨w.heap.size, 1, none⟩ = some (.int .i64 q.2) ∧ W'.cell? ⟨w.heap.size, 2, none⟩ = some (.int .i64 c) ∧ W'.cell? ⟨w.heap.size, 3, none⟩ = some (.int .i64 v)) w1.drew from ⟨z0, z1, z2, z3⟩)
    have H1 := kept ((H0.out.below hb).below (Below.refl w1.heap.size w1).drew)
    have HB1 := kept (bel_to hb HB.out).drew
    have HGO1 := HGO _ H1.out
    clear hb hk
    go_wp2
    clear z0 z1 z2 z3
    refine wp_region_held_drew (S := (fun W' => W'.cell? ⟨w.heap.size, 0, none⟩ = some (.int .i64 q.1) ∧ W'.cell? ⟨w.heap.size, 1, none⟩ = some (.int .i64 q.2) ∧ W'.cell? ⟨w.heap.size, 2, none⟩ = some (.int .i64 c) ∧ W'.cell? ⟨w.heap.size, 3, none⟩ = some (.int .i64 v))) (by kernel_rfl) ?_ (fun hHeld => ?_)
    · ((try dsimp only); (first | with_reducible exact HS0.out | with_reducible exact HS1.out))
    refine hand_take 0 (some 41) ?_ (by kernel_rfl) (by kernel_rfl) (by kernel_rfl) (by kernel_rfl) (by kernel_rfl) (fun _ _ _ h => h) ?_ (by assumption) ?_
    rotate_left
    · (intro o ho w hSw; (simp only [List.getElem?_toArray, List.getElem?_cons_succ, List.getElem?_cons_zero, Option.some.injEq] at ho); subst ho; (try dsimp only at hSw); go_simp; (first | done | with_reducible rfl))
    (try simp only [Act.put, List.setIfInBounds_toArray, List.set_cons_zero, List.set_cons_succ])
    refine hand_ready 1 (by kernel_rfl) (by kernel_rfl) (fun o ho K hK => ?_)
    (simp only [List.getElem?_toArray, List.getElem?_cons_succ, List.getElem?_cons_zero, Option.some.injEq] at ho)
    subst ho
    go_simp
    (go_at_call 32; (with_reducible refine HGO1.out.mono ?_); rintro e w2 ⟨rfl, hb⟩; (have hkp := Keeps.of_below hb); (have HS1 := kept (show (fun W' : World => W'.cell? ⟨w.heap.size, 0, none⟩ = some (.int .i64 q.1) ∧ W'.cell? ⟨w.heap.size, 1, none⟩ = some (.int .i64 q.2) ∧ W'.cell? ⟨w.heap.size, 2, none⟩ = some (.int .i64 c) ∧ W'.cell? ⟨w.heap.size, 3, none⟩ = some (.int .i64 v)) w2 from ⟨hkp.cell_ HS0.out.1, hkp.cell_ HS0.out.2.1, hkp.cell_ HS0.out.2.2.1, hkp.cell_ HS0.out.2.2.2⟩)); have H2 := kept (H1.out.below hb); have HB2 := kept (bel_to hb HB1.out); have HNX2 := HNX _ H2.out; clear hb hkp)
    (try go_wp2_with fail)
    refine hK.out _ _ ?_ (fun hHeld => ?_)
    · ((try dsimp only); (first | with_reducible exact HS0.out | with_reducible exact HS1.out))
    clear hK K
    (try simp only [Act.put, List.setIfInBounds_toArray, List.set_cons_zero, List.set_cons_succ])
    refine hand_take 2 (some 43) ?_ (by kernel_rfl) (by kernel_rfl) (by kernel_rfl) (by kernel_rfl) (by kernel_rfl) (fun _ _ _ h => h) ?_ (by assumption) ?_
    rotate_left
    · (intro o ho w hSw; (simp only [List.getElem?_toArray, List.getElem?_cons_succ, List.getElem?_cons_zero, Option.some.injEq] at ho); subst ho; (try dsimp only at hSw); go_simp; (first | done | with_reducible rfl))
    (try simp only [Act.put, List.setIfInBounds_toArray, List.set_cons_zero, List.set_cons_succ])
    refine hand_take 3 (some 44) ?_ (by kernel_rfl) (by kernel_rfl) (by kernel_rfl) (by kernel_rfl) (by kernel_rfl) (fun _ _ _ h => h) ?_ (by assumption) ?_
    rotate_left
    · (intro o ho w hSw; (simp only [List.getElem?_toArray, List.getElem?_cons_succ, List.getElem?_cons_zero, Option.some.injEq] at ho); subst ho; (try dsimp only at hSw); go_simp; (first | done | with_reducible rfl))
    (try simp only [Act.put, List.setIfInBounds_toArray, List.set_cons_zero, List.set_cons_succ])
    refine hand_skip 4 (some 45) (by kernel_rfl) (by kernel_rfl) (by kernel_rfl) (by kernel_rfl) (by kernel_rfl) (fun _ _ _ h => h) (by assumption) ?_
    (try simp only [Act.put, List.setIfInBounds_toArray, List.set_cons_zero, List.set_cons_succ])
    refine hand_skip 5 (some 46) (by kernel_rfl) (by kernel_rfl) (by kernel_rfl) (by kernel_rfl) (by kernel_rfl) (fun _ _ _ h => h) (by assumption) ?_
    (try simp only [Act.put, List.setIfInBounds_toArray, List.set_cons_zero, List.set_cons_succ])
    refine hand_skip 6 (some 47) (by kernel_rfl) (by kernel_rfl) (by kernel_rfl) (by kernel_rfl) (by kernel_rfl) (fun _ _ _ h => h) (by assumption) ?_
    (try simp only [Act.put, List.setIfInBounds_toArray, List.set_cons_zero, List.set_cons_succ])
    refine hand_skip 7 (some 48) (by kernel_rfl) (by kernel_rfl) (by kernel_rfl) (by kernel_rfl) (by kernel_rfl) (fun _ _ _ h => h) (by assumption) ?_
    (try simp only [Act.put, List.setIfInBounds_toArray, List.set_cons_zero, List.set_cons_succ])
    refine hand_skip 8 (some 49) (by kernel_rfl) (by kernel_rfl) (by kernel_rfl) (by kernel_rfl) (by kernel_rfl) (fun _ _ _ h => h) (by assumption) ?_
    (try simp only [Act.put, List.setIfInBounds_toArray, List.set_cons_zero, List.set_cons_succ])
    refine hand_skip 9 (some 50) (by kernel_rfl) (by kernel_rfl) (by kernel_rfl) (by kernel_rfl) (by kernel_rfl) (fun _ _ _ h => h) (by assumption) ?_
    (try simp only [Act.put, List.setIfInBounds_toArray, List.set_cons_zero, List.set_cons_succ])
    refine hand_take 10 (some 51) ?_ (by kernel_rfl) (by kernel_rfl) (by kernel_rfl) (by kernel_rfl) (by kernel_rfl) (fun _ _ _ h => h) ?_ (by assumption) ?_
    rotate_left
    · (intro o ho w hSw; (simp only [List.getElem?_toArray, List.getElem?_cons_succ, List.getElem?_cons_zero, Option.some.injEq] at ho); subst ho; (try dsimp only at hSw); go_simp; (first | done | with_reducible rfl))
    (try simp only [Act.put, List.setIfInBounds_toArray, List.set_cons_zero, List.set_cons_succ])
    refine hand_take 11 (some 40) ?_ (by kernel_rfl) (by kernel_rfl) (by kernel_rfl) (by kernel_rfl) (by kernel_rfl) (fun _ _ _ h => h) ?_ (by assumption) ?_
    rotate_left
    · (intro o ho w hSw; (simp only [List.getElem?_toArray, List.getElem?_cons_succ, List.getElem?_cons_zero, Option.some.injEq] at ho); subst ho; (try dsimp only at hSw); go_simp; (first | done | with_reducible rfl))
    (try simp only [Act.put, List.setIfInBounds_toArray, List.set_cons_zero, List.set_cons_succ])
    refine wpAnyH_done (by kernel_rfl) ?_ _
    clear hHeld
    have HMC2 := HMC _ H2.out
    obtain ⟨z0, z1, z2, z3⟩ := HS1.out
    rcases hmc with rfl | rfl | rfl
    · go_wp2_with fail
      with_reducible refine HMC2.out.mono ?_
      rintro e w4 ⟨rfl, hb⟩
      have hkp := Keeps.of_below hb
      have y0 := hkp.cell_ z0
      have y1 := hkp.cell_ z1
      have y2 := hkp.cell_ z2
      have y3 := hkp.cell_ z3
      have H4 := kept (H2.out.below hb)
      have HB4 := kept (bel_to hb HB2.out)
      have HAD4 := HAD _ H4.out
      clear hb hkp z0 z1 z2 z3
      go_wp2_with (first | (go_at_call 33; (with_reducible refine (HAD4.out).mono ?_); rintro e w5 ⟨rfl, hb⟩; have HX := kept (GLeft.after HB4.out hb); clear hb))
      go_ret
      exact ⟨rfl, HX.out⟩
    all_goals
      go_wp2_with (first | (go_at_call 31; (with_reducible refine (HMC2.out).mono ?_); rintro e w4 ⟨rfl, hb⟩; have HX := kept (bel_to hb HB2.out); clear hb))
      go_ret
      exact ⟨rfl, GLeft.of_below HW.out HX.out⟩
  · simp only [if_true] at HGO
    cases same
    · show Calls _ _ _ _ fun e w' => e = .returned (.int .i64 4) ∧ GLeft w r F gs w'
      simp only [Bool.not_false] at hnq
      go_enter Try.func29, Try.ntmps29
      go_wp2_with fail
      generalize w.alloc (.cells #[.int .i64 q.1, .int .i64 q.2, .int .i64 c, .int .i64 v] 33) = W0 at HK HB H0 ⊢
      with_reducible refine (HR _).out.mono ?_
      rintro e w1 ⟨rfl, hb⟩
      have hk := HK.out.below hb HK.out.lt
      have z0 : w1.cell? ⟨w.heap.size, 0, none⟩ = some (.int .i64 q.1) := hk.cell 0
      have z1 : w1.cell? ⟨w.heap.size, 1, none⟩ = some (.int .i64 q.2) := hk.cell 1
      have z2 : w1.cell? ⟨w.heap.size, 2, none⟩ = some (.int .i64 c) := hk.cell 2
      have z3 : w1.cell? ⟨w.heap.size, 3, none⟩ = some (.int .i64 v) := hk.cell 3
      have HS0 := kept (show (fun W' : World => W'.cell? ⟨w.heap.size, 0, none⟩ = some (.int .i64 q.1) ∧ W'.cell? ⟨w.heap.size, 1, none⟩ = some (.int .i64 q.2) ∧ W'.cell? ⟨w.heap.size, 2, none⟩ = some (.int .i64 c) ∧ W'.cell? ⟨w.heap.size, 3, none⟩ = some (.int .i64 v)) w1.drew from ⟨z0, z1, z2, z3⟩)
      have H1 := kept ((H0.out.below hb).below (Below.refl w1.heap.size w1).drew)
      have HB1 := kept (bel_to hb HB.out).drew
      have HGO1 := HGO _ H1.out
      clear hb hk
      go_wp2
      clear z0 z1 z2 z3
      refine wp_region_held_drew (S := (fun W' => W'.cell? ⟨w.heap.size, 0, none⟩ = some (.int .i64 q.1) ∧ W'.cell? ⟨w.heap.size, 1, none⟩ = some (.int .i64 q.2) ∧ W'.cell? ⟨w.heap.size, 2, none⟩ = some (.int .i64 c) ∧ W'.cell? ⟨w.heap.size, 3, none⟩ = some (.int .i64 v))) (by kernel_rfl) ?_ (fun hHeld => ?_)
      · ((try dsimp only); (first | with_reducible exact HS0.out | with_reducible exact HS1.out | (with_reducible exact HS2.out)))
      refine hand_take 0 (some 41) ?_ (by kernel_rfl) (by kernel_rfl) (by kernel_rfl) (by kernel_rfl) (by kernel_rfl) (fun _ _ _ h => h) ?_ (by assumption) ?_
      rotate_left
      · (intro o ho w hSw; (simp only [List.getElem?_toArray, List.getElem?_cons_succ, List.getElem?_cons_zero, Option.some.injEq] at ho); subst ho; (try dsimp only at hSw); go_simp; (first | done | with_reducible rfl))
      (try simp only [Act.put, List.setIfInBounds_toArray, List.set_cons_zero, List.set_cons_succ])
      refine hand_ready 1 (by kernel_rfl) (by kernel_rfl) (fun o ho K hK => ?_)
      (simp only [List.getElem?_toArray, List.getElem?_cons_succ, List.getElem?_cons_zero, Option.some.injEq] at ho)
      subst ho
      go_simp
      (go_at_call 32; (with_reducible refine HGO1.out.mono ?_); rintro e w2 ⟨⟨g2, o2, rfl⟩, hb⟩; (have hkp := Keeps.of_below hb); (have HS1 := kept (show (fun W' : World => W'.cell? ⟨w.heap.size, 0, none⟩ = some (.int .i64 q.1) ∧ W'.cell? ⟨w.heap.size, 1, none⟩ = some (.int .i64 q.2) ∧ W'.cell? ⟨w.heap.size, 2, none⟩ = some (.int .i64 c) ∧ W'.cell? ⟨w.heap.size, 3, none⟩ = some (.int .i64 v)) w2 from ⟨hkp.cell_ HS0.out.1, hkp.cell_ HS0.out.2.1, hkp.cell_ HS0.out.2.2.1, hkp.cell_ HS0.out.2.2.2⟩)); have H2 := kept (H1.out.below hb); have HB2 := kept (bel_to hb HB1.out); have HNX2 := HNX _ H2.out; clear hb hkp)
      (try go_wp2_with fail)
      refine hK.out _ _ ?_ (fun hHeld => ?_)
      · ((try dsimp only); (first | with_reducible exact HS0.out | with_reducible exact HS1.out | (with_reducible exact HS2.out)))
      clear hK K
      (try simp only [Act.put, List.setIfInBounds_toArray, List.set_cons_zero, List.set_cons_succ])
      refine hand_take 2 (some 43) ?_ (by kernel_rfl) (by kernel_rfl) (by kernel_rfl) (by kernel_rfl) (by kernel_rfl) (fun _ _ _ h => h) ?_ (by assumption) ?_
      rotate_left
      · (intro o ho w hSw; (simp only [List.getElem?_toArray, List.getElem?_cons_succ, List.getElem?_cons_zero, Option.some.injEq] at ho); subst ho; (try dsimp only at hSw); go_simp; (first | done | with_reducible rfl))
      (try simp only [Act.put, List.setIfInBounds_toArray, List.set_cons_zero, List.set_cons_succ])
      refine hand_take 3 (some 44) ?_ (by kernel_rfl) (by kernel_rfl) (by kernel_rfl) (by kernel_rfl) (by kernel_rfl) (fun _ _ _ h => h) ?_ (by assumption) ?_
      rotate_left
      · (intro o ho w hSw; (simp only [List.getElem?_toArray, List.getElem?_cons_succ, List.getElem?_cons_zero, Option.some.injEq] at ho); subst ho; (try dsimp only at hSw); go_simp; (first | done | with_reducible rfl))
      (try simp only [Act.put, List.setIfInBounds_toArray, List.set_cons_zero, List.set_cons_succ])
      refine hand_take 4 (some 45) ?_ (by kernel_rfl) (by kernel_rfl) (by kernel_rfl) (by kernel_rfl) (by kernel_rfl) (fun _ _ _ h => h) ?_ (by assumption) ?_
      rotate_left
      · (intro o ho w hSw; (simp only [List.getElem?_toArray, List.getElem?_cons_succ, List.getElem?_cons_zero, Option.some.injEq] at ho); subst ho; (try dsimp only at hSw); go_simp; (first | done | with_reducible rfl))
      (try simp only [Act.put, List.setIfInBounds_toArray, List.set_cons_zero, List.set_cons_succ])
      refine hand_take 5 (some 46) ?_ (by kernel_rfl) (by kernel_rfl) (by kernel_rfl) (by kernel_rfl) (by kernel_rfl) (fun _ _ _ h => h) ?_ (by assumption) ?_
      rotate_left
      · (intro o ho w hSw; (simp only [List.getElem?_toArray, List.getElem?_cons_succ, List.getElem?_cons_zero, Option.some.injEq] at ho); subst ho; (try dsimp only at hSw); go_simp; (first | done | with_reducible rfl))
      (try simp only [Act.put, List.setIfInBounds_toArray, List.set_cons_zero, List.set_cons_succ])
      refine hand_take 6 (some 47) ?_ (by kernel_rfl) (by kernel_rfl) (by kernel_rfl) (by kernel_rfl) (by kernel_rfl) (fun _ _ _ h => h) ?_ (by assumption) ?_
      rotate_left
      · (intro o ho w hSw; (simp only [List.getElem?_toArray, List.getElem?_cons_succ, List.getElem?_cons_zero, Option.some.injEq] at ho); subst ho; (try dsimp only at hSw); go_simp; (first | done | with_reducible rfl))
      (try simp only [Act.put, List.setIfInBounds_toArray, List.set_cons_zero, List.set_cons_succ])
      refine hand_take 7 (some 48) ?_ (by kernel_rfl) (by kernel_rfl) (by kernel_rfl) (by kernel_rfl) (by kernel_rfl) (fun _ _ _ h => h) ?_ (by assumption) ?_
      rotate_left
      · (intro o ho w hSw; (simp only [List.getElem?_toArray, List.getElem?_cons_succ, List.getElem?_cons_zero, Option.some.injEq] at ho); subst ho; (try dsimp only at hSw); go_simp; (first | done | with_reducible rfl))
      (try simp only [Act.put, List.setIfInBounds_toArray, List.set_cons_zero, List.set_cons_succ])
      refine hand_ready 8 (by kernel_rfl) (by kernel_rfl) (fun o ho K hK => ?_)
      (simp only [List.getElem?_toArray, List.getElem?_cons_succ, List.getElem?_cons_zero, Option.some.injEq] at ho)
      subst ho
      go_simp
      (go_at_call 34; (with_reducible refine HNX2.out.mono ?_); rintro e w3 ⟨rfl, hb⟩; (have hkp := Keeps.of_below hb); (have HS2 := kept (show (fun W' : World => W'.cell? ⟨w.heap.size, 0, none⟩ = some (.int .i64 q.1) ∧ W'.cell? ⟨w.heap.size, 1, none⟩ = some (.int .i64 q.2) ∧ W'.cell? ⟨w.heap.size, 2, none⟩ = some (.int .i64 c) ∧ W'.cell? ⟨w.heap.size, 3, none⟩ = some (.int .i64 v)) w3 from ⟨hkp.cell_ HS1.out.1, hkp.cell_ HS1.out.2.1, hkp.cell_ HS1.out.2.2.1, hkp.cell_ HS1.out.2.2.2⟩)); have H3 := kept (H2.out.below hb); have HB3 := kept (bel_to hb HB2.out); clear hb hkp)
      (try go_wp2_with fail)
      refine hK.out _ _ ?_ (fun hHeld => ?_)
      · ((try dsimp only); (first | with_reducible exact HS0.out | with_reducible exact HS1.out | (with_reducible exact HS2.out)))
      clear hK K
      (try simp only [Act.put, List.setIfInBounds_toArray, List.set_cons_zero, List.set_cons_succ])
      refine hand_take 9 (some 50) ?_ (by kernel_rfl) (by kernel_rfl) (by kernel_rfl) (by kernel_rfl) (by kernel_rfl) (fun _ _ _ h => h) ?_ (by assumption) ?_
      rotate_left
      · (intro o ho w hSw; (simp only [List.getElem?_toArray, List.getElem?_cons_succ, List.getElem?_cons_zero, Option.some.injEq] at ho); subst ho; (try dsimp only at hSw); go_simp; (first | done | with_reducible rfl))
      (try simp only [Act.put, List.setIfInBounds_toArray, List.set_cons_zero, List.set_cons_succ])
      refine hand_take 10 (some 51) ?_ (by kernel_rfl) (by kernel_rfl) (by kernel_rfl) (by kernel_rfl) (by kernel_rfl) (fun _ _ _ h => h) ?_ (by assumption) ?_
      rotate_left
      · (intro o ho w hSw; (simp only [List.getElem?_toArray, List.getElem?_cons_succ, List.getElem?_cons_zero, Option.some.injEq] at ho); subst ho; (try dsimp only at hSw); go_simp; (first | done | with_reducible rfl))
      (try simp only [Act.put, List.setIfInBounds_toArray, List.set_cons_zero, List.set_cons_succ])
      refine hand_take 11 (some 40) ?_ (by kernel_rfl) (by kernel_rfl) (by kernel_rfl) (by kernel_rfl) (by kernel_rfl) (fun _ _ _ h => h) ?_ (by assumption) ?_
      rotate_left
      · (intro o ho w hSw; (simp only [List.getElem?_toArray, List.getElem?_cons_succ, List.getElem?_cons_zero, Option.some.injEq] at ho); subst ho; (try dsimp only at hSw); go_simp; (first | done | with_reducible rfl))
      (try simp only [Act.put, List.setIfInBounds_toArray, List.set_cons_zero, List.set_cons_succ])
      refine wpAnyH_done (by kernel_rfl) ?_ _
      clear hHeld
      go_wp2
      go_ret
      exact ⟨rfl, GLeft.of_below HW.out HB3.out⟩
    · simp only [Bool.not_true, Bool.and_false, Bool.false_eq_true, if_false, true_and] at hnq ⊢
      go_enter Try.func29, Try.ntmps29
      go_wp2_with fail
      generalize w.alloc (.cells #[.int .i64 q.1, .int .i64 q.2, .int .i64 c, .int .i64 v] 33) = W0 at HK HB H0 ⊢
      with_reducible refine (HR _).out.mono ?_
      rintro e w1 ⟨rfl, hb⟩
      have hk := HK.out.below hb HK.out.lt
      have z0 : w1.cell? ⟨w.heap.size, 0, none⟩ = some (.int .i64 q.1) := hk.cell 0
      have z1 : w1.cell? ⟨w.heap.size, 1, none⟩ = some (.int .i64 q.2) := hk.cell 1
      have z2 : w1.cell? ⟨w.heap.size, 2, none⟩ = some (.int .i64 c) := hk.cell 2
      have z3 : w1.cell? ⟨w.heap.size, 3, none⟩ = some (.int .i64 v) := hk.cell 3
      have HS0 := kept (show (fun W' : World => W'.cell? ⟨w.heap.size, 0, none⟩ = some (.int .i64 q.1) ∧ W'.cell? ⟨w.heap.size, 1, none⟩ = some (.int .i64 q.2) ∧ W'.cell? ⟨w.heap.size, 2, none⟩ = some (.int .i64 c) ∧ W'.cell? ⟨w.heap.size, 3, none⟩ = some (.int .i64 v)) w1.drew from ⟨z0, z1, z2, z3⟩)
      have H1 := kept ((H0.out.below hb).below (Below.refl w1.heap.size w1).drew)
      have HB1 := kept (bel_to hb HB.out).drew
      have HGO1 := HGO _ H1.out
      clear hb hk
      go_wp2
      clear z0 z1 z2 z3
      refine wp_region_held_drew (S := (fun W' => W'.cell? ⟨w.heap.size, 0, none⟩ = some (.int .i64 q.1) ∧ W'.cell? ⟨w.heap.size, 1, none⟩ = some (.int .i64 q.2) ∧ W'.cell? ⟨w.heap.size, 2, none⟩ = some (.int .i64 c) ∧ W'.cell? ⟨w.heap.size, 3, none⟩ = some (.int .i64 v))) (by kernel_rfl) ?_ (fun hHeld => ?_)
      · ((try dsimp only); (first | with_reducible exact HS0.out | with_reducible exact HS1.out | (with_reducible exact HS2.out)))
      refine hand_take 0 (some 41) ?_ (by kernel_rfl) (by kernel_rfl) (by kernel_rfl) (by kernel_rfl) (by kernel_rfl) (fun _ _ _ h => h) ?_ (by assumption) ?_
      rotate_left
      · (intro o ho w hSw; (simp only [List.getElem?_toArray, List.getElem?_cons_succ, List.getElem?_cons_zero, Option.some.injEq] at ho); subst ho; (try dsimp only at hSw); go_simp; (first | done | with_reducible rfl))
      (try simp only [Act.put, List.setIfInBounds_toArray, List.set_cons_zero, List.set_cons_succ])
      refine hand_ready 1 (by kernel_rfl) (by kernel_rfl) (fun o ho K hK => ?_)
      (simp only [List.getElem?_toArray, List.getElem?_cons_succ, List.getElem?_cons_zero, Option.some.injEq] at ho)
      subst ho
      go_simp
      (go_at_call 32; (with_reducible refine HGO1.out.mono ?_); rintro e w2 ⟨⟨g2, o2, rfl⟩, hb⟩; (have hkp := Keeps.of_below hb); (have HS1 := kept (show (fun W' : World => W'.cell? ⟨w.heap.size, 0, none⟩ = some (.int .i64 q.1) ∧ W'.cell? ⟨w.heap.size, 1, none⟩ = some (.int .i64 q.2) ∧ W'.cell? ⟨w.heap.size, 2, none⟩ = some (.int .i64 c) ∧ W'.cell? ⟨w.heap.size, 3, none⟩ = some (.int .i64 v)) w2 from ⟨hkp.cell_ HS0.out.1, hkp.cell_ HS0.out.2.1, hkp.cell_ HS0.out.2.2.1, hkp.cell_ HS0.out.2.2.2⟩)); have H2 := kept (H1.out.below hb); have HB2 := kept (bel_to hb HB1.out); have HNX2 := HNX _ H2.out; clear hb hkp)
      (try go_wp2_with fail)
      refine hK.out _ _ ?_ (fun hHeld => ?_)
      · ((try dsimp only); (first | with_reducible exact HS0.out | with_reducible exact HS1.out | (with_reducible exact HS2.out)))
      clear hK K
      (try simp only [Act.put, List.setIfInBounds_toArray, List.set_cons_zero, List.set_cons_succ])
      refine hand_take 2 (some 43) ?_ (by kernel_rfl) (by kernel_rfl) (by kernel_rfl) (by kernel_rfl) (by kernel_rfl) (fun _ _ _ h => h) ?_ (by assumption) ?_
      rotate_left
      · (intro o ho w hSw; (simp only [List.getElem?_toArray, List.getElem?_cons_succ, List.getElem?_cons_zero, Option.some.injEq] at ho); subst ho; (try dsimp only at hSw); go_simp; (first | done | with_reducible rfl))
      (try simp only [Act.put, List.setIfInBounds_toArray, List.set_cons_zero, List.set_cons_succ])
      refine hand_take 3 (some 44) ?_ (by kernel_rfl) (by kernel_rfl) (by kernel_rfl) (by kernel_rfl) (by kernel_rfl) (fun _ _ _ h => h) ?_ (by assumption) ?_
      rotate_left
      · (intro o ho w hSw; (simp only [List.getElem?_toArray, List.getElem?_cons_succ, List.getElem?_cons_zero, Option.some.injEq] at ho); subst ho; (try dsimp only at hSw); go_simp; (first | done | with_reducible rfl))
      (try simp only [Act.put, List.setIfInBounds_toArray, List.set_cons_zero, List.set_cons_succ])
      refine hand_take 4 (some 45) ?_ (by kernel_rfl) (by kernel_rfl) (by kernel_rfl) (by kernel_rfl) (by kernel_rfl) (fun _ _ _ h => h) ?_ (by assumption) ?_
      rotate_left
      · (intro o ho w hSw; (simp only [List.getElem?_toArray, List.getElem?_cons_succ, List.getElem?_cons_zero, Option.some.injEq] at ho); subst ho; (try dsimp only at hSw); go_simp; (first | done | with_reducible rfl))
      (try simp only [Act.put, List.setIfInBounds_toArray, List.set_cons_zero, List.set_cons_succ])
      refine hand_take 5 (some 46) ?_ (by kernel_rfl) (by kernel_rfl) (by kernel_rfl) (by kernel_rfl) (by kernel_rfl) (fun _ _ _ h => h) ?_ (by assumption) ?_
      rotate_left
      · (intro o ho w hSw; (simp only [List.getElem?_toArray, List.getElem?_cons_succ, List.getElem?_cons_zero, Option.some.injEq] at ho); subst ho; (try dsimp only at hSw); go_simp; (first | done | with_reducible rfl))
      (try simp only [Act.put, List.setIfInBounds_toArray, List.set_cons_zero, List.set_cons_succ])
      refine hand_take 6 (some 47) ?_ (by kernel_rfl) (by kernel_rfl) (by kernel_rfl) (by kernel_rfl) (by kernel_rfl) (fun _ _ _ h => h) ?_ (by assumption) ?_
      rotate_left
      · (intro o ho w hSw; (simp only [List.getElem?_toArray, List.getElem?_cons_succ, List.getElem?_cons_zero, Option.some.injEq] at ho); subst ho; (try dsimp only at hSw); go_simp; (first | done | with_reducible rfl))
      (try simp only [Act.put, List.setIfInBounds_toArray, List.set_cons_zero, List.set_cons_succ])
      refine hand_take 7 (some 48) ?_ (by kernel_rfl) (by kernel_rfl) (by kernel_rfl) (by kernel_rfl) (by kernel_rfl) (fun _ _ _ h => h) ?_ (by assumption) ?_
      rotate_left
      · (intro o ho w hSw; (simp only [List.getElem?_toArray, List.getElem?_cons_succ, List.getElem?_cons_zero, Option.some.injEq] at ho); subst ho; (try dsimp only at hSw); go_simp; (first | done | with_reducible rfl))
      (try simp only [Act.put, List.setIfInBounds_toArray, List.set_cons_zero, List.set_cons_succ])
      refine hand_ready 8 (by kernel_rfl) (by kernel_rfl) (fun o ho K hK => ?_)
      (simp only [List.getElem?_toArray, List.getElem?_cons_succ, List.getElem?_cons_zero, Option.some.injEq] at ho)
      subst ho
      go_simp
      (go_at_call 34; (with_reducible refine HNX2.out.mono ?_); rintro e w3 ⟨rfl, hb⟩; (have hkp := Keeps.of_below hb); (have HS2 := kept (show (fun W' : World => W'.cell? ⟨w.heap.size, 0, none⟩ = some (.int .i64 q.1) ∧ W'.cell? ⟨w.heap.size, 1, none⟩ = some (.int .i64 q.2) ∧ W'.cell? ⟨w.heap.size, 2, none⟩ = some (.int .i64 c) ∧ W'.cell? ⟨w.heap.size, 3, none⟩ = some (.int .i64 v)) w3 from ⟨hkp.cell_ HS1.out.1, hkp.cell_ HS1.out.2.1, hkp.cell_ HS1.out.2.2.1, hkp.cell_ HS1.out.2.2.2⟩)); have H3 := kept (H2.out.below hb); have HB3 := kept (bel_to hb HB2.out); clear hb hkp)
      (try go_wp2_with fail)
      refine hK.out _ _ ?_ (fun hHeld => ?_)
      · ((try dsimp only); (first | with_reducible exact HS0.out | with_reducible exact HS1.out | (with_reducible exact HS2.out)))
      clear hK K
      (try simp only [Act.put, List.setIfInBounds_toArray, List.set_cons_zero, List.set_cons_succ])
      refine hand_take 9 (some 50) ?_ (by kernel_rfl) (by kernel_rfl) (by kernel_rfl) (by kernel_rfl) (by kernel_rfl) (fun _ _ _ h => h) ?_ (by assumption) ?_
      rotate_left
      · (intro o ho w hSw; (simp only [List.getElem?_toArray, List.getElem?_cons_succ, List.getElem?_cons_zero, Option.some.injEq] at ho); subst ho; (try dsimp only at hSw); go_simp; (first | done | with_reducible rfl))
      (try simp only [Act.put, List.setIfInBounds_toArray, List.set_cons_zero, List.set_cons_succ])
      refine hand_take 10 (some 51) ?_ (by kernel_rfl) (by kernel_rfl) (by kernel_rfl) (by kernel_rfl) (by kernel_rfl) (fun _ _ _ h => h) ?_ (by assumption) ?_
      rotate_left
      · (intro o ho w hSw; (simp only [List.getElem?_toArray, List.getElem?_cons_succ, List.getElem?_cons_zero, Option.some.injEq] at ho); subst ho; (try dsimp only at hSw); go_simp; (first | done | with_reducible rfl))
      (try simp only [Act.put, List.setIfInBounds_toArray, List.set_cons_zero, List.set_cons_succ])
      refine hand_take 11 (some 40) ?_ (by kernel_rfl) (by kernel_rfl) (by kernel_rfl) (by kernel_rfl) (by kernel_rfl) (fun _ _ _ h => h) ?_ (by assumption) ?_
      rotate_left
      · (intro o ho w hSw; (simp only [List.getElem?_toArray, List.getElem?_cons_succ, List.getElem?_cons_zero, Option.some.injEq] at ho); subst ho; (try dsimp only at hSw); go_simp; (first | done | with_reducible rfl))
      (try simp only [Act.put, List.setIfInBounds_toArray, List.set_cons_zero, List.set_cons_succ])
      refine wpAnyH_done (by kernel_rfl) ?_ _
      clear hHeld
      have HMC3 := HMC _ H3.out
      obtain ⟨z0, z1, z2, z3⟩ := HS2.out
      rcases hmc with rfl | rfl | rfl
      · go_wp2_with fail
        with_reducible refine HMC3.out.mono ?_
        rintro e w4 ⟨rfl, hb⟩
        have hkp := Keeps.of_below hb
        have y0 := hkp.cell_ z0
        have y1 := hkp.cell_ z1
        have y2 := hkp.cell_ z2
        have y3 := hkp.cell_ z3
        have H4 := kept (H3.out.below hb)
        have HB4 := kept (bel_to hb HB3.out)
        have HAD4 := HAD _ H4.out
        clear hb hkp z0 z1 z2 z3
        go_wp2_with (first | (go_at_call 33; (with_reducible refine (HAD4.out).mono ?_); rintro e w5 ⟨rfl, hb⟩; have HX := kept (GLeft.after HB4.out hb); clear hb))
        go_ret
        exact ⟨rfl, HX.out⟩
      all_goals
        go_wp2_with (first | (go_at_call 31; (with_reducible refine (HMC3.out).mono ?_); rintro e w4 ⟨rfl, hb⟩; have HX := kept (bel_to hb HB3.out); clear hb))
        go_ret
        exact ⟨rfl, GLeft.of_below HW.out HX.out⟩
theorem grest_put {w : World} {r : Nat} {F : Nat → Prop} {gs : List Gn} (h : Gs w r F gs) (hi : GInv gs) {N : Nat} (hN : BdG gs N) (hn : N ≤ 900000) (q : Rv) (c v : Int) :
    Calls Try.prog 29 #[.pointer (some ⟨r, 0, none⟩), .agg #[.int .i64 q.1, .int .i64 q.2, .int .i64 c, .int .i64 v], .bool false] w fun e w' => e = .returned (.int .i64 (restC gs q c v)) ∧ GLeft w r F (restG gs q c v) w' := by
  cases hk : okR q c v
  · have e : restC gs q c v = 2 := by unfold restC; rw [hk]; rfl
    have e' : restG gs q c v = gs := by unfold restG; rw [e]; rfl
    rw [e, e']
    exact (grest_bad q c v hk).mono fun e w' ⟨h1, h2⟩ => ⟨h1, GLeft.of_below h h2⟩
  · have e : restC gs q c v = if goingG gs && !decide ((c, v) = nextG gs q) then 4 else mcG gs q := by unfold restC; rw [hk]; rfl
    have e' : restG gs q c v = if (goingG gs && !decide ((c, v) = nextG gs q)) = false ∧ mcG gs q = 0 then addG gs q c v else gs := by
      unfold restG
      rw [e]
      cases goingG gs && !decide ((c, v) = nextG gs q) <;> simp
    rw [e, e']
    exact grest_ok h hi hN hn q c v hk
end Go.Proofs.Ythpaliagmnclfaa
