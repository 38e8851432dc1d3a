/-
  A revision as plain data: what is right, and the order; rev.Right, rev.Compare, the document's Right and Ahead.
-/
import Derived.Test.YthpaliagmnclfaaMk
import Derived.Test.YthpaliagmnclfaaHnd
namespace Go.Proofs.Ythpaliagmnclfaa
open Go.ChangeShapes Go.WideShapes Go.ChangeAt Go.RowKit Go.Deep
set_option linter.unusedVariables false
set_option linter.unusedSimpArgs false

def rightR (M S : Int) : Bool := decide (1 ≤ M) && decide (M ≤ 4611686018427387904) && decide (0 ≤ S) && decide (S ≤ 4611686018427387904)
theorem rightR_nat {M S : Int} (h : rightR M S = true) : ∃ m s : Nat, M = (m : Int) ∧ S = (s : Int) ∧ 1 ≤ m ∧ m ≤ 4611686018427387904 ∧ s ≤ 4611686018427387904 := by
  simp only [rightR, Bool.and_eq_true, decide_eq_true_eq] at h
  exact ⟨M.toNat, S.toNat, by omega, by omega, by omega, by omega, by omega⟩
theorem rightR_yes {m s : Nat} (h1 : 1 ≤ m) (h2 : m ≤ 4611686018427387904) (h3 : s ≤ 4611686018427387904) : rightR (m : Int) (s : Int) = true := by
  simp only [rightR, Bool.and_eq_true, decide_eq_true_eq]; omega
/-- The order of revisions. -/
def ordR (M S M' S' : Int) : Int := if M < M' then -1 else if M' < M then 1 else if S < S' then -1 else if S' < S then 1 else 0
theorem right_r (M S : Int) (w : World) :
    Calls Try.prog 42 #[.agg #[.int .i64 M, .int .i64 S]] w fun e w' => e = .returned (.bool (rightR M S)) ∧ Below w.heap.size w w' := by
  have HB0 := kept ((Below.refl w.heap.size w).alloc (Nat.le_refl _) (.cells #[.int .i64 M, .int .i64 S] 29))
  go_enter Try.func42, Try.ntmps42
  go_wp2
  all_goals
    go_ret
    exact ⟨ret_bool (by rw [Bool.eq_iff_iff]; simp [rightR] <;> omega), HB0.out⟩
theorem refRight_r (M S : Int) (w : World) :
    Calls Try.prog 43 #[.agg #[.int .i64 M, .int .i64 S]] w fun e w' => e = .returned (.bool (rightR M S)) ∧ Below w.heap.size w w' := by
  have HB0 := kept ((Below.refl w.heap.size w).alloc (Nat.le_refl _) (.cells #[.int .i64 M, .int .i64 S] 29))
  go_enter Try.func43, Try.ntmps43
  go_wp2
  all_goals
    go_ret
    exact ⟨ret_bool (by rw [Bool.eq_iff_iff]; simp [rightR] <;> omega), HB0.out⟩
/-- A revision's box. -/
abbrev Two (W : World) (b : Nat) (x y : Int) : Prop := W.cell? ⟨b, 0, none⟩ = some (.int .i64 x) ∧ W.cell? ⟨b, 1, none⟩ = some (.int .i64 y)
theorem Two.keeps {W W' : World} {b : Nat} {x y : Int} (h : Two W b x y) (k : Keeps W W') : Two W' b x y := ⟨k.cell_ h.1, k.cell_ h.2⟩
theorem two_new (W : World) (t : TypeId) (x y : Int) : Two (W.alloc (.cells #[.int .i64 x, .int .i64 y] t)) W.heap.size x y := by
  have h := Blk.new W t #[.int .i64 x, .int .i64 y]
  exact ⟨h.cell 0, h.cell 1⟩
def cmpI (x y : Int) : Int := if x < y then -1 else if y < x then 1 else 0
theorem ordR_cmp (M S M' S' : Int) : ordR M S M' S' = if cmpI M M' = 0 then cmpI S S' else cmpI M M' := by
  unfold ordR cmpI
  by_cases h1 : M < M'
  · simp [h1]
  · by_cases h2 : M' < M <;> simp [h1, h2]
theorem isNaN_i (x : Int) (w : World) : Calls Try.prog 51 #[.int .i64 x] w fun e w' => e = .returned (.bool false) ∧ w = w' := by
  go_enter Try.func51, Try.ntmps51
  go_wp2
  go_ret
  exact ⟨by first | rfl | simp, rfl⟩
theorem cmp_i (x y : Int) (w : World) : Calls Try.prog 48 #[.int .i64 x, .int .i64 y] w fun e w' => e = .returned (.int .i64 (cmpI x y)) ∧ w = w' := by
  have HN := fun x => kept (isNaN_i x w)
  by_cases h1 : x < y
  · have e : Hid (cmpI x y = -1) := by show _ = _; simp [cmpI, h1]
    go_enter Try.func48, Try.ntmps48
    go_wp2_with (first | (go_at_call 51; (with_reducible refine ((HN _).out).mono ?_); rintro e w1 ⟨rfl, rfl⟩))
    go_ret
    exact ⟨ret_int e.out.symm, rfl⟩
  · by_cases h2 : y < x
    · have e : Hid (cmpI x y = 1) := by show _ = _; simp [cmpI, h1, h2]
      go_enter Try.func48, Try.ntmps48
      go_wp2_with (first | (go_at_call 51; (with_reducible refine ((HN _).out).mono ?_); rintro e w1 ⟨rfl, rfl⟩))
      go_ret
      exact ⟨ret_int e.out.symm, rfl⟩
    · have e : Hid (cmpI x y = 0) := by show _ = _; simp [cmpI, h1, h2]
      go_enter Try.func48, Try.ntmps48
      go_wp2_with (first | (go_at_call 51; (with_reducible refine ((HN _).out).mono ?_); rintro e w1 ⟨rfl, rfl⟩))
      go_ret
      exact ⟨ret_int e.out.symm, rfl⟩
theorem or_two (x y : Int) (g : Nat) (w : World) (h0 : w.cell? ⟨g, 0, none⟩ = some (.int .i64 x)) (h1 : w.cell? ⟨g, 1, none⟩ = some (.int .i64 y)) :
    Calls Try.prog 47 #[.slice (some ⟨g, 0, none⟩) 2 2] w fun e w' => e = .returned (.int .i64 (if x = 0 then y else x)) ∧ w = w' := by
  obtain ⟨r, E⟩ : ∃ r, (if x = 0 then y else x) = r := ⟨_, rfl⟩
  rw [E]
  have E' := kept E.symm
  clear E
  go_enter Try.func47, Try.ntmps47
  go_wp2
  go_loop [8] (fun i => ∃ k : Nat, k ≤ 2 ∧ i = .int .i64 k ∧ Hid (0 < k → x = 0) ∧ Hid (1 < k → y = 0)) (fun i => 2 - (intOf i).toNat)
  case atStart => exact ⟨0, by omega, rfl, kept (fun h => absurd h (by omega)), kept (fun h => absurd h (by omega))⟩
  case round =>
    obtain ⟨k, hk, rfl, HX, HY⟩ := hrel
    match k, hk with
    | 0, _ =>
      by_cases hx : x = 0
      · subst hx
        go_wp2
        go_round
        case rel => exact ⟨1, by omega, by go_num, kept (fun _ => by first | rfl | trivial), kept (fun h => absurd h (by omega))⟩
        case measure => simp [intOf]
      · have hx2 : (x != 0) = true := by simpa using hx
        go_wp2
        go_ret
        exact ⟨ret_int (by rw [E'.out, if_neg hx]), rfl⟩
    | 1, _ =>
      have hx := HX.out (by omega)
      by_cases hy : y = 0
      · subst hy
        go_wp2
        go_round
        case rel => exact ⟨2, by omega, by go_num, kept (fun _ => hx), kept (fun _ => by first | rfl | trivial)⟩
        case measure => simp [intOf]
      · have hy2 : (y != 0) = true := by simpa using hy
        go_wp2
        go_ret
        exact ⟨ret_int (by rw [E'.out, if_pos hx]), rfl⟩
    | 2, _ =>
      have hx := HX.out (by omega)
      have hy := HY.out (by omega)
      go_wp2
      go_ret
      exact ⟨ret_int (by rw [E'.out, if_pos hx, hy]), rfl⟩
theorem or_new (x y : Int) (t : TypeId) (w W : World) (hW : W = w.alloc (.cells #[.int .i64 x, .int .i64 y] t)) :
    Calls Try.prog 47 #[.slice (some ⟨w.heap.size, 0, none⟩) 2 2] W fun e w' => e = .returned (.int .i64 (if x = 0 then y else x)) ∧ W = w' := by
  subst hW
  have h := Blk.new w t #[.int .i64 x, .int .i64 y]
  exact or_two x y w.heap.size _ (h.cell 0) (h.cell 1)
set_option maxHeartbeats 2000000 in
theorem cmp_rev (M S M' S' : Int) (w : World) :
    Calls Try.prog 37 #[.agg #[.int .i64 M, .int .i64 S], .agg #[.int .i64 M', .int .i64 S']] w fun e w' => e = .returned (.int .i64 (ordR M S M' S')) ∧ Below w.heap.size w w' := by
  rw [ordR_cmp]
  have HC1 := fun w => kept (cmp_i M M' w)
  have HC2 := fun w => kept (cmp_i S S' w)
  generalize cmpI M M' = c1 at HC1 ⊢
  generalize cmpI S S' = c2 at HC2 ⊢
  obtain ⟨r, hr⟩ : ∃ r, (if c1 = 0 then c2 else c1) = r := ⟨_, rfl⟩
  have HOR : ∀ (t : TypeId) (w W : World), W = w.alloc (.cells #[.int .i64 c1, .int .i64 c2] t) → Hid _ := fun t w W h => kept (or_new c1 c2 t w W h)
  rw [hr] at HOR ⊢
  have ht1 := (two_new w 29 M S).keeps (Keeps.alloc _ (.cells #[.int .i64 M', .int .i64 S'] 29))
  have ht2 := two_new (w.alloc (.cells #[.int .i64 M, .int .i64 S] 29)) 29 M' S'
  rw [show (w.alloc (.cells #[.int .i64 M, .int .i64 S] 29)).heap.size = w.heap.size + 1 by simp] at ht2
  have hb0 := ((Below.refl w.heap.size w).alloc (Nat.le_refl _) (.cells #[.int .i64 M, .int .i64 S] 29)).alloc (by simp) (.cells #[.int .i64 M', .int .i64 S'] 29)
  have HT1 := kept ht1
  have HT2 := kept ht2
  have HB := kept hb0
  clear ht1 ht2 hb0 hr
  go_enter Try.func37, Try.ntmps37
  go_wp2_with fail
  generalize (w.alloc (.cells #[.int .i64 M, .int .i64 S] 29)).alloc (.cells #[.int .i64 M', .int .i64 S'] 29) = W0 at HT1 HT2 HB ⊢
  have HS : Hid (Two W0.drew w.heap.size M S ∧ Two W0.drew (w.heap.size + 1) M' S') := kept ⟨HT1.out, HT2.out⟩
  replace HB := kept HB.out.drew
  refine wp_region_held_drew (S := (fun W' => (W'.cell? ⟨w.heap.size, 0, none⟩ = some (.int .i64 M) ∧ W'.cell? ⟨w.heap.size, 1, none⟩ = some (.int .i64 S)) ∧ (W'.cell? ⟨w.heap.size + 1, 0, none⟩ = some (.int .i64 M') ∧ W'.cell? ⟨w.heap.size + 1, 1, none⟩ = some (.int .i64 S')))) (by kernel_rfl) ?_ (fun hHeld => ?_)
  · ((try dsimp only); (with_reducible exact HS.out))
  generalize W0.drew = W at HB HS hHeld ⊢
  refine hand_take 0 (some 5) ?_ (by kernel_rfl) (by kernel_rfl) (by kernel_rfl) (by kernel_rfl) (by kernel_rfl) (fun _ _ _ h => h) ?_ (by assumption) ?_
  rotate_left
  · (intro o ho w hSw; (simp only [List.getElem?_toArray, List.getElem?_cons_succ, List.getElem?_cons_zero, Option.some.injEq] at ho); subst ho; (try dsimp only at hSw); go_simp; (first | done | with_reducible rfl))
  (try simp only [Act.put, List.setIfInBounds_toArray, List.set_cons_zero, List.set_cons_succ])
  refine hand_take 1 (some 6) ?_ (by kernel_rfl) (by kernel_rfl) (by kernel_rfl) (by kernel_rfl) (by kernel_rfl) (fun _ _ _ h => h) ?_ (by assumption) ?_
  rotate_left
  · (intro o ho w hSw; (simp only [List.getElem?_toArray, List.getElem?_cons_succ, List.getElem?_cons_zero, Option.some.injEq] at ho); subst ho; (try dsimp only at hSw); go_simp; (first | done | with_reducible rfl))
  (try simp only [Act.put, List.setIfInBounds_toArray, List.set_cons_zero, List.set_cons_succ])
  refine hand_take 2 (some 7) ?_ (by kernel_rfl) (by kernel_rfl) (by kernel_rfl) (by kernel_rfl) (by kernel_rfl) (fun _ _ _ h => h) ?_ (by assumption) ?_
  rotate_left
  · (intro o ho w hSw; (simp only [List.getElem?_toArray, List.getElem?_cons_succ, List.getElem?_cons_zero, Option.some.injEq] at ho); subst ho; (try dsimp only at hSw); go_simp; (first | done | with_reducible rfl))
  (try simp only [Act.put, List.setIfInBounds_toArray, List.set_cons_zero, List.set_cons_succ])
  refine hand_take 3 (some 8) ?_ (by kernel_rfl) (by kernel_rfl) (by kernel_rfl) (by kernel_rfl) (by kernel_rfl) (fun _ _ _ h => h) ?_ (by assumption) ?_
  rotate_left
  · (intro o ho w hSw; (simp only [List.getElem?_toArray, List.getElem?_cons_succ, List.getElem?_cons_zero, Option.some.injEq] at ho); subst ho; (try dsimp only at hSw); go_simp; (first | done | with_reducible rfl))
  (try simp only [Act.put, List.setIfInBounds_toArray, List.set_cons_zero, List.set_cons_succ])
  refine hand_take 5 (some 10) ?_ (by kernel_rfl) (by kernel_rfl) (by kernel_rfl) (by kernel_rfl) (by kernel_rfl) (fun _ _ _ h => h) ?_ (by assumption) ?_
  rotate_left
  · (intro o ho w hSw; (simp only [List.getElem?_toArray, List.getElem?_cons_succ, List.getElem?_cons_zero, Option.some.injEq] at ho); subst ho; (try dsimp only at hSw); go_simp; (first | done | with_reducible rfl))
  (try simp only [Act.put, List.setIfInBounds_toArray, List.set_cons_zero, List.set_cons_succ])
  refine hand_take 6 (some 11) ?_ (by kernel_rfl) (by kernel_rfl) (by kernel_rfl) (by kernel_rfl) (by kernel_rfl) (fun _ _ _ h => h) ?_ (by assumption) ?_
  rotate_left
  · (intro o ho w hSw; (simp only [List.getElem?_toArray, List.getElem?_cons_succ, List.getElem?_cons_zero, Option.some.injEq] at ho); subst ho; (try dsimp only at hSw); go_simp; (first | done | with_reducible rfl))
  (try simp only [Act.put, List.setIfInBounds_toArray, List.set_cons_zero, List.set_cons_succ])
  refine hand_take 7 (some 12) ?_ (by kernel_rfl) (by kernel_rfl) (by kernel_rfl) (by kernel_rfl) (by kernel_rfl) (fun _ _ _ h => h) ?_ (by assumption) ?_
  rotate_left
  · (intro o ho w hSw; (simp only [List.getElem?_toArray, List.getElem?_cons_succ, List.getElem?_cons_zero, Option.some.injEq] at ho); subst ho; (try dsimp only at hSw); go_simp; (first | done | with_reducible rfl))
  (try simp only [Act.put, List.setIfInBounds_toArray, List.set_cons_zero, List.set_cons_succ])
  refine hand_take 8 (some 13) ?_ (by kernel_rfl) (by kernel_rfl) (by kernel_rfl) (by kernel_rfl) (by kernel_rfl) (fun _ _ _ h => h) ?_ (by assumption) ?_
  rotate_left
  · (intro o ho w hSw; (simp only [List.getElem?_toArray, List.getElem?_cons_succ, List.getElem?_cons_zero, Option.some.injEq] at ho); subst ho; (try dsimp only at hSw); go_simp; (first | done | with_reducible rfl))
  (try simp only [Act.put, List.setIfInBounds_toArray, List.set_cons_zero, List.set_cons_succ])
  refine hand_ready 4 (by kernel_rfl) (by kernel_rfl) (fun o ho K hK => ?_)
  (simp only [List.getElem?_toArray, List.getElem?_cons_succ, List.getElem?_cons_zero, Option.some.injEq] at ho)
  subst ho
  go_simp
  (go_at_call 48; (with_reducible refine (HC1 _).out.mono ?_); rintro e w' ⟨rfl, rfl⟩)
  (try go_wp2_with fail)
  refine hK.out _ _ ?_ (fun hHeld => ?_)
  · ((try dsimp only); (with_reducible exact HS.out))
  clear hK K
  (try simp only [Act.put, List.setIfInBounds_toArray, List.set_cons_zero, List.set_cons_succ])
  refine hand_ready 9 (by kernel_rfl) (by kernel_rfl) (fun o ho K hK => ?_)
  (simp only [List.getElem?_toArray, List.getElem?_cons_succ, List.getElem?_cons_zero, Option.some.injEq] at ho)
  subst ho
  go_simp
  (go_at_call 48; (with_reducible refine (HC2 _).out.mono ?_); rintro e w' ⟨rfl, rfl⟩)
  (try go_wp2_with fail)
  refine hK.out _ _ ?_ (fun hHeld => ?_)
  · ((try dsimp only); (with_reducible exact HS.out))
  clear hK K
  (try simp only [Act.put, List.setIfInBounds_toArray, List.set_cons_zero, List.set_cons_succ])
  refine hand_ready 10 (by kernel_rfl) (by kernel_rfl) (fun o ho K hK => ?_)
  (simp only [List.getElem?_toArray, List.getElem?_cons_succ, List.getElem?_cons_zero, Option.some.injEq] at ho)
  subst ho
  go_simp
  (refine name_world (fun W hW => ?_); have HW := kept hW; have hk := keeps_alloc hW; have HS := kept (And.intro (Two.keeps HS.out.1 hk) (Two.keeps HS.out.2 hk)); replace HB := kept (bel_to (below_alloc hW) HB.out); clear hW hk)
  refine hK.out _ _ ?_ (fun hHeld => ?_)
  · ((try dsimp only); (with_reducible exact HS.out))
  clear hK K
  (try simp only [Act.put, List.setIfInBounds_toArray, List.set_cons_zero, List.set_cons_succ])
  refine hand_ready 11 (by kernel_rfl) (by kernel_rfl) (fun o ho K hK => ?_)
  (simp only [List.getElem?_toArray, List.getElem?_cons_succ, List.getElem?_cons_zero, Option.some.injEq] at ho)
  subst ho
  go_simp
  (go_at_call 47; (with_reducible refine (HOR _ _ _ HW.out).out.mono ?_); rintro e w' ⟨rfl, rfl⟩)
  (try go_wp2_with fail)
  refine hK.out _ _ ?_ (fun hHeld => ?_)
  · ((try dsimp only); (with_reducible exact HS.out))
  clear hK K
  (try simp only [Act.put, List.setIfInBounds_toArray, List.set_cons_zero, List.set_cons_succ])
  refine hand_take 12 (some 4) ?_ (by kernel_rfl) (by kernel_rfl) (by kernel_rfl) (by kernel_rfl) (by kernel_rfl) (fun _ _ _ h => h) ?_ (by assumption) ?_
  rotate_left
  · (intro o ho w hSw; (simp only [List.getElem?_toArray, List.getElem?_cons_succ, List.getElem?_cons_zero, Option.some.injEq] at ho); subst ho; (try dsimp only at hSw); go_simp; (first | done | with_reducible rfl))
  (try simp only [Act.put, List.setIfInBounds_toArray, List.set_cons_zero, List.set_cons_succ])
  refine wpAnyH_done (by kernel_rfl) ?_ _
  go_wp2
  go_ret
  exact ⟨rfl, HB.out⟩
theorem refAhead_any (M S M' S' : Int) (w : World) :
    Calls Try.prog 49 #[.agg #[.int .i64 M, .int .i64 S], .agg #[.int .i64 M', .int .i64 S']] w fun e w' => e = .returned (.bool (decide (ordR M S M' S' < 0))) ∧ Below w.heap.size w w' := by
  have E : Hid (decide (ordR M S M' S' < 0) = (decide (M < M') || (decide (M = M') && decide (S < S')))) := by
    show _ = _
    rw [Bool.eq_iff_iff]
    unfold ordR
    simp only [Bool.or_eq_true, Bool.and_eq_true, decide_eq_true_eq]
    split
    · simp; omega
    · split
      · simp; omega
      · split
        · simp; omega
        · split <;> simp <;> omega
  generalize decide (ordR M S M' S' < 0) = r at E ⊢
  by_cases h0 : M = M'
  · subst h0
    have hb0 := kept (((Below.refl w.heap.size w).alloc (Nat.le_refl _) (.cells #[.int .i64 M, .int .i64 S] 29)).alloc (by simp) (.cells #[.int .i64 M, .int .i64 S'] 29))
    have hl : decide (M < M) = false := by simp
    go_enter Try.func49, Try.ntmps49
    go_wp2
    all_goals
      go_ret
      exact ⟨ret_bool (by rw [E.out, Bool.eq_iff_iff]; simp), hb0.out⟩
  · have hb0 := kept (((Below.refl w.heap.size w).alloc (Nat.le_refl _) (.cells #[.int .i64 M, .int .i64 S] 29)).alloc (by simp) (.cells #[.int .i64 M', .int .i64 S'] 29))
    have he : (M == M') = false := by simpa using h0
    have E2 : Hid (r = decide (M < M')) := by show _ = _; rw [E.out]; simp [h0]
    clear h0 E
    go_enter Try.func49, Try.ntmps49
    go_wp2
    all_goals
      go_ret
      exact ⟨ret_bool (by rw [E2.out]; (try rw [Bool.eq_iff_iff]); (try simp); (try omega)), hb0.out⟩
end Go.Proofs.Ythpaliagmnclfaa
