/-
  Texts laid together: Vo Ga Gb.
-/
import Derived.Test.YtlckeebbjnhejaaGreatBMk
import Derived.Test.YtlckeebbjnhejaaGreatBHnd
section
/-
  A revision as plain data: what is right, and the order; rev.Right, rev.Compare, the document's Right and Ahead.
-/
namespace Go.Proofs.YtlckeebbjnhejaaGreat
open Go.ChangeShapes Go.WideShapes Go.ChangeAt Go.RowKit Go.Deep
set_option linter.unusedVariables false
set_option linter.unusedSimpArgs false

def rightR (M S : Int) : Bool := decide (1 ≤ M) && decide (M ≤ 4611686018427387904) && decide (0 ≤ S) && decide (S ≤ 4611686018427387904)
theorem rightR_nat {M S : Int} (h : rightR M S = true) : ∃ m s : Nat, M = (m : Int) ∧ S = (s : Int) ∧ 1 ≤ m ∧ m ≤ 4611686018427387904 ∧ s ≤ 4611686018427387904 := by
  simp only [rightR, Bool.and_eq_true, decide_eq_true_eq] at h
  exact ⟨M.toNat, S.toNat, by omega, by omega, by omega, by omega, by omega⟩
theorem rightR_yes {m s : Nat} (h1 : 1 ≤ m) (h2 : m ≤ 4611686018427387904) (h3 : s ≤ 4611686018427387904) : rightR (m : Int) (s : Int) = true := by
  simp only [rightR, Bool.and_eq_true, decide_eq_true_eq]; omega
/-- The order of revisions. -/
def ordR (M S M' S' : Int) : Int := if M < M' then -1 else if M' < M then 1 else if S < S' then -1 else if S' < S then 1 else 0
theorem right_r (M S : Int) (w : World) :
    Calls Tryz.prog 104 #[.agg #[.int .i64 M, .int .i64 S]] w fun e w' => e = .returned (.bool (rightR M S)) ∧ Below w.heap.size w w' := by
  have HB0 := kept ((Below.refl w.heap.size w).alloc (Nat.le_refl _) (.cells #[.int .i64 M, .int .i64 S] 29))
  go_enter Tryz.func104, Tryz.ntmps104
  go_wp2
  all_goals
    go_ret
    exact ⟨ret_bool (by rw [Bool.eq_iff_iff]; simp [rightR] <;> omega), HB0.out⟩
theorem refRight_r (M S : Int) (w : World) :
    Calls Tryz.prog 105 #[.agg #[.int .i64 M, .int .i64 S]] w fun e w' => e = .returned (.bool (rightR M S)) ∧ Below w.heap.size w w' := by
  have HB0 := kept ((Below.refl w.heap.size w).alloc (Nat.le_refl _) (.cells #[.int .i64 M, .int .i64 S] 29))
  go_enter Tryz.func105, Tryz.ntmps105
  go_wp2
  all_goals
    go_ret
    exact ⟨ret_bool (by rw [Bool.eq_iff_iff]; simp [rightR] <;> omega), HB0.out⟩
/-- A revision's box. -/
abbrev Two (W : World) (b : Nat) (x y : Int) : Prop := W.cell? ⟨b, 0, none⟩ = some (.int .i64 x) ∧ W.cell? ⟨b, 1, none⟩ = some (.int .i64 y)
theorem Two.keeps {W W' : World} {b : Nat} {x y : Int} (h : Two W b x y) (k : Keeps W W') : Two W' b x y := ⟨k.cell_ h.1, k.cell_ h.2⟩
theorem two_new (W : World) (t : TypeId) (x y : Int) : Two (W.alloc (.cells #[.int .i64 x, .int .i64 y] t)) W.heap.size x y := by
  have h := Blk.new W t #[.int .i64 x, .int .i64 y]
  exact ⟨h.cell 0, h.cell 1⟩
def cmpI (x y : Int) : Int := if x < y then -1 else if y < x then 1 else 0
theorem ordR_cmp (M S M' S' : Int) : ordR M S M' S' = if cmpI M M' = 0 then cmpI S S' else cmpI M M' := by
  unfold ordR cmpI
  by_cases h1 : M < M'
  · simp [h1]
  · by_cases h2 : M' < M <;> simp [h1, h2]
theorem isNaN_i (x : Int) (w : World) : Calls Tryz.prog 98 #[.int .i64 x] w fun e w' => e = .returned (.bool false) ∧ w = w' := by
  go_enter Tryz.func98, Tryz.ntmps98
  go_wp2
  go_ret
  exact ⟨by first | rfl | simp, rfl⟩
theorem cmp_i (x y : Int) (w : World) : Calls Tryz.prog 61 #[.int .i64 x, .int .i64 y] w fun e w' => e = .returned (.int .i64 (cmpI x y)) ∧ w = w' := by
  have HN := fun x => kept (isNaN_i x w)
  by_cases h1 : x < y
  · have e : Hid (cmpI x y = -1) := by show _ = _; simp [cmpI, h1]
    go_enter Tryz.func61, Tryz.ntmps61
    go_wp2_with (first | (go_at_call 98; (with_reducible refine ((HN _).out).mono ?_); rintro e w1 ⟨rfl, rfl⟩))
    go_ret
    exact ⟨ret_int e.out.symm, rfl⟩
  · by_cases h2 : y < x
    · have e : Hid (cmpI x y = 1) := by show _ = _; simp [cmpI, h1, h2]
      go_enter Tryz.func61, Tryz.ntmps61
      go_wp2_with (first | (go_at_call 98; (with_reducible refine ((HN _).out).mono ?_); rintro e w1 ⟨rfl, rfl⟩))
      go_ret
      exact ⟨ret_int e.out.symm, rfl⟩
    · have e : Hid (cmpI x y = 0) := by show _ = _; simp [cmpI, h1, h2]
      go_enter Tryz.func61, Tryz.ntmps61
      go_wp2_with (first | (go_at_call 98; (with_reducible refine ((HN _).out).mono ?_); rintro e w1 ⟨rfl, rfl⟩))
      go_ret
      exact ⟨ret_int e.out.symm, rfl⟩
theorem or_two (x y : Int) (g : Nat) (w : World) (h0 : w.cell? ⟨g, 0, none⟩ = some (.int .i64 x)) (h1 : w.cell? ⟨g, 1, none⟩ = some (.int .i64 y)) :
    Calls Tryz.prog 60 #[.slice (some ⟨g, 0, none⟩) 2 2] w fun e w' => e = .returned (.int .i64 (if x = 0 then y else x)) ∧ w = w' := by
  obtain ⟨r, E⟩ : ∃ r, (if x = 0 then y else x) = r := ⟨_, rfl⟩
  rw [E]
  have E' := kept E.symm
  clear E
  go_enter Tryz.func60, Tryz.ntmps60
  go_wp2
  go_loop [8] (fun i => ∃ k : Nat, k ≤ 2 ∧ i = .int .i64 k ∧ Hid (0 < k → x = 0) ∧ Hid (1 < k → y = 0)) (fun i => 2 - (intOf i).toNat)
  case atStart => exact ⟨0, by omega, rfl, kept (fun h => absurd h (by omega)), kept (fun h => absurd h (by omega))⟩
  case round =>
    obtain ⟨k, hk, rfl, HX, HY⟩ := hrel
    match k, hk with
    | 0, _ =>
      by_cases hx : x = 0
      · subst hx
        go_wp2
        go_round
        case rel => exact ⟨1, by omega, by go_num, kept (fun _ => by first | rfl | trivial), kept (fun h => absurd h (by omega))⟩
        case measure => simp [intOf]
      · have hx2 : (x != 0) = true := by simpa using hx
        go_wp2
        go_ret
        exact ⟨ret_int (by rw [E'.out, if_neg hx]), rfl⟩
    | 1, _ =>
      have hx := HX.out (by omega)
      by_cases hy : y = 0
      · subst hy
        go_wp2
        go_round
        case rel => exact ⟨2, by omega, by go_num, kept (fun _ => hx), kept (fun _ => by first | rfl | trivial)⟩
        case measure => simp [intOf]
      · have hy2 : (y != 0) = true := by simpa using hy
        go_wp2
        go_ret
        exact ⟨ret_int (by rw [E'.out, if_pos hx]), rfl⟩
    | 2, _ =>
      have hx := HX.out (by omega)
      have hy := HY.out (by omega)
      go_wp2
      go_ret
      exact ⟨ret_int (by rw [E'.out, if_pos hx, hy]), rfl⟩
theorem or_new (x y : Int) (t : TypeId) (w W : World) (hW : W = w.alloc (.cells #[.int .i64 x, .int .i64 y] t)) :
    Calls Tryz.prog 60 #[.slice (some ⟨w.heap.size, 0, none⟩) 2 2] W fun e w' => e = .returned (.int .i64 (if x = 0 then y else x)) ∧ W = w' := by
  subst hW
  have h := Blk.new w t #[.int .i64 x, .int .i64 y]
  exact or_two x y w.heap.size _ (h.cell 0) (h.cell 1)
set_option maxHeartbeats 2000000 in
theorem cmp_rev (M S M' S' : Int) (w : World) :
    Calls Tryz.prog 32 #[.agg #[.int .i64 M, .int .i64 S], .agg #[.int .i64 M', .int .i64 S']] w fun e w' => e = .returned (.int .i64 (ordR M S M' S')) ∧ Below w.heap.size w w' := by
  rw [ordR_cmp]
  have HC1 := fun w => kept (cmp_i M M' w)
  have HC2 := fun w => kept (cmp_i S S' w)
  generalize cmpI M M' = c1 at HC1 ⊢
  generalize cmpI S S' = c2 at HC2 ⊢
  obtain ⟨r, hr⟩ : ∃ r, (if c1 = 0 then c2 else c1) = r := ⟨_, rfl⟩
  have HOR : ∀ (t : TypeId) (w W : World), W = w.alloc (.cells #[.int .i64 c1, .int .i64 c2] t) → Hid _ := fun t w W h => kept (or_new c1 c2 t w W h)
  rw [hr] at HOR ⊢
  have ht1 := (two_new w 29 M S).keeps (Keeps.alloc _ (.cells #[.int .i64 M', .int .i64 S'] 29))
  have ht2 := two_new (w.alloc (.cells #[.int .i64 M, .int .i64 S] 29)) 29 M' S'
  rw [show (w.alloc (.cells #[.int .i64 M, .int .i64 S] 29)).heap.size = w.heap.size + 1 by simp] at ht2
  have hb0 := ((Below.refl w.heap.size w).alloc (Nat.le_refl _) (.cells #[.int .i64 M, .int .i64 S] 29)).alloc (by simp) (.cells #[.int .i64 M', .int .i64 S'] 29)
  have HT1 := kept ht1
  have HT2 := kept ht2
  have HB := kept hb0
  clear ht1 ht2 hb0 hr
  go_enter Tryz.func32, Tryz.ntmps32
  go_wp2_with fail
  generalize (w.alloc (.cells #[.int .i64 M, .int .i64 S] 29)).alloc (.cells #[.int .i64 M', .int .i64 S'] 29) = W0 at HT1 HT2 HB ⊢
  have HS : Hid (Two W0.drew w.heap.size M S ∧ Two W0.drew (w.heap.size + 1) M' S') := kept ⟨HT1.out, HT2.out⟩
  replace HB := kept HB.out.drew
  refine wp_region_held_drew (S := (fun W' => (W'.cell? ⟨w.heap.size, 0, none⟩ = some (.int .i64 M) ∧ W'.cell? ⟨w.heap.size, 1, none⟩ = some (.int .i64 S)) ∧ (W'.cell? ⟨w.heap.size + 1, 0, none⟩ = some (.int .i64 M') ∧ W'.cell? ⟨w.heap.size + 1, 1, none⟩ = some (.int .i64 S')))) (by kernel_rfl) ?_ (fun hHeld => ?_)
  · ((try dsimp only); (with_reducible exact HS.out))
  generalize W0.drew = W at HB HS hHeld ⊢
  refine hand_take 0 (some 5) ?_ (by kernel_rfl) (by kernel_rfl) (by kernel_rfl) (by kernel_rfl) (by kernel_rfl) (fun _ _ _ h => h) ?_ (by assumption) ?_
  rotate_left
  · (intro o ho w hSw; (simp only [List.getElem?_toArray, List.getElem?_cons_succ, List.getElem?_cons_zero, Option.some.injEq] at ho); subst ho; (try dsimp only at hSw); go_simp; (first | done | with_reducible rfl))
  (try simp only [Act.put, List.setIfInBounds_toArray, List.set_cons_zero, List.set_cons_succ])
  refine hand_take 1 (some 6) ?_ (by kernel_rfl) (by kernel_rfl) (by kernel_rfl) (by kernel_rfl) (by kernel_rfl) (fun _ _ _ h => h) ?_ (by assumption) ?_
  rotate_left
  · (intro o ho w hSw; (simp only [List.getElem?_toArray, List.getElem?_cons_succ, List.getElem?_cons_zero, Option.some.injEq] at ho); subst ho; (try dsimp only at hSw); go_simp; (first | done | with_reducible rfl))
  (try simp only [Act.put, List.setIfInBounds_toArray, List.set_cons_zero, List.set_cons_succ])
  refine hand_take 2 (some 7) ?_ (by kernel_rfl) (by kernel_rfl) (by kernel_rfl) (by kernel_rfl) (by kernel_rfl) (fun _ _ _ h => h) ?_ (by assumption) ?_
  rotate_left
  · (intro o ho w hSw; (simp only [List.getElem?_toArray, List.getElem?_cons_succ, List.getElem?_cons_zero, Option.some.injEq] at ho); subst ho; (try dsimp only at hSw); go_simp; (first | done | with_reducible rfl))
  (try simp only [Act.put, List.setIfInBounds_toArray, List.set_cons_zero, List.set_cons_succ])
  refine hand_take 3 (some 8) ?_ (by kernel_rfl) (by kernel_rfl) (by kernel_rfl) (by kernel_rfl) (by kernel_rfl) (fun _ _ _ h => h) ?_ (by assumption) ?_
  rotate_left
  · (intro o ho w hSw; (simp only [List.getElem?_toArray, List.getElem?_cons_succ, List.getElem?_cons_zero, Option.some.injEq] at ho); subst ho; (try dsimp only at hSw); go_simp; (first | done | with_reducible rfl))
  (try simp only [Act.put, List.setIfInBounds_toArray, List.set_cons_zero, List.set_cons_succ])
  refine hand_take 5 (some 10) ?_ (by kernel_rfl) (by kernel_rfl) (by kernel_rfl) (by kernel_rfl) (by kernel_rfl) (fun _ _ _ h => h) ?_ (by assumption) ?_
  rotate_left
  · (intro o ho w hSw; (simp only [List.getElem?_toArray, List.getElem?_cons_succ, List.getElem?_cons_zero, Option.some.injEq] at ho); subst ho; (try dsimp only at hSw); go_simp; (first | done | with_reducible rfl))
  (try simp only [Act.put, List.setIfInBounds_toArray, List.set_cons_zero, List.set_cons_succ])
  refine hand_take 6 (some 11) ?_ (by kernel_rfl) (by kernel_rfl) (by kernel_rfl) (by kernel_rfl) (by kernel_rfl) (fun _ _ _ h => h) ?_ (by assumption) ?_
  rotate_left
  · (intro o ho w hSw; (simp only [List.getElem?_toArray, List.getElem?_cons_succ, List.getElem?_cons_zero, Option.some.injEq] at ho); subst ho; (try dsimp only at hSw); go_simp; (first | done | with_reducible rfl))
  (try simp only [Act.put, List.setIfInBounds_toArray, List.set_cons_zero, List.set_cons_succ])
  refine hand_take 7 (some 12) ?_ (by kernel_rfl) (by kernel_rfl) (by kernel_rfl) (by kernel_rfl) (by kernel_rfl) (fun _ _ _ h => h) ?_ (by assumption) ?_
  rotate_left
  · (intro o ho w hSw; (simp only [List.getElem?_toArray, List.getElem?_cons_succ, List.getElem?_cons_zero, Option.some.injEq] at ho); subst ho; (try dsimp only at hSw); go_simp; (first | done | with_reducible rfl))
  (try simp only [Act.put, List.setIfInBounds_toArray, List.set_cons_zero, List.set_cons_succ])
  refine hand_take 8 (some 13) ?_ (by kernel_rfl) (by kernel_rfl) (by kernel_rfl) (by kernel_rfl) (by kernel_rfl) (fun _ _ _ h => h) ?_ (by assumption) ?_
  rotate_left
  · (intro o ho w hSw; (simp only [List.getElem?_toArray, List.getElem?_cons_succ, List.getElem?_cons_zero, Option.some.injEq] at ho); subst ho; (try dsimp only at hSw); go_simp; (first | done | with_reducible rfl))
  (try simp only [Act.put, List.setIfInBounds_toArray, List.set_cons_zero, List.set_cons_succ])
  refine hand_ready 4 (by kernel_rfl) (by kernel_rfl) (fun o ho K hK => ?_)
  (simp only [List.getElem?_toArray, List.getElem?_cons_succ, List.getElem?_cons_zero, Option.some.injEq] at ho)
  subst ho
  go_simp
  (go_at_call 61; (with_reducible refine (HC1 _).out.mono ?_); rintro e w' ⟨rfl, rfl⟩)
  (try go_wp2_with fail)
  refine hK.out _ _ ?_ (fun hHeld => ?_)
  · ((try dsimp only); (with_reducible exact HS.out))
  clear hK K
  (try simp only [Act.put, List.setIfInBounds_toArray, List.set_cons_zero, List.set_cons_succ])
  refine hand_ready 9 (by kernel_rfl) (by kernel_rfl) (fun o ho K hK => ?_)
  (simp only [List.getElem?_toArray, List.getElem?_cons_succ, List.getElem?_cons_zero, Option.some.injEq] at ho)
  subst ho
  go_simp
  (go_at_call 61; (with_reducible refine (HC2 _).out.mono ?_); rintro e w' ⟨rfl, rfl⟩)
  (try go_wp2_with fail)
  refine hK.out _ _ ?_ (fun hHeld => ?_)
  · ((try dsimp only); (with_reducible exact HS.out))
  clear hK K
  (try simp only [Act.put, List.setIfInBounds_toArray, List.set_cons_zero, List.set_cons_succ])
  refine hand_ready 10 (by kernel_rfl) (by kernel_rfl) (fun o ho K hK => ?_)
  (simp only [List.getElem?_toArray, List.getElem?_cons_succ, List.getElem?_cons_zero, Option.some.injEq] at ho)
  subst ho
  go_simp
  (refine name_world (fun W hW => ?_); have HW := kept hW; have hk := keeps_alloc hW; have HS := kept (And.intro (Two.keeps HS.out.1 hk) (Two.keeps HS.out.2 hk)); replace HB := kept (bel_to (below_alloc hW) HB.out); clear hW hk)
  refine hK.out _ _ ?_ (fun hHeld => ?_)
  · ((try dsimp only); (with_reducible exact HS.out))
  clear hK K
  (try simp only [Act.put, List.setIfInBounds_toArray, List.set_cons_zero, List.set_cons_succ])
  refine hand_ready 11 (by kernel_rfl) (by kernel_rfl) (fun o ho K hK => ?_)
  (simp only [List.getElem?_toArray, List.getElem?_cons_succ, List.getElem?_cons_zero, Option.some.injEq] at ho)
  subst ho
  go_simp
  (go_at_call 60; (with_reducible refine (HOR _ _ _ HW.out).out.mono ?_); rintro e w' ⟨rfl, rfl⟩)
  (try go_wp2_with fail)
  refine hK.out _ _ ?_ (fun hHeld => ?_)
  · ((try dsimp only); (with_reducible exact HS.out))
  clear hK K
  (try simp only [Act.put, List.setIfInBounds_toArray, List.set_cons_zero, List.set_cons_succ])
  refine hand_take 12 (some 4) ?_ (by kernel_rfl) (by kernel_rfl) (by kernel_rfl) (by kernel_rfl) (by kernel_rfl) (fun _ _ _ h => h) ?_ (by assumption) ?_
  rotate_left
  · (intro o ho w hSw; (simp only [List.getElem?_toArray, List.getElem?_cons_succ, List.getElem?_cons_zero, Option.some.injEq] at ho); subst ho; (try dsimp only at hSw); go_simp; (first | done | with_reducible rfl))
  (try simp only [Act.put, List.setIfInBounds_toArray, List.set_cons_zero, List.set_cons_succ])
  refine wpAnyH_done (by kernel_rfl) ?_ _
  go_wp2
  go_ret
  exact ⟨rfl, HB.out⟩
theorem refAhead_any (M S M' S' : Int) (w : World) :
    Calls Tryz.prog 103 #[.agg #[.int .i64 M, .int .i64 S], .agg #[.int .i64 M', .int .i64 S']] w fun e w' => e = .returned (.bool (decide (ordR M S M' S' < 0))) ∧ Below w.heap.size w w' := by
  have E : Hid (decide (ordR M S M' S' < 0) = (decide (M < M') || (decide (M = M') && decide (S < S')))) := by
    show _ = _
    rw [Bool.eq_iff_iff]
    unfold ordR
    simp only [Bool.or_eq_true, Bool.and_eq_true, decide_eq_true_eq]
    split
    · simp; omega
    · split
      · simp; omega
      · split
        · simp; omega
        · split <;> simp <;> omega
  generalize decide (ordR M S M' S' < 0) = r at E ⊢
  by_cases h0 : M = M'
  · subst h0
    have hb0 := kept (((Below.refl w.heap.size w).alloc (Nat.le_refl _) (.cells #[.int .i64 M, .int .i64 S] 29)).alloc (by simp) (.cells #[.int .i64 M, .int .i64 S'] 29))
    have hl : decide (M < M) = false := by simp
    go_enter Tryz.func103, Tryz.ntmps103
    go_wp2
    all_goals
      go_ret
      exact ⟨ret_bool (by rw [E.out, Bool.eq_iff_iff]; simp), hb0.out⟩
  · have hb0 := kept (((Below.refl w.heap.size w).alloc (Nat.le_refl _) (.cells #[.int .i64 M, .int .i64 S] 29)).alloc (by simp) (.cells #[.int .i64 M', .int .i64 S'] 29))
    have he : (M == M') = false := by simpa using h0
    have E2 : Hid (r = decide (M < M')) := by show _ = _; rw [E.out]; simp [h0]
    clear h0 E
    go_enter Tryz.func103, Tryz.ntmps103
    go_wp2
    all_goals
      go_ret
      exact ⟨ret_bool (by rw [E2.out]; (try rw [Bool.eq_iff_iff]); (try simp); (try omega)), hb0.out⟩
end Go.Proofs.YtlckeebbjnhejaaGreat
end

section
/-
  A key's history as plain data: generations; what is told of a Main; what Compact leaves; the entries from a Main on. No program is named.
-/
namespace Go.Proofs.YtlckeebbjnhejaaGreat
open Go.ChangeShapes Go.WideShapes Go.ChangeAt Go.RowKit
set_option linter.unusedVariables false
set_option linter.unusedSimpArgs false

abbrev Rv := Int × Int
def ltR (a b : Rv) : Bool := decide (ordR a.1 a.2 b.1 b.2 < 0)
theorem ltR_iff {a b : Rv} : ltR a b = true ↔ a.1 < b.1 ∨ (a.1 = b.1 ∧ a.2 < b.2) := by
  unfold ltR ordR
  rw [decide_eq_true_eq]
  by_cases h1 : a.1 < b.1
  · simp [h1]
  · by_cases h2 : b.1 < a.1
    · simp [h1, h2]; omega
    · have : a.1 = b.1 := by omega
      by_cases h3 : a.2 < b.2
      · simp [h1, h2, h3, this]
      · by_cases h4 : b.2 < a.2 <;> simp [h1, h2, h3, h4, this]
theorem ltR_trans {a b c : Rv} (h : ltR a b = true) (k : ltR b c = true) : ltR a c = true := by
  rw [ltR_iff] at *; omega
theorem ltR_irr (a : Rv) : ltR a a = false := by
  cases h : ltR a a with
  | false => rfl
  | true => rw [ltR_iff] at h; omega
theorem ltR_asymm {a b : Rv} (h : ltR a b = true) : ltR b a = false := by
  cases k : ltR b a with
  | false => rfl
  | true => rw [ltR_iff] at h k; omega
theorem le_of_ordR {a b : Rv} : decide (ordR a.1 a.2 b.1 b.2 ≤ 0) = !ltR b a := by
  rw [Bool.eq_iff_iff]
  simp only [decide_eq_true_eq, Bool.not_eq_true', ← Bool.not_eq_true, ltR_iff]
  unfold ordR
  by_cases h1 : a.1 < b.1
  · simp [h1]; omega
  · by_cases h2 : b.1 < a.1
    · simp [h1, h2]
    · have : a.1 = b.1 := by omega
      by_cases h3 : a.2 < b.2
      · simp [h1, h2, h3, this]; omega
      · by_cases h4 : b.2 < a.2 <;> simp [h1, h2, h3, h4, this]
/-- A generation. -/
structure Gn where
  c : Int
  v : Int
  ps : List Rv
  e : Rv
def Gn.ended (x : Gn) : Bool := !(decide (x.e = (0, 0)))
def Gn.revs (x : Gn) : List Rv := x.ps ++ (if x.ended then [x.e] else [])
def flatG (gs : List Gn) : List Rv := gs.flatMap Gn.revs
structure GInv (gs : List Gn) : Prop where
  ne : ∀ x ∈ gs, x.ps ≠ []
  right : ∀ q ∈ flatG gs, rightR q.1 q.2 = true
  rise : List.Pairwise (fun a b => ltR a b = true) (flatG gs)
  en : ∀ x ∈ gs.dropLast, x.ended = true
theorem GInv.nil : GInv [] := ⟨fun x h => absurd h (by simp), fun q h => absurd h (by simp [flatG]), List.Pairwise.nil, fun x h => absurd h (by simp)⟩
theorem GInv.tail {x : Gn} {r : List Gn} (h : GInv (x :: r)) : GInv r where
  ne y hy := h.ne y (List.mem_cons_of_mem _ hy)
  right q hq := h.right q (by simp only [flatG, List.flatMap_cons, List.mem_append]; exact .inr hq)
  rise := by have := h.rise; simp only [flatG, List.flatMap_cons, List.pairwise_append] at this; exact this.2.1
  en y hy := h.en y (by
    cases r with
    | nil => simp at hy
    | cons z r => rw [List.dropLast_cons_cons]; exact List.mem_cons_of_mem _ hy)
theorem GInv.head {x : Gn} {r : List Gn} (h : GInv (x :: r)) : x.ps ≠ [] ∧ List.Pairwise (fun a b => ltR a b = true) x.revs ∧ (∀ q ∈ x.revs, rightR q.1 q.2 = true) ∧ (∀ a ∈ x.revs, ∀ b ∈ flatG r, ltR a b = true) ∧ (r ≠ [] → x.ended = true) := by
  have hr := h.rise
  simp only [flatG, List.flatMap_cons, List.pairwise_append] at hr
  refine ⟨h.ne x (List.mem_cons_self ..), hr.1, fun q hq => h.right q (by simp only [flatG, List.flatMap_cons, List.mem_append]; exact .inl hq), fun a ha b hb => hr.2.2 a ha b hb, fun hn => h.en x ?_⟩
  cases r with
  | nil => exact absurd rfl hn
  | cons z r => rw [List.dropLast_cons_cons]; exact List.mem_cons_self ..
theorem GInv.cons {x : Gn} {r : List Gn} (k : GInv r) (h1 : x.ps ≠ []) (h2 : List.Pairwise (fun a b => ltR a b = true) x.revs) (h3 : ∀ q ∈ x.revs, rightR q.1 q.2 = true) (h4 : ∀ a ∈ x.revs, ∀ b ∈ flatG r, ltR a b = true) (h5 : r ≠ [] → x.ended = true) : GInv (x :: r) where
  ne y hy := by
    rcases List.mem_cons.1 hy with rfl | hy
    · exact h1
    · exact k.ne y hy
  right q hq := by
    simp only [flatG, List.flatMap_cons, List.mem_append] at hq
    rcases hq with hq | hq
    · exact h3 q hq
    · exact k.right q hq
  rise := by
    simp only [flatG, List.flatMap_cons, List.pairwise_append]
    exact ⟨h2, k.rise, h4⟩
  en y hy := by
    cases r with
    | nil => simp at hy
    | cons z r =>
      rw [List.dropLast_cons_cons] at hy
      rcases List.mem_cons.1 hy with rfl | hy
      · exact h5 (by simp)
      · exact k.en y hy
theorem Gn.mem_e {x : Gn} (h : x.ended = true) : x.e ∈ x.revs := by unfold Gn.revs; rw [if_pos h]; simp
theorem Gn.mem_p {x : Gn} {q : Rv} (h : q ∈ x.ps) : q ∈ x.revs := by unfold Gn.revs; exact List.mem_append.2 (.inl h)
theorem GInv.puts {gs : List Gn} (h : GInv gs) {x : Gn} (hx : x ∈ gs) : List.Pairwise (fun a b => ltR a b = true) x.ps := by
  induction gs with
  | nil => simp at hx
  | cons y r ih =>
    rcases List.mem_cons.1 hx with rfl | hx
    · have := h.head.2.1
      unfold Gn.revs at this
      exact (List.pairwise_append.1 this).1
    · exact ih h.tail hx
/-- How many are below. -/
def cntR (ps : List Rv) (b : Rv) : Nat := ps.countP fun p => ltR p b
theorem cut_uniq {α : Type} (f : α → Bool) : ∀ {I : List α} {i : Nat}, i ≤ I.length → (∀ t (h : t < I.length), t < i → f I[t] = true) → (∀ t (h : t < I.length), i ≤ t → f I[t] = false) → I.countP f = i
  | [], i, hi, _, _ => by simp at hi; simp [hi]
  | x :: r, 0, _, _, h2 => by
    rw [List.countP_eq_zero]
    intro y hy
    obtain ⟨t, ht, rfl⟩ := List.getElem_of_mem hy
    have := h2 t ht (Nat.zero_le _)
    simpa using this
  | x :: r, i + 1, hi, h1, h2 => by
    have h0 := h1 0 (by simp) (by omega)
    have h0 : f x = true := h0
    have := cut_uniq f (I := r) (i := i) (by simpa using hi) (fun t ht hti => by have := h1 (t + 1) (by simpa using ht) (by omega); simpa using this) (fun t ht hti => by have := h2 (t + 1) (by simpa using ht) (by omega); simpa using this)
    rw [List.countP_cons_of_pos h0, this]
theorem cntR_sorted {ps : List Rv} (h : List.Pairwise (fun a b => ltR a b = true) ps) (b : Rv) : ∀ s t (hs : s < ps.length) (ht : t < ps.length), s ≤ t → ltR ps[t] b = true → ltR ps[s] b = true := by
  intro s t hs ht hst hb
  rcases Nat.lt_or_eq_of_le hst with hlt | rfl
  · exact ltR_trans ((List.pairwise_iff_getElem.1 h) s t hs ht hlt) hb
  · exact hb
theorem cntR_le (ps : List Rv) (b : Rv) : cntR ps b ≤ ps.length := List.countP_le_length
/-- Of rising ones just the first cntR are below. -/
theorem cntR_cut : ∀ {ps : List Rv}, List.Pairwise (fun a b => ltR a b = true) ps → ∀ (b : Rv) (t : Nat) (h : t < ps.length), ltR ps[t] b = decide (t < cntR ps b)
  | [], _, b, t, h => absurd h (by simp)
  | p :: r, hp, b, t, h => by
    have hp' := List.pairwise_cons.1 hp
    by_cases hb : ltR p b = true
    · have e : cntR (p :: r) b = cntR r b + 1 := by unfold cntR; exact List.countP_cons_of_pos (p := fun p => ltR p b) hb
      rw [e]
      cases t with
      | zero => simp [hb]
      | succ t =>
        have := cntR_cut hp'.2 b t (by simpa using h)
        simpa using this
    · have e : cntR (p :: r) b = 0 := by
        unfold cntR
        rw [List.countP_eq_zero]
        intro y hy
        rcases List.mem_cons.1 hy with rfl | hy
        · exact hb
        · intro hyb
          exact hb (ltR_trans (hp'.1 y hy) hyb)
      rw [e]
      have h1 := cntR_sorted hp b 0 t (by simp) h (Nat.zero_le _)
      cases hv : ltR (p :: r)[t] b with
      | false => simp
      | true => exact absurd (h1 hv) hb
def endAt (b : Rv) (x : Gn) : Bool := x.ended && ltR x.e b
/-- How many generations ended below b. -/
def ebl (gs : List Gn) (b : Rv) : Nat := gs.countP (endAt b)
theorem ebl_zero {x : Gn} {r : List Gn} (h : GInv (x :: r)) {b : Rv} (hb : endAt b x = false) : ebl (x :: r) b = 0 := by
  unfold ebl
  rw [List.countP_eq_zero]
  intro y hy hyb
  rcases List.mem_cons.1 hy with rfl | hy
  · rw [hb] at hyb; cases hyb
  · obtain ⟨_, _, _, h4, h5⟩ := h.head
    have hx := h5 (fun e => by rw [e] at hy; simp at hy)
    unfold endAt at hb hyb
    rw [hx, Bool.true_and] at hb
    rw [Bool.and_eq_true] at hyb
    have := ltR_trans (h4 x.e (Gn.mem_e hx) y.e (by unfold flatG; exact List.mem_flatMap.2 ⟨y, hy, Gn.mem_e hyb.1⟩)) hyb.2
    rw [this] at hb; cases hb
theorem ebl_succ {x : Gn} {r : List Gn} {b : Rv} (hb : endAt b x = true) : ebl (x :: r) b = ebl r b + 1 := by unfold ebl; rw [List.countP_cons_of_pos hb]
theorem ebl_le (gs : List Gn) (b : Rv) : ebl gs b ≤ gs.length := List.countP_le_length
/-- What the loop from the end finds. -/
theorem ebl_found : ∀ {gs : List Gn}, GInv gs → ∀ (b : Rv) (n : Nat), n ≤ gs.length → (∀ i (h : i < gs.length), n ≤ i → endAt b gs[i] = false) → (∀ (h : n - 1 < gs.length), 0 < n → endAt b gs[n - 1] = true) → ebl gs b = n
  | [], _, b, n, hn, _, _ => by simp at hn; simp [ebl, hn]
  | x :: r, hi, b, n, hn, h1, h2 => by
    cases n with
    | zero => exact ebl_zero hi (h1 0 (by simp) (Nat.le_refl _))
    | succ n =>
      have hx : endAt b x = true := by
        cases hv : endAt b x with
        | true => rfl
        | false =>
          have h0 := ebl_zero hi hv
          have h3 := h2 (by simp at hn ⊢; omega) (by omega)
          unfold ebl at h0
          rw [List.countP_eq_zero] at h0
          exact absurd h3 (h0 _ (List.getElem_mem _))
      rw [ebl_succ hx, ebl_found hi.tail b n (by simpa using hn) (fun i h hni => by have := h1 (i + 1) (by simpa using h) (by omega); simpa using this) (fun h h0 => by
        have := h2 (by simp at h ⊢; omega) (by omega)
        have e : (x :: r)[n + 1 - 1]'(by simp at h ⊢; omega) = r[n - 1] := by
          obtain ⟨m, rfl⟩ : ∃ m, n = m + 1 := ⟨n - 1, by omega⟩
          simp
        rw [e] at this
        exact this)]
/-- What is there of a bound on: the generations that haven't ended below it, and how many puts of the first one are below. -/
def lookG (b : Rv) : List Gn → List Gn × Nat
  | [] => ([], 0)
  | x :: r => if endAt b x then lookG b r else (x :: r, cntR x.ps b)
theorem lookG_drop {gs : List Gn} (h : GInv gs) (b : Rv) : (lookG b gs).1 = gs.drop (ebl gs b) ∧ (lookG b gs).2 = (match gs[ebl gs b]? with | some x => cntR x.ps b | none => 0) := by
  induction gs with
  | nil => simp [lookG, ebl]
  | cons x r ih =>
    unfold lookG
    by_cases hb : endAt b x = true
    · rw [if_pos hb, ebl_succ hb]
      simpa using ih h.tail
    · have hb : endAt b x = false := by simpa using hb
      rw [if_neg (by simp [hb]), ebl_zero h hb]
      simp
abbrev bnd (at_ : Int) : Rv := (at_, 9223372036854775807)
/-- What Get tells: Mod, Create, version. -/
def getG (gs : List Gn) (at_ : Int) : Option (Rv × Int × Int) :=
  match lookG (bnd at_) gs with
  | (x :: _, p + 1) => match x.ps[p]? with | some q => some (q, x.c, wrap64 (x.v + (p : Int))) | none => none
  | _ => none
def compactG (gs : List Gn) (at_ : Int) : List Gn :=
  match lookG (bnd at_) gs with
  | (x :: r, p + 1) => { x with ps := x.ps.drop p, v := wrap64 (x.v + (p : Int)) } :: r
  | (l, _) => l
/-- The entries from a Main on. -/
def entG (b : Rv) (x : Gn) : List (Rv × Bool) := (x.ps.drop (cntR x.ps b)).map (fun q => (q, false)) ++ (if x.ended then [(x.e, true)] else [])
def sinceG (gs : List Gn) (main : Int) : List (Rv × Bool) := (gs.drop (ebl gs (main, 0))).flatMap (entG (main, 0))
theorem wrap64_wrap_add (a b : Int) : wrap64 (wrap64 a + b) = wrap64 (a + b) := by
  simp only [wrap64]
  omega
theorem wrap64_id_wrap (a : Int) : wrap64 (wrap64 a) = wrap64 a := by
  have := wrap64_wrap_add a 0
  simpa using this
end Go.Proofs.YtlckeebbjnhejaaGreat
end

section
/-
  Laws of a key's history: what Compact leaves tells the same of all later Mains; entries from a Main on are the end of all; puts and tombstones keep the order.
-/
namespace Go.Proofs.YtlckeebbjnhejaaGreat
open Go.ChangeShapes Go.WideShapes Go.ChangeAt Go.RowKit
set_option linter.unusedVariables false
set_option linter.unusedSimpArgs false

theorem ltR_bnd {q : Rv} (h : rightR q.1 q.2 = true) (at_ : Int) : ltR q (bnd at_) = decide (q.1 ≤ at_) := by
  obtain ⟨m, s, e1, e2, _, _, h3⟩ := rightR_nat h
  rw [Bool.eq_iff_iff, ltR_iff, decide_eq_true_eq]
  simp only [bnd]
  omega
theorem ltR_low {q : Rv} (h : rightR q.1 q.2 = true) (m : Int) : ltR q (m, 0) = decide (q.1 < m) := by
  obtain ⟨k, s, e1, e2, _, _, h3⟩ := rightR_nat h
  rw [Bool.eq_iff_iff, ltR_iff, decide_eq_true_eq]
  simp only
  omega
theorem bnd_mono {q : Rv} {a m : Int} (h : a ≤ m) (hb : ltR q (bnd a) = true) : ltR q (bnd m) = true := by
  rw [ltR_iff] at *
  simp only [bnd] at *
  omega
theorem cntR_mono {ps : List Rv} {a m : Int} (h : a ≤ m) : cntR ps (bnd a) ≤ cntR ps (bnd m) := by
  unfold cntR
  exact List.countP_mono_left fun q _ hq => bnd_mono h hq
theorem cntR_drop {ps : List Rv} (hp : List.Pairwise (fun a b => ltR a b = true) ps) (b : Rv) (k : Nat) (hk : k ≤ cntR ps b) : cntR (ps.drop k) b = cntR ps b - k := by
  have hl := cntR_le ps b
  refine cut_uniq (fun p => ltR p b) (by rw [List.length_drop]; omega) (fun t h ht => ?_) (fun t h ht => ?_)
  · rw [List.length_drop] at h
    show ltR (ps.drop k)[t] b = true
    rw [List.getElem_drop, cntR_cut hp b]
    simp; omega
  · rw [List.length_drop] at h
    show ltR (ps.drop k)[t] b = false
    rw [List.getElem_drop, cntR_cut hp b]
    simp; omega
/-- What is told of a Main at or above the compacted one stays the same. -/
theorem get_compact {gs : List Gn} (h : GInv gs) {a m : Int} (ham : a ≤ m) : getG (compactG gs a) m = getG gs m := by
  induction gs with
  | nil => rfl
  | cons x r ih =>
    by_cases hb : endAt (bnd a) x = true
    · have e1 : compactG (x :: r) a = compactG r a := by unfold compactG; rw [show lookG (bnd a) (x :: r) = lookG (bnd a) r from if_pos hb]
      have hm : endAt (bnd m) x = true := by
        unfold endAt at hb ⊢
        rw [Bool.and_eq_true] at hb ⊢
        exact ⟨hb.1, bnd_mono ham hb.2⟩
      have e2 : getG (x :: r) m = getG r m := by unfold getG; rw [show lookG (bnd m) (x :: r) = lookG (bnd m) r from if_pos hm]
      rw [e1, e2, ih h.tail]
    · cases hp : cntR x.ps (bnd a) with
      | zero =>
        have e1 : compactG (x :: r) a = x :: r := by unfold compactG lookG; rw [if_neg hb, hp]
        rw [e1]
      | succ p =>
        have e1 : compactG (x :: r) a = { x with ps := x.ps.drop p, v := wrap64 (x.v + (p : Int)) } :: r := by unfold compactG lookG; rw [if_neg hb, hp]
        rw [e1]
        by_cases hm : endAt (bnd m) x = true
        · unfold getG lookG
          rw [if_pos hm, if_pos (show endAt (bnd m) { x with ps := x.ps.drop p, v := wrap64 (x.v + (p : Int)) } = true from hm)]
        · unfold getG lookG
          rw [if_neg hm, if_neg (show ¬ endAt (bnd m) { x with ps := x.ps.drop p, v := wrap64 (x.v + (p : Int)) } = true from hm)]
          have hps := h.puts (List.mem_cons_self ..)
          have hmn := cntR_mono (ps := x.ps) ham
          simp only
          rw [cntR_drop hps (bnd m) p (by omega)]
          obtain ⟨q, hq⟩ : ∃ q, cntR x.ps (bnd m) = p + q + 1 := ⟨cntR x.ps (bnd m) - p - 1, by omega⟩
          rw [hq, show p + q + 1 - p = q + 1 by omega]
          simp only [List.getElem?_drop]
          cases hx : x.ps[p + q]? with
          | none => rfl
          | some y =>
            simp only [wrap64_wrap_add, Option.some.injEq, Prod.mk.injEq, true_and]
            congr 1
            omega
theorem compact_twice {gs : List Gn} (h : GInv gs) (a : Int) (hv : ∀ x ∈ gs, wrap64 x.v = x.v) : compactG (compactG gs a) a = compactG gs a := by
  induction gs with
  | nil => rfl
  | cons x r ih =>
    by_cases hb : endAt (bnd a) x = true
    · have e1 : compactG (x :: r) a = compactG r a := by unfold compactG; rw [show lookG (bnd a) (x :: r) = lookG (bnd a) r from if_pos hb]
      rw [e1]
      exact ih h.tail (fun y hy => hv y (List.mem_cons_of_mem _ hy))
    · cases hp : cntR x.ps (bnd a) with
      | zero =>
        have e1 : compactG (x :: r) a = x :: r := by unfold compactG lookG; rw [if_neg hb, hp]
        rw [e1, e1]
      | succ p =>
        have e1 : compactG (x :: r) a = { x with ps := x.ps.drop p, v := wrap64 (x.v + (p : Int)) } :: r := by unfold compactG lookG; rw [if_neg hb, hp]
        rw [e1]
        unfold compactG lookG
        rw [if_neg (show ¬ endAt (bnd a) { x with ps := x.ps.drop p, v := wrap64 (x.v + (p : Int)) } = true from hb)]
        have hps := h.puts (List.mem_cons_self ..)
        simp only
        rw [cntR_drop hps (bnd a) p (by omega), hp, show p + 1 - p = 0 + 1 by omega]
        simp only [List.drop_zero]
        rw [show wrap64 (x.v + (p : Int)) + ((0 : Nat) : Int) = wrap64 (x.v + (p : Int)) by simp, wrap64_id_wrap]
theorem flat_sub {gs gs' : List Gn} (h : GInv gs) (hs : List.Sublist (flatG gs') (flatG gs)) (hne : ∀ x ∈ gs', x.ps ≠ []) (hen : ∀ x ∈ gs'.dropLast, x.ended = true) : GInv gs' :=
  ⟨hne, fun q hq => h.right q (hs.subset hq), h.rise.sublist hs, hen⟩
theorem compact_inv {gs : List Gn} (h : GInv gs) (a : Int) : GInv (compactG gs a) ∧ (∀ x ∈ compactG gs a, ∃ y ∈ gs, x.ps.length ≤ y.ps.length) ∧ (compactG gs a).length ≤ gs.length := by
  induction gs with
  | nil => exact ⟨GInv.nil, fun x hx => absurd hx (by simp [compactG, lookG]), Nat.le_refl _⟩
  | cons x r ih =>
    by_cases hb : endAt (bnd a) x = true
    · have e1 : compactG (x :: r) a = compactG r a := by unfold compactG; rw [show lookG (bnd a) (x :: r) = lookG (bnd a) r from if_pos hb]
      rw [e1]
      obtain ⟨i1, i2, i3⟩ := ih h.tail
      exact ⟨i1, fun y hy => by obtain ⟨z, hz, hl⟩ := i2 y hy; exact ⟨z, List.mem_cons_of_mem _ hz, hl⟩, by simp; omega⟩
    · cases hp : cntR x.ps (bnd a) with
      | zero =>
        have e1 : compactG (x :: r) a = x :: r := by unfold compactG lookG; rw [if_neg hb, hp]
        rw [e1]
        exact ⟨h, fun y hy => ⟨y, hy, Nat.le_refl _⟩, Nat.le_refl _⟩
      | succ p =>
        have e1 : compactG (x :: r) a = { x with ps := x.ps.drop p, v := wrap64 (x.v + (p : Int)) } :: r := by unfold compactG lookG; rw [if_neg hb, hp]
        rw [e1]
        obtain ⟨h1, h2, h3, h4, h5⟩ := h.head
        have hle := cntR_le x.ps (bnd a)
        have hsub : List.Sublist (Gn.revs { x with ps := x.ps.drop p, v := wrap64 (x.v + (p : Int)) }) x.revs := List.Sublist.append (List.drop_sublist _ _) (List.Sublist.refl _)
        refine ⟨GInv.cons h.tail (fun e => ?_) (h2.sublist hsub) (fun q hq => h3 q (hsub.subset hq)) (fun q hq b hb => h4 q (hsub.subset hq) b hb) h5, fun y hy => ?_, by simp⟩
        · have := congrArg List.length e
          simp only [List.length_drop, List.length_nil] at this
          omega
        · rcases List.mem_cons.1 hy with rfl | hy
          · exact ⟨x, List.mem_cons_self .., by simp⟩
          · exact ⟨y, List.mem_cons_of_mem _ hy, Nat.le_refl _⟩
theorem compact_v {gs : List Gn} (hv : ∀ x ∈ gs, wrap64 x.v = x.v) (a : Int) : ∀ x ∈ compactG gs a, wrap64 x.v = x.v := by
  induction gs with
  | nil => exact fun x hx => absurd hx (by simp [compactG, lookG])
  | cons x r ih =>
    by_cases hb : endAt (bnd a) x = true
    · have e1 : compactG (x :: r) a = compactG r a := by unfold compactG; rw [show lookG (bnd a) (x :: r) = lookG (bnd a) r from if_pos hb]
      rw [e1]
      exact ih fun y hy => hv y (List.mem_cons_of_mem _ hy)
    · cases hp : cntR x.ps (bnd a) with
      | zero =>
        have e1 : compactG (x :: r) a = x :: r := by unfold compactG lookG; rw [if_neg hb, hp]
        rw [e1]; exact hv
      | succ p =>
        have e1 : compactG (x :: r) a = { x with ps := x.ps.drop p, v := wrap64 (x.v + (p : Int)) } :: r := by unfold compactG lookG; rw [if_neg hb, hp]
        rw [e1]
        intro y hy
        rcases List.mem_cons.1 hy with rfl | hy
        · exact wrap64_id_wrap _
        · exact hv y (List.mem_cons_of_mem _ hy)
/-- The last revision; (0, 0): there is none. -/
def newestG (gs : List Gn) : Rv := (flatG gs).getLastD (0, 0)
theorem newest_above {gs : List Gn} (h : GInv gs) {r : Rv} (hr : rightR r.1 r.2 = true) (hn : ltR (newestG gs) r = true) : ∀ q ∈ flatG gs, ltR q r = true := by
  intro q hq
  unfold newestG at hn
  rcases List.eq_nil_or_concat (flatG gs) with e | ⟨l, z, e⟩
  · rw [e] at hq; simp at hq
  · rw [e] at hn hq
    have hp := h.rise
    rw [e, List.concat_eq_append, List.pairwise_append] at hp
    rw [List.concat_eq_append] at hq hn
    simp only [List.getLastD_eq_getLast?, List.getLast?_append, List.getLast?_singleton, Option.some_or, Option.getD_some] at hn
    rcases List.mem_append.1 hq with hq | hq
    · exact ltR_trans (hp.2.2 q hq z (by simp)) hn
    · rw [List.mem_singleton.1 hq]; exact hn
theorem flat_snoc (gs : List Gn) (x : Gn) : flatG (gs ++ [x]) = flatG gs ++ x.revs := by simp [flatG]
theorem snoc_inv {gs : List Gn} {x : Gn} (h : GInv gs) (hen : ∀ y ∈ gs, y.ended = true) (h1 : x.ps ≠ []) (h2 : ∀ q ∈ x.revs, rightR q.1 q.2 = true) (h3 : List.Pairwise (fun a b => ltR a b = true) (flatG gs ++ x.revs)) : GInv (gs ++ [x]) where
  ne y hy := by
    rcases List.mem_append.1 hy with hy | hy
    · exact h.ne y hy
    · rw [List.mem_singleton.1 hy]; exact h1
  right q hq := by
    rw [flat_snoc] at hq
    rcases List.mem_append.1 hq with hq | hq
    · exact h.right q hq
    · exact h2 q hq
  rise := by rw [flat_snoc]; exact h3
  en y hy := hen y (by simpa using hy)
theorem front_inv {gs : List Gn} {x : Gn} (h : GInv (gs ++ [x])) : GInv gs ∧ (∀ y ∈ gs, y.ended = true) ∧ x.ps ≠ [] ∧ (∀ q ∈ x.revs, rightR q.1 q.2 = true) ∧ List.Pairwise (fun a b => ltR a b = true) (flatG gs ++ x.revs) := by
  have hr := h.rise
  have hq := h.right
  rw [flat_snoc] at hr hq
  have hen : ∀ y ∈ gs, y.ended = true := fun y hy => h.en y (by simpa using hy)
  refine ⟨⟨fun y hy => h.ne y (List.mem_append.2 (.inl hy)), fun q k => hq q (List.mem_append.2 (.inl k)), (List.pairwise_append.1 hr).1, fun y hy => hen y (List.dropLast_subset _ hy)⟩, hen, h.ne x (by simp), fun q k => hq q (List.mem_append.2 (.inr k)), hr⟩
/-- A put behind a generation that goes on. -/
theorem put_more {gs : List Gn} {x : Gn} (h : GInv (gs ++ [x])) (hx : x.ended = false) {r : Rv} (hr : rightR r.1 r.2 = true) (hn : ltR (newestG (gs ++ [x])) r = true) : GInv (gs ++ [{ x with ps := x.ps ++ [r] }]) := by
  have ha := newest_above h hr hn
  obtain ⟨h1, h2, h3, h4, h5⟩ := front_inv h
  rw [flat_snoc] at ha
  have e : Gn.revs { x with ps := x.ps ++ [r] } = x.revs ++ [r] := by
    unfold Gn.revs
    rw [if_neg (by rw [show Gn.ended { x with ps := x.ps ++ [r] } = x.ended from rfl, hx]; simp), if_neg (by rw [hx]; simp)]
    simp
  refine snoc_inv h1 h2 (by simp) (fun q hq => ?_) ?_
  · rw [e] at hq
    rcases List.mem_append.1 hq with hq | hq
    · exact h4 q hq
    · rw [List.mem_singleton.1 hq]; exact hr
  · rw [e, ← List.append_assoc, List.pairwise_append]
    exact ⟨h5, by simp, fun a ka b kb => by rw [List.mem_singleton.1 kb]; exact ha a ka⟩
/-- A put that begins a generation. -/
theorem put_new {gs : List Gn} (h : GInv gs) (hen : ∀ y ∈ gs, y.ended = true) {r : Rv} (hr : rightR r.1 r.2 = true) (hn : ltR (newestG gs) r = true) (c v : Int) : GInv (gs ++ [⟨c, v, [r], (0, 0)⟩]) := by
  have ha := newest_above h hr hn
  have e : Gn.revs ⟨c, v, [r], (0, 0)⟩ = [r] := by simp [Gn.revs, Gn.ended]
  refine snoc_inv h hen (by simp) (fun q hq => ?_) ?_
  · rw [e] at hq
    rw [List.mem_singleton.1 hq]; exact hr
  · rw [e, List.pairwise_append]
    exact ⟨h.rise, by simp, fun a ka b kb => by rw [List.mem_singleton.1 kb]; exact ha a ka⟩
theorem tomb_inv {gs : List Gn} {x : Gn} (h : GInv (gs ++ [x])) (hx : x.ended = false) {r : Rv} (hr : rightR r.1 r.2 = true) (hn : ltR (newestG (gs ++ [x])) r = true) : GInv (gs ++ [{ x with e := r }]) := by
  have ha := newest_above h hr hn
  obtain ⟨h1, h2, h3, h4, h5⟩ := front_inv h
  rw [flat_snoc] at ha
  have hr0 : ¬ r = (0, 0) := by
    rintro rfl
    simp [rightR] at hr
  have e : Gn.revs { x with e := r } = x.revs ++ [r] := by
    unfold Gn.revs
    rw [if_pos (by unfold Gn.ended; simp [hr0]), if_neg (by rw [hx]; simp)]
    simp
  refine snoc_inv h1 h2 h3 (fun q hq => ?_) ?_
  · rw [e] at hq
    rcases List.mem_append.1 hq with hq | hq
    · exact h4 q hq
    · rw [List.mem_singleton.1 hq]; exact hr
  · rw [e, ← List.append_assoc, List.pairwise_append]
    exact ⟨h5, by simp, fun a ka b kb => by rw [List.mem_singleton.1 kb]; exact ha a ka⟩
end Go.Proofs.YtlckeebbjnhejaaGreat
end
