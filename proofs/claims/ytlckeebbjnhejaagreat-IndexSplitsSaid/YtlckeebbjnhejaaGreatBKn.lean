/-
  Texts laid together: Kn Ko Kp Kq Kr Ks Kt Kz Lb.
-/
import Derived.Test.YtlckeebbjnhejaaGreatBKl
import Derived.Test.YtlckeebbjnhejaaGreatBLaySort
import Derived.Test.YtlckeebbjnhejaaGreatBHc
import Derived.Test.YtlckeebbjnhejaaGreatBGo
section
/-
  Rows sorted: slices.SortFunc over revisions; what rev.Compare leaves, told to the block.
-/
namespace Go.Proofs.YtlckeebbjnhejaaGreat
open Go.ChangeShapes Go.WideShapes Go.ChangeAt Go.RowKit Go.Deep
set_option linter.unusedVariables false
set_option linter.unusedSimpArgs false

/-- A world that has come of another one by draws and new blocks alone. -/
def Gro (w w' : World) : Prop := ∃ q os, w' = Sort.grow (w.drewN q) os
theorem Gro.refl (w : World) : Gro w w := ⟨0, #[], by rw [Sort.grow_empty]; rfl⟩
theorem Gro.alloc {w w' : World} (h : Gro w w') (o : Obj) : Gro w (w'.alloc o) := by
  obtain ⟨q, os, rfl⟩ := h
  exact ⟨q, os ++ #[o], by rw [Sort.alloc_eq_grow, Sort.grow_grow]⟩
theorem Gro.alloc_eq {w w' W : World} (h : Gro w w') {o : Obj} (e : W = w'.alloc o) : Gro w W := by subst e; exact h.alloc o
theorem Gro.drew {w w' : World} (h : Gro w w') : Gro w w'.drew := by
  obtain ⟨q, os, rfl⟩ := h
  exact ⟨q + 1, os, rfl⟩
theorem Gro.trans {a b c : World} (h : Gro a b) (k : Gro b c) : Gro a c := by
  obtain ⟨q, os, rfl⟩ := h
  obtain ⟨q', os', rfl⟩ := k
  exact ⟨q + q', os ++ os', by
    show ({ heap := (a.heap ++ os) ++ os', tape := a.tape, drawn := a.drawn + q + q', os := a.os, output := a.output } : World) = { heap := a.heap ++ (os ++ os'), tape := a.tape, drawn := a.drawn + (q + q'), os := a.os, output := a.output }
    rw [Array.append_assoc, Nat.add_assoc]⟩
set_option maxHeartbeats 2000000 in
theorem cmp_gro (M S M' S' : Int) (w : World) :
    Calls Tryz.prog 32 #[.agg #[.int .i64 M, .int .i64 S], .agg #[.int .i64 M', .int .i64 S']] w fun e w' => e = .returned (.int .i64 (ordR M S M' S')) ∧ Gro w w' := by
  rw [ordR_cmp]
  have HC1 := fun w => kept (cmp_i M M' w)
  have HC2 := fun w => kept (cmp_i S S' w)
  generalize cmpI M M' = c1 at HC1 ⊢
  generalize cmpI S S' = c2 at HC2 ⊢
  obtain ⟨r, hr⟩ : ∃ r, (if c1 = 0 then c2 else c1) = r := ⟨_, rfl⟩
  have HOR : ∀ (t : TypeId) (w W : World), W = w.alloc (.cells #[.int .i64 c1, .int .i64 c2] t) → Hid _ := fun t w W h => kept (or_new c1 c2 t w W h)
  rw [hr] at HOR ⊢
  have ht1 := (two_new w 29 M S).keeps (Keeps.alloc _ (.cells #[.int .i64 M', .int .i64 S'] 29))
  have ht2 := two_new (w.alloc (.cells #[.int .i64 M, .int .i64 S] 29)) 29 M' S'
  rw [show (w.alloc (.cells #[.int .i64 M, .int .i64 S] 29)).heap.size = w.heap.size + 1 by simp] at ht2
  have hb0 := ((Gro.refl w).alloc (.cells #[.int .i64 M, .int .i64 S] 29)).alloc (.cells #[.int .i64 M', .int .i64 S'] 29)
  have HT1 := kept ht1
  have HT2 := kept ht2
  have HB := kept hb0
  clear ht1 ht2 hb0 hr
  go_enter Tryz.func32, Tryz.ntmps32
  go_wp2_with fail
  generalize (w.alloc (.cells #[.int .i64 M, .int .i64 S] 29)).alloc (.cells #[.int .i64 M', .int .i64 S'] 29) = W0 at HT1 HT2 HB ⊢
  have HS : Hid (Two W0.drew w.heap.size M S ∧ Two W0.drew (w.heap.size + 1) M' S') := kept ⟨HT1.out, HT2.out⟩
  replace HB := kept HB.out.drew
  refine wp_region_held_drew (S := (fun W' => (W'.cell? ⟨w.heap.size, 0, none⟩ = some (.int .i64 M) ∧ W'.cell? ⟨w.heap.size, 1, none⟩ = some (.int .i64 S)) ∧ (W'.cell? ⟨w.heap.size + 1, 0, none⟩ = some (.int .i64 M') ∧ W'.cell? ⟨w.heap.size + 1, 1, none⟩ = some (.int .i64 S')))) (by kernel_rfl) ?_ (fun hHeld => ?_)
  · ((try dsimp only); (with_reducible exact HS.out))
  generalize W0.drew = W at HB HS hHeld ⊢
  refine hand_take 0 (some 5) ?_ (by kernel_rfl) (by kernel_rfl) (by kernel_rfl) (by kernel_rfl) (by kernel_rfl) (fun _ _ _ h => h) ?_ (by assumption) ?_
  rotate_left
  · (intro o ho w hSw; (simp only [List.getElem?_toArray, List.getElem?_cons_succ, List.getElem?_cons_zero, Option.some.injEq] at ho); subst ho; (try dsimp only at hSw); go_simp; (first | done | with_reducible rfl))
  (try simp only [Act.put, List.setIfInBounds_toArray, List.set_cons_zero, List.set_cons_succ])
  refine hand_take 1 (some 6) ?_ (by kernel_rfl) (by kernel_rfl) (by kernel_rfl) (by kernel_rfl) (by kernel_rfl) (fun _ _ _ h => h) ?_ (by assumption) ?_
  rotate_left
  · (intro o ho w hSw; (simp only [List.getElem?_toArray, List.getElem?_cons_succ, List.getElem?_cons_zero, Option.some.injEq] at ho); subst ho; (try dsimp only at hSw); go_simp; (first | done | with_reducible rfl))
  (try simp only [Act.put, List.setIfInBounds_toArray, List.set_cons_zero, List.set_cons_succ])
  refine hand_take 2 (some 7) ?_ (by kernel_rfl) (by kernel_rfl) (by kernel_rfl) (by kernel_rfl) (by kernel_rfl) (fun _ _ _ h => h) ?_ (by assumption) ?_
  rotate_left
  · (intro o ho w hSw; (simp only [List.getElem?_toArray, List.getElem?_cons_succ, List.getElem?_cons_zero, Option.some.injEq] at ho); subst ho; (try dsimp only at hSw); go_simp; (first | done | with_reducible rfl))
  (try simp only [Act.put, List.setIfInBounds_toArray, List.set_cons_zero, List.set_cons_succ])
  refine hand_take 3 (some 8) ?_ (by kernel_rfl) (by kernel_rfl) (by kernel_rfl) (by kernel_rfl) (by kernel_rfl) (fun _ _ _ h => h) ?_ (by assumption) ?_
  rotate_left
  · (intro o ho w hSw; (simp only [List.getElem?_toArray, List.getElem?_cons_succ, List.getElem?_cons_zero, Option.some.injEq] at ho); subst ho; (try dsimp only at hSw); go_simp; (first | done | with_reducible rfl))
  (try simp only [Act.put, List.setIfInBounds_toArray, List.set_cons_zero, List.set_cons_succ])
  refine hand_take 5 (some 10) ?_ (by kernel_rfl) (by kernel_rfl) (by kernel_rfl) (by kernel_rfl) (by kernel_rfl) (fun _ _ _ h => h) ?_ (by assumption) ?_
  rotate_left
  · (intro o ho w hSw; (simp only [List.getElem?_toArray, List.getElem?_cons_succ, List.getElem?_cons_zero, Option.some.injEq] at ho); subst ho; (try dsimp only at hSw); go_simp; (first | done | with_reducible rfl))
  (try simp only [Act.put, List.setIfInBounds_toArray, List.set_cons_zero, List.set_cons_succ])
  refine hand_take 6 (some 11) ?_ (by kernel_rfl) (by kernel_rfl) (by kernel_rfl) (by kernel_rfl) (by kernel_rfl) (fun _ _ _ h => h) ?_ (by assumption) ?_
  rotate_left
  · (intro o ho w hSw; (simp only [List.getElem?_toArray, List.getElem?_cons_succ, List.getElem?_cons_zero, Option.some.injEq] at ho); subst ho; (try dsimp only at hSw); go_simp; (first | done | with_reducible rfl))
  (try simp only [Act.put, List.setIfInBounds_toArray, List.set_cons_zero, List.set_cons_succ])
  refine hand_take 7 (some 12) ?_ (by kernel_rfl) (by kernel_rfl) (by kernel_rfl) (by kernel_rfl) (by kernel_rfl) (fun _ _ _ h => h) ?_ (by assumption) ?_
  rotate_left
  · (intro o ho w hSw; (simp only [List.getElem?_toArray, List.getElem?_cons_succ, List.getElem?_cons_zero, Option.some.injEq] at ho); subst ho; (try dsimp only at hSw); go_simp; (first | done | with_reducible rfl))
  (try simp only [Act.put, List.setIfInBounds_toArray, List.set_cons_zero, List.set_cons_succ])
  refine hand_take 8 (some 13) ?_ (by kernel_rfl) (by kernel_rfl) (by kernel_rfl) (by kernel_rfl) (by kernel_rfl) (fun _ _ _ h => h) ?_ (by assumption) ?_
  rotate_left
  · (intro o ho w hSw; (simp only [List.getElem?_toArray, List.getElem?_cons_succ, List.getElem?_cons_zero, Option.some.injEq] at ho); subst ho; (try dsimp only at hSw); go_simp; (first | done | with_reducible rfl))
  (try simp only [Act.put, List.setIfInBounds_toArray, List.set_cons_zero, List.set_cons_succ])
  refine hand_ready 4 (by kernel_rfl) (by kernel_rfl) (fun o ho K hK => ?_)
  (simp only [List.getElem?_toArray, List.getElem?_cons_succ, List.getElem?_cons_zero, Option.some.injEq] at ho)
  subst ho
  go_simp
  (go_at_call 61; (with_reducible refine (HC1 _).out.mono ?_); rintro e w' ⟨rfl, rfl⟩)
  (try go_wp2_with fail)
  refine hK.out _ _ ?_ (fun hHeld => ?_)
  · ((try dsimp only); (with_reducible exact HS.out))
  clear hK K
  (try simp only [Act.put, List.setIfInBounds_toArray, List.set_cons_zero, List.set_cons_succ])
  refine hand_ready 9 (by kernel_rfl) (by kernel_rfl) (fun o ho K hK => ?_)
  (simp only [List.getElem?_toArray, List.getElem?_cons_succ, List.getElem?_cons_zero, Option.some.injEq] at ho)
  subst ho
  go_simp
  (go_at_call 61; (with_reducible refine (HC2 _).out.mono ?_); rintro e w' ⟨rfl, rfl⟩)
  (try go_wp2_with fail)
  refine hK.out _ _ ?_ (fun hHeld => ?_)
  · ((try dsimp only); (with_reducible exact HS.out))
  clear hK K
  (try simp only [Act.put, List.setIfInBounds_toArray, List.set_cons_zero, List.set_cons_succ])
  refine hand_ready 10 (by kernel_rfl) (by kernel_rfl) (fun o ho K hK => ?_)
  (simp only [List.getElem?_toArray, List.getElem?_cons_succ, List.getElem?_cons_zero, Option.some.injEq] at ho)
  subst ho
  go_simp
  (refine name_world (fun W hW => ?_); have HW := kept hW; have hk := keeps_alloc hW; have HS := kept (And.intro (Two.keeps HS.out.1 hk) (Two.keeps HS.out.2 hk)); replace HB := kept (HB.out.alloc_eq hW); clear hW hk)
  refine hK.out _ _ ?_ (fun hHeld => ?_)
  · ((try dsimp only); (with_reducible exact HS.out))
  clear hK K
  (try simp only [Act.put, List.setIfInBounds_toArray, List.set_cons_zero, List.set_cons_succ])
  refine hand_ready 11 (by kernel_rfl) (by kernel_rfl) (fun o ho K hK => ?_)
  (simp only [List.getElem?_toArray, List.getElem?_cons_succ, List.getElem?_cons_zero, Option.some.injEq] at ho)
  subst ho
  go_simp
  (go_at_call 60; (with_reducible refine (HOR _ _ _ HW.out).out.mono ?_); rintro e w' ⟨rfl, rfl⟩)
  (try go_wp2_with fail)
  refine hK.out _ _ ?_ (fun hHeld => ?_)
  · ((try dsimp only); (with_reducible exact HS.out))
  clear hK K
  (try simp only [Act.put, List.setIfInBounds_toArray, List.set_cons_zero, List.set_cons_succ])
  refine hand_take 12 (some 4) ?_ (by kernel_rfl) (by kernel_rfl) (by kernel_rfl) (by kernel_rfl) (by kernel_rfl) (fun _ _ _ h => h) ?_ (by assumption) ?_
  rotate_left
  · (intro o ho w hSw; (simp only [List.getElem?_toArray, List.getElem?_cons_succ, List.getElem?_cons_zero, Option.some.injEq] at ho); subst ho; (try dsimp only at hSw); go_simp; (first | done | with_reducible rfl))
  (try simp only [Act.put, List.setIfInBounds_toArray, List.set_cons_zero, List.set_cons_succ])
  refine wpAnyH_done (by kernel_rfl) ?_ _
  go_wp2
  go_ret
  exact ⟨rfl, HB.out⟩
end Go.Proofs.YtlckeebbjnhejaaGreat
end

section
/-
  Rows sorted: what is left of a row of the caller's own; slices.SortFunc over revisions.
-/
namespace Go.Proofs.YtlckeebbjnhejaaGreat
open Go.ChangeShapes Go.WideShapes Go.ChangeAt Go.RowKit Go.Deep
set_option linter.unusedVariables false
set_option linter.unusedSimpArgs false

theorem flat_at {α : Type} (enc : α → List Value) (k : Nat) (hk : ∀ x, (enc x).length = k) : ∀ (l : List α) (i : Nat) (h : i < l.length) (r : Nat), r < k → (l.flatMap enc)[i * k + r]? = (enc l[i])[r]?
  | p :: es, 0, _, r, hr => by rw [List.flatMap_cons, List.getElem?_append_left (by rw [hk]; omega)]; simp
  | p :: es, i + 1, h, r, hr => by
    rw [List.flatMap_cons, List.getElem?_append_right (by rw [hk, Nat.add_mul]; omega), hk, show (i + 1) * k + r - k = i * k + r by rw [Nat.add_mul]; omega, flat_at enc k hk es i (by simpa using h) r hr]
    simp
theorem flat_len {α : Type} (enc : α → List Value) (k : Nat) (hk : ∀ x, (enc x).length = k) : ∀ (l : List α), (l.flatMap enc).length = l.length * k
  | [] => by simp
  | p :: es => by rw [List.flatMap_cons, List.length_append, hk, flat_len enc k hk es, List.length_cons, Nat.add_mul]; omega
/-- A flat row's cell. -/
theorem flatK_get {α : Type} [Inhabited α] (enc : α → List Value) (k : Nat) (hk : ∀ x, (enc x).length = k) (d : Array α) (j : Nat) (hj : j < d.size * k) : (d.toList.flatMap enc)[j]? = some ((Sort.flatK enc k d)[j]!) := by
  have k0 : 0 < k := by
    rcases Nat.eq_zero_or_pos k with h | h
    · subst h; simp at hj
    · exact h
  have hq : j / k < d.size := (Nat.div_lt_iff_lt_mul k0).2 hj
  have hr : j % k < k := Nat.mod_lt _ k0
  have he : j = j / k * k + j % k := by rw [Nat.mul_comm]; exact (Nat.div_add_mod j k).symm
  have h1 := flat_at enc k hk d.toList (j / k) (by simpa using hq) (j % k) hr
  rw [← he] at h1
  rw [h1, Sort.get_flatK enc k d j hj]
  have h2 : d[j / k]! = d.toList[j / k]'(by simpa using hq) := by rw [getElem!_pos d (j / k) hq]; simp
  rw [h2, List.getElem?_eq_getElem (by rw [hk]; exact hr), getElem!_pos _ _ (by rw [hk]; exact hr)]
theorem row_sorted {α : Type} [Inhabited α] {w : World} {base g n c k : Nat} {e : TypeId} {xs : List Value} (enc : α → List Value) (hk : ∀ x, (enc x).length = k) (h : w.ownsRow base e k (.slice (some ⟨g, 0, none⟩) n c) n xs) (d : Array α) (hd : d.size = n) (m : Nat) (os : Array Obj) :
    (sortWorldK enc k w g 0 m d os).ownsRow base e k (.slice (some ⟨g, 0, none⟩) n c) n (d.toList.flatMap enc) ∧ Turned w (sortWorldK enc k w g 0 m d os) (fun j => j = g) := by
  rcases h.2 with ⟨e0, h0⟩ | ⟨g', cap, cur, hv, hb, hh, r1, r2, r3, r4⟩
  · cases e0
  · injection hv with hA _ hc
    injection hA with hA; injection hA with hA
    subst hA hc
    have hgl : g < w.heap.size := (Array.getElem?_eq_some_iff.1 hh).1
    have hsz : (sortWorldK enc k w g 0 m d os).heap = (w.heap.modify g (Sort.onCells (Sort.putCells id 0 (Sort.flatK enc k d)))) ++ os := rfl
    have hg2 : (sortWorldK enc k w g 0 m d os).heap[g]? = some (.cells (Sort.putCells id 0 (Sort.flatK enc k d) cur) e (0, 0)) := by
      rw [hsz, Array.getElem?_append_left (by simpa using hgl), Array.getElem?_modify, if_pos rfl, hh]
      rfl
    refine ⟨own_of_cells hg2 hb r1 r2 (by simp [Sort.putCells, r3]) (by rw [flat_len enc k hk]; simp [hd]) (fun j hj => ?_), rfl, rfl, rfl, by rw [hsz]; simp, fun i hi hn => ?_⟩
    · have hjc : j < cur.size := by rw [r3]; exact Nat.lt_of_lt_of_le hj (Nat.mul_le_mul_right _ r1)
      have hcell : (sortWorldK enc k w g 0 m d os).cell? ⟨g, j, none⟩ = (Sort.putCells id 0 (Sort.flatK enc k d) cur)[j]? := by
        have hB : Blk (sortWorldK enc k w g 0 m d os) g e (Sort.putCells id 0 (Sort.flatK enc k d) cur).toList := by simpa [Blk] using hg2
        rw [hB.cell, Array.getElem?_toList]
      rw [hcell, flatK_get enc k hk d j (by rw [hd]; exact hj)]
      unfold Sort.putCells
      rw [Array.getElem?_mapIdx, Array.getElem?_eq_getElem hjc, Option.map_some, if_pos ⟨Nat.zero_le _, by rw [Sort.size_flatK, hd]; omega⟩]
      rfl
    · rw [hsz, Array.getElem?_append_left (by simpa using hi), Array.getElem?_modify, if_neg (fun e => hn e.symm)]
/-- A revision's cells. -/
def encR (p : Rv) : List Value := [.int .i64 p.1, .int .i64 p.2]
def cfR (a b : Rv) : Int := ordR a.1 a.2 b.1 b.2
theorem swoR : Sort.SWO (ltOf cfR) where
  irrefl x := ltR_irr x
  trans x y z h1 h2 := ltR_trans h1 h2
  ntrans x y z h1 h2 := by
    have h1 : ltR x y = false := h1
    have h2 : ltR y z = false := h2
    show ltR x z = false
    cases h3 : ltR x z with
    | false => rfl
    | true =>
      rw [← Bool.not_eq_true, ltR_iff] at h1 h2
      rw [ltR_iff] at h3
      omega
/-- Revisions in order. -/
def sortRv (ps : List Rv) : List Rv := if ps = [] then [] else (Sort.pdq (ltOf cfR) ps.toArray 0 ps.length (Lib.bitLen ps.length) true true).toList
theorem sortRv_perm (ps : List Rv) : (sortRv ps).Perm ps := by
  unfold sortRv
  by_cases h : ps = []
  · rw [if_pos h, h]
  · rw [if_neg h]
    have := (Sort.pdq_sorts (ltOf cfR) swoR ps.toArray 0 ps.toArray.size (Lib.bitLen ps.length) true true (Nat.zero_le _) (Nat.le_refl _) (Or.inl rfl)).1
    obtain ⟨h1, _, h3⟩ := this
    rw [show (ps.toArray.extract 0 ps.toArray.size).toList = ps by simp] at h3
    have h4 : ∀ d : Array Rv, d.size = ps.toArray.size → (d.extract 0 ps.toArray.size).toList = d.toList := fun d hd => by rw [← hd]; simp
    rw [h4 _ h1] at h3
    exact h3
set_option maxHeartbeats 2000000 in
theorem sortR_any (A : Option Addr) (n c base : Nat) (ps : List Rv) (w : World) (h : w.ownsRow base 29 2 (.slice A n c) n (rvC ps)) (hn : n ≤ 1000000) :
    Calls Tryz.prog 31 #[.slice A n c, .func (.func 32) #[] #[]] w fun e w' => e = .returned (.tuple #[]) ∧ w'.ownsRow base 29 2 (.slice A n c) n (rvC (sortRv ps)) ∧ Turned w w' (fun j => (Value.slice A n c).ownBlock = some j) := by
  have hl := h.1
  rw [rvC_length] at hl
  rcases Nat.eq_zero_or_pos n with h0 | h0
  · subst h0
    obtain rfl : ps = [] := List.eq_nil_of_length_eq_zero (by omega)
    have hcon := AnyF.slices_SortFunc_none Tryz.sortRA A c (.func (.func 32) #[] #[]) w
    change Calls Tryz.prog 31 _ _ _ at hcon
    refine hcon.mono ?_
    rintro e w' ⟨rfl, rfl⟩
    exact ⟨rfl, h, Turned.refl _ _⟩
  · obtain ⟨g, rfl, _, hgl, _, _, hc⟩ := gown_at h h0
    have hps : ps.length = n := by omega
    have hfz : ∀ j, w.frozen? ⟨g, j, none⟩ = false := fun j => by
      obtain ⟨cur, hcur⟩ := gown_cl (k := 0) h (g := g) rfl
      exact gfrozen_ hcur j
    have hH : Sort.HoldsK encR 2 w g 0 ps.toArray := fun j hj => by
      rw [Sort.size_flatK] at hj
      rw [Nat.zero_add]
      refine ⟨?_, hfz j⟩
      have hx := flatK_get encR 2 (fun _ => rfl) ps.toArray j hj
      exact hc j _ hx
    have eg : ∀ args w, (callFunc 32 args).run Tryz.prog w = .ok (.enter 32 args) w := enters_of Tryz.func32 (by kernel_rfl) rfl
    have hcmp : CmpLays Tryz.prog 32 #[] encR 2 cfR g 0 ps.toArray.size w := fun m os dk hs x y => cmp_gro x.1 x.2 y.1 y.2 _
    have hcon := AnyQ.slices_SortFunc_eq Tryz.sortRA 2 Tryz.isAgg29 Tryz.sizeOf29 encR (fun _ => rfl) (fun x v hv => by simp [encR] at hv; rcases hv with rfl | rfl <;> rfl) cfR swoR 32 #[] g 0 c ps.toArray w eg hcmp hH hgl (by simp; omega)
    change Calls Tryz.prog 31 _ _ _ at hcon
    rw [show ps.toArray.size = n by simp [hps]] at hcon
    refine hcon.mono ?_
    rintro e w' ⟨rfl, m, os, rfl⟩
    have hsz : (Sort.pdq (ltOf cfR) ps.toArray 0 n (Lib.bitLen n) true true).size = n := by
      have := (Sort.pdq_sorts (ltOf cfR) swoR ps.toArray 0 n (Lib.bitLen n) true true (Nat.zero_le _) (by simp [hps]) (Or.inl rfl)).1.1
      rw [this]; simp [hps]
    obtain ⟨h1, h2⟩ := row_sorted encR (fun _ => rfl) h _ hsz m os
    refine ⟨rfl, ?_, h2.mono (fun j _ e => by rw [e]; rfl)⟩
    have : sortRv ps = (Sort.pdq (ltOf cfR) ps.toArray 0 n (Lib.bitLen n) true true).toList := by
      unfold sortRv
      rw [if_neg (fun e => by rw [e] at hps; simp at hps; (try omega)), hps]
    rw [this]
    exact h1
end Go.Proofs.YtlckeebbjnhejaaGreat
end

section
/-
  package index: Keep.
-/
namespace Go.Proofs.YtlckeebbjnhejaaGreat
open Go.ChangeShapes Go.WideShapes Go.ChangeAt Go.RowKit Go.Deep
set_option linter.unusedVariables false
set_option linter.unusedSimpArgs false

/-- The revisions that are kept of those up to at, key by key. -/
def keepN (P : List PE) (at_ : Int) (j : Nat) : List Rv := (P.take j).filterMap fun e => (getG e.2 at_).map fun f => f.1
def keepX (P : List PE) (at_ : Int) : List Rv := P.filterMap fun e => (getG e.2 at_).map fun f => f.1
def oneR (o : Option (Rv × Int × Int)) : List Rv := match o with | some f => [f.1] | none => []
theorem keepN_next {P : List PE} {at_ : Int} {j : Nat} {e : PE} (he : P[j]? = some e) : keepN P at_ (j + 1) = keepN P at_ j ++ oneR (getG e.2 at_) := by
  unfold keepN
  rw [List.take_add_one, he, List.filterMap_append]
  simp only [Option.toList_some, List.filterMap_cons, List.filterMap_nil]
  cases getG e.2 at_ <;> rfl
set_option maxHeartbeats 4000000 in
theorem keepL_any {w : World} {x : Nat} {A : Option Addr} {n k : Nat} {l : Rv} {Es : List EnL} (h : IxL w x A n k l Es) {P : List PE} (hP : Es.map EnL.px = P) {N : Nat} (hi : XInv l P N) (hN : N ≤ 800000) (at_ : Int) :
    Calls Tryz.prog 15 #[.pointer (some ⟨x, 0, none⟩), .int .i64 at_] w fun e w' => ∃ A' n' k', e = .returned (.slice A' n' k') ∧ w'.ownsRow w.heap.size 29 2 (.slice A' n' k') n' (rvC (sortRv (keepX P at_))) ∧ Below w.heap.size w w' := by
  have HPn : Hid (P.length = n) := kept (by rw [← hP, List.length_map]; exact h.ln)
  have hnN : n ≤ 800000 := by have := hi.ln; rw [HPn.out] at this; omega
  have HKX : Hid (keepX P at_ = keepN P at_ n) := kept (by unfold keepX keepN; rw [List.take_of_length_le (by rw [HPn.out]; exact Nat.le_refl _)])
  have HX := kept h
  have HI0 := kept hi
  have HPP := kept hP
  have b0 := h.box.cell 0
  have hcn : (n : Int) ≤ 800000 := by omega
  have H0 : Hid (w.ownsRow w.heap.size 29 2 (.slice none 0 0) 0 (rvC (keepN P at_ 0)) ∧ Below w.heap.size w w) := kept ⟨by simpa [keepN, rvC] using World.ownsRow_nil w w.heap.size 29 2, Below.refl _ _⟩
  clear h hP hi
  go_enter Tryz.func15, Tryz.ntmps15
  go_wp2
  go_loopw [5, 17] (fun o i wr => ∃ (j : Nat) (Ao : Option Addr) (no ko : Nat), j ≤ n ∧ no ≤ j ∧ i = .int .i64 (j : Int) ∧ o = .slice Ao no ko ∧ Hid (wr.ownsRow w.heap.size 29 2 (.slice Ao no ko) no (rvC (keepN P at_ j)) ∧ Below w.heap.size w wr)) (fun _ i _ => n - (intOf i).toNat)
  case atStart => exact ⟨0, none, 0, 0, Nat.zero_le _, Nat.le_refl _, rfl, rfl, H0⟩
  case round =>
    obtain ⟨j, Ao, no, ko, hj, hnj, rfl, rfl, HI⟩ := hrel
    clear H0 b0
    have hj0 : (0 : Int) ≤ (j : Int) := by omega
    by_cases hjn : j < n
    · obtain ⟨ho, hbw⟩ := HI.out
      have hx := HX.out.below hbw
      obtain ⟨g, hA, E, he, hEm, z0, z1, hat⟩ := hx.ent hjn
      subst hA
      have hpe := px_get he
      rw [HPP.out] at hpe
      have hinv : GInv E.gs ∧ BdG E.gs N := by
        have : E.px ∈ P := List.mem_of_getElem? hpe
        exact ⟨HI0.out.inv _ this, HI0.out.bd _ this⟩
      have hjn' : (j : Int) < (n : Int) := by omega
      have hwj : wrap64 ((j : Int) + 1) = (j : Int) + 1 := IntWalk.wrap64_in _ ⟨by omega, by omega⟩
      have HJ := kept hjn
      have HNX := kept (keepN_next (P := P) (at_ := at_) (j := j) hpe)
      have hba : Below wr.heap.size wr (wr.alloc (.cells #[.slice E.A E.n E.c, .pointer (some ⟨E.r, 0, none⟩)] 67)) := (Below.refl _ wr).alloc (Nat.le_refl _) _
      have HG := kept (get_f (hat.his.below hba) hinv.1 hinv.2 (by omega) at_ rfl)
      have HO := kept (gown_turned ho (Turned.of_below hba (fun _ => False)) (fun _ _ e => e))
      have HBW := kept (bel_to hba hbw)
      clear hx he hEm hat hpe hinv hba ho hbw HI hjn
      replace HNX : Hid (keepN P at_ (j + 1) = keepN P at_ j ++ oneR (getG E.gs at_)) := HNX
      generalize getG E.gs at_ = og at HNX HG
      cases og with
      | none =>
        go_wp2_with fail
        generalize wr.alloc (.cells #[.slice E.A E.n E.c, .pointer (some ⟨E.r, 0, none⟩)] 67) = W1 at HG HO HBW ⊢
        with_reducible refine HG.out.mono ?_
        rintro e w2 ⟨rfl, hb⟩
        have HB2 := kept hb
        clear hb z0 z1
        go_wp2
        have hbb := bel_to ((Below.refl _ w2).alloc (Nat.le_refl _) (.cells #[.int .i64 (fnd none).1.1, .int .i64 (fnd none).1.2, .int .i64 (fnd none).2.1, .int .i64 (fnd none).2.2] 31)) HB2.out
        go_roundw
        case rel => exact ⟨j + 1, Ao, no, ko, by have := HJ.out; omega, by omega, by go_num, rfl, kept ⟨by rw [HNX.out]; simpa [oneR] using gown_turned HO.out (Turned.of_below hbb (fun _ => False)) (fun _ _ e => e), bel_to hbb HBW.out⟩⟩
        case measure => have := HJ.out; simp [intOf]; omega
      | some f =>
        rw [show fnd (some f) = f from rfl] at HG
        go_wp2_with fail
        generalize wr.alloc (.cells #[.slice E.A E.n E.c, .pointer (some ⟨E.r, 0, none⟩)] 67) = W1 at HG HO HBW ⊢
        with_reducible refine HG.out.mono ?_
        rintro e w2 ⟨rfl, hb⟩
        have hbb := bel_to ((Below.refl _ w2).alloc (Nat.le_refl _) (.cells #[.int .i64 f.1.1, .int .i64 f.1.2, .int .i64 f.2.1, .int .i64 f.2.2] 31)) hb
        have hFB := Blk.new w2 31 #[.int .i64 f.1.1, .int .i64 f.1.2, .int .i64 f.2.1, .int .i64 f.2.2]
        have q0 : (w2.alloc (.cells #[.int .i64 f.1.1, .int .i64 f.1.2, .int .i64 f.2.1, .int .i64 f.2.2] 31)).cell? ⟨w2.heap.size, 0, none⟩ = some (.int .i64 f.1.1) := hFB.cell 0
        have q1 : (w2.alloc (.cells #[.int .i64 f.1.1, .int .i64 f.1.2, .int .i64 f.2.1, .int .i64 f.2.2] 31)).cell? ⟨w2.heap.size, 1, none⟩ = some (.int .i64 f.1.2) := hFB.cell 1
        have HB3 := kept (And.intro (bel_to hbb HBW.out) (gown_turned HO.out (Turned.of_below hbb (fun _ => False)) (fun _ _ e => e)))
        have hba : Below (w2.alloc (.cells #[.int .i64 f.1.1, .int .i64 f.1.2, .int .i64 f.2.1, .int .i64 f.2.2] 31)).heap.size (w2.alloc (.cells #[.int .i64 f.1.1, .int .i64 f.1.2, .int .i64 f.2.1, .int .i64 f.2.2] 31)) ((w2.alloc (.cells #[.int .i64 f.1.1, .int .i64 f.1.2, .int .i64 f.2.1, .int .i64 f.2.2] 31)).alloc (.cells #[.int .i64 f.1.1, .int .i64 f.1.2] 29)) := (Below.refl _ _).alloc (Nat.le_refl _) _
        have hRB := Blk.new (w2.alloc (.cells #[.int .i64 f.1.1, .int .i64 f.1.2, .int .i64 f.2.1, .int .i64 f.2.2] 31)) 29 #[.int .i64 f.1.1, .int .i64 f.1.2]
        rw [World.size_alloc] at hRB
        have HO4 := kept (And.intro (gown_turned HB3.out.2 (Turned.of_below hba (fun _ => False)) (fun _ _ e => e)) (And.intro (bel_to hba HB3.out.1) hRB))
        clear hb z0 z1 hbb hFB hba hRB
        go_wp2_with (first | (at_builtin; (refine wpList_append_h rfl _ _ 41 rfl 29 rfl rfl Tryz.underlying41 revinfo rfl (by decide) (by decide) HO4.out.1 (ys := [.int .i64 f.1.1, .int .i64 f.1.2]) rfl (fun _ => ⟨_, rfl, fun j u hj => by rw [gadd_at, Nat.zero_add]; exact (HO4.out.2.2.cell j).trans hj⟩) (by intro u hu; simp only [List.mem_cons, List.not_mem_nil, or_false] at hu; rcases hu with rfl | rfl <;> rfl) (by omega) HO4.out.2.1.size ?_; intro A6 c6 w6 h6 g6; have HF6 := kept (And.intro (show w6.ownsRow w.heap.size 29 2 (.slice A6 (no + 1) c6) (no + 1) (rvC (keepN P at_ (j + 1))) by rw [HNX.out, rvC_append]; exact h6) (bel_grown HO4.out.2.1 (Nat.le_refl _) HO4.out.1 g6)); clear h6 g6 q0 q1)))
        go_roundw
        case rel => exact ⟨j + 1, A6, no + 1, c6, by have := HJ.out; omega, by omega, by go_num, rfl, HF6⟩
        case measure => have := HJ.out; simp [intOf]; omega
    · obtain rfl : j = n := by omega
      have hjn' : ¬ (j : Int) < (j : Int) := by omega
      have HS := kept (sortR_any Ao no ko w.heap.size _ wr HI.out.1 (by omega))
      go_wp2_with (first | (go_at_call 31; (with_reducible refine (HS.out).mono ?_); rintro e w8 ⟨rfl, h8, t8⟩; have HF8 := kept (And.intro h8 t8); clear h8 t8))
      go_returns
      obtain ⟨h8, t8⟩ := HF8.out
      exact ⟨Ao, no, ko, rfl, by rw [HKX.out]; exact h8, Turned.only_new HI.out.2 t8 HI.out.2.size (fun i hi => (gown_lt HI.out.1 hi).1)⟩
end Go.Proofs.YtlckeebbjnhejaaGreat
end

section
/-
  package index: entries without a history left are taken out (slices.DeleteFunc).
-/
namespace Go.Proofs.YtlckeebbjnhejaaGreat
open Go.ChangeShapes Go.WideShapes Go.ChangeAt Go.RowKit Go.Deep
set_option linter.unusedVariables false
set_option linter.unusedSimpArgs false

set_option maxHeartbeats 2000000 in
theorem empty_any {w : World} {r : Nat} {F : Nat → Prop} {gs : List Gn} (h : Gs w r F gs) :
    Calls Tryz.prog 65 #[.pointer (some ⟨r, 0, none⟩)] w fun e w' => e = .returned (.bool gs.isEmpty) ∧ Below w.heap.size w w' := by
  obtain ⟨A, n, k, Ls, h1, _⟩ := h
  have b0 := h1.box.cell 0
  have he : gs.isEmpty = ((n : Int) == 0) := by
    rw [← h1.gn]
    cases gs with
    | nil => rfl
    | cons x r => simp; omega
  rw [he]
  generalize hq : ((n : Int) == 0) = b
  clear h1 he
  go_enter Tryz.func65, Tryz.ntmps65
  go_wp2
  go_returns
  exact ⟨by first | rfl | (rw [← hq]; rfl) | (simp [← hq]), Below.refl _ _⟩
set_option maxHeartbeats 2000000 in
theorem spent_any {w : World} {E : EnL} (h : EnAt w E) :
    Calls Tryz.prog 35 #[.agg #[.slice E.A E.n E.c, .pointer (some ⟨E.r, 0, none⟩)]] w fun e w' => e = .returned (.bool E.gs.isEmpty) ∧ Below w.heap.size w w' := by
  have hb : Below w.heap.size w (w.alloc (.cells #[.slice E.A E.n E.c, .pointer (some ⟨E.r, 0, none⟩)] 67)) := (Below.refl _ w).alloc (Nat.le_refl _) _
  have HE := kept (empty_any (h.his.below hb))
  have HB := kept hb
  generalize E.gs.isEmpty = b at HE ⊢
  clear h hb
  go_enter Tryz.func35, Tryz.ntmps35
  go_wp2_with (first | (go_at_call 65; (with_reducible refine (HE.out).mono ?_); rintro e w1 ⟨rfl, hb⟩; have HB1 := kept (bel_to hb HB.out); clear hb))
  go_returns
  exact ⟨rfl, HB1.out⟩
/-- Is there a history left? -/
def kpt (E : EnL) : Bool := !E.gs.isEmpty
/-- What is found of entries that are spent. -/
def Spe (Es : List EnL) (n : Nat) (z : Int) : Prop := (z = -1 ∧ ∀ E ∈ Es, kpt E = true) ∨ ∃ i : Nat, z = i ∧ i < n ∧ (∃ E, Es[i]? = some E ∧ kpt E = false) ∧ ∀ j, j < i → ∀ E, Es[j]? = some E → kpt E = true
set_option maxHeartbeats 2000000 in
theorem idxE_any {w : World} {x : Nat} {A : Option Addr} {n k : Nat} {l : Rv} {Es : List EnL} (h : IxL w x A n k l Es) (hn : n ≤ 1000000) :
    Calls Tryz.prog 64 #[.slice A n k, .func (.func 35) #[] #[]] w fun e w' => ∃ z, e = .returned (.int .i64 z) ∧ Spe Es n z ∧ Below w.heap.size w w' := by
  have HX := kept h
  have hcn : (n : Int) ≤ 1000000 := by omega
  have HLN := kept h.ln
  have H0 : Hid (Below w.heap.size w w ∧ ∀ t, t < 0 → ∀ E, Es[t]? = some E → kpt E = true) := kept ⟨Below.refl _ _, fun t h => absurd h (by omega)⟩
  clear h
  go_enter Tryz.func64, Tryz.ntmps64
  go_wp2
  go_loopw [8] (fun i wr => ∃ (j : Nat), j ≤ n ∧ i = .int .i64 (j : Int) ∧ Hid (Below w.heap.size w wr ∧ ∀ t, t < j → ∀ E, Es[t]? = some E → kpt E = true)) (fun i _ => n - (intOf i).toNat)
  case atStart => exact ⟨0, Nat.zero_le _, rfl, H0⟩
  case round =>
    obtain ⟨j, hj, rfl, HI⟩ := hrel
    clear H0
    have hj0 : (0 : Int) ≤ (j : Int) := by omega
    by_cases hjn : j < n
    · obtain ⟨g, hA, E, he, hEm, z0, z1, hat⟩ := (HX.out.below HI.out.1).ent hjn
      subst hA
      have hjn' : (j : Int) < (n : Int) := by omega
      have hwj : wrap64 ((j : Int) + 1) = (j : Int) + 1 := IntWalk.wrap64_in _ ⟨by omega, by omega⟩
      have HSP := kept (spent_any hat)
      have HJ := kept hjn
      have HE := kept he
      clear he hEm hat hjn
      cases hk : E.gs.isEmpty with
      | true =>
        rw [hk] at HSP
        have HK : Hid (kpt E = false) := kept (by unfold kpt; rw [hk]; rfl)
        clear hk
        go_wp2_with (first | (go_at_call 35; (with_reducible refine (HSP.out).mono ?_); rintro e w1 ⟨rfl, hb⟩; have HB1 := kept (bel_to hb HI.out.1); clear hb))
        go_returns
        exact ⟨(j : Int), rfl, .inr ⟨j, rfl, HJ.out, ⟨E, HE.out, HK.out⟩, HI.out.2⟩, HB1.out⟩
      | false =>
        rw [hk] at HSP
        have HK : Hid (kpt E = true) := kept (by unfold kpt; rw [hk]; rfl)
        clear hk
        go_wp2_with (first | (go_at_call 35; (with_reducible refine (HSP.out).mono ?_); rintro e w1 ⟨rfl, hb⟩; have HB1 := kept (bel_to hb HI.out.1); clear hb))
        go_roundw
        case rel => exact ⟨j + 1, by have := HJ.out; omega, by go_num, kept ⟨HB1.out, fun t ht E' hE' => by
          rcases Nat.lt_or_eq_of_le (Nat.le_of_lt_succ ht) with h1 | rfl
          · exact HI.out.2 t h1 E' hE'
          · rw [HE.out] at hE'
            cases hE'
            exact HK.out⟩⟩
        case measure => have := HJ.out; simp [intOf]; omega
    · obtain rfl : j = n := by omega
      have hjn' : ¬ (j : Int) < (j : Int) := by omega
      go_wp2
      go_returns
      exact ⟨-1, rfl, .inl ⟨rfl, fun E hE => by
        obtain ⟨t, ht, rfl⟩ := List.getElem_of_mem hE
        exact HI.out.2 t (by rw [← HLN.out]; exact ht) _ (List.getElem?_eq_getElem ht)⟩, HI.out.1⟩
/-- A row told shorter. -/
theorem own_short {w : World} {base sz g n k i : Nat} {e : TypeId} {V : List Value} (h : w.ownsRow base e sz (.slice (some ⟨g, 0, none⟩) n k) n V) (hi : i ≤ n) : w.ownsRow base e sz (.slice (some ⟨g, 0, none⟩) i k) i (V.take (i * sz)) := by
  rcases h.2 with ⟨e0, h0⟩ | ⟨g', cap, cur, hv, hb, hh, r1, r2, r3, r4⟩
  · cases e0
  · injection hv with hA _ hc
    injection hA with hA; injection hA with hA
    subst hA hc
    have hm := Nat.mul_le_mul_right sz hi
    refine ⟨by rw [List.length_take, h.1]; omega, .inr ⟨g, k, cur, rfl, hb, hh, Nat.le_trans hi r1, r2, r3, ?_⟩⟩
    rw [← r4, List.take_take, Nat.min_eq_left hm]
theorem take_set2 {V : List Value} {i : Nat} (h : i * 2 + 1 < V.length) (a b : Value) : ((V.set (i * 2) a).set (i * 2 + 1) b).take ((i + 1) * 2) = V.take (i * 2) ++ [a, b] := by
  apply List.ext_getElem?
  intro t
  by_cases h1 : t < (i + 1) * 2
  · rw [List.getElem?_take_of_lt h1, List.getElem?_set]
    by_cases h2 : i * 2 + 1 = t
    · subst h2
      rw [if_pos rfl, if_pos (by simpa using h), List.getElem?_append_right (by rw [List.length_take]; omega), List.length_take, Nat.min_eq_left (by omega), show i * 2 + 1 - i * 2 = 1 by omega]
      rfl
    · rw [if_neg h2, List.getElem?_set]
      by_cases h3 : i * 2 = t
      · subst h3
        rw [if_pos rfl, if_pos (by omega), List.getElem?_append_right (by rw [List.length_take]; omega), List.length_take, Nat.min_eq_left (by omega), Nat.sub_self]
        rfl
      · rw [if_neg h3, List.getElem?_append_left (by rw [List.length_take]; omega), List.getElem?_take_of_lt (by omega)]
  · rw [List.getElem?_eq_none (by rw [List.length_take]; omega), List.getElem?_eq_none (by simp only [List.length_append, List.length_take, List.length_cons, List.length_nil]; omega)]
theorem drop_set2 {V : List Value} {i j : Nat} (h : i < j) (a b : Value) : ((V.set (i * 2) a).set (i * 2 + 1) b).drop (j * 2) = V.drop (j * 2) := by
  apply List.ext_getElem?
  intro t
  rw [List.getElem?_drop, List.getElem?_drop, List.getElem?_set, if_neg (by omega), List.getElem?_set, if_neg (by omega)]
/-- While they are taken out: i of the first j are kept. -/
structure DelI (w wr : World) (g n k i j : Nat) (Es : List EnL) : Prop where
  own : ∃ V, wr.ownsRow 0 67 2 (.slice (some ⟨g, 0, none⟩) n k) n V ∧ V.take (i * 2) = enX ((Es.take j).filter kpt) ∧ V.drop (j * 2) = enX (Es.drop j)
  tur : Turned w wr (fun q => q = g)
  cnt : ((Es.take j).filter kpt).length = i
  lt : i < j
  le : j ≤ n
theorem DelI.below {w wr w' : World} {g n k i j : Nat} {Es : List EnL} (h : DelI w wr g n k i j Es) (hb : Below wr.heap.size wr w') : DelI w w' g n k i j Es := by
  obtain ⟨⟨V, h1, h2, h3⟩, h4, h5, h6, h7⟩ := h
  exact ⟨⟨V, gown_turned h1 (Turned.of_below hb (fun _ => False)) (fun _ _ e => e), h2, h3⟩, h4.trans (Turned.of_below hb _), h5, h6, h7⟩
theorem filt_next {Es : List EnL} {j : Nat} {E : EnL} (he : Es[j]? = some E) : (Es.take (j + 1)).filter kpt = (Es.take j).filter kpt ++ (if kpt E = true then [E] else []) := by
  rw [List.take_add_one, he, List.filter_append]
  simp only [Option.toList_some]
  by_cases h : kpt E = true
  · rw [if_pos h, List.filter_cons_of_pos h]; rfl
  · rw [if_neg h, List.filter_cons_of_neg h]; rfl
theorem DelI.skip {w wr : World} {g n k i j : Nat} {Es : List EnL} {E : EnL} (h : DelI w wr g n k i j Es) (he : Es[j]? = some E) (hj : j < n) (hk : kpt E = false) : DelI w wr g n k i (j + 1) Es := by
  obtain ⟨⟨V, h1, h2, h3⟩, h4, h5, h6, h7⟩ := h
  have hf : (Es.take (j + 1)).filter kpt = (Es.take j).filter kpt := by rw [filt_next he, hk]; simp
  refine ⟨⟨V, h1, by rw [hf]; exact h2, ?_⟩, h4, by rw [hf]; exact h5, by omega, by omega⟩
  have := congrArg (List.drop 2) h3
  rw [List.drop_drop, ← enX_drop, List.drop_drop] at this
  rw [← enX_drop, show (j + 1) * 2 = j * 2 + 2 by omega]
  exact this
theorem DelI.keep {w wr : World} {g n k i j : Nat} {Es : List EnL} {E : EnL} (h : DelI w wr g n k i j Es) (he : Es[j]? = some E) (hj : j < n) (hk : kpt E = true) : DelI w ((wr.setCell ⟨g, i * 2, none⟩ (.slice E.A E.n E.c)).setCell ⟨g, i * 2 + 1, none⟩ (.pointer (some ⟨E.r, 0, none⟩))) g n k (i + 1) (j + 1) Es := by
  obtain ⟨⟨V, h1, h2, h3⟩, h4, h5, h6, h7⟩ := h
  have hVl := h1.1
  have hf : (Es.take (j + 1)).filter kpt = (Es.take j).filter kpt ++ [E] := by rw [filt_next he, if_pos hk]
  refine ⟨⟨_, gown_set (gown_set h1 (i * 2) (.slice E.A E.n E.c)) (i * 2 + 1) (.pointer (some ⟨E.r, 0, none⟩)), ?_, ?_⟩, (h4.setCell (p := ⟨g, i * 2, none⟩) (fun _ => rfl) _).setCell (p := ⟨g, i * 2 + 1, none⟩) (fun _ => rfl) _, by rw [hf, List.length_append, h5]; rfl, by omega, by omega⟩
  · rw [take_set2 (by omega), h2, hf, enX_append]
    rfl
  · rw [drop_set2 (by omega)]
    have := congrArg (List.drop 2) h3
    rw [List.drop_drop, ← enX_drop, List.drop_drop] at this
    rw [← enX_drop, show (j + 1) * 2 = j * 2 + 2 by omega]
    exact this
end Go.Proofs.YtlckeebbjnhejaaGreat
end

section
/-
  package index: slices.DeleteFunc over entries.
-/
namespace Go.Proofs.YtlckeebbjnhejaaGreat
open Go.ChangeShapes Go.WideShapes Go.ChangeAt Go.RowKit Go.Deep
set_option linter.unusedVariables false
set_option linter.unusedSimpArgs false

set_option maxRecDepth 100000 in
set_option maxHeartbeats 4000000 in
theorem delE_some {w : World} {x g : Nat} {n k : Nat} {l : Rv} {Es : List EnL} (h : IxL w x (some ⟨g, 0, none⟩) n k l Es) (hn : n ≤ 1000000) :
    Calls Tryz.prog 34 #[.slice (some ⟨g, 0, none⟩) n k, .func (.func 35) #[] #[]] w fun e w' => ∃ q, e = .returned (.slice (some ⟨g, 0, none⟩) q k) ∧ w'.ownsRow 0 67 2 (.slice (some ⟨g, 0, none⟩) q k) q (enX (Es.filter kpt)) ∧ Turned w w' (fun j => j = g) := by
  have HIX := kept (idxE_any h hn)
  have HX := kept h
  have HLN := kept h.ln
  obtain ⟨hnk, hkm, _⟩ := gown_cap h.row
  have hkm' : (k : Int) ≤ 9223372036854775807 := by unfold maxLen at hkm; omega
  clear h hkm
  go_enter Tryz.func34, Tryz.ntmps34
  go_wp2_with fail
  with_reducible refine HIX.out.mono ?_
  rintro e w1 ⟨z, rfl, hz, hb⟩
  rcases hz with ⟨rfl, hall⟩ | ⟨i0, rfl, hi0, hE0, hpre⟩
  · have HA := kept hall
    have HB := kept hb
    clear hall hb
    go_wp2
    go_returns
    have hf : Es.filter kpt = Es := List.filter_eq_self.2 HA.out
    exact ⟨n, rfl, by rw [hf]; exact (HX.out.below HB.out).row, Turned.of_below HB.out _⟩
  · have hnm : ((i0 : Int) == -1) = false := beq_eq_false_iff_ne.2 (by omega)
    have hw0 : wrap64 ((i0 : Int) + 1) = (i0 : Int) + 1 := IntWalk.wrap64_in _ ⟨by omega, by omega⟩
    have H0 : Hid (DelI w w1 g n k i0 (i0 + 1) Es) := kept (by
      obtain ⟨E, hE, hk⟩ := hE0
      have hfp : (Es.take i0).filter kpt = Es.take i0 := List.filter_eq_self.2 (fun E' hE' => by
        obtain ⟨t, ht, rfl⟩ := List.getElem_of_mem hE'
        rw [List.length_take] at ht
        exact hpre t (by omega) _ (by rw [List.getElem_take]; exact List.getElem?_eq_getElem (by omega)))
      have hf : (Es.take (i0 + 1)).filter kpt = Es.take i0 := by rw [filt_next hE, hk, hfp]; simp
      refine ⟨⟨_, (HX.out.below hb).row, by rw [hf, enX_take], by rw [enX_drop]⟩, Turned.of_below hb _, by rw [hf, List.length_take, HLN.out]; omega, by omega, by omega⟩)
    clear hE0 hpre hb
    have hcn : (n : Int) ≤ 1000000 := by omega
    go_wp2
    go_loopw [5, 6] (fun a b wr => ∃ (i j : Nat), a = .int .i64 (i : Int) ∧ b = .int .i64 (j : Int) ∧ Hid (DelI w wr g n k i j Es)) (fun _ b _ => n - (intOf b).toNat)
    case atStart => exact ⟨i0, i0 + 1, rfl, by go_num, H0⟩
    case round =>
      obtain ⟨i, j, rfl, rfl, HI⟩ := hrel
      clear H0
      have hij := HI.out.lt
      have hjn0 := HI.out.le
      have hj0 : (0 : Int) ≤ (j : Int) := by omega
      have hi0' : (0 : Int) ≤ (i : Int) := by omega
      by_cases hjn : j < n
      · obtain ⟨V, hrow, hVt, hVd⟩ := HI.out.own
        have hl : j < Es.length := by rw [HLN.out]; exact hjn
        have he : Es[j]? = some Es[j] := List.getElem?_eq_getElem hl
        have hat0 := HX.out.all Es[j] (List.getElem_mem hl)
        obtain ⟨cg, hcg⟩ := gown_cl (k := 0) HX.out.row (g := g) rfl
        have hat : EnAt wr Es[j] := hat0.turned HI.out.tur (fun q hq e => by obtain ⟨c, hc⟩ := hat0.kty hq; exact ne_of_types hc hcg (by decide) e) (fun q hq e => by
          obtain ⟨c, s, hc, hs⟩ := hat0.his.ty hq
          rcases hs with rfl | rfl | rfl <;> exact ne_of_types hc hcg (by decide) e)
        obtain ⟨g2, hg2, _, _, _, _, hcell⟩ := gown_at hrow (by omega)
        injection hg2 with hg2; injection hg2 with hg2
        subst hg2
        have hv0 : V[j * 2]? = some (.slice Es[j].A Es[j].n Es[j].c) := by
          have := congrArg (fun l => l[0]?) hVd
          simp only [List.getElem?_drop, Nat.add_zero] at this
          rw [this, ← enX_drop, List.getElem?_drop, Nat.add_zero]
          exact (enX_at Es j hl).1
        have hv1 : V[j * 2 + 1]? = some (.pointer (some ⟨Es[j].r, 0, none⟩)) := by
          have := congrArg (fun l => l[1]?) hVd
          simp only [List.getElem?_drop] at this
          rw [this, ← enX_drop, List.getElem?_drop]
          exact (enX_at Es j hl).2
        have z0 := hcell _ _ hv0
        have z1 := hcell _ _ hv1
        obtain ⟨cr, hcr⟩ := gown_cl (k := 0) hrow (g := g) rfl
        have hin : (i : Int) < (n : Int) := by omega
        have hjn' : (j : Int) < (n : Int) := by omega
        have HWJ : Hid (wrap64 ((j : Int) + 1) = (j : Int) + 1 ∧ wrap64 ((i : Int) + 1) = (i : Int) + 1) := kept ⟨IntWalk.wrap64_in _ ⟨by omega, by omega⟩, IntWalk.wrap64_in _ ⟨by omega, by omega⟩⟩
        generalize Es[j] = E at he hat z0 z1 hat0
        have hba : Below wr.heap.size wr (wr.alloc (.cells #[.slice E.A E.n E.c, .pointer (some ⟨E.r, 0, none⟩)] 67)) := (Below.refl _ wr).alloc (Nat.le_refl _) _
        have hat1 : EnAt (wr.alloc (.cells #[.slice E.A E.n E.c, .pointer (some ⟨E.r, 0, none⟩)] 67)) E := hat.turned (Turned.of_below hba (fun _ => False)) (fun _ _ e => e) (fun _ _ e => e)
        have HSP := kept (spent_any hat1)
        have HEB := kept (Blk.new wr 67 #[.slice E.A E.n E.c, .pointer (some ⟨E.r, 0, none⟩)])
        have HE := kept he
        have HJ : Hid (i < j ∧ j < n) := kept ⟨hij, hjn⟩
        have HCR : Hid (Blk wr g 67 cr.toList ∧ i * 2 + 1 < cr.size) := kept ⟨by simpa [Blk] using hcr, by
          rcases hrow.2 with ⟨e0, _⟩ | ⟨g', cap, cur, hv, hb, hh, r1, r2, r3, r4⟩
          · cases e0
          · injection hv with hA _ hc
            injection hA with hA; injection hA with hA
            subst hA hc
            rw [hcr] at hh
            injection hh with hh
            injection hh with hh _ _
            rw [hh, r3]
            omega⟩
        have HDI := kept (HI.out.below hba)
        clear hl he hat0 hcg hat hcell hv0 hv1 hcr hrow hVt hVd hat1 hjn hij hjn0 HI hba
        obtain ⟨hwj, hwi⟩ := HWJ.out
        cases hk : E.gs.isEmpty with
        | true =>
          rw [hk] at HSP
          have HK : Hid (kpt E = false) := kept (by unfold kpt; rw [hk]; rfl)
          clear hk
          go_wp2_with fail
          generalize wr.alloc (.cells #[.slice E.A E.n E.c, .pointer (some ⟨E.r, 0, none⟩)] 67) = W1 at HSP HEB HDI ⊢
          with_reducible refine HSP.out.mono ?_
          rintro e w2 ⟨rfl, hb⟩
          have HD2 := kept ((HDI.out.below hb).skip HE.out HJ.out.2 HK.out)
          clear hb z0 z1
          go_wp2
          go_roundw
          case rel => exact ⟨i, j + 1, rfl, by go_num, HD2⟩
          case measure => have := HJ.out; simp [intOf]; omega
        | false =>
          rw [hk] at HSP
          have HK : Hid (kpt E = true) := kept (by unfold kpt; rw [hk]; rfl)
          clear hk
          have hCR1 : Blk (wr.alloc (.cells #[.slice E.A E.n E.c, .pointer (some ⟨E.r, 0, none⟩)] 67)) g 67 cr.toList := HCR.out.1.alloc _
          go_wp2_with fail
          generalize wr.alloc (.cells #[.slice E.A E.n E.c, .pointer (some ⟨E.r, 0, none⟩)] 67) = W1 at HSP HEB HDI hCR1 ⊢
          with_reducible refine HSP.out.mono ?_
          rintro e w2 ⟨rfl, hb⟩
          have HD2 := kept ((HDI.out.below hb).keep HE.out HJ.out.2 HK.out)
          have hEB := HEB.out.below hb HEB.out.lt
          have hCR2 := hCR1.below hb hCR1.lt
          have e0 := hEB.cell 0
          have e1 := hEB.cell 1
          clear hwj hwi
          have c0 : w2.cell? ⟨g, i * 2, none⟩ = some cr.toList[i * 2]! := by rw [hCR2.cell]; have := HCR.out.2; rw [List.getElem?_eq_getElem (by simp; omega), getElem!_pos cr.toList (i * 2) (by simp; omega)]
          have c1 : w2.cell? ⟨g, i * 2 + 1, none⟩ = some cr.toList[i * 2 + 1]! := by rw [hCR2.cell]; have := HCR.out.2; rw [List.getElem?_eq_getElem (by simp; omega), getElem!_pos cr.toList (i * 2 + 1) (by simp; omega)]
          have f0 := hCR2.frozen (i * 2)
          have f1 := hCR2.frozen (i * 2 + 1)
          clear hb z0 z1 hEB hCR2 hCR1
          obtain ⟨hwj, hwi⟩ := HWJ.out
          generalize cr.toList[i * 2]! = o0 at c0
          generalize cr.toList[i * 2 + 1]! = o1 at c1
          clear hkm' hcn hw0 hnm hwj
          go_wp2
          clear e0 e1 c0 c1 f0 f1 hwi
          exact ⟨⟨i + 1, j + 1, by rw [Int.natCast_add]; rfl, by rw [Int.natCast_add]; rfl, HD2⟩, by have := HJ.out; simp [intOf]; omega⟩
      · obtain rfl : j = n := by omega
        have hjn' : ¬ (j : Int) < (j : Int) := by omega
        obtain ⟨V, hrow, hVt, hVd⟩ := HI.out.own
        have hfa : (Es.take j).filter kpt = Es.filter kpt := by rw [List.take_of_length_le (by rw [HLN.out]; exact Nat.le_refl _)]
        rw [hfa] at hVt
        obtain ⟨cr, hcr⟩ := gown_cl (k := 0) hrow (g := g) rfl
        have hfit : i * 2 + (j - i) * 2 ≤ cr.size := by
          rcases hrow.2 with ⟨e0, _⟩ | ⟨g', cap, cur, hv, hb, hh, r1, r2, r3, r4⟩
          · cases e0
          · injection hv with hA _ hc
            injection hA with hA; injection hA with hA
            subst hA hc
            rw [hcr] at hh
            injection hh with hh
            injection hh with hh _ _
            rw [hh, r3]
            omega
        have hclr := grun_clear (P := Tryz.prog) wr 68 67 0 Tryz.underlying68 xentinfo rfl (by decide) (by intro v hv; simp [Value.cells] at hv; rcases hv with h9 | h9 <;> (rw [h9]; rfl)) hcr (i * 2) (j - i) (k - i) (by omega) hfit
        have HF : Hid ((wr.setCells g (i * 2) (Builtin.zeroCells (.agg #[.slice none 0 0, .pointer none] : Value).cells (j - i)).toList).ownsRow 0 67 2 (.slice (some ⟨g, 0, none⟩) i k) i (enX (Es.filter kpt)) ∧ Turned w (wr.setCells g (i * 2) (Builtin.zeroCells (.agg #[.slice none 0 0, .pointer none] : Value).cells (j - i)).toList) (fun q => q = g)) := kept ⟨by
            have h1 := own_short hrow (i := i) (by omega)
            rw [hVt] at h1
            exact gown_sets _ (i * 2) wr h1 (Nat.le_refl _), HI.out.tur.grown (grown_setCells g _ _ _).1 (fun q _ e => (Option.some.inj e).symm)⟩
        generalize wr.setCells g (i * 2) (Builtin.zeroCells (.agg #[.slice none 0 0, .pointer none] : Value).cells (j - i)).toList = W2 at hclr HF
        have hik : ¬ k = i := by omega
        have hik2 : i ≤ k := by omega
        have hij2 : (i : Int) ≤ (j : Int) := by omega
        clear hrow hVt hVd hfa hcr hfit
        go_wp2
        go_returns
        exact ⟨i, rfl, HF.out.1, HF.out.2⟩
end Go.Proofs.YtlckeebbjnhejaaGreat
end

section
/-
  package index: Compact.
-/
namespace Go.Proofs.YtlckeebbjnhejaaGreat
open Go.ChangeShapes Go.WideShapes Go.ChangeAt Go.RowKit Go.Deep
set_option linter.unusedVariables false
set_option linter.unusedSimpArgs false

set_option maxHeartbeats 2000000 in
theorem delE_nil {w : World} {x : Nat} {n k : Nat} {l : Rv} {Es : List EnL} (h : IxL w x none n k l Es) (hn : n ≤ 1000000) :
    Calls Tryz.prog 34 #[.slice none n k, .func (.func 35) #[] #[]] w fun e w' => e = .returned (.slice none n k) ∧ Es = [] ∧ n = 0 ∧ Below w.heap.size w w' := by
  have HIX := kept (idxE_any h hn)
  obtain ⟨_, _, hA⟩ := gown_cap h.row
  obtain ⟨rfl, rfl⟩ := hA rfl
  have HE : Hid (Es = []) := kept (List.eq_nil_of_length_eq_zero h.ln)
  clear h hA
  go_enter Tryz.func34, Tryz.ntmps34
  go_wp2_with fail
  with_reducible refine HIX.out.mono ?_
  rintro e w1 ⟨z, rfl, hz, hb⟩
  rcases hz with ⟨rfl, hall⟩ | ⟨i0, rfl, hi0, _⟩
  · have HB := kept hb
    clear hall hb
    go_wp2
    go_returns
    exact ⟨by first | rfl | trivial, HE.out, by first | rfl | trivial, HB.out⟩
  · omega
theorem delE_any {w : World} {x : Nat} {A : Option Addr} {n k : Nat} {l : Rv} {Es : List EnL} (h : IxL w x A n k l Es) (hn : n ≤ 1000000) :
    Calls Tryz.prog 34 #[.slice A n k, .func (.func 35) #[] #[]] w fun e w' => ∃ q, e = .returned (.slice A q k) ∧ w'.ownsRow 0 67 2 (.slice A q k) q (enX (Es.filter kpt)) ∧ Turned w w' (fun j => (Value.slice A n k).ownBlock = some j) := by
  cases A with
  | none =>
    refine (delE_nil h hn).mono ?_
    rintro e w' ⟨rfl, rfl, rfl, hb⟩
    exact ⟨0, rfl, gown_turned h.row (Turned.of_below hb (fun _ => False)) (fun _ _ e => e), Turned.of_below hb _⟩
  | some a =>
    have ha : ∃ g, a = ⟨g, 0, none⟩ := by
      rcases h.row.2 with ⟨e0, _⟩ | ⟨g, _, _, e, _⟩
      · cases e0
      · injection e with e _ _
        injection e with e
        exact ⟨g, e⟩
    obtain ⟨g, rfl⟩ := ha
    refine (delE_some h hn).mono ?_
    rintro e w' ⟨q, rfl, h1, h2⟩
    exact ⟨q, rfl, h1, h2.mono (fun j _ e => by rw [e]; rfl)⟩
/-- What Compact makes of a key. -/
def cmpE (at_ : Int) (e : PE) : PE := (e.1, compactG e.2 at_)
def compactP (P : List PE) (at_ : Int) : List PE := (P.map (cmpE at_)).filter fun e => !e.2.isEmpty
/-- While histories are compacted. -/
structure CmI (w1 wr : World) (x : Nat) (A : Option Addr) (n k : Nat) (l : Rv) (Es : List EnL) (P : List PE) (at_ : Int) (j : Nat) : Prop where
  ix : ∃ Es', IxL wr x A n k l Es' ∧ Es'.map EnL.px = (P.take j).map (cmpE at_) ++ P.drop j ∧ ∀ b, footX x A n k Es' b → footX x A n k Es b ∨ w1.heap.size ≤ b
  tur : Turned w1 wr (fun j => footX x A n k Es j ∧ NU w1 j)
theorem CmI.step {w1 wr w2 : World} {x : Nat} {A : Option Addr} {n k : Nat} {l : Rv} {Es : List EnL} {P : List PE} {at_ : Int} {j : Nat} {Qs Rs : List EnL} {E : EnL} (h : IxL wr x A n k l (Qs ++ E :: Rs)) (hQ : Qs.length = j) (hm : (Qs ++ E :: Rs).map EnL.px = (P.take j).map (cmpE at_) ++ P.drop j) (hf : ∀ b, footX x A n k (Qs ++ E :: Rs) b → footX x A n k Es b ∨ w1.heap.size ≤ b) (ht : Turned w1 wr (fun j => footX x A n k Es j ∧ NU w1 j)) (hj : j < P.length)
    {W : World} (hb : Below wr.heap.size wr W) (hl : GLeft W E.r E.F (compactG E.gs at_) w2) : CmI w1 w2 x A n k l Es P at_ (j + 1) := by
  obtain ⟨F', h1, h2, h3⟩ := (h.below hb).hist hl
  have hpl : (P.take j).length = j := by rw [List.length_take]; omega
  rw [List.map_append, List.map_cons] at hm
  obtain ⟨e1, e2⟩ := List.append_inj hm (by rw [List.length_map, List.length_map, hQ, hpl])
  rw [List.drop_eq_getElem_cons hj] at e2
  injection e2 with e3 e4
  refine ⟨⟨_, h1, ?_, fun b hb2 => ?_⟩, ?_⟩
  · rw [List.map_append, List.map_cons, e1, e4, List.take_add_one, List.getElem?_eq_getElem hj]
    simp only [Option.toList_some, List.map_append, List.map_cons, List.map_nil, List.append_assoc, List.cons_append, List.nil_append]
    rw [← e3]
    rfl
  · rcases h2 b hb2 with e | e
    · exact hf b e
    · exact .inr (Nat.le_trans ht.size (Nat.le_trans hb.size e))
  · have h4 : Turned w1 W (fun j => footX x A n k Es j ∧ NU w1 j) := ht.trans (Turned.of_below hb _)
    have h5 : Turned W w2 E.F := h3
    refine ⟨h5.os.trans h4.os, h5.tape.trans h4.tape, h5.output.trans h4.output, Nat.le_trans h4.size h5.size, fun i hi hn => ?_⟩
    refine (h5.block i (Nat.lt_of_lt_of_le hi h4.size) (fun e => ?_)).trans (h4.block i hi hn)
    rcases hf i (.inr (.inr ⟨E, by simp, .inr e⟩)) with e5 | e5
    · by_cases hnu : NU w1 i
      · exact hn ⟨e5, hnu⟩
      · refine hnu (fun c f ec => ?_)
        have h6 := (ht.block i hi hn).trans ec
        exact (h.all E (by simp)).his.nu e c f h6
    · omega
theorem split_at {Es : List EnL} {j : Nat} {E : EnL} (h : Es[j]? = some E) : Es = Es.take j ++ E :: Es.drop (j + 1) ∧ (Es.take j).length = j := by
  obtain ⟨hl, rfl⟩ := List.getElem?_eq_some_iff.1 h
  exact ⟨by rw [← List.drop_eq_getElem_cons hl, List.take_append_drop], by rw [List.length_take]; omega⟩
set_option maxHeartbeats 4000000 in
theorem compactL_any {w : World} {x : Nat} {A : Option Addr} {n k : Nat} {l : Rv} {Es : List EnL} (h : IxL w x A n k l Es) {P : List PE} (hP : Es.map EnL.px = P) {N : Nat} (hi : XInv l P N) (hN : N ≤ 800000) (at_ : Int) :
    Calls Tryz.prog 17 #[.pointer (some ⟨x, 0, none⟩), .int .i64 at_] w fun e w' => ∃ A' n' k', e = .returned (.slice A' n' k') ∧ Hid (w'.ownsRow w.heap.size 29 2 (.slice A' n' k') n' (rvC (sortRv (keepX P at_))) ∧ IxLeft w x (footX x A n k Es) l (compactP P at_) w') := by
  have HKP := kept (keepL_any h hP hi hN at_)
  have HPn : Hid (P.length = n) := kept (by rw [← hP, List.length_map]; exact h.ln)
  have hnN : n ≤ 800000 := by have := hi.ln; rw [HPn.out] at this; omega
  have HX := kept h
  have HI0 := kept hi
  have HPP := kept hP
  have HXB := kept (h.box.cell 0)
  have hcn : (n : Int) ≤ 800000 := by omega
  generalize sortRv (keepX P at_) = ks at HKP ⊢
  clear h hP hi
  go_enter Tryz.func17, Tryz.ntmps17
  go_wp2_with fail
  with_reducible refine HKP.out.mono ?_
  rintro e w1 ⟨A1, n1, k1, rfl, ho1, hb1⟩
  have HO1 := kept ho1
  have HB1 := kept hb1
  have b1 := (Keeps.of_below hb1).cell_ HXB.out
  have H0 : Hid (CmI w1 w1 x A n k l Es P at_ 0) := kept ⟨⟨Es, HX.out.below hb1, by simpa using HPP.out, fun b hb => .inl hb⟩, Turned.refl _ _⟩
  clear ho1 hb1
  go_wp2
  clear b1
  go_loopw [18] (fun i wr => ∃ (j : Nat), j ≤ n ∧ i = .int .i64 (j : Int) ∧ Hid (CmI w1 wr x A n k l Es P at_ j)) (fun i _ => n - (intOf i).toNat)
  case atStart => exact ⟨0, Nat.zero_le _, rfl, H0⟩
  case round =>
    obtain ⟨j, hj, rfl, HI⟩ := hrel
    clear H0
    have hj0 : (0 : Int) ≤ (j : Int) := by omega
    by_cases hjn : j < n
    · obtain ⟨⟨Es', hx, hmap, hf⟩, ht⟩ := HI.out
      obtain ⟨g, hA, E, he, hEm, z0, z1, hat⟩ := hx.ent hjn
      subst hA
      have hjP : j < P.length := by rw [HPn.out]; exact hjn
      obtain ⟨hsp, hsl⟩ := split_at he
      have hpx : E.px = P[j] := by
        have h1 := px_get he
        rw [hmap, List.getElem?_append_right (by rw [List.length_map, List.length_take]; omega), List.length_map, List.length_take, Nat.min_eq_left (by omega), Nat.sub_self, List.getElem?_drop, Nat.add_zero, List.getElem?_eq_getElem hjP] at h1
        exact (Option.some.inj h1).symm
      have hinv : GInv E.gs ∧ BdG E.gs N := by
        have : E.px ∈ P := by rw [hpx]; exact List.getElem_mem hjP
        exact ⟨HI0.out.inv _ this, HI0.out.bd _ this⟩
      have hjn' : (j : Int) < (n : Int) := by omega
      have hba : Below wr.heap.size wr (wr.alloc (.cells #[.slice E.A E.n E.c, .pointer (some ⟨E.r, 0, none⟩)] 67)) := (Below.refl _ wr).alloc (Nat.le_refl _) _
      have HC := kept (gcompact_any (hat.his.below hba) hinv.1 hinv.2 (by omega) at_)
      rw [hsp] at hx hmap hf
      have HST := kept (fun w2 (hl : GLeft (wr.alloc (.cells #[.slice E.A E.n E.c, .pointer (some ⟨E.r, 0, none⟩)] 67)) E.r E.F (compactG E.gs at_) w2) => CmI.step hx hsl hmap hf ht hjP hba hl)
      have HJ := kept hjn
      have hwj : wrap64 ((j : Int) + 1) = (j : Int) + 1 := IntWalk.wrap64_in _ ⟨by omega, by omega⟩
      generalize compV (getG E.gs at_) = cv at HC
      generalize compactG E.gs at_ = gs' at HC HST
      clear hx he hEm hat hsp hsl hpx hinv hba hmap hf ht HI hjn hjP
      go_wp2_with fail
      generalize wr.alloc (.cells #[.slice E.A E.n E.c, .pointer (some ⟨E.r, 0, none⟩)] 67) = W1 at HC HST ⊢
      with_reducible refine HC.out.mono ?_
      rintro e w2 ⟨rfl, hl⟩
      have HL := kept (HST.out w2 hl)
      clear hl z0 z1
      go_wp2
      go_roundw
      case rel => exact ⟨j + 1, by have := HJ.out; omega, by go_num, HL⟩
      case measure => have := HJ.out; simp [intOf]; omega
    · obtain rfl : j = n := by omega
      have hjn' : ¬ (j : Int) < (j : Int) := by omega
      obtain ⟨⟨Es', hx, hmap, hf⟩, ht⟩ := HI.out
      have HD := kept (delE_any hx (by omega))
      have b0 := hx.box.cell 0
      have HXX := kept (And.intro hx (And.intro hmap (And.intro hf ht)))
      clear hx hmap hf ht
      go_wp2_with (first | (go_at_call 34; (with_reducible refine (HD.out).mono ?_); rintro e w3 ⟨q, rfl, h3, t3⟩; have hbx3 : Blk w3 x 70 [.slice A j k, .int .i64 l.1, .int .i64 l.2] := (t3.blk HXX.out.1.box (fun e => by obtain ⟨cc, hcc⟩ := gown_cl (k := 0) HXX.out.1.row e; exact ne_of_types hcc (show wr.heap[x]? = some _ from HXX.out.1.box) (by decide) rfl)); have c3 := hbx3.cell 0; have f3 := hbx3.frozen 0; have HD3 := kept (And.intro h3 (And.intro t3 hbx3)); clear h3 t3 hbx3 b0))
      clear c3 f3
      go_returns
      refine ⟨A1, n1, k1, rfl, kept ?_⟩
      obtain ⟨hx, hmap, hf, ht⟩ := HXX.out
      obtain ⟨h3, t3, hbx3⟩ := HD3.out
      have t5 : Turned w3 (w3.setCell ⟨x, 0, none⟩ (.slice A q k)) (fun b => b = x) := (Turned.refl w3 (fun b => b = x)).setCell (p := ⟨x, 0, none⟩) (fun _ => rfl) _
      have hbox5 := hbx3.set_ 0 (.slice A q k)
      generalize w3.setCell ⟨x, 0, none⟩ (.slice A q k) = W5 at t5 hbox5 ⊢
      have hnT : ∀ {b : Nat} {cur : Array Value} {s : TypeId}, wr.heap[b]? = some (.cells cur s (0, 0)) → s ≠ 67 → ¬ (Value.slice A j k).ownBlock = some b := fun hc h1 hb => by
        obtain ⟨c, hc2⟩ := gown_cl (k := 0) hx.row hb
        exact ne_of_types hc hc2 h1 rfl
      have hnX : ∀ {b : Nat} {cur : Array Value} {s : TypeId}, w3.heap[b]? = some (.cells cur s (0, 0)) → s ≠ 70 → ¬ b = x := fun hc h1 hb => ne_of_types hc (show w3.heap[x]? = some _ from hbx3) h1 hb
      have o2 := gown_turned HO1.out ht (fun b hb e => by have h1 := (gown_lt HO1.out hb).1; have h2 := HX.out.lt e.1; omega)
      have o3 := gown_turned o2 t3 (fun b hb => by obtain ⟨c, hc⟩ := gown_cl (k := 0) o2 hb; exact hnT hc (by decide))
      have o5 := gown_turned o3 t5 (fun b hb => by obtain ⟨c, hc⟩ := gown_cl (k := 0) o3 hb; exact hnX hc (by decide))
      have hall3 : ∀ E ∈ Es', EnAt w3 E := fun E hE => (hx.all E hE).turned t3 (fun b hb => by obtain ⟨c, hc⟩ := (hx.all E hE).kty hb; exact hnT hc (by decide)) (fun b hb => by
        obtain ⟨c, s, hc, hs⟩ := (hx.all E hE).his.ty hb
        rcases hs with rfl | rfl | rfl <;> exact hnT hc (by decide))
      have hall5 : ∀ E ∈ Es', EnAt W5 E := fun E hE => (hall3 E hE).turned t5 (fun b hb => by obtain ⟨c, hc⟩ := (hall3 E hE).kty hb; exact hnX hc (by decide)) (fun b hb => by
        obtain ⟨c, s, hc, hs⟩ := (hall3 E hE).his.ty hb
        rcases hs with rfl | rfl | rfl <;> exact hnX hc (by decide))
      have r5 := gown_turned h3 t5 (fun b hb => by obtain ⟨c, hc⟩ := gown_cl (k := 0) h3 hb; exact hnX hc (by decide))
      have hql : (Es'.filter kpt).length = q := by have := r5.1; rw [enX_length] at this; omega
      have tw : Turned w W5 (fun b => footX x A j k Es b ∧ NU w b) := (((Turned.of_below HB1.out _).trans (ht.mono (fun b _ e => ⟨e.1, e.2.back HB1.out⟩))).trans (t3.mono (fun b _ e => ⟨.inr (.inl e), by obtain ⟨c, hc⟩ := gown_cl (k := 0) HX.out.row e; exact NU.of hc (by decide)⟩))).trans (t5.mono (fun b _ e => ⟨.inl e, by rw [e]; exact NU.of (show w.heap[x]? = some _ from HX.out.box) (by decide)⟩))
      have hb1 := HB1.out.size
      refine ⟨o5, _, ⟨A, q, k, Es'.filter kpt, ⟨hbox5, r5, hql, fun E hE => hall5 E ((List.mem_filter.1 hE).1), hx.ap.sublist List.filter_sublist⟩, fun b => Iff.rfl, ?_⟩, fun b hb => ?_, tw⟩
      · have hm2 : Es'.map EnL.px = P.map (cmpE at_) := by
          rw [hmap, List.take_of_length_le (by rw [HPn.out]; exact Nat.le_refl _), List.drop_eq_nil_of_le (by rw [HPn.out]; exact Nat.le_refl _), List.append_nil]
        unfold compactP
        rw [← hm2, List.filter_map]
        rfl
      · have h1 : footX x A j k Es' b := by
          rcases hb with e | e | ⟨E, hE, e⟩
          · exact .inl e
          · exact .inr (.inl (by cases A <;> exact e))
          · exact .inr (.inr ⟨E, (List.mem_filter.1 hE).1, e⟩)
        exact (hf b h1).imp id (fun e => Nat.le_trans hb1 e)
/-- What Compact leaves of any index. -/
theorem compactP_any {w : World} {x : Nat} {F : Nat → Prop} {l : Rv} {P : List PE} (h : Ix w x F l P) {N : Nat} (hi : XInv l P N) (hN : N ≤ 800000) (at_ : Int) :
    Calls Tryz.prog 17 #[.pointer (some ⟨x, 0, none⟩), .int .i64 at_] w fun e w' => ∃ A' n' k', e = .returned (.slice A' n' k') ∧ Hid (w'.ownsRow w.heap.size 29 2 (.slice A' n' k') n' (rvC (sortRv (keepX P at_))) ∧ IxLeft w x F l (compactP P at_) w') := by
  obtain ⟨A, n, k, Es, h1, h2, h3⟩ := h
  have hF : F = footX x A n k Es := funext fun j => propext (h2 j)
  subst hF
  exact compactL_any h1 h3 hi hN at_
theorem keepP_any {w : World} {x : Nat} {F : Nat → Prop} {l : Rv} {P : List PE} (h : Ix w x F l P) {N : Nat} (hi : XInv l P N) (hN : N ≤ 800000) (at_ : Int) :
    Calls Tryz.prog 15 #[.pointer (some ⟨x, 0, none⟩), .int .i64 at_] w fun e w' => ∃ A' n' k', e = .returned (.slice A' n' k') ∧ w'.ownsRow w.heap.size 29 2 (.slice A' n' k') n' (rvC (sortRv (keepX P at_))) ∧ Below w.heap.size w w' := by
  obtain ⟨A, n, k, Es, h1, h2, h3⟩ := h
  exact keepL_any h1 h3 hi hN at_
theorem xrangeP_any {w : World} {x : Nat} {F : Nat → Prop} {l : Rv} {P : List PE} (h : Ix w x F l P) {N : Nat} (hi : XInv l P N) (hN : N ≤ 800000) (B : Option Addr) (m d : Nat) (ys : List UInt8) (h2 : Rd w B m ys) (hm : m ≤ 140737488355328) (C : Option Addr) (m3 d3 : Nat) (zs : List UInt8) (h3 : Rd w C m3 zs) (hm3 : m3 ≤ 140737488355328) (at_ : Int) :
    Calls Tryz.prog 12 #[.pointer (some ⟨x, 0, none⟩), .slice B m d, .slice C m3 d3, .int .i64 at_] w fun e w' => ∃ A' n' k' hs, e = .returned (.slice A' n' k') ∧ HOut w.heap.size w' A' n' k' hs ∧ hs.map HtL.px = hitsX P ys zs at_ ∧ Below w.heap.size w w' := by
  obtain ⟨A, n, k, Es, h1, _, h4⟩ := h
  exact xrangeL_any h1 h4 hi hN B m d ys h2 hm C m3 d3 zs h3 hm3 at_
end Go.Proofs.YtlckeebbjnhejaaGreat
end

section
/-
  Package index as plain data: what a change and a compaction keep.
-/
namespace Go.Proofs.YtlckeebbjnhejaaGreat
open Go.ChangeShapes Go.WideShapes Go.ChangeAt Go.RowKit
set_option linter.unusedVariables false
set_option linter.unusedSimpArgs false

/-- A tried change is fit: where it comes it leaves a history right, with no revision but those that were there and its own. -/
def Fit (q : Rv) (tc : List Gn → Int) (tg : List Gn → List Gn) : Prop := ∀ gs N, GInv gs → BdG gs N → tc gs = 0 → GInv (tg gs) ∧ BdG (tg gs) (N + 1) ∧ ∀ z ∈ flatG (tg gs), z ∈ flatG gs ∨ z = q
theorem flat_app (a b : List Gn) : flatG (a ++ b) = flatG a ++ flatG b := by simp [flatG]
theorem flat_one (x : Gn) : flatG [x] = x.revs := by simp [flatG]
theorem add_flat {gs : List Gn} (q : Rv) (c v : Int) : ∀ z ∈ flatG (addG gs q c v), z ∈ flatG gs ∨ z = q := by
  intro z hz
  rcases snoc_cases gs with rfl | ⟨gi, x, rfl⟩
  · rw [addG_new rfl] at hz
    simp [flatG, Gn.revs, Gn.ended] at hz
    exact .inr hz
  · by_cases hx : x.ended = false
    · rw [addG_more hx, flat_app, flat_one] at hz
      rw [flat_app, flat_one]
      rcases List.mem_append.1 hz with hz | hz
      · exact .inl (List.mem_append.2 (.inl hz))
      · unfold Gn.revs at hz ⊢
        have hx' : Gn.ended { x with ps := x.ps ++ [q] } = false := hx
        rw [hx'] at hz
        simp only [Bool.false_eq_true, if_false, List.append_nil] at hz
        rcases List.mem_append.1 hz with hz | hz
        · exact .inl (List.mem_append.2 (.inr (List.mem_append.2 (.inl hz))))
        · exact .inr (List.mem_singleton.1 hz)
    · rw [addG_new (by simp only [goingG, List.getLast?_append, List.getLast?_singleton, Option.some_or]; simpa using hx), flat_app, flat_one] at hz
      rcases List.mem_append.1 hz with hz | hz
      · exact .inl hz
      · simp [Gn.revs, Gn.ended] at hz
        exact .inr hz
theorem end_flat {gi : List Gn} {x : Gn} (q : Rv) : ∀ z ∈ flatG (gi ++ [{ x with e := q }]), z ∈ flatG (gi ++ [x]) ∨ z = q := by
  intro z hz
  rw [flat_app, flat_one] at hz ⊢
  rcases List.mem_append.1 hz with hz | hz
  · exact .inl (List.mem_append.2 (.inl hz))
  · unfold Gn.revs at hz
    rcases List.mem_append.1 hz with hz | hz
    · exact .inl (List.mem_append.2 (.inr (by unfold Gn.revs; exact List.mem_append.2 (.inl hz))))
    · split at hz
      · exact .inr (List.mem_singleton.1 hz)
      · cases hz
theorem put_fit (q : Rv) : Fit q (fun gs => mcG gs q) (fun gs => putG gs q) := by
  intro gs N h hN hc
  have hc : mcG gs q = 0 := hc
  show GInv (putG gs q) ∧ BdG (putG gs q) (N + 1) ∧ ∀ z ∈ flatG (putG gs q), z ∈ flatG gs ∨ z = q
  have e : putG gs q = addG gs q (nextG gs q).1 (nextG gs q).2 := by unfold putG; rw [if_pos hc]
  obtain ⟨k1, k2, _⟩ := add_keeps h hc (nextG gs q).1 (nextG gs q).2 hN
  rw [e]
  exact ⟨k1, k2, add_flat q _ _⟩
theorem rest_fit (q : Rv) (c v : Int) : Fit q (fun gs => restC gs q c v) (fun gs => restG gs q c v) := by
  intro gs N h hN hc
  have hc : restC gs q c v = 0 := hc
  show GInv (restG gs q c v) ∧ BdG (restG gs q c v) (N + 1) ∧ ∀ z ∈ flatG (restG gs q c v), z ∈ flatG gs ∨ z = q
  have e : restG gs q c v = addG gs q c v := by unfold restG; rw [if_pos hc]
  have hm : mcG gs q = 0 := by
    unfold restC at hc
    split at hc
    · split at hc
      · cases hc
      · exact hc
    · cases hc
  obtain ⟨k1, k2, _⟩ := add_keeps h hm c v hN
  rw [e]
  exact ⟨k1, k2, add_flat q _ _⟩
theorem tomb_fit (q : Rv) : Fit q (fun gs => tombC gs q) (fun gs => tombG gs q) := by
  intro gs N h hN hc
  have hc : tombC gs q = 0 := hc
  show GInv (tombG gs q) ∧ BdG (tombG gs q) (N + 1) ∧ ∀ z ∈ flatG (tombG gs q), z ∈ flatG gs ∨ z = q
  have hm : mcG gs q = 0 := by
    unfold tombC at hc
    by_cases hm : mcG gs q = 0
    · exact hm
    · rw [if_neg hm] at hc; exact absurd hc hm
  have hg : goingG gs = true := by
    unfold tombC at hc
    rw [if_pos hm] at hc
    cases hg : goingG gs with
    | true => rfl
    | false => rw [hg] at hc; simp at hc
  have e : tombG gs q = endG gs q := by unfold tombG; rw [if_pos hm, if_pos hg]
  obtain ⟨gi, x, rfl, hx⟩ := going_snoc hg
  obtain ⟨h1, h2⟩ := mc_zero hm
  have e2 : endG (gi ++ [x]) q = gi ++ [{ x with e := q }] := by simp [endG]
  rw [e, e2]
  refine ⟨tomb_inv h hx h1 h2, ⟨by have := hN.1; simp at this ⊢; omega, fun y hy => ?_⟩, end_flat q⟩
  rcases List.mem_append.1 hy with hy | hy
  · have := hN.2 y (List.mem_append.2 (.inl hy)); omega
  · rw [List.mem_singleton.1 hy]
    have := hN.2 x (by simp)
    simp; omega
/-- What holds of an index: its rows are right, no revision is above the last one, and each is of one key alone. -/
structure XGood (l : Rv) (P : List PE) (N : Nat) : Prop where
  inv : XInv l P N
  top : ∀ e ∈ P, ∀ q ∈ flatG e.2, ltR l q = false
  one : List.Pairwise (fun a b : PE => ∀ q ∈ flatG a.2, q ∉ flatG b.2) P
theorem XGood.mono {l : Rv} {P : List PE} {N M : Nat} (h : XGood l P N) (hm : N ≤ M) : XGood l P M :=
  ⟨⟨h.inv.rise, h.inv.inv, fun e he => (h.inv.bd e he).mono hm, Nat.le_trans h.inv.ln hm⟩, h.top, h.one⟩
theorem XGood.nil (l : Rv) : XGood l [] 0 := ⟨⟨List.Pairwise.nil, fun e he => absurd he (by simp), fun e he => absurd he (by simp), Nat.le_refl _⟩, fun e he => absurd he (by simp), List.Pairwise.nil⟩
theorem le_lt {a l q : Rv} (h1 : ltR l a = false) (h2 : ltR l q = true) : ltR a q = true := by
  rw [← Bool.not_eq_true, ltR_iff] at h1
  rw [ltR_iff] at h2 ⊢
  omega
theorem XGood.change {l : Rv} {P : List PE} {N : Nat} (h : XGood l P N) (ys : List UInt8) (q : Rv) {tc : List Gn → Int} {tg : List Gn → List Gn} (hf : Fit q tc tg) : XGood (chL l P ys q tc) (chP l P ys q tc tg) (N + 1) := by
  unfold chL chP
  by_cases hc : ltR l q = true ∧ tc (loX P ys) = 0
  · rw [if_pos hc, if_pos hc]
    obtain ⟨hq, hc⟩ := hc
    -- a revision that was there isn't the new one, and isn't above it
    have hold : ∀ e ∈ P, ∀ z ∈ flatG e.2, z ≠ q ∧ ltR q z = false := fun e he z hz => by
      have h1 := le_lt (h.top e he z hz) hq
      exact ⟨fun e2 => (by rw [e2, ltR_irr] at h1; cases h1), ltR_asymm h1⟩
    have base : ∀ Q R : List PE, ∀ g0 : List Gn, (∀ x ∈ Q ++ R, x ∈ P) → (Q ++ R).Pairwise (fun a b : PE => ∀ q ∈ flatG a.2, q ∉ flatG b.2) → (∀ x ∈ Q ++ R, ∀ z ∈ flatG x.2, z ∉ flatG g0) → (∀ z ∈ flatG g0, z ≠ q ∧ ltR q z = false) → GInv g0 → BdG g0 N → tc g0 = 0 → (Q ++ R).length ≤ N → RiseX (Q ++ (ys, tg g0) :: R) → XGood q (Q ++ (ys, tg g0) :: R) (N + 1) := by
      intro Q R g0 hsub hpw hdis hg0 hi0 hb0 hc0 hln hr
      obtain ⟨k1, k2, k3⟩ := hf g0 N hi0 hb0 hc0
      have hmem : ∀ e ∈ Q ++ (ys, tg g0) :: R, e = (ys, tg g0) ∨ e ∈ Q ++ R := fun e he => by
        rcases List.mem_append.1 he with he | he
        · exact .inr (List.mem_append.2 (.inl he))
        · rcases List.mem_cons.1 he with he | he
          · exact .inl he
          · exact .inr (List.mem_append.2 (.inr he))
      refine ⟨⟨hr, fun e he => ?_, fun e he => ?_, by simp only [List.length_append, List.length_cons] at hln ⊢; omega⟩, fun e he z hz => ?_, ?_⟩
      · rcases hmem e he with rfl | he
        · exact k1
        · exact h.inv.inv e (hsub e he)
      · rcases hmem e he with rfl | he
        · exact k2
        · exact (h.inv.bd e (hsub e he)).mono (Nat.le_succ _)
      · rcases hmem e he with rfl | he
        · rcases k3 z hz with hz | rfl
          · exact (hg0 z hz).2
          · exact ltR_irr _
        · exact (hold e (hsub e he) z hz).2
      · have hp := List.pairwise_append.1 hpw
        have hnew : ∀ x ∈ Q ++ R, ∀ z ∈ flatG x.2, z ∉ flatG (tg g0) := fun x hx z hz hz2 => by
          rcases k3 z hz2 with hz2 | rfl
          · exact hdis x hx z hz hz2
          · exact (hold x (hsub x hx) z hz).1 rfl
        refine List.pairwise_append.2 ⟨hp.1, List.pairwise_cons.2 ⟨fun b hb z hz hz2 => hnew b (List.mem_append.2 (.inr hb)) z hz2 hz, hp.2.1⟩, fun a ha b hb z hz hz2 => ?_⟩
        rcases List.mem_cons.1 hb with rfl | hb
        · exact hnew a (List.mem_append.2 (.inl ha)) z hz hz2
        · exact hp.2.2 a ha b hb z hz hz2
    have hrise := chX_rise h.inv.rise ys (tg (loX P ys))
    rcases parted h.inv.rise ys with ⟨_, Q, e, R, hP, _, hek, hlo, hch, _, _⟩ | ⟨_, Q, R, hP, _, hlo, hch, _, _⟩
    · rw [hch] at hrise ⊢
      have hem : e ∈ P := by rw [hP]; simp
      have hone := h.one
      rw [hP] at hone
      have hp := List.pairwise_append.1 hone
      have hp2 := List.pairwise_cons.1 hp.2.1
      refine base Q R (loX P ys) (fun x hx => ?_) ?_ (fun x hx z hz => ?_) (fun z hz => ?_) ?_ ?_ hc ?_ hrise
      · rw [hP]; simp at hx ⊢; rcases hx with hx | hx <;> simp [hx]
      · exact List.pairwise_append.2 ⟨hp.1, hp2.2, fun a ha b hb => hp.2.2 a ha b (List.mem_cons_of_mem _ hb)⟩
      · rw [hlo]
        rcases List.mem_append.1 hx with hx | hx
        · exact hp.2.2 x hx e (List.mem_cons_self ..) z hz
        · exact fun hz2 => hp2.1 x hx z hz2 hz
      · rw [hlo] at hz; exact hold e hem z hz
      · rw [hlo]; exact h.inv.inv e hem
      · rw [hlo]; exact h.inv.bd e hem
      · have := h.inv.ln; rw [hP] at this; simp only [List.length_append, List.length_cons] at this ⊢; omega
    · rw [hch] at hrise ⊢
      rw [hlo] at hc hrise ⊢
      have hone := h.one
      refine base Q R [] (fun x hx => by rw [hP]; exact hx) (by rw [← hP]; exact hone) (fun x hx z hz hz2 => by simp [flatG] at hz2) (fun z hz => by simp [flatG] at hz) GInv.nil (bd_nil N) hc (by have := h.inv.ln; rw [hP] at this; exact this) hrise
  · rw [if_neg hc, if_neg hc]
    exact h.mono (Nat.le_succ _)
theorem compact_flat {gs : List Gn} (a : Int) : ∀ z ∈ flatG (compactG gs a), z ∈ flatG gs := by
  induction gs with
  | nil => intro z hz; simpa [compactG, lookG] using hz
  | cons x r ih =>
    intro z hz
    have ht : ∀ z ∈ flatG r, z ∈ flatG (x :: r) := fun z hz => by simp only [flatG, List.flatMap_cons, List.mem_append]; exact .inr hz
    by_cases hb : endAt (bnd a) x = true
    · have e1 : compactG (x :: r) a = compactG r a := by unfold compactG; rw [show lookG (bnd a) (x :: r) = lookG (bnd a) r from if_pos hb]
      rw [e1] at hz
      exact ht z (ih z hz)
    · cases hp : cntR x.ps (bnd a) with
      | zero =>
        have e1 : compactG (x :: r) a = x :: r := by unfold compactG lookG; rw [if_neg hb, hp]
        rwa [e1] at hz
      | succ p =>
        have e1 : compactG (x :: r) a = { x with ps := x.ps.drop p, v := wrap64 (x.v + (p : Int)) } :: r := by unfold compactG lookG; rw [if_neg hb, hp]
        rw [e1] at hz
        simp only [flatG, List.flatMap_cons, List.mem_append] at hz ⊢
        rcases hz with hz | hz
        · left
          unfold Gn.revs at hz ⊢
          rcases List.mem_append.1 hz with hz | hz
          · exact List.mem_append.2 (.inl (List.mem_of_mem_drop hz))
          · exact List.mem_append.2 (.inr hz)
        · exact .inr hz
theorem XGood.compact {l : Rv} {P : List PE} {N : Nat} (h : XGood l P N) (a : Int) : XGood l (compactP P a) N := by
  have hmem : ∀ e ∈ compactP P a, ∃ e0 ∈ P, e = (e0.1, compactG e0.2 a) := fun e he => by
    have := (List.mem_filter.1 he).1
    obtain ⟨e0, h0, rfl⟩ := List.mem_map.1 this
    exact ⟨e0, h0, rfl⟩
  refine ⟨⟨?_, fun e he => ?_, fun e he => ?_, ?_⟩, fun e he z hz => ?_, ?_⟩
  · exact ((List.pairwise_map (f := cmpE a)).2 (show List.Pairwise (fun x y : PE => ahead x.1 y.1 = true) P from h.inv.rise)).sublist List.filter_sublist
  · obtain ⟨e0, h0, rfl⟩ := hmem e he
    exact (compact_inv (h.inv.inv e0 h0) a).1
  · obtain ⟨e0, h0, rfl⟩ := hmem e he
    obtain ⟨_, k2, k3⟩ := compact_inv (h.inv.inv e0 h0) a
    have hb := h.inv.bd e0 h0
    exact ⟨Nat.le_trans k3 hb.1, fun x hx => by obtain ⟨y, hy, hl⟩ := k2 x hx; exact Nat.le_trans hl (hb.2 y hy)⟩
  · have h1 : (compactP P a).length ≤ (P.map (cmpE a)).length := List.filter_sublist.length_le
    rw [List.length_map] at h1
    exact Nat.le_trans h1 h.inv.ln
  · obtain ⟨e0, h0, rfl⟩ := hmem e he
    exact h.top e0 h0 z (compact_flat a z hz)
  · exact ((List.pairwise_map (f := cmpE a)).2 (h.one.imp (fun {x y} hxy z hz hz2 => hxy z (compact_flat a z hz) (compact_flat a z hz2)))).sublist List.filter_sublist
end Go.Proofs.YtlckeebbjnhejaaGreat
end

section
/-
  Package index: changes of the caller's own; slices.SortFunc over them.
-/
namespace Go.Proofs.YtlckeebbjnhejaaGreat
open Go.ChangeShapes Go.WideShapes Go.ChangeAt Go.RowKit Go.Deep
set_option linter.unusedVariables false
set_option linter.unusedSimpArgs false

/-- A change, as it lies. -/
structure ChL where
  A : Option Addr
  n : Nat
  c : Nat
  xs : List UInt8
  q : Rv
  t : Bool
instance : Inhabited ChL := ⟨⟨none, 0, 0, [], (0, 0), false⟩⟩
def ChL.cells (K : ChL) : List Value := [.slice K.A K.n K.c, .int .i64 K.q.1, .int .i64 K.q.2, .bool K.t]
def ChL.px (K : ChL) : List UInt8 × Rv × Bool := (K.xs, K.q, K.t)
def cgC (l : List ChL) : List Value := l.flatMap ChL.cells
theorem cgC_append (a b : List ChL) : cgC (a ++ b) = cgC a ++ cgC b := by simp [cgC]
theorem cgC_length (l : List ChL) : (cgC l).length = l.length * 4 := flat_len ChL.cells 4 (fun _ => rfl) l
theorem cgC_at (l : List ChL) (i : Nat) (h : i < l.length) (r : Nat) (hr : r < 4) : (cgC l)[i * 4 + r]? = l[i].cells[r]? := flat_at ChL.cells 4 (fun _ => rfl) l i h r hr
theorem cgC_one (l : List ChL) : ∀ u ∈ cgC l, u.oneCell' = true := by
  intro u hu
  obtain ⟨L, _, hp⟩ := List.mem_flatMap.1 hu
  simp only [ChL.cells, List.mem_cons, List.not_mem_nil, or_false] at hp
  rcases hp with rfl | rfl | rfl | rfl <;> rfl
theorem chginfo : (Tryz.prog.info? 59).map (fun i => (i.zero, i.size, i.bytes)) = some (some (.agg #[.slice none 0 0, .int .i64 0, .int .i64 0, .bool false]), 4, 48) := by kernel_rfl
/-- Changes of the caller's own, all from block M on. -/
structure COut (M : Nat) (w : World) (A : Option Addr) (n k : Nat) (cs : List ChL) : Prop where
  row : w.ownsRow M 59 4 (.slice A n k) n (cgC cs)
  key : ∀ K ∈ cs, w.ownsRow M 5 1 (.slice K.A K.n K.c) K.n (cellsOf K.xs) ∧ K.n ≤ 1000
theorem COut.ln {M : Nat} {w : World} {A : Option Addr} {n k : Nat} {cs : List ChL} (h : COut M w A n k cs) : cs.length = n := by
  have := h.row.1
  rw [cgC_length] at this
  omega
theorem COut.below {M : Nat} {w w' : World} {A : Option Addr} {n k : Nat} {cs : List ChL} (h : COut M w A n k cs) (hb : Below w.heap.size w w') : COut M w' A n k cs :=
  ⟨gown_turned h.row (Turned.of_below hb (fun _ => False)) (fun _ _ e => e), fun K hK => ⟨gown_turned (h.key K hK).1 (Turned.of_below hb (fun _ => False)) (fun _ _ e => e), (h.key K hK).2⟩⟩
theorem COut.nil (M : Nat) (w : World) : COut M w none 0 0 [] := ⟨World.ownsRow_nil _ _ _ _, fun K hK => absurd hK (by simp)⟩
theorem COut.at_ {M : Nat} {w : World} {A : Option Addr} {n k : Nat} {cs : List ChL} (h : COut M w A n k cs) {i : Nat} (hi : i < n) : ∃ g, A = some ⟨g, 0, none⟩ ∧ ∃ K, cs[i]? = some K ∧ (w.cell? ⟨g, i * 4, none⟩ = some (.slice K.A K.n K.c) ∧ w.cell? ⟨g, i * 4 + 1, none⟩ = some (.int .i64 K.q.1) ∧ w.cell? ⟨g, i * 4 + 2, none⟩ = some (.int .i64 K.q.2) ∧ w.cell? ⟨g, i * 4 + 3, none⟩ = some (.bool K.t)) ∧ Rd w K.A K.n K.xs ∧ K.n ≤ 1000 := by
  obtain ⟨g, rfl, _, _, _, _, hc⟩ := gown_at h.row (by omega)
  have hl : i < cs.length := by rw [h.ln]; exact hi
  have hk := h.key cs[i] (List.getElem_mem hl)
  have ha := fun j hj => hc _ _ (by rw [cgC_at cs i hl j hj]; exact List.getElem?_eq_getElem (by simpa [ChL.cells] using hj))
  exact ⟨g, rfl, cs[i], List.getElem?_eq_getElem hl, ⟨ha 0 (by omega), ha 1 (by omega), ha 2 (by omega), ha 3 (by omega)⟩, Rd.of_own hk.1, hk.2⟩
def cfC (a b : ChL) : Int := ordR a.q.1 a.q.2 b.q.1 b.q.2
theorem swoC : Sort.SWO (ltOf cfC) where
  irrefl x := swoR.irrefl x.q
  trans x y z h1 h2 := swoR.trans x.q y.q z.q h1 h2
  ntrans x y z h1 h2 := swoR.ntrans x.q y.q z.q h1 h2
set_option maxHeartbeats 2000000 in
theorem chcmp_gro (x y : ChL) (w : World) :
    Calls Tryz.prog 45 #[.agg x.cells.toArray, .agg y.cells.toArray] w fun e w' => e = .returned (.int .i64 (cfC x y)) ∧ Gro w w' := by
  obtain ⟨A, n, c, xs, ⟨M, S⟩, t⟩ := x
  obtain ⟨B, m, d, ys, ⟨M', S'⟩, t'⟩ := y
  show Calls Tryz.prog 45 #[.agg #[.slice A n c, .int .i64 M, .int .i64 S, .bool t], .agg #[.slice B m d, .int .i64 M', .int .i64 S', .bool t']] w fun e w' => e = .returned (.int .i64 (ordR M S M' S')) ∧ Gro w w'
  have hb0 := ((Gro.refl w).alloc (.cells #[.slice A n c, .int .i64 M, .int .i64 S, .bool t] 59)).alloc (.cells #[.slice B m d, .int .i64 M', .int .i64 S', .bool t'] 59)
  have k1 := (Blk.new w 59 #[.slice A n c, .int .i64 M, .int .i64 S, .bool t]).alloc (.cells #[.slice B m d, .int .i64 M', .int .i64 S', .bool t'] 59)
  have k2 := Blk.new (w.alloc (.cells #[.slice A n c, .int .i64 M, .int .i64 S, .bool t] 59)) 59 #[.slice B m d, .int .i64 M', .int .i64 S', .bool t']
  rw [World.size_alloc] at k2
  have HK1 := kept k1
  have HK2 := kept k2
  have HB := kept hb0
  clear k1 k2 hb0
  go_enter Tryz.func45, Tryz.ntmps45
  go_upto_region 1 with fail
  generalize (w.alloc (.cells #[.slice A n c, .int .i64 M, .int .i64 S, .bool t] 59)).alloc (.cells #[.slice B m d, .int .i64 M', .int .i64 S', .bool t'] 59) = W0 at HK1 HK2 HB ⊢
  have a1 : W0.cell? ⟨w.heap.size, 1, none⟩ = some (.int .i64 M) := HK1.out.cell 1
  have a2 : W0.cell? ⟨w.heap.size, 2, none⟩ = some (.int .i64 S) := HK1.out.cell 2
  have b1 : W0.cell? ⟨w.heap.size + 1, 1, none⟩ = some (.int .i64 M') := HK2.out.cell 1
  have b2 : W0.cell? ⟨w.heap.size + 1, 2, none⟩ = some (.int .i64 S') := HK2.out.cell 2
  have HC := kept (cmp_gro M S M' S' W0)
  go_wp2_with fail
  with_reducible refine HC.out.mono ?_
  rintro e w1 ⟨rfl, hg⟩
  have HG := kept (HB.out.trans hg)
  clear hg
  go_wp2
  go_ret
  exact ⟨rfl, HG.out⟩
set_option maxHeartbeats 2000000 in
theorem sortCh_any (A : Option Addr) (n c base : Nat) (cs : List ChL) (w : World) (h : w.ownsRow base 59 4 (.slice A n c) n (cgC cs)) (hn : n ≤ 3000000) :
    Calls Tryz.prog 44 #[.slice A n c, .func (.func 45) #[] #[]] w fun e w' => e = .returned (.tuple #[]) ∧ ∃ cs', cs'.Perm cs ∧ List.Pairwise (fun a b : ChL => ltR b.q a.q = false) cs' ∧ w'.ownsRow base 59 4 (.slice A n c) n (cgC cs') ∧ Turned w w' (fun j => (Value.slice A n c).ownBlock = some j) := by
  have hl := h.1
  rw [cgC_length] at hl
  rcases Nat.eq_zero_or_pos n with h0 | h0
  · subst h0
    obtain rfl : cs = [] := List.eq_nil_of_length_eq_zero (by omega)
    have hcon := AnyF.slices_SortFunc_none Tryz.sortCA A c (.func (.func 45) #[] #[]) w
    change Calls Tryz.prog 44 _ _ _ at hcon
    refine hcon.mono ?_
    rintro e w' ⟨rfl, rfl⟩
    exact ⟨rfl, [], List.Perm.refl _, List.Pairwise.nil, h, Turned.refl _ _⟩
  · obtain ⟨g, rfl, _, hgl, _, _, hc⟩ := gown_at h h0
    have hps : cs.length = n := by omega
    have hfz : ∀ j, w.frozen? ⟨g, j, none⟩ = false := fun j => by
      obtain ⟨cur, hcur⟩ := gown_cl (k := 0) h (g := g) rfl
      exact gfrozen_ hcur j
    have hH : Sort.HoldsK ChL.cells 4 w g 0 cs.toArray := fun j hj => by
      rw [Sort.size_flatK] at hj
      rw [Nat.zero_add]
      refine ⟨?_, hfz j⟩
      have hx := flatK_get ChL.cells 4 (fun _ => rfl) cs.toArray j hj
      exact hc j _ hx
    have eg : ∀ args w, (callFunc 45 args).run Tryz.prog w = .ok (.enter 45 args) w := enters_of Tryz.func45 (by kernel_rfl) rfl
    have hcmp : CmpLays Tryz.prog 45 #[] ChL.cells 4 cfC g 0 cs.toArray.size w := fun m os dk hs x y => chcmp_gro x y _
    have hcon := AnyQ.slices_SortFunc_eq Tryz.sortCA 4 Tryz.isAgg59 Tryz.sizeOf59 ChL.cells (fun _ => rfl) (fun x v hv => by simp [ChL.cells] at hv; rcases hv with rfl | rfl | rfl | rfl <;> rfl) cfC swoC 45 #[] g 0 c cs.toArray w eg hcmp hH hgl (by simp; omega)
    change Calls Tryz.prog 44 _ _ _ at hcon
    rw [show cs.toArray.size = n by simp [hps]] at hcon
    refine hcon.mono ?_
    rintro e w' ⟨rfl, m, os, rfl⟩
    obtain ⟨⟨p1, _, p3⟩, p4⟩ := Sort.pdq_sorts (ltOf cfC) swoC cs.toArray 0 n (Lib.bitLen n) true true (Nat.zero_le _) (by simp [hps]) (Or.inl rfl)
    generalize Sort.pdq (ltOf cfC) cs.toArray 0 n (Lib.bitLen n) true true = d at p1 p3 p4 ⊢
    have hsz : d.size = n := by rw [p1]; simp [hps]
    obtain ⟨h1, h2⟩ := row_sorted ChL.cells (fun _ => rfl) h d hsz m os
    refine ⟨rfl, d.toList, ?_, ?_, h1, h2.mono (fun j _ e => by rw [e]; rfl)⟩
    · have e1 : (d.extract 0 n).toList = d.toList := by rw [← hsz]; simp
      have e2 : (cs.toArray.extract 0 n).toList = cs := by rw [← hps]; simp
      rw [e1, e2] at p3
      exact p3
    · rw [List.pairwise_iff_getElem]
      intro i j hi hj hij
      have := p4 i j (Nat.zero_le _) hij (by rw [← hsz]; simpa using hj)
      have ei : d[i]! = d.toList[i] := by rw [getElem!_pos d i (by simpa using hi)]; simp
      have ej : d[j]! = d.toList[j] := by rw [getElem!_pos d j (by simpa using hj)]; simp
      rw [ei, ej] at this
      exact this
end Go.Proofs.YtlckeebbjnhejaaGreat
end

section
/-
  Package index: Since.
-/
namespace Go.Proofs.YtlckeebbjnhejaaGreat
open Go.ChangeShapes Go.WideShapes Go.ChangeAt Go.RowKit Go.Deep
set_option linter.unusedVariables false
set_option linter.unusedSimpArgs false

def chgE (main : Int) (e : PE) : List (List UInt8 × Rv × Bool) := (sinceG e.2 main).map fun p => (e.1, p.1, p.2)
/-- The changes of a range, key by key. -/
def chgX (P : List PE) (key end_ : List UInt8) (main : Int) : List (List UInt8 × Rv × Bool) := (P.filter (inX key end_)).flatMap (chgE main)
def chgN (P : List PE) (main : Int) (j : Nat) : List (List UInt8 × Rv × Bool) := (P.take j).flatMap (chgE main)
theorem chgN_next {P : List PE} {main : Int} {j : Nat} {e : PE} (he : P[j]? = some e) : chgN P main (j + 1) = chgN P main j ++ chgE main e := by
  unfold chgN
  rw [List.take_add_one, he, List.flatMap_append]
  simp
/-- Its revisions are the history's own, in their order. -/
theorem since_sub (gs : List Gn) (main : Int) : List.Sublist ((sinceG gs main).map Prod.fst) (flatG gs) := by
  unfold sinceG
  have h1 : ∀ x : Gn, List.Sublist ((entG (main, 0) x).map Prod.fst) x.revs := fun x => by
    unfold entG Gn.revs
    rw [List.map_append, List.map_map]
    refine List.Sublist.append ?_ ?_
    · rw [show (Prod.fst ∘ fun q : Rv => (q, false)) = id from rfl, List.map_id]
      exact List.drop_sublist _ _
    · cases x.ended <;> simp
  have h2 : ∀ l : List Gn, List.Sublist ((l.flatMap (entG (main, 0))).map Prod.fst) (flatG l) := fun l => by
    induction l with
    | nil => exact List.Sublist.refl _
    | cons x r ih =>
      rw [List.flatMap_cons, List.map_append]
      unfold flatG at ih ⊢
      rw [List.flatMap_cons]
      exact List.Sublist.append (h1 x) ih
  refine (h2 _).trans ?_
  unfold flatG
  generalize ebl gs (main, 0) = k
  induction gs generalizing k with
  | nil => simp
  | cons x r ih =>
    cases k with
    | zero => exact List.Sublist.refl _
    | succ k =>
      rw [List.drop_succ_cons, List.flatMap_cons]
      exact (ih k).trans (List.sublist_append_right _ _)
theorem flat_bound {gs : List Gn} (h : BdG gs 120) : (flatG gs).length ≤ 14520 := by
  have h1 : ∀ l : List Gn, (∀ x ∈ l, x.ps.length ≤ 120) → (flatG l).length ≤ l.length * 121 := fun l => by
    induction l with
    | nil => intro _; simp [flatG]
    | cons x r ih =>
      intro hx
      have i1 := ih (fun y hy => hx y (List.mem_cons_of_mem _ hy))
      have i2 := hx x (List.mem_cons_self ..)
      unfold flatG at i1 ⊢
      rw [List.flatMap_cons, List.length_append, List.length_cons]
      have i3 : x.revs.length ≤ x.ps.length + 1 := by
        unfold Gn.revs
        rw [List.length_append]
        cases x.ended <;> simp
      omega
  have h2 := h1 gs h.2
  have h3 := h.1
  omega
theorem since_bound {gs : List Gn} (h : BdG gs 120) (main : Int) : (sinceG gs main).length ≤ 14520 := by
  have h1 := (since_sub gs main).length_le
  rw [List.length_map] at h1
  exact Nat.le_trans h1 (flat_bound h)
theorem entC_at2 (es : List (Rv × Bool)) (i : Nat) (h : i < es.length) : (entC es)[i * 3]? = some (.int .i64 es[i].1.1) ∧ (entC es)[i * 3 + 1]? = some (.int .i64 es[i].1.2) ∧ (entC es)[i * 3 + 2]? = some (.bool es[i].2) := by
  have := fun r hr => flat_at (fun p : Rv × Bool => [.int .i64 p.1.1, .int .i64 p.1.2, .bool p.2]) 3 (fun _ => rfl) es i h r hr
  exact ⟨this 0 (by omega), this 1 (by omega), this 2 (by omega)⟩
/-- What Since leaves. -/
def SinX (w : World) (cx : List (List UInt8 × Rv × Bool)) (e : Ending) (w' : World) : Prop := ∃ A' n' k' cs, e = .returned (.slice A' n' k') ∧ COut w.heap.size w' A' n' k' cs ∧ (cs.map ChL.px).Perm cx ∧ List.Pairwise (fun a b : ChL => ltR b.q a.q = false) cs ∧ Below w.heap.size w w'
/-- Between two rounds. -/
def SinI (w wr : World) (Ao : Option Addr) (no ko : Nat) (cx : List (List UInt8 × Rv × Bool)) : Prop := ∃ cs, COut w.heap.size wr Ao no ko cs ∧ cs.map ChL.px = cx ∧ Below w.heap.size w wr
theorem SinI.below {w wr w' : World} {Ao : Option Addr} {no ko : Nat} {cx : List (List UInt8 × Rv × Bool)} (h : SinI w wr Ao no ko cx) (hb : Below wr.heap.size wr w') : SinI w w' Ao no ko cx := by
  obtain ⟨cs, h1, h2, h3⟩ := h
  exact ⟨cs, h1.below hb, h2, bel_to hb h3⟩
theorem measY {j c : Nat} (h : j < c) (z : Int) (hw : z = (j : Int) + 1) : c - (intOf (.int .i64 z)).toNat < c - (intOf (.int .i64 (j : Int))).toNat := by
  subst hw
  simp [intOf]
  omega
set_option maxHeartbeats 8000000 in
theorem xsinceL_any {w : World} {x : Nat} {A : Option Addr} {n k : Nat} {l : Rv} {Es : List EnL} (h : IxL w x A n k l Es) {P : List PE} (hP : Es.map EnL.px = P) (hi : XInv l P 120) (B : Option Addr) (m d : Nat) (ys : List UInt8) (h2 : Rd w B m ys) (hm : m ≤ 140737488355328) (C : Option Addr) (m3 d3 : Nat) (zs : List UInt8) (h3 : Rd w C m3 zs) (hm3 : m3 ≤ 140737488355328) (main : Int) :
    Calls Tryz.prog 22 #[.pointer (some ⟨x, 0, none⟩), .slice B m d, .slice C m3 d3, .int .i64 main] w (SinX w (chgX P ys zs main)) := by
  have HR : Hid (chgX P ys zs main = chgN (P.drop (plX P ys)) main (cntX P ys zs)) := kept (by unfold chgX chgN; rw [range_take hi.rise])
  have HPn : Hid (P.length = n) := kept (by rw [← hP, List.length_map]; exact h.ln)
  have hnN : n ≤ 120 := by have := hi.ln; rw [HPn.out] at this; omega
  have HW := kept (within_any h hP hi.rise (by omega) B m d ys h2 hm C m3 d3 zs h3 hm3)
  have hle := cntX_le P ys zs
  rw [HPn.out] at hle
  generalize plX P ys = pl at HW HR hle
  generalize cntX P ys zs = cnt at HW HR hle
  have HLE := kept hle
  have HX := kept h
  have HI0 := kept hi
  have HPP := kept hP
  have hcn : cnt ≤ 120 := by omega
  clear h h2 h3 hP hi hle
  go_enter Tryz.func22, Tryz.ntmps22
  go_wp2_with fail
  with_reducible refine HW.out.mono ?_
  rintro e w1 ⟨A1, k1, rfl, hs1, hb⟩
  have HS1 := kept hs1
  have HB0 := kept hb
  clear hb hs1
  go_wp2
  go_loopw [9, 19] (fun o i wr => ∃ (j : Nat) (Ao : Option Addr) (no ko : Nat), j ≤ cnt ∧ no ≤ j * 14520 ∧ i = .int .i64 (j : Int) ∧ o = .slice Ao no ko ∧ Hid (SinI w wr Ao no ko (chgN (P.drop pl) main j))) (fun _ i _ => cnt - (intOf i).toNat)
  case atStart => exact ⟨0, none, 0, 0, Nat.zero_le _, Nat.le_refl _, rfl, rfl, kept ⟨[], COut.nil _ _, by simp [chgN], HB0.out⟩⟩
  case round =>
    obtain ⟨j, Ao, no, ko, hj, hnj, rfl, rfl, HI⟩ := hrel
    have hj0 : (0 : Int) ≤ (j : Int) := by omega
    by_cases hjn : j < cnt
    · obtain ⟨cs0, ho0, hpx0, hbw⟩ := HI.out
      have hx := HX.out.below hbw
      obtain ⟨g, hA, E, he, hEm, z0, z1, hat⟩ := hx.ent (i := pl + j) (by have := HLE.out; omega)
      obtain ⟨g', hA', hA1⟩ := HS1.out (by omega)
      obtain rfl : g = g' := by rw [hA] at hA'; injection hA' with e; injection e
      subst hA1
      have hpe := px_get he
      rw [HPP.out] at hpe
      have hinv : GInv E.gs ∧ BdG E.gs 120 := by
        have : E.px ∈ P := List.mem_of_getElem? hpe
        exact ⟨HI0.out.inv _ this, HI0.out.bd _ this⟩
      rw [show (pl + j) * 2 = pl * 2 + j * 2 by omega] at z0 z1
      have hjn' : (j : Int) < (cnt : Int) := by omega
      have hwj : wrap64 ((j : Int) + 1) = (j : Int) + 1 := IntWalk.wrap64_in _ ⟨by omega, by omega⟩
      have HJ := kept hjn
      have HJC := kept hcn
      have hba : Below wr.heap.size wr (wr.alloc (.cells #[.slice E.A E.n E.c, .pointer (some ⟨E.r, 0, none⟩)] 67)) := (Below.refl _ wr).alloc (Nat.le_refl _) _
      have HG := kept (gsince_any (hat.his.below hba) hinv.1 hinv.2 (by omega) main)
      have HEB := kept (Blk.new wr 67 #[.slice E.A E.n E.c, .pointer (some ⟨E.r, 0, none⟩)])
      have HNX : Hid (chgN (P.drop pl) main (j + 1) = chgN (P.drop pl) main j ++ (sinceG E.gs main).map fun p => (E.xs, p.1, p.2)) := kept (by
        have := chgN_next (P := P.drop pl) (main := main) (j := j) (e := (E.xs, E.gs)) (by rw [List.getElem?_drop]; exact hpe)
        rw [this]; rfl)
      have HSB := kept (since_bound hinv.2 main)
      have HO := kept (HI.out.below hba)
      have HKY := kept (gown_turned hat.key (Turned.of_below hba (fun _ => False)) (fun _ _ e => e))
      have hEn : E.n ≤ 1000 := hat.len
      clear hx hA hA' he hEm hat hpe hinv hba HI hjn cs0 ho0 hpx0 hbw
      generalize sinceG E.gs main = es at HG HNX HSB
      generalize chgN (P.drop pl) main j = c0 at HNX HO
      go_wp2_with fail
      generalize wr.alloc (.cells #[.slice E.A E.n E.c, .pointer (some ⟨E.r, 0, none⟩)] 67) = W1 at HG HEB HO HKY ⊢
      with_reducible refine HG.out.mono ?_
      rintro e w2 ⟨A2, k2, rfl, ho2, hb2⟩
      have HEB2 := kept (HEB.out.below hb2 HEB.out.lt)
      have HIN0 : Hid (SinI w w2 Ao no ko (c0 ++ (es.take 0).map fun p => (E.xs, p.1, p.2)) ∧ w2.ownsRow W1.heap.size 87 3 (.slice A2 es.length k2) es.length (entC es) ∧ Blk w2 wr.heap.size 67 [.slice E.A E.n E.c, .pointer (some ⟨E.r, 0, none⟩)] ∧ w2.ownsRow 0 5 1 (.slice E.A E.n E.c) E.n (cellsOf E.xs)) := kept ⟨by simpa using HO.out.below hb2, ho2, HEB2.out, gown_turned HKY.out (Turned.of_below hb2 (fun _ => False)) (fun _ _ e => e)⟩
      have hel : es.length ≤ 14520 := HSB.out
      clear ho2 hb2 z0 z1 HG HEB HO HKY HEB2
      go_wp2
      have HWJ := kept hwj
      have HNJ := kept (And.intro hnj hel)
      clear hwj hj hj0 hjn' hcn hnN hm hm3 hnj hel
      obtain ⟨wb, rfl⟩ : ∃ wb, wb = wr := ⟨_, rfl⟩
      go_loopw [9, 28] (fun o i wr => ∃ (q : Nat) (Aq : Option Addr) (nq kq : Nat), q ≤ es.length ∧ nq ≤ no + q ∧ i = .int .i64 (q : Int) ∧ o = .slice Aq nq kq ∧ Hid (SinI w wr Aq nq kq (c0 ++ (es.take q).map fun p => (E.xs, p.1, p.2)) ∧ wr.ownsRow W1.heap.size 87 3 (.slice A2 es.length k2) es.length (entC es) ∧ Blk wr wb.heap.size 67 [.slice E.A E.n E.c, .pointer (some ⟨E.r, 0, none⟩)] ∧ wr.ownsRow 0 5 1 (.slice E.A E.n E.c) E.n (cellsOf E.xs))) (fun _ i _ => es.length - (intOf i).toNat)
      case atStart => exact ⟨0, Ao, no, ko, Nat.zero_le _, Nat.le_refl _, rfl, rfl, HIN0⟩
      case round =>
        obtain ⟨q, Aq, nq, kq, hq, hnq, rfl, rfl, HI⟩ := hrel
        clear HIN0
        have hq0 : (0 : Int) ≤ (q : Int) := by omega
        by_cases hqn : q < es.length
        · have HWQ : Hid (wrap64 ((q : Int) + 1) = (q : Int) + 1) := kept (IntWalk.wrap64_in _ ⟨by omega, by have := HNJ.out.2; omega⟩)
          have hqn' : (q : Int) < (es.length : Int) := by omega
          obtain ⟨g4, hA2, _, _, _, _, hc4⟩ := gown_at HI.out.2.1 (by omega)
          subst hA2
          obtain ⟨e0, e1, e2⟩ := entC_at2 es q hqn
          have c40 := hc4 _ _ e0
          have c41 := hc4 _ _ e1
          have c42 := hc4 _ _ e2
          have HTK : Hid ((es.take (q + 1)).map (fun p => (E.xs, p.1, p.2)) = (es.take q).map (fun p => (E.xs, p.1, p.2)) ++ [(E.xs, es[q].1, es[q].2)]) := kept (by rw [List.take_add_one, List.getElem?_eq_getElem hqn, List.map_append]; rfl)
          generalize es[q] = z at c40 c41 c42 HTK
          have HJQ := kept hqn
          have hba : Below wr.heap.size wr (wr.alloc (.cells #[.int .i64 z.1.1, .int .i64 z.1.2, .bool z.2] 87)) := (Below.refl _ wr).alloc (Nat.le_refl _) _
          have HZB := kept (Blk.new wr 87 #[.int .i64 z.1.1, .int .i64 z.1.2, .bool z.2])
          have HEB3 := kept (HI.out.2.2.1.below hba HI.out.2.2.1.lt)
          have HO3 := kept (HI.out.1.below hba)
          have HKY3 := kept (gown_turned HI.out.2.2.2 (Turned.of_below hba (fun _ => False)) (fun _ _ e => e))
          have HE3 := kept (gown_turned HI.out.2.1 (Turned.of_below hba (fun _ => False)) (fun _ _ e => e))
          have HS0 := kept (show (fun W' : World => W'.cell? ⟨wb.heap.size, 0, none⟩ = some (.slice E.A E.n E.c) ∧ (W'.cell? ⟨wr.heap.size, 0, none⟩ = some (.int .i64 z.1.1) ∧ W'.cell? ⟨wr.heap.size, 1, none⟩ = some (.int .i64 z.1.2) ∧ W'.cell? ⟨wr.heap.size, 2, none⟩ = some (.bool z.2))) (wr.alloc (.cells #[.int .i64 z.1.1, .int .i64 z.1.2, .bool z.2] 87)).drew from ⟨HEB3.out.cell 0, HZB.out.cell 0, HZB.out.cell 1, HZB.out.cell 2⟩)
          have HEF := kept (And.intro HEB3.out HZB.out)
          obtain ⟨cs3, ho3, hpx3, hb3⟩ := HO3.out
          have HC3 := kept (And.intro hb3 (And.intro ho3 HKY3.out))
          have HPX3 := kept hpx3
          have HNQ3 : Hid (nq + 1 ≤ 3000000) := kept (by have := HNJ.out.1; have := HNJ.out.2; have := HJC.out; have := HJ.out; omega)
          have HNQ := kept hnq
          clear hnq hq0
          clear hba hc4 e0 e1 e2 HI hqn hq ho3 hpx3 hb3 HO3 HKY3 HZB HEB3
          go_wp2
          refine wp_region_held_drew (S := (fun W' : World => W'.cell? ⟨wb.heap.size, 0, none⟩ = some (.slice E.A E.n E.c) ∧ (W'.cell? ⟨wr.heap.size, 0, none⟩ = some (.int .i64 z.1.1) ∧ W'.cell? ⟨wr.heap.size, 1, none⟩ = some (.int .i64 z.1.2) ∧ W'.cell? ⟨wr.heap.size, 2, none⟩ = some (.bool z.2)))) (by kernel_rfl) ?_ (fun hHeld => ?_)
          · ((try dsimp only); (first | with_reducible exact HS0.out | with_reducible exact HS1'.out | with_reducible exact HS2.out | (first | trivial | with_reducible exact HS3.out)))
          (generalize wr.alloc (.cells #[.int .i64 z.1.1, .int .i64 z.1.2, .bool z.2] 87) = W3 at HS0 HC3 HEF HE3 hHeld ⊢; have HKP := fun W (hb : Below W3.drew.heap.size W3.drew W) => kept (show (fun W' : World => W'.cell? ⟨wb.heap.size, 0, none⟩ = some (.slice E.A E.n E.c) ∧ (W'.cell? ⟨wr.heap.size, 0, none⟩ = some (.int .i64 z.1.1) ∧ W'.cell? ⟨wr.heap.size, 1, none⟩ = some (.int .i64 z.1.2) ∧ W'.cell? ⟨wr.heap.size, 2, none⟩ = some (.bool z.2))) W from ⟨(Keeps.of_below hb).cell_ HS0.out.1, (Keeps.of_below hb).cell_ HS0.out.2.1, (Keeps.of_below hb).cell_ HS0.out.2.2.1, (Keeps.of_below hb).cell_ HS0.out.2.2.2⟩); have HCL := kept (clone_any E.A E.n E.c E.xs W3.drew (Rd.of_own HC3.out.2.2) (by omega)))
          refine hand_take 0 (some 32) ?_ (by kernel_rfl) (by kernel_rfl) (by kernel_rfl) (by kernel_rfl) (by kernel_rfl) (fun _ _ _ h => h) ?_ (by assumption) ?_
          rotate_left
          · (intro o ho w hSw; (simp only [List.getElem?_toArray, List.getElem?_cons_succ, List.getElem?_cons_zero, Option.some.injEq] at ho); subst ho; (try dsimp only at hSw); go_simp; (first | done | with_reducible rfl))
          (try simp only [Act.put, List.setIfInBounds_toArray, List.set_cons_zero, List.set_cons_succ])
          refine hand_take 1 (some 33) ?_ (by kernel_rfl) (by kernel_rfl) (by kernel_rfl) (by kernel_rfl) (by kernel_rfl) (fun _ _ _ h => h) ?_ (by assumption) ?_
          rotate_left
          · (intro o ho w hSw; (simp only [List.getElem?_toArray, List.getElem?_cons_succ, List.getElem?_cons_zero, Option.some.injEq] at ho); subst ho; (try dsimp only at hSw); go_simp; (first | done | with_reducible rfl))
          (try simp only [Act.put, List.setIfInBounds_toArray, List.set_cons_zero, List.set_cons_succ])
          refine hand_take 2 (some 34) ?_ (by kernel_rfl) (by kernel_rfl) (by kernel_rfl) (by kernel_rfl) (by kernel_rfl) (fun _ _ _ h => h) ?_ (by assumption) ?_
          rotate_left
          · (intro o ho w hSw; (simp only [List.getElem?_toArray, List.getElem?_cons_succ, List.getElem?_cons_zero, Option.some.injEq] at ho); subst ho; (try dsimp only at hSw); go_simp; (first | done | with_reducible rfl))
          (try simp only [Act.put, List.setIfInBounds_toArray, List.set_cons_zero, List.set_cons_succ])
          refine hand_take 4 (some 36) ?_ (by kernel_rfl) (by kernel_rfl) (by kernel_rfl) (by kernel_rfl) (by kernel_rfl) (fun _ _ _ h => h) ?_ (by assumption) ?_
          rotate_left
          · (intro o ho w hSw; (simp only [List.getElem?_toArray, List.getElem?_cons_succ, List.getElem?_cons_zero, Option.some.injEq] at ho); subst ho; (try dsimp only at hSw); go_simp; (first | done | with_reducible rfl))
          (try simp only [Act.put, List.setIfInBounds_toArray, List.set_cons_zero, List.set_cons_succ])
          refine hand_take 5 (some 37) ?_ (by kernel_rfl) (by kernel_rfl) (by kernel_rfl) (by kernel_rfl) (by kernel_rfl) (fun _ _ _ h => h) ?_ (by assumption) ?_
          rotate_left
          · (intro o ho w hSw; (simp only [List.getElem?_toArray, List.getElem?_cons_succ, List.getElem?_cons_zero, Option.some.injEq] at ho); subst ho; (try dsimp only at hSw); go_simp; (first | done | with_reducible rfl))
          (try simp only [Act.put, List.setIfInBounds_toArray, List.set_cons_zero, List.set_cons_succ])
          refine hand_take 6 (some 38) ?_ (by kernel_rfl) (by kernel_rfl) (by kernel_rfl) (by kernel_rfl) (by kernel_rfl) (fun _ _ _ h => h) ?_ (by assumption) ?_
          rotate_left
          · (intro o ho w hSw; (simp only [List.getElem?_toArray, List.getElem?_cons_succ, List.getElem?_cons_zero, Option.some.injEq] at ho); subst ho; (try dsimp only at hSw); go_simp; (first | done | with_reducible rfl))
          (try simp only [Act.put, List.setIfInBounds_toArray, List.set_cons_zero, List.set_cons_succ])
          refine hand_take 7 (some 39) ?_ (by kernel_rfl) (by kernel_rfl) (by kernel_rfl) (by kernel_rfl) (by kernel_rfl) (fun _ _ _ h => h) ?_ (by assumption) ?_
          rotate_left
          · (intro o ho w hSw; (simp only [List.getElem?_toArray, List.getElem?_cons_succ, List.getElem?_cons_zero, Option.some.injEq] at ho); subst ho; (try dsimp only at hSw); go_simp; (first | done | with_reducible rfl))
          (try simp only [Act.put, List.setIfInBounds_toArray, List.set_cons_zero, List.set_cons_succ])
          refine hand_ready 3 (by kernel_rfl) (by kernel_rfl) (fun o ho K hK => ?_)
          (simp only [List.getElem?_toArray, List.getElem?_cons_succ, List.getElem?_cons_zero, Option.some.injEq] at ho)
          subst ho
          go_simp
          (go_at_call 28; (with_reducible refine HCL.out.mono ?_); rintro e w4 ⟨A4, c4, rfl, ho4, hb4⟩; have HS1' := HKP w4 hb4; have HC4 := kept (And.intro ho4 hb4); clear ho4 hb4)
          (try go_wp2_with fail)
          refine hK.out _ _ ?_ (fun hHeld => ?_)
          · ((try dsimp only); (first | with_reducible exact HS0.out | with_reducible exact HS1'.out | with_reducible exact HS2.out | (first | trivial | with_reducible exact HS3.out)))
          clear hK K
          (try simp only [Act.put, List.setIfInBounds_toArray, List.set_cons_zero, List.set_cons_succ])
          refine hand_take 8 (some 40) ?_ (by kernel_rfl) (by kernel_rfl) (by kernel_rfl) (by kernel_rfl) (by kernel_rfl) (fun _ _ _ h => h) ?_ (by assumption) ?_
          rotate_left
          · (intro o ho w hSw; (simp only [List.getElem?_toArray, List.getElem?_cons_succ, List.getElem?_cons_zero, Option.some.injEq] at ho); subst ho; (try dsimp only at hSw); go_simp; (first | done | with_reducible rfl))
          (try simp only [Act.put, List.setIfInBounds_toArray, List.set_cons_zero, List.set_cons_succ])
          refine hand_ready 9 (by kernel_rfl) (by kernel_rfl) (fun o ho K hK => ?_)
          (simp only [List.getElem?_toArray, List.getElem?_cons_succ, List.getElem?_cons_zero, Option.some.injEq] at ho)
          subst ho
          go_simp
          (refine name_world (fun W5 hW5 => ?_); have hb5 := below_alloc hW5; have HV5 := kept (ren_new hW5); have HB5 := kept (And.intro hb5 (bel_to hb5 HC4.out.2)); have HS2 := HKP W5 HB5.out.2; clear hb5 hW5)
          refine hK.out _ _ ?_ (fun hHeld => ?_)
          · ((try dsimp only); (first | with_reducible exact HS0.out | with_reducible exact HS1'.out | with_reducible exact HS2.out | (first | trivial | with_reducible exact HS3.out)))
          clear hK K
          (try simp only [Act.put, List.setIfInBounds_toArray, List.set_cons_zero, List.set_cons_succ])
          refine hand_ready 10 (by kernel_rfl) (by kernel_rfl) (fun o ho K hK => ?_)
          (simp only [List.getElem?_toArray, List.getElem?_cons_succ, List.getElem?_cons_zero, Option.some.injEq] at ho)
          subst ho
          (refine wp_append_h (.tmp 32) (.tmp 41) 56 rfl 59 rfl rfl Tryz.underlying56 chginfo rfl (by decide) (by decide) (HC3.out.2.1.below (bel_to HB5.out.2 ((Below.refl _ W3).drew))).row (ys := [.slice A4 E.n c4, .int .i64 z.1.1, .int .i64 z.1.2, .bool z.2]) rfl (fun _ => ⟨_, rfl, fun j u hj => by rw [gadd_at, Nat.zero_add]; exact (HV5.out.cell j).trans hj⟩) (by intro u hu; simp only [List.mem_cons, List.not_mem_nil, or_false] at hu; rcases hu with rfl | rfl | rfl | rfl <;> rfl) HNQ3.out (Nat.le_trans HC3.out.1.size HB5.out.2.size) ?_; intro A6 c6 w6 h6 g6; have hbw5 := bel_to HB5.out.2 ((Below.refl _ W3).drew); have hr5 := (HC3.out.2.1.below hbw5).row; have he5 := blk_grown (HEF.out.1.below hbw5 HEF.out.1.lt) g6 (fun e => by obtain ⟨cc, hcc⟩ := gown_cl (k := 0) hr5 e; exact ne_of_types hcc (show W5.heap[wb.heap.size]? = some _ from HEF.out.1.below hbw5 HEF.out.1.lt) (by decide) rfl); have hf5 := blk_grown (HEF.out.2.below hbw5 HEF.out.2.lt) g6 (fun e => by obtain ⟨cc, hcc⟩ := gown_cl (k := 0) hr5 e; exact ne_of_types hcc (show W5.heap[wr.heap.size]? = some _ from HEF.out.2.below hbw5 HEF.out.2.lt) (by decide) rfl); have HS3 := kept (show (fun W' : World => W'.cell? ⟨wb.heap.size, 0, none⟩ = some (.slice E.A E.n E.c) ∧ (W'.cell? ⟨wr.heap.size, 0, none⟩ = some (.int .i64 z.1.1) ∧ W'.cell? ⟨wr.heap.size, 1, none⟩ = some (.int .i64 z.1.2) ∧ W'.cell? ⟨wr.heap.size, 2, none⟩ = some (.bool z.2))) w6 from ⟨he5.cell 0, hf5.cell 0, hf5.cell 1, hf5.cell 2⟩); have HF6 := kept (And.intro h6 (And.intro g6 he5)); clear h6 g6 hbw5 hr5 he5 hf5)
          refine hK.out _ _ ?_ (fun hHeld => ?_)
          · ((try dsimp only); (first | with_reducible exact HS0.out | with_reducible exact HS1'.out | with_reducible exact HS2.out | (first | trivial | with_reducible exact HS3.out)))
          clear hK K
          (try simp only [Act.put, List.setIfInBounds_toArray, List.set_cons_zero, List.set_cons_succ])
          refine hand_take 11 (some 9) ?_ (by kernel_rfl) (by kernel_rfl) (by kernel_rfl) (by kernel_rfl) (by kernel_rfl) (fun _ _ _ h => h) ?_ (by assumption) ?_
          rotate_left
          · (intro o ho w hSw; (simp only [List.getElem?_toArray, List.getElem?_cons_succ, List.getElem?_cons_zero, Option.some.injEq] at ho); subst ho; (try dsimp only at hSw); go_simp; (first | done | with_reducible rfl))
          (try simp only [Act.put, List.setIfInBounds_toArray, List.set_cons_zero, List.set_cons_succ])
          refine wpAnyH_done (by kernel_rfl) ?_ _
          clear hHeld
          go_wp2
          obtain ⟨h6, g6, he6⟩ := HF6.out
          have hbw5 := bel_to HB5.out.2 ((Below.refl _ W3).drew)
          have ho5 := HC3.out.2.1.below hbw5
          have hb06 := bel_grown (bel_to hbw5 HC3.out.1) (Nat.le_refl _) ho5.row g6
          have hk5 : W5.ownsRow w.heap.size 5 1 (.slice A4 E.n c4) E.n (cellsOf E.xs) := own_mono_ (gown_turned HC4.out.1 (Turned.of_below HB5.out.1 (fun _ => False)) (fun _ _ e => e)) HC3.out.1.size
          have hky := gown_apart (gown_turned HC3.out.2.2 (Turned.of_below hbw5 (fun _ => False)) (fun _ _ e => e)) ho5.row g6 (by decide)
          have hen := gown_apart (gown_turned HE3.out (Turned.of_below hbw5 (fun _ => False)) (fun _ _ e => e)) ho5.row g6 (by decide)
          have HFF : Hid (SinI w w6 A6 (nq + 1) c6 (c0 ++ (es.take (q + 1)).map fun p => (E.xs, p.1, p.2)) ∧ w6.ownsRow W1.heap.size 87 3 (.slice (some ⟨g4, 0, none⟩) es.length k2) es.length (entC es) ∧ Blk w6 wb.heap.size 67 [.slice E.A E.n E.c, .pointer (some ⟨E.r, 0, none⟩)] ∧ w6.ownsRow 0 5 1 (.slice E.A E.n E.c) E.n (cellsOf E.xs)) := kept ⟨⟨cs3 ++ [⟨A4, E.n, c4, E.xs, z.1, z.2⟩], ⟨by rw [cgC_append]; exact h6, fun K hK => by
            rcases List.mem_append.1 hK with hK | hK
            · exact ⟨gown_apart (ho5.key K hK).1 ho5.row g6 (by decide), (ho5.key K hK).2⟩
            · obtain rfl := List.mem_singleton.1 hK
              exact ⟨gown_apart hk5 ho5.row g6 (by decide), hEn⟩⟩, by rw [List.map_append, HPX3.out, HTK.out, List.append_assoc]; rfl, hb06⟩, hen, he6, hky⟩
          clear h6 g6 he6 hbw5 ho5 hb06 hk5 hky hen
          go_roundw
          case rel => exact ⟨q + 1, A6, nq + 1, c6, by have := HJQ.out; omega, by have := HNQ.out; omega, by rw [HWQ.out]; go_num, rfl, HFF⟩
          case measure =>
            exact measY HJQ.out _ HWQ.out
        · obtain rfl : q = es.length := by omega
          have hqn' : ¬ (es.length : Int) < (es.length : Int) := by omega
          rw [List.take_length, ← HNX.out] at HI
          have HFF := kept HI.out.1
          have HNQ := kept hnq
          clear HI hnq hq0 hq hqn
          go_wp2
          go_roundw
          case rel => exact ⟨j + 1, Aq, nq, kq, by have := HJ.out; omega, by have := HNQ.out; have := HNJ.out.1; have := HNJ.out.2; omega, by rw [HWJ.out]; go_num, rfl, HFF⟩
          case measure =>
            exact measY HJ.out _ HWJ.out
    · obtain rfl : j = cnt := by omega
      have hjn' : ¬ (j : Int) < (j : Int) := by omega
      obtain ⟨cs, ho, hpx, hbw⟩ := HI.out
      have HO := kept ho
      have HPX := kept hpx
      have HBW := kept hbw
      have HS := kept (sortCh_any Ao no ko w.heap.size cs wr ho.row (by omega))
      clear ho hpx hbw HI
      go_wp2_with (first | (go_at_call 44; (with_reducible refine (HS.out).mono ?_); rintro e w8 ⟨rfl, cs8, p8, s8, h8, t8⟩; have HF8 := kept (And.intro p8 (And.intro s8 (And.intro h8 t8))); clear p8 s8 h8 t8))
      go_returns
      obtain ⟨p8, s8, h8, t8⟩ := HF8.out
      refine ⟨Ao, no, ko, cs8, rfl, ⟨h8, fun K hK => ?_⟩, ?_, s8, Turned.only_new HBW.out t8 HBW.out.size (fun i hi => (gown_lt HO.out.row hi).1)⟩
      · have hk := HO.out.key K (p8.mem_iff.1 hK)
        refine ⟨gown_turned hk.1 t8 (fun i hi e => ?_), hk.2⟩
        obtain ⟨c1, hc1⟩ := gown_cl (k := 0) hk.1 hi
        obtain ⟨c2, hc2⟩ := gown_cl (k := 0) HO.out.row e
        exact ne_of_types hc1 hc2 (by decide) rfl
      · rw [HR.out, ← HPX.out]
        exact p8.map _
theorem xsinceP_any {w : World} {x : Nat} {F : Nat → Prop} {l : Rv} {P : List PE} (h : Ix w x F l P) (hi : XInv l P 120) (B : Option Addr) (m d : Nat) (ys : List UInt8) (h2 : Rd w B m ys) (hm : m ≤ 140737488355328) (C : Option Addr) (m3 d3 : Nat) (zs : List UInt8) (h3 : Rd w C m3 zs) (hm3 : m3 ≤ 140737488355328) (main : Int) :
    Calls Tryz.prog 22 #[.pointer (some ⟨x, 0, none⟩), .slice B m d, .slice C m3 d3, .int .i64 main] w (SinX w (chgX P ys zs main)) := by
  obtain ⟨A, n, k, Es, h1, _, h4⟩ := h
  exact xsinceL_any h1 h4 hi B m d ys h2 hm C m3 d3 zs h3 hm3 main
end Go.Proofs.YtlckeebbjnhejaaGreat
end
