/-
  page.inOrder, three times: of numbers, of kids, of items.
-/
import Derived.Test.YtfgpkgenahlikaaDoorPh
import Derived.Test.YtfgpkgenahlikaaDoorHnd
namespace Go.Proofs.YtfgpkgenahlikaaDoor
open Go.ChangeShapes Go.WideShapes Go.ChangeAt Go.RowKit
set_option linter.unusedVariables false
set_option linter.unusedSimpArgs false

section
variable {α : Type} {ok : α → Bool} {cmp : α → α → Int} {I : List α}
theorem ordU_zero : ordU ok cmp I 0 = true := by simp [ordU]
/-- Is x above the one ahead of place k? -/
def aboveB (cmp : α → α → Int) (I : List α) (k : Nat) (x : α) : Bool := k == 0 || match I[k - 1]? with | none => true | some y => decide (cmp y x < 0)
theorem aboveB_succ {k : Nat} (hk : k < I.length) (x : α) : aboveB cmp I (k + 1) x = decide (cmp I[k] x < 0) := by
  unfold aboveB
  rw [Nat.add_sub_cancel, List.getElem?_eq_getElem hk]
  rfl
theorem ordU_succ {k : Nat} (hk : k < I.length) : ordU ok cmp I (k + 1) = (ordU ok cmp I k && (ok I[k] && aboveB cmp I k I[k])) := by
  unfold ordU
  rw [List.range_succ, List.all_append]
  simp only [List.all_cons, List.all_nil, Bool.and_true]
  rw [List.getElem?_eq_getElem hk]
  rfl
theorem ordU_false {k n : Nat} (h : ordU ok cmp I k = false) (hn : k ≤ n) : ordU ok cmp I n = false := by
  unfold ordU at *
  rw [List.all_eq_false] at *
  obtain ⟨x, hx, h⟩ := h
  exact ⟨x, by simp at *; omega, h⟩
theorem ordU_bad {k n : Nat} (hk : k < I.length) (hn : k < n) (h : ok I[k] = false) : ordU ok cmp I n = false :=
  ordU_false (k := k + 1) (by rw [ordU_succ hk, h]; simp) hn
theorem ordU_first (hk : 0 < I.length) (h : ok I[0] = true) : ordU ok cmp I 1 = true := by
  rw [ordU_succ (k := 0) hk, ordU_zero, h]; rfl
theorem ordU_back {k n : Nat} (hk : k + 1 < I.length) (hn : k + 1 < n) (h : 0 ≤ cmp I[k] I[k + 1]) : ordU ok cmp I n = false :=
  ordU_false (k := k + 1 + 1) (by
    rw [ordU_succ hk, aboveB_succ (by omega), decide_eq_false (by omega)]
    simp) hn
theorem ordU_next {k : Nat} (hk : k + 1 < I.length) (h0 : ordU ok cmp I (k + 1) = true) (h1 : ok I[k + 1] = true) (h2 : cmp I[k] I[k + 1] < 0) : ordU ok cmp I (k + 1 + 1) = true := by
  rw [ordU_succ hk, h0, h1, aboveB_succ (by omega), decide_eq_true h2]
  rfl
end
set_option maxRecDepth 100000 in
set_option maxHeartbeats 1000000 in
theorem inOrderN_any (A : Option Addr) (n c : Nat) (I : List Int) (w : World) (h : RdNums w A n I) (hn : n ≤ 140737488355328) :
    Calls Tryd.prog 78 #[.slice A n c, .func (.func 70) #[] #[], .func (.func 79) #[] #[]] w fun e w' => e = .returned (.bool (ordU isPg cmpN I n)) ∧ w = w' := by
  have HR := kept h
  have HL := kept h.1
  clear h
  go_enter Tryd.func78, Tryd.ntmps78
  go_wp2
  go_loop [11] (fun i => ∃ k : Nat, k ≤ n ∧ i = .int .i64 k ∧ Hid (ordU isPg cmpN I k = true)) (fun i => n - (intOf i).toNat)
  case atStart => exact ⟨0, by omega, rfl, ordU_zero⟩
  case round =>
    obtain ⟨k, hk, rfl, HU⟩ := hrel
    by_cases hlt : k < n
    · obtain ⟨b, o, rfl, hc⟩ := HR.out.at_ hlt
      have hki : k < I.length := by rw [HL.out]; exact hlt
      cases hok : isPg (I[k]'hki) with
      | false =>
        have HO : Hid (ordU isPg cmpN I n = false) := kept (ordU_bad hki hlt hok)
        have HP := fun w => kept (isPage_any (I[k]'hki) w false hok)
        clear hok
        generalize I[k]'hki = x at hc HP
        go_wp2_with (first | (go_at_call 70; (with_reducible refine ((HP _).out).mono ?_); rintro e w' ⟨rfl, rfl⟩))
        go_ret
        exact ⟨ret_bool HO.out.symm, rfl⟩
      | true =>
        cases k with
        | zero =>
          have HO : Hid (ordU isPg cmpN I 1 = true) := kept (ordU_first hki hok)
          have HP := fun w => kept (isPage_any (I[0]'hki) w true hok)
          clear hok
          generalize I[0]'hki = x at hc HP
          rw [Nat.add_zero] at hc
          go_wp2_with (first | (go_at_call 70; (with_reducible refine ((HP _).out).mono ?_); rintro e w' ⟨rfl, rfl⟩))
          go_round
          case rel => exact ⟨1, by omega, by go_num, HO⟩
          case measure => simp [intOf]; omega
        | succ k =>
          have hc0 := HR.out.2.2 b o rfl k (by omega)
          have HP := fun w => kept (isPage_any (I[k + 1]'hki) w true hok)
          have HCM := fun w => kept (cmpInt_any (I[k]'(by omega)) (I[k + 1]'hki) w)
          have hi1 : (0 : Int) ≤ (k : Int) + 1 - 1 := by omega
          by_cases hcm : cmpN (I[k]'(by omega)) (I[k + 1]'hki) < 0
          · have HO : Hid (ordU isPg cmpN I (k + 1 + 1) = true) := kept (ordU_next hki HU.out hok hcm)
            clear hok
            generalize cmpN (I[k]'(by omega)) (I[k + 1]'hki) = m at hcm HCM
            generalize I[k + 1]'hki = x at hc HP HCM
            generalize I[k]'(by omega) = y at hc0 HCM
            have hd : decide (0 ≤ m) = false := by simp; omega
            go_wp2_with (first | (go_at_call 70; (with_reducible refine ((HP _).out).mono ?_); rintro e w' ⟨rfl, rfl⟩) | (go_at_call 79; (with_reducible refine ((HCM _).out).mono ?_); rintro e w' ⟨rfl, rfl⟩))
            go_round
            case rel => exact ⟨k + 1 + 1, by omega, by go_num, HO⟩
            case measure => simp [intOf]; omega
          · have HO : Hid (ordU isPg cmpN I n = false) := kept (ordU_back hki hlt (by omega))
            clear hok
            generalize cmpN (I[k]'(by omega)) (I[k + 1]'hki) = m at hcm HCM
            generalize I[k + 1]'hki = x at hc HP HCM
            generalize I[k]'(by omega) = y at hc0 HCM
            have hd : decide (0 ≤ m) = true := by simp; omega
            go_wp2_with (first | (go_at_call 70; (with_reducible refine ((HP _).out).mono ?_); rintro e w' ⟨rfl, rfl⟩) | (go_at_call 79; (with_reducible refine ((HCM _).out).mono ?_); rintro e w' ⟨rfl, rfl⟩))
            go_ret
            exact ⟨ret_bool HO.out.symm, rfl⟩
    · obtain rfl : k = n := by omega
      go_wp2
      go_ret
      exact ⟨ret_bool HU.out.symm, rfl⟩

/-! ### kids and items: the order's function literals -/
theorem cmpItem_any (L M : LayI) (x y : List UInt8) (w : World) (hx : Rd w L.ka L.kn x) (hy : Rd w M.ka M.kn y) (m : Int) (hm : ordB x y = m) :
    Calls Tryd.prog 73 #[L.val, M.val] w fun e w' => e = .returned (.int .i64 m) ∧ Below w.heap.size w w' := by
  obtain ⟨ka, kn, kc, va, vn, vc, size, more⟩ := L
  obtain ⟨ka', kn', kc', va', vn', vc', size', more'⟩ := M
  simp only at hx hy
  have HX := kept hx
  have HY := kept hy
  have HM := kept hm
  clear hx hy hm
  go_enter Tryd.func73, Tryd.ntmps73
  go_wp2_with (first | (go_at_call 74; (with_reducible refine (compare_any _ _ _ _ _ _ x y _ ((HX.out.alloc _).alloc _) ((HY.out.alloc _).alloc _)).mono ?_); rintro e w' ⟨rfl, rfl⟩))
  go_ret
  exact ⟨ret_num HM.out, ((Below.refl _ _).alloc (Nat.le_refl _) _).alloc (by simp) _⟩
theorem cmpKid_any (L M : LayK) (x y : List UInt8) (w : World) (hx : Rd w L.ka L.kn x) (hy : Rd w M.ka M.kn y) (m : Int) (hm : ordB x y = m) :
    Calls Tryd.prog 77 #[L.val, M.val] w fun e w' => e = .returned (.int .i64 m) ∧ Below w.heap.size w w' := by
  obtain ⟨ka, kn, kc, page⟩ := L
  obtain ⟨ka', kn', kc', page'⟩ := M
  simp only at hx hy
  have HX := kept hx
  have HY := kept hy
  have HM := kept hm
  clear hx hy hm
  go_enter Tryd.func77, Tryd.ntmps77
  go_wp2_with (first | (go_at_call 74; (with_reducible refine (compare_any _ _ _ _ _ _ x y _ ((HX.out.alloc _).alloc _) ((HY.out.alloc _).alloc _)).mono ?_); rintro e w' ⟨rfl, rfl⟩))
  go_ret
  exact ⟨ret_num HM.out, ((Below.refl _ _).alloc (Nat.le_refl _) _).alloc (by simp) _⟩
theorem RdKd.ok {w : World} {L : LayK} {x : Kd} (h : RdKd w L x) : (decide (L.kn ≤ 32) && isPg L.page) = kidOk x := by
  unfold kidOk
  rw [h.1.1, h.2.1]
theorem RdIt.ok {w : World} {L : LayI} {x : Itm} (h : RdIt w L x) : (decide (L.kn ≤ 32) && decide (0 ≤ L.size) && decide (L.size ≤ 4096) && (if L.size ≤ 64 then decide ((L.vn : Int) = L.size) && decide (L.more = 0) else decide (L.vn = 0) && isPg L.more)) = itemOk x := by
  unfold itemOk
  rw [h.1.1, h.2.1.1, h.2.2.1, h.2.2.2.1]
theorem below_to {w w1 w2 : World} (h : Below w1.heap.size w1 w2) (hb : Below w.heap.size w w1) : Below w.heap.size w w2 := hb.trans (h.mono hb.size)
set_option maxRecDepth 100000 in
set_option maxHeartbeats 2000000 in
theorem inOrderK_any (A : Option Addr) (n c : Nat) (I : List Kd) (w : World) (h : RdKids w A n I) (hn : n ≤ 140737488355328) :
    Calls Tryd.prog 75 #[.slice A n c, .func (.func 76) #[] #[], .func (.func 77) #[] #[]] w fun e w' => e = .returned (.bool (ordU kidOk cmpK I n)) ∧ Below w.heap.size w w' := by
  have HR := kept h
  have HL := kept h.1
  clear h
  go_enter Tryd.func75, Tryd.ntmps75
  go_wp2
  go_loopw [11] (fun i wr => ∃ k : Nat, k ≤ n ∧ i = .int .i64 k ∧ Hid (ordU kidOk cmpK I k = true) ∧ Hid (Below w.heap.size w wr)) (fun i _ => n - (intOf i).toNat)
  case atStart => exact ⟨0, by omega, rfl, ordU_zero, Below.refl _ _⟩
  case round =>
    obtain ⟨k, hk, rfl, HU, HW⟩ := hrel
    by_cases hlt : k < n
    · obtain ⟨b, o, L, rfl, hrd, hc0, hc1⟩ := (HR.out.below HW.out).at_ hlt
      have hki : k < I.length := by rw [HL.out]; exact hlt
      have HRD := kept hrd
      have HB0 : Hid (Below wr.heap.size wr (wr.alloc (.cells #[.slice L.ka L.kn L.kc, .int .i64 L.page] 69))) := kept ((Below.refl _ _).alloc (Nat.le_refl _) _)
      have HBW : Hid (∀ {w' : World}, Below (wr.alloc (.cells #[.slice L.ka L.kn L.kc, .int .i64 L.page] 69)).drew.heap.size (wr.alloc (.cells #[.slice L.ka L.kn L.kc, .int .i64 L.page] 69)).drew w' → Below w.heap.size w w') := kept (fun h => below_to (below_to (below_of_drew1 h) HB0.out) HW.out)
      have e0 : (wr.alloc (.cells #[.slice L.ka L.kn L.kc, .int .i64 L.page] 69)).cell? ⟨wr.heap.size, 0, none⟩ = some (.slice L.ka L.kn L.kc) := (by rw [cell_of_row _ wr.heap.size 0 _ _ _ (heap_alloc_new wr _)]; rfl)
      have e1 : (wr.alloc (.cells #[.slice L.ka L.kn L.kc, .int .i64 L.page] 69)).cell? ⟨wr.heap.size, 1, none⟩ = some (.int .i64 L.page) := (by rw [cell_of_row _ wr.heap.size 1 _ _ _ (heap_alloc_new wr _)]; rfl)
      have HE : Hid (∀ {w' : World}, Below (wr.alloc (.cells #[.slice L.ka L.kn L.kc, .int .i64 L.page] 69)).drew.heap.size (wr.alloc (.cells #[.slice L.ka L.kn L.kc, .int .i64 L.page] 69)).drew w' → w'.cell? ⟨wr.heap.size, 0, none⟩ = some (.slice L.ka L.kn L.kc) ∧ w'.cell? ⟨wr.heap.size, 1, none⟩ = some (.int .i64 L.page)) := kept (fun h => ⟨cell_below (below_of_drew1 h) e0, cell_below (below_of_drew1 h) e1⟩)
      clear hrd
      cases hok : kidOk (I[k]'hki) with
      | false =>
        have HO : Hid (ordU kidOk cmpK I n = false) := kept (ordU_bad hki hlt hok)
        have HP := fun w => kept (rightKid_any L w false (HRD.out.ok.trans hok))
        clear hok
        clear HRD
        obtain ⟨ka, kn, kc, page⟩ := L
        simp only at hc0 hc1 e0 e1
        go_wp2
        refine wp_region_held_drew (S := (fun W' => W'.cell? ⟨wr.heap.size, 0, none⟩ = some (.slice ka kn kc) ∧ W'.cell? ⟨wr.heap.size, 1, none⟩ = some (.int .i64 page))) (by kernel_rfl) ?_ (fun hHeld => ?_)
        · ((try dsimp only); (first | exact ⟨e0, e1⟩ | exact HE.out hb1))
        refine hand_take 0 (some 16) ?_ (by kernel_rfl) (by kernel_rfl) (by kernel_rfl) (by kernel_rfl) (by kernel_rfl) (fun _ _ _ h => h) ?_ (by assumption) ?_
        rotate_left
        · (intro o ho w hSw; (simp only [List.getElem?_toArray, List.getElem?_cons_succ, List.getElem?_cons_zero, Option.some.injEq] at ho); subst ho; (try dsimp only at hSw); go_simp; (first | done | with_reducible rfl))
        (try simp only [Act.put, List.setIfInBounds_toArray, List.set_cons_zero, List.set_cons_succ])
        refine hand_take 1 (some 17) ?_ (by kernel_rfl) (by kernel_rfl) (by kernel_rfl) (by kernel_rfl) (by kernel_rfl) (fun _ _ _ h => h) ?_ (by assumption) ?_
        rotate_left
        · (intro o ho w hSw; (simp only [List.getElem?_toArray, List.getElem?_cons_succ, List.getElem?_cons_zero, Option.some.injEq] at ho); subst ho; (try dsimp only at hSw); go_simp; (first | done | with_reducible rfl))
        (try simp only [Act.put, List.setIfInBounds_toArray, List.set_cons_zero, List.set_cons_succ])
        refine hand_ready 2 (by kernel_rfl) (by kernel_rfl) (fun o ho K hK => ?_)
        (simp only [List.getElem?_toArray, List.getElem?_cons_succ, List.getElem?_cons_zero, Option.some.injEq] at ho)
        subst ho
        go_simp
        (go_at_call 76; (with_reducible refine (HP _).out.mono ?_); rintro e w1 ⟨rfl, hb1⟩)
        (try go_wp2_with fail)
        refine hK.out _ _ ?_ (fun hHeld => ?_)
        · ((try dsimp only); (first | exact ⟨e0, e1⟩ | exact HE.out hb1))
        clear hK K
        (try simp only [Act.put, List.setIfInBounds_toArray, List.set_cons_zero, List.set_cons_succ])
        refine hand_take 3 (some 19) ?_ (by kernel_rfl) (by kernel_rfl) (by kernel_rfl) (by kernel_rfl) (by kernel_rfl) (fun _ _ _ h => h) ?_ (by assumption) ?_
        rotate_left
        · (intro o ho w hSw; (simp only [List.getElem?_toArray, List.getElem?_cons_succ, List.getElem?_cons_zero, Option.some.injEq] at ho); subst ho; (try dsimp only at hSw); go_simp; (first | done | with_reducible rfl))
        (try simp only [Act.put, List.setIfInBounds_toArray, List.set_cons_zero, List.set_cons_succ])
        refine hand_take 4 (some 20) ?_ (by kernel_rfl) (by kernel_rfl) (by kernel_rfl) (by kernel_rfl) (by kernel_rfl) (fun _ _ _ h => h) ?_ (by assumption) ?_
        rotate_left
        · (intro o ho w hSw; (simp only [List.getElem?_toArray, List.getElem?_cons_succ, List.getElem?_cons_zero, Option.some.injEq] at ho); subst ho; (try dsimp only at hSw); go_simp; (first | done | with_reducible rfl))
        (try simp only [Act.put, List.setIfInBounds_toArray, List.set_cons_zero, List.set_cons_succ])
        refine hand_skip 5 (some 21) (by kernel_rfl) (by kernel_rfl) (by kernel_rfl) (by kernel_rfl) (by kernel_rfl) (fun _ _ _ h => h) (by assumption) ?_
        (try simp only [Act.put, List.setIfInBounds_toArray, List.set_cons_zero, List.set_cons_succ])
        refine hand_skip 6 (some 22) (by kernel_rfl) (by kernel_rfl) (by kernel_rfl) (by kernel_rfl) (by kernel_rfl) (fun _ _ _ h => h) (by assumption) ?_
        (try simp only [Act.put, List.setIfInBounds_toArray, List.set_cons_zero, List.set_cons_succ])
        refine hand_skip 7 (some 23) (by kernel_rfl) (by kernel_rfl) (by kernel_rfl) (by kernel_rfl) (by kernel_rfl) (fun _ _ _ h => h) (by assumption) ?_
        (try simp only [Act.put, List.setIfInBounds_toArray, List.set_cons_zero, List.set_cons_succ])
        refine hand_skip 8 (some 24) (by kernel_rfl) (by kernel_rfl) (by kernel_rfl) (by kernel_rfl) (by kernel_rfl) (fun _ _ _ h => h) (by assumption) ?_
        (try simp only [Act.put, List.setIfInBounds_toArray, List.set_cons_zero, List.set_cons_succ])
        refine hand_skip 9 (some 25) (by kernel_rfl) (by kernel_rfl) (by kernel_rfl) (by kernel_rfl) (by kernel_rfl) (fun _ _ _ h => h) (by assumption) ?_
        (try simp only [Act.put, List.setIfInBounds_toArray, List.set_cons_zero, List.set_cons_succ])
        refine hand_skip 10 (some 26) (by kernel_rfl) (by kernel_rfl) (by kernel_rfl) (by kernel_rfl) (by kernel_rfl) (fun _ _ _ h => h) (by assumption) ?_
        (try simp only [Act.put, List.setIfInBounds_toArray, List.set_cons_zero, List.set_cons_succ])
        refine hand_skip 11 (some 27) (by kernel_rfl) (by kernel_rfl) (by kernel_rfl) (by kernel_rfl) (by kernel_rfl) (fun _ _ _ h => h) (by assumption) ?_
        (try simp only [Act.put, List.setIfInBounds_toArray, List.set_cons_zero, List.set_cons_succ])
        refine hand_skip 12 (some 28) (by kernel_rfl) (by kernel_rfl) (by kernel_rfl) (by kernel_rfl) (by kernel_rfl) (fun _ _ _ h => h) (by assumption) ?_
        (try simp only [Act.put, List.setIfInBounds_toArray, List.set_cons_zero, List.set_cons_succ])
        refine hand_skip 13 (some 29) (by kernel_rfl) (by kernel_rfl) (by kernel_rfl) (by kernel_rfl) (by kernel_rfl) (fun _ _ _ h => h) (by assumption) ?_
        (try simp only [Act.put, List.setIfInBounds_toArray, List.set_cons_zero, List.set_cons_succ])
        refine hand_skip 14 (some 30) (by kernel_rfl) (by kernel_rfl) (by kernel_rfl) (by kernel_rfl) (by kernel_rfl) (fun _ _ _ h => h) (by assumption) ?_
        (try simp only [Act.put, List.setIfInBounds_toArray, List.set_cons_zero, List.set_cons_succ])
        refine hand_skip 15 (some 31) (by kernel_rfl) (by kernel_rfl) (by kernel_rfl) (by kernel_rfl) (by kernel_rfl) (fun _ _ _ h => h) (by assumption) ?_
        (try simp only [Act.put, List.setIfInBounds_toArray, List.set_cons_zero, List.set_cons_succ])
        refine hand_skip 16 (some 32) (by kernel_rfl) (by kernel_rfl) (by kernel_rfl) (by kernel_rfl) (by kernel_rfl) (fun _ _ _ h => h) (by assumption) ?_
        (try simp only [Act.put, List.setIfInBounds_toArray, List.set_cons_zero, List.set_cons_succ])
        refine hand_skip 17 (some 33) (by kernel_rfl) (by kernel_rfl) (by kernel_rfl) (by kernel_rfl) (by kernel_rfl) (fun _ _ _ h => h) (by assumption) ?_
        (try simp only [Act.put, List.setIfInBounds_toArray, List.set_cons_zero, List.set_cons_succ])
        refine hand_take 18 (some 34) ?_ (by kernel_rfl) (by kernel_rfl) (by kernel_rfl) (by kernel_rfl) (by kernel_rfl) (fun _ _ _ h => h) ?_ (by assumption) ?_
        rotate_left
        · (intro o ho w hSw; (simp only [List.getElem?_toArray, List.getElem?_cons_succ, List.getElem?_cons_zero, Option.some.injEq] at ho); subst ho; (try dsimp only at hSw); go_simp; (first | done | with_reducible rfl))
        (try simp only [Act.put, List.setIfInBounds_toArray, List.set_cons_zero, List.set_cons_succ])
        refine wpAnyH_done (by kernel_rfl) ?_ _
        have HB1 := kept (HBW.out hb1)
        clear hb1
        go_wp2
        go_ret
        exact ⟨ret_bool HO.out.symm, HB1.out⟩
      | true =>
        cases k with
        | zero =>
          have HO : Hid (ordU kidOk cmpK I 1 = true) := kept (ordU_first hki hok)
          have HP := fun w => kept (rightKid_any L w true (HRD.out.ok.trans hok))
          clear hok HRD
          obtain ⟨ka, kn, kc, page⟩ := L
          simp only at hc0 hc1 e0 e1
          rw [Nat.zero_mul, Nat.add_zero] at hc0 hc1
          go_wp2
          refine wp_region_held_drew (S := (fun W' => W'.cell? ⟨wr.heap.size, 0, none⟩ = some (.slice ka kn kc) ∧ W'.cell? ⟨wr.heap.size, 1, none⟩ = some (.int .i64 page))) (by kernel_rfl) ?_ (fun hHeld => ?_)
          · ((try dsimp only); (first | exact ⟨e0, e1⟩ | exact HE.out hb1))
          refine hand_take 0 (some 16) ?_ (by kernel_rfl) (by kernel_rfl) (by kernel_rfl) (by kernel_rfl) (by kernel_rfl) (fun _ _ _ h => h) ?_ (by assumption) ?_
          rotate_left
          · (intro o ho w hSw; (simp only [List.getElem?_toArray, List.getElem?_cons_succ, List.getElem?_cons_zero, Option.some.injEq] at ho); subst ho; (try dsimp only at hSw); go_simp; (first | done | with_reducible rfl))
          (try simp only [Act.put, List.setIfInBounds_toArray, List.set_cons_zero, List.set_cons_succ])
          refine hand_take 1 (some 17) ?_ (by kernel_rfl) (by kernel_rfl) (by kernel_rfl) (by kernel_rfl) (by kernel_rfl) (fun _ _ _ h => h) ?_ (by assumption) ?_
          rotate_left
          · (intro o ho w hSw; (simp only [List.getElem?_toArray, List.getElem?_cons_succ, List.getElem?_cons_zero, Option.some.injEq] at ho); subst ho; (try dsimp only at hSw); go_simp; (first | done | with_reducible rfl))
          (try simp only [Act.put, List.setIfInBounds_toArray, List.set_cons_zero, List.set_cons_succ])
          refine hand_ready 2 (by kernel_rfl) (by kernel_rfl) (fun o ho K hK => ?_)
          (simp only [List.getElem?_toArray, List.getElem?_cons_succ, List.getElem?_cons_zero, Option.some.injEq] at ho)
          subst ho
          go_simp
          (go_at_call 76; (with_reducible refine (HP _).out.mono ?_); rintro e w1 ⟨rfl, hb1⟩)
          (try go_wp2_with fail)
          refine hK.out _ _ ?_ (fun hHeld => ?_)
          · ((try dsimp only); (first | exact ⟨e0, e1⟩ | exact HE.out hb1))
          clear hK K
          (try simp only [Act.put, List.setIfInBounds_toArray, List.set_cons_zero, List.set_cons_succ])
          refine hand_take 3 (some 19) ?_ (by kernel_rfl) (by kernel_rfl) (by kernel_rfl) (by kernel_rfl) (by kernel_rfl) (fun _ _ _ h => h) ?_ (by assumption) ?_
          rotate_left
          · (intro o ho w hSw; (simp only [List.getElem?_toArray, List.getElem?_cons_succ, List.getElem?_cons_zero, Option.some.injEq] at ho); subst ho; (try dsimp only at hSw); go_simp; (first | done | with_reducible rfl))
          (try simp only [Act.put, List.setIfInBounds_toArray, List.set_cons_zero, List.set_cons_succ])
          refine hand_take 4 (some 20) ?_ (by kernel_rfl) (by kernel_rfl) (by kernel_rfl) (by kernel_rfl) (by kernel_rfl) (fun _ _ _ h => h) ?_ (by assumption) ?_
          rotate_left
          · (intro o ho w hSw; (simp only [List.getElem?_toArray, List.getElem?_cons_succ, List.getElem?_cons_zero, Option.some.injEq] at ho); subst ho; (try dsimp only at hSw); go_simp; (first | done | with_reducible rfl))
          (try simp only [Act.put, List.setIfInBounds_toArray, List.set_cons_zero, List.set_cons_succ])
          refine hand_take 5 (some 21) ?_ (by kernel_rfl) (by kernel_rfl) (by kernel_rfl) (by kernel_rfl) (by kernel_rfl) (fun _ _ _ h => h) ?_ (by assumption) ?_
          rotate_left
          · (intro o ho w hSw; (simp only [List.getElem?_toArray, List.getElem?_cons_succ, List.getElem?_cons_zero, Option.some.injEq] at ho); subst ho; (try dsimp only at hSw); go_simp; (first | done | with_reducible rfl))
          (try simp only [Act.put, List.setIfInBounds_toArray, List.set_cons_zero, List.set_cons_succ])
          refine hand_take 6 (some 22) ?_ (by kernel_rfl) (by kernel_rfl) (by kernel_rfl) (by kernel_rfl) (by kernel_rfl) (fun _ _ _ h => h) ?_ (by assumption) ?_
          rotate_left
          · (intro o ho w hSw; (simp only [List.getElem?_toArray, List.getElem?_cons_succ, List.getElem?_cons_zero, Option.some.injEq] at ho); subst ho; (try dsimp only at hSw); go_simp; (first | done | with_reducible rfl))
          (try simp only [Act.put, List.setIfInBounds_toArray, List.set_cons_zero, List.set_cons_succ])
          refine hand_take 7 (some 23) ?_ (by kernel_rfl) (by kernel_rfl) (by kernel_rfl) (by kernel_rfl) (by kernel_rfl) (fun _ _ _ h => h) ?_ (by assumption) ?_
          rotate_left
          · (intro o ho w hSw; (simp only [List.getElem?_toArray, List.getElem?_cons_succ, List.getElem?_cons_zero, Option.some.injEq] at ho); subst ho; (try dsimp only at hSw); go_simp; (first | done | with_reducible rfl))
          (try simp only [Act.put, List.setIfInBounds_toArray, List.set_cons_zero, List.set_cons_succ])
          refine hand_skip 8 (some 24) (by kernel_rfl) (by kernel_rfl) (by kernel_rfl) (by kernel_rfl) (by kernel_rfl) (fun _ _ _ h => h) (by assumption) ?_
          (try simp only [Act.put, List.setIfInBounds_toArray, List.set_cons_zero, List.set_cons_succ])
          refine hand_skip 9 (some 25) (by kernel_rfl) (by kernel_rfl) (by kernel_rfl) (by kernel_rfl) (by kernel_rfl) (fun _ _ _ h => h) (by assumption) ?_
          (try simp only [Act.put, List.setIfInBounds_toArray, List.set_cons_zero, List.set_cons_succ])
          refine hand_skip 10 (some 26) (by kernel_rfl) (by kernel_rfl) (by kernel_rfl) (by kernel_rfl) (by kernel_rfl) (fun _ _ _ h => h) (by assumption) ?_
          (try simp only [Act.put, List.setIfInBounds_toArray, List.set_cons_zero, List.set_cons_succ])
          refine hand_skip 11 (some 27) (by kernel_rfl) (by kernel_rfl) (by kernel_rfl) (by kernel_rfl) (by kernel_rfl) (fun _ _ _ h => h) (by assumption) ?_
          (try simp only [Act.put, List.setIfInBounds_toArray, List.set_cons_zero, List.set_cons_succ])
          refine hand_skip 12 (some 28) (by kernel_rfl) (by kernel_rfl) (by kernel_rfl) (by kernel_rfl) (by kernel_rfl) (fun _ _ _ h => h) (by assumption) ?_
          (try simp only [Act.put, List.setIfInBounds_toArray, List.set_cons_zero, List.set_cons_succ])
          refine hand_skip 13 (some 29) (by kernel_rfl) (by kernel_rfl) (by kernel_rfl) (by kernel_rfl) (by kernel_rfl) (fun _ _ _ h => h) (by assumption) ?_
          (try simp only [Act.put, List.setIfInBounds_toArray, List.set_cons_zero, List.set_cons_succ])
          refine hand_skip 14 (some 30) (by kernel_rfl) (by kernel_rfl) (by kernel_rfl) (by kernel_rfl) (by kernel_rfl) (fun _ _ _ h => h) (by assumption) ?_
          (try simp only [Act.put, List.setIfInBounds_toArray, List.set_cons_zero, List.set_cons_succ])
          refine hand_skip 15 (some 31) (by kernel_rfl) (by kernel_rfl) (by kernel_rfl) (by kernel_rfl) (by kernel_rfl) (fun _ _ _ h => h) (by assumption) ?_
          (try simp only [Act.put, List.setIfInBounds_toArray, List.set_cons_zero, List.set_cons_succ])
          refine hand_skip 16 (some 32) (by kernel_rfl) (by kernel_rfl) (by kernel_rfl) (by kernel_rfl) (by kernel_rfl) (fun _ _ _ h => h) (by assumption) ?_
          (try simp only [Act.put, List.setIfInBounds_toArray, List.set_cons_zero, List.set_cons_succ])
          refine hand_take 17 (some 33) ?_ (by kernel_rfl) (by kernel_rfl) (by kernel_rfl) (by kernel_rfl) (by kernel_rfl) (fun _ _ _ h => h) ?_ (by assumption) ?_
          rotate_left
          · (intro o ho w hSw; (simp only [List.getElem?_toArray, List.getElem?_cons_succ, List.getElem?_cons_zero, Option.some.injEq] at ho); subst ho; (try dsimp only at hSw); go_simp; (first | done | with_reducible rfl))
          (try simp only [Act.put, List.setIfInBounds_toArray, List.set_cons_zero, List.set_cons_succ])
          refine hand_take 18 (some 34) ?_ (by kernel_rfl) (by kernel_rfl) (by kernel_rfl) (by kernel_rfl) (by kernel_rfl) (fun _ _ _ h => h) ?_ (by assumption) ?_
          rotate_left
          · (intro o ho w hSw; (simp only [List.getElem?_toArray, List.getElem?_cons_succ, List.getElem?_cons_zero, Option.some.injEq] at ho); subst ho; (try dsimp only at hSw); go_simp; (first | done | with_reducible rfl))
          (try simp only [Act.put, List.setIfInBounds_toArray, List.set_cons_zero, List.set_cons_succ])
          refine wpAnyH_done (by kernel_rfl) ?_ _
          have HB1 := kept (HBW.out hb1)
          clear hb1
          go_wp2
          go_roundw
          case rel => exact ⟨1, by omega, by go_num, HO, HB1⟩
          case measure => simp [intOf]; omega
        | succ k =>
          obtain ⟨b', o', M, e, hrm, g0, g1⟩ := (HR.out.below HW.out).at_ (k := k) (by omega)
          simp only [Option.some.injEq, Addr.mk.injEq, and_true] at e
          obtain ⟨rfl, rfl⟩ := e
          have HP := fun w => kept (rightKid_any L w true (HRD.out.ok.trans hok))
          have HRL : Hid (∀ {w' : World}, Below (wr.alloc (.cells #[.slice L.ka L.kn L.kc, .int .i64 L.page] 69)).drew.heap.size (wr.alloc (.cells #[.slice L.ka L.kn L.kc, .int .i64 L.page] 69)).drew w' → Rd w' L.ka L.kn (I[k + 1]'hki).key ∧ Rd w' M.ka M.kn (I[k]'(by omega)).key ∧ w'.cell? ⟨b, o + k * 2, none⟩ = some (.slice M.ka M.kn M.kc) ∧ w'.cell? ⟨b, o + k * 2 + 1, none⟩ = some (.int .i64 M.page)) := kept (fun h => by
            have hb := below_to (below_of_drew1 h) HB0.out
            exact ⟨HRD.out.1.below hb, hrm.1.below hb, cell_below hb g0, cell_below hb g1⟩)
          have q0 := (HRL.out (Below.refl _ _)).2.2.1
          have q1 := (HRL.out (Below.refl _ _)).2.2.2
          have hcmp : ordB (I[k]'(by omega)).key (I[k + 1]'hki).key = cmpK (I[k]'(by omega)) (I[k + 1]'hki) := rfl
          have HKB := kept hki
          by_cases hcm : cmpK (I[k]'(by omega)) (I[k + 1]'hki) < 0
          all_goals
            first
            | have HO : Hid (ordU kidOk cmpK I (k + 1 + 1) = true) := kept (ordU_next hki HU.out hok hcm)
            | have HO : Hid (ordU kidOk cmpK I n = false) := kept (ordU_back hki hlt (by omega))
            clear hok
            generalize (I[k + 1]'hki).key = x at HRL hcmp
            generalize (I[k]'(by omega)).key = y at HRL hcmp
            generalize cmpK (I[k]'(by omega)) (I[k + 1]'hki) = m at hcm hcmp
            have HCM := fun {w' : World} h => kept (cmpKid_any M L y x w' (HRL.out h).2.1 (HRL.out h).1 m hcmp)
            clear HRD hrm
            obtain ⟨ka, kn, kc, page⟩ := L
            obtain ⟨ka', kn', kc', page'⟩ := M
            simp only at hc0 hc1 e0 e1 g0 g1 q0 q1
            have hi1 : (0 : Int) ≤ (k : Int) + 1 - 1 := by omega
            have hi2 : (k : Int) + 1 - 1 < (n : Int) := by omega
            first
            | have hd : decide (0 ≤ m) = false := by rw [decide_eq_false]; omega
            | have hd : decide (0 ≤ m) = true := by rw [decide_eq_true]; omega
            clear hcm hcmp
            have hi3 : (k : Int) < (n : Int) := by omega
            have hi4 : IntKind.i64.wrap (k : Int) = (k : Int) := IntWalk.i64_in _ ⟨by omega, by omega⟩
            go_wp2
            refine wp_region_held_drew (S := (fun W' => (W'.cell? ⟨wr.heap.size, 0, none⟩ = some (.slice ka kn kc) ∧ W'.cell? ⟨wr.heap.size, 1, none⟩ = some (.int .i64 page)) ∧ W'.cell? ⟨b, o + k * 2, none⟩ = some (.slice ka' kn' kc') ∧ W'.cell? ⟨b, o + k * 2 + 1, none⟩ = some (.int .i64 page'))) (by kernel_rfl) ?_ (fun hHeld => ?_)
            · ((try dsimp only); (first | exact ⟨⟨e0, e1⟩, q0, q1⟩ | exact ⟨HE.out hb2, (HRL.out hb2).2.2⟩ | exact ⟨HE.out hb1, (HRL.out hb1).2.2⟩))
            refine hand_take 0 (some 16) ?_ (by kernel_rfl) (by kernel_rfl) (by kernel_rfl) (by kernel_rfl) (by kernel_rfl) (fun _ _ _ h => h) ?_ (by assumption) ?_
            rotate_left
            · (intro o ho w hSw; (simp only [List.getElem?_toArray, List.getElem?_cons_succ, List.getElem?_cons_zero, Option.some.injEq] at ho); subst ho; (try dsimp only at hSw); go_simp; (first | done | with_reducible rfl))
            (try simp only [Act.put, List.setIfInBounds_toArray, List.set_cons_zero, List.set_cons_succ])
            refine hand_take 1 (some 17) ?_ (by kernel_rfl) (by kernel_rfl) (by kernel_rfl) (by kernel_rfl) (by kernel_rfl) (fun _ _ _ h => h) ?_ (by assumption) ?_
            rotate_left
            · (intro o ho w hSw; (simp only [List.getElem?_toArray, List.getElem?_cons_succ, List.getElem?_cons_zero, Option.some.injEq] at ho); subst ho; (try dsimp only at hSw); go_simp; (first | done | with_reducible rfl))
            (try simp only [Act.put, List.setIfInBounds_toArray, List.set_cons_zero, List.set_cons_succ])
            refine hand_ready 2 (by kernel_rfl) (by kernel_rfl) (fun o ho K hK => ?_)
            (simp only [List.getElem?_toArray, List.getElem?_cons_succ, List.getElem?_cons_zero, Option.some.injEq] at ho)
            subst ho
            go_simp
            (go_at_call 76; (with_reducible refine (HP _).out.mono ?_); rintro e w1 ⟨rfl, hb1⟩)
            (try go_wp2_with fail)
            refine hK.out _ _ ?_ (fun hHeld => ?_)
            · ((try dsimp only); (first | exact ⟨⟨e0, e1⟩, q0, q1⟩ | exact ⟨HE.out hb2, (HRL.out hb2).2.2⟩ | exact ⟨HE.out hb1, (HRL.out hb1).2.2⟩))
            clear hK K
            (try simp only [Act.put, List.setIfInBounds_toArray, List.set_cons_zero, List.set_cons_succ])
            refine hand_take 3 (some 19) ?_ (by kernel_rfl) (by kernel_rfl) (by kernel_rfl) (by kernel_rfl) (by kernel_rfl) (fun _ _ _ h => h) ?_ (by assumption) ?_
            rotate_left
            · (intro o ho w hSw; (simp only [List.getElem?_toArray, List.getElem?_cons_succ, List.getElem?_cons_zero, Option.some.injEq] at ho); subst ho; (try dsimp only at hSw); go_simp; (first | done | with_reducible rfl))
            (try simp only [Act.put, List.setIfInBounds_toArray, List.set_cons_zero, List.set_cons_succ])
            refine hand_take 4 (some 20) ?_ (by kernel_rfl) (by kernel_rfl) (by kernel_rfl) (by kernel_rfl) (by kernel_rfl) (fun _ _ _ h => h) ?_ (by assumption) ?_
            rotate_left
            · (intro o ho w hSw; (simp only [List.getElem?_toArray, List.getElem?_cons_succ, List.getElem?_cons_zero, Option.some.injEq] at ho); subst ho; (try dsimp only at hSw); go_simp; (first | done | with_reducible rfl))
            (try simp only [Act.put, List.setIfInBounds_toArray, List.set_cons_zero, List.set_cons_succ])
            refine hand_take 5 (some 21) ?_ (by kernel_rfl) (by kernel_rfl) (by kernel_rfl) (by kernel_rfl) (by kernel_rfl) (fun _ _ _ h => h) ?_ (by assumption) ?_
            rotate_left
            · (intro o ho w hSw; (simp only [List.getElem?_toArray, List.getElem?_cons_succ, List.getElem?_cons_zero, Option.some.injEq] at ho); subst ho; (try dsimp only at hSw); go_simp; (first | done | with_reducible rfl))
            (try simp only [Act.put, List.setIfInBounds_toArray, List.set_cons_zero, List.set_cons_succ])
            refine hand_take 6 (some 22) ?_ (by kernel_rfl) (by kernel_rfl) (by kernel_rfl) (by kernel_rfl) (by kernel_rfl) (fun _ _ _ h => h) ?_ (by assumption) ?_
            rotate_left
            · (intro o ho w hSw; (simp only [List.getElem?_toArray, List.getElem?_cons_succ, List.getElem?_cons_zero, Option.some.injEq] at ho); subst ho; (try dsimp only at hSw); go_simp; (first | done | with_reducible rfl))
            (try simp only [Act.put, List.setIfInBounds_toArray, List.set_cons_zero, List.set_cons_succ])
            refine hand_take 7 (some 23) ?_ (by kernel_rfl) (by kernel_rfl) (by kernel_rfl) (by kernel_rfl) (by kernel_rfl) (fun _ _ _ h => h) ?_ (by assumption) ?_
            rotate_left
            · (intro o ho w hSw; (simp only [List.getElem?_toArray, List.getElem?_cons_succ, List.getElem?_cons_zero, Option.some.injEq] at ho); subst ho; (try dsimp only at hSw); go_simp; (first | done | with_reducible rfl))
            (try simp only [Act.put, List.setIfInBounds_toArray, List.set_cons_zero, List.set_cons_succ])
            refine hand_take 8 (some 24) ?_ (by kernel_rfl) (by kernel_rfl) (by kernel_rfl) (by kernel_rfl) (by kernel_rfl) (fun _ _ _ h => h) ?_ (by assumption) ?_
            rotate_left
            · (intro o ho w hSw; (simp only [List.getElem?_toArray, List.getElem?_cons_succ, List.getElem?_cons_zero, Option.some.injEq] at ho); subst ho; (try dsimp only at hSw); go_simp; (first | done | with_reducible rfl))
            (try simp only [Act.put, List.setIfInBounds_toArray, List.set_cons_zero, List.set_cons_succ])
            refine hand_take 9 (some 25) ?_ (by kernel_rfl) (by kernel_rfl) (by kernel_rfl) (by kernel_rfl) (by kernel_rfl) (fun _ _ _ h => h) ?_ (by assumption) ?_
            rotate_left
            · (intro o ho w hSw; (simp only [List.getElem?_toArray, List.getElem?_cons_succ, List.getElem?_cons_zero, Option.some.injEq] at ho); subst ho; (try dsimp only at hSw); go_simp; (first | done | with_reducible rfl))
            (try simp only [Act.put, List.setIfInBounds_toArray, List.set_cons_zero, List.set_cons_succ])
            refine hand_take 10 (some 26) ?_ (by kernel_rfl) (by kernel_rfl) (by kernel_rfl) (by kernel_rfl) (by kernel_rfl) (fun _ _ _ h => h) ?_ (by assumption) ?_
            rotate_left
            · (intro o ho w hSw; (simp only [List.getElem?_toArray, List.getElem?_cons_succ, List.getElem?_cons_zero, Option.some.injEq] at ho); subst ho; (try dsimp only at hSw); go_simp; (first | done | with_reducible rfl))
            (try simp only [Act.put, List.setIfInBounds_toArray, List.set_cons_zero, List.set_cons_succ])
            refine hand_take 11 (some 27) ?_ (by kernel_rfl) (by kernel_rfl) (by kernel_rfl) (by kernel_rfl) (by kernel_rfl) (fun _ _ _ h => h) ?_ (by assumption) ?_
            rotate_left
            · (intro o ho w hSw; (simp only [List.getElem?_toArray, List.getElem?_cons_succ, List.getElem?_cons_zero, Option.some.injEq] at ho); subst ho; (try dsimp only at hSw); go_simp; (first | done | with_reducible rfl))
            (try simp only [Act.put, List.setIfInBounds_toArray, List.set_cons_zero, List.set_cons_succ])
            refine hand_take 12 (some 28) ?_ (by kernel_rfl) (by kernel_rfl) (by kernel_rfl) (by kernel_rfl) (by kernel_rfl) (fun _ _ _ h => h) ?_ (by assumption) ?_
            rotate_left
            · (intro o ho w hSw; (simp only [List.getElem?_toArray, List.getElem?_cons_succ, List.getElem?_cons_zero, Option.some.injEq] at ho); subst ho; (try dsimp only at hSw); go_simp; (first | done | with_reducible rfl))
            (try simp only [Act.put, List.setIfInBounds_toArray, List.set_cons_zero, List.set_cons_succ])
            refine hand_take 13 (some 29) ?_ (by kernel_rfl) (by kernel_rfl) (by kernel_rfl) (by kernel_rfl) (by kernel_rfl) (fun _ _ _ h => h) ?_ (by assumption) ?_
            rotate_left
            · (intro o ho w hSw; (simp only [List.getElem?_toArray, List.getElem?_cons_succ, List.getElem?_cons_zero, Option.some.injEq] at ho); subst ho; (try dsimp only at hSw); go_simp; (first | done | with_reducible rfl))
            (try simp only [Act.put, List.setIfInBounds_toArray, List.set_cons_zero, List.set_cons_succ])
            refine hand_take 14 (some 30) ?_ (by kernel_rfl) (by kernel_rfl) (by kernel_rfl) (by kernel_rfl) (by kernel_rfl) (fun _ _ _ h => h) ?_ (by assumption) ?_
            rotate_left
            · (intro o ho w hSw; (simp only [List.getElem?_toArray, List.getElem?_cons_succ, List.getElem?_cons_zero, Option.some.injEq] at ho); subst ho; (try dsimp only at hSw); go_simp; (first | done | with_reducible rfl))
            (try simp only [Act.put, List.setIfInBounds_toArray, List.set_cons_zero, List.set_cons_succ])
            refine hand_ready 15 (by kernel_rfl) (by kernel_rfl) (fun o ho K hK => ?_)
            (simp only [List.getElem?_toArray, List.getElem?_cons_succ, List.getElem?_cons_zero, Option.some.injEq] at ho)
            subst ho
            go_simp
            (go_at_call 77; (with_reducible refine (HCM hb1).out.mono ?_); rintro e w2 ⟨rfl, hb2'⟩; have hb2 := below_to hb2' hb1)
            (try go_wp2_with fail)
            refine hK.out _ _ ?_ (fun hHeld => ?_)
            · ((try dsimp only); (first | exact ⟨⟨e0, e1⟩, q0, q1⟩ | exact ⟨HE.out hb2, (HRL.out hb2).2.2⟩ | exact ⟨HE.out hb1, (HRL.out hb1).2.2⟩))
            clear hK K
            (try simp only [Act.put, List.setIfInBounds_toArray, List.set_cons_zero, List.set_cons_succ])
            refine hand_take 16 (some 32) ?_ (by kernel_rfl) (by kernel_rfl) (by kernel_rfl) (by kernel_rfl) (by kernel_rfl) (fun _ _ _ h => h) ?_ (by assumption) ?_
            rotate_left
            · (intro o ho w hSw; (simp only [List.getElem?_toArray, List.getElem?_cons_succ, List.getElem?_cons_zero, Option.some.injEq] at ho); subst ho; (try dsimp only at hSw); go_simp; (first | done | with_reducible rfl))
            (try simp only [Act.put, List.setIfInBounds_toArray, List.set_cons_zero, List.set_cons_succ])
            refine hand_take 17 (some 33) ?_ (by kernel_rfl) (by kernel_rfl) (by kernel_rfl) (by kernel_rfl) (by kernel_rfl) (fun _ _ _ h => h) ?_ (by assumption) ?_
            rotate_left
            · (intro o ho w hSw; (simp only [List.getElem?_toArray, List.getElem?_cons_succ, List.getElem?_cons_zero, Option.some.injEq] at ho); subst ho; (try dsimp only at hSw); go_simp; (first | done | with_reducible rfl))
            (try simp only [Act.put, List.setIfInBounds_toArray, List.set_cons_zero, List.set_cons_succ])
            refine hand_take 18 (some 34) ?_ (by kernel_rfl) (by kernel_rfl) (by kernel_rfl) (by kernel_rfl) (by kernel_rfl) (fun _ _ _ h => h) ?_ (by assumption) ?_
            rotate_left
            · (intro o ho w hSw; (simp only [List.getElem?_toArray, List.getElem?_cons_succ, List.getElem?_cons_zero, Option.some.injEq] at ho); subst ho; (try dsimp only at hSw); go_simp; (first | done | with_reducible rfl))
            (try simp only [Act.put, List.setIfInBounds_toArray, List.set_cons_zero, List.set_cons_succ])
            refine wpAnyH_done (by kernel_rfl) ?_ _
            have HB2 := kept (HBW.out hb2)
            go_wp2
            clear hi4
            first
            | (go_ret; exact ⟨ret_bool HO.out.symm, HB2.out⟩)
            | (go_roundw
               case rel => exact ⟨k + 1 + 1, by omega, by go_num, HO, HB2⟩
               case measure => simp [intOf]; omega)
    · obtain rfl : k = n := by omega
      go_wp2
      go_ret
      exact ⟨ret_bool HU.out.symm, HW.out⟩
end Go.Proofs.YtfgpkgenahlikaaDoor
