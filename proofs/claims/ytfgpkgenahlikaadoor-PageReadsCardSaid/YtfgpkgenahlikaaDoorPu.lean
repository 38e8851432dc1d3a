/-
  page.Used, page.rightThings and page.Right.
-/
import Derived.Test.YtfgpkgenahlikaaDoorPi
namespace Go.Proofs.YtfgpkgenahlikaaDoor
open Go.ChangeShapes Go.WideShapes Go.ChangeAt Go.RowKit
set_option linter.unusedVariables false
set_option linter.unusedSimpArgs false

/-- The sum over the first k. -/
def sumTo {α : Type} (f : α → Nat) (I : List α) (k : Nat) : Nat := ((I.take k).map f).sum
section
variable {α : Type} {f : α → Nat} {I : List α}
theorem sumTo_zero : sumTo f I 0 = 0 := rfl
theorem sumTo_succ {k : Nat} (h : k < I.length) : sumTo f I (k + 1) = sumTo f I k + f I[k] := by
  unfold sumTo
  rw [List.take_succ_eq_append_getElem h]
  simp only [List.map_append, List.map_cons, List.map_nil, List.sum_append, List.sum_cons, List.sum_nil, Nat.add_zero]
theorem sumTo_all : sumTo f I I.length = (I.map f).sum := by unfold sumTo; rw [List.take_length]
theorem sumTo_le (k : Nat) : sumTo f I k ≤ (I.map f).sum := by
  unfold sumTo
  conv => rhs; rw [← List.take_append_drop k I]
  rw [List.map_append, List.sum_append]
  exact Nat.le_add_right _ _
end
set_option maxRecDepth 100000 in
set_option maxHeartbeats 1000000 in
theorem used_any (l : Lay) (P : Pg) (w : World) (h : RdPg w l P) (hu : usedN P ≤ 72057594037927936) :
    Calls Tryd.prog 43 #[l.val] w fun e w' => e = .returned (.int .i64 (usedN P : Nat)) ∧ Below w.heap.size w w' := by
  have HI := kept h.items
  have HK := kept h.kids
  have HL1 := kept h.n1
  have HL2 := kept h.n2
  have h3 := h.n3
  have h4 := h.n4
  have b1 := h.b1
  have b2 := h.b2
  have b3 := h.b3
  have b4 := h.b4
  obtain ⟨I, hI⟩ : ∃ I, P.items = I := ⟨_, rfl⟩
  obtain ⟨J, hJ⟩ : ∃ J, P.kids = J := ⟨_, rfl⟩
  have hU : usedN P = P.data.length + P.ids.length * 4 + (I.map itemUse).sum + (J.map kidUse).sum := by rw [← hI, ← hJ]; rfl
  rw [hI] at HI HL1
  rw [hJ] at HK HL2
  rw [h3, h4] at hU
  have s1 := fun k => sumTo_le (f := itemUse) (I := I) k
  have s2 := fun k => sumTo_le (f := kidUse) (I := J) k
  have e1 := sumTo_all (f := itemUse) (I := I)
  have e2 := sumTo_all (f := kidUse) (I := J)
  rw [HL1.out] at e1
  rw [HL2.out] at e2
  generalize (I.map itemUse).sum = si at hU s1 e1
  generalize (J.map kidUse).sum = sk at hU s2 e2
  generalize usedN P = u at hu hU
  obtain ⟨kind, txn, next, a1, n1, c1, a2, n2, c2, a3, n3, c3, a4, n4, c4⟩ := l
  simp only at HI HK HL1 HL2 b1 b2 b3 b4 hU e1 e2
  clear h h3 h4 hI hJ
  have HU := kept hU
  have HE1 := kept e1
  have HE2 := kept e2
  have HS1 := kept s1
  have HS2 := kept s2
  have hsi : n3 + n4 * 4 + si + sk ≤ 72057594037927936 := by omega
  clear hU e1 e2 s1 s2 hu
  have HB0 : Hid (Below w.heap.size w (w.alloc (.cells #[.int .i64 kind, .int .u64 txn, .int .i64 next, .slice a1 n1 c1, .slice a2 n2 c2, .slice a3 n3 c3, .slice a4 n4 c4] 28))) := kept ((Below.refl _ _).alloc (Nat.le_refl _) _)
  have HC4 : Hid ((w.alloc (.cells #[.int .i64 kind, .int .u64 txn, .int .i64 next, .slice a1 n1 c1, .slice a2 n2 c2, .slice a3 n3 c3, .slice a4 n4 c4] 28)).cell? ⟨w.heap.size, 4, none⟩ = some (.slice a2 n2 c2)) := kept (by rw [cell_of_row _ w.heap.size 4 _ _ _ (heap_alloc_new w _)]; rfl)
  go_enter Tryd.func43, Tryd.ntmps43
  go_wp2
  go_loopw [3, 19] (fun s i wr => ∃ k : Nat, k ≤ n1 ∧ i = .int .i64 k ∧ s = .int .i64 ((n3 + n4 * 4 + sumTo itemUse I k : Nat) : Int) ∧ Hid (Below (w.alloc (.cells #[.int .i64 kind, .int .u64 txn, .int .i64 next, .slice a1 n1 c1, .slice a2 n2 c2, .slice a3 n3 c3, .slice a4 n4 c4] 28)).heap.size (w.alloc (.cells #[.int .i64 kind, .int .u64 txn, .int .i64 next, .slice a1 n1 c1, .slice a2 n2 c2, .slice a3 n3 c3, .slice a4 n4 c4] 28)) wr)) (fun _ i _ => n1 - (intOf i).toNat)
  case atStart => exact ⟨0, by omega, rfl, by rw [sumTo_zero]; simp, Below.refl _ _⟩
  case round =>
    obtain ⟨k, hk, rfl, rfl, HW⟩ := hrel
    by_cases hlt : k < n1
    · have HBA : Hid (∀ o, Below (w.alloc (.cells #[.int .i64 kind, .int .u64 txn, .int .i64 next, .slice a1 n1 c1, .slice a2 n2 c2, .slice a3 n3 c3, .slice a4 n4 c4] 28)).heap.size (w.alloc (.cells #[.int .i64 kind, .int .u64 txn, .int .i64 next, .slice a1 n1 c1, .slice a2 n2 c2, .slice a3 n3 c3, .slice a4 n4 c4] 28)) (wr.alloc o)) := kept (fun o => HW.out.alloc HW.out.size o)
      obtain ⟨b, o, L, rfl, hrd, hc0, hc1, hc2, hc3⟩ := ((HI.out.below HB0.out).below HW.out).at_ hlt
      have hki : k < I.length := by rw [HL1.out]; exact hlt
      have hss := sumTo_succ (f := itemUse) hki
      have hle := HS1.out (k + 1)
      have hit : itemUse (I[k]'hki) = 3 + L.kn + (if L.size ≤ 64 then L.vn else 4) := by unfold itemUse; rw [hrd.1.1, hrd.2.1.1, hrd.2.2.1]
      have HIS := fun w => kept (itemSize_any L w (itemUse (I[k]'hki)) hrd.2.2.2.2.1 hrd.2.2.2.2.2 hit.symm)
      generalize itemUse (I[k]'hki) = iu at hss HIS
      have HSS := kept hss
      have hbd : n3 + n4 * 4 + (sumTo itemUse I k + iu) + sk ≤ 72057594037927936 := by omega
      clear hrd hit hss hle
      obtain ⟨ka, kn, kc, va, vn, vc, size, more⟩ := L
      simp only at hc0 hc1 hc2 hc3
      generalize sumTo itemUse I k = sm at HSS hbd
      go_wp2_with (first | (go_at_call 80; (with_reducible refine ((HIS _).out).mono ?_); rintro e w1 ⟨rfl, hb1⟩; have HB1 := kept (below_to hb1 (HBA.out _)); clear hb1))
      go_roundw
      case rel => exact ⟨k + 1, by omega, by go_num, by rw [HSS.out]; go_num, HB1⟩
      case measure => simp [intOf]; omega
    · obtain rfl : k = n1 := by omega
      have hc4 := cell_below HW.out HC4.out
      have HWK := kept (HK.out.below (below_to HW.out HB0.out))
      have HSE := HE1.out
      generalize sumTo itemUse I k = sm at HSE
      subst HSE
      go_wp2
      go_loopw [3, 31] (fun s i wx => ∃ j : Nat, j ≤ n2 ∧ i = .int .i64 j ∧ s = .int .i64 ((n3 + n4 * 4 + sm + sumTo kidUse J j : Nat) : Int) ∧ Hid (Below wr.heap.size wr wx)) (fun _ i _ => n2 - (intOf i).toNat)
      case atStart => exact ⟨0, by omega, rfl, by rw [sumTo_zero]; simp, Below.refl _ _⟩
      case round =>
        obtain ⟨j, hj, rfl, rfl, HX⟩ := hrel
        rename World => wx
        by_cases hlt : j < n2
        · obtain ⟨b, o, L, rfl, hrd, hg0, hg1⟩ := (HWK.out.below HX.out).at_ hlt
          have hki : j < J.length := by rw [HL2.out]; exact hlt
          have hss := sumTo_succ (f := kidUse) hki
          have hle := HS2.out (j + 1)
          have hit : kidUse (J[j]'hki) = 5 + L.kn := by unfold kidUse; rw [hrd.1.1]
          have hkn := hrd.2.2
          rw [hit] at hss
          have HSS := kept hss
          have HBA : Hid (∀ o, Below wr.heap.size wr (wx.alloc o)) := kept (fun o => HX.out.alloc HX.out.size o)
          obtain ⟨ka, kn, kc, page⟩ := L
          simp only at hg0 hg1 hkn hss HSS
          have hbd : n3 + n4 * 4 + sm + (sumTo kidUse J j + (5 + kn)) ≤ 72057594037927936 := by omega
          clear hrd hit hss hle
          generalize sumTo kidUse J j = sj at HSS hbd
          go_wp2
          go_roundw
          case rel => exact ⟨j + 1, by omega, by go_num, by rw [HSS.out]; go_num, HBA.out _⟩
          case measure => simp [intOf]; omega
        · obtain rfl : j = n2 := by omega
          have HSE2 := kept HE2.out
          generalize sumTo kidUse J j = sj at HSE2
          go_wp2
          go_ret
          exact ⟨ret_num (by rw [HU.out, HSE2.out]), below_to HX.out (below_to HW.out HB0.out)⟩
theorem rightThings_any (l : Lay) (P : Pg) (w : World) (h : RdPg w l P) :
    Calls Tryd.prog 42 #[l.val] w fun e w' => e = .returned (.bool (thingsB P)) ∧ Below w.heap.size w w' := by
  have HI := fun {X : World} (hb : Below w.heap.size w X) => kept (inOrderI_any l.a1 l.n1 l.c1 P.items X (h.items.below hb) h.b1)
  have HK := fun {X : World} (hb : Below w.heap.size w X) => kept (inOrderK_any l.a2 l.n2 l.c2 P.kids X (h.kids.below hb) h.b2)
  have HN := fun {X : World} (hb : Below w.heap.size w X) => kept (inOrderN_any l.a4 l.n4 l.c4 P.ids X (h.ids.below hb) h.b4)
  have HT : Hid (thingsB P = (ordU itemOk cmpI P.items l.n1 && ordU kidOk cmpK P.kids l.n2 && ordU isPg cmpN P.ids l.n4)) := by show _ = _; rw [← h.n1, ← h.n2, ← h.n4]; rfl
  generalize thingsB P = o at HT
  generalize ordU itemOk cmpI P.items l.n1 = x1 at HT HI
  generalize ordU kidOk cmpK P.kids l.n2 = x2 at HT HK
  generalize ordU isPg cmpN P.ids l.n4 = x3 at HT HN
  clear h
  obtain ⟨kind, txn, next, a1, n1, c1, a2, n2, c2, a3, n3, c3, a4, n4, c4⟩ := l
  have hb0 : Below w.heap.size w (w.alloc (.cells #[.int .i64 kind, .int .u64 txn, .int .i64 next, .slice a1 n1 c1, .slice a2 n2 c2, .slice a3 n3 c3, .slice a4 n4 c4] 28)) := (Below.refl _ _).alloc (Nat.le_refl _) _
  have HC4 : Hid ((w.alloc (.cells #[.int .i64 kind, .int .u64 txn, .int .i64 next, .slice a1 n1 c1, .slice a2 n2 c2, .slice a3 n3 c3, .slice a4 n4 c4] 28)).cell? ⟨w.heap.size, 4, none⟩ = some (.slice a2 n2 c2) ∧ (w.alloc (.cells #[.int .i64 kind, .int .u64 txn, .int .i64 next, .slice a1 n1 c1, .slice a2 n2 c2, .slice a3 n3 c3, .slice a4 n4 c4] 28)).cell? ⟨w.heap.size, 6, none⟩ = some (.slice a4 n4 c4)) := kept ⟨by rw [cell_of_row _ w.heap.size 4 _ _ _ (heap_alloc_new w _)]; rfl, by rw [cell_of_row _ w.heap.size 6 _ _ _ (heap_alloc_new w _)]; rfl⟩
  simp only at HI HK HN
  cases x1
  · go_enter Tryd.func42, Tryd.ntmps42
    go_wp2_with (first | (go_at_call 71; (with_reducible refine ((HI hb0).out).mono ?_); rintro e w1 ⟨rfl, hb1⟩; have HB1 := kept (below_to hb1 hb0); clear hb1))
    go_ret
    exact ⟨ret_bool (by rw [HT.out]; rfl), HB1.out⟩
  · cases x2
    · go_enter Tryd.func42, Tryd.ntmps42
      go_wp2_with (first | (go_at_call 71; (with_reducible refine ((HI hb0).out).mono ?_); rintro e w1 ⟨rfl, hb1⟩; have hc1 := cell_below hb1 HC4.out.1; have hB1 := below_to hb1 hb0; clear hb1) | (go_at_call 75; (with_reducible refine ((HK hB1).out).mono ?_); rintro e w2 ⟨rfl, hb2⟩; have HB2 := kept (below_to hb2 hB1); clear hb2))
      go_ret
      exact ⟨ret_bool (by rw [HT.out]; rfl), HB2.out⟩
    · go_enter Tryd.func42, Tryd.ntmps42
      go_wp2_with (first | (go_at_call 71; (with_reducible refine ((HI hb0).out).mono ?_); rintro e w1 ⟨rfl, hb1⟩; have hc1 := cell_below hb1 HC4.out.1; have hc2 := cell_below hb1 HC4.out.2; have hB1 := below_to hb1 hb0; clear hb1) | (go_at_call 75; (with_reducible refine ((HK hB1).out).mono ?_); rintro e w2 ⟨rfl, hb2⟩; have hc3 := cell_below hb2 hc2; have hB2 := below_to hb2 hB1; clear hb2) | (go_at_call 78; (with_reducible refine ((HN hB2).out).mono ?_); rintro e w3 ⟨rfl, rfl⟩))
      go_ret
      exact ⟨ret_bool (by rw [HT.out]; cases x3 <;> rfl), hB2⟩

/-! ### Right -/
theorem ordU_all {α : Type} {ok : α → Bool} {cmp : α → α → Int} {I : List α} (h : ordU ok cmp I I.length = true) : ∀ x ∈ I, ok x = true := by
  intro x hx
  obtain ⟨i, hi, rfl⟩ := List.getElem_of_mem hx
  unfold ordU at h
  rw [List.all_eq_true] at h
  have := h i (by simpa using hi)
  rw [List.getElem?_eq_getElem hi] at this
  simp only [Bool.and_eq_true] at this
  exact this.1
theorem sum_le_mul {α : Type} {f : α → Nat} {m : Nat} : ∀ {I : List α}, (∀ x ∈ I, f x ≤ m) → (I.map f).sum ≤ m * I.length
  | [], _ => by simp
  | x :: r, h => by
    have h1 := h x (by simp)
    have h2 := sum_le_mul (f := f) (m := m) (I := r) (fun y hy => h y (by simp [hy]))
    simp only [List.map_cons, List.sum_cons, List.length_cons, Nat.mul_add]
    omega
theorem itemUse_le {x : Itm} (h : itemOk x = true) : itemUse x ≤ 99 := by
  unfold itemOk at h
  unfold itemUse
  simp only [Bool.and_eq_true, decide_eq_true_eq] at h
  obtain ⟨⟨⟨h1, h2⟩, h3⟩, h4⟩ := h
  split
  · rename_i hs
    rw [if_pos hs] at h4
    simp only [Bool.and_eq_true, decide_eq_true_eq] at h4
    omega
  · omega
theorem kidUse_le {x : Kd} (h : kidOk x = true) : kidUse x ≤ 37 := by
  unfold kidOk at h
  unfold kidUse
  simp only [Bool.and_eq_true, decide_eq_true_eq] at h
  omega
theorem things_used {P : Pg} (h : thingsB P = true) : usedN P ≤ P.data.length + P.ids.length * 4 + 99 * P.items.length + 37 * P.kids.length := by
  unfold thingsB at h
  simp only [Bool.and_eq_true] at h
  have h1 := sum_le_mul (f := itemUse) (fun x hx => itemUse_le (ordU_all h.1.1 x hx))
  have h2 := sum_le_mul (f := kidUse) (fun x hx => kidUse_le (ordU_all h.1.2 x hx))
  unfold usedN
  omega
theorem nextB_eq {w : World} {l : Lay} {P : Pg} (h : RdPg w l P) : (decide (l.next = 0) || (decide (l.kind ≠ 1) && decide (l.kind ≠ 2) && isPg l.next)) = nextB P := by
  unfold nextB
  rw [h.kind, h.next]
set_option maxRecDepth 100000 in
theorem right_any (l : Lay) (P : Pg) (w : World) (h : RdPg w l P) :
    Calls Tryd.prog 16 #[l.val] w fun e w' => e = .returned (.bool (rightB P)) ∧ Below w.heap.size w w' := by
  have H1 := fun X => kept (hasItsOwn_any l X h.b1 h.b2 h.b3 h.b4)
  have H2 := fun X => kept (rightNext_any l X _ (nextB_eq h))
  have H3 := fun {X : World} (hb : Below w.heap.size w X) => kept (rightThings_any l P X (h.below hb))
  have H4 := fun {X : World} (hb : Below w.heap.size w X) (hT : thingsB P = true) => kept (used_any l P X (h.below hb) (by have := things_used hT; rw [h.n1, h.n2, h.n3, h.n4] at this; have h1 := h.b1; have h2 := h.b2; have h3 := h.b3; have h4 := h.b4; omega))
  have HU : Hid (thingsB P = true → usedN P ≤ 72057594037927936) := kept (fun hT => by have := things_used hT; rw [h.n1, h.n2, h.n3, h.n4] at this; have h1 := h.b1; have h2 := h.b2; have h3 := h.b3; have h4 := h.b4; omega)
  rw [ownL_eq h] at H1
  have HR : Hid (rightB P = (ownB P && nextB P && thingsB P && decide (usedN P ≤ 237))) := rfl
  generalize rightB P = o at HR
  generalize ownB P = x1 at HR H1
  generalize nextB P = x2 at HR H2
  generalize thingsB P = x3 at HR H3 H4 HU
  generalize usedN P = u at HR H4 HU
  clear h
  obtain ⟨kind, txn, next, a1, n1, c1, a2, n2, c2, a3, n3, c3, a4, n4, c4⟩ := l
  have hb0 : Below w.heap.size w (w.alloc (.cells #[.int .i64 kind, .int .u64 txn, .int .i64 next, .slice a1 n1 c1, .slice a2 n2 c2, .slice a3 n3 c3, .slice a4 n4 c4] 28)) := (Below.refl _ _).alloc (Nat.le_refl _) _
  have HS : Hid (∀ {X : World}, Below (w.alloc (.cells #[.int .i64 kind, .int .u64 txn, .int .i64 next, .slice a1 n1 c1, .slice a2 n2 c2, .slice a3 n3 c3, .slice a4 n4 c4] 28)).heap.size (w.alloc (.cells #[.int .i64 kind, .int .u64 txn, .int .i64 next, .slice a1 n1 c1, .slice a2 n2 c2, .slice a3 n3 c3, .slice a4 n4 c4] 28)) X → Sev X w.heap.size kind txn next a1 n1 c1 a2 n2 c2 a3 n3 c3 a4 n4 c4) := kept (sev_box w kind txn next a1 n1 c1 a2 n2 c2 a3 n3 c3 a4 n4 c4)
  cases x1
  · go_enter Tryd.func16, Tryd.ntmps16
    go_wp2_with (first | (go_at_call 40; (with_reducible refine ((H1 _).out).mono ?_); rintro e w1 ⟨rfl, hb1⟩; have HB1 := kept (below_to hb1 hb0); clear hb1))
    go_ret
    exact ⟨ret_bool (by rw [HR.out]; rfl), HB1.out⟩
  cases x2
  · go_enter Tryd.func16, Tryd.ntmps16
    go_wp2_with (first | (go_at_call 40; (with_reducible refine ((H1 _).out).mono ?_); rintro e w1 ⟨rfl, hb1⟩; have hq1 := hb1; obtain ⟨z0, z1, z2, z3, z4, z5, z6⟩ := HS.out hq1; have HB1 := kept (below_to hb1 hb0); clear hb1) | (go_at_call 41; (with_reducible refine ((H2 _).out).mono ?_); rintro e w2 ⟨rfl, hb2⟩; have HB2 := kept (below_to hb2 HB1.out); clear hb2))
    go_ret
    exact ⟨ret_bool (by rw [HR.out]; rfl), HB2.out⟩
  cases x3
  · go_enter Tryd.func16, Tryd.ntmps16
    go_wp2_with (first | (go_at_call 40; (with_reducible refine ((H1 _).out).mono ?_); rintro e w1 ⟨rfl, hb1⟩; have hq1 := hb1; obtain ⟨z0, z1, z2, z3, z4, z5, z6⟩ := HS.out hq1; clear hb1) | (go_at_call 41; (with_reducible refine ((H2 _).out).mono ?_); rintro e w2 ⟨rfl, hb2⟩; have hq2 := below_to hb2 hq1; obtain ⟨y0, y1, y2, y3, y4, y5, y6⟩ := HS.out hq2; have hr2 := below_to hq2 hb0; clear hb2) | (go_at_call 42; (with_reducible refine ((H3 hr2).out).mono ?_); rintro e w3 ⟨rfl, hb3⟩; have HB3 := kept (below_to hb3 hr2); clear hb3))
    go_ret
    exact ⟨ret_bool (by rw [HR.out]; rfl), HB3.out⟩
  · have hub := HU.out rfl
    have H5 := fun {X : World} (hb : Below w.heap.size w X) => H4 hb rfl
    clear H4
    go_enter Tryd.func16, Tryd.ntmps16
    go_wp2_with (first | (go_at_call 40; (with_reducible refine ((H1 _).out).mono ?_); rintro e w1 ⟨rfl, hb1⟩; have hq1 := hb1; obtain ⟨z0, z1, z2, z3, z4, z5, z6⟩ := HS.out hq1; clear hb1) | (go_at_call 41; (with_reducible refine ((H2 _).out).mono ?_); rintro e w2 ⟨rfl, hb2⟩; have hq2 := below_to hb2 hq1; obtain ⟨y0, y1, y2, y3, y4, y5, y6⟩ := HS.out hq2; have hr2 := below_to hq2 hb0; clear hb2) | (go_at_call 42; (with_reducible refine ((H3 hr2).out).mono ?_); rintro e w3 ⟨rfl, hb3⟩; have hq3 := below_to hb3 hq2; obtain ⟨v0, v1, v2, v3, v4, v5, v6⟩ := HS.out hq3; have hr3 := below_to hq3 hb0; clear hb3) | (go_at_call 43; (with_reducible refine ((H5 hr3).out).mono ?_); rintro e w4 ⟨rfl, hb4⟩; have HB4 := kept (below_to hb4 hr3); clear hb4))
    all_goals
      go_ret
      exact ⟨ret_bool (by rw [HR.out]; rw [Bool.eq_iff_iff]; simp <;> omega), HB4.out⟩
end Go.Proofs.YtfgpkgenahlikaaDoor
