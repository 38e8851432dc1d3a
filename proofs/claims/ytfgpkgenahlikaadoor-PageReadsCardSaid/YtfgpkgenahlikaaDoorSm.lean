/-
  terrierref04.Same: the same pages?
-/
import Derived.Test.YtfgpkgenahlikaaDoorOf
namespace Go.Proofs.YtfgpkgenahlikaaDoor
open Go.ChangeShapes Go.WideShapes Go.ChangeAt Go.RowKit
set_option linter.unusedVariables false
set_option linter.unusedSimpArgs false

theorem take_next {α : Type} {I J : List α} {k : Nat} (h1 : k < I.length) (h2 : k < J.length) (h : I.take k = J.take k) (e : I[k] = J[k]) : I.take (k + 1) = J.take (k + 1) := by
  rw [List.take_succ_eq_append_getElem h1, List.take_succ_eq_append_getElem h2, h, e]
theorem list_ne {α : Type} {I J : List α} {k : Nat} (h1 : k < I.length) (h2 : k < J.length) (e : I[k] ≠ J[k]) : I ≠ J := fun h => by subst h; exact e rfl
theorem ret_false {e : Bool} (h : e = false) : Ending.returned (.bool false) = Ending.returned (.bool e) := by rw [h]
theorem sev_two (w : World) (k1 t1 x1 : Int) (a1 : Option Addr) (n1 c1 : Nat) (a2 : Option Addr) (n2 c2 : Nat) (a3 : Option Addr) (n3 c3 : Nat) (a4 : Option Addr) (n4 c4 : Nat) (k2 t2 x2 : Int) (b1 : Option Addr) (m1 d1 : Nat) (b2 : Option Addr) (m2 d2 : Nat) (b3 : Option Addr) (m3 d3 : Nat) (b4 : Option Addr) (m4 d4 : Nat) (t : TypeId) {X : World}
    (h : Below ((w.alloc (.cells #[.int .i64 k1, .int .u64 t1, .int .i64 x1, .slice a1 n1 c1, .slice a2 n2 c2, .slice a3 n3 c3, .slice a4 n4 c4] t)).alloc (.cells #[.int .i64 k2, .int .u64 t2, .int .i64 x2, .slice b1 m1 d1, .slice b2 m2 d2, .slice b3 m3 d3, .slice b4 m4 d4] t)).heap.size ((w.alloc (.cells #[.int .i64 k1, .int .u64 t1, .int .i64 x1, .slice a1 n1 c1, .slice a2 n2 c2, .slice a3 n3 c3, .slice a4 n4 c4] t)).alloc (.cells #[.int .i64 k2, .int .u64 t2, .int .i64 x2, .slice b1 m1 d1, .slice b2 m2 d2, .slice b3 m3 d3, .slice b4 m4 d4] t)) X) :
    Sev X w.heap.size k1 t1 x1 a1 n1 c1 a2 n2 c2 a3 n3 c3 a4 n4 c4 ∧ Sev X (w.heap.size + 1) k2 t2 x2 b1 m1 d1 b2 m2 d2 b3 m3 d3 b4 m4 d4 := by
  refine ⟨?_, ?_⟩
  · refine sev_box w k1 t1 x1 a1 n1 c1 a2 n2 c2 a3 n3 c3 a4 n4 c4 t (below_to (h) ?_)
    exact (Below.refl _ _).alloc (Nat.le_refl _) _
  · have := sev_box (w.alloc (.cells #[.int .i64 k1, .int .u64 t1, .int .i64 x1, .slice a1 n1 c1, .slice a2 n2 c2, .slice a3 n3 c3, .slice a4 n4 c4] t)) k2 t2 x2 b1 m1 d1 b2 m2 d2 b3 m3 d3 b4 m4 d4 t h
    rwa [World.size_alloc] at this
def TwoSev (w W0 : World) (k1 t1 x1 : Int) (a1 : Option Addr) (n1 c1 : Nat) (a2 : Option Addr) (n2 c2 : Nat) (a3 : Option Addr) (n3 c3 : Nat) (a4 : Option Addr) (n4 c4 : Nat) (k2 t2 x2 : Int) (b1 : Option Addr) (m1 d1 : Nat) (b2 : Option Addr) (m2 d2 : Nat) (b3 : Option Addr) (m3 d3 : Nat) (b4 : Option Addr) (m4 d4 : Nat) : Prop :=
  ∀ X, Below W0.heap.size W0 X → Sev X w.heap.size k1 t1 x1 a1 n1 c1 a2 n2 c2 a3 n3 c3 a4 n4 c4 ∧ Sev X (w.heap.size + 1) k2 t2 x2 b1 m1 d1 b2 m2 d2 b3 m3 d3 b4 m4 d4
/-- The heads differ. -/
def headsEq (P Q : Pg) : Prop := P.kind = Q.kind ∧ P.txn = Q.txn ∧ P.next = Q.next ∧ P.items.length = Q.items.length ∧ P.kids.length = Q.kids.length ∧ P.ids.length = Q.ids.length ∧ P.data = Q.data
set_option maxRecDepth 100000 in
set_option maxHeartbeats 2000000 in
theorem sameP_head (l m : Lay) (P Q : Pg) (w : World) (hl : RdPg w l P) (hm : RdPg w m Q) (h : ¬ headsEq P Q) :
    Calls Tryd.prog 17 #[l.val, m.val] w fun e w' => e = .returned (.bool false) ∧ Below w.heap.size w w' := by
  have hd := hl.data
  have hd' := hm.data
  unfold headsEq at h
  rw [hl.kind, hm.kind, hl.txn, hm.txn, hl.next, hm.next, hl.n1, hm.n1, hl.n2, hm.n2, hl.n4, hm.n4] at h
  obtain ⟨D, hD⟩ : ∃ D, P.data = D := ⟨_, rfl⟩
  obtain ⟨E, hE⟩ : ∃ E, Q.data = E := ⟨_, rfl⟩
  rw [hD, hE] at h
  rw [hD] at hd
  rw [hE] at hd'
  clear hl hm hD hE
  obtain ⟨kind, txn, next, a1, n1, c1, a2, n2, c2, a3, n3, c3, a4, n4, c4⟩ := l
  obtain ⟨kind', txn', next', b1, m1, d1, b2, m2, d2, b3, m3, d3, b4, m4, d4⟩ := m
  simp only at h hd hd'
  have HSM := fun (b : Bool) (hb : decide (D = E) = b) {X : World} (hX : Below w.heap.size w X) => kept (same_any a3 b3 n3 m3 c3 d3 D E X (hd.below hX) (hd'.below hX) b hb)
  have hb0 : ∀ o1 o2, Below w.heap.size w ((w.alloc o1).alloc o2) := fun o1 o2 => ((Below.refl _ w).alloc (Nat.le_refl _) _).alloc (by simp) _
  have HB0 := kept hb0
  clear hd hd' hb0
  by_cases h1 : kind = kind'
  · subst h1
    by_cases h2 : txn = txn'
    · subst h2
      by_cases h3 : next = next'
      · subst h3
        by_cases h4 : n1 = m1
        · subst h4
          by_cases h5 : n2 = m2
          · subst h5
            by_cases h6 : n4 = m4
            · subst h6
              have h7 : D ≠ E := fun e => h ⟨rfl, rfl, rfl, rfl, rfl, rfl, e⟩
              have HS := fun {X : World} (hX : Below w.heap.size w X) => HSM false (decide_eq_false h7) hX
              clear h h7 HSM
              go_enter Tryd.func17, Tryd.ntmps17
              go_wp2_with (first | (go_at_call 18; (with_reducible refine ((HS (HB0.out _ _)).out).mono ?_); rintro e w' ⟨rfl, rfl⟩))
              go_ret
              exact ⟨rfl, HB0.out _ _⟩
            · have hb : ((n4 : Int) != (m4 : Int)) = true := by simp; omega
              clear h HSM h6
              go_enter Tryd.func17, Tryd.ntmps17
              go_wp2
              go_ret
              exact ⟨rfl, HB0.out _ _⟩
          · have hb : ((n2 : Int) != (m2 : Int)) = true := by simp; omega
            clear h HSM h5
            go_enter Tryd.func17, Tryd.ntmps17
            go_wp2
            go_ret
            exact ⟨rfl, HB0.out _ _⟩
        · have hb : ((n1 : Int) != (m1 : Int)) = true := by simp; omega
          clear h HSM h4
          go_enter Tryd.func17, Tryd.ntmps17
          go_wp2
          go_ret
          exact ⟨rfl, HB0.out _ _⟩
      · have hb : (next != next') = true := by simp [h3]
        clear h HSM h3
        go_enter Tryd.func17, Tryd.ntmps17
        go_wp2
        go_ret
        exact ⟨rfl, HB0.out _ _⟩
    · have hb : (txn != txn') = true := by simp [h2]
      clear h HSM h2
      go_enter Tryd.func17, Tryd.ntmps17
      go_wp2
      go_ret
      exact ⟨rfl, HB0.out _ _⟩
  · have hb : (kind != kind') = true := by simp [h1]
    clear h HSM h1
    go_enter Tryd.func17, Tryd.ntmps17
    go_wp2
    go_ret
    exact ⟨rfl, HB0.out _ _⟩

theorem pg_ext {P Q : Pg} (h : headsEq P Q) (h1 : P.items = Q.items) (h2 : P.kids = Q.kids) (h3 : P.ids = Q.ids) : P = Q := by
  obtain ⟨a, b, c, d, e, f, g⟩ := P
  obtain ⟨a', b', c', d', e', f', g'⟩ := Q
  obtain ⟨k1, k2, k3, _, _, _, k4⟩ := h
  simp only at *
  subst k1 k2 k3 k4 h1 h2 h3
  rfl
/-- The state of Same's loops. -/
def SmS {α : Type} (W0 : World) (I J : List α) (k : Nat) (wr : World) : Prop := Below W0.heap.size W0 wr ∧ I.take k = J.take k
set_option maxRecDepth 100000 in
set_option maxHeartbeats 4000000 in
theorem sameP_tail (l m : Lay) (P Q : Pg) (w : World) (hl : RdPg w l P) (hm : RdPg w m Q) (h : headsEq P Q) :
    Calls Tryd.prog 17 #[l.val, m.val] w fun e w' => e = .returned (.bool (decide (P = Q))) ∧ Below w.heap.size w w' := by
  have hd := hl.data
  have hd' := hm.data
  have ri := hl.items
  have ri' := hm.items
  have rk := hl.kids
  have rk' := hm.kids
  have rn := hl.ids
  have rn' := hm.ids
  have HEXT := kept (fun h1 h2 h3 => pg_ext h h1 h2 h3)
  have HNE : Hid ((P.items ≠ Q.items → decide (P = Q) = false) ∧ (P.kids ≠ Q.kids → decide (P = Q) = false) ∧ (P.ids ≠ Q.ids → decide (P = Q) = false)) := kept ⟨fun h => decide_eq_false (fun e => h (by rw [e])), fun h => decide_eq_false (fun e => h (by rw [e])), fun h => decide_eq_false (fun e => h (by rw [e]))⟩
  have b1' := hl.b1
  have b2' := hl.b2
  have b4' := hl.b4
  unfold headsEq at h
  rw [hl.kind, hm.kind, hl.txn, hm.txn, hl.next, hm.next, hl.n1, hm.n1, hl.n2, hm.n2, hl.n4, hm.n4] at h
  have HPQ : Hid (P.items = Q.items → P.kids = Q.kids → P.ids = Q.ids → decide (P = Q) = true) := kept (fun h1 h2 h3 => decide_eq_true (HEXT.out h1 h2 h3))
  generalize decide (P = Q) = res at HNE HPQ
  obtain ⟨D, hD⟩ : ∃ D, P.data = D := ⟨_, rfl⟩
  obtain ⟨I, hI⟩ : ∃ I, P.items = I := ⟨_, rfl⟩
  obtain ⟨J, hJ⟩ : ∃ J, P.kids = J := ⟨_, rfl⟩
  obtain ⟨N, hN⟩ : ∃ N, P.ids = N := ⟨_, rfl⟩
  obtain ⟨I', hI'⟩ : ∃ I, Q.items = I := ⟨_, rfl⟩
  obtain ⟨J', hJ'⟩ : ∃ J, Q.kids = J := ⟨_, rfl⟩
  obtain ⟨N', hN'⟩ : ∃ N, Q.ids = N := ⟨_, rfl⟩
  have hdd := h.2.2.2.2.2.2
  rw [← hdd] at hd'
  rw [hD] at hd hd'
  rw [hI] at ri HNE HPQ
  rw [hJ] at rk HNE HPQ
  rw [hN] at rn HNE HPQ
  rw [hI'] at ri' HNE HPQ
  rw [hJ'] at rk' HNE HPQ
  rw [hN'] at rn' HNE HPQ
  clear hl hm hD hI hJ hN hI' hJ' hN' HEXT hdd
  obtain ⟨kind, txn, next, a1, n1, c1, a2, n2, c2, a3, n3, c3, a4, n4, c4⟩ := l
  obtain ⟨kind', txn', next', b1, m1, d1, b2, m2, d2, b3, m3, d3, b4, m4, d4⟩ := m
  simp only at h hd hd' ri ri' rk rk' rn rn' b1' b2' b4'
  obtain ⟨rfl, rfl, rfl, rfl, rfl, rfl, _⟩ := h
  have HS := fun {X : World} (hX : Below w.heap.size w X) => kept (same_any a3 b3 n3 m3 c3 d3 D D X (hd.below hX) (hd'.below hX) true (by simp))
  have HB0 : Hid (∀ o1 o2, Below w.heap.size w ((w.alloc o1).alloc o2)) := kept (fun o1 o2 => ((Below.refl _ w).alloc (Nat.le_refl _) _).alloc (by simp) _)
  have HSV : Hid (TwoSev w ((w.alloc (.cells #[.int .i64 kind, .int .u64 txn, .int .i64 next, .slice a1 n1 c1, .slice a2 n2 c2, .slice a3 n3 c3, .slice a4 n4 c4] 34)).alloc (.cells #[.int .i64 kind, .int .u64 txn, .int .i64 next, .slice b1 n1 d1, .slice b2 n2 d2, .slice b3 m3 d3, .slice b4 n4 d4] 34)) kind txn next a1 n1 c1 a2 n2 c2 a3 n3 c3 a4 n4 c4 kind txn next b1 n1 d1 b2 n2 d2 b3 m3 d3 b4 n4 d4) := kept (fun X h => sev_two w kind txn next a1 n1 c1 a2 n2 c2 a3 n3 c3 a4 n4 c4 kind txn next b1 n1 d1 b2 n2 d2 b3 m3 d3 b4 n4 d4 34 (X := X) h)
  have HRI := kept ri
  have HRI' := kept ri'
  have HRK := kept rk
  have HRK' := kept rk'
  have HRN := kept rn
  have HRN' := kept rn'
  clear hd hd' ri ri' rk rk' rn rn'
  go_enter Tryd.func17, Tryd.ntmps17
  go_wp2_with (first | (go_at_call 18; (with_reducible refine ((HS (HB0.out _ _)).out).mono ?_); rintro e w' ⟨rfl, rfl⟩))
  have HBW := HB0.out (.cells #[.int .i64 kind, .int .u64 txn, .int .i64 next, .slice a1 n1 c1, .slice a2 n2 c2, .slice a3 n3 c3, .slice a4 n4 c4] 34) (.cells #[.int .i64 kind, .int .u64 txn, .int .i64 next, .slice b1 n1 d1, .slice b2 n2 d2, .slice b3 m3 d3, .slice b4 n4 d4] 34)
  generalize ((w.alloc (.cells #[.int .i64 kind, .int .u64 txn, .int .i64 next, .slice a1 n1 c1, .slice a2 n2 c2, .slice a3 n3 c3, .slice a4 n4 c4] 34)).alloc (.cells #[.int .i64 kind, .int .u64 txn, .int .i64 next, .slice b1 n1 d1, .slice b2 n2 d2, .slice b3 m3 d3, .slice b4 n4 d4] 34)) = W0 at HSV HBW ⊢
  have HW0 := kept HBW
  clear HBW HS HB0
  go_loopw [68] (fun i wr => ∃ k : Nat, k ≤ n1 ∧ i = .int .i64 k ∧ Hid (SmS W0 I I' k wr)) (fun i _ => n1 - (intOf i).toNat)
  case atStart => exact ⟨0, by omega, rfl, kept ⟨Below.refl _ _, rfl⟩⟩
  case round =>
    obtain ⟨k, hk, rfl, HST⟩ := hrel
    have hbw : Below w.heap.size w wr := below_to HST.out.1 HW0.out
    by_cases hlt : k < n1
    · have hi1 : k < I.length := by rw [HRI.out.1]; exact hlt
      have hi2 : k < I'.length := by rw [HRI'.out.1]; exact hlt
      obtain ⟨bb, o, L, rfl, hrd, hc0, hc1, hc2, hc3⟩ := (HRI.out.below hbw).at_ hlt
      obtain ⟨bb', o', M, rfl, hrd', hg0, hg1, hg2, hg3⟩ := (HRI'.out.below hbw).at_ hlt
      have hb1x : ∀ o, (wr.alloc o).cell? ⟨w.heap.size + 1, 3, none⟩ = some (.slice (some ⟨bb', o', none⟩) n1 d1) := fun o => cell_below ((Below.refl _ wr).alloc (Nat.le_refl _) o) ((HSV.out _ HST.out.1).2.2.2.2.1)
      have hg0 : ∀ o, (wr.alloc o).cell? ⟨bb', o' + k * 4, none⟩ = some (.slice M.ka M.kn M.kc) := fun o => cell_below ((Below.refl _ wr).alloc (Nat.le_refl _) o) hg0
      have hg1 : ∀ o, (wr.alloc o).cell? ⟨bb', o' + k * 4 + 1, none⟩ = some (.slice M.va M.vn M.vc) := fun o => cell_below ((Below.refl _ wr).alloc (Nat.le_refl _) o) hg1
      have hg2 : ∀ o, (wr.alloc o).cell? ⟨bb', o' + k * 4 + 2, none⟩ = some (.int .i64 M.size) := fun o => cell_below ((Below.refl _ wr).alloc (Nat.le_refl _) o) hg2
      have hg3 : ∀ o, (wr.alloc o).cell? ⟨bb', o' + k * 4 + 3, none⟩ = some (.int .i64 M.more) := fun o => cell_below ((Below.refl _ wr).alloc (Nat.le_refl _) o) hg3
      have HNXT : Hid (I[k] = I'[k] → ∀ o1 o2, SmS W0 I I' (k + 1) ((wr.alloc o1).alloc o2)) := kept (fun e o1 o2 => ⟨(HST.out.1.alloc HST.out.1.size o1).alloc (Nat.le_trans HST.out.1.size (by simp)) o2, take_next hi1 hi2 HST.out.2 e⟩)
      have HBAD : Hid (I[k] ≠ I'[k] → res = false) := kept (fun e => HNE.out.1 (list_ne hi1 hi2 e))
      have HEND : Hid (∀ o1 o2, Below w.heap.size w ((wr.alloc o1).alloc o2)) := kept (fun o1 o2 => (hbw.alloc hbw.size o1).alloc (Nat.le_trans hbw.size (by simp)) o2)
      have HK := fun (b : Bool) (hb : decide (I[k].key = I'[k].key) = b) (o1 o2 : Obj) => kept (same_any L.ka M.ka L.kn M.kn L.kc M.kc I[k].key I'[k].key ((wr.alloc o1).alloc o2) ((hrd.1.alloc o1).alloc o2) ((hrd'.1.alloc o1).alloc o2) b hb)
      have HV := fun (b : Bool) (hb : decide (I[k].val = I'[k].val) = b) (o1 o2 : Obj) => kept (same_any L.va M.va L.vn M.vn L.vc M.vc I[k].val I'[k].val ((wr.alloc o1).alloc o2) ((hrd.2.1.alloc o1).alloc o2) ((hrd'.2.1.alloc o1).alloc o2) b hb)
      have hs1 := hrd.2.2.1
      have hs2 := hrd'.2.2.1
      have hs3 := hrd.2.2.2.1
      have hs4 := hrd'.2.2.2.1
      generalize I[k] = x at *
      generalize I'[k] = y at *
      obtain ⟨ka, kn, kc, va, vn, vc, size, more⟩ := L
      obtain ⟨ka', kn', kc', va', vn', vc', size', more'⟩ := M
      obtain ⟨xk, xv, xs, xm⟩ := x
      obtain ⟨yk, yv, ys, ym⟩ := y
      simp only at hs1 hs2 hs3 hs4 HK HV hc0 hc1 hc2 hc3 hg0 hg1 hg2 hg3
      subst hs1 hs2 hs3 hs4
      clear hrd hrd' hbw hi1 hi2
      by_cases e1 : xk = yk
      · have HKt := HK true (decide_eq_true e1)
        by_cases e2 : xv = yv
        · have HVt := HV true (decide_eq_true e2)
          by_cases e3 : xs = ys
          · by_cases e4 : xm = ym
            · have HX := kept (HNXT.out (by rw [e1, e2, e3, e4]))
              subst e1 e2 e3 e4
              go_wp2_with fail
              with_reducible refine (HKt _ _).out.mono ?_
              rintro e w' ⟨rfl, rfl⟩
              go_wp2_with fail
              with_reducible refine (HVt _ _).out.mono ?_
              rintro e w' ⟨rfl, rfl⟩
              go_wp2
              go_roundw
              case rel => exact ⟨k + 1, by omega, by go_num, HX.out _ _⟩
              case measure => simp [intOf]; omega
            · have HX := kept (HBAD.out (by intro e; injection e with _ _ _ e; exact e4 e))
              have hb : (xm != ym) = true := by simp [e4]
              subst e1 e2 e3
              clear e4
              go_wp2_with fail
              with_reducible refine (HKt _ _).out.mono ?_
              rintro e w' ⟨rfl, rfl⟩
              go_wp2_with fail
              with_reducible refine (HVt _ _).out.mono ?_
              rintro e w' ⟨rfl, rfl⟩
              go_wp2
              go_ret
              exact ⟨ret_false HX.out, HEND.out _ _⟩
          · have HX := kept (HBAD.out (by intro e; injection e with _ _ e _; exact e3 e))
            have hb : (xs != ys) = true := by simp [e3]
            subst e1 e2
            clear e3
            go_wp2_with fail
            with_reducible refine (HKt _ _).out.mono ?_
            rintro e w' ⟨rfl, rfl⟩
            go_wp2_with fail
            with_reducible refine (HVt _ _).out.mono ?_
            rintro e w' ⟨rfl, rfl⟩
            go_wp2
            go_ret
            exact ⟨ret_false HX.out, HEND.out _ _⟩
        · have HX := kept (HBAD.out (by intro e; injection e with _ e _ _; exact e2 e))
          have HVt := HV false (decide_eq_false e2)
          subst e1
          clear e2
          go_wp2_with fail
          with_reducible refine (HKt _ _).out.mono ?_
          rintro e w' ⟨rfl, rfl⟩
          go_wp2_with fail
          with_reducible refine (HVt _ _).out.mono ?_
          rintro e w' ⟨rfl, rfl⟩
          go_wp2
          go_ret
          exact ⟨ret_false HX.out, HEND.out _ _⟩
      · have HX := kept (HBAD.out (by intro e; injection e with e _ _ _; exact e1 e))
        have HKt := HK false (decide_eq_false e1)
        clear e1
        go_wp2_with fail
        with_reducible refine (HKt _ _).out.mono ?_
        rintro e w' ⟨rfl, rfl⟩
        go_wp2
        go_ret
        exact ⟨ret_false HX.out, HEND.out _ _⟩
    · obtain rfl : k = n1 := by omega
      have HIE : Hid (I = I') := kept (by have := HST.out.2; rwa [← HRI.out.1, List.take_length, HRI.out.1, ← HRI'.out.1, List.take_length] at this)
      have hx1 := (HSV.out _ HST.out.1).1
      obtain ⟨u0, u1, u2, u3, u4, u5, u6⟩ := hx1
      clear HRI HRI'
      have HB1 := kept HST.out.1
      clear HST
      go_wp2
      go_loopw [110] (fun i wx => ∃ j : Nat, j ≤ n2 ∧ i = .int .i64 j ∧ Hid (SmS wr J J' j wx)) (fun i _ => n2 - (intOf i).toNat)
      case atStart => exact ⟨0, by omega, rfl, kept ⟨Below.refl _ _, rfl⟩⟩
      case round =>
        obtain ⟨j, hj, rfl, HST⟩ := hrel
        rename World => wx
        have hbx : Below W0.heap.size W0 wx := below_to HST.out.1 HB1.out
        have hbx2 : Below w.heap.size w wx := below_to HST.out.1 hbw
        by_cases hlt : j < n2
        · have hi1 : j < J.length := by rw [HRK.out.1]; exact hlt
          have hi2 : j < J'.length := by rw [HRK'.out.1]; exact hlt
          obtain ⟨bb, o, L, rfl, hrd, hc0, hc1⟩ := (HRK.out.below hbx2).at_ hlt
          obtain ⟨bb', o', M, rfl, hrd', hg0, hg1⟩ := (HRK'.out.below hbx2).at_ hlt
          have hb1x : ∀ o, (wx.alloc o).cell? ⟨w.heap.size + 1, 4, none⟩ = some (.slice (some ⟨bb', o', none⟩) n2 d2) := fun o => cell_below ((Below.refl _ wx).alloc (Nat.le_refl _) o) ((HSV.out _ hbx).2.2.2.2.2.1)
          have hgA : ∀ o, (wx.alloc o).cell? ⟨bb', o' + j * 2, none⟩ = some (.slice M.ka M.kn M.kc) := fun o => cell_below ((Below.refl _ wx).alloc (Nat.le_refl _) o) hg0
          have hgB : ∀ o, (wx.alloc o).cell? ⟨bb', o' + j * 2 + 1, none⟩ = some (.int .i64 M.page) := fun o => cell_below ((Below.refl _ wx).alloc (Nat.le_refl _) o) hg1
          have HNXT : Hid (J[j] = J'[j] → ∀ o1, SmS wr J J' (j + 1) (wx.alloc o1).drew) := kept (fun e o1 => ⟨(HST.out.1.alloc HST.out.1.size o1).drew, take_next hi1 hi2 HST.out.2 e⟩)
          have HBAD : Hid (J[j] ≠ J'[j] → res = false) := kept (fun e => HNE.out.2.1 (list_ne hi1 hi2 e))
          have HEND : Hid (∀ o1, Below w.heap.size w (wx.alloc o1).drew) := kept (fun o1 => (hbx2.alloc hbx2.size o1).drew)
          have HBK : Hid (∀ o1, Below wr.heap.size wr (wx.alloc o1)) := kept (fun o1 => HST.out.1.alloc HST.out.1.size o1)
          have HK := fun (b : Bool) (hb : decide (J[j].key = J'[j].key) = b) (o1 : Obj) => kept (same_any L.ka M.ka L.kn M.kn L.kc M.kc J[j].key J'[j].key ((wx.alloc o1).drew) ((hrd.1.alloc o1).drew) ((hrd'.1.alloc o1).drew) b hb)
          have hs1 := hrd.2.1
          have hs2 := hrd'.2.1
          generalize J[j] = x at *
          generalize J'[j] = y at *
          obtain ⟨ka, kn, kc, page⟩ := L
          obtain ⟨ka', kn', kc', page'⟩ := M
          obtain ⟨xk, xp⟩ := x
          obtain ⟨yk, yp⟩ := y
          simp only at hs1 hs2 HK hc0 hc1 hgA hgB
          subst hs1 hs2
          have hj1 : (0 : Int) ≤ (j : Int) := by omega
          have hj2 : (j : Int) < (n2 : Int) := by omega
          have hj3 : IntKind.i64.wrap (j : Int) = (j : Int) := IntWalk.i64_in _ ⟨by omega, by omega⟩
          clear hrd hrd' hbx hbx2 hi1 hi2
          have hbo : ∀ (v0 v1 : Value) (t : TypeId), (wx.alloc (.cells #[v0, v1] t)).cell? ⟨wx.heap.size, 0, none⟩ = some v0 ∧ (wx.alloc (.cells #[v0, v1] t)).cell? ⟨wx.heap.size, 1, none⟩ = some v1 := fun v0 v1 t => ⟨by rw [cell_of_row _ wx.heap.size 0 _ _ _ (heap_alloc_new wx _)]; rfl, by rw [cell_of_row _ wx.heap.size 1 _ _ _ (heap_alloc_new wx _)]; rfl⟩
          have x0 := (hbo (.slice ka kn kc) (.int .i64 xp) 71).1
          have x1 := (hbo (.slice ka kn kc) (.int .i64 xp) 71).2
          have x2 := hb1x (.cells #[.slice ka kn kc, .int .i64 xp] 71)
          have x3 := hgA (.cells #[.slice ka kn kc, .int .i64 xp] 71)
          have x4 := hgB (.cells #[.slice ka kn kc, .int .i64 xp] 71)
          clear hbo hb1x hg0 hg1 hgA hgB
          by_cases e1 : xk = yk
          · have HKt := HK true (decide_eq_true e1)
            by_cases e4 : xp = yp
            · have HX := kept (HNXT.out (by rw [e1, e4]))
              subst e1 e4
              go_wp2
              refine wp_region_held_drew (S := (fun W' => (W'.cell? ⟨wx.heap.size, 0, none⟩ = some (.slice ka kn kc) ∧ W'.cell? ⟨wx.heap.size, 1, none⟩ = some (.int .i64 xp)) ∧ W'.cell? ⟨w.heap.size + 1, 4, none⟩ = some (.slice (some ⟨bb', o', none⟩) n2 d2) ∧ W'.cell? ⟨bb', o' + j * 2, none⟩ = some (.slice ka' kn' kc') ∧ W'.cell? ⟨bb', o' + j * 2 + 1, none⟩ = some (.int .i64 xp))) (by kernel_rfl) ?_ (fun hHeld => ?_)
              · ((try dsimp only); exact ⟨⟨x0, x1⟩, x2, x3, x4⟩)
              refine hand_take 0 (some 115) ?_ (by kernel_rfl) (by kernel_rfl) (by kernel_rfl) (by kernel_rfl) (by kernel_rfl) (fun _ _ _ h => h) ?_ (by assumption) ?_
              rotate_left
              · (intro o ho w hSw; (simp only [List.getElem?_toArray, List.getElem?_cons_succ, List.getElem?_cons_zero, Option.some.injEq] at ho); subst ho; (try dsimp only at hSw); go_simp; (first | done | with_reducible rfl))
              (try simp only [Act.put, List.setIfInBounds_toArray, List.set_cons_zero, List.set_cons_succ])
              refine hand_take 1 (some 116) ?_ (by kernel_rfl) (by kernel_rfl) (by kernel_rfl) (by kernel_rfl) (by kernel_rfl) (fun _ _ _ h => h) ?_ (by assumption) ?_
              rotate_left
              · (intro o ho w hSw; (simp only [List.getElem?_toArray, List.getElem?_cons_succ, List.getElem?_cons_zero, Option.some.injEq] at ho); subst ho; (try dsimp only at hSw); go_simp; (first | done | with_reducible rfl))
              (try simp only [Act.put, List.setIfInBounds_toArray, List.set_cons_zero, List.set_cons_succ])
              refine hand_take 2 (some 117) ?_ (by kernel_rfl) (by kernel_rfl) (by kernel_rfl) (by kernel_rfl) (by kernel_rfl) (fun _ _ _ h => h) ?_ (by assumption) ?_
              rotate_left
              · (intro o ho w hSw; (simp only [List.getElem?_toArray, List.getElem?_cons_succ, List.getElem?_cons_zero, Option.some.injEq] at ho); subst ho; (try dsimp only at hSw); go_simp; (first | done | with_reducible rfl))
              (try simp only [Act.put, List.setIfInBounds_toArray, List.set_cons_zero, List.set_cons_succ])
              refine hand_take 3 (some 118) ?_ (by kernel_rfl) (by kernel_rfl) (by kernel_rfl) (by kernel_rfl) (by kernel_rfl) (fun _ _ _ h => h) ?_ (by assumption) ?_
              rotate_left
              · (intro o ho w hSw; (simp only [List.getElem?_toArray, List.getElem?_cons_succ, List.getElem?_cons_zero, Option.some.injEq] at ho); subst ho; (try dsimp only at hSw); go_simp; (first | done | with_reducible rfl))
              (try simp only [Act.put, List.setIfInBounds_toArray, List.set_cons_zero, List.set_cons_succ])
              refine hand_take 4 (some 119) ?_ (by kernel_rfl) (by kernel_rfl) (by kernel_rfl) (by kernel_rfl) (by kernel_rfl) (fun _ _ _ h => h) ?_ (by assumption) ?_
              rotate_left
              · (intro o ho w hSw; (simp only [List.getElem?_toArray, List.getElem?_cons_succ, List.getElem?_cons_zero, Option.some.injEq] at ho); subst ho; (try dsimp only at hSw); go_simp; (first | done | with_reducible rfl))
              (try simp only [Act.put, List.setIfInBounds_toArray, List.set_cons_zero, List.set_cons_succ])
              refine hand_take 5 (some 120) ?_ (by kernel_rfl) (by kernel_rfl) (by kernel_rfl) (by kernel_rfl) (by kernel_rfl) (fun _ _ _ h => h) ?_ (by assumption) ?_
              rotate_left
              · (intro o ho w hSw; (simp only [List.getElem?_toArray, List.getElem?_cons_succ, List.getElem?_cons_zero, Option.some.injEq] at ho); subst ho; (try dsimp only at hSw); go_simp; (first | done | with_reducible rfl))
              (try simp only [Act.put, List.setIfInBounds_toArray, List.set_cons_zero, List.set_cons_succ])
              refine hand_take 6 (some 121) ?_ (by kernel_rfl) (by kernel_rfl) (by kernel_rfl) (by kernel_rfl) (by kernel_rfl) (fun _ _ _ h => h) ?_ (by assumption) ?_
              rotate_left
              · (intro o ho w hSw; (simp only [List.getElem?_toArray, List.getElem?_cons_succ, List.getElem?_cons_zero, Option.some.injEq] at ho); subst ho; (try dsimp only at hSw); go_simp; (first | done | with_reducible rfl))
              (try simp only [Act.put, List.setIfInBounds_toArray, List.set_cons_zero, List.set_cons_succ])
              refine hand_take 7 (some 122) ?_ (by kernel_rfl) (by kernel_rfl) (by kernel_rfl) (by kernel_rfl) (by kernel_rfl) (fun _ _ _ h => h) ?_ (by assumption) ?_
              rotate_left
              · (intro o ho w hSw; (simp only [List.getElem?_toArray, List.getElem?_cons_succ, List.getElem?_cons_zero, Option.some.injEq] at ho); subst ho; (try dsimp only at hSw); go_simp; (first | done | with_reducible rfl))
              (try simp only [Act.put, List.setIfInBounds_toArray, List.set_cons_zero, List.set_cons_succ])
              refine hand_ready 8 (by kernel_rfl) (by kernel_rfl) (fun o ho K hK => ?_)
              (simp only [List.getElem?_toArray, List.getElem?_cons_succ, List.getElem?_cons_zero, Option.some.injEq] at ho)
              subst ho
              go_simp
              (go_at_call 18; (with_reducible refine (HKt _).out.mono ?_); rintro e w' ⟨rfl, rfl⟩)
              (try go_wp2_with fail)
              refine hK.out _ _ ?_ (fun hHeld => ?_)
              · ((try dsimp only); exact ⟨⟨x0, x1⟩, x2, x3, x4⟩)
              clear hK K
              (try simp only [Act.put, List.setIfInBounds_toArray, List.set_cons_zero, List.set_cons_succ])
              refine hand_take 9 (some 124) ?_ (by kernel_rfl) (by kernel_rfl) (by kernel_rfl) (by kernel_rfl) (by kernel_rfl) (fun _ _ _ h => h) ?_ (by assumption) ?_
              rotate_left
              · (intro o ho w hSw; (simp only [List.getElem?_toArray, List.getElem?_cons_succ, List.getElem?_cons_zero, Option.some.injEq] at ho); subst ho; (try dsimp only at hSw); go_simp; (first | done | with_reducible rfl))
              (try simp only [Act.put, List.setIfInBounds_toArray, List.set_cons_zero, List.set_cons_succ])
              refine hand_take 10 (some 125) ?_ (by kernel_rfl) (by kernel_rfl) (by kernel_rfl) (by kernel_rfl) (by kernel_rfl) (fun _ _ _ h => h) ?_ (by assumption) ?_
              rotate_left
              · (intro o ho w hSw; (simp only [List.getElem?_toArray, List.getElem?_cons_succ, List.getElem?_cons_zero, Option.some.injEq] at ho); subst ho; (try dsimp only at hSw); go_simp; (first | done | with_reducible rfl))
              (try simp only [Act.put, List.setIfInBounds_toArray, List.set_cons_zero, List.set_cons_succ])
              refine hand_take 11 (some 126) ?_ (by kernel_rfl) (by kernel_rfl) (by kernel_rfl) (by kernel_rfl) (by kernel_rfl) (fun _ _ _ h => h) ?_ (by assumption) ?_
              rotate_left
              · (intro o ho w hSw; (simp only [List.getElem?_toArray, List.getElem?_cons_succ, List.getElem?_cons_zero, Option.some.injEq] at ho); subst ho; (try dsimp only at hSw); go_simp; (first | done | with_reducible rfl))
              (try simp only [Act.put, List.setIfInBounds_toArray, List.set_cons_zero, List.set_cons_succ])
              refine hand_take 12 (some 127) ?_ (by kernel_rfl) (by kernel_rfl) (by kernel_rfl) (by kernel_rfl) (by kernel_rfl) (fun _ _ _ h => h) ?_ (by assumption) ?_
              rotate_left
              · (intro o ho w hSw; (simp only [List.getElem?_toArray, List.getElem?_cons_succ, List.getElem?_cons_zero, Option.some.injEq] at ho); subst ho; (try dsimp only at hSw); go_simp; (first | done | with_reducible rfl))
              (try simp only [Act.put, List.setIfInBounds_toArray, List.set_cons_zero, List.set_cons_succ])
              refine hand_take 13 (some 128) ?_ (by kernel_rfl) (by kernel_rfl) (by kernel_rfl) (by kernel_rfl) (by kernel_rfl) (fun _ _ _ h => h) ?_ (by assumption) ?_
              rotate_left
              · (intro o ho w hSw; (simp only [List.getElem?_toArray, List.getElem?_cons_succ, List.getElem?_cons_zero, Option.some.injEq] at ho); subst ho; (try dsimp only at hSw); go_simp; (first | done | with_reducible rfl))
              (try simp only [Act.put, List.setIfInBounds_toArray, List.set_cons_zero, List.set_cons_succ])
              refine hand_take 14 (some 129) ?_ (by kernel_rfl) (by kernel_rfl) (by kernel_rfl) (by kernel_rfl) (by kernel_rfl) (fun _ _ _ h => h) ?_ (by assumption) ?_
              rotate_left
              · (intro o ho w hSw; (simp only [List.getElem?_toArray, List.getElem?_cons_succ, List.getElem?_cons_zero, Option.some.injEq] at ho); subst ho; (try dsimp only at hSw); go_simp; (first | done | with_reducible rfl))
              (try simp only [Act.put, List.setIfInBounds_toArray, List.set_cons_zero, List.set_cons_succ])
              refine hand_take 15 (some 130) ?_ (by kernel_rfl) (by kernel_rfl) (by kernel_rfl) (by kernel_rfl) (by kernel_rfl) (fun _ _ _ h => h) ?_ (by assumption) ?_
              rotate_left
              · (intro o ho w hSw; (simp only [List.getElem?_toArray, List.getElem?_cons_succ, List.getElem?_cons_zero, Option.some.injEq] at ho); subst ho; (try dsimp only at hSw); go_simp; (first | done | with_reducible rfl))
              (try simp only [Act.put, List.setIfInBounds_toArray, List.set_cons_zero, List.set_cons_succ])
              refine hand_take 16 (some 131) ?_ (by kernel_rfl) (by kernel_rfl) (by kernel_rfl) (by kernel_rfl) (by kernel_rfl) (fun _ _ _ h => h) ?_ (by assumption) ?_
              rotate_left
              · (intro o ho w hSw; (simp only [List.getElem?_toArray, List.getElem?_cons_succ, List.getElem?_cons_zero, Option.some.injEq] at ho); subst ho; (try dsimp only at hSw); go_simp; (first | done | with_reducible rfl))
              (try simp only [Act.put, List.setIfInBounds_toArray, List.set_cons_zero, List.set_cons_succ])
              refine hand_take 17 (some 132) ?_ (by kernel_rfl) (by kernel_rfl) (by kernel_rfl) (by kernel_rfl) (by kernel_rfl) (fun _ _ _ h => h) ?_ (by assumption) ?_
              rotate_left
              · (intro o ho w hSw; (simp only [List.getElem?_toArray, List.getElem?_cons_succ, List.getElem?_cons_zero, Option.some.injEq] at ho); subst ho; (try dsimp only at hSw); go_simp; (first | done | with_reducible rfl))
              (try simp only [Act.put, List.setIfInBounds_toArray, List.set_cons_zero, List.set_cons_succ])
              refine hand_take 18 (some 133) ?_ (by kernel_rfl) (by kernel_rfl) (by kernel_rfl) (by kernel_rfl) (by kernel_rfl) (fun _ _ _ h => h) ?_ (by assumption) ?_
              rotate_left
              · (intro o ho w hSw; (simp only [List.getElem?_toArray, List.getElem?_cons_succ, List.getElem?_cons_zero, Option.some.injEq] at ho); subst ho; (try dsimp only at hSw); go_simp; (first | done | with_reducible rfl))
              (try simp only [Act.put, List.setIfInBounds_toArray, List.set_cons_zero, List.set_cons_succ])
              refine hand_take 19 (some 134) ?_ (by kernel_rfl) (by kernel_rfl) (by kernel_rfl) (by kernel_rfl) (by kernel_rfl) (fun _ _ _ h => h) ?_ (by assumption) ?_
              rotate_left
              · (intro o ho w hSw; (simp only [List.getElem?_toArray, List.getElem?_cons_succ, List.getElem?_cons_zero, Option.some.injEq] at ho); subst ho; (try dsimp only at hSw); go_simp; (first | done | with_reducible rfl))
              (try simp only [Act.put, List.setIfInBounds_toArray, List.set_cons_zero, List.set_cons_succ])
              refine hand_take 20 (some 135) ?_ (by kernel_rfl) (by kernel_rfl) (by kernel_rfl) (by kernel_rfl) (by kernel_rfl) (fun _ _ _ h => h) ?_ (by assumption) ?_
              rotate_left
              · (intro o ho w hSw; (simp only [List.getElem?_toArray, List.getElem?_cons_succ, List.getElem?_cons_zero, Option.some.injEq] at ho); subst ho; (try dsimp only at hSw); go_simp; (first | done | with_reducible rfl))
              (try simp only [Act.put, List.setIfInBounds_toArray, List.set_cons_zero, List.set_cons_succ])
              refine wpAnyH_done (by kernel_rfl) ?_ _
              clear hj3
              go_wp2
              go_roundw
              case rel => exact ⟨j + 1, by omega, by go_num, HX.out _⟩
              case measure => simp [intOf]; omega
            · have HX := kept (HBAD.out (by intro e; injection e with _ e; exact e4 e))
              have hb : (xp != yp) = true := by simp [e4]
              subst e1
              clear e4
              go_wp2
              refine wp_region_held_drew (S := (fun W' => (W'.cell? ⟨wx.heap.size, 0, none⟩ = some (.slice ka kn kc) ∧ W'.cell? ⟨wx.heap.size, 1, none⟩ = some (.int .i64 xp)) ∧ W'.cell? ⟨w.heap.size + 1, 4, none⟩ = some (.slice (some ⟨bb', o', none⟩) n2 d2) ∧ W'.cell? ⟨bb', o' + j * 2, none⟩ = some (.slice ka' kn' kc') ∧ W'.cell? ⟨bb', o' + j * 2 + 1, none⟩ = some (.int .i64 yp))) (by kernel_rfl) ?_ (fun hHeld => ?_)
              · ((try dsimp only); exact ⟨⟨x0, x1⟩, x2, x3, x4⟩)
              refine hand_take 0 (some 115) ?_ (by kernel_rfl) (by kernel_rfl) (by kernel_rfl) (by kernel_rfl) (by kernel_rfl) (fun _ _ _ h => h) ?_ (by assumption) ?_
              rotate_left
              · (intro o ho w hSw; (simp only [List.getElem?_toArray, List.getElem?_cons_succ, List.getElem?_cons_zero, Option.some.injEq] at ho); subst ho; (try dsimp only at hSw); go_simp; (first | done | with_reducible rfl))
              (try simp only [Act.put, List.setIfInBounds_toArray, List.set_cons_zero, List.set_cons_succ])
              refine hand_take 1 (some 116) ?_ (by kernel_rfl) (by kernel_rfl) (by kernel_rfl) (by kernel_rfl) (by kernel_rfl) (fun _ _ _ h => h) ?_ (by assumption) ?_
              rotate_left
              · (intro o ho w hSw; (simp only [List.getElem?_toArray, List.getElem?_cons_succ, List.getElem?_cons_zero, Option.some.injEq] at ho); subst ho; (try dsimp only at hSw); go_simp; (first | done | with_reducible rfl))
              (try simp only [Act.put, List.setIfInBounds_toArray, List.set_cons_zero, List.set_cons_succ])
              refine hand_take 2 (some 117) ?_ (by kernel_rfl) (by kernel_rfl) (by kernel_rfl) (by kernel_rfl) (by kernel_rfl) (fun _ _ _ h => h) ?_ (by assumption) ?_
              rotate_left
              · (intro o ho w hSw; (simp only [List.getElem?_toArray, List.getElem?_cons_succ, List.getElem?_cons_zero, Option.some.injEq] at ho); subst ho; (try dsimp only at hSw); go_simp; (first | done | with_reducible rfl))
              (try simp only [Act.put, List.setIfInBounds_toArray, List.set_cons_zero, List.set_cons_succ])
              refine hand_take 3 (some 118) ?_ (by kernel_rfl) (by kernel_rfl) (by kernel_rfl) (by kernel_rfl) (by kernel_rfl) (fun _ _ _ h => h) ?_ (by assumption) ?_
              rotate_left
              · (intro o ho w hSw; (simp only [List.getElem?_toArray, List.getElem?_cons_succ, List.getElem?_cons_zero, Option.some.injEq] at ho); subst ho; (try dsimp only at hSw); go_simp; (first | done | with_reducible rfl))
              (try simp only [Act.put, List.setIfInBounds_toArray, List.set_cons_zero, List.set_cons_succ])
              refine hand_take 4 (some 119) ?_ (by kernel_rfl) (by kernel_rfl) (by kernel_rfl) (by kernel_rfl) (by kernel_rfl) (fun _ _ _ h => h) ?_ (by assumption) ?_
              rotate_left
              · (intro o ho w hSw; (simp only [List.getElem?_toArray, List.getElem?_cons_succ, List.getElem?_cons_zero, Option.some.injEq] at ho); subst ho; (try dsimp only at hSw); go_simp; (first | done | with_reducible rfl))
              (try simp only [Act.put, List.setIfInBounds_toArray, List.set_cons_zero, List.set_cons_succ])
              refine hand_take 5 (some 120) ?_ (by kernel_rfl) (by kernel_rfl) (by kernel_rfl) (by kernel_rfl) (by kernel_rfl) (fun _ _ _ h => h) ?_ (by assumption) ?_
              rotate_left
              · (intro o ho w hSw; (simp only [List.getElem?_toArray, List.getElem?_cons_succ, List.getElem?_cons_zero, Option.some.injEq] at ho); subst ho; (try dsimp only at hSw); go_simp; (first | done | with_reducible rfl))
              (try simp only [Act.put, List.setIfInBounds_toArray, List.set_cons_zero, List.set_cons_succ])
              refine hand_take 6 (some 121) ?_ (by kernel_rfl) (by kernel_rfl) (by kernel_rfl) (by kernel_rfl) (by kernel_rfl) (fun _ _ _ h => h) ?_ (by assumption) ?_
              rotate_left
              · (intro o ho w hSw; (simp only [List.getElem?_toArray, List.getElem?_cons_succ, List.getElem?_cons_zero, Option.some.injEq] at ho); subst ho; (try dsimp only at hSw); go_simp; (first | done | with_reducible rfl))
              (try simp only [Act.put, List.setIfInBounds_toArray, List.set_cons_zero, List.set_cons_succ])
              refine hand_take 7 (some 122) ?_ (by kernel_rfl) (by kernel_rfl) (by kernel_rfl) (by kernel_rfl) (by kernel_rfl) (fun _ _ _ h => h) ?_ (by assumption) ?_
              rotate_left
              · (intro o ho w hSw; (simp only [List.getElem?_toArray, List.getElem?_cons_succ, List.getElem?_cons_zero, Option.some.injEq] at ho); subst ho; (try dsimp only at hSw); go_simp; (first | done | with_reducible rfl))
              (try simp only [Act.put, List.setIfInBounds_toArray, List.set_cons_zero, List.set_cons_succ])
              refine hand_ready 8 (by kernel_rfl) (by kernel_rfl) (fun o ho K hK => ?_)
              (simp only [List.getElem?_toArray, List.getElem?_cons_succ, List.getElem?_cons_zero, Option.some.injEq] at ho)
              subst ho
              go_simp
              (go_at_call 18; (with_reducible refine (HKt _).out.mono ?_); rintro e w' ⟨rfl, rfl⟩)
              (try go_wp2_with fail)
              refine hK.out _ _ ?_ (fun hHeld => ?_)
              · ((try dsimp only); exact ⟨⟨x0, x1⟩, x2, x3, x4⟩)
              clear hK K
              (try simp only [Act.put, List.setIfInBounds_toArray, List.set_cons_zero, List.set_cons_succ])
              refine hand_take 9 (some 124) ?_ (by kernel_rfl) (by kernel_rfl) (by kernel_rfl) (by kernel_rfl) (by kernel_rfl) (fun _ _ _ h => h) ?_ (by assumption) ?_
              rotate_left
              · (intro o ho w hSw; (simp only [List.getElem?_toArray, List.getElem?_cons_succ, List.getElem?_cons_zero, Option.some.injEq] at ho); subst ho; (try dsimp only at hSw); go_simp; (first | done | with_reducible rfl))
              (try simp only [Act.put, List.setIfInBounds_toArray, List.set_cons_zero, List.set_cons_succ])
              refine hand_take 10 (some 125) ?_ (by kernel_rfl) (by kernel_rfl) (by kernel_rfl) (by kernel_rfl) (by kernel_rfl) (fun _ _ _ h => h) ?_ (by assumption) ?_
              rotate_left
              · (intro o ho w hSw; (simp only [List.getElem?_toArray, List.getElem?_cons_succ, List.getElem?_cons_zero, Option.some.injEq] at ho); subst ho; (try dsimp only at hSw); go_simp; (first | done | with_reducible rfl))
              (try simp only [Act.put, List.setIfInBounds_toArray, List.set_cons_zero, List.set_cons_succ])
              refine hand_take 11 (some 126) ?_ (by kernel_rfl) (by kernel_rfl) (by kernel_rfl) (by kernel_rfl) (by kernel_rfl) (fun _ _ _ h => h) ?_ (by assumption) ?_
              rotate_left
              · (intro o ho w hSw; (simp only [List.getElem?_toArray, List.getElem?_cons_succ, List.getElem?_cons_zero, Option.some.injEq] at ho); subst ho; (try dsimp only at hSw); go_simp; (first | done | with_reducible rfl))
              (try simp only [Act.put, List.setIfInBounds_toArray, List.set_cons_zero, List.set_cons_succ])
              refine hand_take 12 (some 127) ?_ (by kernel_rfl) (by kernel_rfl) (by kernel_rfl) (by kernel_rfl) (by kernel_rfl) (fun _ _ _ h => h) ?_ (by assumption) ?_
              rotate_left
              · (intro o ho w hSw; (simp only [List.getElem?_toArray, List.getElem?_cons_succ, List.getElem?_cons_zero, Option.some.injEq] at ho); subst ho; (try dsimp only at hSw); go_simp; (first | done | with_reducible rfl))
              (try simp only [Act.put, List.setIfInBounds_toArray, List.set_cons_zero, List.set_cons_succ])
              refine hand_take 13 (some 128) ?_ (by kernel_rfl) (by kernel_rfl) (by kernel_rfl) (by kernel_rfl) (by kernel_rfl) (fun _ _ _ h => h) ?_ (by assumption) ?_
              rotate_left
              · (intro o ho w hSw; (simp only [List.getElem?_toArray, List.getElem?_cons_succ, List.getElem?_cons_zero, Option.some.injEq] at ho); subst ho; (try dsimp only at hSw); go_simp; (first | done | with_reducible rfl))
              (try simp only [Act.put, List.setIfInBounds_toArray, List.set_cons_zero, List.set_cons_succ])
              refine hand_take 14 (some 129) ?_ (by kernel_rfl) (by kernel_rfl) (by kernel_rfl) (by kernel_rfl) (by kernel_rfl) (fun _ _ _ h => h) ?_ (by assumption) ?_
              rotate_left
              · (intro o ho w hSw; (simp only [List.getElem?_toArray, List.getElem?_cons_succ, List.getElem?_cons_zero, Option.some.injEq] at ho); subst ho; (try dsimp only at hSw); go_simp; (first | done | with_reducible rfl))
              (try simp only [Act.put, List.setIfInBounds_toArray, List.set_cons_zero, List.set_cons_succ])
              refine hand_take 15 (some 130) ?_ (by kernel_rfl) (by kernel_rfl) (by kernel_rfl) (by kernel_rfl) (by kernel_rfl) (fun _ _ _ h => h) ?_ (by assumption) ?_
              rotate_left
              · (intro o ho w hSw; (simp only [List.getElem?_toArray, List.getElem?_cons_succ, List.getElem?_cons_zero, Option.some.injEq] at ho); subst ho; (try dsimp only at hSw); go_simp; (first | done | with_reducible rfl))
              (try simp only [Act.put, List.setIfInBounds_toArray, List.set_cons_zero, List.set_cons_succ])
              refine hand_take 16 (some 131) ?_ (by kernel_rfl) (by kernel_rfl) (by kernel_rfl) (by kernel_rfl) (by kernel_rfl) (fun _ _ _ h => h) ?_ (by assumption) ?_
              rotate_left
              · (intro o ho w hSw; (simp only [List.getElem?_toArray, List.getElem?_cons_succ, List.getElem?_cons_zero, Option.some.injEq] at ho); subst ho; (try dsimp only at hSw); go_simp; (first | done | with_reducible rfl))
              (try simp only [Act.put, List.setIfInBounds_toArray, List.set_cons_zero, List.set_cons_succ])
              refine hand_take 17 (some 132) ?_ (by kernel_rfl) (by kernel_rfl) (by kernel_rfl) (by kernel_rfl) (by kernel_rfl) (fun _ _ _ h => h) ?_ (by assumption) ?_
              rotate_left
              · (intro o ho w hSw; (simp only [List.getElem?_toArray, List.getElem?_cons_succ, List.getElem?_cons_zero, Option.some.injEq] at ho); subst ho; (try dsimp only at hSw); go_simp; (first | done | with_reducible rfl))
              (try simp only [Act.put, List.setIfInBounds_toArray, List.set_cons_zero, List.set_cons_succ])
              refine hand_take 18 (some 133) ?_ (by kernel_rfl) (by kernel_rfl) (by kernel_rfl) (by kernel_rfl) (by kernel_rfl) (fun _ _ _ h => h) ?_ (by assumption) ?_
              rotate_left
              · (intro o ho w hSw; (simp only [List.getElem?_toArray, List.getElem?_cons_succ, List.getElem?_cons_zero, Option.some.injEq] at ho); subst ho; (try dsimp only at hSw); go_simp; (first | done | with_reducible rfl))
              (try simp only [Act.put, List.setIfInBounds_toArray, List.set_cons_zero, List.set_cons_succ])
              refine hand_take 19 (some 134) ?_ (by kernel_rfl) (by kernel_rfl) (by kernel_rfl) (by kernel_rfl) (by kernel_rfl) (fun _ _ _ h => h) ?_ (by assumption) ?_
              rotate_left
              · (intro o ho w hSw; (simp only [List.getElem?_toArray, List.getElem?_cons_succ, List.getElem?_cons_zero, Option.some.injEq] at ho); subst ho; (try dsimp only at hSw); go_simp; (first | done | with_reducible rfl))
              (try simp only [Act.put, List.setIfInBounds_toArray, List.set_cons_zero, List.set_cons_succ])
              refine hand_take 20 (some 135) ?_ (by kernel_rfl) (by kernel_rfl) (by kernel_rfl) (by kernel_rfl) (by kernel_rfl) (fun _ _ _ h => h) ?_ (by assumption) ?_
              rotate_left
              · (intro o ho w hSw; (simp only [List.getElem?_toArray, List.getElem?_cons_succ, List.getElem?_cons_zero, Option.some.injEq] at ho); subst ho; (try dsimp only at hSw); go_simp; (first | done | with_reducible rfl))
              (try simp only [Act.put, List.setIfInBounds_toArray, List.set_cons_zero, List.set_cons_succ])
              refine wpAnyH_done (by kernel_rfl) ?_ _
              clear hj3
              go_wp2
              go_ret
              exact ⟨ret_false HX.out, HEND.out _⟩
          · have HX := kept (HBAD.out (by intro e; injection e with e _; exact e1 e))
            have HKt := HK false (decide_eq_false e1)
            clear e1
            go_wp2
            refine wp_region_held_drew (S := (fun W' => (W'.cell? ⟨wx.heap.size, 0, none⟩ = some (.slice ka kn kc) ∧ W'.cell? ⟨wx.heap.size, 1, none⟩ = some (.int .i64 xp)) ∧ W'.cell? ⟨w.heap.size + 1, 4, none⟩ = some (.slice (some ⟨bb', o', none⟩) n2 d2) ∧ W'.cell? ⟨bb', o' + j * 2, none⟩ = some (.slice ka' kn' kc') ∧ W'.cell? ⟨bb', o' + j * 2 + 1, none⟩ = some (.int .i64 yp))) (by kernel_rfl) ?_ (fun hHeld => ?_)
            · ((try dsimp only); exact ⟨⟨x0, x1⟩, x2, x3, x4⟩)
            refine hand_take 0 (some 115) ?_ (by kernel_rfl) (by kernel_rfl) (by kernel_rfl) (by kernel_rfl) (by kernel_rfl) (fun _ _ _ h => h) ?_ (by assumption) ?_
            rotate_left
            · (intro o ho w hSw; (simp only [List.getElem?_toArray, List.getElem?_cons_succ, List.getElem?_cons_zero, Option.some.injEq] at ho); subst ho; (try dsimp only at hSw); go_simp; (first | done | with_reducible rfl))
            (try simp only [Act.put, List.setIfInBounds_toArray, List.set_cons_zero, List.set_cons_succ])
            refine hand_take 1 (some 116) ?_ (by kernel_rfl) (by kernel_rfl) (by kernel_rfl) (by kernel_rfl) (by kernel_rfl) (fun _ _ _ h => h) ?_ (by assumption) ?_
            rotate_left
            · (intro o ho w hSw; (simp only [List.getElem?_toArray, List.getElem?_cons_succ, List.getElem?_cons_zero, Option.some.injEq] at ho); subst ho; (try dsimp only at hSw); go_simp; (first | done | with_reducible rfl))
            (try simp only [Act.put, List.setIfInBounds_toArray, List.set_cons_zero, List.set_cons_succ])
            refine hand_take 2 (some 117) ?_ (by kernel_rfl) (by kernel_rfl) (by kernel_rfl) (by kernel_rfl) (by kernel_rfl) (fun _ _ _ h => h) ?_ (by assumption) ?_
            rotate_left
            · (intro o ho w hSw; (simp only [List.getElem?_toArray, List.getElem?_cons_succ, List.getElem?_cons_zero, Option.some.injEq] at ho); subst ho; (try dsimp only at hSw); go_simp; (first | done | with_reducible rfl))
            (try simp only [Act.put, List.setIfInBounds_toArray, List.set_cons_zero, List.set_cons_succ])
            refine hand_take 3 (some 118) ?_ (by kernel_rfl) (by kernel_rfl) (by kernel_rfl) (by kernel_rfl) (by kernel_rfl) (fun _ _ _ h => h) ?_ (by assumption) ?_
            rotate_left
            · (intro o ho w hSw; (simp only [List.getElem?_toArray, List.getElem?_cons_succ, List.getElem?_cons_zero, Option.some.injEq] at ho); subst ho; (try dsimp only at hSw); go_simp; (first | done | with_reducible rfl))
            (try simp only [Act.put, List.setIfInBounds_toArray, List.set_cons_zero, List.set_cons_succ])
            refine hand_take 4 (some 119) ?_ (by kernel_rfl) (by kernel_rfl) (by kernel_rfl) (by kernel_rfl) (by kernel_rfl) (fun _ _ _ h => h) ?_ (by assumption) ?_
            rotate_left
            · (intro o ho w hSw; (simp only [List.getElem?_toArray, List.getElem?_cons_succ, List.getElem?_cons_zero, Option.some.injEq] at ho); subst ho; (try dsimp only at hSw); go_simp; (first | done | with_reducible rfl))
            (try simp only [Act.put, List.setIfInBounds_toArray, List.set_cons_zero, List.set_cons_succ])
            refine hand_take 5 (some 120) ?_ (by kernel_rfl) (by kernel_rfl) (by kernel_rfl) (by kernel_rfl) (by kernel_rfl) (fun _ _ _ h => h) ?_ (by assumption) ?_
            rotate_left
            · (intro o ho w hSw; (simp only [List.getElem?_toArray, List.getElem?_cons_succ, List.getElem?_cons_zero, Option.some.injEq] at ho); subst ho; (try dsimp only at hSw); go_simp; (first | done | with_reducible rfl))
            (try simp only [Act.put, List.setIfInBounds_toArray, List.set_cons_zero, List.set_cons_succ])
            refine hand_take 6 (some 121) ?_ (by kernel_rfl) (by kernel_rfl) (by kernel_rfl) (by kernel_rfl) (by kernel_rfl) (fun _ _ _ h => h) ?_ (by assumption) ?_
            rotate_left
            · (intro o ho w hSw; (simp only [List.getElem?_toArray, List.getElem?_cons_succ, List.getElem?_cons_zero, Option.some.injEq] at ho); subst ho; (try dsimp only at hSw); go_simp; (first | done | with_reducible rfl))
            (try simp only [Act.put, List.setIfInBounds_toArray, List.set_cons_zero, List.set_cons_succ])
            refine hand_take 7 (some 122) ?_ (by kernel_rfl) (by kernel_rfl) (by kernel_rfl) (by kernel_rfl) (by kernel_rfl) (fun _ _ _ h => h) ?_ (by assumption) ?_
            rotate_left
            · (intro o ho w hSw; (simp only [List.getElem?_toArray, List.getElem?_cons_succ, List.getElem?_cons_zero, Option.some.injEq] at ho); subst ho; (try dsimp only at hSw); go_simp; (first | done | with_reducible rfl))
            (try simp only [Act.put, List.setIfInBounds_toArray, List.set_cons_zero, List.set_cons_succ])
            refine hand_ready 8 (by kernel_rfl) (by kernel_rfl) (fun o ho K hK => ?_)
            (simp only [List.getElem?_toArray, List.getElem?_cons_succ, List.getElem?_cons_zero, Option.some.injEq] at ho)
            subst ho
            go_simp
            (go_at_call 18; (with_reducible refine (HKt _).out.mono ?_); rintro e w' ⟨rfl, rfl⟩)
            (try go_wp2_with fail)
            refine hK.out _ _ ?_ (fun hHeld => ?_)
            · ((try dsimp only); exact ⟨⟨x0, x1⟩, x2, x3, x4⟩)
            clear hK K
            (try simp only [Act.put, List.setIfInBounds_toArray, List.set_cons_zero, List.set_cons_succ])
            refine hand_take 9 (some 124) ?_ (by kernel_rfl) (by kernel_rfl) (by kernel_rfl) (by kernel_rfl) (by kernel_rfl) (fun _ _ _ h => h) ?_ (by assumption) ?_
            rotate_left
            · (intro o ho w hSw; (simp only [List.getElem?_toArray, List.getElem?_cons_succ, List.getElem?_cons_zero, Option.some.injEq] at ho); subst ho; (try dsimp only at hSw); go_simp; (first | done | with_reducible rfl))
            (try simp only [Act.put, List.setIfInBounds_toArray, List.set_cons_zero, List.set_cons_succ])
            refine hand_take 10 (some 125) ?_ (by kernel_rfl) (by kernel_rfl) (by kernel_rfl) (by kernel_rfl) (by kernel_rfl) (fun _ _ _ h => h) ?_ (by assumption) ?_
            rotate_left
            · (intro o ho w hSw; (simp only [List.getElem?_toArray, List.getElem?_cons_succ, List.getElem?_cons_zero, Option.some.injEq] at ho); subst ho; (try dsimp only at hSw); go_simp; (first | done | with_reducible rfl))
            (try simp only [Act.put, List.setIfInBounds_toArray, List.set_cons_zero, List.set_cons_succ])
            refine hand_skip 11 (some 126) (by kernel_rfl) (by kernel_rfl) (by kernel_rfl) (by kernel_rfl) (by kernel_rfl) (fun _ _ _ h => h) (by assumption) ?_
            (try simp only [Act.put, List.setIfInBounds_toArray, List.set_cons_zero, List.set_cons_succ])
            refine hand_skip 12 (some 127) (by kernel_rfl) (by kernel_rfl) (by kernel_rfl) (by kernel_rfl) (by kernel_rfl) (fun _ _ _ h => h) (by assumption) ?_
            (try simp only [Act.put, List.setIfInBounds_toArray, List.set_cons_zero, List.set_cons_succ])
            refine hand_skip 13 (some 128) (by kernel_rfl) (by kernel_rfl) (by kernel_rfl) (by kernel_rfl) (by kernel_rfl) (fun _ _ _ h => h) (by assumption) ?_
            (try simp only [Act.put, List.setIfInBounds_toArray, List.set_cons_zero, List.set_cons_succ])
            refine hand_skip 14 (some 129) (by kernel_rfl) (by kernel_rfl) (by kernel_rfl) (by kernel_rfl) (by kernel_rfl) (fun _ _ _ h => h) (by assumption) ?_
            (try simp only [Act.put, List.setIfInBounds_toArray, List.set_cons_zero, List.set_cons_succ])
            refine hand_skip 15 (some 130) (by kernel_rfl) (by kernel_rfl) (by kernel_rfl) (by kernel_rfl) (by kernel_rfl) (fun _ _ _ h => h) (by assumption) ?_
            (try simp only [Act.put, List.setIfInBounds_toArray, List.set_cons_zero, List.set_cons_succ])
            refine hand_skip 16 (some 131) (by kernel_rfl) (by kernel_rfl) (by kernel_rfl) (by kernel_rfl) (by kernel_rfl) (fun _ _ _ h => h) (by assumption) ?_
            (try simp only [Act.put, List.setIfInBounds_toArray, List.set_cons_zero, List.set_cons_succ])
            refine hand_skip 17 (some 132) (by kernel_rfl) (by kernel_rfl) (by kernel_rfl) (by kernel_rfl) (by kernel_rfl) (fun _ _ _ h => h) (by assumption) ?_
            (try simp only [Act.put, List.setIfInBounds_toArray, List.set_cons_zero, List.set_cons_succ])
            refine hand_skip 18 (some 133) (by kernel_rfl) (by kernel_rfl) (by kernel_rfl) (by kernel_rfl) (by kernel_rfl) (fun _ _ _ h => h) (by assumption) ?_
            (try simp only [Act.put, List.setIfInBounds_toArray, List.set_cons_zero, List.set_cons_succ])
            refine hand_skip 19 (some 134) (by kernel_rfl) (by kernel_rfl) (by kernel_rfl) (by kernel_rfl) (by kernel_rfl) (fun _ _ _ h => h) (by assumption) ?_
            (try simp only [Act.put, List.setIfInBounds_toArray, List.set_cons_zero, List.set_cons_succ])
            refine hand_take 20 (some 135) ?_ (by kernel_rfl) (by kernel_rfl) (by kernel_rfl) (by kernel_rfl) (by kernel_rfl) (fun _ _ _ h => h) ?_ (by assumption) ?_
            rotate_left
            · (intro o ho w hSw; (simp only [List.getElem?_toArray, List.getElem?_cons_succ, List.getElem?_cons_zero, Option.some.injEq] at ho); subst ho; (try dsimp only at hSw); go_simp; (first | done | with_reducible rfl))
            (try simp only [Act.put, List.setIfInBounds_toArray, List.set_cons_zero, List.set_cons_succ])
            refine wpAnyH_done (by kernel_rfl) ?_ _
            clear hj3
            go_wp2
            go_ret
            exact ⟨ret_false HX.out, HEND.out _⟩
        · obtain rfl : j = n2 := by omega
          have HJE : Hid (J = J') := kept (by have := HST.out.2; rwa [← HRK.out.1, List.take_length, HRK.out.1, ← HRK'.out.1, List.take_length] at this)
          obtain ⟨v0, v1, v2, v3, v4, v5, v6⟩ := (HSV.out _ hbx).1
          clear HRK HRK' HST
          have HBX := kept hbx
          have HBX2 := kept hbx2
          go_wp2
          go_loopw [140] (fun i wy => ∃ m : Nat, m ≤ n4 ∧ i = .int .i64 m ∧ Hid (SmS wx N N' m wy)) (fun i _ => n4 - (intOf i).toNat)
          case atStart => exact ⟨0, by omega, rfl, kept ⟨Below.refl _ _, rfl⟩⟩
          case round =>
            obtain ⟨m, hm, rfl, HST⟩ := hrel
            rename World => wy
            have hby : Below W0.heap.size W0 wy := below_to HST.out.1 HBX.out
            have hby2 : Below w.heap.size w wy := below_to HST.out.1 HBX2.out
            by_cases hlt : m < n4
            · have hi1 : m < N.length := by rw [HRN.out.1]; exact hlt
              have hi2 : m < N'.length := by rw [HRN'.out.1]; exact hlt
              obtain ⟨bb, o, rfl, hc0⟩ := (HRN.out.below hby2).at_ hlt
              obtain ⟨bb', o', rfl, hg0⟩ := (HRN'.out.below hby2).at_ hlt
              have hp6 : wy.cell? ⟨w.heap.size, 6, none⟩ = some (.slice (some ⟨bb, o, none⟩) n4 c4) := (HSV.out _ hby).1.2.2.2.2.2.2
              have hr6 : wy.cell? ⟨w.heap.size + 1, 6, none⟩ = some (.slice (some ⟨bb', o', none⟩) n4 d4) := (HSV.out _ hby).2.2.2.2.2.2.2
              have HNXT : Hid (N[m] = N'[m] → ∀ k, SmS wx N N' (m + 1) (wy.drewN k)) := kept (fun e k => ⟨drewN_below HST.out.1 k, take_next hi1 hi2 HST.out.2 e⟩)
              have HBAD : Hid (N[m] ≠ N'[m] → res = false) := kept (fun e => HNE.out.2.2 (list_ne hi1 hi2 e))
              have HEND : Hid (∀ k, Below w.heap.size w (wy.drewN k)) := kept (fun k => drewN_below hby2 k)
              have hj1 : (0 : Int) ≤ (m : Int) := by omega
              have hj2 : (m : Int) < (n4 : Int) := by omega
              by_cases e1 : N[m] = N'[m]
              · have HX := kept (HNXT.out e1)
                rw [← e1] at hg0
                generalize N[m] = x at hc0 hg0
                clear e1
                go_wp2
                go_quiet (fail)
                go_wp2
                go_roundw
                case rel => exact ⟨m + 1, by omega, by go_num, HX.out _⟩
                case measure => simp [intOf]; omega
              · have HX := kept (HBAD.out e1)
                have hb : (N[m] != N'[m]) = true := by simp [e1]
                generalize N[m] = x at hc0 hb
                generalize N'[m] = y at hg0 hb
                clear e1 HNXT
                go_wp2
                go_quiet (fail)
                go_wp2
                go_ret
                exact ⟨ret_false HX.out, HEND.out _⟩
            · obtain rfl : m = n4 := by omega
              have HNN : Hid (N = N') := kept (by have := HST.out.2; rwa [← HRN.out.1, List.take_length, HRN.out.1, ← HRN'.out.1, List.take_length] at this)
              have HRES : Hid (res = true) := kept (HPQ.out HIE.out HJE.out HNN.out)
              have HBY2 := kept hby2
              go_wp2
              go_ret
              exact ⟨ret_bool HRES.out.symm, HBY2.out⟩
/-- The same pages? -/
theorem sameP_any (l m : Lay) (P Q : Pg) (w : World) (hl : RdPg w l P) (hm : RdPg w m Q) (b : Bool) (hb : decide (P = Q) = b) :
    Calls Tryd.prog 17 #[l.val, m.val] w fun e w' => e = .returned (.bool b) ∧ Below w.heap.size w w' := by
  subst hb
  by_cases h : headsEq P Q
  · exact sameP_tail l m P Q w hl hm h
  · have : decide (P = Q) = false := decide_eq_false (fun e => h (by subst e; exact ⟨rfl, rfl, rfl, rfl, rfl, rfl, rfl⟩))
    rw [this]
    exact sameP_head l m P Q w hl hm h
end Go.Proofs.YtfgpkgenahlikaaDoor
