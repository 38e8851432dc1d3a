/-
  Texts laid together: Kl Km.
-/
import Derived.Test.YtlckeebbjnhejaaGreatBKk
import Derived.Test.YtlckeebbjnhejaaGreatBHc
import Derived.Test.YtlckeebbjnhejaaGreatBJa
section
/-
  package index: Get; the entries of a range.
-/
namespace Go.Proofs.YtlckeebbjnhejaaGreat
open Go.ChangeShapes Go.WideShapes Go.ChangeAt Go.RowKit Go.Deep
set_option linter.unusedVariables false
set_option linter.unusedSimpArgs false

theorem getG_nil (m : Int) : getG [] m = none := rfl
theorem loX_at {P : List PE} {k : List UInt8} (hk : knX P k = true) : ∃ e, P[plX P k]? = some e ∧ loX P k = e.2 ∧ e.1 = k := by
  unfold knX at hk
  cases he : P[plX P k]? with
  | none => rw [he] at hk; cases hk
  | some e =>
    rw [he] at hk
    refine ⟨e, rfl, ?_, by simpa using hk⟩
    unfold loX knX
    rw [he]
    simp only
    rw [if_pos hk]
set_option maxHeartbeats 2000000 in
theorem xgetP_any {w : World} {x : Nat} {F : Nat → Prop} {l : Rv} {P : List PE} (h : Ix w x F l P) {N : Nat} (hi : XInv l P N) (hN : N ≤ 800000) (B : Option Addr) (m d : Nat) (ys : List UInt8) (hrd : Rd w B m ys) (at_ : Int) {o : Option (Rv × Int × Int)} (ho : getG (loX P ys) at_ = o) :
    Calls Tryz.prog 11 #[.pointer (some ⟨x, 0, none⟩), .slice B m d, .int .i64 at_] w fun e w' => e = .returned (.tuple #[.agg #[.int .i64 (fnd o).1.1, .int .i64 (fnd o).1.2, .int .i64 (fnd o).2.1, .int .i64 (fnd o).2.2], .bool o.isSome]) ∧ Below w.heap.size w w' := by
  obtain ⟨A, n, k, Es, h, _, hP⟩ := h
  have hB0 := (Below.refl w.heap.size w).alloc (Nat.le_refl _) (.cells #[.int .i64 0, .int .i64 0, .int .i64 0, .int .i64 0] 31)
  have HK := kept (Blk.new w 31 #[.int .i64 0, .int .i64 0, .int .i64 0, .int .i64 0])
  have H0 := kept (h.below hB0)
  have hnN : n ≤ N := by rw [← h.ln]; have := hi.ln; rw [← hP, List.length_map] at this; exact this
  have HU := kept (placeL_any H0.out (by rw [hP]; exact hi.rise) (by omega) B m d ys (hrd.below hB0))
  rw [hP] at HU
  have HB := kept hB0
  cases hk : knX P ys with
  | false =>
    have : o = none := by rw [← ho]; unfold loX; rw [hk]; rfl
    subst this
    rw [hk] at HU
    generalize (plX P ys : Int) = pl at HU
    clear hB0 h hi hrd hP ho hk
    show Calls _ _ _ _ fun e w' => e = .returned (.tuple #[.agg #[.int .i64 0, .int .i64 0, .int .i64 0, .int .i64 0], .bool false]) ∧ Below w.heap.size w w'
    go_enter Tryz.func11, Tryz.ntmps11
    go_wp2_with fail
    generalize w.alloc (.cells #[.int .i64 0, .int .i64 0, .int .i64 0, .int .i64 0] 31) = W0 at HK HB HU H0 ⊢
    with_reducible refine HU.out.mono ?_
    rintro e w1 ⟨rfl, hb⟩
    have hk := HK.out.below hb HK.out.lt
    have q0 : w1.cell? ⟨w.heap.size, 0, none⟩ = some (.int .i64 0) := hk.cell 0
    have q1 : w1.cell? ⟨w.heap.size, 1, none⟩ = some (.int .i64 0) := hk.cell 1
    have q2 : w1.cell? ⟨w.heap.size, 2, none⟩ = some (.int .i64 0) := hk.cell 2
    have q3 : w1.cell? ⟨w.heap.size, 3, none⟩ = some (.int .i64 0) := hk.cell 3
    have f0 := hk.frozen 0
    have f1 := hk.frozen 1
    have f2 := hk.frozen 2
    have f3 := hk.frozen 3
    have HB1 := kept (bel_to hb HB.out)
    have HK1 := kept hk
    clear hb hk
    go_wp2
    have hx2 := gstore4 HK1.out HB1.out (Nat.le_refl _) (.int .i64 0) (.int .i64 0) (.int .i64 0) (.int .i64 0)
    generalize (((w1.setCell ⟨w.heap.size, 0, none⟩ (.int .i64 0)).setCell ⟨w.heap.size, 1, none⟩ (.int .i64 0)).setCell ⟨w.heap.size, 2, none⟩ (.int .i64 0)).setCell ⟨w.heap.size, 3, none⟩ (.int .i64 0) = X at hx2 ⊢
    obtain ⟨hbk, hbx, _⟩ := hx2
    have v0 : X.cell? ⟨w.heap.size, 0, none⟩ = some (.int .i64 0) := hbk.cell 0
    have v1 : X.cell? ⟨w.heap.size, 1, none⟩ = some (.int .i64 0) := hbk.cell 1
    have v2 : X.cell? ⟨w.heap.size, 2, none⟩ = some (.int .i64 0) := hbk.cell 2
    have v3 : X.cell? ⟨w.heap.size, 3, none⟩ = some (.int .i64 0) := hbk.cell 3
    exact bodyPost_ret (v := .tuple #[.agg #[.int .i64 0, .int .i64 0, .int .i64 0, .int .i64 0], .bool false]) (by simp [results, Tryz.results11, go_sem, v0, v1, v2, v3]) rfl ⟨rfl, hbx⟩
  | true =>
    obtain ⟨e0, he0, hlo, hek⟩ := loX_at hk
    have hpn : plX P ys < n := by
      have h1 := (List.getElem?_eq_some_iff.1 he0).1
      have h2 : P.length = n := by rw [← hP, List.length_map]; exact h.ln
      omega
    obtain ⟨g0, hA, E, he, hEm, z0, z1, hat⟩ := h.ent hpn
    have hpe := px_get he
    rw [hP, he0] at hpe
    have hgs : E.gs = loX P ys := by rw [hlo]; have := Option.some.inj hpe; rw [this]
    have hinv : GInv E.gs ∧ BdG E.gs N := by
      have : E.px ∈ P := by rw [← hP]; exact List.mem_map_of_mem hEm
      exact ⟨hi.inv _ this, hi.bd _ this⟩
    rw [hk] at HU
    subst hA
    have HG := fun W (hb : Below w.heap.size w W) => kept (get_f (hat.his.below hb) hinv.1 hinv.2 (by omega) at_ (o := o) (by rw [hgs]; exact ho))
    have HZ1 := kept z1
    have HXB := kept (h.box.cell 0)
    have hp0 : (0 : Int) ≤ (plX P ys : Int) := by omega
    have hpn' : (plX P ys : Int) < (n : Int) := by omega
    generalize plX P ys = pl at HU HZ1 hp0 hpn'
    clear hpe hgs he0 hlo he z0 z1 hat hinv h hi hrd hB0 ho hk hP
    go_enter Tryz.func11, Tryz.ntmps11
    go_wp2_with fail
    generalize w.alloc (.cells #[.int .i64 0, .int .i64 0, .int .i64 0, .int .i64 0] 31) = W0 at HK HB HU H0 ⊢
    with_reducible refine HU.out.mono ?_
    rintro e w1 ⟨rfl, hb⟩
    have hk := HK.out.below hb HK.out.lt
    have HB1 := kept (bel_to hb HB.out)
    have k1 := (Keeps.of_below HB1.out).cell_ HZ1.out
    have k2 := (Keeps.of_below HB1.out).cell_ HXB.out
    have HK1 := kept hk
    clear hb hk
    go_wp2_with fail
    with_reducible refine (HG _ HB1.out).out.mono ?_
    rintro e w2 ⟨rfl, hb⟩
    have hk := HK1.out.below hb HK1.out.lt
    have q0 : w2.cell? ⟨w.heap.size, 0, none⟩ = some (.int .i64 0) := hk.cell 0
    have q1 : w2.cell? ⟨w.heap.size, 1, none⟩ = some (.int .i64 0) := hk.cell 1
    have q2 : w2.cell? ⟨w.heap.size, 2, none⟩ = some (.int .i64 0) := hk.cell 2
    have q3 : w2.cell? ⟨w.heap.size, 3, none⟩ = some (.int .i64 0) := hk.cell 3
    have f0 := hk.frozen 0
    have f1 := hk.frozen 1
    have f2 := hk.frozen 2
    have f3 := hk.frozen 3
    have HB2 := kept (bel_to hb HB1.out)
    have HK2 := kept hk
    clear hb hk k1 k2
    go_wp2
    have hx2 := gstore4 HK2.out HB2.out (Nat.le_refl _) (.int .i64 (fnd o).1.1) (.int .i64 (fnd o).1.2) (.int .i64 (fnd o).2.1) (.int .i64 (fnd o).2.2)
    generalize (((w2.setCell ⟨w.heap.size, 0, none⟩ (.int .i64 (fnd o).1.1)).setCell ⟨w.heap.size, 1, none⟩ (.int .i64 (fnd o).1.2)).setCell ⟨w.heap.size, 2, none⟩ (.int .i64 (fnd o).2.1)).setCell ⟨w.heap.size, 3, none⟩ (.int .i64 (fnd o).2.2) = X at hx2 ⊢
    obtain ⟨hbk, hbx, _⟩ := hx2
    have v0 : X.cell? ⟨w.heap.size, 0, none⟩ = some (.int .i64 (fnd o).1.1) := hbk.cell 0
    have v1 : X.cell? ⟨w.heap.size, 1, none⟩ = some (.int .i64 (fnd o).1.2) := hbk.cell 1
    have v2 : X.cell? ⟨w.heap.size, 2, none⟩ = some (.int .i64 (fnd o).2.1) := hbk.cell 2
    have v3 : X.cell? ⟨w.heap.size, 3, none⟩ = some (.int .i64 (fnd o).2.2) := hbk.cell 3
    exact bodyPost_ret (v := .tuple #[.agg #[.int .i64 (fnd o).1.1, .int .i64 (fnd o).1.2, .int .i64 (fnd o).2.1, .int .i64 (fnd o).2.2], .bool o.isSome]) (by simp [results, Tryz.results11, go_sem, v0, v1, v2, v3]) rfl ⟨rfl, hbx⟩
/-- What a slice of the entries is: its first one stands at place p. -/
def SubX (A : Option Addr) (p cnt : Nat) (A' : Option Addr) : Prop := 0 < cnt → ∃ g, A = some ⟨g, 0, none⟩ ∧ A' = some ⟨g, p * 2, none⟩
theorem cnt_step {P : List PE} {key end_ : List UInt8} {j : Nat} {e : PE} (he : P[plX P key + j]? = some e) : (P.drop (plX P key))[j]? = some e := by rw [List.getElem?_drop]; exact he
set_option maxHeartbeats 4000000 in
theorem within_any {w : World} {x : Nat} {A : Option Addr} {n k : Nat} {l : Rv} {Es : List EnL} (h : IxL w x A n k l Es) {P : List PE} (hP : Es.map EnL.px = P) (hr : RiseX P) (hn : n ≤ 800000) (B : Option Addr) (m d : Nat) (ys : List UInt8) (h2 : Rd w B m ys) (hm : m ≤ 140737488355328) (C : Option Addr) (m3 d3 : Nat) (zs : List UInt8) (h3 : Rd w C m3 zs) (hm3 : m3 ≤ 140737488355328) :
    Calls Tryz.prog 27 #[.pointer (some ⟨x, 0, none⟩), .slice B m d, .slice C m3 d3] w fun e w' => ∃ A' k', e = .returned (.slice A' (cntX P ys zs) k') ∧ SubX A (plX P ys) (cntX P ys zs) A' ∧ Below w.heap.size w w' := by
  have HPL := kept (placeL_any h (by rw [hP]; exact hr) (by omega) B m d ys h2)
  rw [hP] at HPL
  have HX := kept h
  have HY := kept h2
  have HC := kept h3
  have HPP := kept hP
  have HPn : Hid (P.length = n) := kept (by rw [← hP, List.length_map]; exact h.ln)
  have hpl : plX P ys ≤ n := by rw [← HPn.out]; exact plX_le _ _
  obtain ⟨pl, hpl'⟩ : ∃ pl, plX P ys = pl := ⟨_, rfl⟩
  have HPLE := kept hpl'
  rw [hpl'] at HPL hpl ⊢
  generalize knX P ys = kb at HPL
  obtain ⟨hnc, hcm, hAn⟩ := gown_cap h.row
  have hcm' : (k : Int) ≤ 9223372036854775807 := by unfold maxLen at hcm; omega
  have HAN := kept hAn
  have H0 : Hid (∀ t, t < 0 → ∃ e, (P.drop pl)[t]? = some e ∧ inX ys zs e = true) := kept (fun t ht => absurd ht (by omega))
  clear h h2 h3 hP hr hpl' hAn hcm
  go_enter Tryz.func27, Tryz.ntmps27
  go_wp2_with fail
  with_reducible refine HPL.out.mono ?_
  rintro e w1 ⟨rfl, hb⟩
  have HB0 := kept hb
  clear hb
  go_wp2
  go_loopw [9] (fun i wr => ∃ (t : Nat), pl ≤ t ∧ t ≤ n ∧ i = .int .i64 (t : Int) ∧ Hid (Below w.heap.size w wr ∧ ∀ s, s < t - pl → ∃ e, (P.drop pl)[s]? = some e ∧ inX ys zs e = true)) (fun i _ => n - (intOf i).toNat)
  case atStart => exact ⟨pl, Nat.le_refl _, hpl, rfl, kept ⟨HB0.out, by rw [Nat.sub_self]; exact H0.out⟩⟩
  case round =>
    obtain ⟨t, htl, htn, rfl, HI⟩ := hrel
    clear H0
    have hx := HX.out.below HI.out.1
    have b0 := hx.box.cell 0
    have ht0 : (0 : Int) ≤ (t : Int) := by omega
    have hp0 : (0 : Int) ≤ (pl : Int) := by omega
    have hpt : (pl : Int) ≤ (t : Int) := by omega
    have htk : (t : Int) ≤ (k : Int) := by omega
    by_cases hjn : t < n
    · obtain ⟨g, hA, E, he, hEm, z0, z1, hat⟩ := hx.ent hjn
      have hpe := px_get he
      rw [HPP.out] at hpe
      have HPE : Hid ((P.drop pl)[t - pl]? = some (E.xs, E.gs)) := kept (by rw [List.getElem?_drop, show pl + (t - pl) = t by omega]; exact hpe)
      have HIN := kept (in_any E.A B C E.n m m3 E.c d d3 E.xs ys zs wr (Rd.of_own hat.key) (HY.out.below HI.out.1) (HC.out.below HI.out.1) (by have := hat.len; omega) (by omega) hm3)
      have HJ : Hid (pl ≤ t ∧ t < n) := kept ⟨htl, hjn⟩
      have hjn' : (t : Int) < (n : Int) := by omega
      have hda : decide ((t : Int) < (n : Int)) = true := by simp; omega
      have hwj : wrap64 ((t : Int) + 1) = (t : Int) + 1 := IntWalk.wrap64_in _ ⟨by omega, by omega⟩
      subst hA
      clear he hEm hat hpe hx
      cases hin : inB E.xs ys zs with
      | true =>
        rw [hin] at HIN
        have HIE := kept hin
        clear hin
        go_wp2_with (first | (go_at_call 55; (with_reducible refine (HIN.out).mono ?_); rintro e w' ⟨rfl, rfl⟩))
        go_roundw
        case rel =>
          refine ⟨t + 1, by omega, by omega, by go_num, kept ⟨HI.out.1, fun s hs => ?_⟩⟩
          by_cases hst : s < t - pl
          · exact HI.out.2 s hst
          · obtain rfl : s = t - pl := by omega
            exact ⟨_, HPE.out, HIE.out⟩
        case measure => have := HJ.out; simp [intOf]; omega
      | false =>
        rw [hin] at HIN
        have HIE := kept hin
        clear hin
        go_wp2_with (first | (go_at_call 55; (with_reducible refine (HIN.out).mono ?_); rintro e w' ⟨rfl, rfl⟩))
        have hc : cntX P ys zs = t - pl := by
          unfold cntX
          rw [HPLE.out]
          exact takeWhile_uniq _ (by rw [List.length_drop, HPn.out]; omega) (fun s hs hst => by
            obtain ⟨e, he, hi⟩ := HI.out.2 s hst
            rw [List.getElem?_eq_getElem hs] at he
            cases he
            exact hi) (fun hs => by
            have := HPE.out
            rw [List.getElem?_eq_getElem hs] at this
            injection this with e
            rw [e]
            exact HIE.out)
        rw [hc]
        go_returns
        exact ⟨_, _, rfl, fun _ => ⟨g, rfl, rfl⟩, HI.out.1⟩
    · obtain rfl : t = n := by omega
      have hda : decide ((t : Int) < (t : Int)) = false := by simp
      have hjn' : ¬ (t : Int) < (t : Int) := by omega
      have hc : cntX P ys zs = t - pl := by
        unfold cntX
        rw [HPLE.out]
        exact takeWhile_uniq _ (by rw [List.length_drop, HPn.out]; omega) (fun s hs hst => by
          obtain ⟨e, he, hi⟩ := HI.out.2 s hst
          rw [List.getElem?_eq_getElem hs] at he
          cases he
          exact hi) (fun hs => by rw [List.length_drop, HPn.out] at hs; omega)
      have HCN := kept hc
      have HA2 : Hid (0 < t - pl → ∃ g, A = some ⟨g, 0, none⟩) := kept (fun h0 => by
        obtain ⟨g, e, _⟩ := gown_at HX.out.row (by omega)
        exact ⟨g, e⟩)
      clear hx hc
      have hkp : 0 < t - pl → ¬ k = pl := fun h0 e => by omega
      cases A with
      | none =>
        obtain ⟨rfl, rfl⟩ := HAN.out rfl
        obtain rfl : pl = 0 := by omega
        go_wp2
        go_returns
        rw [HCN.out]
        exact ⟨_, ⟨_, rfl⟩, fun h0 => absurd h0 (by omega), HI.out.1⟩
      | some a =>
        obtain ⟨ab, ao, asp⟩ := a
        by_cases hkpl : k = pl
        · subst hkpl
          go_wp2
          go_returns
          rw [HCN.out, show t - k = 0 by omega]
          exact ⟨_, ⟨_, rfl⟩, fun h0 => absurd h0 (by omega), HI.out.1⟩
        · go_wp2
          go_returns
          rw [HCN.out]
          refine ⟨_, ⟨_, rfl⟩, fun h0 => ?_, HI.out.1⟩
          obtain ⟨g, e⟩ := HA2.out h0
          injection e with e
          injection e with e1 e2 e3
          subst e1 e2 e3
          exact ⟨_, rfl, by rw [gadd_at, Nat.zero_add]⟩
end Go.Proofs.YtlckeebbjnhejaaGreat
end

section
/-
  package index: Range.
-/
namespace Go.Proofs.YtlckeebbjnhejaaGreat
open Go.ChangeShapes Go.WideShapes Go.ChangeAt Go.RowKit Go.Deep
set_option linter.unusedVariables false
set_option linter.unusedSimpArgs false

/-- A hit, as it lies. -/
structure HtL where
  A : Option Addr
  n : Nat
  c : Nat
  xs : List UInt8
  f : Rv × Int × Int
def HtL.cells (H : HtL) : List Value := [.slice H.A H.n H.c, .int .i64 H.f.1.1, .int .i64 H.f.1.2, .int .i64 H.f.2.1, .int .i64 H.f.2.2]
def htC (hs : List HtL) : List Value := hs.flatMap HtL.cells
def HtL.px (H : HtL) : List UInt8 × (Rv × Int × Int) := (H.xs, H.f)
theorem htC_append (a b : List HtL) : htC (a ++ b) = htC a ++ htC b := by simp [htC]
theorem htC_length : ∀ hs : List HtL, (htC hs).length = hs.length * 5
  | [] => rfl
  | p :: es => by
    have := htC_length es
    unfold htC at this ⊢
    rw [List.flatMap_cons, List.length_append, this]
    simp [HtL.cells]; omega
theorem htC_at : ∀ (hs : List HtL) (i : Nat) (h : i < hs.length) (j : Nat), j < 5 → (htC hs)[i * 5 + j]? = hs[i].cells[j]?
  | p :: es, 0, _, j, hj => by
    have e : htC (p :: es) = p.cells ++ htC es := rfl
    rw [e, List.getElem?_append_left (by simp [HtL.cells]; omega)]; simp
  | p :: es, i + 1, h, j, hj => by
    have e : htC (p :: es) = p.cells ++ htC es := rfl
    rw [e, List.getElem?_append_right (by simp [HtL.cells]; omega)]
    have := htC_at es i (by simpa using h) j hj
    rw [show (i + 1) * 5 + j - p.cells.length = i * 5 + j by simp [HtL.cells]; omega, this]
    simp
theorem htC_one (hs : List HtL) : ∀ u ∈ htC hs, u.oneCell' = true := by
  intro u hu
  obtain ⟨L, _, hp⟩ := List.mem_flatMap.1 hu
  simp only [HtL.cells, List.mem_cons, List.not_mem_nil, or_false] at hp
  rcases hp with rfl | rfl | rfl | rfl | rfl <;> rfl
theorem hitinfo : (Tryz.prog.info? 37).map (fun i => (i.zero, i.size, i.bytes)) = some (some (.agg #[.slice none 0 0, .int .i64 0, .int .i64 0, .int .i64 0, .int .i64 0]), 5, 56) := by kernel_rfl
/-- Hits of the caller's own, all from block M on. -/
structure HOut (M : Nat) (w : World) (A : Option Addr) (n k : Nat) (hs : List HtL) : Prop where
  row : w.ownsRow M 37 5 (.slice A n k) n (htC hs)
  key : ∀ H ∈ hs, w.ownsRow M 5 1 (.slice H.A H.n H.c) H.n (cellsOf H.xs) ∧ H.n ≤ 1000
theorem HOut.ln {M : Nat} {w : World} {A : Option Addr} {n k : Nat} {hs : List HtL} (h : HOut M w A n k hs) : hs.length = n := by
  have := h.row.1
  rw [htC_length] at this
  omega
theorem HOut.below {M : Nat} {w w' : World} {A : Option Addr} {n k : Nat} {hs : List HtL} (h : HOut M w A n k hs) (hb : Below w.heap.size w w') : HOut M w' A n k hs :=
  ⟨gown_turned h.row (Turned.of_below hb (fun _ => False)) (fun _ _ e => e), fun H hH => ⟨gown_turned (h.key H hH).1 (Turned.of_below hb (fun _ => False)) (fun _ _ e => e), (h.key H hH).2⟩⟩
theorem HOut.nil (M : Nat) (w : World) : HOut M w none 0 0 [] := ⟨World.ownsRow_nil _ _ _ _, fun H hH => absurd hH (by simp)⟩
/-- Hit i, as it lies. -/
theorem HOut.at_ {M : Nat} {w : World} {A : Option Addr} {n k : Nat} {hs : List HtL} (h : HOut M w A n k hs) {i : Nat} (hi : i < n) : ∃ g, A = some ⟨g, 0, none⟩ ∧ ∃ H, hs[i]? = some H ∧ (w.cell? ⟨g, i * 5, none⟩ = some (.slice H.A H.n H.c) ∧ w.cell? ⟨g, i * 5 + 1, none⟩ = some (.int .i64 H.f.1.1) ∧ w.cell? ⟨g, i * 5 + 2, none⟩ = some (.int .i64 H.f.1.2) ∧ w.cell? ⟨g, i * 5 + 3, none⟩ = some (.int .i64 H.f.2.1) ∧ w.cell? ⟨g, i * 5 + 4, none⟩ = some (.int .i64 H.f.2.2)) ∧ Rd w H.A H.n H.xs ∧ H.n ≤ 1000 := by
  obtain ⟨g, rfl, _, _, _, _, hc⟩ := gown_at h.row (by omega)
  have hl : i < hs.length := by rw [h.ln]; exact hi
  have hk := h.key hs[i] (List.getElem_mem hl)
  have ha := fun j hj => hc _ _ (by rw [htC_at hs i hl j hj]; exact List.getElem?_eq_getElem (by simpa [HtL.cells] using hj))
  exact ⟨g, rfl, hs[i], List.getElem?_eq_getElem hl, ⟨ha 0 (by omega), ha 1 (by omega), ha 2 (by omega), ha 3 (by omega), ha 4 (by omega)⟩, Rd.of_own hk.1, hk.2⟩
def oneX (k : List UInt8) (o : Option (Rv × Int × Int)) : List (List UInt8 × (Rv × Int × Int)) := match o with | some f => [(k, f)] | none => []
/-- What is told of the first j of a row. -/
def hitsN (P : List PE) (at_ : Int) (j : Nat) : List (List UInt8 × (Rv × Int × Int)) := (P.take j).filterMap fun e => (getG e.2 at_).map fun f => (e.1, f)
theorem hitsN_next {P : List PE} {at_ : Int} {j : Nat} {e : PE} (he : P[j]? = some e) : hitsN P at_ (j + 1) = hitsN P at_ j ++ oneX e.1 (getG e.2 at_) := by
  unfold hitsN
  rw [List.take_add_one, he, List.filterMap_append]
  simp only [Option.toList_some, List.filterMap_cons, List.filterMap_nil]
  cases getG e.2 at_ <;> rfl
theorem hitsN_len (P : List PE) (at_ : Int) (j : Nat) : (hitsN P at_ j).length ≤ j := by
  unfold hitsN
  exact Nat.le_trans (List.length_filterMap_le _ _) (by rw [List.length_take]; omega)
set_option maxHeartbeats 4000000 in
theorem xrangeL_any {w : World} {x : Nat} {A : Option Addr} {n k : Nat} {l : Rv} {Es : List EnL} (h : IxL w x A n k l Es) {P : List PE} (hP : Es.map EnL.px = P) {N : Nat} (hi : XInv l P N) (hN : N ≤ 800000) (B : Option Addr) (m d : Nat) (ys : List UInt8) (h2 : Rd w B m ys) (hm : m ≤ 140737488355328) (C : Option Addr) (m3 d3 : Nat) (zs : List UInt8) (h3 : Rd w C m3 zs) (hm3 : m3 ≤ 140737488355328) (at_ : Int) :
    Calls Tryz.prog 12 #[.pointer (some ⟨x, 0, none⟩), .slice B m d, .slice C m3 d3, .int .i64 at_] w fun e w' => ∃ A' n' k' hs, e = .returned (.slice A' n' k') ∧ HOut w.heap.size w' A' n' k' hs ∧ hs.map HtL.px = hitsX P ys zs at_ ∧ Below w.heap.size w w' := by
  have HR : Hid (hitsX P ys zs at_ = hitsN (P.drop (plX P ys)) at_ (cntX P ys zs)) := kept (by unfold hitsX hitsN; rw [range_take hi.rise])
  have HPn : Hid (P.length = n) := kept (by rw [← hP, List.length_map]; exact h.ln)
  have hnN : n ≤ 800000 := by have := hi.ln; rw [HPn.out] at this; omega
  have HW := kept (within_any h hP hi.rise hnN B m d ys h2 hm C m3 d3 zs h3 hm3)
  have hle := cntX_le P ys zs
  rw [HPn.out] at hle
  generalize plX P ys = pl at HW HR hle
  generalize cntX P ys zs = cnt at HW HR hle
  have HLE := kept hle
  have HX := kept h
  have HI0 := kept hi
  have HPP := kept hP
  have hcn : (cnt : Int) ≤ 800000 := by omega
  clear h h2 h3 hP hi hle
  go_enter Tryz.func12, Tryz.ntmps12
  go_wp2_with fail
  with_reducible refine HW.out.mono ?_
  rintro e w1 ⟨A1, k1, rfl, hs1, hb⟩
  have HS1 := kept hs1
  have HB0 := kept hb
  clear hb hs1
  go_wp2
  go_loopw [9, 19] (fun o i wr => ∃ (j : Nat) (Ao : Option Addr) (no ko : Nat), j ≤ cnt ∧ no ≤ j ∧ i = .int .i64 (j : Int) ∧ o = .slice Ao no ko ∧ Hid (∃ hs, HOut w.heap.size wr Ao no ko hs ∧ hs.map HtL.px = hitsN (P.drop pl) at_ j ∧ Below w.heap.size w wr)) (fun _ i _ => cnt - (intOf i).toNat)
  case atStart => exact ⟨0, none, 0, 0, Nat.zero_le _, Nat.le_refl _, rfl, rfl, kept ⟨[], HOut.nil _ _, by simp [hitsN], HB0.out⟩⟩
  case round =>
    obtain ⟨j, Ao, no, ko, hj, hnj, rfl, rfl, HI⟩ := hrel
    have hj0 : (0 : Int) ≤ (j : Int) := by omega
    by_cases hjn : j < cnt
    · obtain ⟨hs, ho, hmap, hbw⟩ := HI.out
      have hx := HX.out.below hbw
      obtain ⟨g, hA, E, he, hEm, z0, z1, hat⟩ := hx.ent (i := pl + j) (by have := HLE.out; omega)
      obtain ⟨g', hA', hA1⟩ := HS1.out (by omega)
      obtain rfl : g = g' := by rw [hA] at hA'; injection hA' with e; injection e
      subst hA1
      have hpe := px_get he
      rw [HPP.out] at hpe
      have hinv : GInv E.gs ∧ BdG E.gs N := by
        have : E.px ∈ P := List.mem_of_getElem? hpe
        exact ⟨HI0.out.inv _ this, HI0.out.bd _ this⟩
      rw [show (pl + j) * 2 = pl * 2 + j * 2 by omega] at z0 z1
      have hjn' : (j : Int) < (cnt : Int) := by omega
      have hwj : wrap64 ((j : Int) + 1) = (j : Int) + 1 := IntWalk.wrap64_in _ ⟨by omega, by omega⟩
      have HJ := kept hjn
      obtain ⟨og, hog⟩ : ∃ og, getG E.gs at_ = og := ⟨_, rfl⟩
      have hba : Below wr.heap.size wr (wr.alloc (.cells #[.slice E.A E.n E.c, .pointer (some ⟨E.r, 0, none⟩)] 67)) := (Below.refl _ wr).alloc (Nat.le_refl _) _
      have HG := kept (get_f (hat.his.below hba) hinv.1 hinv.2 (by omega) at_ hog)
      have HEB := kept (Blk.new wr 67 #[.slice E.A E.n E.c, .pointer (some ⟨E.r, 0, none⟩)])
      have HNX : Hid (hitsN (P.drop pl) at_ (j + 1) = hitsN (P.drop pl) at_ j ++ oneX E.xs og) := kept (by
        have := hitsN_next (P := P.drop pl) (at_ := at_) (j := j) (e := (E.xs, E.gs)) (by rw [List.getElem?_drop]; exact hpe)
        rw [this, ← hog])
      have HO := kept (ho.below hba)
      have HM := kept hmap
      have HBW := kept (bel_to hba hbw)
      have HKY := kept ((Rd.of_own hat.key).below hba)
      have hEn : E.n ≤ 1000 := hat.len
      clear hx hA hA' he hEm hat hpe hinv hba ho hmap hbw HI hog hjn
      cases og with
      | none =>
        go_wp2_with fail
        generalize wr.alloc (.cells #[.slice E.A E.n E.c, .pointer (some ⟨E.r, 0, none⟩)] 67) = W1 at HG HEB HO HBW HKY ⊢
        with_reducible refine HG.out.mono ?_
        rintro e w2 ⟨rfl, hb⟩
        have HB2 := kept hb
        clear hb z0 z1
        go_wp2
        go_roundw
        case rel => exact ⟨j + 1, Ao, no, ko, by have := HJ.out; omega, by omega, by go_num, rfl, kept ⟨hs, (HO.out.below HB2.out).below ((Below.refl _ w2).alloc (Nat.le_refl _) _), by rw [HNX.out, HM.out]; simp [oneX], bel_to ((Below.refl _ w2).alloc (Nat.le_refl _) _) (bel_to HB2.out HBW.out)⟩⟩
        case measure => have := HJ.out; simp [intOf]; omega
      | some f =>
        rw [show fnd (some f) = f from rfl] at HG
        go_wp2_with fail
        generalize wr.alloc (.cells #[.slice E.A E.n E.c, .pointer (some ⟨E.r, 0, none⟩)] 67) = W1 at HG HEB HO HBW HKY ⊢
        with_reducible refine HG.out.mono ?_
        rintro e w2 ⟨rfl, hb⟩
        have hbb : Below W1.heap.size W1 (w2.alloc (.cells #[.int .i64 f.1.1, .int .i64 f.1.2, .int .i64 f.2.1, .int .i64 f.2.2] 31)) := bel_to ((Below.refl _ w2).alloc (Nat.le_refl _) _) hb
        have hEB := HEB.out.below hbb HEB.out.lt
        have hFB := Blk.new w2 31 #[.int .i64 f.1.1, .int .i64 f.1.2, .int .i64 f.2.1, .int .i64 f.2.2]
        have HB2 := kept (And.intro (bel_to hbb HBW.out) (And.intro (HO.out.below hbb) (HKY.out.below hbb)))
        have HS0 := kept (show (fun W' : World => W'.cell? ⟨wr.heap.size, 0, none⟩ = some (.slice E.A E.n E.c) ∧ (W'.cell? ⟨w2.heap.size, 0, none⟩ = some (.int .i64 f.1.1) ∧ W'.cell? ⟨w2.heap.size, 1, none⟩ = some (.int .i64 f.1.2) ∧ W'.cell? ⟨w2.heap.size, 2, none⟩ = some (.int .i64 f.2.1) ∧ W'.cell? ⟨w2.heap.size, 3, none⟩ = some (.int .i64 f.2.2))) (w2.alloc (.cells #[.int .i64 f.1.1, .int .i64 f.1.2, .int .i64 f.2.1, .int .i64 f.2.2] 31)).drew from ⟨hEB.cell 0, hFB.cell 0, hFB.cell 1, hFB.cell 2, hFB.cell 3⟩)
        have HEF := kept (And.intro hEB hFB)
        clear hb z0 z1 hbb hEB hFB
        go_wp2
        refine wp_region_held_drew (S := (fun W' => W'.cell? ⟨wr.heap.size, 0, none⟩ = some (.slice E.A E.n E.c) ∧ (W'.cell? ⟨w2.heap.size, 0, none⟩ = some (.int .i64 f.1.1) ∧ W'.cell? ⟨w2.heap.size, 1, none⟩ = some (.int .i64 f.1.2) ∧ W'.cell? ⟨w2.heap.size, 2, none⟩ = some (.int .i64 f.2.1) ∧ W'.cell? ⟨w2.heap.size, 3, none⟩ = some (.int .i64 f.2.2)))) (by kernel_rfl) ?_ (fun hHeld => ?_)
        · ((try dsimp only); (first | with_reducible exact HS0.out | with_reducible exact HS1'.out | with_reducible exact HS2.out | (first | trivial | with_reducible exact HS3.out)))
        (generalize (w2.alloc (.cells #[.int .i64 f.1.1, .int .i64 f.1.2, .int .i64 f.2.1, .int .i64 f.2.2] 31)) = W3 at HS0 HB2 HEF hHeld ⊢; have HKP := fun W (hb : Below W3.drew.heap.size W3.drew W) => kept (show (fun W' : World => W'.cell? ⟨wr.heap.size, 0, none⟩ = some (.slice E.A E.n E.c) ∧ (W'.cell? ⟨w2.heap.size, 0, none⟩ = some (.int .i64 f.1.1) ∧ W'.cell? ⟨w2.heap.size, 1, none⟩ = some (.int .i64 f.1.2) ∧ W'.cell? ⟨w2.heap.size, 2, none⟩ = some (.int .i64 f.2.1) ∧ W'.cell? ⟨w2.heap.size, 3, none⟩ = some (.int .i64 f.2.2))) W from ⟨(Keeps.of_below hb).cell_ HS0.out.1, (Keeps.of_below hb).cell_ HS0.out.2.1, (Keeps.of_below hb).cell_ HS0.out.2.2.1, (Keeps.of_below hb).cell_ HS0.out.2.2.2.1, (Keeps.of_below hb).cell_ HS0.out.2.2.2.2⟩); have HCL := kept (clone_any E.A E.n E.c E.xs W3.drew HB2.out.2.2 (by omega)))
        refine hand_take 0 (some 31) ?_ (by kernel_rfl) (by kernel_rfl) (by kernel_rfl) (by kernel_rfl) (by kernel_rfl) (fun _ _ _ h => h) ?_ (by assumption) ?_
        rotate_left
        · (intro o ho w hSw; (simp only [List.getElem?_toArray, List.getElem?_cons_succ, List.getElem?_cons_zero, Option.some.injEq] at ho); subst ho; (try dsimp only at hSw); go_simp; (first | done | with_reducible rfl))
        (try simp only [Act.put, List.setIfInBounds_toArray, List.set_cons_zero, List.set_cons_succ])
        refine hand_take 1 (some 32) ?_ (by kernel_rfl) (by kernel_rfl) (by kernel_rfl) (by kernel_rfl) (by kernel_rfl) (fun _ _ _ h => h) ?_ (by assumption) ?_
        rotate_left
        · (intro o ho w hSw; (simp only [List.getElem?_toArray, List.getElem?_cons_succ, List.getElem?_cons_zero, Option.some.injEq] at ho); subst ho; (try dsimp only at hSw); go_simp; (first | done | with_reducible rfl))
        (try simp only [Act.put, List.setIfInBounds_toArray, List.set_cons_zero, List.set_cons_succ])
        refine hand_take 2 (some 33) ?_ (by kernel_rfl) (by kernel_rfl) (by kernel_rfl) (by kernel_rfl) (by kernel_rfl) (fun _ _ _ h => h) ?_ (by assumption) ?_
        rotate_left
        · (intro o ho w hSw; (simp only [List.getElem?_toArray, List.getElem?_cons_succ, List.getElem?_cons_zero, Option.some.injEq] at ho); subst ho; (try dsimp only at hSw); go_simp; (first | done | with_reducible rfl))
        (try simp only [Act.put, List.setIfInBounds_toArray, List.set_cons_zero, List.set_cons_succ])
        refine hand_take 4 (some 35) ?_ (by kernel_rfl) (by kernel_rfl) (by kernel_rfl) (by kernel_rfl) (by kernel_rfl) (fun _ _ _ h => h) ?_ (by assumption) ?_
        rotate_left
        · (intro o ho w hSw; (simp only [List.getElem?_toArray, List.getElem?_cons_succ, List.getElem?_cons_zero, Option.some.injEq] at ho); subst ho; (try dsimp only at hSw); go_simp; (first | done | with_reducible rfl))
        (try simp only [Act.put, List.setIfInBounds_toArray, List.set_cons_zero, List.set_cons_succ])
        refine hand_ready 3 (by kernel_rfl) (by kernel_rfl) (fun o ho K hK => ?_)
        (simp only [List.getElem?_toArray, List.getElem?_cons_succ, List.getElem?_cons_zero, Option.some.injEq] at ho)
        subst ho
        go_simp
        (go_at_call 28; (with_reducible refine HCL.out.mono ?_); rintro e w4 ⟨A4, c4, rfl, ho4, hb4⟩; have HS1' := HKP w4 hb4; have HC4 := kept (And.intro ho4 hb4); clear ho4 hb4)
        (try go_wp2_with fail)
        refine hK.out _ _ ?_ (fun hHeld => ?_)
        · ((try dsimp only); (first | with_reducible exact HS0.out | with_reducible exact HS1'.out | with_reducible exact HS2.out | (first | trivial | with_reducible exact HS3.out)))
        clear hK K
        (try simp only [Act.put, List.setIfInBounds_toArray, List.set_cons_zero, List.set_cons_succ])
        refine hand_take 5 (some 36) ?_ (by kernel_rfl) (by kernel_rfl) (by kernel_rfl) (by kernel_rfl) (by kernel_rfl) (fun _ _ _ h => h) ?_ (by assumption) ?_
        rotate_left
        · (intro o ho w hSw; (simp only [List.getElem?_toArray, List.getElem?_cons_succ, List.getElem?_cons_zero, Option.some.injEq] at ho); subst ho; (try dsimp only at hSw); go_simp; (first | done | with_reducible rfl))
        (try simp only [Act.put, List.setIfInBounds_toArray, List.set_cons_zero, List.set_cons_succ])
        refine hand_ready 6 (by kernel_rfl) (by kernel_rfl) (fun o ho K hK => ?_)
        (simp only [List.getElem?_toArray, List.getElem?_cons_succ, List.getElem?_cons_zero, Option.some.injEq] at ho)
        subst ho
        go_simp
        (refine name_world (fun W5 hW5 => ?_); have hb5 := below_alloc hW5; have HV5 := kept (ren_new hW5); have HB5 := kept (And.intro hb5 (bel_to hb5 HC4.out.2)); have HS2 := HKP W5 HB5.out.2; clear hb5 hW5)
        refine hK.out _ _ ?_ (fun hHeld => ?_)
        · ((try dsimp only); (first | with_reducible exact HS0.out | with_reducible exact HS1'.out | with_reducible exact HS2.out | (first | trivial | with_reducible exact HS3.out)))
        clear hK K
        (try simp only [Act.put, List.setIfInBounds_toArray, List.set_cons_zero, List.set_cons_succ])
        refine hand_ready 7 (by kernel_rfl) (by kernel_rfl) (fun o ho K hK => ?_)
        (simp only [List.getElem?_toArray, List.getElem?_cons_succ, List.getElem?_cons_zero, Option.some.injEq] at ho)
        subst ho
        (refine wp_append_h (.tmp 31) (.tmp 37) 34 rfl 37 rfl rfl Tryz.underlying34 hitinfo rfl (by decide) (by decide) (HB2.out.2.1.below (bel_to HB5.out.2 ((Below.refl _ W3).drew))).row (ys := [.slice A4 E.n c4, .int .i64 f.1.1, .int .i64 f.1.2, .int .i64 f.2.1, .int .i64 f.2.2]) rfl (fun _ => ⟨_, rfl, fun j u hj => by rw [gadd_at, Nat.zero_add]; exact (HV5.out.cell j).trans hj⟩) (by intro u hu; simp only [List.mem_cons, List.not_mem_nil, or_false] at hu; rcases hu with rfl | rfl | rfl | rfl | rfl <;> rfl) (by omega) (Nat.le_trans HB2.out.1.size HB5.out.2.size) ?_; intro A6 c6 w6 h6 g6; have hbw5 := bel_to HB5.out.2 ((Below.refl _ W3).drew); have hr5 := (HB2.out.2.1.below hbw5).row; have he5 := blk_grown (HEF.out.1.below hbw5 HEF.out.1.lt) g6 (fun e => by obtain ⟨cc, hcc⟩ := gown_cl (k := 0) hr5 e; exact ne_of_types hcc (show W5.heap[wr.heap.size]? = some _ from HEF.out.1.below hbw5 HEF.out.1.lt) (by decide) rfl); have hf5 := blk_grown (HEF.out.2.below hbw5 HEF.out.2.lt) g6 (fun e => by obtain ⟨cc, hcc⟩ := gown_cl (k := 0) hr5 e; exact ne_of_types hcc (show W5.heap[w2.heap.size]? = some _ from HEF.out.2.below hbw5 HEF.out.2.lt) (by decide) rfl); have HS3 := kept (show (fun W' : World => W'.cell? ⟨wr.heap.size, 0, none⟩ = some (.slice E.A E.n E.c) ∧ (W'.cell? ⟨w2.heap.size, 0, none⟩ = some (.int .i64 f.1.1) ∧ W'.cell? ⟨w2.heap.size, 1, none⟩ = some (.int .i64 f.1.2) ∧ W'.cell? ⟨w2.heap.size, 2, none⟩ = some (.int .i64 f.2.1) ∧ W'.cell? ⟨w2.heap.size, 3, none⟩ = some (.int .i64 f.2.2))) w6 from ⟨he5.cell 0, hf5.cell 0, hf5.cell 1, hf5.cell 2, hf5.cell 3⟩); have HF6 := kept (And.intro h6 g6); clear h6 g6 hbw5 hr5 he5 hf5)
        refine hK.out _ _ ?_ (fun hHeld => ?_)
        · ((try dsimp only); (first | with_reducible exact HS0.out | with_reducible exact HS1'.out | with_reducible exact HS2.out | (first | trivial | with_reducible exact HS3.out)))
        clear hK K
        (try simp only [Act.put, List.setIfInBounds_toArray, List.set_cons_zero, List.set_cons_succ])
        refine hand_take 8 (some 9) ?_ (by kernel_rfl) (by kernel_rfl) (by kernel_rfl) (by kernel_rfl) (by kernel_rfl) (fun _ _ _ h => h) ?_ (by assumption) ?_
        rotate_left
        · (intro o ho w hSw; (simp only [List.getElem?_toArray, List.getElem?_cons_succ, List.getElem?_cons_zero, Option.some.injEq] at ho); subst ho; (try dsimp only at hSw); go_simp; (first | done | with_reducible rfl))
        (try simp only [Act.put, List.setIfInBounds_toArray, List.set_cons_zero, List.set_cons_succ])
        refine wpAnyH_done (by kernel_rfl) ?_ _
        clear hHeld
        go_wp2
        obtain ⟨h6, g6⟩ := HF6.out
        have hb05 : Below w.heap.size w W5 := bel_to (bel_to HB5.out.2 ((Below.refl _ W3).drew)) HB2.out.1
        have ho5 := HB2.out.2.1.below (bel_to HB5.out.2 ((Below.refl _ W3).drew))
        have hb06 := bel_grown hb05 (Nat.le_refl _) ho5.row g6
        have hk5 : W5.ownsRow w.heap.size 5 1 (.slice A4 E.n c4) E.n (cellsOf E.xs) := own_mono_ (gown_turned HC4.out.1 (Turned.of_below HB5.out.1 (fun _ => False)) (fun _ _ e => e)) (Nat.le_trans HB2.out.1.size (Nat.le_refl _))
        have HFF : Hid (∃ hs', HOut w.heap.size w6 A6 (no + 1) c6 hs' ∧ hs'.map HtL.px = hitsN (P.drop pl) at_ (j + 1) ∧ Below w.heap.size w w6) := kept ⟨hs ++ [⟨A4, E.n, c4, E.xs, f⟩], ⟨by rw [htC_append]; exact h6, fun H hH => by
          rcases List.mem_append.1 hH with hH | hH
          · exact ⟨gown_apart (ho5.key H hH).1 ho5.row g6 (by decide), (ho5.key H hH).2⟩
          · obtain rfl := List.mem_singleton.1 hH
            exact ⟨gown_apart hk5 ho5.row g6 (by decide), hEn⟩⟩, by rw [List.map_append, HM.out, HNX.out]; rfl, hb06⟩
        clear h6 g6 hb05 ho5 hb06 hk5
        go_roundw
        case rel => exact ⟨j + 1, A6, no + 1, c6, by have := HJ.out; omega, by omega, by go_num, rfl, HFF⟩
        case measure => have := HJ.out; simp [intOf]; omega
    · obtain rfl : j = cnt := by omega
      have hjn' : ¬ (j : Int) < (j : Int) := by omega
      go_wp2
      go_returns
      obtain ⟨hs, ho, hmap, hbw⟩ := HI.out
      exact ⟨Ao, no, ko, rfl, hs, ho, by rw [HR.out]; exact hmap, hbw⟩
end Go.Proofs.YtlckeebbjnhejaaGreat
end
