/-
  Texts laid together: Gq Gr.
-/
import Derived.Test.YtlckeebbjnhejaaGreatBGo
import Derived.Test.YtlckeebbjnhejaaGreatBGh
import Derived.Deep.RegionLaw
import Derived.Deep.WholeRow
section
/-
  package gens: slices.Delete of the first ones: of revisions, of generations; forget, Compact.
-/
namespace Go.Proofs.YtlckeebbjnhejaaGreat
open Go.ChangeShapes Go.WideShapes Go.ChangeAt Go.RowKit Go.Deep
set_option linter.unusedVariables false
set_option linter.unusedSimpArgs false
attribute [local go_sem] Oper.semAt_some

theorem gzeros_one {z : Value} (h : ∀ v ∈ z.cells, v.oneCell' = true) (hs : 0 < z.cells.size) (m : Nat) : ∀ v ∈ (Builtin.zeroCells z.cells m).toList, v.oneCell' = true := by
  intro v hv
  unfold Builtin.zeroCells at hv
  simp only [Array.toList_map, List.mem_map, Array.toList_range, List.mem_range] at hv
  obtain ⟨i, _, rfl⟩ := hv
  have hi : i % z.cells.size < z.cells.size := Nat.mod_lt _ hs
  rw [getElem!_pos z.cells (i % z.cells.size) hi]
  exact h _ (Array.getElem_mem hi)
theorem grun_clear {P : Program} (w : World) (t e ty : TypeId) {z : Value} {sz bytes : Nat} (ht : P.underlying t = some (.slice e)) (hinfo : (P.info? e).map (fun i => (i.zero, i.size, i.bytes)) = some (some z, sz, bytes)) (hzs : z.cells.size = sz) (h0s : 0 < sz) (h1 : ∀ v ∈ z.cells, v.oneCell' = true) {g : Nat} {cur : Array Value} (hb : w.heap[g]? = some (.cells cur e (0, 0))) (o m c : Nat) (hm : 0 < m) (hfit : o + m * sz ≤ cur.size) :
    (Builtin.clear_ #[t] ty #[.slice (some ⟨g, o, none⟩) m c]).run P w = .ok (.tuple #[]) (w.setCells g o (Builtin.zeroCells z.cells m).toList) := by
  have hl : (Builtin.zeroCells z.cells m).toList.length = m * sz := by rw [Array.length_toList, size_zeroCells, hzs]
  have hst := run_storeCells_cells (P := P) g o (Builtin.zeroCells z.cells m).toList 0 w (by
    intro j hj
    rw [hl] at hj
    rw [cell_of_row w g _ cur e (0, 0) hb, Array.getElem?_eq_getElem (by omega)]
    rfl) (fun j hj => by simp [World.frozen?, hb]) (gzeros_one h1 (by omega) m)
  rw [Nat.add_zero] at hst
  have hz : ∀ w, (zeroValue e).run P w = .ok z w := by
    obtain ⟨i, hi, hz0, hz1, _⟩ := info_parts hinfo
    exact fun w => (zero_of_info (show (P.info? e).map (fun i => (i.zero, i.size)) = some (some z, sz) by rw [hi]; simp [hz0, hz1])).1 w
  obtain ⟨m', rfl⟩ : ∃ m', m = m' + 1 := ⟨m - 1, by omega⟩
  simp [Builtin.clear_, run_underlying ht, hz, hst]
theorem gown_sets {base size g n k : Nat} {e : TypeId} {xs : List Value} : ∀ (vs : List Value) (o : Nat) (w : World), w.ownsRow base e size (.slice (some ⟨g, 0, none⟩) n k) n xs → n * size ≤ o → (w.setCells g o vs).ownsRow base e size (.slice (some ⟨g, 0, none⟩) n k) n xs
  | [], _, _, h, _ => h
  | v :: r, o, w, h, ho => by
    have h1 : (w.setCell ⟨g, o, none⟩ v).ownsRow base e size (.slice (some ⟨g, 0, none⟩) n k) n xs := by
      have := gown_set h o v
      rwa [List.set_eq_of_length_le (by rw [h.1]; exact ho)] at this
    exact gown_sets r (o + 1) _ h1 (by omega)
theorem gstep_append_ran {P : Program} {ops : Array Oper} {o : Oper} {a : Act} {w : World} {K : Act → World → Prop} {Q : Exit → Act → World → Prop} {E : Prop}
    (hg : o.guard = none) (s x : Operand) (t : TypeId) (hop : o.op = Op.call { callee := Callee.builtin Builtin.append, args := #[s, x], argTypes := #[t, t] }) (v u : Value) (hs : a.eval s = v) (hx : a.eval x = u) {v' : Value} {w' : World}
    (hr : (Builtin.append_ #[t, t] o.type #[v, u]).run P w = .ok v' w') (hK : K (a.put o.dst v') w') : if Region.wanted o (yielded ops a.tmps) = true then Oper.wp P o a w K Q else E := by
  rw [if_pos (by simp [Region.wanted, hg])]
  unfold Oper.wp
  simp [execOp, hop, resolve, invoke, builtin, hs, hx, hr, Result.andThen]
  exact hK
theorem delR_zero (A : Option Addr) (n c : Nat) (w : World) (hnc : n ≤ c) (hc : c ≤ maxLen) (hA : A = none → c = 0) :
    Calls Tryz.prog 99 #[.slice A n c, .int .i64 0, .int .i64 0] w fun e w' => e = .returned (.slice A n c) ∧ w' = w := by
  have hc' : (c : Int) ≤ 9223372036854775807 := by unfold maxLen at hc; omega
  have hn0 : (0 : Int) ≤ (n : Int) := by omega
  have hn1 : (n : Int) ≤ (c : Int) := by omega
  go_enter Tryz.func99, Tryz.ntmps99
  cases A with
  | none =>
    obtain rfl := hA rfl
    obtain rfl : n = 0 := by omega
    go_wp2
    go_returns
    exact ⟨rfl, rfl⟩
  | some a =>
    go_wp2
    go_returns
    exact ⟨rfl, rfl⟩
set_option maxRecDepth 100000 in
set_option maxHeartbeats 2000000 in
theorem delR_some (g q m c : Nat) (V : List Value) (w : World) (h : w.ownsRow 0 29 2 (.slice (some ⟨g, 0, none⟩) (q + m) c) (q + m) V) (h1c : ∀ u ∈ V, u.oneCell' = true) (hm : 0 < m) (hn : q + m ≤ 1000000) :
    Calls Tryz.prog 99 #[.slice (some ⟨g, 0, none⟩) (q + m) c, .int .i64 0, .int .i64 (m : Int)] w fun e w' => e = .returned (.slice (some ⟨g, 0, none⟩) q c) ∧ w'.ownsRow 0 29 2 (.slice (some ⟨g, 0, none⟩) q c) q (V.drop (m * 2)) ∧ w.grownBy w' (some g) := by
  have hlen := h.1
  obtain ⟨hnc, hcm, _⟩ := gown_cap h
  have hpre : w.ownsRow 0 29 2 (.slice (some ⟨g, 0, none⟩) 0 c) 0 [] := by
    rcases h.2 with ⟨h0, _⟩ | ⟨g', cap', cur, hv, hbg', hg, hnc', hcm', hcs', htake⟩
    · simp at h0
    · simp only [Value.slice.injEq, Option.some.injEq, Addr.mk.injEq, and_true, true_and] at hv
      obtain ⟨rfl, rfl⟩ := hv
      exact ⟨by simp, .inr ⟨g, c, cur, rfl, hbg', hg, by omega, hcm', hcs', by simp⟩⟩
  obtain ⟨i0, hi0, hz0, hz1, hz2⟩ := info_parts revinfo
  obtain ⟨ad, had, hsrc⟩ : ∃ ad : Addr, (if c = m then some (⟨g, 0, none⟩ : Addr) else some ⟨g, m * 2, none⟩) = some ad ∧ ∀ j u, (V.drop (m * 2))[j]? = some u → w.cell? (ad.add j) = some u := by
    by_cases hc1 : c = m
    · refine ⟨⟨g, 0, none⟩, by rw [if_pos hc1], fun j u hu => ?_⟩
      have hj := (List.getElem?_eq_some_iff.1 hu).1
      rw [List.length_drop, hlen] at hj
      omega
    refine ⟨⟨g, m * 2, none⟩, by rw [if_neg hc1], fun j u hu => ?_⟩
    rw [gadd_at]
    rw [List.getElem?_drop] at hu
    have := h.cells (g := g) rfl _ _ hu
    rw [gadd_at, Nat.zero_add] at this
    exact this
  obtain ⟨w1, hrun, how, hgr⟩ := run_append_fits (P := Tryz.prog) w.drew 0 41 41 29 i0 2 Tryz.underlying41 hi0 hz1 g 0 c _ hpre.drew ad q (c - m) (V.drop (m * 2)) (by rw [List.length_drop, hlen]; omega) hsrc (fun u hu => h1c u (List.mem_of_mem_drop hu)) (by omega)
  rw [Nat.zero_add, List.nil_append] at how
  rw [Nat.zero_add] at hrun
  obtain ⟨cur1, hb1⟩ := gown_cl (k := 0) how (g := g) rfl
  have hfit : q * 2 + m * 2 ≤ cur1.size := by
    rcases how.2 with ⟨h0, _⟩ | ⟨g', cap', cur, hv, hbg', hg, hnc', hcm', hcs', htake⟩
    · simp at h0
    · simp only [Value.slice.injEq, Option.some.injEq, Addr.mk.injEq, and_true, true_and] at hv
      obtain ⟨rfl, rfl⟩ := hv
      rw [hb1] at hg
      injection hg with hg
      injection hg with hg _ _
      rw [hg, hcs', ← Nat.add_mul]
      exact Nat.mul_le_mul_right _ hnc
  have hclr := grun_clear (P := Tryz.prog) w1 41 29 0 Tryz.underlying41 revinfo rfl (by decide) (by intro v hv; simp [Value.cells] at hv; rw [hv]; rfl) hb1 (q * 2) m (c - q) hm hfit
  have HO := kept (gown_sets (Builtin.zeroCells (.agg #[.int .i64 0, .int .i64 0] : Value).cells m).toList (q * 2) w1 how (Nat.le_refl _))
  have hgs := (grown_setCells g (Builtin.zeroCells (.agg #[.int .i64 0, .int .i64 0] : Value).cells m).toList (q * 2) w1).1
  have HG : Hid (w.grownBy (w1.setCells g (q * 2) (Builtin.zeroCells (.agg #[.int .i64 0, .int .i64 0] : Value).cells m).toList) (some g)) := kept ⟨hgs.os.trans hgr.os, hgs.tape.trans hgr.tape, hgs.output.trans hgr.output, Nat.le_trans hgr.size hgs.size, fun k hk hne => (hgs.block k (Nat.lt_of_lt_of_le hk hgr.size) hne).trans (hgr.block k hk hne)⟩
  generalize w1.setCells g (q * 2) (Builtin.zeroCells (.agg #[.int .i64 0, .int .i64 0] : Value).cells m).toList = W2 at hclr HO HG
  have hqm : q + m - m = q := by omega
  have hqm2 : (q : Int) + (m : Int) - (q : Int) = (m : Int) := by omega
  have hqm3 : q + m - q = m := by omega
  have hmqm : (m : Int) ≤ (q : Int) + (m : Int) := by omega
  have hmc : m ≤ c := by omega
  have hqc : q + m ≤ c := hnc
  have hqc1 : q ≤ c := by omega
  have hm0 : ((0 : Int) == (m : Int)) = false := by simp; omega
  have hm0' : ¬ (0 : Int) = (m : Int) := by omega
  have HR := kept hrun
  clear hlen hpre hsrc hrun how hgr hb1 h hi0 hz0 hz1 hz2 hfit hgs
  have hcm' : (c : Int) ≤ 9223372036854775807 := by unfold maxLen at hcm; omega
  have hwr : IntKind.i64.wrap ((q : Int) + (m : Int)) = (q : Int) + (m : Int) := IntWalk.i64_in _ ⟨by omega, by omega⟩
  go_enter Tryz.func99, Tryz.ntmps99
  go_wp2
  go_region_law (refine gstep_append_ran rfl _ _ _ rfl _ _ rfl rfl HR.out ?_)
  go_wp2
  go_returns
  exact ⟨rfl, HO.out, HG.out⟩
theorem delR_any (A : Option Addr) (n c m : Nat) (V : List Value) (w : World) (h : w.ownsRow 0 29 2 (.slice A n c) n V) (h1c : ∀ u ∈ V, u.oneCell' = true) (hm : m ≤ n) (hn : n ≤ 1000000) :
    Calls Tryz.prog 99 #[.slice A n c, .int .i64 0, .int .i64 (m : Int)] w fun e w' => e = .returned (.slice A (n - m) c) ∧ w'.ownsRow 0 29 2 (.slice A (n - m) c) (n - m) (V.drop (m * 2)) ∧ w.grownBy w' (Value.slice A n c).ownBlock := by
  obtain ⟨h1, h2, h3⟩ := gown_cap h
  rcases Nat.eq_zero_or_pos m with h0 | h0
  · subst h0
    refine (delR_zero A n c w h1 h2 (fun e => (h3 e).2)).mono ?_
    rintro e w' ⟨rfl, rfl⟩
    rw [Nat.sub_zero, Nat.zero_mul, List.drop_zero]
    exact ⟨rfl, h, ⟨rfl, rfl, rfl, Nat.le_refl _, fun _ _ _ => rfl⟩⟩
  · obtain ⟨g, rfl, _⟩ := gown_at h (by omega)
    obtain ⟨q, rfl⟩ : ∃ q, n = q + m := ⟨n - m, by omega⟩
    rw [show q + m - m = q by omega]
    exact delR_some g q m c V w h h1c h0 hn
theorem delG_zero (A : Option Addr) (n c : Nat) (w : World) (hnc : n ≤ c) (hc : c ≤ maxLen) (hA : A = none → c = 0) :
    Calls Tryz.prog 62 #[.slice A n c, .int .i64 0, .int .i64 0] w fun e w' => e = .returned (.slice A n c) ∧ w' = w := by
  have hc' : (c : Int) ≤ 9223372036854775807 := by unfold maxLen at hc; omega
  have hn0 : (0 : Int) ≤ (n : Int) := by omega
  have hn1 : (n : Int) ≤ (c : Int) := by omega
  go_enter Tryz.func62, Tryz.ntmps62
  cases A with
  | none =>
    obtain rfl := hA rfl
    obtain rfl : n = 0 := by omega
    go_wp2
    go_returns
    exact ⟨rfl, rfl⟩
  | some a =>
    go_wp2
    go_returns
    exact ⟨rfl, rfl⟩
set_option maxRecDepth 100000 in
set_option maxHeartbeats 2000000 in
theorem delG_some (g q m c : Nat) (V : List Value) (w : World) (h : w.ownsRow 0 99 5 (.slice (some ⟨g, 0, none⟩) (q + m) c) (q + m) V) (h1c : ∀ u ∈ V, u.oneCell' = true) (hm : 0 < m) (hn : q + m ≤ 1000000) :
    Calls Tryz.prog 62 #[.slice (some ⟨g, 0, none⟩) (q + m) c, .int .i64 0, .int .i64 (m : Int)] w fun e w' => e = .returned (.slice (some ⟨g, 0, none⟩) q c) ∧ w'.ownsRow 0 99 5 (.slice (some ⟨g, 0, none⟩) q c) q (V.drop (m * 5)) ∧ w.grownBy w' (some g) := by
  have hlen := h.1
  obtain ⟨hnc, hcm, _⟩ := gown_cap h
  have hpre : w.ownsRow 0 99 5 (.slice (some ⟨g, 0, none⟩) 0 c) 0 [] := by
    rcases h.2 with ⟨h0, _⟩ | ⟨g', cap', cur, hv, hbg', hg, hnc', hcm', hcs', htake⟩
    · simp at h0
    · simp only [Value.slice.injEq, Option.some.injEq, Addr.mk.injEq, and_true, true_and] at hv
      obtain ⟨rfl, rfl⟩ := hv
      exact ⟨by simp, .inr ⟨g, c, cur, rfl, hbg', hg, by omega, hcm', hcs', by simp⟩⟩
  obtain ⟨i0, hi0, hz0, hz1, hz2⟩ := info_parts geninfo
  obtain ⟨ad, had, hsrc⟩ : ∃ ad : Addr, (if c = m then some (⟨g, 0, none⟩ : Addr) else some ⟨g, m * 5, none⟩) = some ad ∧ ∀ j u, (V.drop (m * 5))[j]? = some u → w.cell? (ad.add j) = some u := by
    by_cases hc1 : c = m
    · refine ⟨⟨g, 0, none⟩, by rw [if_pos hc1], fun j u hu => ?_⟩
      have hj := (List.getElem?_eq_some_iff.1 hu).1
      rw [List.length_drop, hlen] at hj
      omega
    refine ⟨⟨g, m * 5, none⟩, by rw [if_neg hc1], fun j u hu => ?_⟩
    rw [gadd_at]
    rw [List.getElem?_drop] at hu
    have := h.cells (g := g) rfl _ _ hu
    rw [gadd_at, Nat.zero_add] at this
    exact this
  obtain ⟨w1, hrun, how, hgr⟩ := run_append_fits (P := Tryz.prog) w.drew 0 100 100 99 i0 5 Tryz.underlying100 hi0 hz1 g 0 c _ hpre.drew ad q (c - m) (V.drop (m * 5)) (by rw [List.length_drop, hlen]; omega) hsrc (fun u hu => h1c u (List.mem_of_mem_drop hu)) (by omega)
  rw [Nat.zero_add, List.nil_append] at how
  rw [Nat.zero_add] at hrun
  obtain ⟨cur1, hb1⟩ := gown_cl (k := 0) how (g := g) rfl
  have hfit : q * 5 + m * 5 ≤ cur1.size := by
    rcases how.2 with ⟨h0, _⟩ | ⟨g', cap', cur, hv, hbg', hg, hnc', hcm', hcs', htake⟩
    · simp at h0
    · simp only [Value.slice.injEq, Option.some.injEq, Addr.mk.injEq, and_true, true_and] at hv
      obtain ⟨rfl, rfl⟩ := hv
      rw [hb1] at hg
      injection hg with hg
      injection hg with hg _ _
      rw [hg, hcs', ← Nat.add_mul]
      exact Nat.mul_le_mul_right _ hnc
  have hclr := grun_clear (P := Tryz.prog) w1 100 99 0 Tryz.underlying100 geninfo rfl (by decide) (by intro v hv; simp [Value.cells] at hv; rcases hv with h9 | h9 | h9 <;> (rw [h9]; rfl)) hb1 (q * 5) m (c - q) hm hfit
  have HO := kept (gown_sets (Builtin.zeroCells (.agg #[.int .i64 0, .int .i64 0, .slice none 0 0, .int .i64 0, .int .i64 0] : Value).cells m).toList (q * 5) w1 how (Nat.le_refl _))
  have hgs := (grown_setCells g (Builtin.zeroCells (.agg #[.int .i64 0, .int .i64 0, .slice none 0 0, .int .i64 0, .int .i64 0] : Value).cells m).toList (q * 5) w1).1
  have HG : Hid (w.grownBy (w1.setCells g (q * 5) (Builtin.zeroCells (.agg #[.int .i64 0, .int .i64 0, .slice none 0 0, .int .i64 0, .int .i64 0] : Value).cells m).toList) (some g)) := kept ⟨hgs.os.trans hgr.os, hgs.tape.trans hgr.tape, hgs.output.trans hgr.output, Nat.le_trans hgr.size hgs.size, fun k hk hne => (hgs.block k (Nat.lt_of_lt_of_le hk hgr.size) hne).trans (hgr.block k hk hne)⟩
  generalize w1.setCells g (q * 5) (Builtin.zeroCells (.agg #[.int .i64 0, .int .i64 0, .slice none 0 0, .int .i64 0, .int .i64 0] : Value).cells m).toList = W2 at hclr HO HG
  have hqm : q + m - m = q := by omega
  have hqm2 : (q : Int) + (m : Int) - (q : Int) = (m : Int) := by omega
  have hqm3 : q + m - q = m := by omega
  have hmqm : (m : Int) ≤ (q : Int) + (m : Int) := by omega
  have hmc : m ≤ c := by omega
  have hqc : q + m ≤ c := hnc
  have hqc1 : q ≤ c := by omega
  have hm0 : ((0 : Int) == (m : Int)) = false := by simp; omega
  have hm0' : ¬ (0 : Int) = (m : Int) := by omega
  have HR := kept hrun
  clear hlen hpre hsrc hrun how hgr hb1 h hi0 hz0 hz1 hz2 hfit hgs
  have hcm' : (c : Int) ≤ 9223372036854775807 := by unfold maxLen at hcm; omega
  have hwr : IntKind.i64.wrap ((q : Int) + (m : Int)) = (q : Int) + (m : Int) := IntWalk.i64_in _ ⟨by omega, by omega⟩
  go_enter Tryz.func62, Tryz.ntmps62
  go_wp2
  go_region_law (refine gstep_append_ran rfl _ _ _ rfl _ _ rfl rfl HR.out ?_)
  go_wp2
  go_returns
  exact ⟨rfl, HO.out, HG.out⟩
theorem delG_any (A : Option Addr) (n c m : Nat) (V : List Value) (w : World) (h : w.ownsRow 0 99 5 (.slice A n c) n V) (h1c : ∀ u ∈ V, u.oneCell' = true) (hm : m ≤ n) (hn : n ≤ 1000000) :
    Calls Tryz.prog 62 #[.slice A n c, .int .i64 0, .int .i64 (m : Int)] w fun e w' => e = .returned (.slice A (n - m) c) ∧ w'.ownsRow 0 99 5 (.slice A (n - m) c) (n - m) (V.drop (m * 5)) ∧ w.grownBy w' (Value.slice A n c).ownBlock := by
  obtain ⟨h1, h2, h3⟩ := gown_cap h
  rcases Nat.eq_zero_or_pos m with h0 | h0
  · subst h0
    refine (delG_zero A n c w h1 h2 (fun e => (h3 e).2)).mono ?_
    rintro e w' ⟨rfl, rfl⟩
    rw [Nat.sub_zero, Nat.zero_mul, List.drop_zero]
    exact ⟨rfl, h, ⟨rfl, rfl, rfl, Nat.le_refl _, fun _ _ _ => rfl⟩⟩
  · obtain ⟨g, rfl, _⟩ := gown_at h (by omega)
    obtain ⟨q, rfl⟩ : ∃ q, n = q + m := ⟨n - m, by omega⟩
    rw [show q + m - m = q by omega]
    exact delG_some g q m c V w h h1c h0 hn
end Go.Proofs.YtlckeebbjnhejaaGreat
end

section
/-
  package gens, call by call: forget, Compact.
-/
namespace Go.Proofs.YtlckeebbjnhejaaGreat
open Go.ChangeShapes Go.WideShapes Go.ChangeAt Go.RowKit Go.Deep
set_option linter.unusedVariables false
set_option linter.unusedSimpArgs false

theorem GsL.left_drop {w W2 : World} {r : Nat} {A : Option Addr} {n k : Nat} {Ls : List GL} {gs : List Gn} (h : GsL w r A n k Ls gs) (E : Nat) (hown : W2.ownsRow 0 99 5 (.slice A (n - E) k) (n - E) (glC (Ls.drop E))) (hbox : Blk W2 r 102 [.slice A (n - E) k]) (t : Turned w W2 (fun j => j = r ∨ (Value.slice A n k).ownBlock = some j)) :
    GsL W2 r A (n - E) k (Ls.drop E) (gs.drop E) ∧ (∀ j, footG r A (n - E) k (Ls.drop E) j → footG r A n k Ls j) ∧ Turned w W2 (footG r A n k Ls) := by
  refine ⟨⟨hbox, by rw [List.length_drop, h.ln], by rw [List.length_drop, h.gn], hown, fun i h1 h2 => ?_, fun i j h1 h2 hij g hg => ?_⟩, fun j hj => ?_, t.mono fun j _ hj => hj.elim .inl fun e => .inr (.inl e)⟩
  · rw [List.length_drop] at h1 h2
    rw [List.getElem_drop, List.getElem_drop]
    refine (h.el (E + i) (by omega) (by omega)).turned t (fun q hq e => ?_)
    rcases e with e | e
    · exact h.r_row (List.getElem_mem _) (by rw [← e]; exact hq)
    · exact h.own_row (List.getElem_mem _) e hq
  · rw [List.length_drop] at h1 h2
    rw [List.getElem_drop] at hg ⊢
    exact h.ap (E + i) (E + j) (by omega) (by omega) (by omega) g hg
  · rcases hj with e | e | ⟨L, hL, e⟩
    · exact .inl e
    · exact .inr (.inl (by
        cases A with
        | none => cases e
        | some a => exact e))
    · exact .inr (.inr ⟨L, List.mem_of_mem_drop hL, e⟩)
set_option maxHeartbeats 1000000 in
theorem forget_any {w : World} {r g n k : Nat} {L : GL} {Lr : List GL} {x : Gn} {gr : List Gn} (h : GsL w r (some ⟨g, 0, none⟩) n k (L :: Lr) (x :: gr)) (m : Nat) (hm : m ≤ x.ps.length) (hn : x.ps.length ≤ 1000000) :
    Calls Tryz.prog 63 #[.pointer (some ⟨g, 0, none⟩), .int .i64 (m : Int)] w fun e w' => e = .returned (.tuple #[]) ∧
      GsL w' r (some ⟨g, 0, none⟩) n k ({ L with v := wrap64 (L.v + (m : Int)), n := L.n - m } :: Lr) ({ x with ps := x.ps.drop m, v := wrap64 (x.v + (m : Int)) } :: gr) ∧
        (∀ j, footG r (some ⟨g, 0, none⟩) n k ({ L with v := wrap64 (L.v + (m : Int)), n := L.n - m } :: Lr) j → footG r (some ⟨g, 0, none⟩) n k (L :: Lr) j ∨ w.heap.size ≤ j) ∧ Turned w w' (footG r (some ⟨g, 0, none⟩) n k (L :: Lr)) := by
  have hn0 : 0 < n := by have := h.ln; simp at this; omega
  have hat := h.el 0 (by simp) (by simp)
  simp only [List.getElem_cons_zero] at hat
  obtain ⟨g', hg', _, hgl, _, _, hc⟩ := gown_at h.own hn0
  obtain rfl : g = g' := by simpa using hg'
  have c1 : w.cell? ⟨g, 1, none⟩ = some (.int .i64 L.v) := hc 1 _ rfl
  have c2 : w.cell? ⟨g, 2, none⟩ = some (.slice L.A L.n L.k) := hc 2 _ rfl
  have HD := kept (delR_any L.A L.n L.k m (rvC x.ps) w hat.own (rvC_one _) (by rw [hat.n]; exact hm) (by rw [hat.n]; exact hn))
  have HH := kept h
  have HAT := kept hat
  have HC1 := kept c1
  clear hg' hgl hc h hat hn hm hn0
  go_enter Tryz.func63, Tryz.ntmps63
  go_wp2_with fail
  with_reducible refine HD.out.mono ?_
  rintro e w1 ⟨rfl, how, hgr⟩
  have h := HH.out
  have t1 : Turned w w1 (fun j => L.row.ownBlock = some j) := Turned.of_grown hgr (fun j e => e)
  have hg1 := gown_turned h.own t1 (fun j hj e => h.own_row (L := L) (by simp) hj e)
  have hne : L.row.ownBlock ≠ some g := fun e => h.own_row (L := L) (by simp) rfl e
  have d2 : w1.cell? ⟨g, 2, none⟩ = some (.slice L.A L.n L.k) := (World.cell?_of_block (t1.block g (h.lt (.inr (.inl rfl))) hne)).trans c2
  have d1 : w1.cell? ⟨g, 1, none⟩ = some (.int .i64 L.v) := (World.cell?_of_block (t1.block g (h.lt (.inr (.inl rfl))) hne)).trans HC1.out
  obtain ⟨cur, hcur⟩ := gown_cl (k := 0) hg1 (g := g) rfl
  have f2 := gfrozen hcur 2
  have f1 := gfrozen hcur 1
  have HR := kept (And.intro how (And.intro t1 hg1))
  clear how hgr t1 hg1 hne hcur h c1 c2
  go_wp2
  go_returns
  have h := HH.out
  have hat := HAT.out
  obtain ⟨how, t1, hg1⟩ := HR.out
  have hs1 := gown_set hg1 2 (.slice L.A (L.n - m) L.k)
  rw [glC_set (L :: Lr) 0 (by simp) 2 (.slice L.A (L.n - m) L.k) { L with n := L.n - m } (by decide) rfl] at hs1
  have hs2 := gown_set hs1 1 (.int .i64 (wrap64 (L.v + (m : Int))))
  rw [glC_set _ 0 (by simp) 1 (.int .i64 (wrap64 (L.v + (m : Int)))) { L with v := wrap64 (L.v + (m : Int)), n := L.n - m } (by decide) rfl, List.set_set] at hs2
  have t9 : Turned w1 ((w1.setCell ⟨g, 2, none⟩ (.slice L.A (L.n - m) L.k)).setCell ⟨g, 1, none⟩ (.int .i64 (wrap64 (L.v + (m : Int))))) (fun j => j = g) := ((Turned.refl w1 (fun j => j = g)).setCell (p := ⟨g, 2, none⟩) (fun _ => rfl) _).setCell (p := ⟨g, 1, none⟩) (fun _ => rfl) _
  rw [rvC_drop] at how
  have hro : ∀ j, (Value.slice L.A (L.n - m) L.k).ownBlock = some j → L.row.ownBlock = some j := fun j hj => by
    unfold GL.row
    cases hA : L.A with
    | none => rw [hA] at hj; cases hj
    | some a => rw [hA] at hj; exact hj
  refine ⟨rfl, h.left_at rfl 0 (by simp) _ { x with ps := x.ps.drop m, v := wrap64 (x.v + (m : Int)) } hs2 ⟨hat.c, by show wrap64 _ = wrap64 _; rw [hat.v], hat.e, by show L.n - m = _; rw [List.length_drop, hat.n], ?_⟩ ?_ ?_⟩
  · exact gown_turned how t9 (fun j hj e => h.own_row (L := L) (by simp) rfl (by rw [← e]; exact hro j hj))
  · exact (t1.mono (fun _ _ e => .inr e)).trans (t9.mono (fun _ _ e => .inl e))
  · exact fun j hj => .inl (hro j hj)
/-- What Compact answers. -/
def compV (o : Option (Rv × Int × Int)) : Value := match o with
  | some (q, _, _) => .tuple #[.agg #[.int .i64 q.1, .int .i64 q.2], .bool true]
  | none => .tuple #[.agg #[.int .i64 0, .int .i64 0], .bool false]
theorem gstore2' {W : World} {b : Nat} {t : TypeId} {x y : Value} (hq : Blk W b t [x, y]) (u v : Value) :
    (((W.setCell ⟨b, 0, none⟩ u).setCell ⟨b, 1, none⟩ v).cell? ⟨b, 0, none⟩ = some u ∧ ((W.setCell ⟨b, 0, none⟩ u).setCell ⟨b, 1, none⟩ v).cell? ⟨b, 1, none⟩ = some v) ∧ Turned W ((W.setCell ⟨b, 0, none⟩ u).setCell ⟨b, 1, none⟩ v) (fun j => j = b) := by
  have h := (hq.set_ 0 u).set_ 1 v
  exact ⟨⟨h.cell 0, h.cell 1⟩, ((Turned.refl W (fun j => j = b)).setCell (p := ⟨b, 0, none⟩) (fun _ => rfl) u).setCell (p := ⟨b, 1, none⟩) (fun _ => rfl) v⟩
set_option maxHeartbeats 2000000 in
theorem gcompact_any {w : World} {r : Nat} {F : Nat → Prop} {gs : List Gn} (h : Gs w r F gs) (hi : GInv gs) {N : Nat} (hN : BdG gs N) (hn : N ≤ 900000) (at_ : Int) :
    Calls Tryz.prog 33 #[.pointer (some ⟨r, 0, none⟩), .int .i64 at_] w fun e w' => e = .returned (compV (getG gs at_)) ∧ GLeft w r F (compactG gs at_) w' := by
  obtain ⟨A, n, k, Ls, h, hF⟩ := h
  have hB0 := (Below.refl w.heap.size w).alloc (Nat.le_refl _) (.cells #[.int .i64 0, .int .i64 0] 29)
  have HK := kept (Blk.new w 29 #[.int .i64 0, .int .i64 0])
  have H0 := kept (h.below hB0)
  have HU := kept (upTo_any H0.out hi hN hn at_)
  have HB := kept hB0
  have hnN : n ≤ N := by rw [← h.gn]; exact hN.1
  have hEn : ebl gs (bnd at_) ≤ n := by rw [← h.gn]; exact ebl_le _ _
  have HD := fun W (h : GsL W r A n k Ls gs) => kept (delG_any A n k (ebl gs (bnd at_)) (glC Ls) W h.own (glC_one _) hEn (by omega))
  have HH := kept h
  have HF := kept hF
  cases hp : (lookG (bnd at_) gs).2 with
  | zero =>
    rw [getG_none hp, compactG_none hi hp]
    rw [hp] at HU
    generalize ebl gs (bnd at_) = E at HU HD hEn ⊢
    clear hp hB0 h hi hN hF
    show Calls _ _ _ _ fun e w' => e = .returned (.tuple #[.agg #[.int .i64 0, .int .i64 0], .bool false]) ∧ GLeft w r F (gs.drop E) w'
    go_enter Tryz.func33, Tryz.ntmps33
    go_wp2_with fail
    generalize w.alloc (.cells #[.int .i64 0, .int .i64 0] 29) = W0 at HK HB HU H0 ⊢
    with_reducible refine HU.out.mono ?_
    rintro e w1 ⟨rfl, hb⟩
    have h1 := H0.out.below hb
    have hr : w1.cell? ⟨r, 0, none⟩ = some (.slice A n k) := h1.box.cell 0
    have HD1 := HD _ h1
    have HH1 := kept (And.intro h1 (And.intro (HK.out.below hb HK.out.lt) (bel_to hb HB.out)))
    clear hb h1
    go_wp2_with fail
    with_reducible refine HD1.out.mono ?_
    rintro e w2 ⟨rfl, how, hgr⟩
    obtain ⟨h1, hk1, hb1⟩ := HH1.out
    have t2 : Turned w1 w2 (fun j => (Value.slice A n k).ownBlock = some j) := Turned.of_grown hgr (fun j e => e)
    have hb2 := t2.blk h1.box (fun e => h1.r_own e)
    have hk2 := t2.blk hk1 (fun e => by obtain ⟨ca, hca⟩ := gown_cl (k := 0) h1.own e; exact ne_of_types hca (show w1.heap[w.heap.size]? = some _ from hk1) (by decide) rfl)
    have hr2 : w2.cell? ⟨r, 0, none⟩ = some (.slice A n k) := hb2.cell 0
    have f2 := hb2.frozen 0
    have q0 : w2.cell? ⟨w.heap.size, 0, none⟩ = some (.int .i64 0) := hk2.cell 0
    have q1 : w2.cell? ⟨w.heap.size, 1, none⟩ = some (.int .i64 0) := hk2.cell 1
    have g0 := hk2.frozen 0
    have g1 := hk2.frozen 1
    have HR := kept (And.intro how (And.intro t2 (And.intro hb2 hk2)))
    clear how hgr t2 hb2 hk2 h1 hk1 hb1 hr
    have hrw : r ≠ w.heap.size := Nat.ne_of_lt HH.out.box.lt
    go_wp2
    obtain ⟨how, t2, hb2, hk2⟩ := HR.out
    obtain ⟨h1, hk1, hb1⟩ := HH1.out
    have hXb := ((hb2.set_ 0 (.slice A (n - E) k)).far (p := ⟨w.heap.size, 0, none⟩) hrw (.int .i64 0)).far (p := ⟨w.heap.size, 1, none⟩) hrw (.int .i64 0)
    have tX : Turned w (((w2.setCell ⟨r, 0, none⟩ (.slice A (n - E) k)).setCell ⟨w.heap.size, 0, none⟩ (.int .i64 0)).setCell ⟨w.heap.size, 1, none⟩ (.int .i64 0)) (fun j => j = r ∨ (Value.slice A n k).ownBlock = some j) := ((((Turned.of_below hb1 (fun j => j = r ∨ (Value.slice A n k).ownBlock = some j)).trans (t2.mono (fun _ _ e => .inr e))).setCell (p := ⟨r, 0, none⟩) (fun _ => .inl rfl) _).setCell (p := ⟨w.heap.size, 0, none⟩) (fun h => absurd h (Nat.lt_irrefl _)) _).setCell (p := ⟨w.heap.size, 1, none⟩) (fun h => absurd h (Nat.lt_irrefl _)) _
    have tY : Turned w2 (((w2.setCell ⟨r, 0, none⟩ (.slice A (n - E) k)).setCell ⟨w.heap.size, 0, none⟩ (.int .i64 0)).setCell ⟨w.heap.size, 1, none⟩ (.int .i64 0)) (fun j => j = r ∨ j = w.heap.size) := (((Turned.refl w2 (fun j => j = r ∨ j = w.heap.size)).setCell (p := ⟨r, 0, none⟩) (fun _ => .inl rfl) _).setCell (p := ⟨w.heap.size, 0, none⟩) (fun _ => .inr rfl) _).setCell (p := ⟨w.heap.size, 1, none⟩) (fun _ => .inr rfl) _
    have hkX := ((hk2.far (p := ⟨r, 0, none⟩) hrw.symm (.slice A (n - E) k)).set_ 0 (.int .i64 0)).set_ 1 (.int .i64 0)
    generalize ((w2.setCell ⟨r, 0, none⟩ (.slice A (n - E) k)).setCell ⟨w.heap.size, 0, none⟩ (.int .i64 0)).setCell ⟨w.heap.size, 1, none⟩ (.int .i64 0) = X at hXb tX tY hkX ⊢
    have hoX := gown_turned how tY (fun j hj e => by
      obtain ⟨ca, hca⟩ := gown_cl (k := 0) how hj
      rcases e with e | e
      · exact ne_of_types hca (show w2.heap[r]? = some _ from hb2) (by decide) e
      · exact ne_of_types hca (show w2.heap[w.heap.size]? = some _ from hk2) (by decide) e)
    rw [glC_drop] at hoX
    obtain ⟨y1, y2, y3⟩ := HH.out.left_drop E hoX hXb tX
    have v0 : X.cell? ⟨w.heap.size, 0, none⟩ = some (.int .i64 0) := hkX.cell 0
    have v1 : X.cell? ⟨w.heap.size, 1, none⟩ = some (.int .i64 0) := hkX.cell 1
    exact bodyPost_ret (v := .tuple #[.agg #[.int .i64 0, .int .i64 0], .bool false]) (by simp [results, Tryz.results33, go_sem, v0, v1]) rfl ⟨rfl, _, ⟨A, n - E, k, _, y1, fun _ => Iff.rfl⟩, fun j hj => .inl ((HF.out j).2 (y2 j hj)), y3.mono fun j _ e => (HF.out j).2 e⟩
  | succ p =>
    obtain ⟨x, z, hx, hz, hg, hcg⟩ := getG_some hi hp
    rw [hg, hcg]
    rw [hp] at HU
    obtain ⟨hl, hxx⟩ := List.getElem?_eq_some_iff.1 hx
    have hxN := hN.2 x (List.mem_of_getElem? hx)
    obtain ⟨hpl, hzz⟩ := List.getElem?_eq_some_iff.1 hz
    have hdg : gs.drop (ebl gs (bnd at_)) = x :: gs.drop (ebl gs (bnd at_) + 1) := by rw [List.drop_eq_getElem_cons hl, hxx]
    have hlL : ebl gs (bnd at_) < Ls.length := by rw [h.ln, ← h.gn]; exact hl
    have hdL : Ls.drop (ebl gs (bnd at_)) = Ls[ebl gs (bnd at_)] :: Ls.drop (ebl gs (bnd at_) + 1) := List.drop_eq_getElem_cons hlL
    have hEn' : ebl gs (bnd at_) < n := by rw [← h.gn]; exact hl
    obtain ⟨g, hA, _⟩ := gown_at h.own (by omega)
    subst hA
    generalize Ls[ebl gs (bnd at_)] = L at hdL
    generalize hE : ebl gs (bnd at_) = E at HU HD hEn hEn' hdg hdL ⊢
    generalize gs.drop (E + 1) = gr at hdg ⊢
    generalize Ls.drop (E + 1) = Lr at hdL
    clear hx hp hg hcg hxx hl hlL hB0 h hi hN hF hE
    show Calls _ _ _ _ fun e w' => e = .returned (.tuple #[.agg #[.int .i64 z.1, .int .i64 z.2], .bool true]) ∧ GLeft w r F _ w'
    have HX := kept (And.intro hdg (And.intro hdL (And.intro hpl (And.intro hz (And.intro hxN hEn')))))
    clear hdg hdL hz hzz hpl hxN hEn hEn'
    go_enter Tryz.func33, Tryz.ntmps33
    go_wp2_with fail
    generalize w.alloc (.cells #[.int .i64 0, .int .i64 0] 29) = W0 at HK HB HU H0 ⊢
    with_reducible refine HU.out.mono ?_
    rintro e w1 ⟨rfl, hb⟩
    have h1 := H0.out.below hb
    have hr : w1.cell? ⟨r, 0, none⟩ = some (.slice (some ⟨g, 0, none⟩) n k) := h1.box.cell 0
    have HD1 := HD _ h1
    have HH1 := kept (And.intro h1 (And.intro (HK.out.below hb HK.out.lt) (bel_to hb HB.out)))
    clear hb h1
    go_wp2_with fail
    with_reducible refine HD1.out.mono ?_
    rintro e w2 ⟨rfl, how, hgr⟩
    obtain ⟨h1, hk1, hb1⟩ := HH1.out
    have t2 : Turned w1 w2 (fun j => (Value.slice (some ⟨g, 0, none⟩) n k).ownBlock = some j) := Turned.of_grown hgr (fun j e => e)
    have hb2 := t2.blk h1.box (fun e => h1.r_own e)
    have hk2 := t2.blk hk1 (fun e => by obtain ⟨ca, hca⟩ := gown_cl (k := 0) h1.own e; exact ne_of_types hca (show w1.heap[w.heap.size]? = some _ from hk1) (by decide) rfl)
    have hr2 : w2.cell? ⟨r, 0, none⟩ = some (.slice (some ⟨g, 0, none⟩) n k) := hb2.cell 0
    have f2 := hb2.frozen 0
    have hrw : r ≠ w.heap.size := Nat.ne_of_lt HH.out.box.lt
    have hXb := hb2.set_ 0 (.slice (some ⟨g, 0, none⟩) (n - E) k)
    have tX : Turned w (w2.setCell ⟨r, 0, none⟩ (.slice (some ⟨g, 0, none⟩) (n - E) k)) (fun j => j = r ∨ (Value.slice (some ⟨g, 0, none⟩) n k).ownBlock = some j) := ((Turned.of_below hb1 (fun j => j = r ∨ (Value.slice (some ⟨g, 0, none⟩) n k).ownBlock = some j)).trans (t2.mono (fun _ _ e => .inr e))).setCell (p := ⟨r, 0, none⟩) (fun _ => .inl rfl) _
    have tY : Turned w2 (w2.setCell ⟨r, 0, none⟩ (.slice (some ⟨g, 0, none⟩) (n - E) k)) (fun j => j = r) := (Turned.refl w2 (fun j => j = r)).setCell (p := ⟨r, 0, none⟩) (fun _ => rfl) _
    have hoX := gown_turned how tY (fun j hj e => by
      obtain ⟨ca, hca⟩ := gown_cl (k := 0) how hj
      exact ne_of_types hca (show w2.heap[r]? = some _ from hb2) (by decide) e)
    rw [glC_drop] at hoX
    have hXX := HH.out.left_drop E hoX hXb tX
    have hkX := hk2.far (p := ⟨r, 0, none⟩) hrw.symm (.slice (some ⟨g, 0, none⟩) (n - E) k)
    rw [HX.out.1, HX.out.2.1] at hXX
    have hrX : (w2.setCell ⟨r, 0, none⟩ (.slice (some ⟨g, 0, none⟩) (n - E) k)).cell? ⟨r, 0, none⟩ = some (.slice (some ⟨g, 0, none⟩) (n - E) k) := hXb.cell 0
    have HFG := kept (forget_any hXX.1 p (by have := HX.out.2.2.1; omega) (by have := HX.out.2.2.2.2.1; omega))
    have HX3 := kept (And.intro hXX hkX)
    have hnE : (0 : Int) < ((n - E : Nat) : Int) := by have := HX.out.2.2.2.2.2; omega
    have hnE' : 0 < n - E := by have := HX.out.2.2.2.2.2; omega
    have hpk : wrap64 (p : Int) = (p : Int) := IntWalk.wrap64_in _ ⟨by omega, by have := HX.out.2.2.1; have := HX.out.2.2.2.2.1; omega⟩
    clear how hgr t2 hb2 hk2 h1 hk1 hb1 hr hXb tX tY hoX hXX hkX
    go_wp2_with fail
    generalize w2.setCell ⟨r, 0, none⟩ (.slice (some ⟨g, 0, none⟩) (n - E) k) = W3 at HX3 HFG hrX ⊢
    clear hr2 f2
    try simp only [hpk]
    with_reducible refine HFG.out.mono ?_
    rintro e w4 ⟨rfl, y1, y2, y3⟩
    obtain ⟨hXX, hkX⟩ := HX3.out
    have hnb : ¬ footG r (some ⟨g, 0, none⟩) (n - E) k (L :: Lr) w.heap.size := fun e => by
      have e2 := hXX.2.1 _ e
      exact absurd (HH.out.lt e2) (Nat.lt_irrefl _)
    have hk4 := y3.blk hkX hnb
    have hat := y1.el 0 (by simp) (by simp)
    simp only [List.getElem_cons_zero] at hat
    obtain ⟨g', hg', _, _, _, _, hc⟩ := gown_at y1.own hnE'
    obtain rfl : g = g' := by simpa using hg'
    have c2 : w4.cell? ⟨g, 2, none⟩ = some (.slice L.A (L.n - p) L.k) := hc 2 _ rfl
    have hz := HX.out.2.2.2.1
    have hpl := HX.out.2.2.1
    obtain ⟨hpl', hzz⟩ := List.getElem?_eq_some_iff.1 hz
    obtain ⟨g2, o2, hA2, z0, z1⟩ := (RdR.of_own hat.own).2 0 (by show 0 < (x.ps.drop p).length; rw [List.length_drop]; omega)
    have hz0 : (x.ps.drop p)[0]'(by rw [List.length_drop]; omega) = z := by rw [List.getElem_drop]; simpa using hzz
    simp only [hz0, Nat.zero_mul, Nat.add_zero] at z0 z1
    have hA2' : L.A = some ⟨g2, o2, none⟩ := hA2
    rw [hA2'] at c2
    have q0 : w4.cell? ⟨w.heap.size, 0, none⟩ = some (.int .i64 0) := hk4.cell 0
    have q1 : w4.cell? ⟨w.heap.size, 1, none⟩ = some (.int .i64 0) := hk4.cell 1
    have g0 := hk4.frozen 0
    have g1 := hk4.frozen 1
    have hLn : (0 : Int) < ((L.n - p : Nat) : Int) := by
      have h1 := hat.n
      have h1 : L.n - p = (x.ps.drop p).length := h1
      rw [List.length_drop] at h1
      omega
    have HY := kept (And.intro y1 (And.intro y2 (And.intro y3 (And.intro hk4 hXX))))
    clear hnb hkX hg' hc hz hpl hz0 hzz hpl' hA2 hA2' y1 y2 y3 hk4 hat hXX hrX
    go_wp2
    obtain ⟨y1, y2, y3, hk4, hXX⟩ := HY.out
    have hx2 := gstore2' hk4 (.int .i64 z.1) (.int .i64 z.2)
    generalize (w4.setCell ⟨w.heap.size, 0, none⟩ (.int .i64 z.1)).setCell ⟨w.heap.size, 1, none⟩ (.int .i64 z.2) = X at hx2 ⊢
    obtain ⟨⟨v0, v1⟩, tX⟩ := hx2
    have hfw : ∀ j, footG r (some ⟨g, 0, none⟩) (n - E) k (L :: Lr) j → footG r (some ⟨g, 0, none⟩) n k Ls j := hXX.2.1
    have hsz := hXX.2.2.size
    have y4 := y1.turned tX (fun j hj e => by
      subst e
      rcases y2 _ hj with e | e
      · exact absurd (HH.out.lt (hfw _ e)) (Nat.lt_irrefl _)
      · have := HX3.out.2.lt
        omega)
    refine bodyPost_ret (v := .tuple #[.agg #[.int .i64 z.1, .int .i64 z.2], .bool true]) (by simp [results, Tryz.results33, go_sem, v0, v1]) rfl ⟨rfl, _, ⟨_, n - E, k, _, y4, fun _ => Iff.rfl⟩, fun j hj => ?_, ?_⟩
    · rcases y2 j hj with e | e
      · exact .inl ((HF.out j).2 (hfw j e))
      · exact .inr (by omega)
    · exact ((hXX.2.2.mono (fun j _ e => (HF.out j).2 e)).trans (y3.mono (fun j _ e => (HF.out j).2 (hfw j e)))).chain tX (fun j hj e => by omega)
end Go.Proofs.YtlckeebbjnhejaaGreat
end
