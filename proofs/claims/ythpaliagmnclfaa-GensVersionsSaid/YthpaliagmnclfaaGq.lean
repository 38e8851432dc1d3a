/-
  package gens: slices.Delete of the first ones: of revisions, of generations; forget, Compact.
-/
import Derived.Test.YthpaliagmnclfaaGo
import Derived.Test.YthpaliagmnclfaaGw
import Derived.Deep.RegionLaw
import Derived.Deep.WholeRow
namespace Go.Proofs.Ythpaliagmnclfaa
open Go.ChangeShapes Go.WideShapes Go.ChangeAt Go.RowKit Go.Deep
set_option linter.unusedVariables false
set_option linter.unusedSimpArgs false
attribute [local go_sem] Oper.semAt_some

theorem gzeros_one {z : Value} (h : ∀ v ∈ z.cells, v.oneCell' = true) (hs : 0 < z.cells.size) (m : Nat) : ∀ v ∈ (Builtin.zeroCells z.cells m).toList, v.oneCell' = true := by
  intro v hv
  unfold Builtin.zeroCells at hv
  simp only [Array.toList_map, List.mem_map, Array.toList_range, List.mem_range] at hv
  obtain ⟨i, _, rfl⟩ := hv
  have hi : i % z.cells.size < z.cells.size := Nat.mod_lt _ hs
  rw [getElem!_pos z.cells (i % z.cells.size) hi]
  exact h _ (Array.getElem_mem hi)
theorem grun_clear {P : Program} (w : World) (t e ty : TypeId) {z : Value} {sz bytes : Nat} (ht : P.underlying t = some (.slice e)) (hinfo : (P.info? e).map (fun i => (i.zero, i.size, i.bytes)) = some (some z, sz, bytes)) (hzs : z.cells.size = sz) (h0s : 0 < sz) (h1 : ∀ v ∈ z.cells, v.oneCell' = true) {g : Nat} {cur : Array Value} (hb : w.heap[g]? = some (.cells cur e (0, 0))) (o m c : Nat) (hm : 0 < m) (hfit : o + m * sz ≤ cur.size) :
    (Builtin.clear_ #[t] ty #[.slice (some ⟨g, o, none⟩) m c]).run P w = .ok (.tuple #[]) (w.setCells g o (Builtin.zeroCells z.cells m).toList) := by
  have hl : (Builtin.zeroCells z.cells m).toList.length = m * sz := by rw [Array.length_toList, size_zeroCells, hzs]
  have hst := run_storeCells_cells (P := P) g o (Builtin.zeroCells z.cells m).toList 0 w (by
    intro j hj
    rw [hl] at hj
    rw [cell_of_row w g _ cur e (0, 0) hb, Array.getElem?_eq_getElem (by omega)]
    rfl) (fun j hj => by simp [World.frozen?, hb]) (gzeros_one h1 (by omega) m)
  rw [Nat.add_zero] at hst
  have hz : ∀ w, (zeroValue e).run P w = .ok z w := by
    obtain ⟨i, hi, hz0, hz1, _⟩ := info_parts hinfo
    exact fun w => (zero_of_info (show (P.info? e).map (fun i => (i.zero, i.size)) = some (some z, sz) by rw [hi]; simp [hz0, hz1])).1 w
  obtain ⟨m', rfl⟩ : ∃ m', m = m' + 1 := ⟨m - 1, by omega⟩
  simp [Builtin.clear_, run_underlying ht, hz, hst]
theorem gown_sets {base size g n k : Nat} {e : TypeId} {xs : List Value} : ∀ (vs : List Value) (o : Nat) (w : World), w.ownsRow base e size (.slice (some ⟨g, 0, none⟩) n k) n xs → n * size ≤ o → (w.setCells g o vs).ownsRow base e size (.slice (some ⟨g, 0, none⟩) n k) n xs
  | [], _, _, h, _ => h
  | v :: r, o, w, h, ho => by
    have h1 : (w.setCell ⟨g, o, none⟩ v).ownsRow base e size (.slice (some ⟨g, 0, none⟩) n k) n xs := by
      have := gown_set h o v
      rwa [List.set_eq_of_length_le (by rw [h.1]; exact ho)] at this
    exact gown_sets r (o + 1) _ h1 (by omega)
theorem gstep_append_ran {P : Program} {ops : Array Oper} {o : Oper} {a : Act} {w : World} {K : Act → World → Prop} {Q : Exit → Act → World → Prop} {E : Prop}
    (hg : o.guard = none) (s x : Operand) (t : TypeId) (hop : o.op = Op.call { callee := Callee.builtin Builtin.append, args := #[s, x], argTypes := #[t, t] }) (v u : Value) (hs : a.eval s = v) (hx : a.eval x = u) {v' : Value} {w' : World}
    (hr : (Builtin.append_ #[t, t] o.type #[v, u]).run P w = .ok v' w') (hK : K (a.put o.dst v') w') : if Region.wanted o (yielded ops a.tmps) = true then Oper.wp P o a w K Q else E := by
  rw [if_pos (by simp [Region.wanted, hg])]
  unfold Oper.wp
  simp [execOp, hop, resolve, invoke, builtin, hs, hx, hr, Result.andThen]
  exact hK
theorem delR_zero (A : Option Addr) (n c : Nat) (w : World) (hnc : n ≤ c) (hc : c ≤ maxLen) (hA : A = none → c = 0) :
    Calls Try.prog 35 #[.slice A n c, .int .i64 0, .int .i64 0] w fun e w' => e = .returned (.slice A n c) ∧ w' = w := by
  have hc' : (c : Int) ≤ 9223372036854775807 := by unfold maxLen at hc; omega
  have hn0 : (0 : Int) ≤ (n : Int) := by omega
  have hn1 : (n : Int) ≤ (c : Int) := by omega
  go_enter Try.func35, Try.ntmps35
  cases A with
  | none =>
    obtain rfl := hA rfl
    obtain rfl : n = 0 := by omega
    go_wp2
    go_returns
    exact ⟨rfl, rfl⟩
  | some a =>
    go_wp2
    go_returns
    exact ⟨rfl, rfl⟩
set_option maxRecDepth 100000 in
set_option maxHeartbeats 2000000 in
theorem delR_some (g q m c : Nat) (V : List Value) (w : World) (h : w.ownsRow 0 29 2 (.slice (some ⟨g, 0, none⟩) (q + m) c) (q + m) V) (h1c : ∀ u ∈ V, u.oneCell' = true) (hm : 0 < m) (hn : q + m ≤ 1000000) :
    Calls Try.prog 35 #[.slice (some ⟨g, 0, none⟩) (q + m) c, .int .i64 0, .int .i64 (m : Int)] w fun e w' => e = .returned (.slice (some ⟨g, 0, none⟩) q c) ∧ w'.ownsRow 0 29 2 (.slice (some ⟨g, 0, none⟩) q c) q (V.drop (m * 2)) ∧ w.grownBy w' (some g) := by
  have hlen := h.1
  obtain ⟨hnc, hcm, _⟩ := gown_cap h
  have hpre : w.ownsRow 0 29 2 (.slice (some ⟨g, 0, none⟩) 0 c) 0 [] := by
    rcases h.2 with ⟨h0, _⟩ | ⟨g', cap', cur, hv, hbg', hg, hnc', hcm', hcs', htake⟩
    · simp at h0
    · simp only [Value.slice.injEq, Option.some.injEq, Addr.mk.injEq, and_true, true_and] at hv
      obtain ⟨rfl, rfl⟩ := hv
      exact ⟨by simp, .inr ⟨g, c, cur, rfl, hbg', hg, by omega, hcm', hcs', by simp⟩⟩
  obtain ⟨i0, hi0, hz0, hz1, hz2⟩ := info_parts revinfo
  obtain ⟨ad, had, hsrc⟩ : ∃ ad : Addr, (if c = m then some (⟨g, 0, none⟩ : Addr) else some ⟨g, m * 2, none⟩) = some ad ∧ ∀ j u, (V.drop (m * 2))[j]? = some u → w.cell? (ad.add j) = some u := by
    by_cases hc1 : c = m
    · refine ⟨⟨g, 0, none⟩, by rw [if_pos hc1], fun j u hu => ?_⟩
      have hj := (List.getElem?_eq_some_iff.1 hu).1
      rw [List.length_drop, hlen] at hj
      omega
    refine ⟨⟨g, m * 2, none⟩, by rw [if_neg hc1], fun j u hu => ?_⟩
    rw [gadd_at]
    rw [List.getElem?_drop] at hu
    have := h.cells (g := g) rfl _ _ hu
    rw [gadd_at, Nat.zero_add] at this
    exact this
  obtain ⟨w1, hrun, how, hgr⟩ := run_append_fits (P := Try.prog) w.drew 0 58 58 29 i0 2 Try.underlying58 hi0 hz1 g 0 c _ hpre.drew ad q (c - m) (V.drop (m * 2)) (by rw [List.length_drop, hlen]; omega) hsrc (fun u hu => h1c u (List.mem_of_mem_drop hu)) (by omega)
  rw [Nat.zero_add, List.nil_append] at how
  rw [Nat.zero_add] at hrun
  obtain ⟨cur1, hb1⟩ := gown_cl (k := 0) how (g := g) rfl
  have hfit : q * 2 + m * 2 ≤ cur1.size := by
    rcases how.2 with ⟨h0, _⟩ | ⟨g', cap', cur, hv, hbg', hg, hnc', hcm', hcs', htake⟩
    · simp at h0
    · simp only [Value.slice.injEq, Option.some.injEq, Addr.mk.injEq, and_true, true_and] at hv
      obtain ⟨rfl, rfl⟩ := hv
      rw [hb1] at hg
      injection hg with hg
      injection hg with hg _ _
      rw [hg, hcs', ← Nat.add_mul]
      exact Nat.mul_le_mul_right _ hnc
  have hclr := grun_clear (P := Try.prog) w1 58 29 0 Try.underlying58 revinfo rfl (by decide) (by intro v hv; simp [Value.cells] at hv; rw [hv]; rfl) hb1 (q * 2) m (c - q) hm hfit
  have HO := kept (gown_sets (Builtin.zeroCells (.agg #[.int .i64 0, .int .i64 0] : Value).cells m).toList (q * 2) w1 how (Nat.le_refl _))
  have hgs := (grown_setCells g (Builtin.zeroCells (.agg #[.int .i64 0, .int .i64 0] : Value).cells m).toList (q * 2) w1).1
  have HG : Hid (w.grownBy (w1.setCells g (q * 2) (Builtin.zeroCells (.agg #[.int .i64 0, .int .i64 0] : Value).cells m).toList) (some g)) := kept ⟨hgs.os.trans hgr.os, hgs.tape.trans hgr.tape, hgs.output.trans hgr.output, Nat.le_trans hgr.size hgs.size, fun k hk hne => (hgs.block k (Nat.lt_of_lt_of_le hk hgr.size) hne).trans (hgr.block k hk hne)⟩
  generalize w1.setCells g (q * 2) (Builtin.zeroCells (.agg #[.int .i64 0, .int .i64 0] : Value).cells m).toList = W2 at hclr HO HG
  have hqm : q + m - m = q := by omega
  have hqm2 : (q : Int) + (m : Int) - (q : Int) = (m : Int) := by omega
  have hqm3 : q + m - q = m := by omega
  have hmqm : (m : Int) ≤ (q : Int) + (m : Int) := by omega
  have hmc : m ≤ c := by omega
  have hqc : q + m ≤ c := hnc
  have hqc1 : q ≤ c := by omega
  have hm0 : ((0 : Int) == (m : Int)) = false := by simp; omega
  have hm0' : ¬ (0 : Int) = (m : Int) := by omega
  have HR := kept hrun
  clear hlen hpre hsrc hrun how hgr hb1 h hi0 hz0 hz1 hz2 hfit hgs
  have hcm' : (c : Int) ≤ 9223372036854775807 := by unfold maxLen at hcm; omega
  have hwr : IntKind.i64.wrap ((q : Int) + (m : Int)) = (q : Int) + (m : Int) := IntWalk.i64_in _ ⟨by omega, by omega⟩
  go_enter Try.func35, Try.ntmps35
  go_wp2
  go_region_law (refine gstep_append_ran rfl _ _ _ rfl _ _ rfl rfl HR.out ?_)
  go_wp2
  go_returns
  exact ⟨rfl, HO.out, HG.out⟩
theorem delR_any (A : Option Addr) (n c m : Nat) (V : List Value) (w : World) (h : w.ownsRow 0 29 2 (.slice A n c) n V) (h1c : ∀ u ∈ V, u.oneCell' = true) (hm : m ≤ n) (hn : n ≤ 1000000) :
    Calls Try.prog 35 #[.slice A n c, .int .i64 0, .int .i64 (m : Int)] w fun e w' => e = .returned (.slice A (n - m) c) ∧ w'.ownsRow 0 29 2 (.slice A (n - m) c) (n - m) (V.drop (m * 2)) ∧ w.grownBy w' (Value.slice A n c).ownBlock := by
  obtain ⟨h1, h2, h3⟩ := gown_cap h
  rcases Nat.eq_zero_or_pos m with h0 | h0
  · subst h0
    refine (delR_zero A n c w h1 h2 (fun e => (h3 e).2)).mono ?_
    rintro e w' ⟨rfl, rfl⟩
    rw [Nat.sub_zero, Nat.zero_mul, List.drop_zero]
    exact ⟨rfl, h, ⟨rfl, rfl, rfl, Nat.le_refl _, fun _ _ _ => rfl⟩⟩
  · obtain ⟨g, rfl, _⟩ := gown_at h (by omega)
    obtain ⟨q, rfl⟩ : ∃ q, n = q + m := ⟨n - m, by omega⟩
    rw [show q + m - m = q by omega]
    exact delR_some g q m c V w h h1c h0 hn
theorem delG_zero (A : Option Addr) (n c : Nat) (w : World) (hnc : n ≤ c) (hc : c ≤ maxLen) (hA : A = none → c = 0) :
    Calls Try.prog 19 #[.slice A n c, .int .i64 0, .int .i64 0] w fun e w' => e = .returned (.slice A n c) ∧ w' = w := by
  have hc' : (c : Int) ≤ 9223372036854775807 := by unfold maxLen at hc; omega
  have hn0 : (0 : Int) ≤ (n : Int) := by omega
  have hn1 : (n : Int) ≤ (c : Int) := by omega
  go_enter Try.func19, Try.ntmps19
  cases A with
  | none =>
    obtain rfl := hA rfl
    obtain rfl : n = 0 := by omega
    go_wp2
    go_returns
    exact ⟨rfl, rfl⟩
  | some a =>
    go_wp2
    go_returns
    exact ⟨rfl, rfl⟩
set_option maxRecDepth 100000 in
set_option maxHeartbeats 2000000 in
theorem delG_some (g q m c : Nat) (V : List Value) (w : World) (h : w.ownsRow 0 60 5 (.slice (some ⟨g, 0, none⟩) (q + m) c) (q + m) V) (h1c : ∀ u ∈ V, u.oneCell' = true) (hm : 0 < m) (hn : q + m ≤ 1000000) :
    Calls Try.prog 19 #[.slice (some ⟨g, 0, none⟩) (q + m) c, .int .i64 0, .int .i64 (m : Int)] w fun e w' => e = .returned (.slice (some ⟨g, 0, none⟩) q c) ∧ w'.ownsRow 0 60 5 (.slice (some ⟨g, 0, none⟩) q c) q (V.drop (m * 5)) ∧ w.grownBy w' (some g) := by
  have hlen := h.1
  obtain ⟨hnc, hcm, _⟩ := gown_cap h
  have hpre : w.ownsRow 0 60 5 (.slice (some ⟨g, 0, none⟩) 0 c) 0 [] := by
    rcases h.2 with ⟨h0, _⟩ | ⟨g', cap', cur, hv, hbg', hg, hnc', hcm', hcs', htake⟩
    · simp at h0
    · simp only [Value.slice.injEq, Option.some.injEq, Addr.mk.injEq, and_true, true_and] at hv
      obtain ⟨rfl, rfl⟩ := hv
      exact ⟨by simp, .inr ⟨g, c, cur, rfl, hbg', hg, by omega, hcm', hcs', by simp⟩⟩
  obtain ⟨i0, hi0, hz0, hz1, hz2⟩ := info_parts geninfo
  obtain ⟨ad, had, hsrc⟩ : ∃ ad : Addr, (if c = m then some (⟨g, 0, none⟩ : Addr) else some ⟨g, m * 5, none⟩) = some ad ∧ ∀ j u, (V.drop (m * 5))[j]? = some u → w.cell? (ad.add j) = some u := by
    by_cases hc1 : c = m
    · refine ⟨⟨g, 0, none⟩, by rw [if_pos hc1], fun j u hu => ?_⟩
      have hj := (List.getElem?_eq_some_iff.1 hu).1
      rw [List.length_drop, hlen] at hj
      omega
    refine ⟨⟨g, m * 5, none⟩, by rw [if_neg hc1], fun j u hu => ?_⟩
    rw [gadd_at]
    rw [List.getElem?_drop] at hu
    have := h.cells (g := g) rfl _ _ hu
    rw [gadd_at, Nat.zero_add] at this
    exact this
  obtain ⟨w1, hrun, how, hgr⟩ := run_append_fits (P := Try.prog) w.drew 0 52 52 60 i0 5 Try.underlying52 hi0 hz1 g 0 c _ hpre.drew ad q (c - m) (V.drop (m * 5)) (by rw [List.length_drop, hlen]; omega) hsrc (fun u hu => h1c u (List.mem_of_mem_drop hu)) (by omega)
  rw [Nat.zero_add, List.nil_append] at how
  rw [Nat.zero_add] at hrun
  obtain ⟨cur1, hb1⟩ := gown_cl (k := 0) how (g := g) rfl
  have hfit : q * 5 + m * 5 ≤ cur1.size := by
    rcases how.2 with ⟨h0, _⟩ | ⟨g', cap', cur, hv, hbg', hg, hnc', hcm', hcs', htake⟩
    · simp at h0
    · simp only [Value.slice.injEq, Option.some.injEq, Addr.mk.injEq, and_true, true_and] at hv
      obtain ⟨rfl, rfl⟩ := hv
      rw [hb1] at hg
      injection hg with hg
      injection hg with hg _ _
      rw [hg, hcs', ← Nat.add_mul]
      exact Nat.mul_le_mul_right _ hnc
  have hclr := grun_clear (P := Try.prog) w1 52 60 0 Try.underlying52 geninfo rfl (by decide) (by intro v hv; simp [Value.cells] at hv; rcases hv with h9 | h9 | h9 <;> (rw [h9]; rfl)) hb1 (q * 5) m (c - q) hm hfit
  have HO := kept (gown_sets (Builtin.zeroCells (.agg #[.int .i64 0, .int .i64 0, .slice none 0 0, .int .i64 0, .int .i64 0] : Value).cells m).toList (q * 5) w1 how (Nat.le_refl _))
  have hgs := (grown_setCells g (Builtin.zeroCells (.agg #[.int .i64 0, .int .i64 0, .slice none 0 0, .int .i64 0, .int .i64 0] : Value).cells m).toList (q * 5) w1).1
  have HG : Hid (w.grownBy (w1.setCells g (q * 5) (Builtin.zeroCells (.agg #[.int .i64 0, .int .i64 0, .slice none 0 0, .int .i64 0, .int .i64 0] : Value).cells m).toList) (some g)) := kept ⟨hgs.os.trans hgr.os, hgs.tape.trans hgr.tape, hgs.output.trans hgr.output, Nat.le_trans hgr.size hgs.size, fun k hk hne => (hgs.block k (Nat.lt_of_lt_of_le hk hgr.size) hne).trans (hgr.block k hk hne)⟩
  generalize w1.setCells g (q * 5) (Builtin.zeroCells (.agg #[.int .i64 0, .int .i64 0, .slice none 0 0, .int .i64 0, .int .i64 0] : Value).cells m).toList = W2 at hclr HO HG
  have hqm : q + m - m = q := by omega
  have hqm2 : (q : Int) + (m : Int) - (q : Int) = (m : Int) := by omega
  have hqm3 : q + m - q = m := by omega
  have hmqm : (m : Int) ≤ (q : Int) + (m : Int) := by omega
  have hmc : m ≤ c := by omega
  have hqc : q + m ≤ c := hnc
  have hqc1 : q ≤ c := by omega
  have hm0 : ((0 : Int) == (m : Int)) = false := by simp; omega
  have hm0' : ¬ (0 : Int) = (m : Int) := by omega
  have HR := kept hrun
  clear hlen hpre hsrc hrun how hgr hb1 h hi0 hz0 hz1 hz2 hfit hgs
  have hcm' : (c : Int) ≤ 9223372036854775807 := by unfold maxLen at hcm; omega
  have hwr : IntKind.i64.wrap ((q : Int) + (m : Int)) = (q : Int) + (m : Int) := IntWalk.i64_in _ ⟨by omega, by omega⟩
  go_enter Try.func19, Try.ntmps19
  go_wp2
  go_region_law (refine gstep_append_ran rfl _ _ _ rfl _ _ rfl rfl HR.out ?_)
  go_wp2
  go_returns
  exact ⟨rfl, HO.out, HG.out⟩
theorem delG_any (A : Option Addr) (n c m : Nat) (V : List Value) (w : World) (h : w.ownsRow 0 60 5 (.slice A n c) n V) (h1c : ∀ u ∈ V, u.oneCell' = true) (hm : m ≤ n) (hn : n ≤ 1000000) :
    Calls Try.prog 19 #[.slice A n c, .int .i64 0, .int .i64 (m : Int)] w fun e w' => e = .returned (.slice A (n - m) c) ∧ w'.ownsRow 0 60 5 (.slice A (n - m) c) (n - m) (V.drop (m * 5)) ∧ w.grownBy w' (Value.slice A n c).ownBlock := by
  obtain ⟨h1, h2, h3⟩ := gown_cap h
  rcases Nat.eq_zero_or_pos m with h0 | h0
  · subst h0
    refine (delG_zero A n c w h1 h2 (fun e => (h3 e).2)).mono ?_
    rintro e w' ⟨rfl, rfl⟩
    rw [Nat.sub_zero, Nat.zero_mul, List.drop_zero]
    exact ⟨rfl, h, ⟨rfl, rfl, rfl, Nat.le_refl _, fun _ _ _ => rfl⟩⟩
  · obtain ⟨g, rfl, _⟩ := gown_at h (by omega)
    obtain ⟨q, rfl⟩ : ∃ q, n = q + m := ⟨n - m, by omega⟩
    rw [show q + m - m = q by omega]
    exact delG_some g q m c V w h h1c h0 hn
end Go.Proofs.Ythpaliagmnclfaa
