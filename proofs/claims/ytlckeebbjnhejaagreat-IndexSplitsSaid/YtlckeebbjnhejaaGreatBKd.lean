/-
  Texts laid together: Kd Ke Kf Kg Kh Ki Kj.
-/
import Derived.Test.YtlckeebbjnhejaaGreatBKb
import Derived.Lib.AppendZerosOnto
import Derived.Lib.Overlaps
import Derived.Laws.IdiomCopy
import Derived.Test.YtlckeebbjnhejaaGreatBBase
import Derived.Test.YtlckeebbjnhejaaGreatBHnd
section
/-
  package index: slices.Insert of an entry at any place.
-/
namespace Go.Proofs.YtlckeebbjnhejaaGreat
open Go.ChangeShapes Go.WideShapes Go.ChangeAt Go.RowKit Go.Deep
set_option linter.unusedVariables false
set_option linter.unusedSimpArgs false

theorem xentinfo : (Tryz.prog.info? 67).map (fun i => (i.zero, i.size, i.bytes)) = some (some (.agg #[.slice none 0 0, .pointer none]), 2, 32) := by kernel_rfl
/-- copy of elements of any size, all read before anything is written. -/
theorem run_copy_k {P : Program} (w : World) (dT sT ty elem : TypeId) (b o dLen dCap : Nat) (a : Addr) (sLen sCap : Nat) (cs : List Value) (sz m : Nat)
    (hu : P.underlying dT = some (.slice elem)) (hs : (P.info? elem).map (·.size) = some sz) (hm : Nat.min sLen dLen = m) (hn : cs.length = m * sz)
    (hsrc : ∀ j v, cs[j]? = some v → w.cell? (a.add j) = some v) (hc : ∀ j, j < cs.length → (w.cell? ⟨b, o + j, none⟩).isSome = true) (hf : ∀ j, j < cs.length → w.frozen? ⟨b, o + j, none⟩ = false) (h1 : ∀ v ∈ cs, v.oneCell' = true) :
    (Builtin.copy_ #[dT, sT] ty #[.slice (some ⟨b, o, none⟩) dLen dCap, .slice (some a) sLen sCap]).run P w = .ok (goInt m) (w.setCells b o cs) := by
  have hl := run_firstCells_some (P := P) w sz m a sLen sCap cs hn hsrc
  have hst := run_storeCells_cells (P := P) b o cs 0 w (by simpa using hc) (by simpa using hf) h1
  cases hq : P.info? elem with
  | none => simp [hq] at hs
  | some i =>
    have hi : i.size = sz := by simpa [hq] using hs
    simp [Builtin.copy_, run_underlying hu, Builtin.lenOf, sizeOf, typeInfo, hq, hi, hm, hl, hst]
theorem wpList_copy_ran {P : Program} (w : World) {ops : Array Oper} {rest : List Oper} {o : Oper} {a : Act} {Q : Exit → Act → World → Prop} (hgd : o.guard = none) (d s : Operand) (t t' : TypeId)
    (ho : o.op = .call { callee := .builtin .copy, args := #[d, s], argTypes := #[t, t'] }) (v u : Value) (hd : a.eval d = v) (hs : a.eval s = u) {v' : Value} {w' : World}
    (hr : (Builtin.copy_ #[t, t'] o.type #[v, u]).run P w = .ok v' w') (h : wpList P ops Q rest (a.put o.dst v') w') : wpList P ops Q (o :: rest) a w :=
  wpList_plain hgd fun _ hK => by
    unfold Oper.wp execOp
    simp only [ho, resolve, invoke, builtin, Sem.run_bind, Sem.run_pure, Result.andThen_ok, List.map_toArray, List.map_cons, List.map_nil, hd, hs, hr]
    exact hK _ _ h
theorem step_copy_ran {P : Program} {ops : Array Oper} {o : Oper} {a : Act} {w : World} {K : Act → World → Prop} {Q : Exit → Act → World → Prop} {E : Prop}
    (hg : o.guard = none) (d x : Operand) (dT sT : TypeId) (hop : o.op = Op.call { callee := Callee.builtin Builtin.copy, args := #[d, x], argTypes := #[dT, sT] })
    (v u : Value) (hd : a.eval d = v) (hx : a.eval x = u) {v' : Value} {w' : World} (hr : (Builtin.copy_ #[dT, sT] o.type #[v, u]).run P w = .ok v' w') (hK : K (a.put o.dst v') w') :
    if Region.wanted o (yielded ops a.tmps) = true then Oper.wp P o a w K Q else E := by
  have hw : Region.wanted o (yielded ops a.tmps) = true := by simp [Region.wanted, hg]
  rw [if_pos hw]
  unfold Oper.wp
  simp [execOp, hop, resolve, invoke, builtin, hd, hx, hr, Result.andThen]
  exact hK
theorem isSome_sets (b : Nat) (vs : List Value) (o : Nat) (w : World) (h : ∀ j, j < vs.length → (w.cell? ⟨b, o + j, none⟩).isSome = true) (k : Nat) (hk : (w.cell? ⟨b, k, none⟩).isSome = true) : ((w.setCells b o vs).cell? ⟨b, k, none⟩).isSome = true := by
  by_cases hin : o ≤ k ∧ k < o + vs.length
  · have := World.cell?_setCells_in b vs o w h (k - o) (by omega)
    rw [show o + (k - o) = k by omega] at this
    rw [this]; rfl
  · rw [World.cell?_setCells_out b vs o w ⟨b, k, none⟩ (fun _ _ => by show k < o ∨ o + vs.length ≤ k; omega)]
    exact hk
/-- A row whose cells are known is owned. -/
theorem own_of_cells {w : World} {base g n c sz : Nat} {e : TypeId} {xs : List Value} {cur : Array Value} (hg : w.heap[g]? = some (.cells cur e (0, 0))) (hb : base ≤ g) (hnc : n ≤ c) (hcm : c ≤ maxLen) (hcs : cur.size = c * sz) (hl : xs.length = n * sz) (hc : ∀ j, j < n * sz → w.cell? ⟨g, j, none⟩ = xs[j]?) : w.ownsRow base e sz (.slice (some ⟨g, 0, none⟩) n c) n xs := by
  have hB : Blk w g e cur.toList := by simpa [Blk] using hg
  refine ⟨hl, .inr ⟨g, c, cur, rfl, hb, hg, hnc, hcm, hcs, ?_⟩⟩
  apply List.ext_getElem?
  intro j
  by_cases hj : j < n * sz
  · rw [List.getElem?_take_of_lt hj, ← hc j hj, hB.cell]
  · rw [List.getElem?_eq_none (by rw [List.length_take]; omega), List.getElem?_eq_none (by omega)]
/-- What an insertion makes of a row's cells. -/
def insC (V : List Value) (i : Nat) (ys : List Value) : List Value := V.take (i * 2) ++ ys ++ V.drop (i * 2)
theorem insC_at {V ys : List Value} {i n : Nat} (hl : V.length = n * 2) (hi : i ≤ n) (hy : ys.length = 2) (j : Nat) : (insC V i ys)[j]? = if j < i * 2 then V[j]? else if j < (i + 1) * 2 then ys[j - i * 2]? else V[j - 2]? := by
  unfold insC
  have ht : (V.take (i * 2)).length = i * 2 := by rw [List.length_take]; omega
  by_cases h1 : j < i * 2
  · rw [if_pos h1, List.append_assoc, List.getElem?_append_left (by omega), List.getElem?_take_of_lt h1]
  · rw [if_neg h1]
    by_cases h2 : j < (i + 1) * 2
    · rw [if_pos h2, List.append_assoc, List.getElem?_append_right (by omega), List.getElem?_append_left (by omega), ht]
    · rw [if_neg h2, List.getElem?_append_right (by rw [List.length_append]; omega), List.length_append, ht, hy, List.getElem?_drop]
      congr 1
      omega
theorem insC_length {V ys : List Value} {i n : Nat} (hl : V.length = n * 2) (hi : i ≤ n) (hy : ys.length = 2) : (insC V i ys).length = (n + 1) * 2 := by
  unfold insC
  simp only [List.length_append, List.length_take, List.length_drop]
  omega
set_option maxRecDepth 100000 in
set_option maxHeartbeats 4000000 in
theorem insE_end (A : Option Addr) (n c vb : Nat) (V : List Value) (u v : Value) (w : World) (h : w.ownsRow 0 67 2 (.slice A n c) n V) (hn : n ≤ 900000) (hv : Blk w vb 67 [u, v]) (hu1 : u.oneCell' = true) (hv1 : v.oneCell' = true) :
    Calls Tryz.prog 81 #[.slice A n c, .int .i64 (n : Int), .slice (some ⟨vb, 0, none⟩) 1 1] w fun e w' => ∃ A' c', e = .returned (.slice A' (n + 1) c') ∧ Hid (w'.ownsRow 0 67 2 (.slice A' (n + 1) c') (n + 1) (V ++ [u, v]) ∧ Turned w w' (fun j => (Value.slice A n c).ownBlock = some j) ∧ ∀ g, (Value.slice A' (n + 1) c').ownBlock = some g → (Value.slice A n c).ownBlock = some g ∨ w.heap.size ≤ g) := by
  have HO := kept h
  have HV := kept hv
  have h1 : ∀ x ∈ [u, v], x.oneCell' = true := by intro x hx; simp only [List.mem_cons, List.not_mem_nil, or_false] at hx; rcases hx with rfl | rfl <;> assumption
  have H1 := kept h1
  obtain ⟨hnc, hcm, hA⟩ := gown_cap h
  have hcm' : (c : Int) ≤ 9223372036854775807 := by unfold maxLen at hcm; omega
  clear h hv h1 hu1 hv1 hcm
  cases A with
  | none =>
    obtain ⟨rfl, rfl⟩ := hA rfl
    go_enter Tryz.func81, Tryz.ntmps81
    go_wp2_with (first | (at_builtin; refine wpList_append_g rfl _ _ 68 rfl 67 ⟨vb, 0, none⟩ rfl rfl Tryz.underlying68 xentinfo rfl (by decide) (by decide) HO.out (ys := [u, v]) rfl (fun j x hj => by rw [gadd_at, Nat.zero_add, HV.out.cell j]; exact hj) H1.out (by omega) (Nat.zero_le _) ?_; intro A3 c3 w3 hown3 hg3 hl3; have HO3 := kept (And.intro hown3 (And.intro hg3 hl3)); clear hown3 hg3 hl3))
    go_returns
    obtain ⟨ho, hg, hl⟩ := HO3.out
    exact ⟨A3, c3, rfl, kept ⟨ho, Turned.of_grown hg (fun j e => e), fun g hg2 => hl.elim (fun e => .inl (e.symm.trans hg2)) (fun e => .inr (by have := e.symm.trans hg2; injection this with e2; omega))⟩⟩
  | some a =>
    clear hA
    obtain ⟨ab, ao, asp⟩ := a
    go_enter Tryz.func81, Tryz.ntmps81
    go_wp2_with (first | (at_builtin; refine wpList_append_g rfl _ _ 68 rfl 67 ⟨vb, 0, none⟩ rfl rfl Tryz.underlying68 xentinfo rfl (by decide) (by decide) HO.out (ys := [u, v]) rfl (fun j x hj => by rw [gadd_at, Nat.zero_add, HV.out.cell j]; exact hj) H1.out (by omega) (Nat.zero_le _) ?_; intro A3 c3 w3 hown3 hg3 hl3; have HO3 := kept (And.intro hown3 (And.intro hg3 hl3)); clear hown3 hg3 hl3))
    all_goals
      go_returns
      obtain ⟨ho, hg, hl⟩ := HO3.out
      exact ⟨_, _, rfl, kept ⟨ho, Turned.of_grown hg (fun j e => e), fun g hg2 => hl.elim (fun e => .inl (e.symm.trans hg2)) (fun e => .inr (by have := e.symm.trans hg2; injection this with e2; omega))⟩⟩
end Go.Proofs.YtlckeebbjnhejaaGreat
end

section
/-
  package index: slices.Insert of an entry: in place.
-/
namespace Go.Proofs.YtlckeebbjnhejaaGreat
open Go.ChangeShapes Go.WideShapes Go.ChangeAt Go.RowKit Go.Deep
set_option linter.unusedVariables false
set_option linter.unusedSimpArgs false

set_option maxRecDepth 100000 in
set_option maxHeartbeats 4000000 in
theorem insE_room (g n c i vb : Nat) (V : List Value) (u v : Value) (w : World) (h : w.ownsRow 0 67 2 (.slice (some ⟨g, 0, none⟩) n c) n V) (hV1 : ∀ x ∈ V, x.oneCell' = true) (hn : n ≤ 900000) (hi : i < n) (hroom : n + 1 ≤ c) (hv : Blk w vb 67 [u, v]) (hne : vb ≠ g) (hu1 : u.oneCell' = true) (hv1 : v.oneCell' = true) :
    Calls Tryz.prog 81 #[.slice (some ⟨g, 0, none⟩) n c, .int .i64 (i : Int), .slice (some ⟨vb, 0, none⟩) 1 1] w fun e w' => e = .returned (.slice (some ⟨g, 0, none⟩) (n + 1) c) ∧ Hid (w'.ownsRow 0 67 2 (.slice (some ⟨g, 0, none⟩) (n + 1) c) (n + 1) (insC V i [u, v]) ∧ Turned w w' (fun j => j = g)) := by
  have h1 : ∀ x ∈ [u, v], x.oneCell' = true := by intro x hx; simp only [List.mem_cons, List.not_mem_nil, or_false] at hx; rcases hx with rfl | rfl <;> assumption
  obtain ⟨hnc, hcm, _⟩ := gown_cap h
  have hcm' : (c : Int) ≤ 9223372036854775807 := by unfold maxLen at hcm; omega
  have hVl := h.1
  obtain ⟨cur, hg, hcs, hcV⟩ : ∃ cur : Array Value, w.heap[g]? = some (.cells cur 67 (0, 0)) ∧ cur.size = c * 2 ∧ ∀ j x, V[j]? = some x → w.cell? ⟨g, j, none⟩ = some x := by
    obtain ⟨g2, e, _, _, _, _, hc⟩ := gown_at h (by omega)
    injection e with e; injection e with e
    subst e
    rcases h.2 with ⟨e0, h0⟩ | ⟨g', cap, cur, hv', hb, hh, r1, r2, r3, r4⟩
    · omega
    · injection hv' with hA _ hc2
      injection hA with hA; injection hA with hA
      subst hA hc2
      exact ⟨cur, hh, r3, hc⟩
  have hB : Blk w g 67 cur.toList := by simpa [Blk] using hg
  have hsome : ∀ j, j < c * 2 → (w.cell? ⟨g, j, none⟩).isSome = true := fun j hj => by rw [hB.cell, List.getElem?_eq_getElem (by simpa [hcs] using hj)]; rfl
  have hfz : ∀ j, w.frozen? ⟨g, j, none⟩ = false := fun j => hB.frozen j
  have hsz : (Tryz.prog.info? 67).map (·.size) = some 2 := by kernel_rfl
  have hov : ∀ lb cb, (callFunc 116 #[.slice (some ⟨vb, 0, none⟩) 1 1, .slice (some ⟨g, (i + 1) * 2, none⟩) lb cb]).run Tryz.prog w = .ok (.value (.bool false)) w := fun lb cb => by
    rw [run_callFunc_extern Tryz.func116 (by kernel_rfl) (by kernel_rfl) (by kernel_rfl) (e := Extern.SlicesOverlaps.overlaps #[68, 68] #[4]) (by kernel_rfl),
      Lib.run_overlaps_apart w 68 4 67 Tryz.underlying68 2 (fun w => by kernel_rfl) ⟨vb, 0, none⟩ ⟨g, (i + 1) * 2, none⟩ 1 1 lb cb hne 67 67 2 (c * 2) (by rw [World.shape?, show w.heap[vb]? = some (.cells #[u, v] 67 (0, 0)) from hv]; rfl) (by rw [World.shape?, hg]; simp [hcs]) (by omega) (hv.frozen 0) (hv.frozen 2)]
    rfl
  have hdl : (V.drop (i * 2)).length = (n - i) * 2 := by rw [List.length_drop, hVl]; omega
  have hb0 : ¬ ((i : Int) = (n : Int)) := by omega
  have hb1 : (0 : Int) ≤ (i : Int) + 1 := by omega
  have hin : i ≤ n := by omega
  have htn : ((i : Int) + 1).toNat = i + 1 := by omega
  have hb2 : ¬ (c = i + 1) := by omega
  have hb3 : (i : Int) ≤ (n : Int) + 1 := by omega
  have hb4 : ¬ (c = i) := by omega
  have hb5 : ¬ ((c : Int) < (n : Int) + 1) := by omega
  have hcp1 : ∀ ty dc sc, (Builtin.copy_ #[68, 68] ty #[.slice (some ⟨g, (i + 1) * 2, none⟩) (n - i) dc, .slice (some ⟨g, i * 2, none⟩) (n + 1 - i) sc]).run Tryz.prog w.drew = .ok (goInt ((n - i : Nat) : Int)) (w.drew.setCells g ((i + 1) * 2) (V.drop (i * 2))) := fun ty dc sc =>
    run_copy_k w.drew _ _ ty 67 g ((i + 1) * 2) (n - i) dc ⟨g, i * 2, none⟩ (n + 1 - i) sc (V.drop (i * 2)) 2 (n - i) Tryz.underlying68 hsz (by simp only [Nat.min_def]; split <;> omega) hdl
      (fun j x hj => by rw [gadd_at]; exact hcV _ _ (by rwa [List.getElem?_drop] at hj))
      (fun j hj => hsome _ (by omega)) (fun j hj => hfz _) (fun x hx => hV1 x (List.mem_of_mem_drop hx))
  obtain ⟨W1, hW1⟩ : ∃ W1, W1 = w.drew.setCells g ((i + 1) * 2) (V.drop (i * 2)) := ⟨_, rfl⟩
  have hsp1 : ∀ k, k < c * 2 → (W1.cell? ⟨g, k, none⟩).isSome = true := fun k hk => by
    rw [hW1]
    exact isSome_sets g (V.drop (i * 2)) ((i + 1) * 2) w.drew (fun j hj => hsome _ (by omega)) k (hsome k hk)
  have hcp2 : ∀ (W : World), (∀ x, W.cell? x = W1.cell? x) → (∀ x, W.frozen? x = W1.frozen? x) → ∀ ty dc, (Builtin.copy_ #[68, 68] ty #[.slice (some ⟨g, i * 2, none⟩) (n + 1 - i) dc, .slice (some ⟨vb, 0, none⟩) 1 1]).run Tryz.prog W = .ok (goInt ((1 : Nat) : Int)) (W.setCells g (i * 2) [u, v]) := fun W hWc hWf ty dc =>
    run_copy_k W _ _ ty 67 g (i * 2) (n + 1 - i) dc ⟨vb, 0, none⟩ 1 1 [u, v] 2 1 Tryz.underlying68 hsz (by simp only [Nat.min_def]; split <;> omega) rfl
      (fun j x hj => by
        rw [gadd_at, hWc, hW1, World.cell?_setCells_out g _ _ _ _ (fun h _ => absurd h hne), Nat.zero_add]
        exact (hv.cell j).trans hj)
      (fun j hj => by rw [hWc]; exact hsp1 _ (by simp at hj; omega)) (fun j hj => by rw [hWf, hW1, World.frozen?_setCells]; exact hfz _) h1
  rw [← hW1] at hcp1
  have HF : Hid ((W1.setCells g (i * 2) [u, v]).ownsRow 0 67 2 (.slice (some ⟨g, 0, none⟩) (n + 1) c) (n + 1) (insC V i [u, v]) ∧ Turned w (W1.setCells g (i * 2) [u, v]) (fun j => j = g)) := by
    have t1 : Turned w W1 (fun j => j = g) := by rw [hW1]; exact ((Turned.refl w (fun j => j = g)).drew).grown (grown_setCells g _ _ _).1 (fun j _ e => (Option.some.inj e).symm)
    have t2 := t1.grown (grown_setCells g [u, v] (i * 2) W1).1 (fun j _ e => (Option.some.inj e).symm)
    obtain ⟨cur1, hg1, hs1⟩ := shape_setCells g 67 (V.drop (i * 2)) ((i + 1) * 2) w.drew cur hg
    rw [← hW1] at hg1
    obtain ⟨cur2, hg2, hs2⟩ := shape_setCells g 67 [u, v] (i * 2) W1 cur1 hg1
    refine ⟨own_of_cells hg2 (Nat.zero_le _) hroom hcm (by omega) (insC_length hVl (by omega) rfl) (fun j hj => ?_), t2⟩
    rw [insC_at hVl (by omega) rfl]
    by_cases j1 : j < i * 2
    · rw [if_pos j1, World.cell?_setCells_out _ _ _ _ _ (fun _ _ => Or.inl (by simpa using j1)), hW1, World.cell?_setCells_out _ _ _ _ _ (fun _ _ => Or.inl (show j < _ by omega))]
      obtain ⟨x, hx⟩ : ∃ x, V[j]? = some x := ⟨_, List.getElem?_eq_getElem (by omega)⟩
      rw [hx]
      exact hcV _ _ hx
    · rw [if_neg j1]
      by_cases j2 : j < (i + 1) * 2
      · rw [if_pos j2]
        have := World.cell?_setCells_in g [u, v] (i * 2) W1 (fun t ht => hsp1 _ (by simp at ht; omega)) (j - i * 2) (by simp; omega)
        rw [show i * 2 + (j - i * 2) = j by omega] at this
        rw [this, List.getElem?_eq_getElem]
      · rw [if_neg j2, World.cell?_setCells_out _ _ _ _ _ (fun _ _ => Or.inr (show i * 2 + [u, v].length ≤ j by simp; omega)), hW1]
        have := World.cell?_setCells_in g (V.drop (i * 2)) ((i + 1) * 2) w.drew (fun t ht => hsome _ (by omega)) (j - (i + 1) * 2) (by omega)
        rw [show (i + 1) * 2 + (j - (i + 1) * 2) = j by omega] at this
        rw [this, List.getElem_drop, List.getElem?_eq_getElem (by omega)]
        congr 2
        omega
  have hw1 : IntKind.i64.wrap ((i : Int) + 1) = (i : Int) + 1 := by rw [IntKind.wrap_i64]; omega
  have hw2 : IntKind.i64.wrap ((n : Int) + 1) = (n : Int) + 1 := by rw [IntKind.wrap_i64]; omega
  have hw3 : wrap64 ((i : Int) + 1) = (i : Int) + 1 := IntWalk.wrap64_in _ ⟨by omega, by omega⟩
  have hw4 : wrap64 ((n : Int) + 1) = (n : Int) + 1 := IntWalk.wrap64_in _ ⟨by omega, by omega⟩
  have HW1 := kept hW1
  clear hW1 hsp1 hsome hfz hcV hB hdl h1 hV1 hu1 hv1 hv h hcm
  go_enter Tryz.func81, Tryz.ntmps81
  go_wp2_with (simp only [hov])
  go_region_law (refine step_copy_ran rfl _ _ 68 68 rfl _ _ (by simp [Act.eval, Act.put]) (by simp [Act.eval, Act.put]) (hcp1 _ _ _) ?_)
  go_wp2_with (at_builtin; refine wpList_copy_ran _ rfl _ _ 68 68 rfl _ _ rfl rfl (hcp2 _ (fun _ => rfl) (fun _ => rfl) _ _) ?_)
  go_returns
  exact ⟨rfl, HF⟩
end Go.Proofs.YtlckeebbjnhejaaGreat
end

section
/-
  package index: slices.Insert of an entry where there is no room; at any place.
-/
namespace Go.Proofs.YtlckeebbjnhejaaGreat
open Go.ChangeShapes Go.WideShapes Go.ChangeAt Go.RowKit Go.Deep
set_option linter.unusedVariables false
set_option linter.unusedSimpArgs false

set_option maxRecDepth 100000 in
set_option maxHeartbeats 4000000 in
theorem insE_grow (g n c i vb : Nat) (V : List Value) (u v : Value) (w : World) (h : w.ownsRow 0 67 2 (.slice (some ⟨g, 0, none⟩) n c) n V) (hV1 : ∀ x ∈ V, x.oneCell' = true) (hn : n ≤ 900000) (hi : i < n) (hroom : c < n + 1) (hv : Blk w vb 67 [u, v]) (hne : vb ≠ g) (hu1 : u.oneCell' = true) (hv1 : v.oneCell' = true) :
    Calls Tryz.prog 81 #[.slice (some ⟨g, 0, none⟩) n c, .int .i64 (i : Int), .slice (some ⟨vb, 0, none⟩) 1 1] w fun e w' => ∃ A' c', e = .returned (.slice A' (n + 1) c') ∧ Hid (w'.ownsRow 0 67 2 (.slice A' (n + 1) c') (n + 1) (insC V i [u, v]) ∧ Below w.heap.size w w' ∧ ∀ j, (Value.slice A' (n + 1) c').ownBlock = some j → w.heap.size ≤ j) := by
  have h1 : ∀ x ∈ [u, v], x.oneCell' = true := by intro x hx; simp only [List.mem_cons, List.not_mem_nil, or_false] at hx; rcases hx with rfl | rfl <;> assumption
  obtain ⟨hnc, hcm, _⟩ := gown_cap h
  have hcm' : (c : Int) ≤ 9223372036854775807 := by unfold maxLen at hcm; omega
  have hVl := h.1
  have hgl : g < w.heap.size := (gown_lt h rfl).2
  have hcV : ∀ j x, V[j]? = some x → w.cell? ⟨g, j, none⟩ = some x := by
    obtain ⟨g2, e, _, _, _, _, hc⟩ := gown_at h (by omega)
    injection e with e; injection e with e
    subst e
    exact hc
  have hvl := hv.lt
  have hsz : (Tryz.prog.info? 67).map (·.size) = some 2 := by kernel_rfl
  obtain ⟨i0, hi0, hz0, hzs, hzb⟩ := info_parts xentinfo
  have hik : i + (n + 1 - i) = n + 1 := by omega
  have hkk : (n : Int) + 1 - (i : Int) = ((n + 1 - i : Nat) : Int) := by omega
  have hold : (Builtin.firstCells i0.size i (.slice (some ⟨g, 0, none⟩) i c)).run Tryz.prog w.drew = .ok (V.take (i * 2)).toArray w.drew := by
    rw [hzs]
    exact run_firstCells_some w.drew 2 i ⟨g, 0, none⟩ i c (V.take (i * 2)) (by rw [List.length_take]; omega) (fun j x hj => by
      rw [gadd_at, Nat.zero_add]
      rw [List.getElem?_take] at hj
      split at hj
      · exact hcV j x hj
      · cases hj)
  obtain ⟨G, hG⟩ : ∃ G, G = grownCap w (n + 1) c 67 := ⟨_, rfl⟩
  have hGn : n + 1 ≤ G := by rw [hG]; exact grownCap_ge w _ _ _
  have hGm : G ≤ maxLen := by rw [hG]; exact grownCap_le_maxLen w _ _ _ (by unfold maxLen; omega)
  have hG63 : (G : Int) ≤ 9223372036854775807 := by unfold maxLen at hGm; omega
  obtain ⟨ROW, hROW⟩ : ∃ ROW : Array Value, ROW = (V.take (i * 2)).toArray ++ Builtin.zeroCells (Value.agg #[.slice none 0 0, .pointer none]).cells (n + 1 - i) ++ Builtin.zeroCells (Value.agg #[.slice none 0 0, .pointer none]).cells (G - (n + 1)) := ⟨_, rfl⟩
  have hrz : ∀ ty, (Builtin.append_ #[68, 3] ty #[.slice (some ⟨g, 0, none⟩) i c, .int .i64 ((n : Int) + 1 - (i : Int))]).run Tryz.prog w =
      .ok (.slice (some ⟨w.heap.size, 0, none⟩) (n + 1) G) (w.drew.alloc (.cells ROW 67)) := fun ty => by
    have h := Lib.run_append_grow_zeros w 68 3 ty 67 i0 _ .i64 .i64 Tryz.underlying68 Tryz.underlying3 hi0 hz0 (some ⟨g, 0, none⟩) i c (V.take (i * 2)) hold (n + 1 - i) (by omega) (by omega) (by omega) (by omega) (by rw [hzb]; omega) (by rw [hzb, hik]; exact growslice_fits hroom (by omega))
    rw [hik, ← hG, ← hROW] at h
    rw [hkk]
    exact h
  have hzc : ∀ m, (Builtin.zeroCells (Value.agg #[.slice none 0 0, .pointer none]).cells m).size = m * 2 := fun m => by simp [Builtin.zeroCells, Value.cells]
  have hRl : ROW.size = G * 2 := by
    rw [hROW]
    simp only [Array.size_append, List.size_toArray, List.length_take, hzc, hVl]
    simp only [Nat.min_def]
    split <;> omega
  have hRt : ∀ j, j < i * 2 → ROW[j]? = V[j]? := fun j hj => by
    rw [hROW, Array.append_assoc, Array.getElem?_append_left (by simp; omega)]
    simp [hj]
  obtain ⟨W1, hW1⟩ : ∃ W1, W1 = w.drew.alloc (.cells ROW 67) := ⟨_, rfl⟩
  rw [← hW1] at hrz
  have hB1 : Blk W1 w.heap.size 67 ROW.toList := by rw [hW1]; exact Blk.new w.drew 67 ROW
  have hb1 : Below w.heap.size w W1 := by rw [hW1]; exact ((Below.refl w.heap.size w).drew).alloc (Nat.le_refl _) _
  have hN : ∀ j, j < G * 2 → (W1.cell? ⟨w.heap.size, j, none⟩).isSome = true := fun j hj => by rw [hB1.cell, List.getElem?_eq_getElem (by simpa [hRl] using hj)]; rfl
  have hNf : ∀ j, W1.frozen? ⟨w.heap.size, j, none⟩ = false := fun j => hB1.frozen j
  have hdl : (V.drop (i * 2)).length = (n - i) * 2 := by rw [List.length_drop, hVl]; omega
  have hcpA : ∀ (W : World), (∀ x, W.cell? x = W1.cell? x) → (∀ x, W.frozen? x = W1.frozen? x) → ∀ ty dc, (Builtin.copy_ #[68, 68] ty #[.slice (some ⟨w.heap.size, i * 2, none⟩) (n + 1 - i) dc, .slice (some ⟨vb, 0, none⟩) 1 1]).run Tryz.prog W = .ok (goInt ((1 : Nat) : Int)) (W.setCells w.heap.size (i * 2) [u, v]) := fun W hWc hWf ty dc =>
    run_copy_k W _ _ ty 67 w.heap.size (i * 2) (n + 1 - i) dc ⟨vb, 0, none⟩ 1 1 [u, v] 2 1 Tryz.underlying68 hsz (by simp only [Nat.min_def]; split <;> omega) rfl
      (fun j x hj => by
        rw [gadd_at, hWc, Nat.zero_add, World.cell?_of_block (hb1.block vb hvl)]
        exact (hv.cell j).trans hj)
      (fun j hj => by rw [hWc]; exact hN _ (by simp at hj; omega)) (fun j hj => by rw [hWf]; exact hNf _) h1
  have hsp2 : ∀ k, k < G * 2 → ((W1.setCells w.heap.size (i * 2) [u, v]).cell? ⟨w.heap.size, k, none⟩).isSome = true := fun k hk => isSome_sets w.heap.size [u, v] (i * 2) W1 (fun j hj => hN _ (by simp at hj; omega)) k (hN k hk)
  have hgne : g ≠ w.heap.size := by omega
  have hcpB : ∀ (W : World), (∀ x, W.cell? x = (W1.setCells w.heap.size (i * 2) [u, v]).cell? x) → (∀ x, W.frozen? x = (W1.setCells w.heap.size (i * 2) [u, v]).frozen? x) → ∀ ty dc sc, (Builtin.copy_ #[68, 68] ty #[.slice (some ⟨w.heap.size, (i + 1) * 2, none⟩) (n - i) dc, .slice (some ⟨g, i * 2, none⟩) (n - i) sc]).run Tryz.prog W = .ok (goInt ((n - i : Nat) : Int)) (W.setCells w.heap.size ((i + 1) * 2) (V.drop (i * 2))) := fun W hWc hWf ty dc sc =>
    run_copy_k W _ _ ty 67 w.heap.size ((i + 1) * 2) (n - i) dc ⟨g, i * 2, none⟩ (n - i) sc (V.drop (i * 2)) 2 (n - i) Tryz.underlying68 hsz (by simp only [Nat.min_def]; split <;> omega) hdl
      (fun j x hj => by
        rw [gadd_at, hWc, World.cell?_setCells_out _ _ _ _ _ (fun h _ => absurd h hgne), World.cell?_of_block (hb1.block g hgl)]
        exact hcV _ _ (by rwa [List.getElem?_drop] at hj))
      (fun j hj => by rw [hWc]; exact hsp2 _ (by omega)) (fun j hj => by rw [hWf, World.frozen?_setCells]; exact hNf _) (fun x hx => hV1 x (List.mem_of_mem_drop hx))
  have HF : ∀ W2, (∀ x, W2.cell? x = (W1.setCells w.heap.size (i * 2) [u, v]).cell? x) → (∀ x, W2.heap[x]? = (W1.setCells w.heap.size (i * 2) [u, v]).heap[x]?) → Below w.heap.size W1 W2 → Hid ((W2.setCells w.heap.size ((i + 1) * 2) (V.drop (i * 2))).ownsRow 0 67 2 (.slice (some ⟨w.heap.size, 0, none⟩) (n + 1) G) (n + 1) (insC V i [u, v]) ∧ Below w.heap.size w (W2.setCells w.heap.size ((i + 1) * 2) (V.drop (i * 2)))) := fun W2 hWc hWh hb2 => by
    have t2 := (hb1.trans hb2).grown (grown_setCells w.heap.size (V.drop (i * 2)) ((i + 1) * 2) W2).1 (Nat.le_trans hb1.size hb2.size) (fun j e => by have := Option.some.inj e; omega)
    obtain ⟨cur1, hg1, hs1⟩ := shape_setCells w.heap.size 67 [u, v] (i * 2) W1 ROW (by simpa [Blk] using hB1)
    rw [← hWh] at hg1
    obtain ⟨cur2, hg2, hs2⟩ := shape_setCells w.heap.size 67 (V.drop (i * 2)) ((i + 1) * 2) W2 cur1 hg1
    refine ⟨own_of_cells hg2 (Nat.zero_le _) hGn hGm (by omega) (insC_length hVl (by omega) rfl) (fun j hj => ?_), t2⟩
    rw [insC_at hVl (by omega) rfl]
    by_cases j1 : j < i * 2
    · rw [if_pos j1, World.cell?_setCells_out _ _ _ _ _ (fun _ _ => Or.inl (show j < _ by omega)), hWc, World.cell?_setCells_out _ _ _ _ _ (fun _ _ => Or.inl (by simpa using j1)), hB1.cell, Array.getElem?_toList, hRt j j1]
    · rw [if_neg j1]
      by_cases j2 : j < (i + 1) * 2
      · rw [if_pos j2, World.cell?_setCells_out _ _ _ _ _ (fun _ _ => Or.inl (show j < _ by omega)), hWc]
        have := World.cell?_setCells_in w.heap.size [u, v] (i * 2) W1 (fun t ht => hN _ (by simp at ht; omega)) (j - i * 2) (by simp; omega)
        rw [show i * 2 + (j - i * 2) = j by omega] at this
        rw [this, List.getElem?_eq_getElem]
      · rw [if_neg j2]
        have := World.cell?_setCells_in w.heap.size (V.drop (i * 2)) ((i + 1) * 2) W2 (fun t ht => by rw [hWc]; exact hsp2 _ (by omega)) (j - (i + 1) * 2) (by omega)
        rw [show (i + 1) * 2 + (j - (i + 1) * 2) = j by omega] at this
        rw [this, List.getElem_drop, List.getElem?_eq_getElem (by omega)]
        congr 2
        omega
  have hb0 : ¬ ((i : Int) = (n : Int)) := by omega
  have hb1' : (0 : Int) ≤ (i : Int) + 1 := by omega
  have hin : i ≤ n := by omega
  have htn : ((i : Int) + 1).toNat = i + 1 := by omega
  have hb3 : (i : Int) ≤ (n : Int) := by omega
  have hb5 : (c : Int) < (n : Int) + 1 := by omega
  have hGi : ¬ (G = i) := by omega
  have hGim : ¬ (G = i + 1) := by omega
  have hci : ¬ (c = i) := by omega
  have hic : i ≤ c := by omega
  have hw1 : IntKind.i64.wrap ((i : Int) + 1) = (i : Int) + 1 := by rw [IntKind.wrap_i64]; omega
  have hw2 : IntKind.i64.wrap ((n : Int) + 1) = (n : Int) + 1 := by rw [IntKind.wrap_i64]; omega
  have hw3 : wrap64 ((i : Int) + 1) = (i : Int) + 1 := IntWalk.wrap64_in _ ⟨by omega, by omega⟩
  have hw4 : wrap64 ((n : Int) + 1) = (n : Int) + 1 := IntWalk.wrap64_in _ ⟨by omega, by omega⟩
  subst hW1
  have hE1 : ∀ x, ((w.alloc (.cells ROW 67)).drew).cell? x = (w.drew.alloc (.cells ROW 67)).cell? x := fun x => rfl
  have hE2 : ∀ x, ((w.alloc (.cells ROW 67)).drew).frozen? x = (w.drew.alloc (.cells ROW 67)).frozen? x := fun x => rfl
  have hF1 : ∀ x, (((w.alloc (.cells ROW 67)).drew.setCells w.heap.size (i * 2) [u, v]).drew).cell? x = ((w.drew.alloc (.cells ROW 67)).setCells w.heap.size (i * 2) [u, v]).cell? x := fun x => rfl
  have hF2 : ∀ x, (((w.alloc (.cells ROW 67)).drew.setCells w.heap.size (i * 2) [u, v]).drew).frozen? x = ((w.drew.alloc (.cells ROW 67)).setCells w.heap.size (i * 2) [u, v]).frozen? x := fun x => rfl
  have HRZ := kept hrz
  have HCA := kept hcpA
  have HCB := kept hcpB
  have HFF := kept HF
  have HE := kept (And.intro hE1 hE2)
  have HG := kept (And.intro hF1 hF2)
  clear hkk hik hold hROW hG hRl hzc hRt hB1 hb1 hN hNf hsp2 hdl hV1 hu1 hv1 h hcV hv h1 hrz hcpA hcpB HF hE1 hE2 hF1 hF2 hi0 hz0 hzs hzb hGm hgne hgl hvl hVl hsz hcm
  go_enter Tryz.func81, Tryz.ntmps81
  have hcA := HCA.out ((w.alloc (.cells ROW 67)).drew) HE.out.1 HE.out.2
  go_wp2_with (at_builtin; refine Lib.wpList_append_run _ rfl _ _ _ _ rfl _ _ rfl rfl _ _ (HRZ.out _) ?_)
  clear hcA
  have hcB := HCB.out (((w.alloc (.cells ROW 67)).drew.setCells w.heap.size (i * 2) [u, v]).drew) HG.out.1 HG.out.2
  go_region_law (refine step_copy_ran rfl _ _ 68 68 rfl _ _ (by simp [Act.eval, Act.put]) (by simp [Act.eval, Act.put]) (hcB _ _ _) ?_)
  clear hcB
  go_wp2
  go_returns
  obtain ⟨ho, hb⟩ := (HFF.out (((w.alloc (.cells ROW 67)).drew.setCells w.heap.size (i * 2) [u, v]).drew) (fun _ => rfl) (fun _ => rfl) ((((Below.refl _ (w.drew.alloc (.cells ROW 67)))).grown (grown_setCells w.heap.size [u, v] (i * 2) _).1 (by simp) (fun j e => by have := Option.some.inj e; omega)).drew)).out
  exact ⟨_, _, rfl, kept ⟨ho, hb, fun j hj => Nat.le_of_eq (show w.heap.size = j from Option.some.inj hj)⟩⟩
set_option maxHeartbeats 2000000 in
/-- slices.Insert of an entry at any place. -/
theorem insE_any (A : Option Addr) (n c i vb : Nat) (V : List Value) (u v : Value) (w : World) (h : w.ownsRow 0 67 2 (.slice A n c) n V) (hV1 : ∀ x ∈ V, x.oneCell' = true) (hn : n ≤ 900000) (hi : i ≤ n) (hv : Blk w vb 67 [u, v]) (hne : (Value.slice A n c).ownBlock ≠ some vb) (hu1 : u.oneCell' = true) (hv1 : v.oneCell' = true) :
    Calls Tryz.prog 81 #[.slice A n c, .int .i64 (i : Int), .slice (some ⟨vb, 0, none⟩) 1 1] w fun e w' => ∃ A' c', e = .returned (.slice A' (n + 1) c') ∧ Hid (w'.ownsRow 0 67 2 (.slice A' (n + 1) c') (n + 1) (insC V i [u, v]) ∧ Turned w w' (fun j => (Value.slice A n c).ownBlock = some j) ∧ ∀ g, (Value.slice A' (n + 1) c').ownBlock = some g → (Value.slice A n c).ownBlock = some g ∨ w.heap.size ≤ g) := by
  rcases Nat.lt_or_eq_of_le hi with hlt | rfl
  · obtain ⟨g, rfl, _⟩ := gown_at h (by omega)
    have hne' : vb ≠ g := fun e => hne (by rw [e]; rfl)
    by_cases hr : n + 1 ≤ c
    · refine (insE_room g n c i vb V u v w h hV1 hn hlt hr hv hne' hu1 hv1).mono ?_
      rintro e w' ⟨rfl, hF⟩
      obtain ⟨ho, t⟩ := hF.out
      exact ⟨_, _, rfl, kept ⟨ho, t.mono (fun j _ e => by rw [e]; rfl), fun g2 hg => .inl hg⟩⟩
    · refine (insE_grow g n c i vb V u v w h hV1 hn hlt (by omega) hv hne' hu1 hv1).mono ?_
      rintro e w' ⟨A', c', rfl, hF⟩
      obtain ⟨ho, hb, hg⟩ := hF.out
      exact ⟨_, _, rfl, kept ⟨ho, Turned.of_below hb _, fun g2 hg2 => .inr (hg g2 hg2)⟩⟩
  · refine (insE_end A i c vb V u v w h hn hv hu1 hv1).mono ?_
    rintro e w' ⟨A', c', rfl, hF⟩
    obtain ⟨ho, t, hg⟩ := hF.out
    have e : insC V i [u, v] = V ++ [u, v] := by
      unfold insC
      rw [List.take_of_length_le (by have := h.1; omega), List.drop_eq_nil_of_le (by have := h.1; omega), List.append_nil]
    exact ⟨_, _, rfl, kept ⟨by rw [e]; exact ho, t, hg⟩⟩
end Go.Proofs.YtlckeebbjnhejaaGreat
end

section
/-
  package index: what comes of a change of a key's history.
-/
namespace Go.Proofs.YtlckeebbjnhejaaGreat
open Go.ChangeShapes Go.WideShapes Go.ChangeAt Go.RowKit Go.Deep
set_option linter.unusedVariables false
set_option linter.unusedSimpArgs false

/-- An entry has come. -/
theorem IxL.insert {w w2 : World} {x : Nat} {A : Option Addr} {n k : Nat} {l : Rv} {Es : List EnL} (h : IxL w x A n k l Es) {i : Nat} (hi : i ≤ n) {A' : Option Addr} {k' : Nat} {l' : Rv} (E : EnL) (hE : EnAt w2 E) (hF : ∀ j, E.F j → w.heap.size ≤ j) (hk : ∀ j, E.kb j → w.heap.size ≤ j)
    (row : w2.ownsRow 0 67 2 (.slice A' (n + 1) k') (n + 1) (insC (enX Es) i E.cells)) (hA : ∀ g, (Value.slice A' (n + 1) k').ownBlock = some g → (Value.slice A n k).ownBlock = some g ∨ w.heap.size ≤ g)
    (t : Turned w w2 (fun j => j = x ∨ (Value.slice A n k).ownBlock = some j)) (box : Blk w2 x 70 [.slice A' (n + 1) k', .int .i64 l'.1, .int .i64 l'.2]) :
    IxL w2 x A' (n + 1) k' l' (Es.take i ++ E :: Es.drop i) ∧ ∀ j, footX x A' (n + 1) k' (Es.take i ++ E :: Es.drop i) j → footX x A n k Es j ∨ w.heap.size ≤ j := by
  have hmem : ∀ e, e ∈ Es.take i ++ E :: Es.drop i → e = E ∨ e ∈ Es := fun e he => by
    rcases List.mem_append.1 he with he | he
    · exact .inr (List.mem_of_mem_take he)
    · rcases List.mem_cons.1 he with he | he
      · exact .inl he
      · exact .inr (List.mem_of_mem_drop he)
  have hrow : insC (enX Es) i E.cells = enX (Es.take i ++ E :: Es.drop i) := by
    unfold insC
    rw [enX_take, enX_drop, enX_append, enX_cons, List.append_assoc]
  obtain ⟨cr, hcr⟩ : ∃ cr, w.heap[x]? = some (.cells cr 70 (0, 0)) := ⟨_, h.box⟩
  have hnT : ∀ {j : Nat} {cur : Array Value} {s : TypeId}, w.heap[j]? = some (.cells cur s (0, 0)) → s ≠ 70 → s ≠ 67 → ¬ (j = x ∨ (Value.slice A n k).ownBlock = some j) := fun hc h1 h2 hj => by
    rcases hj with hj | hj
    · exact ne_of_types hc hcr h1 hj
    · obtain ⟨c, hc2⟩ := gown_cl (k := 0) h.row hj
      exact ne_of_types hc hc2 h2 rfl
  refine ⟨⟨box, by rw [← hrow]; exact row, by simp only [List.length_append, List.length_cons, List.length_take, List.length_drop, h.ln]; omega, fun e he => ?_, ?_⟩, fun j hj => ?_⟩
  · rcases hmem e he with rfl | he
    · exact hE
    · refine (h.all e he).turned t (fun j hj => ?_) (fun j hj => ?_)
      · obtain ⟨c, hc⟩ := (h.all e he).kty hj
        exact hnT hc (by decide) (by decide)
      · obtain ⟨c, s, hc, hs⟩ := (h.all e he).his.ty hj
        rcases hs with rfl | rfl | rfl <;> exact hnT hc (by decide) (by decide)
  · have hp := h.ap
    rw [← List.take_append_drop i Es] at hp
    have hp := List.pairwise_append.1 hp
    refine List.pairwise_append.2 ⟨hp.1, List.pairwise_cons.2 ⟨fun b hb j hj hj2 => ?_, hp.2.1⟩, fun a ha b hb j hj hj2 => ?_⟩
    · have := (h.all b (List.mem_of_mem_drop hb)).his.lt hj2
      have := hF j hj
      omega
    · rcases List.mem_cons.1 hb with rfl | hb
      · have := (h.all a (List.mem_of_mem_take ha)).his.lt hj
        have := hF j hj2
        omega
      · exact hp.2.2 a ha b hb j hj hj2
  · rcases hj with rfl | hj | ⟨e, he, hj⟩
    · exact .inl (.inl rfl)
    · exact (hA j hj).imp (fun e => .inr (.inl e)) id
    · rcases hmem e he with rfl | he
      · exact .inr (hj.elim (hk j) (hF j))
      · exact .inl (.inr (.inr ⟨e, he, hj⟩))
/-- A change that is tried: what it answers and what it leaves of a history. -/
def TryK (w : World) (g : Nat) (cb : Array Value) (tc : List Gn → Int) (tg : List Gn → List Gn) (N : Nat) : Prop :=
  ∀ (W : World) (r : Nat) (F : Nat → Prop) (gs : List Gn), Below w.heap.size w W → Gs W r F gs → GInv gs → BdG gs N → Calls Tryz.prog g (#[.pointer (some ⟨r, 0, none⟩)] ++ cb) W fun e w' => e = .returned (.int .i64 (tc gs)) ∧ GLeft W r F (tg gs) w'
theorem gs_new (w : World) : Gs (w.alloc (.cells #[.slice none 0 0] 102)) w.heap.size (fun j => j = w.heap.size) [] := by
  refine ⟨none, 0, 0, [], ⟨Blk.new w 102 #[.slice none 0 0], rfl, rfl, World.ownsRow_nil _ _ _ _, fun i h1 => absurd h1 (by simp), fun i j h1 => absurd h1 (by simp)⟩, fun j => ⟨fun e => .inl e, fun e => ?_⟩⟩
  rcases e with e | e | ⟨L, hL, _⟩
  · exact e
  · cases e
  · cases hL
theorem bd_nil (N : Nat) : BdG [] N := ⟨Nat.zero_le _, fun x hx => absurd hx (by simp)⟩
/-- What comes of a change. -/
def chC (l : Rv) (P : List PE) (ys : List UInt8) (q : Rv) (tc : List Gn → Int) : Int := if ltR l q then tc (loX P ys) else if tc [] = 2 then 2 else 8
def chP (l : Rv) (P : List PE) (ys : List UInt8) (q : Rv) (tc : List Gn → Int) (tg : List Gn → List Gn) : List PE := if ltR l q ∧ tc (loX P ys) = 0 then chX P ys (tg (loX P ys)) else P
def chL (l : Rv) (P : List PE) (ys : List UInt8) (q : Rv) (tc : List Gn → Int) : Rv := if ltR l q ∧ tc (loX P ys) = 0 then q else l
set_option maxHeartbeats 2000000 in
theorem outside_any {w : World} {g : Nat} {cb : Array Value} {tc : List Gn → Int} {tg : List Gn → List Gn} {N : Nat} (hT : TryK w g cb tc tg N) (eg : ∀ args w, (callFunc g args).run Tryz.prog w = .ok (.enter g args) w) :
    Calls Tryz.prog 80 #[.func (.func g) #[] cb] w fun e w' => e = .returned (.int .i64 (if tc [] = 2 then 2 else 8)) ∧ Below w.heap.size w w' := by
  have hb : Below w.heap.size w (w.alloc (.cells #[.slice none 0 0] 102)) := (Below.refl _ w).alloc (Nat.le_refl _) _
  have HC := kept (hT _ _ _ _ hb (gs_new w) GInv.nil (bd_nil N))
  have HB := kept hb
  clear hT hb
  by_cases h2 : tc [] = 2
  · rw [h2] at HC ⊢
    go_enter Tryz.func80, Tryz.ntmps80
    go_wp2_with (go_at_fn g; (with_reducible refine HC.out.mono ?_); rintro e w1 ⟨rfl, hl⟩; have HL := kept hl; clear hl)
    go_returns
    refine ⟨by simp, ?_⟩
    obtain ⟨F', h1, h2, t⟩ := HL.out
    exact (HB.out.trans (Turned.only_new (Below.refl _ _) t (by simp) (fun i hi => by subst hi; exact Nat.le_refl _)))
  · obtain ⟨z, hz⟩ : ∃ z, tc [] = z := ⟨_, rfl⟩
    rw [hz] at HC h2 ⊢
    rw [if_neg h2]
    have h2' : (z == 2) = false := by simpa using h2
    clear h2 hz
    go_enter Tryz.func80, Tryz.ntmps80
    go_wp2_with (go_at_fn g; (with_reducible refine HC.out.mono ?_); rintro e w1 ⟨rfl, hl⟩; have HL := kept hl; clear hl)
    go_returns
    refine ⟨rfl, ?_⟩
    obtain ⟨F', h1, h2, t⟩ := HL.out
    exact (HB.out.trans (Turned.only_new (Below.refl _ _) t (by simp) (fun i hi => by subst hi; exact Nat.le_refl _)))
end Go.Proofs.YtlckeebbjnhejaaGreat
end

section
/-
  package index: change.
-/
namespace Go.Proofs.YtlckeebbjnhejaaGreat
open Go.ChangeShapes Go.WideShapes Go.ChangeAt Go.RowKit Go.Deep
set_option linter.unusedVariables false
set_option linter.unusedSimpArgs false

set_option maxRecDepth 100000 in
set_option maxHeartbeats 4000000 in
/-- A revision that isn't above the last one. -/
theorem change_old {w : World} {x : Nat} {A : Option Addr} {n k : Nat} {l : Rv} {Es : List EnL} (h : IxL w x A n k l Es) (B : Option Addr) (m d : Nat) (q : Rv) (hq : ltR l q = false) {g : Nat} {cb : Array Value} {tc : List Gn → Int} {tg : List Gn → List Gn} {N : Nat} (hT : TryK w g cb tc tg N) (eg : ∀ args w, (callFunc g args).run Tryz.prog w = .ok (.enter g args) w) :
    Calls Tryz.prog 46 #[.pointer (some ⟨x, 0, none⟩), .slice B m d, .agg #[.int .i64 q.1, .int .i64 q.2], .func (.func g) #[] cb] w fun e w' => e = .returned (.int .i64 (if tc [] = 2 then 2 else 8)) ∧ Below w.heap.size w w' := by
  have hb0 : Below w.heap.size w (w.alloc (.cells #[.int .i64 q.1, .int .i64 q.2] 29)) := (Below.refl _ w).alloc (Nat.le_refl _) _
  obtain ⟨t0, t1⟩ := two_new w 29 q.1 q.2
  have hx := h.below hb0
  have x1 : (w.alloc (.cells #[.int .i64 q.1, .int .i64 q.2] 29)).cell? ⟨x, 1, none⟩ = some (.int .i64 l.1) := hx.box.cell 1
  have x2 : (w.alloc (.cells #[.int .i64 q.1, .int .i64 q.2] 29)).cell? ⟨x, 2, none⟩ = some (.int .i64 l.2) := hx.box.cell 2
  have HS0 := kept (show (fun W' => (W'.cell? ⟨w.heap.size, 0, none⟩ = some (.int .i64 q.1) ∧ W'.cell? ⟨w.heap.size, 1, none⟩ = some (.int .i64 q.2)) ∧ (W'.cell? ⟨x, 1, none⟩ = some (.int .i64 l.1) ∧ W'.cell? ⟨x, 2, none⟩ = some (.int .i64 l.2))) (w.alloc (.cells #[.int .i64 q.1, .int .i64 q.2] 29)).drew from ⟨⟨t0, t1⟩, ⟨x1, x2⟩⟩)
  have HB := kept hb0.drew
  have HP := fun W => kept (cmp_pair q l W)
  have hle : decide (ordR q.1 q.2 l.1 l.2 ≤ 0) = true := by rw [le_of_ordR, hq]; rfl
  have HO := fun W (hb : Below w.heap.size w W) => kept (outside_any (w := W) (fun W2 r F gs hb2 hg hi hN => hT W2 r F gs (bel_to hb2 hb) hg hi hN) eg)
  generalize (if tc [] = 2 then (2 : Int) else 8) = z at HO ⊢
  generalize ordR q.1 q.2 l.1 l.2 = or at HP hle
  have hle' : or ≤ 0 := by simpa using hle
  clear t0 t1 x1 x2 hx hb0 h hq hT hle
  go_enter Tryz.func46, Tryz.ntmps46
  go_wp2
  refine wp_region_held_drew (S := (fun W' => (W'.cell? ⟨w.heap.size, 0, none⟩ = some (.int .i64 q.1) ∧ W'.cell? ⟨w.heap.size, 1, none⟩ = some (.int .i64 q.2)) ∧ (W'.cell? ⟨x, 1, none⟩ = some (.int .i64 l.1) ∧ W'.cell? ⟨x, 2, none⟩ = some (.int .i64 l.2)))) (by kernel_rfl) ?_ (fun hHeld => ?_)
  · ((try dsimp only); (first | with_reducible exact HS0.out | with_reducible exact HS1.out))
  refine hand_take 0 (some 15) ?_ (by kernel_rfl) (by kernel_rfl) (by kernel_rfl) (by kernel_rfl) (by kernel_rfl) (fun _ _ _ h => h) ?_ (by assumption) ?_
  rotate_left
  · (intro o ho w hSw; (simp only [List.getElem?_toArray, List.getElem?_cons_succ, List.getElem?_cons_zero, Option.some.injEq] at ho); subst ho; (try dsimp only at hSw); go_simp; (first | done | with_reducible rfl))
  (try simp only [Act.put, List.setIfInBounds_toArray, List.set_cons_zero, List.set_cons_succ])
  refine hand_take 1 (some 16) ?_ (by kernel_rfl) (by kernel_rfl) (by kernel_rfl) (by kernel_rfl) (by kernel_rfl) (fun _ _ _ h => h) ?_ (by assumption) ?_
  rotate_left
  · (intro o ho w hSw; (simp only [List.getElem?_toArray, List.getElem?_cons_succ, List.getElem?_cons_zero, Option.some.injEq] at ho); subst ho; (try dsimp only at hSw); go_simp; (first | done | with_reducible rfl))
  (try simp only [Act.put, List.setIfInBounds_toArray, List.set_cons_zero, List.set_cons_succ])
  refine hand_take 2 (some 17) ?_ (by kernel_rfl) (by kernel_rfl) (by kernel_rfl) (by kernel_rfl) (by kernel_rfl) (fun _ _ _ h => h) ?_ (by assumption) ?_
  rotate_left
  · (intro o ho w hSw; (simp only [List.getElem?_toArray, List.getElem?_cons_succ, List.getElem?_cons_zero, Option.some.injEq] at ho); subst ho; (try dsimp only at hSw); go_simp; (first | done | with_reducible rfl))
  (try simp only [Act.put, List.setIfInBounds_toArray, List.set_cons_zero, List.set_cons_succ])
  refine hand_take 3 (some 18) ?_ (by kernel_rfl) (by kernel_rfl) (by kernel_rfl) (by kernel_rfl) (by kernel_rfl) (fun _ _ _ h => h) ?_ (by assumption) ?_
  rotate_left
  · (intro o ho w hSw; (simp only [List.getElem?_toArray, List.getElem?_cons_succ, List.getElem?_cons_zero, Option.some.injEq] at ho); subst ho; (try dsimp only at hSw); go_simp; (first | done | with_reducible rfl))
  (try simp only [Act.put, List.setIfInBounds_toArray, List.set_cons_zero, List.set_cons_succ])
  refine hand_take 4 (some 19) ?_ (by kernel_rfl) (by kernel_rfl) (by kernel_rfl) (by kernel_rfl) (by kernel_rfl) (fun _ _ _ h => h) ?_ (by assumption) ?_
  rotate_left
  · (intro o ho w hSw; (simp only [List.getElem?_toArray, List.getElem?_cons_succ, List.getElem?_cons_zero, Option.some.injEq] at ho); subst ho; (try dsimp only at hSw); go_simp; (first | done | with_reducible rfl))
  (try simp only [Act.put, List.setIfInBounds_toArray, List.set_cons_zero, List.set_cons_succ])
  refine hand_ready 5 (by kernel_rfl) (by kernel_rfl) (fun o ho K hK => ?_)
  (simp only [List.getElem?_toArray, List.getElem?_cons_succ, List.getElem?_cons_zero, Option.some.injEq] at ho)
  subst ho
  go_simp
  (go_at_call 32; (with_reducible refine (HP _).out.mono ?_); rintro e w1 ⟨rfl, hb1⟩; have HS1 := kept (show (fun W' => (W'.cell? ⟨w.heap.size, 0, none⟩ = some (.int .i64 q.1) ∧ W'.cell? ⟨w.heap.size, 1, none⟩ = some (.int .i64 q.2)) ∧ (W'.cell? ⟨x, 1, none⟩ = some (.int .i64 l.1) ∧ W'.cell? ⟨x, 2, none⟩ = some (.int .i64 l.2))) w1 from ⟨⟨(Keeps.of_below hb1).cell_ HS0.out.1.1, (Keeps.of_below hb1).cell_ HS0.out.1.2⟩, ⟨(Keeps.of_below hb1).cell_ HS0.out.2.1, (Keeps.of_below hb1).cell_ HS0.out.2.2⟩⟩); have HB1 := kept (bel_to hb1 HB.out); clear hb1)
  (try go_wp2_with fail)
  refine hK.out _ _ ?_ (fun hHeld => ?_)
  · ((try dsimp only); (first | with_reducible exact HS0.out | with_reducible exact HS1.out))
  clear hK K
  (try simp only [Act.put, List.setIfInBounds_toArray, List.set_cons_zero, List.set_cons_succ])
  refine hand_take 6 (some 21) ?_ (by kernel_rfl) (by kernel_rfl) (by kernel_rfl) (by kernel_rfl) (by kernel_rfl) (fun _ _ _ h => h) ?_ (by assumption) ?_
  rotate_left
  · (intro o ho w hSw; (simp only [List.getElem?_toArray, List.getElem?_cons_succ, List.getElem?_cons_zero, Option.some.injEq] at ho); subst ho; (try dsimp only at hSw); go_simp; (first | done | with_reducible rfl))
  (try simp only [Act.put, List.setIfInBounds_toArray, List.set_cons_zero, List.set_cons_succ])
  refine wpAnyH_done (by kernel_rfl) ?_ _
  clear hHeld
  go_wp2_with (first | (go_at_call 80; (with_reducible refine ((HO _ HB1.out).out).mono ?_); rintro e w2 ⟨rfl, hb2⟩; have HB2 := kept (bel_to hb2 HB1.out); clear hb2))
  go_returns
  exact ⟨rfl, HB2.out⟩
end Go.Proofs.YtlckeebbjnhejaaGreat
end

section
/-
  package index: change of a revision above the last one.
-/
namespace Go.Proofs.YtlckeebbjnhejaaGreat
open Go.ChangeShapes Go.WideShapes Go.ChangeAt Go.RowKit Go.Deep
set_option linter.unusedVariables false
set_option linter.unusedSimpArgs false

set_option maxRecDepth 100000 in
set_option maxHeartbeats 4000000 in
/-- An error, of a key without a history. -/
theorem change_new_err {w : World} {x : Nat} {A : Option Addr} {n k : Nat} {l : Rv} {Es : List EnL} (h : IxL w x A n k l Es) {P : List PE} (hP : Es.map EnL.px = P) {N : Nat} (hi : XInv l P N) (hN : N ≤ 800000) (B : Option Addr) (m d : Nat) (ys : List UInt8) (hrd : Rd w B m ys) (hm : m ≤ 1000) (q : Rv) (hq : ltR l q = true) {g : Nat} {cb : Array Value} {tc : List Gn → Int} {tg : List Gn → List Gn} (hT : TryK w g cb tc tg N) (eg : ∀ args w, (callFunc g args).run Tryz.prog w = .ok (.enter g args) w) (hk : knX P ys = false) (hc : tc [] ≠ 0) :
    Calls Tryz.prog 46 #[.pointer (some ⟨x, 0, none⟩), .slice B m d, .agg #[.int .i64 q.1, .int .i64 q.2], .func (.func g) #[] cb] w fun e w' => e = .returned (.int .i64 (tc [])) ∧ Below w.heap.size w w' := by
  have hb0 : Below w.heap.size w (w.alloc (.cells #[.int .i64 q.1, .int .i64 q.2] 29)) := (Below.refl _ w).alloc (Nat.le_refl _) _
  have HR0 := kept (Blk.new w 29 #[.int .i64 q.1, .int .i64 q.2])
  obtain ⟨t0, t1⟩ := two_new w 29 q.1 q.2
  have hx := h.below hb0
  have x1 : (w.alloc (.cells #[.int .i64 q.1, .int .i64 q.2] 29)).cell? ⟨x, 1, none⟩ = some (.int .i64 l.1) := hx.box.cell 1
  have x2 : (w.alloc (.cells #[.int .i64 q.1, .int .i64 q.2] 29)).cell? ⟨x, 2, none⟩ = some (.int .i64 l.2) := hx.box.cell 2
  have HS0 := kept (show (fun W' => (W'.cell? ⟨w.heap.size, 0, none⟩ = some (.int .i64 q.1) ∧ W'.cell? ⟨w.heap.size, 1, none⟩ = some (.int .i64 q.2)) ∧ (W'.cell? ⟨x, 1, none⟩ = some (.int .i64 l.1) ∧ W'.cell? ⟨x, 2, none⟩ = some (.int .i64 l.2))) (w.alloc (.cells #[.int .i64 q.1, .int .i64 q.2] 29)).drew from ⟨⟨t0, t1⟩, ⟨x1, x2⟩⟩)
  have HB := kept hb0.drew
  have HP := fun W => kept (cmp_pair q l W)
  have hle : decide (ordR q.1 q.2 l.1 l.2 ≤ 0) = false := by rw [le_of_ordR, hq]; rfl
  generalize ordR q.1 q.2 l.1 l.2 = or at HP hle
  have hle' : ¬ or ≤ 0 := by simpa using hle
  have hnN : n ≤ N := by rw [← h.ln]; have := hi.ln; rw [← hP, List.length_map] at this; exact this
  have HPL := fun W (hb : Below w.heap.size w W) => kept (placeL_any (h.below hb) (by rw [hP]; exact hi.rise) (by omega) B m d ys (hrd.below hb))
  rw [hP] at HPL
  have HX := kept h
  have HI := kept hi
  have HK := kept hrd
  have HQ := kept hq
  have HTT := kept hT
  have HPP := kept hP
  have HNN := kept hnN
  clear t0 t1 x1 x2 hx hb0 h hT hle hi hrd hq hP hnN
  rw [hk] at HPL
  obtain ⟨z, hz⟩ : ∃ z, tc [] = z := ⟨_, rfl⟩
  have HZ := kept hz
  rw [hz] at hc ⊢
  have hz0 : (z == 0) = false := by simpa using hc
  have hz1 : (z != 0) = true := by simpa using hc
  generalize (plX P ys : Int) = pl at HPL
  clear hk hz hc
  go_enter Tryz.func46, Tryz.ntmps46
  go_wp2
  refine wp_region_held_drew (S := (fun W' => (W'.cell? ⟨w.heap.size, 0, none⟩ = some (.int .i64 q.1) ∧ W'.cell? ⟨w.heap.size, 1, none⟩ = some (.int .i64 q.2)) ∧ (W'.cell? ⟨x, 1, none⟩ = some (.int .i64 l.1) ∧ W'.cell? ⟨x, 2, none⟩ = some (.int .i64 l.2)))) (by kernel_rfl) ?_ (fun hHeld => ?_)
  · ((try dsimp only); (first | with_reducible exact HS0.out | with_reducible exact HS1.out))
  refine hand_take 0 (some 15) ?_ (by kernel_rfl) (by kernel_rfl) (by kernel_rfl) (by kernel_rfl) (by kernel_rfl) (fun _ _ _ h => h) ?_ (by assumption) ?_
  rotate_left
  · (intro o ho w hSw; (simp only [List.getElem?_toArray, List.getElem?_cons_succ, List.getElem?_cons_zero, Option.some.injEq] at ho); subst ho; (try dsimp only at hSw); go_simp; (first | done | with_reducible rfl))
  (try simp only [Act.put, List.setIfInBounds_toArray, List.set_cons_zero, List.set_cons_succ])
  refine hand_take 1 (some 16) ?_ (by kernel_rfl) (by kernel_rfl) (by kernel_rfl) (by kernel_rfl) (by kernel_rfl) (fun _ _ _ h => h) ?_ (by assumption) ?_
  rotate_left
  · (intro o ho w hSw; (simp only [List.getElem?_toArray, List.getElem?_cons_succ, List.getElem?_cons_zero, Option.some.injEq] at ho); subst ho; (try dsimp only at hSw); go_simp; (first | done | with_reducible rfl))
  (try simp only [Act.put, List.setIfInBounds_toArray, List.set_cons_zero, List.set_cons_succ])
  refine hand_take 2 (some 17) ?_ (by kernel_rfl) (by kernel_rfl) (by kernel_rfl) (by kernel_rfl) (by kernel_rfl) (fun _ _ _ h => h) ?_ (by assumption) ?_
  rotate_left
  · (intro o ho w hSw; (simp only [List.getElem?_toArray, List.getElem?_cons_succ, List.getElem?_cons_zero, Option.some.injEq] at ho); subst ho; (try dsimp only at hSw); go_simp; (first | done | with_reducible rfl))
  (try simp only [Act.put, List.setIfInBounds_toArray, List.set_cons_zero, List.set_cons_succ])
  refine hand_take 3 (some 18) ?_ (by kernel_rfl) (by kernel_rfl) (by kernel_rfl) (by kernel_rfl) (by kernel_rfl) (fun _ _ _ h => h) ?_ (by assumption) ?_
  rotate_left
  · (intro o ho w hSw; (simp only [List.getElem?_toArray, List.getElem?_cons_succ, List.getElem?_cons_zero, Option.some.injEq] at ho); subst ho; (try dsimp only at hSw); go_simp; (first | done | with_reducible rfl))
  (try simp only [Act.put, List.setIfInBounds_toArray, List.set_cons_zero, List.set_cons_succ])
  refine hand_take 4 (some 19) ?_ (by kernel_rfl) (by kernel_rfl) (by kernel_rfl) (by kernel_rfl) (by kernel_rfl) (fun _ _ _ h => h) ?_ (by assumption) ?_
  rotate_left
  · (intro o ho w hSw; (simp only [List.getElem?_toArray, List.getElem?_cons_succ, List.getElem?_cons_zero, Option.some.injEq] at ho); subst ho; (try dsimp only at hSw); go_simp; (first | done | with_reducible rfl))
  (try simp only [Act.put, List.setIfInBounds_toArray, List.set_cons_zero, List.set_cons_succ])
  refine hand_ready 5 (by kernel_rfl) (by kernel_rfl) (fun o ho K hK => ?_)
  (simp only [List.getElem?_toArray, List.getElem?_cons_succ, List.getElem?_cons_zero, Option.some.injEq] at ho)
  subst ho
  go_simp
  (go_at_call 32; (with_reducible refine (HP _).out.mono ?_); rintro e w1 ⟨rfl, hb1⟩; have HS1 := kept (show (fun W' => (W'.cell? ⟨w.heap.size, 0, none⟩ = some (.int .i64 q.1) ∧ W'.cell? ⟨w.heap.size, 1, none⟩ = some (.int .i64 q.2)) ∧ (W'.cell? ⟨x, 1, none⟩ = some (.int .i64 l.1) ∧ W'.cell? ⟨x, 2, none⟩ = some (.int .i64 l.2))) w1 from ⟨⟨(Keeps.of_below hb1).cell_ HS0.out.1.1, (Keeps.of_below hb1).cell_ HS0.out.1.2⟩, ⟨(Keeps.of_below hb1).cell_ HS0.out.2.1, (Keeps.of_below hb1).cell_ HS0.out.2.2⟩⟩); have HB1 := kept (bel_to hb1 HB.out); have HR1 := kept ((show Blk (w.alloc (.cells #[.int .i64 q.1, .int .i64 q.2] 29)).drew w.heap.size 29 [.int .i64 q.1, .int .i64 q.2] from HR0.out).below hb1 HR0.out.lt); clear hb1)
  (try go_wp2_with fail)
  refine hK.out _ _ ?_ (fun hHeld => ?_)
  · ((try dsimp only); (first | with_reducible exact HS0.out | with_reducible exact HS1.out))
  clear hK K
  (try simp only [Act.put, List.setIfInBounds_toArray, List.set_cons_zero, List.set_cons_succ])
  refine hand_take 6 (some 21) ?_ (by kernel_rfl) (by kernel_rfl) (by kernel_rfl) (by kernel_rfl) (by kernel_rfl) (fun _ _ _ h => h) ?_ (by assumption) ?_
  rotate_left
  · (intro o ho w hSw; (simp only [List.getElem?_toArray, List.getElem?_cons_succ, List.getElem?_cons_zero, Option.some.injEq] at ho); subst ho; (try dsimp only at hSw); go_simp; (first | done | with_reducible rfl))
  (try simp only [Act.put, List.setIfInBounds_toArray, List.set_cons_zero, List.set_cons_succ])
  refine wpAnyH_done (by kernel_rfl) ?_ _
  clear hHeld
  go_wp2_with (first | (go_at_call 25; (with_reducible refine ((HPL _ HB1.out).out).mono ?_); rintro e w2 ⟨rfl, hb2⟩; have HB2 := kept (bel_to hb2 HB1.out); clear hb2; have hba : Below w2.heap.size w2 (w2.alloc (.cells #[.slice none 0 0] 102)) := (Below.refl _ _).alloc (Nat.le_refl _) _; have HC := kept (HTT.out _ _ _ _ (bel_to hba HB2.out) (gs_new w2) GInv.nil (bd_nil N)); rw [HZ.out] at HC; have HB3 := kept (bel_to hba HB2.out); clear hba) | ((go_at_fn g; (with_reducible refine HC.out.mono ?_); rintro e w4 ⟨rfl, hl⟩; have HL := kept hl; clear hl)))
  go_returns
  refine ⟨rfl, ?_⟩
  obtain ⟨F', h1, h2, t⟩ := HL.out
  exact Turned.only_new HB3.out t HB3.out.size (fun i hi => by subst hi; exact HB2.out.size)
set_option maxRecDepth 100000 in
set_option maxHeartbeats 4000000 in
/-- An error, of a key with a history. -/
theorem change_kn_err {w : World} {x : Nat} {A : Option Addr} {n k : Nat} {l : Rv} {Es : List EnL} (h : IxL w x A n k l Es) {P : List PE} (hP : Es.map EnL.px = P) {N : Nat} (hi : XInv l P N) (hN : N ≤ 800000) (B : Option Addr) (m d : Nat) (ys : List UInt8) (hrd : Rd w B m ys) (hm : m ≤ 1000) (q : Rv) (hq : ltR l q = true) {g : Nat} {cb : Array Value} {tc : List Gn → Int} {tg : List Gn → List Gn} (hT : TryK w g cb tc tg N) (eg : ∀ args w, (callFunc g args).run Tryz.prog w = .ok (.enter g args) w) (hk : knX P ys = true) (hc : tc (loX P ys) ≠ 0) (htg : tg (loX P ys) = loX P ys) :
    Calls Tryz.prog 46 #[.pointer (some ⟨x, 0, none⟩), .slice B m d, .agg #[.int .i64 q.1, .int .i64 q.2], .func (.func g) #[] cb] w fun e w' => e = .returned (.int .i64 (tc (loX P ys))) ∧ IxLeft w x (footX x A n k Es) l P w' := by
  have hb0 : Below w.heap.size w (w.alloc (.cells #[.int .i64 q.1, .int .i64 q.2] 29)) := (Below.refl _ w).alloc (Nat.le_refl _) _
  have HR0 := kept (Blk.new w 29 #[.int .i64 q.1, .int .i64 q.2])
  obtain ⟨t0, t1⟩ := two_new w 29 q.1 q.2
  have hx := h.below hb0
  have x1 : (w.alloc (.cells #[.int .i64 q.1, .int .i64 q.2] 29)).cell? ⟨x, 1, none⟩ = some (.int .i64 l.1) := hx.box.cell 1
  have x2 : (w.alloc (.cells #[.int .i64 q.1, .int .i64 q.2] 29)).cell? ⟨x, 2, none⟩ = some (.int .i64 l.2) := hx.box.cell 2
  have HS0 := kept (show (fun W' => (W'.cell? ⟨w.heap.size, 0, none⟩ = some (.int .i64 q.1) ∧ W'.cell? ⟨w.heap.size, 1, none⟩ = some (.int .i64 q.2)) ∧ (W'.cell? ⟨x, 1, none⟩ = some (.int .i64 l.1) ∧ W'.cell? ⟨x, 2, none⟩ = some (.int .i64 l.2))) (w.alloc (.cells #[.int .i64 q.1, .int .i64 q.2] 29)).drew from ⟨⟨t0, t1⟩, ⟨x1, x2⟩⟩)
  have HB := kept hb0.drew
  have HP := fun W => kept (cmp_pair q l W)
  have hle : decide (ordR q.1 q.2 l.1 l.2 ≤ 0) = false := by rw [le_of_ordR, hq]; rfl
  generalize ordR q.1 q.2 l.1 l.2 = or at HP hle
  have hle' : ¬ or ≤ 0 := by simpa using hle
  have hnN : n ≤ N := by rw [← h.ln]; have := hi.ln; rw [← hP, List.length_map] at this; exact this
  have HPL := fun W (hb : Below w.heap.size w W) => kept (placeL_any (h.below hb) (by rw [hP]; exact hi.rise) (by omega) B m d ys (hrd.below hb))
  rw [hP] at HPL
  have HX := kept h
  have HI := kept hi
  have HK := kept hrd
  have HQ := kept hq
  have HTT := kept hT
  have HPP := kept hP
  have HNN := kept hnN
  clear t0 t1 x1 x2 hx hb0 h hT hle hi hrd hq hP hnN
  obtain ⟨pl, hpl⟩ : ∃ pl, plX P ys = pl := ⟨_, rfl⟩
  rw [hk, hpl] at HPL
  have hsplit : ∃ Qs E Rs, Es = Qs ++ E :: Rs ∧ Qs.length = pl ∧ E.xs = ys ∧ E.gs = loX P ys ∧ ∀ g, chX P ys g = Qs.map EnL.px ++ (ys, g) :: Rs.map EnL.px := by
    rcases parted HI.out.rise ys with ⟨_, Qp, e, Rp, hPe, hQl, hek, hlo, hch, _, _⟩ | ⟨hkf, _⟩
    · rw [← HPP.out] at hPe
      obtain ⟨Qs, r1, hE1, hQs, hr1⟩ := List.map_eq_append_iff.1 hPe
      obtain ⟨E, Rs, hr2, hE2, hRs⟩ := List.map_eq_cons_iff.1 hr1
      refine ⟨Qs, E, Rs, by rw [hE1, hr2], by rw [← hpl, ← hQl, ← hQs, List.length_map], by rw [← hek, ← hE2]; rfl, by rw [hlo, ← hE2]; rfl, fun g => by rw [hch, hQs, hRs]⟩
    · rw [hk] at hkf; cases hkf
  obtain ⟨Qs, E, Rs, hEs, hQl, hxs, hgs, hch⟩ := hsplit
  have HXS := kept hxs
  clear hxs
  have hEm : E ∈ Es := by rw [hEs]; simp
  have hEg : GInv E.gs ∧ BdG E.gs N := by
    have : E.px ∈ P := by rw [← HPP.out]; exact List.mem_map_of_mem hEm
    exact ⟨HI.out.inv _ this, HI.out.bd _ this⟩
  rw [← hgs] at hc htg ⊢
  have hpn : pl < n := by rw [← HX.out.ln, hEs, List.length_append, List.length_cons, hQl]; omega
  obtain ⟨g0, hA, E', he', _, z0, z1, _⟩ := HX.out.ent hpn
  have hEE : E' = E := by
    rw [hEs, List.getElem?_append_right (by omega), hQl, Nat.sub_self] at he'
    simpa using he'.symm
  subst hEE
  subst hA
  have HZ1 := kept z1
  have HXB := kept (HX.out.box.cell 0)
  have HHI := kept (HX.out.all E' hEm).his
  have HXS' : Hid (E'.xs = ys) := HXS
  have HSP := kept (And.intro hEs (And.intro hgs hch))
  have hp0 : (0 : Int) ≤ (pl : Int) := by omega
  have hpn' : (pl : Int) < (n : Int) := by omega
  clear he' z0 z1 hk hpl hEs hgs hch hQl hEm
  obtain ⟨z, hz⟩ : ∃ z, tc E'.gs = z := ⟨_, rfl⟩
  have HZ := kept hz
  have HTG := kept htg
  rw [hz] at hc ⊢
  have hz0 : (z == 0) = false := by simpa using hc
  have hz1 : (z != 0) = true := by simpa using hc
  clear hz hc htg
  go_enter Tryz.func46, Tryz.ntmps46
  go_wp2
  refine wp_region_held_drew (S := (fun W' => (W'.cell? ⟨w.heap.size, 0, none⟩ = some (.int .i64 q.1) ∧ W'.cell? ⟨w.heap.size, 1, none⟩ = some (.int .i64 q.2)) ∧ (W'.cell? ⟨x, 1, none⟩ = some (.int .i64 l.1) ∧ W'.cell? ⟨x, 2, none⟩ = some (.int .i64 l.2)))) (by kernel_rfl) ?_ (fun hHeld => ?_)
  · ((try dsimp only); (first | with_reducible exact HS0.out | with_reducible exact HS1.out))
  refine hand_take 0 (some 15) ?_ (by kernel_rfl) (by kernel_rfl) (by kernel_rfl) (by kernel_rfl) (by kernel_rfl) (fun _ _ _ h => h) ?_ (by assumption) ?_
  rotate_left
  · (intro o ho w hSw; (simp only [List.getElem?_toArray, List.getElem?_cons_succ, List.getElem?_cons_zero, Option.some.injEq] at ho); subst ho; (try dsimp only at hSw); go_simp; (first | done | with_reducible rfl))
  (try simp only [Act.put, List.setIfInBounds_toArray, List.set_cons_zero, List.set_cons_succ])
  refine hand_take 1 (some 16) ?_ (by kernel_rfl) (by kernel_rfl) (by kernel_rfl) (by kernel_rfl) (by kernel_rfl) (fun _ _ _ h => h) ?_ (by assumption) ?_
  rotate_left
  · (intro o ho w hSw; (simp only [List.getElem?_toArray, List.getElem?_cons_succ, List.getElem?_cons_zero, Option.some.injEq] at ho); subst ho; (try dsimp only at hSw); go_simp; (first | done | with_reducible rfl))
  (try simp only [Act.put, List.setIfInBounds_toArray, List.set_cons_zero, List.set_cons_succ])
  refine hand_take 2 (some 17) ?_ (by kernel_rfl) (by kernel_rfl) (by kernel_rfl) (by kernel_rfl) (by kernel_rfl) (fun _ _ _ h => h) ?_ (by assumption) ?_
  rotate_left
  · (intro o ho w hSw; (simp only [List.getElem?_toArray, List.getElem?_cons_succ, List.getElem?_cons_zero, Option.some.injEq] at ho); subst ho; (try dsimp only at hSw); go_simp; (first | done | with_reducible rfl))
  (try simp only [Act.put, List.setIfInBounds_toArray, List.set_cons_zero, List.set_cons_succ])
  refine hand_take 3 (some 18) ?_ (by kernel_rfl) (by kernel_rfl) (by kernel_rfl) (by kernel_rfl) (by kernel_rfl) (fun _ _ _ h => h) ?_ (by assumption) ?_
  rotate_left
  · (intro o ho w hSw; (simp only [List.getElem?_toArray, List.getElem?_cons_succ, List.getElem?_cons_zero, Option.some.injEq] at ho); subst ho; (try dsimp only at hSw); go_simp; (first | done | with_reducible rfl))
  (try simp only [Act.put, List.setIfInBounds_toArray, List.set_cons_zero, List.set_cons_succ])
  refine hand_take 4 (some 19) ?_ (by kernel_rfl) (by kernel_rfl) (by kernel_rfl) (by kernel_rfl) (by kernel_rfl) (fun _ _ _ h => h) ?_ (by assumption) ?_
  rotate_left
  · (intro o ho w hSw; (simp only [List.getElem?_toArray, List.getElem?_cons_succ, List.getElem?_cons_zero, Option.some.injEq] at ho); subst ho; (try dsimp only at hSw); go_simp; (first | done | with_reducible rfl))
  (try simp only [Act.put, List.setIfInBounds_toArray, List.set_cons_zero, List.set_cons_succ])
  refine hand_ready 5 (by kernel_rfl) (by kernel_rfl) (fun o ho K hK => ?_)
  (simp only [List.getElem?_toArray, List.getElem?_cons_succ, List.getElem?_cons_zero, Option.some.injEq] at ho)
  subst ho
  go_simp
  (go_at_call 32; (with_reducible refine (HP _).out.mono ?_); rintro e w1 ⟨rfl, hb1⟩; have HS1 := kept (show (fun W' => (W'.cell? ⟨w.heap.size, 0, none⟩ = some (.int .i64 q.1) ∧ W'.cell? ⟨w.heap.size, 1, none⟩ = some (.int .i64 q.2)) ∧ (W'.cell? ⟨x, 1, none⟩ = some (.int .i64 l.1) ∧ W'.cell? ⟨x, 2, none⟩ = some (.int .i64 l.2))) w1 from ⟨⟨(Keeps.of_below hb1).cell_ HS0.out.1.1, (Keeps.of_below hb1).cell_ HS0.out.1.2⟩, ⟨(Keeps.of_below hb1).cell_ HS0.out.2.1, (Keeps.of_below hb1).cell_ HS0.out.2.2⟩⟩); have HB1 := kept (bel_to hb1 HB.out); have HR1 := kept ((show Blk (w.alloc (.cells #[.int .i64 q.1, .int .i64 q.2] 29)).drew w.heap.size 29 [.int .i64 q.1, .int .i64 q.2] from HR0.out).below hb1 HR0.out.lt); clear hb1)
  (try go_wp2_with fail)
  refine hK.out _ _ ?_ (fun hHeld => ?_)
  · ((try dsimp only); (first | with_reducible exact HS0.out | with_reducible exact HS1.out))
  clear hK K
  (try simp only [Act.put, List.setIfInBounds_toArray, List.set_cons_zero, List.set_cons_succ])
  refine hand_take 6 (some 21) ?_ (by kernel_rfl) (by kernel_rfl) (by kernel_rfl) (by kernel_rfl) (by kernel_rfl) (fun _ _ _ h => h) ?_ (by assumption) ?_
  rotate_left
  · (intro o ho w hSw; (simp only [List.getElem?_toArray, List.getElem?_cons_succ, List.getElem?_cons_zero, Option.some.injEq] at ho); subst ho; (try dsimp only at hSw); go_simp; (first | done | with_reducible rfl))
  (try simp only [Act.put, List.setIfInBounds_toArray, List.set_cons_zero, List.set_cons_succ])
  refine wpAnyH_done (by kernel_rfl) ?_ _
  clear hHeld
  go_wp2_with (first | (go_at_call 25; (with_reducible refine ((HPL _ HB1.out).out).mono ?_); rintro e w2 ⟨rfl, hb2⟩; have HB2 := kept (bel_to hb2 HB1.out); clear hb2; have hba : Below w2.heap.size w2 (w2.alloc (.cells #[.slice none 0 0] 102)) := (Below.refl _ _).alloc (Nat.le_refl _) _; have HB3 := kept (bel_to hba HB2.out); have HC := kept (HTT.out _ _ _ _ HB3.out (HHI.out.below HB3.out) hEg.1 hEg.2); rw [HZ.out] at HC; have k1 := (Keeps.of_below HB3.out).cell_ HZ1.out; have k2 := (Keeps.of_below HB3.out).cell_ HXB.out; clear hba) | ((go_at_fn g; (with_reducible refine HC.out.mono ?_); rintro e w4 ⟨rfl, hl⟩; have HL := kept hl; clear hl k1 k2)))
  go_returns
  refine ⟨rfl, ?_⟩
  obtain ⟨hEs, hgs, hch⟩ := HSP.out
  have h3 := HX.out.below HB3.out
  rw [hEs] at h3
  have hl := HL.out
  rw [HTG.out] at hl
  obtain ⟨F', h4, hf, t⟩ := h3.hist hl
  refine ⟨_, ⟨_, _, _, _, h4, fun j => Iff.rfl, ?_⟩, fun j hj => ?_, ?_⟩
  · rw [← HPP.out, hEs, List.map_append, List.map_append, List.map_cons, List.map_cons]
    rfl
  · rw [hEs]
    exact (hf j hj).imp id (fun e => Nat.le_trans HB3.out.size e)
  · exact (Turned.of_below HB3.out _).trans (t.mono (fun j _ hj => ⟨.inr (.inr ⟨E', by rw [hEs]; simp, .inr hj⟩), HHI.out.nu hj⟩))
set_option maxRecDepth 100000 in
set_option maxHeartbeats 4000000 in
/-- A change that comes, of a key with a history. -/
theorem change_kn_ok {w : World} {x : Nat} {A : Option Addr} {n k : Nat} {l : Rv} {Es : List EnL} (h : IxL w x A n k l Es) {P : List PE} (hP : Es.map EnL.px = P) {N : Nat} (hi : XInv l P N) (hN : N ≤ 800000) (B : Option Addr) (m d : Nat) (ys : List UInt8) (hrd : Rd w B m ys) (hm : m ≤ 1000) (q : Rv) (hq : ltR l q = true) {g : Nat} {cb : Array Value} {tc : List Gn → Int} {tg : List Gn → List Gn} (hT : TryK w g cb tc tg N) (eg : ∀ args w, (callFunc g args).run Tryz.prog w = .ok (.enter g args) w) (hk : knX P ys = true) (hc : tc (loX P ys) = 0) :
    Calls Tryz.prog 46 #[.pointer (some ⟨x, 0, none⟩), .slice B m d, .agg #[.int .i64 q.1, .int .i64 q.2], .func (.func g) #[] cb] w fun e w' => e = .returned (.int .i64 0) ∧ IxLeft w x (footX x A n k Es) q (chX P ys (tg (loX P ys))) w' := by
  have hb0 : Below w.heap.size w (w.alloc (.cells #[.int .i64 q.1, .int .i64 q.2] 29)) := (Below.refl _ w).alloc (Nat.le_refl _) _
  have HR0 := kept (Blk.new w 29 #[.int .i64 q.1, .int .i64 q.2])
  obtain ⟨t0, t1⟩ := two_new w 29 q.1 q.2
  have hx := h.below hb0
  have x1 : (w.alloc (.cells #[.int .i64 q.1, .int .i64 q.2] 29)).cell? ⟨x, 1, none⟩ = some (.int .i64 l.1) := hx.box.cell 1
  have x2 : (w.alloc (.cells #[.int .i64 q.1, .int .i64 q.2] 29)).cell? ⟨x, 2, none⟩ = some (.int .i64 l.2) := hx.box.cell 2
  have HS0 := kept (show (fun W' => (W'.cell? ⟨w.heap.size, 0, none⟩ = some (.int .i64 q.1) ∧ W'.cell? ⟨w.heap.size, 1, none⟩ = some (.int .i64 q.2)) ∧ (W'.cell? ⟨x, 1, none⟩ = some (.int .i64 l.1) ∧ W'.cell? ⟨x, 2, none⟩ = some (.int .i64 l.2))) (w.alloc (.cells #[.int .i64 q.1, .int .i64 q.2] 29)).drew from ⟨⟨t0, t1⟩, ⟨x1, x2⟩⟩)
  have HB := kept hb0.drew
  have HP := fun W => kept (cmp_pair q l W)
  have hle : decide (ordR q.1 q.2 l.1 l.2 ≤ 0) = false := by rw [le_of_ordR, hq]; rfl
  generalize ordR q.1 q.2 l.1 l.2 = or at HP hle
  have hle' : ¬ or ≤ 0 := by simpa using hle
  have hnN : n ≤ N := by rw [← h.ln]; have := hi.ln; rw [← hP, List.length_map] at this; exact this
  have HPL := fun W (hb : Below w.heap.size w W) => kept (placeL_any (h.below hb) (by rw [hP]; exact hi.rise) (by omega) B m d ys (hrd.below hb))
  rw [hP] at HPL
  have HX := kept h
  have HI := kept hi
  have HK := kept hrd
  have HQ := kept hq
  have HTT := kept hT
  have HPP := kept hP
  have HNN := kept hnN
  clear t0 t1 x1 x2 hx hb0 h hT hle hi hrd hq hP hnN
  obtain ⟨pl, hpl⟩ : ∃ pl, plX P ys = pl := ⟨_, rfl⟩
  rw [hk, hpl] at HPL
  have hsplit : ∃ Qs E Rs, Es = Qs ++ E :: Rs ∧ Qs.length = pl ∧ E.xs = ys ∧ E.gs = loX P ys ∧ ∀ g, chX P ys g = Qs.map EnL.px ++ (ys, g) :: Rs.map EnL.px := by
    rcases parted HI.out.rise ys with ⟨_, Qp, e, Rp, hPe, hQl, hek, hlo, hch, _, _⟩ | ⟨hkf, _⟩
    · rw [← HPP.out] at hPe
      obtain ⟨Qs, r1, hE1, hQs, hr1⟩ := List.map_eq_append_iff.1 hPe
      obtain ⟨E, Rs, hr2, hE2, hRs⟩ := List.map_eq_cons_iff.1 hr1
      refine ⟨Qs, E, Rs, by rw [hE1, hr2], by rw [← hpl, ← hQl, ← hQs, List.length_map], by rw [← hek, ← hE2]; rfl, by rw [hlo, ← hE2]; rfl, fun g => by rw [hch, hQs, hRs]⟩
    · rw [hk] at hkf; cases hkf
  obtain ⟨Qs, E, Rs, hEs, hQl, hxs, hgs, hch⟩ := hsplit
  have HXS := kept hxs
  clear hxs
  have hEm : E ∈ Es := by rw [hEs]; simp
  have hEg : GInv E.gs ∧ BdG E.gs N := by
    have : E.px ∈ P := by rw [← HPP.out]; exact List.mem_map_of_mem hEm
    exact ⟨HI.out.inv _ this, HI.out.bd _ this⟩
  rw [← hgs] at hc  ⊢
  have hpn : pl < n := by rw [← HX.out.ln, hEs, List.length_append, List.length_cons, hQl]; omega
  obtain ⟨g0, hA, E', he', _, z0, z1, _⟩ := HX.out.ent hpn
  have hEE : E' = E := by
    rw [hEs, List.getElem?_append_right (by omega), hQl, Nat.sub_self] at he'
    simpa using he'.symm
  subst hEE
  subst hA
  have HZ1 := kept z1
  have HXB := kept (HX.out.box.cell 0)
  have HHI := kept (HX.out.all E' hEm).his
  have HXS' : Hid (E'.xs = ys) := HXS
  have HSP := kept (And.intro hEs (And.intro hgs hch))
  have hp0 : (0 : Int) ≤ (pl : Int) := by omega
  have hpn' : (pl : Int) < (n : Int) := by omega
  clear he' z0 z1 hk hpl hEs hgs hch hQl hEm
  have HZ := kept hc
  clear hc
  go_enter Tryz.func46, Tryz.ntmps46
  go_wp2
  refine wp_region_held_drew (S := (fun W' => (W'.cell? ⟨w.heap.size, 0, none⟩ = some (.int .i64 q.1) ∧ W'.cell? ⟨w.heap.size, 1, none⟩ = some (.int .i64 q.2)) ∧ (W'.cell? ⟨x, 1, none⟩ = some (.int .i64 l.1) ∧ W'.cell? ⟨x, 2, none⟩ = some (.int .i64 l.2)))) (by kernel_rfl) ?_ (fun hHeld => ?_)
  · ((try dsimp only); (first | with_reducible exact HS0.out | with_reducible exact HS1.out))
  refine hand_take 0 (some 15) ?_ (by kernel_rfl) (by kernel_rfl) (by kernel_rfl) (by kernel_rfl) (by kernel_rfl) (fun _ _ _ h => h) ?_ (by assumption) ?_
  rotate_left
  · (intro o ho w hSw; (simp only [List.getElem?_toArray, List.getElem?_cons_succ, List.getElem?_cons_zero, Option.some.injEq] at ho); subst ho; (try dsimp only at hSw); go_simp; (first | done | with_reducible rfl))
  (try simp only [Act.put, List.setIfInBounds_toArray, List.set_cons_zero, List.set_cons_succ])
  refine hand_take 1 (some 16) ?_ (by kernel_rfl) (by kernel_rfl) (by kernel_rfl) (by kernel_rfl) (by kernel_rfl) (fun _ _ _ h => h) ?_ (by assumption) ?_
  rotate_left
  · (intro o ho w hSw; (simp only [List.getElem?_toArray, List.getElem?_cons_succ, List.getElem?_cons_zero, Option.some.injEq] at ho); subst ho; (try dsimp only at hSw); go_simp; (first | done | with_reducible rfl))
  (try simp only [Act.put, List.setIfInBounds_toArray, List.set_cons_zero, List.set_cons_succ])
  refine hand_take 2 (some 17) ?_ (by kernel_rfl) (by kernel_rfl) (by kernel_rfl) (by kernel_rfl) (by kernel_rfl) (fun _ _ _ h => h) ?_ (by assumption) ?_
  rotate_left
  · (intro o ho w hSw; (simp only [List.getElem?_toArray, List.getElem?_cons_succ, List.getElem?_cons_zero, Option.some.injEq] at ho); subst ho; (try dsimp only at hSw); go_simp; (first | done | with_reducible rfl))
  (try simp only [Act.put, List.setIfInBounds_toArray, List.set_cons_zero, List.set_cons_succ])
  refine hand_take 3 (some 18) ?_ (by kernel_rfl) (by kernel_rfl) (by kernel_rfl) (by kernel_rfl) (by kernel_rfl) (fun _ _ _ h => h) ?_ (by assumption) ?_
  rotate_left
  · (intro o ho w hSw; (simp only [List.getElem?_toArray, List.getElem?_cons_succ, List.getElem?_cons_zero, Option.some.injEq] at ho); subst ho; (try dsimp only at hSw); go_simp; (first | done | with_reducible rfl))
  (try simp only [Act.put, List.setIfInBounds_toArray, List.set_cons_zero, List.set_cons_succ])
  refine hand_take 4 (some 19) ?_ (by kernel_rfl) (by kernel_rfl) (by kernel_rfl) (by kernel_rfl) (by kernel_rfl) (fun _ _ _ h => h) ?_ (by assumption) ?_
  rotate_left
  · (intro o ho w hSw; (simp only [List.getElem?_toArray, List.getElem?_cons_succ, List.getElem?_cons_zero, Option.some.injEq] at ho); subst ho; (try dsimp only at hSw); go_simp; (first | done | with_reducible rfl))
  (try simp only [Act.put, List.setIfInBounds_toArray, List.set_cons_zero, List.set_cons_succ])
  refine hand_ready 5 (by kernel_rfl) (by kernel_rfl) (fun o ho K hK => ?_)
  (simp only [List.getElem?_toArray, List.getElem?_cons_succ, List.getElem?_cons_zero, Option.some.injEq] at ho)
  subst ho
  go_simp
  (go_at_call 32; (with_reducible refine (HP _).out.mono ?_); rintro e w1 ⟨rfl, hb1⟩; have HS1 := kept (show (fun W' => (W'.cell? ⟨w.heap.size, 0, none⟩ = some (.int .i64 q.1) ∧ W'.cell? ⟨w.heap.size, 1, none⟩ = some (.int .i64 q.2)) ∧ (W'.cell? ⟨x, 1, none⟩ = some (.int .i64 l.1) ∧ W'.cell? ⟨x, 2, none⟩ = some (.int .i64 l.2))) w1 from ⟨⟨(Keeps.of_below hb1).cell_ HS0.out.1.1, (Keeps.of_below hb1).cell_ HS0.out.1.2⟩, ⟨(Keeps.of_below hb1).cell_ HS0.out.2.1, (Keeps.of_below hb1).cell_ HS0.out.2.2⟩⟩); have HB1 := kept (bel_to hb1 HB.out); have HR1 := kept ((show Blk (w.alloc (.cells #[.int .i64 q.1, .int .i64 q.2] 29)).drew w.heap.size 29 [.int .i64 q.1, .int .i64 q.2] from HR0.out).below hb1 HR0.out.lt); clear hb1)
  (try go_wp2_with fail)
  refine hK.out _ _ ?_ (fun hHeld => ?_)
  · ((try dsimp only); (first | with_reducible exact HS0.out | with_reducible exact HS1.out))
  clear hK K
  (try simp only [Act.put, List.setIfInBounds_toArray, List.set_cons_zero, List.set_cons_succ])
  refine hand_take 6 (some 21) ?_ (by kernel_rfl) (by kernel_rfl) (by kernel_rfl) (by kernel_rfl) (by kernel_rfl) (fun _ _ _ h => h) ?_ (by assumption) ?_
  rotate_left
  · (intro o ho w hSw; (simp only [List.getElem?_toArray, List.getElem?_cons_succ, List.getElem?_cons_zero, Option.some.injEq] at ho); subst ho; (try dsimp only at hSw); go_simp; (first | done | with_reducible rfl))
  (try simp only [Act.put, List.setIfInBounds_toArray, List.set_cons_zero, List.set_cons_succ])
  refine wpAnyH_done (by kernel_rfl) ?_ _
  clear hHeld
  go_wp2_with (first | (go_at_call 25; (with_reducible refine ((HPL _ HB1.out).out).mono ?_); rintro e w2 ⟨rfl, hb2⟩; have HR3 := kept ((HR1.out.below hb2 HR1.out.lt).alloc (.cells #[.slice none 0 0] 102)); have HB2 := kept (bel_to hb2 HB1.out); clear hb2; have hba : Below w2.heap.size w2 (w2.alloc (.cells #[.slice none 0 0] 102)) := (Below.refl _ _).alloc (Nat.le_refl _) _; have HB3 := kept (bel_to hba HB2.out); have HC := kept (HTT.out _ _ _ _ HB3.out (HHI.out.below HB3.out) hEg.1 hEg.2); rw [HZ.out] at HC; have k1 := (Keeps.of_below HB3.out).cell_ HZ1.out; have k2 := (Keeps.of_below HB3.out).cell_ HXB.out; clear hba) | ((go_at_fn g; (with_reducible refine HC.out.mono ?_); rintro e w4 ⟨rfl, hl⟩; have h3 := HX.out.below HB3.out; have HL := kept hl; have hbx := (h3.apart_h (HHI.out.below HB3.out)).1; have hr4 : Blk w4 w.heap.size 29 [.int .i64 q.1, .int .i64 q.2] := (by obtain ⟨_, _, _, t⟩ := hl; exact t.blk HR3.out (fun e => by have := HHI.out.lt e; omega)); have hx4 : Blk w4 x 70 [.slice (some ⟨g0, 0, none⟩) n k, .int .i64 l.1, .int .i64 l.2] := (by obtain ⟨_, _, _, t⟩ := hl; exact t.blk h3.box hbx); have r0 := hr4.cell 0; have r1 := hr4.cell 1; have b1 := hx4.cell 1; have b2 := hx4.cell 2; have f1 := hx4.frozen 1; have f2 := hx4.frozen 2; have HX4 := kept hx4; clear hl k1 k2 hr4 hx4 h3 hbx)))
  clear r0 r1 b1 b2 f1 f2
  go_returns
  refine ⟨rfl, ?_⟩
  obtain ⟨hEs, hgs, hch⟩ := HSP.out
  have h3 := HX.out.below HB3.out
  rw [hEs] at h3
  obtain ⟨F', h4, hf, t⟩ := h3.hist HL.out
  have t5 : Turned w4 ((w4.setCell ⟨x, 1, none⟩ (.int .i64 q.1)).setCell ⟨x, 2, none⟩ (.int .i64 q.2)) (fun j => j = x) := ((Turned.refl w4 (fun j => j = x)).setCell (p := ⟨x, 1, none⟩) (fun _ => rfl) _).setCell (p := ⟨x, 2, none⟩) (fun _ => rfl) _
  have h5 : IxL ((w4.setCell ⟨x, 1, none⟩ (.int .i64 q.1)).setCell ⟨x, 2, none⟩ (.int .i64 q.2)) x (some ⟨g0, 0, none⟩) n k q (Qs ++ { E' with F := F', gs := tg E'.gs } :: Rs) := by
    have hnT : ∀ {j : Nat} {cur : Array Value} {s : TypeId}, w4.heap[j]? = some (.cells cur s (0, 0)) → s ≠ 70 → ¬ j = x := fun hc h1 hj => ne_of_types hc (show w4.heap[x]? = some _ from h4.box) h1 hj
    refine ⟨(h4.box.set_ 1 _).set_ 2 _, gown_turned h4.row t5 (fun j hj => ?_), h4.ln, fun e he => (h4.all e he).turned t5 (fun j hj => ?_) (fun j hj => ?_), h4.ap⟩
    · obtain ⟨c, hc⟩ := gown_cl (k := 0) h4.row hj
      exact hnT hc (by decide)
    · obtain ⟨c, hc⟩ := (h4.all e he).kty hj
      exact hnT hc (by decide)
    · obtain ⟨c, s, hc, hs⟩ := (h4.all e he).his.ty hj
      rcases hs with rfl | rfl | rfl <;> exact hnT hc (by decide)
  refine ⟨_, ⟨_, _, _, _, h5, fun j => Iff.rfl, ?_⟩, fun j hj => ?_, ?_⟩
  · have hxs : E'.xs = ys := HXS'.out
    rw [hch, List.map_append, List.map_cons, ← hxs]
    rfl
  · rw [hEs]
    exact (hf j hj).imp id (fun e => Nat.le_trans HB3.out.size e)
  · exact ((Turned.of_below HB3.out _).trans (t.mono (fun j _ hj => ⟨.inr (.inr ⟨E', by rw [hEs]; simp, .inr hj⟩), HHI.out.nu hj⟩))).trans (t5.mono (fun j _ hj => ⟨.inl hj, by rw [hj]; exact NU.of (show w.heap[x]? = some _ from HX.out.box) (by decide)⟩))
end Go.Proofs.YtlckeebbjnhejaaGreat
end

section
/-
  package index: change of a key without a history: it comes in.
-/
namespace Go.Proofs.YtlckeebbjnhejaaGreat
open Go.ChangeShapes Go.WideShapes Go.ChangeAt Go.RowKit Go.Deep
set_option linter.unusedVariables false
set_option linter.unusedSimpArgs false

set_option maxRecDepth 100000 in
set_option maxHeartbeats 4000000 in
/-- A change that comes, of a key without a history. -/
theorem change_new_ok {w : World} {x : Nat} {A : Option Addr} {n k : Nat} {l : Rv} {Es : List EnL} (h : IxL w x A n k l Es) {P : List PE} (hP : Es.map EnL.px = P) {N : Nat} (hi : XInv l P N) (hN : N ≤ 800000) (B : Option Addr) (m d : Nat) (ys : List UInt8) (hrd : Rd w B m ys) (hm : m ≤ 1000) (q : Rv) (hq : ltR l q = true) {g : Nat} {cb : Array Value} {tc : List Gn → Int} {tg : List Gn → List Gn} (hT : TryK w g cb tc tg N) (eg : ∀ args w, (callFunc g args).run Tryz.prog w = .ok (.enter g args) w) (hk : knX P ys = false) (hc : tc [] = 0) :
    Calls Tryz.prog 46 #[.pointer (some ⟨x, 0, none⟩), .slice B m d, .agg #[.int .i64 q.1, .int .i64 q.2], .func (.func g) #[] cb] w fun e w' => e = .returned (.int .i64 0) ∧ IxLeft w x (footX x A n k Es) q (chX P ys (tg [])) w' := by
  have hb0 : Below w.heap.size w (w.alloc (.cells #[.int .i64 q.1, .int .i64 q.2] 29)) := (Below.refl _ w).alloc (Nat.le_refl _) _
  have HR0 := kept (Blk.new w 29 #[.int .i64 q.1, .int .i64 q.2])
  obtain ⟨t0, t1⟩ := two_new w 29 q.1 q.2
  have hx := h.below hb0
  have x1 : (w.alloc (.cells #[.int .i64 q.1, .int .i64 q.2] 29)).cell? ⟨x, 1, none⟩ = some (.int .i64 l.1) := hx.box.cell 1
  have x2 : (w.alloc (.cells #[.int .i64 q.1, .int .i64 q.2] 29)).cell? ⟨x, 2, none⟩ = some (.int .i64 l.2) := hx.box.cell 2
  have HS0 := kept (show (fun W' => (W'.cell? ⟨w.heap.size, 0, none⟩ = some (.int .i64 q.1) ∧ W'.cell? ⟨w.heap.size, 1, none⟩ = some (.int .i64 q.2)) ∧ (W'.cell? ⟨x, 1, none⟩ = some (.int .i64 l.1) ∧ W'.cell? ⟨x, 2, none⟩ = some (.int .i64 l.2))) (w.alloc (.cells #[.int .i64 q.1, .int .i64 q.2] 29)).drew from ⟨⟨t0, t1⟩, ⟨x1, x2⟩⟩)
  have HB := kept hb0.drew
  have HP := fun W => kept (cmp_pair q l W)
  have hle : decide (ordR q.1 q.2 l.1 l.2 ≤ 0) = false := by rw [le_of_ordR, hq]; rfl
  generalize ordR q.1 q.2 l.1 l.2 = or at HP hle
  have hle' : ¬ or ≤ 0 := by simpa using hle
  have hnN : n ≤ N := by rw [← h.ln]; have := hi.ln; rw [← hP, List.length_map] at this; exact this
  have HPL := fun W (hb : Below w.heap.size w W) => kept (placeL_any (h.below hb) (by rw [hP]; exact hi.rise) (by omega) B m d ys (hrd.below hb))
  rw [hP] at HPL
  have HX := kept h
  have HI := kept hi
  have HK := kept hrd
  have HQ := kept hq
  have HTT := kept hT
  have HPP := kept hP
  have HNN := kept hnN
  clear t0 t1 x1 x2 hx hb0 h hT hle hi hrd hq hP hnN
  obtain ⟨pl, hpl⟩ : ∃ pl, plX P ys = pl := ⟨_, rfl⟩
  rw [hk, hpl] at HPL
  have hpn : pl ≤ n := by rw [← HX.out.ln, ← hpl, ← HPP.out, ← List.length_map (f := EnL.px)]; exact plX_le _ _
  have HCH : Hid (∀ g, chX P ys g = P.take pl ++ (ys, g) :: P.drop pl) := kept (fun g => by unfold chX; rw [hk, hpl]; rfl)
  have HZ := kept hc
  have HPN := kept hpn
  clear hk hpl hc hpn
  go_enter Tryz.func46, Tryz.ntmps46
  go_wp2
  refine wp_region_held_drew (S := (fun W' => (W'.cell? ⟨w.heap.size, 0, none⟩ = some (.int .i64 q.1) ∧ W'.cell? ⟨w.heap.size, 1, none⟩ = some (.int .i64 q.2)) ∧ (W'.cell? ⟨x, 1, none⟩ = some (.int .i64 l.1) ∧ W'.cell? ⟨x, 2, none⟩ = some (.int .i64 l.2)))) (by kernel_rfl) ?_ (fun hHeld => ?_)
  · ((try dsimp only); (first | with_reducible exact HS0.out | with_reducible exact HS1.out))
  refine hand_take 0 (some 15) ?_ (by kernel_rfl) (by kernel_rfl) (by kernel_rfl) (by kernel_rfl) (by kernel_rfl) (fun _ _ _ h => h) ?_ (by assumption) ?_
  rotate_left
  · (intro o ho w hSw; (simp only [List.getElem?_toArray, List.getElem?_cons_succ, List.getElem?_cons_zero, Option.some.injEq] at ho); subst ho; (try dsimp only at hSw); go_simp; (first | done | with_reducible rfl))
  (try simp only [Act.put, List.setIfInBounds_toArray, List.set_cons_zero, List.set_cons_succ])
  refine hand_take 1 (some 16) ?_ (by kernel_rfl) (by kernel_rfl) (by kernel_rfl) (by kernel_rfl) (by kernel_rfl) (fun _ _ _ h => h) ?_ (by assumption) ?_
  rotate_left
  · (intro o ho w hSw; (simp only [List.getElem?_toArray, List.getElem?_cons_succ, List.getElem?_cons_zero, Option.some.injEq] at ho); subst ho; (try dsimp only at hSw); go_simp; (first | done | with_reducible rfl))
  (try simp only [Act.put, List.setIfInBounds_toArray, List.set_cons_zero, List.set_cons_succ])
  refine hand_take 2 (some 17) ?_ (by kernel_rfl) (by kernel_rfl) (by kernel_rfl) (by kernel_rfl) (by kernel_rfl) (fun _ _ _ h => h) ?_ (by assumption) ?_
  rotate_left
  · (intro o ho w hSw; (simp only [List.getElem?_toArray, List.getElem?_cons_succ, List.getElem?_cons_zero, Option.some.injEq] at ho); subst ho; (try dsimp only at hSw); go_simp; (first | done | with_reducible rfl))
  (try simp only [Act.put, List.setIfInBounds_toArray, List.set_cons_zero, List.set_cons_succ])
  refine hand_take 3 (some 18) ?_ (by kernel_rfl) (by kernel_rfl) (by kernel_rfl) (by kernel_rfl) (by kernel_rfl) (fun _ _ _ h => h) ?_ (by assumption) ?_
  rotate_left
  · (intro o ho w hSw; (simp only [List.getElem?_toArray, List.getElem?_cons_succ, List.getElem?_cons_zero, Option.some.injEq] at ho); subst ho; (try dsimp only at hSw); go_simp; (first | done | with_reducible rfl))
  (try simp only [Act.put, List.setIfInBounds_toArray, List.set_cons_zero, List.set_cons_succ])
  refine hand_take 4 (some 19) ?_ (by kernel_rfl) (by kernel_rfl) (by kernel_rfl) (by kernel_rfl) (by kernel_rfl) (fun _ _ _ h => h) ?_ (by assumption) ?_
  rotate_left
  · (intro o ho w hSw; (simp only [List.getElem?_toArray, List.getElem?_cons_succ, List.getElem?_cons_zero, Option.some.injEq] at ho); subst ho; (try dsimp only at hSw); go_simp; (first | done | with_reducible rfl))
  (try simp only [Act.put, List.setIfInBounds_toArray, List.set_cons_zero, List.set_cons_succ])
  refine hand_ready 5 (by kernel_rfl) (by kernel_rfl) (fun o ho K hK => ?_)
  (simp only [List.getElem?_toArray, List.getElem?_cons_succ, List.getElem?_cons_zero, Option.some.injEq] at ho)
  subst ho
  go_simp
  (go_at_call 32; (with_reducible refine (HP _).out.mono ?_); rintro e w1 ⟨rfl, hb1⟩; have HS1 := kept (show (fun W' => (W'.cell? ⟨w.heap.size, 0, none⟩ = some (.int .i64 q.1) ∧ W'.cell? ⟨w.heap.size, 1, none⟩ = some (.int .i64 q.2)) ∧ (W'.cell? ⟨x, 1, none⟩ = some (.int .i64 l.1) ∧ W'.cell? ⟨x, 2, none⟩ = some (.int .i64 l.2))) w1 from ⟨⟨(Keeps.of_below hb1).cell_ HS0.out.1.1, (Keeps.of_below hb1).cell_ HS0.out.1.2⟩, ⟨(Keeps.of_below hb1).cell_ HS0.out.2.1, (Keeps.of_below hb1).cell_ HS0.out.2.2⟩⟩); have HB1 := kept (bel_to hb1 HB.out); have HR1 := kept ((show Blk (w.alloc (.cells #[.int .i64 q.1, .int .i64 q.2] 29)).drew w.heap.size 29 [.int .i64 q.1, .int .i64 q.2] from HR0.out).below hb1 HR0.out.lt); clear hb1)
  (try go_wp2_with fail)
  refine hK.out _ _ ?_ (fun hHeld => ?_)
  · ((try dsimp only); (first | with_reducible exact HS0.out | with_reducible exact HS1.out))
  clear hK K
  (try simp only [Act.put, List.setIfInBounds_toArray, List.set_cons_zero, List.set_cons_succ])
  refine hand_take 6 (some 21) ?_ (by kernel_rfl) (by kernel_rfl) (by kernel_rfl) (by kernel_rfl) (by kernel_rfl) (fun _ _ _ h => h) ?_ (by assumption) ?_
  rotate_left
  · (intro o ho w hSw; (simp only [List.getElem?_toArray, List.getElem?_cons_succ, List.getElem?_cons_zero, Option.some.injEq] at ho); subst ho; (try dsimp only at hSw); go_simp; (first | done | with_reducible rfl))
  (try simp only [Act.put, List.setIfInBounds_toArray, List.set_cons_zero, List.set_cons_succ])
  refine wpAnyH_done (by kernel_rfl) ?_ _
  clear hHeld
  go_wp2_with (first | (go_at_call 25; (with_reducible refine ((HPL _ HB1.out).out).mono ?_); rintro e w2 ⟨rfl, hb2⟩; have HR3 := kept ((HR1.out.below hb2 HR1.out.lt).alloc (.cells #[.slice none 0 0] 102)); have HLT := kept (Nat.lt_of_lt_of_le HR1.out.lt hb2.size); have HB2 := kept (bel_to hb2 HB1.out); clear hb2; have hba : Below w2.heap.size w2 (w2.alloc (.cells #[.slice none 0 0] 102)) := (Below.refl _ _).alloc (Nat.le_refl _) _; have HB3 := kept (bel_to hba HB2.out); have HC := kept (HTT.out _ _ _ _ HB3.out (gs_new w2) GInv.nil (bd_nil N)); rw [HZ.out] at HC; clear hba) | ((go_at_fn g; (with_reducible refine HC.out.mono ?_); rintro e w4 ⟨rfl, hl⟩; have HL := kept hl; clear hl)))
  obtain ⟨F4, hg4, hF4, t4⟩ := HL.out
  have hb4 : Below w.heap.size w w4 := Turned.only_new HB3.out t4 HB3.out.size (fun i hi => by subst hi; exact HB2.out.size)
  have hx4 := HX.out.below hb4
  have HF4 : Hid (∀ j, F4 j → w.heap.size ≤ j) := kept (fun j hj => (hF4 j hj).elim (fun e => by rw [e]; exact HB2.out.size) (fun e => Nat.le_trans HB3.out.size e))
  have hlw : w.heap.size < w2.heap.size := HLT.out
  have hr4 : Blk w4 w.heap.size 29 [.int .i64 q.1, .int .i64 q.2] := t4.blk HR3.out (by omega)
  have HG4 := kept hg4
  have HB4 := kept hb4
  have HX4 := kept hx4
  have HR4 := kept hr4
  have HCL := kept (clone_any B m d ys w4.drew (HK.out.below hb4.drew) (by omega))
  have HS0 := kept (show (fun W' : World => W'.cell? ⟨x, 0, none⟩ = some (.slice A n k)) w4.drew from hx4.box.cell 0)
  clear hg4 hF4 t4 hb4 hx4 hr4 hlw HS1
  refine region_L [14] ((fun W' => W'.cell? ⟨x, 0, none⟩ = some (.slice A n k))) (by kernel_rfl) ?_ (fun hHeld => ?_)
  · ((try dsimp only); (first | with_reducible exact HS0.out | with_reducible exact HS1.out | with_reducible exact HS2.out | with_reducible exact HS3.out))
  (try simp only [List.size_toArray, List.length_cons, List.length_nil, Nat.reduceAdd, Array.replicate_succ, Array.replicate_zero, List.push_toArray, List.append_toArray, List.nil_append, List.cons_append])
  refine take_P 0 (some 49) ?_ (by (intro o ho w; (simp only [List.getElem?_toArray, List.getElem?_cons_succ, List.getElem?_cons_zero, Option.some.injEq] at ho); subst ho; go_simp; (first | done | with_reducible rfl))) (by ((try simp only [Act.put, hA, h0, h1]); (first | done | rfl))) (by first | exact fun _ => by assumption | exact fun hE => absurd hE (by decide))
  (try simp only [Act.put, List.setIfInBounds_toArray, List.set_cons_zero, List.set_cons_succ])
  refine take_P 1 (some 50) ?_ (by (intro o ho w; (simp only [List.getElem?_toArray, List.getElem?_cons_succ, List.getElem?_cons_zero, Option.some.injEq] at ho); subst ho; go_simp; (first | done | with_reducible rfl))) (by ((try simp only [Act.put, hA, h0, h1]); (first | done | rfl))) (by first | exact fun _ => by assumption | exact fun hE => absurd hE (by decide))
  (try simp only [Act.put, List.setIfInBounds_toArray, List.set_cons_zero, List.set_cons_succ])
  refine take_P 2 (some 51) ?_ (by (intro o ho w; (simp only [List.getElem?_toArray, List.getElem?_cons_succ, List.getElem?_cons_zero, Option.some.injEq] at ho); subst ho; go_simp; (first | done | with_reducible rfl))) (by ((try simp only [Act.put, hA, h0, h1]); (first | done | rfl))) (by first | exact fun _ => by assumption | exact fun hE => absurd hE (by decide))
  (try simp only [Act.put, List.setIfInBounds_toArray, List.set_cons_zero, List.set_cons_succ])
  refine take_P 3 (some 52) ?_ (by (intro o ho w; (simp only [List.getElem?_toArray, List.getElem?_cons_succ, List.getElem?_cons_zero, Option.some.injEq] at ho); subst ho; go_simp; (first | done | with_reducible rfl))) (by ((try simp only [Act.put, hA, h0, h1]); (first | done | rfl))) (by first | exact fun _ => by assumption | exact fun hE => absurd hE (by decide))
  (try simp only [Act.put, List.setIfInBounds_toArray, List.set_cons_zero, List.set_cons_succ])
  refine take_L 4 (some 53) ?_ (by (intro o ho w hSw; (simp only [List.getElem?_toArray, List.getElem?_cons_succ, List.getElem?_cons_zero, Option.some.injEq] at ho); subst ho; (try dsimp only at hSw); go_simp; (first | done | with_reducible rfl))) (by ((try simp only [Act.put, hA, h0, h1]); (first | done | rfl)))
  (try simp only [Act.put, List.setIfInBounds_toArray, List.set_cons_zero, List.set_cons_succ])
  refine take_P 5 (some 54) ?_ (by (intro o ho w; (simp only [List.getElem?_toArray, List.getElem?_cons_succ, List.getElem?_cons_zero, Option.some.injEq] at ho); subst ho; go_simp; (first | done | with_reducible rfl))) (by ((try simp only [Act.put, hA, h0, h1]); (first | done | rfl))) (by first | exact fun _ => by assumption | exact fun hE => absurd hE (by decide))
  (try simp only [Act.put, List.setIfInBounds_toArray, List.set_cons_zero, List.set_cons_succ])
  refine take_P 6 (some 55) ?_ (by (intro o ho w; (simp only [List.getElem?_toArray, List.getElem?_cons_succ, List.getElem?_cons_zero, Option.some.injEq] at ho); subst ho; go_simp; (first | done | with_reducible rfl))) (by ((try simp only [Act.put, hA, h0, h1]); (first | done | rfl))) (by first | exact fun _ => by assumption | exact fun hE => absurd hE (by decide))
  (try simp only [Act.put, List.setIfInBounds_toArray, List.set_cons_zero, List.set_cons_succ])
  refine take_P 8 (some 57) ?_ (by (intro o ho w; (simp only [List.getElem?_toArray, List.getElem?_cons_succ, List.getElem?_cons_zero, Option.some.injEq] at ho); subst ho; go_simp; (first | done | with_reducible rfl))) (by ((try simp only [Act.put, hA, h0, h1]); (first | done | rfl))) (by first | exact fun _ => by assumption | exact fun hE => absurd hE (by decide))
  (try simp only [Act.put, List.setIfInBounds_toArray, List.set_cons_zero, List.set_cons_succ])
  refine ready_L 7 (fun o ho K hK => ?_)
  (simp only [List.getElem?_toArray, List.getElem?_cons_succ, List.getElem?_cons_zero, Option.some.injEq] at ho)
  subst ho
  go_simp
  (go_at_call 28; (with_reducible refine HCL.out.mono ?_); rintro e w7 ⟨A7, c7, rfl, hown7, hb7⟩; have hb47 := bel_to hb7 ((Below.refl w4.heap.size w4).drew); have HO7 := kept hown7; have HB7 := kept hb47; have HS1 := kept (show (fun W' : World => W'.cell? ⟨x, 0, none⟩ = some (.slice A n k)) w7 from (HX4.out.below hb47).box.cell 0); clear hown7 hb7 hb47)
  (try go_wp2_with fail)
  refine hK.out _ _ ?_ (fun hHeld => ?_)
  · (first | exact fun hE => absurd hE (by decide) | (intro _; (try dsimp only); (first | with_reducible exact HS0.out | with_reducible exact HS1.out | with_reducible exact HS2.out | with_reducible exact HS3.out)))
  clear hK K
  (try replace hHeld := hHeld (by decide))
  (try simp only [Act.put, List.setIfInBounds_toArray, List.set_cons_zero, List.set_cons_succ])
  refine take_P 9 (some 58) ?_ (by (intro o ho w; (simp only [List.getElem?_toArray, List.getElem?_cons_succ, List.getElem?_cons_zero, Option.some.injEq] at ho); subst ho; go_simp; (first | done | with_reducible rfl))) (by ((try simp only [Act.put, hA, h0, h1]); (first | done | rfl))) (by first | exact fun _ => by assumption | exact fun hE => absurd hE (by decide))
  (try simp only [Act.put, List.setIfInBounds_toArray, List.set_cons_zero, List.set_cons_succ])
  refine ready_L 10 (fun o ho K hK => ?_)
  (simp only [List.getElem?_toArray, List.getElem?_cons_succ, List.getElem?_cons_zero, Option.some.injEq] at ho)
  subst ho
  go_simp
  (refine name_world (fun W10 hW10 => ?_); (have hb10 : Below w7.heap.size w7 W10 := by rw [hW10]; exact (Below.refl _ w7).alloc (Nat.le_refl _) _); (have hv10 : Blk W10 w7.heap.size 67 [.slice A7 m c7, .pointer (some ⟨w2.heap.size, 0, none⟩)] := by rw [hW10]; exact Blk.new w7 67 #[.slice A7 m c7, .pointer (some ⟨w2.heap.size, 0, none⟩)]); have hb47 : Below w4.heap.size w4 W10 := bel_to hb10 HB7.out; have hx10 := HX4.out.below hb47; have HX10 := kept hx10; have HS2 := kept (show (fun W' : World => W'.cell? ⟨x, 0, none⟩ = some (.slice A n k)) W10 from hx10.box.cell 0); have HV10 := kept hv10; have HB10 := kept (And.intro hb10 hb47); have HI10 := kept (insE_any A n k pl w7.heap.size (enX Es) (.slice A7 m c7) (.pointer (some ⟨w2.heap.size, 0, none⟩)) W10 hx10.row (enX_one Es) (by have := HNN.out; omega) HPN.out hv10 (fun e => by have := (gown_lt HX4.out.row e).2; have := HB7.out.size; omega) rfl rfl); clear hW10 hb10 hv10 hb47 hx10)
  refine hK.out _ _ ?_ (fun hHeld => ?_)
  · (first | exact fun hE => absurd hE (by decide) | (intro _; (try dsimp only); (first | with_reducible exact HS0.out | with_reducible exact HS1.out | with_reducible exact HS2.out | with_reducible exact HS3.out)))
  clear hK K
  (try replace hHeld := hHeld (by decide))
  (try simp only [Act.put, List.setIfInBounds_toArray, List.set_cons_zero, List.set_cons_succ])
  refine ready_L 11 (fun o ho K hK => ?_)
  (simp only [List.getElem?_toArray, List.getElem?_cons_succ, List.getElem?_cons_zero, Option.some.injEq] at ho)
  subst ho
  go_simp
  (go_at_call 81; (with_reducible refine HI10.out.mono ?_); rintro e w8 ⟨A8, c8, rfl, hF8⟩; (obtain ⟨ho8, t8, hg8⟩ := hF8.out); (have hbx8 : Blk w8 x 70 [.slice A n k, .int .i64 l.1, .int .i64 l.2] := t8.blk HX10.out.box (fun e => by obtain ⟨cc, hcc⟩ := gown_cl (k := 0) HX10.out.row e; exact ne_of_types hcc (show W10.heap[x]? = some _ from HX10.out.box) (by decide) rfl)); have HO8 := kept (And.intro ho8 (And.intro t8 hg8)); have HBX8 := kept hbx8; have hc8 : w8.cell? ⟨x, 0, none⟩ = some (.slice A n k) := hbx8.cell 0; have hc8b : w8.cell? ⟨x, 1, none⟩ = some (.int .i64 l.1) := hbx8.cell 1; have hc8c : w8.cell? ⟨x, 2, none⟩ = some (.int .i64 l.2) := hbx8.cell 2; have f8 := hbx8.frozen 0; have f8b := hbx8.frozen 1; have f8c := hbx8.frozen 2; have HS3 := kept (show (fun W' : World => W'.cell? ⟨x, 0, none⟩ = some (.slice A n k)) w8 from hc8); have hr8 : Blk w8 w.heap.size 29 [.int .i64 q.1, .int .i64 q.2] := t8.blk (HR4.out.below HB10.out.2 HR4.out.lt) (fun e => by obtain ⟨cc, hcc⟩ := gown_cl (k := 0) HX10.out.row e; exact ne_of_types hcc (show W10.heap[w.heap.size]? = some _ from HR4.out.below HB10.out.2 HR4.out.lt) (by decide) rfl); have hne8 : w.heap.size ≠ x := ne_of_types (show w8.heap[w.heap.size]? = some _ from hr8) (show w8.heap[x]? = some _ from hbx8) (by decide); have r80 := fun u => (hr8.far (p := ⟨x, 0, none⟩) hne8 u).cell 0; have r81 := fun u => (hr8.far (p := ⟨x, 0, none⟩) hne8 u).cell 1; clear ho8 t8 hg8 hF8 hbx8 hr8)
  (try go_wp2_with fail)
  refine hK.out _ _ ?_ (fun hHeld => ?_)
  · (first | exact fun hE => absurd hE (by decide) | (intro _; (try dsimp only); (first | with_reducible exact HS0.out | with_reducible exact HS1.out | with_reducible exact HS2.out | with_reducible exact HS3.out)))
  clear hK K
  (try replace hHeld := hHeld (by decide))
  (try simp only [Act.put, List.setIfInBounds_toArray, List.set_cons_zero, List.set_cons_succ])
  refine take_P 12 (some 61) ?_ (by (intro o ho w; (simp only [List.getElem?_toArray, List.getElem?_cons_succ, List.getElem?_cons_zero, Option.some.injEq] at ho); subst ho; go_simp; (first | done | with_reducible rfl))) (by ((try simp only [Act.put, hA, h0, h1]); (first | done | rfl))) (by first | exact fun _ => by assumption | exact fun hE => absurd hE (by decide))
  (try simp only [Act.put, List.setIfInBounds_toArray, List.set_cons_zero, List.set_cons_succ])
  refine take_P 13 (some 62) ?_ (by (intro o ho w; (simp only [List.getElem?_toArray, List.getElem?_cons_succ, List.getElem?_cons_zero, Option.some.injEq] at ho); subst ho; go_simp; (first | done | with_reducible rfl))) (by ((try simp only [Act.put, hA, h0, h1]); (first | done | rfl))) (by first | exact fun _ => by assumption | exact fun hE => absurd hE (by decide))
  (try simp only [Act.put, List.setIfInBounds_toArray, List.set_cons_zero, List.set_cons_succ])
  refine ready_L 14 (fun o ho K hK => ?_)
  (simp only [List.getElem?_toArray, List.getElem?_cons_succ, List.getElem?_cons_zero, Option.some.injEq] at ho)
  subst ho
  go_simp
  skip
  refine hK.out _ _ ?_ (fun hHeld => ?_)
  · (first | exact fun hE => absurd hE (by decide) | (intro _; (try dsimp only); (first | with_reducible exact HS0.out | with_reducible exact HS1.out | with_reducible exact HS2.out | with_reducible exact HS3.out)))
  clear hK K
  (try replace hHeld := hHeld (by decide))
  (try simp only [Act.put, List.setIfInBounds_toArray, List.set_cons_zero, List.set_cons_succ])
  refine done_L (by kernel_rfl) ?_ _
  clear hHeld
  go_wp2
  clear hc8 hc8b hc8c f8 f8b f8c r80 r81
  go_returns
  refine ⟨rfl, ?_⟩
  obtain ⟨ho8, t8, hg8⟩ := HO8.out
  obtain ⟨hb10, hb47⟩ := HB10.out
  have hbx8 := HBX8.out
  have hb010 : Below w.heap.size w W10 := HB4.out.trans (hb47.mono HB4.out.size)
  have t5 : Turned w8 (((w8.setCell ⟨x, 0, none⟩ (.slice A8 (n + 1) c8)).setCell ⟨x, 1, none⟩ (.int .i64 q.1)).setCell ⟨x, 2, none⟩ (.int .i64 q.2)) (fun j => j = x) := (((Turned.refl w8 (fun j => j = x)).setCell (p := ⟨x, 0, none⟩) (fun _ => rfl) _).setCell (p := ⟨x, 1, none⟩) (fun _ => rfl) _).setCell (p := ⟨x, 2, none⟩) (fun _ => rfl) _
  have hbox5 := ((hbx8.set_ 0 (.slice A8 (n + 1) c8)).set_ 1 (.int .i64 q.1)).set_ 2 (.int .i64 q.2)
  generalize ((w8.setCell ⟨x, 0, none⟩ (.slice A8 (n + 1) c8)).setCell ⟨x, 1, none⟩ (.int .i64 q.1)).setCell ⟨x, 2, none⟩ (.int .i64 q.2) = W5 at t5 hbox5 ⊢
  have hnT : ∀ {j : Nat} {cur : Array Value} {s : TypeId}, W10.heap[j]? = some (.cells cur s (0, 0)) → s ≠ 67 → ¬ (Value.slice A n k).ownBlock = some j := fun hc h1 hj => by
    obtain ⟨c, hc2⟩ := gown_cl (k := 0) HX10.out.row hj
    exact ne_of_types hc hc2 h1 rfl
  have hnX : ∀ {j : Nat} {cur : Array Value} {s : TypeId}, w8.heap[j]? = some (.cells cur s (0, 0)) → s ≠ 70 → ¬ j = x := fun hc h1 hj => ne_of_types hc (show w8.heap[x]? = some _ from hbx8) h1 hj
  have hk10 : W10.ownsRow 0 5 1 (.slice A7 m c7) m (cellsOf ys) := own_mono_ (gown_turned HO7.out (Turned.of_below hb10 (fun _ => False)) (fun _ _ e => e)) (Nat.zero_le _)
  have hkb : ∀ j, (Value.slice A7 m c7).ownBlock = some j → w4.heap.size ≤ j := fun j hj => (gown_lt HO7.out hj).1
  have hg10 : Gs W10 w2.heap.size F4 (tg []) := HG4.out.below hb47
  have hE8 : EnAt w8 ⟨A7, m, c7, ys, w2.heap.size, F4, tg []⟩ := EnAt.turned ⟨hk10, hg10, hm⟩ t8 (fun j hj => by obtain ⟨c, hc⟩ := gown_cl (k := 0) hk10 hj; exact hnT hc (by decide)) (fun j hj => by
    obtain ⟨c, s, hc, hs⟩ := hg10.ty hj
    rcases hs with rfl | rfl | rfl <;> exact hnT hc (by decide))
  have hE5 : EnAt W5 ⟨A7, m, c7, ys, w2.heap.size, F4, tg []⟩ := hE8.turned t5 (fun j hj => by obtain ⟨c, hc⟩ := hE8.kty hj; exact hnX hc (by decide)) (fun j hj => by
    obtain ⟨c, s, hc, hs⟩ := hE8.his.ty hj
    rcases hs with rfl | rfl | rfl <;> exact hnX hc (by decide))
  have hrow5 := gown_turned ho8 t5 (fun j hj => by obtain ⟨c, hc⟩ := gown_cl (k := 0) ho8 hj; exact hnX hc (by decide))
  have tt : Turned w W5 (fun j => j = x ∨ (Value.slice A n k).ownBlock = some j) := ((Turned.of_below hb010 _).trans (t8.mono (fun _ _ e => .inr e))).trans (t5.mono (fun _ _ e => .inl e))
  obtain ⟨h5, hf5⟩ := HX.out.insert HPN.out ⟨A7, m, c7, ys, w2.heap.size, F4, tg []⟩ hE5 HF4.out (fun j hj => Nat.le_trans HB4.out.size (hkb j hj)) hrow5 (fun g2 hg2 => (hg8 g2 hg2).imp id (fun e => Nat.le_trans hb010.size e)) tt hbox5
  refine ⟨_, ⟨_, _, _, _, h5, fun j => Iff.rfl, ?_⟩, hf5, tt.mono (fun j _ hj => hj.elim (fun e => ⟨.inl e, by rw [e]; exact NU.of (show w.heap[x]? = some _ from HX.out.box) (by decide)⟩) (fun e => ⟨.inr (.inl e), by obtain ⟨c, hc⟩ := gown_cl (k := 0) HX.out.row e; exact NU.of hc (by decide)⟩))⟩
  rw [HCH.out, ← HPP.out, List.map_append, List.map_cons, List.map_take, List.map_drop]
  rfl
set_option maxHeartbeats 2000000 in
/-- What comes of any change. -/
theorem change_any {w : World} {x : Nat} {F : Nat → Prop} {l : Rv} {P : List PE} (h : Ix w x F l P) {N : Nat} (hi : XInv l P N) (hN : N ≤ 800000) (B : Option Addr) (m d : Nat) (ys : List UInt8) (hrd : Rd w B m ys) (hm : m ≤ 1000) (q : Rv) {g : Nat} {cb : Array Value} {tc : List Gn → Int} {tg : List Gn → List Gn} (hT : TryK w g cb tc tg N) (eg : ∀ args w, (callFunc g args).run Tryz.prog w = .ok (.enter g args) w) (htg : ∀ gs, tc gs ≠ 0 → tg gs = gs) :
    Calls Tryz.prog 46 #[.pointer (some ⟨x, 0, none⟩), .slice B m d, .agg #[.int .i64 q.1, .int .i64 q.2], .func (.func g) #[] cb] w fun e w' => e = .returned (.int .i64 (chC l P ys q tc)) ∧ IxLeft w x F (chL l P ys q tc) (chP l P ys q tc tg) w' := by
  obtain ⟨A, n, k, Es, h1, h2, h3⟩ := h
  have hF : F = footX x A n k Es := funext fun j => propext (h2 j)
  have hix : Ix w x (footX x A n k Es) l P := ⟨A, n, k, Es, h1, fun _ => Iff.rfl, h3⟩
  subst hF
  cases hq : ltR l q with
  | false =>
    refine (change_old h1 B m d q hq hT eg).mono ?_
    rintro e w' ⟨rfl, hb⟩
    refine ⟨by simp [chC, hq], ?_⟩
    have := IxLeft.of_below hix hb
    simpa [chL, chP, hq] using this
  | true =>
    cases hk : knX P ys with
    | true =>
      by_cases hc : tc (loX P ys) = 0
      · refine (change_kn_ok h1 h3 hi hN B m d ys hrd hm q hq hT eg hk hc).mono ?_
        rintro e w' ⟨rfl, hl⟩
        refine ⟨by simp [chC, hq, hc], ?_⟩
        simpa [chL, chP, hq, hc] using hl
      · refine (change_kn_err h1 h3 hi hN B m d ys hrd hm q hq hT eg hk hc (htg _ hc)).mono ?_
        rintro e w' ⟨rfl, hl⟩
        refine ⟨by simp [chC, hq], ?_⟩
        simpa [chL, chP, hq, hc] using hl
    | false =>
      have hlo : loX P ys = [] := by simp [loX, hk]
      by_cases hc : tc [] = 0
      · refine (change_new_ok h1 h3 hi hN B m d ys hrd hm q hq hT eg hk hc).mono ?_
        rintro e w' ⟨rfl, hl⟩
        refine ⟨by simp [chC, hq, hlo, hc], ?_⟩
        simpa [chL, chP, hq, hlo, hc] using hl
      · refine (change_new_err h1 h3 hi hN B m d ys hrd hm q hq hT eg hk hc).mono ?_
        rintro e w' ⟨rfl, hb⟩
        refine ⟨by simp [chC, hq, hlo], ?_⟩
        have := IxLeft.of_below hix hb
        simpa [chL, chP, hq, hlo, hc] using this
end Go.Proofs.YtlckeebbjnhejaaGreat
end
