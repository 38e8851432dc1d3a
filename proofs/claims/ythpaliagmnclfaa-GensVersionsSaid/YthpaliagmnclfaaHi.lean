/-
  What versions tell, where only puts and tombstones came; a row of acts of the program's own.
-/
import Derived.Test.YthpaliagmnclfaaHg
import Derived.Test.YthpaliagmnclfaaGv
namespace Go.Proofs.Ythpaliagmnclfaa
open Go.ChangeShapes Go.WideShapes Go.ChangeAt Go.RowKit Go.Deep
set_option linter.unusedVariables false
set_option linter.unusedSimpArgs false

/-- Every generation begins with its Create and with version 1. -/
def POk (gs : List Gn) : Prop := ∀ x ∈ gs, x.v = 1 ∧ ∃ q rest, x.ps = q :: rest ∧ x.c = q.1
theorem pok_step {gs : List Gn} (h : GInv gs) (hp : POk gs) {k : Int} (hk : k = 0 ∨ k = 1) (q : Rv) (c v : Int) : POk (stepG gs k q c v) := by
  rcases hk with rfl | rfl
  · unfold stepG
    rw [if_pos rfl]
    unfold putG
    split
    · next hm =>
      cases hg : goingG gs
      · rw [addG_new hg]
        have hn : nextG gs q = (q.1, 1) := by
          unfold nextG
          unfold goingG at hg
          cases hl : gs.getLast? with
          | none => rfl
          | some x => rw [hl] at hg; simp only [Bool.not_eq_false'] at hg; simp [hg]
        rw [hn]
        intro y hy
        rcases List.mem_append.1 hy with hy | hy
        · exact hp y hy
        · rw [List.mem_singleton.1 hy]; exact ⟨rfl, q, [], rfl, rfl⟩
      · obtain ⟨gi, x, rfl, hx⟩ := going_snoc hg
        rw [addG_more hx]
        intro y hy
        rcases List.mem_append.1 hy with hy | hy
        · exact hp y (List.mem_append.2 (.inl hy))
        · rw [List.mem_singleton.1 hy]
          obtain ⟨h1, q0, rest, h2, h3⟩ := hp x (by simp)
          exact ⟨h1, q0, rest ++ [q], by simp [h2], h3⟩
    · exact hp
  · unfold stepG
    rw [if_neg (by decide), if_pos rfl]
    unfold tombG
    split
    · split
      · next hg =>
        obtain ⟨gi, x, rfl, hx⟩ := going_snoc hg
        have e : endG (gi ++ [x]) q = gi ++ [{ x with e := q }] := by simp [endG]
        rw [e]
        intro y hy
        rcases List.mem_append.1 hy with hy | hy
        · exact hp y (List.mem_append.2 (.inl hy))
        · rw [List.mem_singleton.1 hy]; exact hp x (by simp)
      · exact hp
    · exact hp
theorem fst_le {a b : Rv} (h : ltR a b = true) : a.1 ≤ b.1 := by rw [ltR_iff] at h; omega
theorem getG_c {gs : List Gn} (h : GInv gs) (hp : POk gs) {m : Int} {q : Rv} {c v : Int} (hg : getG gs m = some (q, c, v)) : ∃ p ∈ flatG gs, c = p.1 := by
  induction gs with
  | nil => simp [getG, lookG] at hg
  | cons x r ih =>
    by_cases hb : endAt (bnd m) x = true
    · have e : getG (x :: r) m = getG r m := by unfold getG; rw [show lookG (bnd m) (x :: r) = lookG (bnd m) r from if_pos hb]
      rw [e] at hg
      obtain ⟨p, h1, h2⟩ := ih h.tail (fun y hy => hp y (List.mem_cons_of_mem _ hy)) hg
      exact ⟨p, by unfold flatG at h1 ⊢; rw [List.flatMap_cons]; exact List.mem_append.2 (.inr h1), h2⟩
    · obtain ⟨_, q0, rest, h2, h3⟩ := hp x (List.mem_cons_self ..)
      refine ⟨q0, ?_, ?_⟩
      · unfold flatG
        rw [List.flatMap_cons]
        exact List.mem_append.2 (.inl (Gn.mem_p (by rw [h2]; exact List.mem_cons_self ..)))
      · unfold getG lookG at hg
        rw [if_neg hb] at hg
        split at hg
        · next x' r' p he =>
          simp only [Prod.mk.injEq, List.cons.injEq] at he
          obtain ⟨⟨rfl, rfl⟩, _⟩ := he
          split at hg
          · simp only [Option.some.injEq, Prod.mk.injEq] at hg
            rw [← hg.2.1]; exact h3
          · cases hg
        · cases hg
theorem getG_here {x : Gn} {r : List Gn} {m : Int} (hb : ¬ endAt (bnd m) x = true) {q : Rv} {c v : Int} (hg : getG (x :: r) m = some (q, c, v)) : ∃ p, cntR x.ps (bnd m) = p + 1 ∧ x.ps[p]? = some q ∧ c = x.c ∧ v = wrap64 (x.v + (p : Int)) := by
  unfold getG lookG at hg
  rw [if_neg hb] at hg
  split at hg
  · next x' r' p he =>
    simp only [Prod.mk.injEq, List.cons.injEq] at he
    obtain ⟨⟨rfl, rfl⟩, he⟩ := he
    split at hg
    · next z hz =>
      simp only [Option.some.injEq, Prod.mk.injEq] at hg
      obtain ⟨rfl, rfl, rfl⟩ := hg
      exact ⟨p, he, hz, rfl, rfl⟩
    · cases hg
  · cases hg
/-- What is told of a Main, and of the next one. -/
theorem versions {gs : List Gn} (h : GInv gs) (hp : POk gs) {N : Nat} (hN : ∀ x ∈ gs, x.ps.length ≤ N) (hn : N ≤ 1000000) {at_ : Int} {q : Rv} {c v : Int} (hg : getG gs at_ = some (q, c, v)) :
    q.1 ≤ at_ ∧ c ≤ q.1 ∧ 1 ≤ v ∧ (v = 1 → c = q.1) ∧ ∀ q' c' v', getG gs (at_ + 1) = some (q', c', v') → c' = c → v ≤ v' := by
  induction gs with
  | nil => simp [getG, lookG] at hg
  | cons x r ih =>
    by_cases hb : endAt (bnd at_) x = true
    · have e : getG (x :: r) at_ = getG r at_ := by unfold getG; rw [show lookG (bnd at_) (x :: r) = lookG (bnd at_) r from if_pos hb]
      have hm : endAt (bnd (at_ + 1)) x = true := by
        unfold endAt at hb ⊢
        rw [Bool.and_eq_true] at hb ⊢
        exact ⟨hb.1, bnd_mono (by omega) hb.2⟩
      have e2 : getG (x :: r) (at_ + 1) = getG r (at_ + 1) := by unfold getG; rw [show lookG (bnd (at_ + 1)) (x :: r) = lookG (bnd (at_ + 1)) r from if_pos hm]
      rw [e] at hg
      rw [e2]
      exact ih h.tail (fun y hy => hp y (List.mem_cons_of_mem _ hy)) (fun y hy => hN y (List.mem_cons_of_mem _ hy)) hg
    · obtain ⟨hv1, q0, rest, h2, h3⟩ := hp x (List.mem_cons_self ..)
      have hl := hN x (List.mem_cons_self ..)
      have hps := h.puts (List.mem_cons_self ..)
      obtain ⟨_, _, hr3, hr4, hr5⟩ := h.head
      obtain ⟨p, hc, hz, rfl, rfl⟩ := getG_here hb hg
      obtain ⟨hpl, hzp⟩ := List.getElem?_eq_some_iff.1 hz
      have hcut := cntR_cut hps (bnd at_) p hpl
      rw [hzp, hc] at hcut
      have hq1 : q.1 ≤ at_ := by
        have : ltR q (bnd at_) = true := by rw [hcut]; simp
        rw [ltR_bnd (hr3 q (Gn.mem_p (List.mem_of_getElem? hz)))] at this
        exact of_decide_eq_true this
      have hcq : x.c ≤ q.1 := by
        rw [h3]
        cases p with
        | zero => rw [h2] at hz; simp at hz; rw [hz]; exact Int.le_refl _
        | succ p =>
          rw [h2] at hz hps
          simp only [List.getElem?_cons_succ] at hz
          exact fst_le ((List.pairwise_cons.1 hps).1 q (List.mem_of_getElem? hz))
      have hw : wrap64 (x.v + (p : Int)) = 1 + (p : Int) := by rw [hv1]; exact IntWalk.wrap64_in _ ⟨by omega, by omega⟩
      rw [hw]
      refine ⟨hq1, hcq, by omega, fun e => ?_, fun q' c' v' hg' hcc => ?_⟩
      · obtain rfl : p = 0 := by omega
        rw [h2] at hz
        simp at hz
        rw [h3, hz]
      · by_cases hm : endAt (bnd (at_ + 1)) x = true
        · exfalso
          have e2 : getG (x :: r) (at_ + 1) = getG r (at_ + 1) := by unfold getG; rw [show lookG (bnd (at_ + 1)) (x :: r) = lookG (bnd (at_ + 1)) r from if_pos hm]
          rw [e2] at hg'
          obtain ⟨pp, hpp, hcp⟩ := getG_c h.tail (fun y hy => hp y (List.mem_cons_of_mem _ hy)) hg'
          unfold endAt at hb hm
          rw [Bool.and_eq_true] at hb hm
          have he := hm.1
          have hnb : ¬ ltR x.e (bnd at_) = true := fun e => hb ⟨he, e⟩
          rw [ltR_bnd (hr3 x.e (Gn.mem_e he)), decide_eq_true_eq] at hnb
          have := fst_le (hr4 x.e (Gn.mem_e he) pp hpp)
          omega
        · obtain ⟨p', hc', hz', rfl, rfl⟩ := getG_here hm hg'
          obtain ⟨hpl', _⟩ := List.getElem?_eq_some_iff.1 hz'
          have hmn := cntR_mono (ps := x.ps) (a := at_) (m := at_ + 1) (by omega)
          rw [hv1, IntWalk.wrap64_in _ ⟨by omega, by omega⟩]
          omega
/-! ### a row of acts of the program's own -/
def acC (us : List Ac) : List Value := us.flatMap Ac.cells
theorem acC_append (a b : List Ac) : acC (a ++ b) = acC a ++ acC b := by simp [acC]
theorem acC_length : ∀ us : List Ac, (acC us).length = us.length * 6
  | [] => rfl
  | p :: es => by
    have := acC_length es
    unfold acC at this ⊢
    rw [List.flatMap_cons, List.length_append, this]
    simp [Ac.cells]; omega
theorem acC_at : ∀ (us : List Ac) (i : Nat) (h : i < us.length), (acC us)[i * 6]? = some (.int .i64 us[i].k) ∧ (acC us)[i * 6 + 1]? = some (.bool us[i].nx) ∧ (acC us)[i * 6 + 2]? = some (.int .i64 us[i].m) ∧ (acC us)[i * 6 + 3]? = some (.int .i64 us[i].s) ∧ (acC us)[i * 6 + 4]? = some (.int .i64 us[i].c) ∧ (acC us)[i * 6 + 5]? = some (.int .i64 us[i].v)
  | p :: es, 0, _ => ⟨rfl, rfl, rfl, rfl, rfl, rfl⟩
  | p :: es, i + 1, h => by
    have := acC_at es i (by simpa using h)
    have e : acC (p :: es) = .int .i64 p.k :: .bool p.nx :: .int .i64 p.m :: .int .i64 p.s :: .int .i64 p.c :: .int .i64 p.v :: acC es := rfl
    rw [e, show (i + 1) * 6 = i * 6 + 1 + 1 + 1 + 1 + 1 + 1 by omega]
    simpa using this
theorem acinfo : (Try.prog.info? 39).map (fun i => (i.zero, i.size, i.bytes)) = some (some (.agg #[.int .i64 0, .bool false, .int .i64 0, .int .i64 0, .int .i64 0, .int .i64 0]), 6, 48) := by kernel_rfl
/-- What has been kept so far. -/
structure PlI (W0 wr : World) (A : Option Addr) (n c : Nat) (us : List Ac) (j : Nat) : Prop where
  own : wr.ownsRow W0.heap.size 39 6 (.slice A n c) n (acC us)
  bel : Below W0.heap.size W0 wr
  ok : ∀ a ∈ us, (a.k = 0 ∨ a.k = 1) ∧ wrap64 a.v = a.v
  le : n ≤ j
theorem PlI.len {W0 wr : World} {A : Option Addr} {n c : Nat} {us : List Ac} {j : Nat} (h : PlI W0 wr A n c us j) : us.length = n := by
  have := h.own.1
  rw [acC_length] at this
  omega
theorem PlI.below {W0 wr w' : World} {A : Option Addr} {n c : Nat} {us : List Ac} {j : Nat} (h : PlI W0 wr A n c us j) (hb : Below wr.heap.size wr w') : PlI W0 w' A n c us j :=
  ⟨gown_turned h.own (Turned.of_below hb (fun _ => False)) (fun _ _ e => e), bel_to hb h.bel, h.ok, h.le⟩
theorem PlI.more {W0 wr : World} {A : Option Addr} {n c : Nat} {us : List Ac} {j : Nat} (h : PlI W0 wr A n c us j) : PlI W0 wr A n c us (j + 1) := ⟨h.own, h.bel, h.ok, by have := h.le; omega⟩
theorem PlI.rd {W0 wr : World} {A : Option Addr} {n c : Nat} {us : List Ac} {j : Nat} (h : PlI W0 wr A n c us j) : RdAc wr A n (fun i => us.getD i ⟨0, false, 0, 0, 0, 0⟩) ∧ ∀ i, i < n → ((us.getD i ⟨0, false, 0, 0, 0, 0⟩).k = 0 ∨ (us.getD i ⟨0, false, 0, 0, 0, 0⟩).k = 1) := by
  have hl := h.len
  have hg : ∀ i (hi : i < n), us.getD i ⟨0, false, 0, 0, 0, 0⟩ = us[i]'(by omega) := fun i hi => by rw [List.getD_eq_getElem?_getD, List.getElem?_eq_getElem (by omega)]; rfl
  refine ⟨⟨fun i hi => ?_, fun i hi => ?_⟩, fun i hi => ?_⟩
  · obtain ⟨g, rfl, _, _, _, _, hc⟩ := gown_at h.own (by omega)
    obtain ⟨h0, h1, h2, h3, h4, h5⟩ := acC_at us i (by omega)
    simp only [hg i hi]
    exact ⟨g, 0, rfl, by rw [Nat.zero_add]; exact hc _ _ h0, by rw [Nat.zero_add]; exact hc _ _ h1, by rw [Nat.zero_add]; exact hc _ _ h2, by rw [Nat.zero_add]; exact hc _ _ h3, by rw [Nat.zero_add]; exact hc _ _ h4, by rw [Nat.zero_add]; exact hc _ _ h5⟩
  · simp only [hg i hi]
    exact (h.ok _ (List.getElem_mem _)).2
  · simp only [hg i hi]
    exact (h.ok _ (List.getElem_mem _)).1
/-- append onto an own row, within the reach. -/
theorem run_append_c {P : Program} {w : World} (t ty e : TypeId) {z : Value} {sz bytes : Nat} {base n c : Nat} {xs : List Value} {A : Option Addr} {m k : Nat} {ys : List Value}
    (ht : P.underlying t = some (.slice e)) (hinfo : (P.info? e).map (fun i => (i.zero, i.size, i.bytes)) = some (some z, sz, bytes)) (hzs : z.cells.size = sz) (h0s : 0 < sz)
    (hown : w.ownsRow base e sz (.slice A n c) n xs) (ad : Addr) (hl : ys.length = m * sz) (hnews : ∀ j u, ys[j]? = some u → w.cell? (ad.add j) = some u) (h1 : ∀ u ∈ ys, u.oneCell' = true) (hmx : n + m ≤ maxLen) (hm : (n + m) * bytes ≤ 140737488355328) (hbase : base ≤ w.heap.size) :
    ∃ A' c' w', (Builtin.append_ #[t, t] ty #[.slice A n c, .slice (some ad) m k]).run P w = .ok (.slice A' (n + m) c') w' ∧ w'.ownsRow base e sz (.slice A' (n + m) c') (n + m) (xs ++ ys) ∧ w.grownBy w' (Value.slice A n c).ownBlock := by
  obtain ⟨i, hi, hz, hsz, hby⟩ := info_parts hinfo
  obtain ⟨v', w', hrun, hown', hgrow, _, hloc⟩ := run_append_own_at (P := P) w base t ty e i z sz bytes ht hi hz hsz hby hzs h0s _ n xs hown ad m k ys hl hnews h1 hmx hm hbase
  have hv : ∃ A' c', v' = .slice A' (n + m) c' := by
    rcases hown'.2 with ⟨rfl, h⟩ | ⟨g, cap, cur, rfl, _⟩
    · exact ⟨none, 0, by rw [h]⟩
    · exact ⟨_, _, rfl⟩
  obtain ⟨A', c', rfl⟩ := hv
  exact ⟨A', c', w', hrun, hown', hgrow⟩
theorem wpList_append_c {P : Program} {w : World} {ops : Array Oper} {rest : List Oper} {o : Oper} {a : Act} {Q : Exit → Act → World → Prop} (hgd : o.guard = none) (s x : Operand) (t : TypeId) (ho : o.op = .call { callee := .builtin .append, args := #[s, x], argTypes := #[t, t] }) (e : TypeId) {z : Value} {sz bytes : Nat} {base n c : Nat} {xs : List Value} {A : Option Addr} {m k : Nat} {ys : List Value}
    (ad : Addr) (hs : a.eval s = .slice A n c) (hx : a.eval x = .slice (some ad) m k) (ht : P.underlying t = some (.slice e)) (hinfo : (P.info? e).map (fun i => (i.zero, i.size, i.bytes)) = some (some z, sz, bytes)) (hzs : z.cells.size = sz) (h0s : 0 < sz)
    (hown : w.ownsRow base e sz (.slice A n c) n xs) (hl : ys.length = m * sz) (hnews : ∀ j u, ys[j]? = some u → w.cell? (ad.add j) = some u) (h1 : ∀ u ∈ ys, u.oneCell' = true) (hmx : n + m ≤ maxLen) (hm : (n + m) * bytes ≤ 140737488355328) (hbase : base ≤ w.heap.size)
    (h : ∀ A' c' w', w'.ownsRow base e sz (.slice A' (n + m) c') (n + m) (xs ++ ys) → w.grownBy w' (Value.slice A n c).ownBlock → wpList P ops Q rest (a.put o.dst (.slice A' (n + m) c')) w') : wpList P ops Q (o :: rest) a w :=
  wpList_plain hgd fun _ hK => by
    obtain ⟨A', c', w', hrun, h2, h3⟩ := run_append_c (P := P) (k := k) t o.type e ht hinfo hzs h0s hown ad hl hnews h1 hmx hm hbase
    unfold Oper.wp execOp
    simp only [ho, resolve, invoke, builtin, Sem.run_bind, Sem.run_pure, Result.andThen_ok, List.map_toArray, List.map_cons, List.map_nil, hs, hx, hrun]
    exact hK _ _ (h A' c' w' h2 h3)
theorem ac_reach {H : Type} {enc : TypeId × Value → H} {P : Program} {W : World} {t e : TypeId} (ht : P.underlying t = some (.slice e)) {A : Option Addr} {n c : Nat} {d : DataW H} {p : List MemPlace} (h : DataW.Trod enc P W 0 (fun _ => true) true t (.slice A n c) d p) (hb : P.bytesOf e = 48)
    (hs : ∀ es sp, d = .slice es sp → (es.length + sp.length) * P.bytesOf e ≤ reachBytes) : n * 48 ≤ 140737488351232 := by
  obtain ⟨fuel, hf⟩ := h
  rcases Go.Deep.open_slice ht hf with ⟨hcs, hx⟩ | ⟨a, len, cap, m, fu, D, Pl, hcs, _, hl, hm, hmm, hx, hr⟩
  · simp [Value.cells] at hcs
    obtain ⟨rfl, rfl, rfl⟩ := hcs
    omega
  · simp [Value.cells] at hcs
    obtain ⟨rfl, rfl, rfl⟩ := hcs
    simp only [Prod.mk.injEq] at hx
    have := hs _ _ hx.1
    rw [hb] at this
    simp only [reachBytes, List.length_map, List.length_range] at this
    omega
end Go.Proofs.Ythpaliagmnclfaa
