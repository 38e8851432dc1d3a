/-
  Texts laid together: Tu Gow.
-/
import Derived.Test.YtepmamfbhocjjaaBBase
import Derived.Laws.IdiomCopy
import Derived.Deep.QuietTactic
import Derived.Maps.AppendAt
section
/-
  What has turned in memory, by a set of blocks; many cells written at once. No program is named.
-/
namespace Go.Proofs.Ytepmamfbhocjjaa
open Go.ChangeShapes Go.WideShapes Go.ChangeAt Go.RowKit
set_option linter.unusedVariables false

/-! ### what has turned -/
/-- Nothing but the blocks of T, and what is new, has turned. -/
structure Turned (w w' : World) (T : Nat → Prop) : Prop where
  os : w'.os = w.os
  tape : w'.tape = w.tape
  output : w'.output = w.output
  size : w.heap.size ≤ w'.heap.size
  block : ∀ k, k < w.heap.size → ¬ T k → w'.heap[k]? = w.heap[k]?
section
variable {w w' w'' : World} {T T' : Nat → Prop}
theorem Turned.refl (w : World) (T : Nat → Prop) : Turned w w T := ⟨rfl, rfl, rfl, Nat.le_refl _, fun _ _ _ => rfl⟩
theorem Turned.trans (h : Turned w w' T) (k : Turned w' w'' T) : Turned w w'' T :=
  ⟨k.os.trans h.os, k.tape.trans h.tape, k.output.trans h.output, Nat.le_trans h.size k.size, fun i hi hn => (k.block i (Nat.lt_of_lt_of_le hi h.size) hn).trans (h.block i hi hn)⟩
theorem Turned.mono (h : Turned w w' T) (hT : ∀ k, k < w.heap.size → T k → T' k) : Turned w w' T' := ⟨h.os, h.tape, h.output, h.size, fun k hk hn => h.block k hk fun e => hn (hT k hk e)⟩
theorem Turned.drewN (h : Turned w w' T) (q : Nat) : Turned w (w'.drewN q) T := ⟨h.os, h.tape, h.output, h.size, h.block⟩
theorem Turned.drew (h : Turned w w' T) : Turned w w'.drew T := ⟨h.os, h.tape, h.output, h.size, h.block⟩
theorem Turned.of_below (h : Below w.heap.size w w') (T : Nat → Prop) : Turned w w' T := ⟨h.os, h.tape, h.output, h.size, fun k hk _ => h.block k hk⟩
theorem Turned.of_grown {row : Option Nat} (h : w.grownBy w' row) (hr : ∀ j, row = some j → T j) : Turned w w' T :=
  ⟨h.os, h.tape, h.output, h.size, fun k hk hn => h.block k hk fun e => hn (hr k e.symm)⟩
theorem Turned.grown {row : Option Nat} (h : Turned w w' T) (g : w'.grownBy w'' row) (hr : ∀ j, j < w.heap.size → row = some j → T j) : Turned w w'' T :=
  ⟨g.os.trans h.os, g.tape.trans h.tape, g.output.trans h.output, Nat.le_trans h.size g.size, fun k hk hn => (g.block k (Nat.lt_of_lt_of_le hk h.size) fun e => hn (hr k hk e.symm)).trans (h.block k hk hn)⟩
theorem Turned.setCell (h : Turned w w' T) {p : Addr} (hp : p.block < w.heap.size → T p.block) (u : Value) : Turned w (w'.setCell p u) T :=
  ⟨h.os, h.tape, h.output, by simpa [World.setCell] using h.size, fun k hk hn => (Below.heap_setCell w' p u k (fun e => hn (by rw [e]; exact hp (by rw [← e]; exact hk)))).trans (h.block k hk hn)⟩
theorem Turned.alloc (h : Turned w w' T) (o : Obj) : Turned w (w'.alloc o) T :=
  h.trans (Turned.of_grown (World.grownBy_alloc w' o none) (fun _ e => by cases e))
theorem Turned.only_new {B : Nat} {a : World} (h : Below B a w) (k : Turned w w' T) (hB : B ≤ w.heap.size) (hT : ∀ i, T i → B ≤ i) : Below B a w' :=
  ⟨k.os.trans h.os, k.tape.trans h.tape, k.output.trans h.output, Nat.le_trans h.size k.size, fun i hi => (k.block i (Nat.lt_of_lt_of_le hi hB) fun e => by have := hT i e; omega).trans (h.block i hi)⟩
theorem Turned.then_below {B : Nat} (h : Turned w w' T) (k : Below B w' w'') (hB : ∀ i, i < w.heap.size → B ≤ i → T i) : Turned w w'' T :=
  ⟨k.os.trans h.os, k.tape.trans h.tape, k.output.trans h.output, Nat.le_trans h.size k.size, fun i hi hn => (k.block i (by have := hB i hi; rcases Nat.lt_or_ge i B with h | h; exact h; exact absurd (this h) hn)).trans (h.block i hi hn)⟩
theorem Turned.blk {g : Nat} {t : TypeId} {cs : List Value} (h : Turned w w' T) (hb : Blk w g t cs) (hn : ¬ T g) : Blk w' g t cs := (h.block g hb.lt hn).trans hb
theorem Turned.rd {A : Option Addr} {n : Nat} {xs : List UInt8} (t : Turned w w' T) (h : Rd w A n xs) (hn : ∀ a, A = some a → ¬ T a.block) : Rd w' A n xs := by
  refine ⟨h.1, fun h0 => ?_⟩
  obtain ⟨a, e, hc⟩ := h.2 h0
  refine ⟨a, e, fun j hj => ?_⟩
  have hb : (a.add j).block < w.heap.size := World.block_lt_of_cell? w _ (hc j hj)
  rw [World.cell?_of_block (w := w) (t.block _ hb (by rw [add_block]; exact hn a e))]
  exact hc j hj
end

/-! ### many cells at once -/
theorem grown_setCells (b : Nat) : ∀ (vs : List Value) (o : Nat) (w : World), w.grownBy (w.setCells b o vs) (some b) ∧ (w.setCells b o vs).heap.size = w.heap.size
  | [], _, w => ⟨⟨rfl, rfl, rfl, Nat.le_refl _, fun _ _ _ => rfl⟩, rfl⟩
  | v :: r, o, w => by
    obtain ⟨g, hs⟩ := grown_setCells b r (o + 1) (w.setCell ⟨b, o, none⟩ v)
    have h1 : (w.setCell ⟨b, o, none⟩ v).heap.size = w.heap.size := by simp [World.setCell]
    refine ⟨⟨g.os, g.tape, g.output, by rw [← h1]; exact g.size, fun k hk hn => ?_⟩, hs.trans h1⟩
    exact (g.block k (by rw [h1]; exact hk) hn).trans (Below.heap_setCell w ⟨b, o, none⟩ v k (fun e => hn (by rw [e])))
theorem shape_setCells (b : Nat) (t : TypeId) : ∀ (vs : List Value) (o : Nat) (w : World) (cur : Array Value), w.heap[b]? = some (.cells cur t (0, 0)) →
    ∃ cur', (w.setCells b o vs).heap[b]? = some (.cells cur' t (0, 0)) ∧ cur'.size = cur.size
  | [], _, w, cur, h => ⟨cur, h, rfl⟩
  | v :: r, o, w, cur, h => by
    have h1 : (w.setCell ⟨b, o, none⟩ v).heap[b]? = some (.cells (cur.setIfInBounds o v) t (0, 0)) := by simp [World.setCell, Array.getElem?_modify, h]
    obtain ⟨cur', h2, h3⟩ := shape_setCells b t r (o + 1) _ _ h1
    exact ⟨cur', h2, by simpa using h3⟩

end Go.Proofs.Ytepmamfbhocjjaa
end

section
/-
  Rows of the program's own, whatever they hold: their block and cells, append onto them. No program is named.
-/
namespace Go.Proofs.Ytepmamfbhocjjaa
open Go.ChangeShapes Go.WideShapes Go.ChangeAt Go.RowKit
set_option linter.unusedVariables false
set_option linter.unusedSimpArgs false

theorem gadd_at (b o j : Nat) : (⟨b, o, none⟩ : Addr).add j = ⟨b, o + j, none⟩ := by unfold Addr.add; split <;> simp_all
theorem gown_turned {w w' : World} {T : Nat → Prop} {base sz n : Nat} {e : TypeId} {v : Value} {xs : List Value} (h : w.ownsRow base e sz v n xs) (t : Turned w w' T) (hn : ∀ g, v.ownBlock = some g → ¬ T g) : w'.ownsRow base e sz v n xs := by
  refine ⟨h.1, ?_⟩
  rcases h.2 with h0 | ⟨g, cap, cur, rfl, hb, hh, r⟩
  · exact .inl h0
  · exact .inr ⟨g, cap, cur, rfl, hb, (t.block g (Array.getElem?_eq_some_iff.1 hh).1 (hn g rfl)).trans hh, r⟩
theorem gown_lt {w : World} {base sz n : Nat} {e : TypeId} {v : Value} {xs : List Value} (h : w.ownsRow base e sz v n xs) {g : Nat} (hg : v.ownBlock = some g) : base ≤ g ∧ g < w.heap.size := h.lt g hg
/-- A row's block, and its cells. -/
theorem gown_at {w : World} {base sz n k : Nat} {e : TypeId} {A : Option Addr} {xs : List Value} (h : w.ownsRow base e sz (.slice A n k) n xs) (hn : 0 < n) : ∃ g, A = some ⟨g, 0, none⟩ ∧ base ≤ g ∧ g < w.heap.size ∧ n ≤ k ∧ k ≤ maxLen ∧ ∀ j u, xs[j]? = some u → w.cell? ⟨g, j, none⟩ = some u := by
  rcases h.2 with ⟨e0, h0⟩ | ⟨g, cap, cur, hv, hb, hh, h1, h2, h3, h4⟩
  · omega
  · injection hv with hA _ hc
    subst hA hc
    refine ⟨g, rfl, hb, (Array.getElem?_eq_some_iff.1 hh).1, h1, h2, fun j u hu => ?_⟩
    have := h.cells (g := g) rfl j u hu
    rwa [gadd_at, Nat.zero_add] at this
theorem gown_cap {w : World} {base sz n k : Nat} {e : TypeId} {A : Option Addr} {xs : List Value} (h : w.ownsRow base e sz (.slice A n k) n xs) : n ≤ k ∧ k ≤ maxLen ∧ (A = none → n = 0 ∧ k = 0) := by
  rcases h.2 with ⟨e0, h0⟩ | ⟨g, cap, cur, hv, hb, hh, h1, h2, h3, h4⟩
  · injection e0 with e1 e2 e3
    subst e1 e2 e3
    exact ⟨Nat.le_refl _, Nat.zero_le _, fun _ => ⟨rfl, rfl⟩⟩
  · injection hv with hA _ hc
    subst hA hc
    exact ⟨h1, h2, fun e => by cases e⟩
/-- append onto an own row, whatever it holds: what it leaves, and what has turned. -/
theorem run_append_g {P : Program} {w : World} (t ty e : TypeId) {z : Value} {sz bytes : Nat} {base n c : Nat} {xs : List Value} {A : Option Addr} {m k : Nat} {ys : List Value}
    (ht : P.underlying t = some (.slice e)) (hinfo : (P.info? e).map (fun i => (i.zero, i.size, i.bytes)) = some (some z, sz, bytes)) (hzs : z.cells.size = sz) (h0s : 0 < sz) (hb : bytes ≤ 1000)
    (hown : w.ownsRow base e sz (.slice A n c) n xs) (ad : Addr) (hl : ys.length = m * sz) (hnews : ∀ j u, ys[j]? = some u → w.cell? (ad.add j) = some u) (h1 : ∀ u ∈ ys, u.oneCell' = true) (hm : n + m ≤ 3000000) (hbase : base ≤ w.heap.size) (h0 : 0 ≤ n + m) :
    ∃ A' c' w', (Builtin.append_ #[t, t] ty #[.slice A n c, .slice (some ad) m k]).run P w = .ok (.slice A' (n + m) c') w' ∧ w'.ownsRow base e sz (.slice A' (n + m) c') (n + m) (xs ++ ys) ∧ w.grownBy w' (Value.slice A n c).ownBlock ∧ ((Value.slice A' (n + m) c').ownBlock = (Value.slice A n c).ownBlock ∨ (Value.slice A' (n + m) c').ownBlock = some w.heap.size) := by
  obtain ⟨i, hi, hz, hsz, hby⟩ := info_parts hinfo
  have hbb : (n + m) * bytes ≤ 140737488355328 := Nat.le_trans (Nat.mul_le_mul hm hb) (by decide)
  obtain ⟨v', w', hrun, hown', hgrow, _, hloc⟩ := run_append_own_at (P := P) w base t ty e i z sz bytes ht hi hz hsz hby hzs h0s _ n xs hown ad m k ys hl hnews h1 (by unfold maxLen; omega) hbb hbase
  have hv : ∃ A' c', v' = .slice A' (n + m) c' := by
    rcases hown'.2 with ⟨rfl, h⟩ | ⟨g, cap, cur, rfl, _⟩
    · exact ⟨none, 0, by rw [h]⟩
    · exact ⟨_, _, rfl⟩
  obtain ⟨A', c', rfl⟩ := hv
  exact ⟨A', c', w', hrun, hown', hgrow, hloc⟩
theorem wp_append_g {P : Program} {w : World} {o : Oper} {a : Act} {K : Act → World → Prop} {Q : Exit → Act → World → Prop} (s x : Operand) (t : TypeId) (ho : o.op = .call { callee := .builtin .append, args := #[s, x], argTypes := #[t, t] }) (e : TypeId) {z : Value} {sz bytes : Nat} {base n c : Nat} {xs : List Value} {A : Option Addr} {m k : Nat} {ys : List Value}
    (ad : Addr) (hs : a.eval s = .slice A n c) (hx : a.eval x = .slice (some ad) m k) (ht : P.underlying t = some (.slice e)) (hinfo : (P.info? e).map (fun i => (i.zero, i.size, i.bytes)) = some (some z, sz, bytes)) (hzs : z.cells.size = sz) (h0s : 0 < sz) (hb : bytes ≤ 1000)
    (hown : w.ownsRow base e sz (.slice A n c) n xs) (hl : ys.length = m * sz) (hnews : ∀ j u, ys[j]? = some u → w.cell? (ad.add j) = some u) (h1 : ∀ u ∈ ys, u.oneCell' = true) (hm : n + m ≤ 3000000) (hbase : base ≤ w.heap.size) (h0 : 0 ≤ n + m)
    (h : ∀ A' c' w', w'.ownsRow base e sz (.slice A' (n + m) c') (n + m) (xs ++ ys) → w.grownBy w' (Value.slice A n c).ownBlock → ((Value.slice A' (n + m) c').ownBlock = (Value.slice A n c).ownBlock ∨ (Value.slice A' (n + m) c').ownBlock = some w.heap.size) → K (a.put o.dst (.slice A' (n + m) c')) w') : o.wp P a w K Q := by
  obtain ⟨A', c', w', hrun, h2, h3, h4⟩ := run_append_g (P := P) (k := k) t o.type e ht hinfo hzs h0s hb hown ad hl hnews h1 hm hbase h0
  unfold Oper.wp execOp
  simp only [ho, resolve, invoke, builtin, Sem.run_bind, Sem.run_pure, Result.andThen_ok, List.map_toArray, List.map_cons, List.map_nil, hs, hx, hrun]
  exact h A' c' w' h2 h3 h4
theorem wpList_append_g {P : Program} {w : World} {ops : Array Oper} {rest : List Oper} {o : Oper} {a : Act} {Q : Exit → Act → World → Prop} (hgd : o.guard = none) (s x : Operand) (t : TypeId) (ho : o.op = .call { callee := .builtin .append, args := #[s, x], argTypes := #[t, t] }) (e : TypeId) {z : Value} {sz bytes : Nat} {base n c : Nat} {xs : List Value} {A : Option Addr} {m k : Nat} {ys : List Value}
    (ad : Addr) (hs : a.eval s = .slice A n c) (hx : a.eval x = .slice (some ad) m k) (ht : P.underlying t = some (.slice e)) (hinfo : (P.info? e).map (fun i => (i.zero, i.size, i.bytes)) = some (some z, sz, bytes)) (hzs : z.cells.size = sz) (h0s : 0 < sz) (hb : bytes ≤ 1000)
    (hown : w.ownsRow base e sz (.slice A n c) n xs) (hl : ys.length = m * sz) (hnews : ∀ j u, ys[j]? = some u → w.cell? (ad.add j) = some u) (h1 : ∀ u ∈ ys, u.oneCell' = true) (hm : n + m ≤ 3000000) (hbase : base ≤ w.heap.size)
    (h : ∀ A' c' w', w'.ownsRow base e sz (.slice A' (n + m) c') (n + m) (xs ++ ys) → w.grownBy w' (Value.slice A n c).ownBlock → ((Value.slice A' (n + m) c').ownBlock = (Value.slice A n c).ownBlock ∨ (Value.slice A' (n + m) c').ownBlock = some w.heap.size) → wpList P ops Q rest (a.put o.dst (.slice A' (n + m) c')) w') : wpList P ops Q (o :: rest) a w :=
  wpList_plain hgd fun _ hK => wp_append_g s x t ho e ad hs hx ht hinfo hzs h0s hb hown hl hnews h1 hm hbase (Nat.zero_le _) fun A' c' w' a1 a2 a3 => hK _ _ (h A' c' w' a1 a2 a3)
theorem own_of_cells {w : World} {base g n c sz : Nat} {e : TypeId} {xs : List Value} {cur : Array Value} (hg : w.heap[g]? = some (.cells cur e (0, 0))) (hb : base ≤ g) (hnc : n ≤ c) (hcm : c ≤ maxLen) (hcs : cur.size = c * sz) (hl : xs.length = n * sz) (hc : ∀ j, j < n * sz → w.cell? ⟨g, j, none⟩ = xs[j]?) : w.ownsRow base e sz (.slice (some ⟨g, 0, none⟩) n c) n xs := by
  have hB : Blk w g e cur.toList := by simpa [Blk] using hg
  refine ⟨hl, .inr ⟨g, c, cur, rfl, hb, hg, hnc, hcm, hcs, ?_⟩⟩
  apply List.ext_getElem?
  intro j
  by_cases hj : j < n * sz
  · rw [List.getElem?_take_of_lt hj, ← hc j hj, hB.cell]
  · rw [List.getElem?_eq_none (by rw [List.length_take]; omega), List.getElem?_eq_none (by omega)]
theorem gown_cl {w : World} {base sz n k : Nat} {e : TypeId} {v : Value} {xs : List Value} (h : w.ownsRow base e sz v n xs) {g : Nat} (hg : v.ownBlock = some g) : ∃ cur, w.heap[g]? = some (.cells cur e (0, 0)) := by
  rcases h.2 with ⟨rfl, _⟩ | ⟨g', cap, cur, rfl, hb, hh, _⟩
  · cases hg
  · obtain rfl : g' = g := by simpa [Value.ownBlock] using hg
    exact ⟨cur, hh⟩
theorem gfrozen_ {w : World} {g : Nat} {e : TypeId} {cur : Array Value} (h : w.heap[g]? = some (.cells cur e (0, 0))) (i : Nat) : w.frozen? ⟨g, i, none⟩ = false := by simp [World.frozen?, h]
end Go.Proofs.Ytepmamfbhocjjaa
end
