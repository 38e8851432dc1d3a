/-
  A disk of package disk in memory: a block of four cells, a block of pages, a map of pages; and what a call may have turned. Nothing is claimed here of the Go text.
-/
import Derived.Test.YtfmljiidgaoihaaBase
import Derived.Maps.OwnSet
import Derived.Maps.OwnOps
import Derived.Maps.RangeWalk
import Derived.Deep.MidRow
import Derived.Deep.WholeRow
import Derived.StillTailTactics
import Derived.Deep.QuietTactic
import Derived.BigQuiet
namespace Go.Proofs.Ytfmljiidgaoihaa
open Go.ChangeShapes Go.WideShapes Go.ChangeAt Go.RowKit
set_option linter.unusedVariables false

/-! ### what has turned -/
/-- Nothing but the blocks of T, and what is new, has turned. -/
structure Turned (w w' : World) (T : Nat → Prop) : Prop where
  os : w'.os = w.os
  tape : w'.tape = w.tape
  output : w'.output = w.output
  size : w.heap.size ≤ w'.heap.size
  block : ∀ k, k < w.heap.size → ¬ T k → w'.heap[k]? = w.heap[k]?
section
variable {w w' w'' : World} {T T' : Nat → Prop}
theorem Turned.refl (w : World) (T : Nat → Prop) : Turned w w T := ⟨rfl, rfl, rfl, Nat.le_refl _, fun _ _ _ => rfl⟩
theorem Turned.trans (h : Turned w w' T) (k : Turned w' w'' T) : Turned w w'' T :=
  ⟨k.os.trans h.os, k.tape.trans h.tape, k.output.trans h.output, Nat.le_trans h.size k.size, fun i hi hn => (k.block i (Nat.lt_of_lt_of_le hi h.size) hn).trans (h.block i hi hn)⟩
theorem Turned.mono (h : Turned w w' T) (hT : ∀ k, k < w.heap.size → T k → T' k) : Turned w w' T' := ⟨h.os, h.tape, h.output, h.size, fun k hk hn => h.block k hk fun e => hn (hT k hk e)⟩
theorem Turned.drewN (h : Turned w w' T) (q : Nat) : Turned w (w'.drewN q) T := ⟨h.os, h.tape, h.output, h.size, h.block⟩
theorem Turned.drew (h : Turned w w' T) : Turned w w'.drew T := ⟨h.os, h.tape, h.output, h.size, h.block⟩
theorem Turned.of_below (h : Below w.heap.size w w') (T : Nat → Prop) : Turned w w' T := ⟨h.os, h.tape, h.output, h.size, fun k hk _ => h.block k hk⟩
theorem Turned.of_grown {row : Option Nat} (h : w.grownBy w' row) (hr : ∀ j, row = some j → T j) : Turned w w' T :=
  ⟨h.os, h.tape, h.output, h.size, fun k hk hn => h.block k hk fun e => hn (hr k e.symm)⟩
theorem Turned.grown {row : Option Nat} (h : Turned w w' T) (g : w'.grownBy w'' row) (hr : ∀ j, j < w.heap.size → row = some j → T j) : Turned w w'' T :=
  ⟨g.os.trans h.os, g.tape.trans h.tape, g.output.trans h.output, Nat.le_trans h.size g.size, fun k hk hn => (g.block k (Nat.lt_of_lt_of_le hk h.size) fun e => hn (hr k hk e.symm)).trans (h.block k hk hn)⟩
theorem Turned.setCell (h : Turned w w' T) {p : Addr} (hp : p.block < w.heap.size → T p.block) (u : Value) : Turned w (w'.setCell p u) T :=
  ⟨h.os, h.tape, h.output, by simpa [World.setCell] using h.size, fun k hk hn => (Below.heap_setCell w' p u k (fun e => hn (by rw [e]; exact hp (by rw [← e]; exact hk)))).trans (h.block k hk hn)⟩
theorem Turned.alloc (h : Turned w w' T) (o : Obj) : Turned w (w'.alloc o) T :=
  h.trans (Turned.of_grown (World.grownBy_alloc w' o none) (fun _ e => by cases e))
theorem Turned.only_new {B : Nat} {a : World} (h : Below B a w) (k : Turned w w' T) (hB : B ≤ w.heap.size) (hT : ∀ i, T i → B ≤ i) : Below B a w' :=
  ⟨k.os.trans h.os, k.tape.trans h.tape, k.output.trans h.output, Nat.le_trans h.size k.size, fun i hi => (k.block i (Nat.lt_of_lt_of_le hi hB) fun e => by have := hT i e; omega).trans (h.block i hi)⟩
theorem Turned.then_below {B : Nat} (h : Turned w w' T) (k : Below B w' w'') (hB : ∀ i, i < w.heap.size → B ≤ i → T i) : Turned w w'' T :=
  ⟨k.os.trans h.os, k.tape.trans h.tape, k.output.trans h.output, Nat.le_trans h.size k.size, fun i hi hn => (k.block i (by have := hB i hi; rcases Nat.lt_or_ge i B with h | h; exact h; exact absurd (this h) hn)).trans (h.block i hi hn)⟩
theorem Turned.blk {g : Nat} {t : TypeId} {cs : List Value} (h : Turned w w' T) (hb : Blk w g t cs) (hn : ¬ T g) : Blk w' g t cs := (h.block g hb.lt hn).trans hb
theorem Turned.rd {A : Option Addr} {n : Nat} {xs : List UInt8} (t : Turned w w' T) (h : Rd w A n xs) (hn : ∀ a, A = some a → ¬ T a.block) : Rd w' A n xs := by
  refine ⟨h.1, fun h0 => ?_⟩
  obtain ⟨a, e, hc⟩ := h.2 h0
  refine ⟨a, e, fun j hj => ?_⟩
  have hb : (a.add j).block < w.heap.size := World.block_lt_of_cell? w _ (hc j hj)
  rw [World.cell?_of_block (w := w) (t.block _ hb (by rw [add_block]; exact hn a e))]
  exact hc j hj
end

/-! ### many cells at once -/
theorem grown_setCells (b : Nat) : ∀ (vs : List Value) (o : Nat) (w : World), w.grownBy (w.setCells b o vs) (some b) ∧ (w.setCells b o vs).heap.size = w.heap.size
  | [], _, w => ⟨⟨rfl, rfl, rfl, Nat.le_refl _, fun _ _ _ => rfl⟩, rfl⟩
  | v :: r, o, w => by
    obtain ⟨g, hs⟩ := grown_setCells b r (o + 1) (w.setCell ⟨b, o, none⟩ v)
    have h1 : (w.setCell ⟨b, o, none⟩ v).heap.size = w.heap.size := by simp [World.setCell]
    refine ⟨⟨g.os, g.tape, g.output, by rw [← h1]; exact g.size, fun k hk hn => ?_⟩, hs.trans h1⟩
    exact (g.block k (by rw [h1]; exact hk) hn).trans (Below.heap_setCell w ⟨b, o, none⟩ v k (fun e => hn (by rw [e])))
theorem shape_setCells (b : Nat) (t : TypeId) : ∀ (vs : List Value) (o : Nat) (w : World) (cur : Array Value), w.heap[b]? = some (.cells cur t (0, 0)) →
    ∃ cur', (w.setCells b o vs).heap[b]? = some (.cells cur' t (0, 0)) ∧ cur'.size = cur.size
  | [], _, w, cur, h => ⟨cur, h, rfl⟩
  | v :: r, o, w, cur, h => by
    have h1 : (w.setCell ⟨b, o, none⟩ v).heap[b]? = some (.cells (cur.setIfInBounds o v) t (0, 0)) := by simp [World.setCell, Array.getElem?_modify, h]
    obtain ⟨cur', h2, h3⟩ := shape_setCells b t r (o + 1) _ _ h1
    exact ⟨cur', h2, by simpa using h3⟩

/-! ### a page -/
/-- A page as a value. -/
def pageV (xs : List UInt8) : Value := .agg (cellsOf xs).toArray
def noughts : List UInt8 := List.replicate 256 0
theorem noughts_length : noughts.length = 256 := List.length_replicate ..
theorem pageV_inj {xs ys : List UInt8} (h : pageV xs = pageV ys) : xs = ys := by
  unfold pageV at h
  injection h with h
  have h : cellsOf xs = cellsOf ys := congrArg Array.toList h
  have hl : xs.length = ys.length := by have := congrArg List.length h; simpa [cellsOf] using this
  apply List.ext_getElem hl
  intro i h1 h2
  have := congrArg (·[i]?) h
  simp only [cellsOf_get xs i h1, cellsOf_get ys i h2, byteV, Option.some.injEq, Value.int.injEq, true_and] at this
  exact UInt8.toNat_inj.1 (by omega)
theorem pageU : Try.prog.underlying 75 = some (.array 256 5) := by kernel_rfl
theorem pageS : (Try.prog.info? 75).map (·.size) = some 256 := by kernel_rfl
theorem pageInfo : (Try.prog.info? 75).map (fun i => (i.zero, i.size)) = some (some (pageV noughts), 256) := by kernel_rfl
theorem pageZ (w : World) : (zeroValue 75).run Try.prog w = .ok (pageV noughts) w := (zero_of_info pageInfo).1 w
theorem cells_toArray_size {xs : List UInt8} (h : xs.length = 256) : (cellsOf xs).toArray.size = 256 := by simp [cellsOf, h]

theorem run_load_page {w : World} {b o : Nat} {xs : List UInt8} (hc : w.rangeAt b o (cellsOf xs)) (hl : xs.length = 256) :
    (Instr.loadAt 75 (.pointer (some ⟨b, o, none⟩))).run Try.prog w = .ok (pageV xs) w :=
  run_loadAt_mid w b o 75 (cellsOf xs) _ hc pageU rfl (by rw [pageS, cellsOf_length, hl])
theorem run_store_page {w : World} {b o : Nat} {xs : List UInt8} (hc : w.there b o 256) (hl : xs.length = 256) :
    (Instr.storeAt 75 (.pointer (some ⟨b, o, none⟩)) (pageV xs)).run Try.prog w = .ok () (w.setCells b o (cellsOf xs)) := by
  have := run_storeAt_mid (P := Try.prog) w b o 75 (cellsOf xs).toArray (by rw [cells_toArray_size hl]; exact hc) (by rw [pageS, cells_toArray_size hl]) (all_oneCell_toArray (cellsOf_one xs))
  exact this

/-- A block of its own that holds a page. -/
theorem Blk.range {w : World} {g : Nat} {t : TypeId} {cs : List Value} (h : Blk w g t cs) : w.rangeAt g 0 cs := fun j v hj => by
  rw [Nat.zero_add, h.cell]; exact hj
theorem Blk.there {w : World} {g : Nat} {t : TypeId} {cs : List Value} (h : Blk w g t cs) : w.there g 0 cs.length := fun j hj => by
  rw [Nat.zero_add, h.cell, h.frozen]; simp [hj]

section
variable {ops : Array Oper} {rest : List Oper} {op : Oper} {a : Act} {w : World} {Q : Exit → Act → World → Prop}
theorem wpList_load_page (hgd : op.guard = none) (x : Operand) (ho : op.op = .load 75 x) (b o : Nat) (hx : a.eval x = .pointer (some ⟨b, o, none⟩)) (xs : List UInt8) (hc : w.rangeAt b o (cellsOf xs)) (hl : xs.length = 256)
    (h : wpList Try.prog ops Q rest (a.put op.dst (pageV xs)) w) : wpList Try.prog ops Q (op :: rest) a w :=
  wpList_plain hgd fun _ hK => by
    unfold Oper.wp execOp
    simp only [ho, hx, run_load_page hc hl, Sem.run_bind, Sem.run_pure, Result.andThen_ok]
    exact hK _ _ h
theorem wpList_alloc_page (hgd : op.guard = none) (ho : op.op = .alloc 75)
    (h : ∀ w', Blk w' w.heap.size 75 (cellsOf noughts) → w.grownBy w' none → w'.heap.size = w.heap.size + 1 → wpList Try.prog ops Q rest (a.put op.dst (.pointer (some ⟨w.heap.size, 0, none⟩))) w') : wpList Try.prog ops Q (op :: rest) a w := by
  have h' := h (w.alloc (.cells (cellsOf noughts).toArray 75)) (by have := Blk.new w 75 (cellsOf noughts).toArray; simpa using this) (World.grownBy_alloc w _ none) (by simp)
  refine wpList_plain hgd fun _ hK => ?_
  have hz := pageZ w
  unfold Oper.wp execOp
  simp [ho, Instr.alloc, hz, Result.andThen, newVar, newRow, Value.cells, pageV]
  exact hK _ _ h'
theorem wpList_store_page (hgd : op.guard = none) (x y : Operand) (ho : op.op = .store 75 x y) (b : Nat) (t : TypeId) (cs : List Value) (xs : List UInt8) (hx : a.eval x = .pointer (some ⟨b, 0, none⟩)) (hy : a.eval y = pageV xs)
    (hb : Blk w b t cs) (hcl : cs.length = 256) (hl : xs.length = 256)
    (h : ∀ w', Blk w' b t (cellsOf xs) → w.grownBy w' (some b) → w'.heap.size = w.heap.size → wpList Try.prog ops Q rest (a.put op.dst undef) w') : wpList Try.prog ops Q (op :: rest) a w := by
  have ht : w.there b 0 256 := by have := hb.there; rwa [hcl] at this
  have hrun := run_store_page ht hl
  obtain ⟨g, hs⟩ := grown_setCells b (cellsOf xs) 0 w
  have hb' : Blk (w.setCells b 0 (cellsOf xs)) b t (cellsOf xs) := by
    obtain ⟨cur', h1, h2⟩ := shape_setCells b t (cellsOf xs) 0 w _ hb
    have e : cur' = (cellsOf xs).toArray := by
      apply Array.ext
      · rw [h2]; simp [hcl, hl, cellsOf_length]
      · intro i hi1 hi2
        have hi : i < (cellsOf xs).length := by simpa using hi2
        have hc := World.cell?_setCells_in b (cellsOf xs) 0 w (fun j hj => (ht j (by rw [cellsOf_length, hl] at hj; exact hj)).1) i hi
        rw [Nat.zero_add, cell_of_row _ b i cur' t (0, 0) h1] at hc
        rw [Array.getElem?_eq_getElem hi1] at hc
        simpa using hc
    subst e
    exact h1
  refine wpList_plain hgd fun _ hK => ?_
  unfold Oper.wp execOp
  simp only [ho, hx, hy, hrun, Sem.run_bind, Sem.run_pure, Result.andThen_ok]
  exact hK _ _ (h _ hb' g hs)
theorem wpStill_load_page {Q : Act → Prop} (hgd : op.guard = none) (x : Operand) (ho : op.op = .load 75 x) (b o : Nat) (hx : a.eval x = .pointer (some ⟨b, o, none⟩)) (xs : List UInt8) (hc : w.rangeAt b o (cellsOf xs)) (hl : xs.length = 256)
    (h : wpStill Try.prog ops w Q rest (a.put op.dst (pageV xs))) : wpStill Try.prog ops w Q (op :: rest) a :=
  wpStill_step fun K hK => by
    rw [if_pos (by simp [Region.wanted, hgd])]
    unfold Oper.still execOp
    simp only [ho, hx, run_load_page hc hl, Sem.run_bind, Sem.run_pure, Result.andThen_ok, Oper.stillUpon_value]
    exact hK _ h
end

/-! ### the pages -/
/-- Block g holds these pages, one behind the other, and has room for cap. -/
def PgAt (w : World) (g cap : Nat) (ps : List (List UInt8)) : Prop :=
  ∃ cur : Array Value, w.heap[g]? = some (.cells cur 75 (0, 0)) ∧ cur.size = cap * 256 ∧ ps.length ≤ cap ∧ ∀ i (h : i < ps.length), ps[i].length = 256 ∧ w.rangeAt g (i * 256) (cellsOf ps[i])
section
variable {w w' : World} {g cap : Nat} {ps : List (List UInt8)}
theorem PgAt.lt (h : PgAt w g cap ps) : g < w.heap.size := by obtain ⟨_, hb, _⟩ := h; exact (Array.getElem?_eq_some_iff.1 hb).1
theorem PgAt.keep (h : PgAt w g cap ps) (e : w'.heap[g]? = w.heap[g]?) : PgAt w' g cap ps := by
  obtain ⟨cur, hb, hs, hc, hi⟩ := h
  refine ⟨cur, e.trans hb, hs, hc, fun i hi' => ⟨(hi i hi').1, fun j v hv => ?_⟩⟩
  rw [World.cell?_of_block (w := w) (a := ⟨g, i * 256 + j, none⟩) e]
  exact (hi i hi').2 j v hv
theorem PgAt.there (h : PgAt w g cap ps) {i : Nat} (hi : i < ps.length) : w.there g (i * 256) 256 := by
  obtain ⟨cur, hb, hs, hc, _⟩ := h
  intro j hj
  rw [cell_of_row w g _ cur _ _ hb, frozen_of_row w g _ cur _ hb]
  have : i * 256 + j < cur.size := by rw [hs]; have : (i + 1) * 256 ≤ cap * 256 := Nat.mul_le_mul_right _ (by omega); omega
  simp [this]
theorem PgAt.range (h : PgAt w g cap ps) {i : Nat} (hi : i < ps.length) : w.rangeAt g (i * 256) (cellsOf ps[i]) := (h.choose_spec.2.2.2 i hi).2
theorem PgAt.len (h : PgAt w g cap ps) {i : Nat} (hi : i < ps.length) : ps[i].length = 256 := (h.choose_spec.2.2.2 i hi).1
theorem PgAt.room (h : PgAt w g cap ps) : ps.length ≤ cap := h.choose_spec.2.2.1
/-- The first n bytes of page i are written over. -/
theorem PgAt.put (h : PgAt w g cap ps) {i : Nat} (hi : i < ps.length) {xs : List UInt8} (hl : xs.length = 256) {n : Nat} (hn : n ≤ 256) :
    PgAt (w.setCells g (i * 256) (cellsOf (xs.take n))) g cap (ps.set i (xs.take n ++ ps[i].drop n)) := by
  have hth := h.there hi
  have hlen := h.len hi
  have hri := h.range hi
  obtain ⟨cur, hb, hs, hc, hh⟩ := h
  obtain ⟨cur', hb', hs'⟩ := shape_setCells g 75 (cellsOf (xs.take n)) (i * 256) w cur hb
  have hcl : (cellsOf (xs.take n)).length = n := by rw [cellsOf_length, List.length_take, hl]; omega
  refine ⟨cur', hb', hs'.trans hs, by simpa using hc, fun k hk => ?_⟩
  have hk' : k < ps.length := by simpa using hk
  rw [List.getElem_set]
  by_cases hik : i = k
  · subst hik
    rw [if_pos rfl]
    refine ⟨by simp [hl, hlen]; omega, fun j v hv => ?_⟩
    rw [cellsOf_append] at hv
    by_cases hj : j < n
    · rw [List.getElem?_append_left (by rw [hcl]; exact hj)] at hv
      have := World.cell?_setCells_in g (cellsOf (xs.take n)) (i * 256) w (fun q hq => (hth q (by rw [hcl] at hq; omega)).1) j (by rw [hcl]; exact hj)
      rw [this]
      rw [List.getElem?_eq_getElem (by rw [hcl]; exact hj)] at hv
      exact hv
    · rw [World.cell?_setCells_out g _ _ w ⟨g, i * 256 + j, none⟩ (fun _ _ => by right; show i * 256 + _ ≤ i * 256 + j; rw [hcl]; omega)]
      rw [List.getElem?_append_right (by rw [hcl]; omega), hcl] at hv
      refine hri j v ?_
      rw [← hv]
      simp only [cellsOf, List.getElem?_map, List.getElem?_drop]
      congr 2
      omega
  · rw [if_neg hik]
    refine ⟨(hh k hk').1, World.rangeAt_setCells_apart (hh k hk').2 g _ _ ?_⟩
    rw [hcl, cellsOf_length, (hh k hk').1]
    rcases Nat.lt_or_gt_of_ne hik with hlt | hlt
    · right; right; omega
    · right; left; omega
theorem PgAt.put_all (h : PgAt w g cap ps) {i : Nat} (hi : i < ps.length) {xs : List UInt8} (hl : xs.length = 256) :
    PgAt (w.setCells g (i * 256) (cellsOf xs)) g cap (ps.set i xs) := by
  have := h.put hi hl (Nat.le_refl 256)
  rwa [List.take_of_length_le (by omega), List.drop_of_length_le (by rw [h.len hi]; omega), List.append_nil] at this
end
end Go.Proofs.Ytfmljiidgaoihaa
