/- Dk Dm -/
import Derived.Test.YtblbhhijddcbeaaGreatDoorBTu
import Derived.Maps.OwnSet
import Derived.Maps.OwnOps
import Derived.Maps.RangeWalk
import Derived.Deep.MidRow
import Derived.Deep.WholeRow
import Derived.StillTailTactics
import Derived.Deep.QuietTactic
import Derived.BigQuiet
section
namespace Go.Proofs.YtblbhhijddcbeaaGreatDoor
open Go.ChangeShapes Go.WideShapes Go.ChangeAt Go.RowKit
set_option linter.unusedVariables false
set_option linter.unusedSimpArgs false
set_option maxRecDepth 100000
set_option maxHeartbeats 16000000
def pageV (xs : List UInt8) : Value := .agg (cellsOf xs).toArray
def noughts : List UInt8 := List.replicate 256 0
theorem noughts_length : noughts.length = 256 := List.length_replicate ..
theorem pageU : Tryz.prog.underlying 117 = some (.array 256 5) := by kernel_rfl
theorem pageS : (Tryz.prog.info? 117).map (·.size) = some 256 := by kernel_rfl
theorem pageInfo : (Tryz.prog.info? 117).map (fun i => (i.zero, i.size)) = some (some (pageV noughts), 256) := by kernel_rfl
theorem pageZ (w : World) : (zeroValue 117).run Tryz.prog w = .ok (pageV noughts) w := (zero_of_info pageInfo).1 w
theorem cells_toArray_size {xs : List UInt8} (h : xs.length = 256) : (cellsOf xs).toArray.size = 256 := by simp [cellsOf, h]
theorem run_load_page {w : World} {b o : Nat} {xs : List UInt8} (hc : w.rangeAt b o (cellsOf xs)) (hl : xs.length = 256) :
 (Instr.loadAt 117 (.pointer (some ⟨b, o, none⟩))).run Tryz.prog w = .ok (pageV xs) w :=
 run_loadAt_mid w b o 117 (cellsOf xs) _ hc pageU rfl (by rw [pageS, cellsOf_length, hl])
theorem run_store_page {w : World} {b o : Nat} {xs : List UInt8} (hc : w.there b o 256) (hl : xs.length = 256) :
 (Instr.storeAt 117 (.pointer (some ⟨b, o, none⟩)) (pageV xs)).run Tryz.prog w = .ok () (w.setCells b o (cellsOf xs)) := by
 have := run_storeAt_mid (P := Tryz.prog) w b o 117 (cellsOf xs).toArray (by rw [cells_toArray_size hl]; exact hc) (by rw [pageS, cells_toArray_size hl]) (all_oneCell_toArray (cellsOf_one xs)); exact this
theorem Blk.range {w : World} {g : Nat} {t : TypeId} {cs : List Value} (h : Blk w g t cs) : w.rangeAt g 0 cs := fun j v hj => by
 rw [Nat.zero_add, h.cell]; exact hj
theorem Blk.there {w : World} {g : Nat} {t : TypeId} {cs : List Value} (h : Blk w g t cs) : w.there g 0 cs.length := fun j hj => by
 rw [Nat.zero_add, h.cell, h.frozen]; simp [hj]
section
variable {ops : Array Oper} {rest : List Oper} {op : Oper} {a : Act} {w : World} {Q : Exit → Act → World → Prop}
theorem wpList_load_page (hgd : op.guard = none) (x : Operand) (ho : op.op = .load 117 x) (b o : Nat) (hx : a.eval x = .pointer (some ⟨b, o, none⟩)) (xs : List UInt8) (hc : w.rangeAt b o (cellsOf xs)) (hl : xs.length = 256)
 (h : wpList Tryz.prog ops Q rest (a.put op.dst (pageV xs)) w) : wpList Tryz.prog ops Q (op :: rest) a w :=
 wpList_plain hgd fun _ hK => by
  unfold Oper.wp execOp; simp only [ho, hx, run_load_page hc hl, Sem.run_bind, Sem.run_pure, Result.andThen_ok]; exact hK _ _ h
theorem wpList_alloc_page (hgd : op.guard = none) (ho : op.op = .alloc 117)
 (h : ∀ w', Blk w' w.heap.size 117 (cellsOf noughts) → w.grownBy w' none → w'.heap.size = w.heap.size + 1 → wpList Tryz.prog ops Q rest (a.put op.dst (.pointer (some ⟨w.heap.size, 0, none⟩))) w') : wpList Tryz.prog ops Q (op :: rest) a w := by
 have h' := h (w.alloc (.cells (cellsOf noughts).toArray 117)) (by have := Blk.new w 117 (cellsOf noughts).toArray; simpa using this) (World.grownBy_alloc w _ none) (by simp); refine wpList_plain hgd fun _ hK => ?_
 have hz := pageZ w; unfold Oper.wp execOp; simp [ho, Instr.alloc, hz, Result.andThen, newVar, newRow, Value.cells, pageV]; exact hK _ _ h'
theorem wpList_store_page (hgd : op.guard = none) (x y : Operand) (ho : op.op = .store 117 x y) (b : Nat) (t : TypeId) (cs : List Value) (xs : List UInt8) (hx : a.eval x = .pointer (some ⟨b, 0, none⟩)) (hy : a.eval y = pageV xs)
 (hb : Blk w b t cs) (hcl : cs.length = 256) (hl : xs.length = 256)
 (h : ∀ w', Blk w' b t (cellsOf xs) → w.grownBy w' (some b) → w'.heap.size = w.heap.size → wpList Tryz.prog ops Q rest (a.put op.dst undef) w') : wpList Tryz.prog ops Q (op :: rest) a w := by
 have ht : w.there b 0 256 := by have := hb.there; rwa [hcl] at this
 have hrun := run_store_page ht hl; obtain ⟨g, hs⟩ := grown_setCells b (cellsOf xs) 0 w; have hb' : Blk (w.setCells b 0 (cellsOf xs)) b t (cellsOf xs) := by
  obtain ⟨cur', h1, h2⟩ := shape_setCells b t (cellsOf xs) 0 w _ hb; have e : cur' = (cellsOf xs).toArray := by
   apply Array.ext
   · rw [h2]; simp [hcl, hl, cellsOf_length]
   · intro i hi1 hi2; have hi : i < (cellsOf xs).length := by simpa using hi2
     have hc := World.cell?_setCells_in b (cellsOf xs) 0 w (fun j hj => (ht j (by rw [cellsOf_length, hl] at hj; exact hj)).1) i hi; rw [Nat.zero_add, cell_of_row _ b i cur' t (0, 0) h1] at hc; rw [Array.getElem?_eq_getElem hi1] at hc; simpa using hc
  subst e; exact h1
 refine wpList_plain hgd fun _ hK => ?_
 unfold Oper.wp execOp; simp only [ho, hx, hy, hrun, Sem.run_bind, Sem.run_pure, Result.andThen_ok]; exact hK _ _ (h _ hb' g hs)
theorem wpStill_load_page {Q : Act → Prop} (hgd : op.guard = none) (x : Operand) (ho : op.op = .load 117 x) (b o : Nat) (hx : a.eval x = .pointer (some ⟨b, o, none⟩)) (xs : List UInt8) (hc : w.rangeAt b o (cellsOf xs)) (hl : xs.length = 256)
 (h : wpStill Tryz.prog ops w Q rest (a.put op.dst (pageV xs))) : wpStill Tryz.prog ops w Q (op :: rest) a :=
 wpStill_step fun K hK => by
  rw [if_pos (by simp [Region.wanted, hgd])]; unfold Oper.still execOp; simp only [ho, hx, run_load_page hc hl, Sem.run_bind, Sem.run_pure, Result.andThen_ok, Oper.stillUpon_value]; exact hK _ h
end
def PgAt (w : World) (g cap : Nat) (ps : List (List UInt8)) : Prop :=
 ∃ cur : Array Value, w.heap[g]? = some (.cells cur 117 (0, 0)) ∧ cur.size = cap * 256 ∧ ps.length ≤ cap ∧ ∀ i (h : i < ps.length), ps[i].length = 256 ∧ w.rangeAt g (i * 256) (cellsOf ps[i])
section
variable {w w' : World} {g cap : Nat} {ps : List (List UInt8)}
theorem PgAt.lt (h : PgAt w g cap ps) : g < w.heap.size := by obtain ⟨_, hb, _⟩ := h; exact (Array.getElem?_eq_some_iff.1 hb).1
theorem PgAt.keep (h : PgAt w g cap ps) (e : w'.heap[g]? = w.heap[g]?) : PgAt w' g cap ps := by
 obtain ⟨cur, hb, hs, hc, hi⟩ := h; refine ⟨cur, e.trans hb, hs, hc, fun i hi' => ⟨(hi i hi').1, fun j v hv => ?_⟩⟩; rw [World.cell?_of_block (w := w) (a := ⟨g, i * 256 + j, none⟩) e]; exact (hi i hi').2 j v hv
theorem PgAt.there (h : PgAt w g cap ps) {i : Nat} (hi : i < ps.length) : w.there g (i * 256) 256 := by
 obtain ⟨cur, hb, hs, hc, _⟩ := h; intro j hj; rw [cell_of_row w g _ cur _ _ hb, frozen_of_row w g _ cur _ hb]; have : i * 256 + j < cur.size := by rw [hs]; have : (i + 1) * 256 ≤ cap * 256 := Nat.mul_le_mul_right _ (by omega); omega
 simp [this]
theorem PgAt.range (h : PgAt w g cap ps) {i : Nat} (hi : i < ps.length) : w.rangeAt g (i * 256) (cellsOf ps[i]) := (h.choose_spec.2.2.2 i hi).2
theorem PgAt.len (h : PgAt w g cap ps) {i : Nat} (hi : i < ps.length) : ps[i].length = 256 := (h.choose_spec.2.2.2 i hi).1
theorem PgAt.put (h : PgAt w g cap ps) {i : Nat} (hi : i < ps.length) {xs : List UInt8} (hl : xs.length = 256) {n : Nat} (hn : n ≤ 256) :
 PgAt (w.setCells g (i * 256) (cellsOf (xs.take n))) g cap (ps.set i (xs.take n ++ ps[i].drop n)) := by
 have hth := h.there hi; have hlen := h.len hi; have hri := h.range hi; obtain ⟨cur, hb, hs, hc, hh⟩ := h; obtain ⟨cur', hb', hs'⟩ := shape_setCells g 117 (cellsOf (xs.take n)) (i * 256) w cur hb; have hcl : (cellsOf (xs.take n)).length = n := by rw [cellsOf_length, List.length_take, hl]; omega
 refine ⟨cur', hb', hs'.trans hs, by simpa using hc, fun k hk => ?_⟩; have hk' : k < ps.length := by simpa using hk
 rw [List.getElem_set]; by_cases hik : i = k
 · subst hik; rw [if_pos rfl]; refine ⟨by simp [hl, hlen]; omega, fun j v hv => ?_⟩; rw [cellsOf_append] at hv; by_cases hj : j < n
   · rw [List.getElem?_append_left (by rw [hcl]; exact hj)] at hv; have := World.cell?_setCells_in g (cellsOf (xs.take n)) (i * 256) w (fun q hq => (hth q (by rw [hcl] at hq; omega)).1) j (by rw [hcl]; exact hj); rw [this]; rw [List.getElem?_eq_getElem (by rw [hcl]; exact hj)] at hv; exact hv
   · rw [World.cell?_setCells_out g _ _ w ⟨g, i * 256 + j, none⟩ (fun _ _ => by right; show i * 256 + _ ≤ i * 256 + j; rw [hcl]; omega)]; rw [List.getElem?_append_right (by rw [hcl]; omega), hcl] at hv; refine hri j v ?_; rw [← hv]; simp only [cellsOf, List.getElem?_map, List.getElem?_drop]
     congr 2
     omega
 · rw [if_neg hik]; refine ⟨(hh k hk').1, World.rangeAt_setCells_apart (hh k hk').2 g _ _ ?_⟩; rw [hcl, cellsOf_length, (hh k hk').1]; rcases Nat.lt_or_gt_of_ne hik with hlt | hlt
   · right; right; omega
   · right; left; omega
theorem PgAt.put_all (h : PgAt w g cap ps) {i : Nat} (hi : i < ps.length) {xs : List UInt8} (hl : xs.length = 256) :
 PgAt (w.setCells g (i * 256) (cellsOf xs)) g cap (ps.set i xs) := by
 have := h.put hi hl (Nat.le_refl 256)
 rwa [List.take_of_length_le (by omega), List.drop_of_length_le (by rw [h.len hi]; omega), List.append_nil] at this
end
end Go.Proofs.YtblbhhijddcbeaaGreatDoor
end
section
/-
 A map with keys of type int, whatever its elements: what it holds, key by key; the operations on it. Nothing is claimed here of the Go text.
-/
namespace Go.Proofs.YtblbhhijddcbeaaGreatDoor
open Go.ChangeShapes Go.WideShapes Go.ChangeAt Go.RowKit
open Go.ChangeMaps Go.MapKept
set_option linter.unusedVariables false
def valR (v : Value) : Option (DataW Value × List MemPlace) := some (.held v, [])
def Ca (D : DataW Value) (f : Int → Option Value) : Prop :=
 ∀ x : Int, (f x = none → Maps.has D (.int .i64 x) = false ∧ ∀ z, D.atKey (.int .i64 x) z = z) ∧ ∀ v, f x = some v → Maps.has D (.int .i64 x) = true ∧ ∀ z, D.atKey (.int .i64 x) z = .held v
def Mv (w : World) (m k : Nat) (f : Int → Option Value) : Prop := ∃ D, w.ownsMap Tryz.prog 3 valR m k D ∧ Ca D f
def Rg (w : World) (m it k : Nat) (f : Int → Option Value) (lf : Int → Bool) (cnt : Nat) : Prop :=
 ∃ D left, w.ranges Tryz.prog 3 valR m it k D left cnt ∧ Ca D f ∧ ∀ x, left (.int .i64 x) = lf x
theorem keyI : Maps.Keyed Tryz.prog 3 := Maps.int_keyed Tryz.underlying3
def Wf (x : Int) : Prop := -9223372036854775808 ≤ x ∧ x ≤ 9223372036854775807
theorem key_mk {x : Int} (h : Wf x) : keyOf Tryz.prog 3 (.int .i64 x) = some (.int .i64 x) := Maps.keyOf_int_mk Tryz.underlying3 (WalkArith.wf_i64 h)
theorem Wf.of_wf {x : Int} (h : (Lit.int .i64 x).wf = true) : Wf x := by
 simp [Lit.wf, IntKind.min, IntKind.max, IntKind.signed, IntKind.bits] at h; exact h
theorem lit_ne {x y : Int} (h : x ≠ y) : (Lit.int .i64 x) ≠ .int .i64 y := fun e => h (by injection e)
section
variable {w w' : World} {m it k : Nat} {f : Int → Option Value} {lf : Int → Bool} {cnt : Nat} {D : DataW Value}
theorem Ca.is (h : Ca D f) {x : Int} : Maps.has D (.int .i64 x) = (f x).isSome := by
 cases hx : f x
 · rw [((h x).1 hx).1]; rfl
 · rw [((h x).2 _ hx).1]; rfl
theorem Ca.put (h : Ca D f) (hD : Maps.IsMap D) {x : Int} (v : Value) : Ca (D.put (.int .i64 x) (.held v)) (fun y => if y = x then some v else f y) := by
 intro y; by_cases hy : y = x
 · subst hy; simp only [if_true]; refine ⟨fun e => by simp at e, fun u hu => ?_⟩; obtain rfl := Option.some.inj hu; exact ⟨Maps.has_put_same (k := .int .i64 y) hD trivial _, fun z => Maps.atKey_put_same (k := .int .i64 y) hD trivial _ z⟩
 · simp only [hy, if_false]; have hne := lit_ne hy; refine ⟨fun e => ?_, fun u hu => ?_⟩
   · rw [Maps.has_put_other hne]; exact ⟨((h y).1 e).1, fun z => by rw [Maps.atKey_put_other hne]; exact ((h y).1 e).2 z⟩
   · rw [Maps.has_put_other hne]; exact ⟨((h y).2 u hu).1, fun z => by rw [Maps.atKey_put_other hne]; exact ((h y).2 u hu).2 z⟩
theorem Ca.empty : Ca (.map []) (fun _ => none) := fun x => ⟨fun _ => ⟨rfl, fun _ => rfl⟩, fun v e => by cases e⟩
theorem Mv.lt (h : Mv w m k f) : m < w.heap.size := by obtain ⟨_, h, _⟩ := h; exact h.lt
theorem Mv.keep (h : Mv w m k f) (e : w'.heap[m]? = w.heap[m]?) : Mv w' m k f := by
 obtain ⟨D, ⟨es, clock, hb, r⟩, hc⟩ := h; exact ⟨D, ⟨es, clock, e.trans hb, r⟩, hc⟩
theorem Mv.mono (h : Mv w m k f) {k' : Nat} (hk : k ≤ k') : Mv w m k' f := by
 obtain ⟨D, h, hc⟩ := h; exact ⟨D, h.mono hk, hc⟩
theorem Mv.made (w : World) : Mv (w.alloc (.map #[] 0)) w.heap.size 0 (fun _ => none) := ⟨_, World.ownsMap_made w _ _ _, Ca.empty⟩
theorem Mv.kind (h : Mv w m k f) : ∃ es clock, w.heap[m]? = some (.map es clock) := by
 obtain ⟨D, ⟨es, clock, hb, r⟩, hc⟩ := h; exact ⟨es, clock, hb⟩
theorem Mv.look {T e : TypeId} (h : Mv w m k f) (hT : Tryz.prog.underlying T = some (.map 3 e)) {z : Value} (hz : (zeroValue e).run Tryz.prog w = .ok z w) {x : Int} (hx : Wf x) :
 (Instr.lookup T (.map (some m)) (.int .i64 x) true).run Tryz.prog w = .ok (.tuple #[(f x).getD z, .bool (f x).isSome]) w := by
 obtain ⟨D, h, hc⟩ := h; obtain ⟨v, ps, hrun, hv⟩ := h.look_ok keyI hT hz (zd := .held z) (zp := []) rfl (key_mk hx); rw [hrun, hc.is]; have : v = (f x).getD z := by
  simp only [valR, Option.some.injEq, Prod.mk.injEq] at hv; cases hfx : f x with
  | none => rw [((hc x).1 hfx).2] at hv; simpa using hv.1
  | some u => rw [((hc x).2 u hfx).2] at hv; simpa using hv.1
 rw [this]
theorem Mv.store {T e : TypeId} (h : Mv w m k f) (hT : Tryz.prog.underlying T = some (.map 3 e)) (hk : k < maxLen) {x : Int} (hx : Wf x) (v : Value) :
 ∃ w', (Instr.mapUpdate T (.map (some m)) (.int .i64 x) v).run Tryz.prog w = .ok () w' ∧ Mv w' m (k + 1) (fun y => if y = x then some v else f y) ∧ w.grownBy w' (some m) := by
 obtain ⟨D, h, hc⟩ := h; obtain ⟨w', hrun, h', hg⟩ := h.update keyI hT hk (val := v) (d := .held v) (ps := []) (key_mk hx) rfl; exact ⟨w', hrun, ⟨_, h', hc.put h.isMap v⟩, hg⟩
theorem Mv.clear {T e : TypeId} (h : Mv w m k f) (hT : Tryz.prog.underlying T = some (.map 3 e)) (ty : TypeId) :
 ∃ w', (Builtin.clear_ #[T] ty #[.map (some m)]).run Tryz.prog w = .ok (.tuple #[]) w' ∧ Mv w' m 0 (fun _ => none) ∧ w.grownBy w' (some m) ∧ w'.heap.size = w.heap.size := by
 obtain ⟨D, ⟨es, clock, hb, F, hs, hD⟩, hc⟩ := h; refine ⟨ChangeMaps.setBlock w m (.map #[] clock), ?_, ⟨.map [], ⟨#[], clock, heap_setBlock_same hb _, ⟨by simp, stamped_empty clock, by simp⟩, Nat.le_refl _, rfl⟩, Ca.empty⟩,
  ⟨rfl, rfl, rfl, by simp [ChangeMaps.setBlock], fun i _ hi => heap_setBlock_other hb _ (fun e => hi (by rw [e]))⟩, by simp [ChangeMaps.setBlock]⟩
 simp [Builtin.clear_, run_underlying hT, MapKept.run_getObj_map hb, MapKept.run_setObj_map _ hb, Result.andThen, ChangeMaps.setBlock]
end
section
variable {ops : Array Oper} {rest : List Oper} {op : Oper} {a : Act} {w : World} {Q : Exit → Act → World → Prop} {m it k : Nat} {f : Int → Option Value} {lf : Int → Bool} {cnt : Nat}
theorem wpList_look_ok (hgd : op.guard = none) (T e : TypeId) (x y : Operand) (ho : op.op = .lookup T x y true) (hT : Tryz.prog.underlying T = some (.map 3 e)) (z : Value) (hz : ∀ w, (zeroValue e).run Tryz.prog w = .ok z w)
 (h : Mv w m k f) (hx : a.eval x = .map (some m)) (p : Int) (hy : a.eval y = .int .i64 p) (hp : Wf p) (v : Value) (ok : Bool) (hv : (f p).getD z = v) (hok : (f p).isSome = ok)
 (hK : wpList Tryz.prog ops Q rest (a.put op.dst (.tuple #[v, .bool ok])) w) : wpList Tryz.prog ops Q (op :: rest) a w :=
 wpList_plain hgd fun _ hK' => by
  have hrun := h.look hT (hz w) hp; rw [hv, hok] at hrun; unfold Oper.wp; simp [execOp, ho, hx, hy, hrun, Result.andThen]; exact hK' _ _ hK
theorem wpList_put_mv (hgd : op.guard = none) (T e : TypeId) (x y v : Operand) (ho : op.op = .mapUpdate T x y v) (hT : Tryz.prog.underlying T = some (.map 3 e))
 (h : Mv w m k f) (hk : k < maxLen) (hx : a.eval x = .map (some m)) (p : Int) (hy : a.eval y = .int .i64 p) (hp : Wf p) (u : Value) (hv : a.eval v = u)
 (hK : ∀ w', Mv w' m (k + 1) (fun y => if y = p then some u else f y) → w.grownBy w' (some m) → wpList Tryz.prog ops Q rest (a.put op.dst undef) w') : wpList Tryz.prog ops Q (op :: rest) a w :=
 wpList_plain hgd fun _ hK' => by
  obtain ⟨w', hrun, h1, h2⟩ := h.store hT hk hp u; unfold Oper.wp; simp [execOp, ho, hx, hy, hv, hrun, Result.andThen]; exact hK' _ _ (hK w' h1 h2)
theorem wpList_clear_mv (hgd : op.guard = none) (T e : TypeId) (x : Operand) (ho : op.op = .call { callee := .builtin .clear, args := #[x], argTypes := #[T] }) (hT : Tryz.prog.underlying T = some (.map 3 e))
 (h : Mv w m k f) (hx : a.eval x = .map (some m))
 (hK : ∀ w', Mv w' m 0 (fun _ => none) → w.grownBy w' (some m) → w'.heap.size = w.heap.size → wpList Tryz.prog ops Q rest (a.put op.dst (.tuple #[])) w') : wpList Tryz.prog ops Q (op :: rest) a w :=
 wpList_plain hgd fun _ hK' => by
  obtain ⟨w', hrun, h1, h2, h3⟩ := h.clear hT op.type; unfold Oper.wp; simp [execOp, ho, resolve, invoke, builtin, hx, hrun, Result.andThen]; exact hK' _ _ (hK w' h1 h2 h3)
theorem wpList_range_mv (hgd : op.guard = none) (T e : TypeId) (x : Operand) (ho : op.op = .range T x) (hT : Tryz.prog.underlying T = some (.map 3 e)) (h : Mv w m k f) (hx : a.eval x = .map (some m))
 (hK : ∀ w' cnt, Rg w' m w.heap.size k f (fun x => (f x).isSome) cnt → w.grownBy w' none → w'.heap.size = w.heap.size + 1 → wpList Tryz.prog ops Q rest (a.put op.dst (.pointer (some ⟨w.heap.size, 0, none⟩))) w') : wpList Tryz.prog ops Q (op :: rest) a w := by
 obtain ⟨D, h, hc⟩ := h; exact wpList_range_own w hgd x T ho 3 e keyI hT valR m k D hx h fun w' h1 h2 h3 => hK w' _ ⟨D, _, h1, hc, fun x => hc.is⟩ h2 h3
theorem Rg.size (h : Rg w m it k f lf cnt) : w.rangeLeft m it = cnt := by obtain ⟨_, _, h, _⟩ := h; exact h.left_eq
theorem Rg.owns (h : Rg w m it k f lf cnt) : Mv w m k f := by obtain ⟨D, _, h, hc, _⟩ := h; exact ⟨D, h.owns, hc⟩
theorem Rg.lt (h : Rg w m it k f lf cnt) : it < w.heap.size := by obtain ⟨_, _, h, _⟩ := h; exact h.lt
theorem Rg.keep {w' : World} (h : Rg w m it k f lf cnt) (h1 : w'.heap[m]? = w.heap[m]?) (h2 : w'.heap[it]? = w.heap[it]?) : Rg w' m it k f lf cnt := by
 obtain ⟨D, left, ⟨es, clock, since, seen, c0, hb, F, hs, hD, hr, rest⟩, r⟩ := h; exact ⟨D, left, ⟨es, clock, since, seen, c0, h1.trans hb, F, hs, hD, h2.trans hr, rest⟩, r⟩
theorem wpList_next_mv (hgd : op.guard = none) (x : Operand) (ho : op.op = .next x false) (h : Rg w m it k f lf cnt) (hx : a.eval x = .pointer (some ⟨it, 0, none⟩))
 (hDone : (∀ x, lf x = false) → wpList Tryz.prog ops Q rest (a.put op.dst (.tuple #[.bool false])) w)
 (hMore : ∀ (p : Int) (v : Value) (w' : World) (cnt' : Nat), Wf p → f p = some v → lf p = true → Rg w' m it k f (fun y => lf y && !decide (y = p)) cnt' → cnt' < cnt → w.grownBy w' (some it) → w'.heap.size = w.heap.size →
  (Instr.entry (.pointer (some ⟨it, 0, none⟩))).run Tryz.prog w' = .ok (.tuple #[.int .i64 p, v]) w' → wpList Tryz.prog ops Q rest (a.put op.dst (.tuple #[.bool true, .int .i64 p, v])) w') : wpList Tryz.prog ops Q (op :: rest) a w := by
 obtain ⟨D, left, h, hc, hl⟩ := h; refine wpList_next_ranges w hgd x ho 3 keyI valR (Value.int .i64) id (fun key kl hkey => by obtain ⟨x, rfl, _⟩ := Maps.keyOf_int_inv Tryz.underlying3 hkey; exact ⟨x, rfl⟩) (fun v y _ => ⟨v, rfl⟩) m it k D left cnt hx h
  (fun _ h0 => hDone fun x => by rw [← hl]; exact h0 _) ?_
 intro p c kl y w' cnt' hkey hlk hR hat hrg hlt hg hs hen; obtain ⟨p', ep, rfl, hwp⟩ := Maps.keyOf_int_inv Tryz.underlying3 hkey; cases ep; simp only [valR, id, Option.some.injEq] at hR; subst hR; have hf : f p = some c := by
  have hsome : (f p).isSome = true := by
   rw [← hc.is]; cases hh : Maps.has D (.int .i64 p)
   · have h1 := Maps.atKey_of_not_has hh (.lit (.int .i64 0)); have h2 := hat (.lit (.int .i64 0)); rw [h1] at h2; cases h2
   · rfl
  obtain ⟨u, hu⟩ := Option.isSome_iff_exists.1 hsome; have := ((hc p).2 u hu).2 .nil; rw [hat .nil] at this; simp only [DataW.held.injEq] at this; rw [hu, this]
 refine hMore p c w' cnt' (Wf.of_wf hwp) hf (by rw [← hl]; exact hlk) ⟨D, _, hrg, hc, fun q => ?_⟩ hlt hg hs hen; show (left (.int .i64 q) && !(Lit.int .i64 q).sameKey (.int .i64 p)) = _; rw [hl]; by_cases hq : q = p
 · subst hq; rw [WideAt.sameKey_self (a := .int .i64 q) trivial]; simp
 · rw [Maps.sameKey_ne (lit_ne hq)]; simp [hq]
end
end Go.Proofs.YtblbhhijddcbeaaGreatDoor
end
