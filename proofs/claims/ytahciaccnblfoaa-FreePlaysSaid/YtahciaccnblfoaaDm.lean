/-
  A map with keys of type int, whatever its elements: what it holds, key by key; the operations on it. Nothing is claimed here of the Go text.
-/
import Derived.Test.YtahciaccnblfoaaTu
import Derived.Maps.OwnSet
import Derived.Maps.OwnOps
import Derived.Maps.RangeWalk
import Derived.Deep.MidRow
import Derived.Deep.WholeRow
import Derived.StillTailTactics
import Derived.Deep.QuietTactic
import Derived.BigQuiet
namespace Go.Proofs.Ytahciaccnblfoaa
open Go.ChangeShapes Go.WideShapes Go.ChangeAt Go.RowKit
open Go.ChangeMaps Go.MapKept
set_option linter.unusedVariables false

/-- Each element reads as itself. -/
def valR (v : Value) : Option (DataW Value × List MemPlace) := some (.held v, [])
/-- The datum holds just this, key by key. -/
def Ca (D : DataW Value) (f : Int → Option Value) : Prop :=
  ∀ x : Int, (f x = none → Maps.has D (.int .i64 x) = false ∧ ∀ z, D.atKey (.int .i64 x) z = z) ∧ ∀ v, f x = some v → Maps.has D (.int .i64 x) = true ∧ ∀ z, D.atKey (.int .i64 x) z = .held v
/-- Block m of w is a map of at most k entries that holds f. -/
def Mv (w : World) (m k : Nat) (f : Int → Option Value) : Prop := ∃ D, w.ownsMap Try.prog 3 valR m k D ∧ Ca D f
/-- Block it goes through that map: what is still to come is told by lf, cnt entries. -/
def Rg (w : World) (m it k : Nat) (f : Int → Option Value) (lf : Int → Bool) (cnt : Nat) : Prop :=
  ∃ D left, w.ranges Try.prog 3 valR m it k D left cnt ∧ Ca D f ∧ ∀ x, left (.int .i64 x) = lf x
theorem keyI : Maps.Keyed Try.prog 3 := Maps.int_keyed Try.underlying3
def Wf (x : Int) : Prop := -9223372036854775808 ≤ x ∧ x ≤ 9223372036854775807
theorem key_mk {x : Int} (h : Wf x) : keyOf Try.prog 3 (.int .i64 x) = some (.int .i64 x) := Maps.keyOf_int_mk Try.underlying3 (WalkArith.wf_i64 h)
theorem Wf.of_wf {x : Int} (h : (Lit.int .i64 x).wf = true) : Wf x := by
  simp [Lit.wf, IntKind.min, IntKind.max, IntKind.signed, IntKind.bits] at h
  exact h
theorem lit_ne {x y : Int} (h : x ≠ y) : (Lit.int .i64 x) ≠ .int .i64 y := fun e => h (by injection e)

section
variable {w w' : World} {m it k : Nat} {f : Int → Option Value} {lf : Int → Bool} {cnt : Nat} {D : DataW Value}
theorem Ca.is (h : Ca D f) {x : Int} : Maps.has D (.int .i64 x) = (f x).isSome := by
  cases hx : f x
  · rw [((h x).1 hx).1]; rfl
  · rw [((h x).2 _ hx).1]; rfl
theorem Ca.put (h : Ca D f) (hD : Maps.IsMap D) {x : Int} (v : Value) : Ca (D.put (.int .i64 x) (.held v)) (fun y => if y = x then some v else f y) := by
  intro y
  by_cases hy : y = x
  · subst hy
    simp only [if_true]
    refine ⟨fun e => by simp at e, fun u hu => ?_⟩
    obtain rfl := Option.some.inj hu
    exact ⟨Maps.has_put_same (k := .int .i64 y) hD trivial _, fun z => Maps.atKey_put_same (k := .int .i64 y) hD trivial _ z⟩
  · simp only [hy, if_false]
    have hne := lit_ne hy
    refine ⟨fun e => ?_, fun u hu => ?_⟩
    · rw [Maps.has_put_other hne]
      exact ⟨((h y).1 e).1, fun z => by rw [Maps.atKey_put_other hne]; exact ((h y).1 e).2 z⟩
    · rw [Maps.has_put_other hne]
      exact ⟨((h y).2 u hu).1, fun z => by rw [Maps.atKey_put_other hne]; exact ((h y).2 u hu).2 z⟩
theorem Ca.empty : Ca (.map []) (fun _ => none) := fun x => ⟨fun _ => ⟨rfl, fun _ => rfl⟩, fun v e => by cases e⟩

theorem Mv.lt (h : Mv w m k f) : m < w.heap.size := by obtain ⟨_, h, _⟩ := h; exact h.lt
theorem Mv.keep (h : Mv w m k f) (e : w'.heap[m]? = w.heap[m]?) : Mv w' m k f := by
  obtain ⟨D, ⟨es, clock, hb, r⟩, hc⟩ := h
  exact ⟨D, ⟨es, clock, e.trans hb, r⟩, hc⟩
theorem Mv.mono (h : Mv w m k f) {k' : Nat} (hk : k ≤ k') : Mv w m k' f := by
  obtain ⟨D, h, hc⟩ := h
  exact ⟨D, h.mono hk, hc⟩
theorem Mv.made (w : World) : Mv (w.alloc (.map #[] 0)) w.heap.size 0 (fun _ => none) := ⟨_, World.ownsMap_made w _ _ _, Ca.empty⟩
theorem Mv.kind (h : Mv w m k f) : ∃ es clock, w.heap[m]? = some (.map es clock) := by
  obtain ⟨D, ⟨es, clock, hb, r⟩, hc⟩ := h
  exact ⟨es, clock, hb⟩
theorem Mv.look {T e : TypeId} (h : Mv w m k f) (hT : Try.prog.underlying T = some (.map 3 e)) {z : Value} (hz : (zeroValue e).run Try.prog w = .ok z w) {x : Int} (hx : Wf x) :
    (Instr.lookup T (.map (some m)) (.int .i64 x) true).run Try.prog w = .ok (.tuple #[(f x).getD z, .bool (f x).isSome]) w := by
  obtain ⟨D, h, hc⟩ := h
  obtain ⟨v, ps, hrun, hv⟩ := h.look_ok keyI hT hz (zd := .held z) (zp := []) rfl (key_mk hx)
  rw [hrun, hc.is]
  have : v = (f x).getD z := by
    simp only [valR, Option.some.injEq, Prod.mk.injEq] at hv
    cases hfx : f x with
    | none => rw [((hc x).1 hfx).2] at hv; simpa using hv.1
    | some u => rw [((hc x).2 u hfx).2] at hv; simpa using hv.1
  rw [this]
theorem Mv.look1 {T e : TypeId} (h : Mv w m k f) (hT : Try.prog.underlying T = some (.map 3 e)) {z : Value} (hz : (zeroValue e).run Try.prog w = .ok z w) {x : Int} (hx : Wf x) :
    (Instr.lookup T (.map (some m)) (.int .i64 x) false).run Try.prog w = .ok ((f x).getD z) w := by
  obtain ⟨D, h, hc⟩ := h
  obtain ⟨v, ps, hrun, hv⟩ := h.lookup keyI hT hz (zd := .held z) (zp := []) rfl (key_mk hx)
  rw [hrun]
  have : v = (f x).getD z := by
    simp only [valR, Option.some.injEq, Prod.mk.injEq] at hv
    cases hfx : f x with
    | none => rw [((hc x).1 hfx).2] at hv; simpa using hv.1
    | some u => rw [((hc x).2 u hfx).2] at hv; simpa using hv.1
  rw [this]
theorem Mv.store {T e : TypeId} (h : Mv w m k f) (hT : Try.prog.underlying T = some (.map 3 e)) (hk : k < maxLen) {x : Int} (hx : Wf x) (v : Value) :
    ∃ w', (Instr.mapUpdate T (.map (some m)) (.int .i64 x) v).run Try.prog w = .ok () w' ∧ Mv w' m (k + 1) (fun y => if y = x then some v else f y) ∧ w.grownBy w' (some m) := by
  obtain ⟨D, h, hc⟩ := h
  obtain ⟨w', hrun, h', hg⟩ := h.update keyI hT hk (val := v) (d := .held v) (ps := []) (key_mk hx) rfl
  exact ⟨w', hrun, ⟨_, h', hc.put h.isMap v⟩, hg⟩
theorem Mv.clear {T e : TypeId} (h : Mv w m k f) (hT : Try.prog.underlying T = some (.map 3 e)) (ty : TypeId) :
    ∃ w', (Builtin.clear_ #[T] ty #[.map (some m)]).run Try.prog w = .ok (.tuple #[]) w' ∧ Mv w' m 0 (fun _ => none) ∧ w.grownBy w' (some m) ∧ w'.heap.size = w.heap.size := by
  obtain ⟨D, ⟨es, clock, hb, F, hs, hD⟩, hc⟩ := h
  refine ⟨ChangeMaps.setBlock w m (.map #[] clock), ?_, ⟨.map [], ⟨#[], clock, heap_setBlock_same hb _, ⟨by simp, stamped_empty clock, by simp⟩, Nat.le_refl _, rfl⟩, Ca.empty⟩,
    ⟨rfl, rfl, rfl, by simp [ChangeMaps.setBlock], fun i _ hi => heap_setBlock_other hb _ (fun e => hi (by rw [e]))⟩, by simp [ChangeMaps.setBlock]⟩
  simp [Builtin.clear_, run_underlying hT, MapKept.run_getObj_map hb, MapKept.run_setObj_map _ hb, Result.andThen, ChangeMaps.setBlock]
end

section
variable {ops : Array Oper} {rest : List Oper} {op : Oper} {a : Act} {w : World} {Q : Exit → Act → World → Prop} {m it k : Nat} {f : Int → Option Value} {lf : Int → Bool} {cnt : Nat}
theorem wpList_look_ok (hgd : op.guard = none) (T e : TypeId) (x y : Operand) (ho : op.op = .lookup T x y true) (hT : Try.prog.underlying T = some (.map 3 e)) (z : Value) (hz : ∀ w, (zeroValue e).run Try.prog w = .ok z w)
    (h : Mv w m k f) (hx : a.eval x = .map (some m)) (p : Int) (hy : a.eval y = .int .i64 p) (hp : Wf p) (v : Value) (ok : Bool) (hv : (f p).getD z = v) (hok : (f p).isSome = ok)
    (hK : wpList Try.prog ops Q rest (a.put op.dst (.tuple #[v, .bool ok])) w) : wpList Try.prog ops Q (op :: rest) a w :=
  wpList_plain hgd fun _ hK' => by
    have hrun := h.look hT (hz w) hp
    rw [hv, hok] at hrun
    unfold Oper.wp
    simp [execOp, ho, hx, hy, hrun, Result.andThen]
    exact hK' _ _ hK
theorem wpList_put_mv (hgd : op.guard = none) (T e : TypeId) (x y v : Operand) (ho : op.op = .mapUpdate T x y v) (hT : Try.prog.underlying T = some (.map 3 e))
    (h : Mv w m k f) (hk : k < maxLen) (hx : a.eval x = .map (some m)) (p : Int) (hy : a.eval y = .int .i64 p) (hp : Wf p) (u : Value) (hv : a.eval v = u)
    (hK : ∀ w', Mv w' m (k + 1) (fun y => if y = p then some u else f y) → w.grownBy w' (some m) → wpList Try.prog ops Q rest (a.put op.dst undef) w') : wpList Try.prog ops Q (op :: rest) a w :=
  wpList_plain hgd fun _ hK' => by
    obtain ⟨w', hrun, h1, h2⟩ := h.store hT hk hp u
    unfold Oper.wp
    simp [execOp, ho, hx, hy, hv, hrun, Result.andThen]
    exact hK' _ _ (hK w' h1 h2)
theorem wpList_clear_mv (hgd : op.guard = none) (T e : TypeId) (x : Operand) (ho : op.op = .call { callee := .builtin .clear, args := #[x], argTypes := #[T] }) (hT : Try.prog.underlying T = some (.map 3 e))
    (h : Mv w m k f) (hx : a.eval x = .map (some m))
    (hK : ∀ w', Mv w' m 0 (fun _ => none) → w.grownBy w' (some m) → w'.heap.size = w.heap.size → wpList Try.prog ops Q rest (a.put op.dst (.tuple #[])) w') : wpList Try.prog ops Q (op :: rest) a w :=
  wpList_plain hgd fun _ hK' => by
    obtain ⟨w', hrun, h1, h2, h3⟩ := h.clear hT op.type
    unfold Oper.wp
    simp [execOp, ho, resolve, invoke, builtin, hx, hrun, Result.andThen]
    exact hK' _ _ (hK w' h1 h2 h3)
theorem wpList_range_mv (hgd : op.guard = none) (T e : TypeId) (x : Operand) (ho : op.op = .range T x) (hT : Try.prog.underlying T = some (.map 3 e)) (h : Mv w m k f) (hx : a.eval x = .map (some m))
    (hK : ∀ w' cnt, Rg w' m w.heap.size k f (fun x => (f x).isSome) cnt → w.grownBy w' none → w'.heap.size = w.heap.size + 1 → wpList Try.prog ops Q rest (a.put op.dst (.pointer (some ⟨w.heap.size, 0, none⟩))) w') : wpList Try.prog ops Q (op :: rest) a w := by
  obtain ⟨D, h, hc⟩ := h
  exact wpList_range_own w hgd x T ho 3 e keyI hT valR m k D hx h fun w' h1 h2 h3 => hK w' _ ⟨D, _, h1, hc, fun x => hc.is⟩ h2 h3
theorem Rg.size (h : Rg w m it k f lf cnt) : w.rangeLeft m it = cnt := by obtain ⟨_, _, h, _⟩ := h; exact h.left_eq
theorem Rg.owns (h : Rg w m it k f lf cnt) : Mv w m k f := by obtain ⟨D, _, h, hc, _⟩ := h; exact ⟨D, h.owns, hc⟩
theorem Rg.lt (h : Rg w m it k f lf cnt) : it < w.heap.size := by obtain ⟨_, _, h, _⟩ := h; exact h.lt
theorem Rg.kept {w' : World} {row : Option Nat} (h : Rg w m it k f lf cnt) (hg : w.grownBy w' row) (h1 : some m ≠ row) (h2 : some it ≠ row) : Rg w' m it k f lf cnt := by
  obtain ⟨D, left, h, r⟩ := h
  exact ⟨D, left, h.kept hg h1 h2, r⟩
theorem Rg.keep {w' : World} (h : Rg w m it k f lf cnt) (h1 : w'.heap[m]? = w.heap[m]?) (h2 : w'.heap[it]? = w.heap[it]?) : Rg w' m it k f lf cnt := by
  obtain ⟨D, left, ⟨es, clock, since, seen, c0, hb, F, hs, hD, hr, rest⟩, r⟩ := h
  exact ⟨D, left, ⟨es, clock, since, seen, c0, h1.trans hb, F, hs, hD, h2.trans hr, rest⟩, r⟩
theorem Rg.iter (h : Rg w m it k f lf cnt) : ∃ a b c d, w.heap[it]? = some (.mapIter a b c d) := by
  obtain ⟨D, left, ⟨es, clock, since, seen, c0, hb, F, hs, hD, hr, rest⟩, r⟩ := h
  exact ⟨_, _, _, _, hr⟩
theorem wpList_next_mv (hgd : op.guard = none) (x : Operand) (ho : op.op = .next x false) (h : Rg w m it k f lf cnt) (hx : a.eval x = .pointer (some ⟨it, 0, none⟩))
    (hDone : (∀ x, lf x = false) → wpList Try.prog ops Q rest (a.put op.dst (.tuple #[.bool false])) w)
    (hMore : ∀ (p : Int) (v : Value) (w' : World) (cnt' : Nat), Wf p → f p = some v → lf p = true → Rg w' m it k f (fun y => lf y && !decide (y = p)) cnt' → cnt' < cnt → w.grownBy w' (some it) → w'.heap.size = w.heap.size →
      (Instr.entry (.pointer (some ⟨it, 0, none⟩))).run Try.prog w' = .ok (.tuple #[.int .i64 p, v]) w' → wpList Try.prog ops Q rest (a.put op.dst (.tuple #[.bool true, .int .i64 p, v])) w') : wpList Try.prog ops Q (op :: rest) a w := by
  obtain ⟨D, left, h, hc, hl⟩ := h
  refine wpList_next_ranges w hgd x ho 3 keyI valR (Value.int .i64) id (fun key kl hkey => by obtain ⟨x, rfl, _⟩ := Maps.keyOf_int_inv Try.underlying3 hkey; exact ⟨x, rfl⟩) (fun v y _ => ⟨v, rfl⟩) m it k D left cnt hx h
    (fun _ h0 => hDone fun x => by rw [← hl]; exact h0 _) ?_
  intro p c kl y w' cnt' hkey hlk hR hat hrg hlt hg hs hen
  obtain ⟨p', ep, rfl, hwp⟩ := Maps.keyOf_int_inv Try.underlying3 hkey
  cases ep
  simp only [valR, id, Option.some.injEq] at hR
  subst hR
  have hf : f p = some c := by
    have hsome : (f p).isSome = true := by
      rw [← hc.is]
      cases hh : Maps.has D (.int .i64 p)
      · have h1 := Maps.atKey_of_not_has hh (.lit (.int .i64 0))
        have h2 := hat (.lit (.int .i64 0))
        rw [h1] at h2; cases h2
      · rfl
    obtain ⟨u, hu⟩ := Option.isSome_iff_exists.1 hsome
    have := ((hc p).2 u hu).2 .nil
    rw [hat .nil] at this
    simp only [DataW.held.injEq] at this
    rw [hu, this]
  refine hMore p c w' cnt' (Wf.of_wf hwp) hf (by rw [← hl]; exact hlk) ⟨D, _, hrg, hc, fun q => ?_⟩ hlt hg hs hen
  show (left (.int .i64 q) && !(Lit.int .i64 q).sameKey (.int .i64 p)) = _
  rw [hl]
  by_cases hq : q = p
  · subst hq; rw [WideAt.sameKey_self (a := .int .i64 q) trivial]; simp
  · rw [Maps.sameKey_ne (lit_ne hq)]; simp [hq]
theorem wpStill_look {Q : Act → Prop} (hgd : op.guard = none) (T e : TypeId) (x y : Operand) (ho : op.op = .lookup T x y false) (hT : Try.prog.underlying T = some (.map 3 e)) (z : Value) (hz : ∀ w, (zeroValue e).run Try.prog w = .ok z w)
    (h : Mv w m k f) (hx : a.eval x = .map (some m)) (p : Int) (hy : a.eval y = .int .i64 p) (hp : Wf p) (v : Value) (hv : (f p).getD z = v)
    (hK : wpStill Try.prog ops w Q rest (a.put op.dst v)) : wpStill Try.prog ops w Q (op :: rest) a :=
  wpStill_step fun K hK' => by
    rw [if_pos (by simp [Region.wanted, hgd])]
    have hrun := h.look1 hT (hz w) hp
    rw [hv] at hrun
    unfold Oper.still
    simp [execOp, ho, hx, hy, hrun, Result.andThen, Oper.stillUpon_value]
    exact hK' _ hK
end
end Go.Proofs.Ytahciaccnblfoaa
