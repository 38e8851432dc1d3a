/-
  Texts laid together: Base Num Put Get Na Clone Eq.
-/
import Derived.Test.YtepmamfbhocjjaaRows
import Derived.WalkKit
import Derived.ProofKit
import Derived.OpenShut
import Derived.ShutString
import Derived.ChangeOld
import Derived.Below
import Derived.WalkSpells
import Derived.Handy
import Derived.Laws.OwnMore
import Derived.Laws.MakeOwn
import Derived.Laws.BytesArg
import Derived.Laws.BitsAllLaws
import Derived.Laws.Shifts
import Derived.Laws.NewBlocks
import Derived.Maps.AppendAt
import Derived.Deep.AppendLies
import Derived.OwnWalk
import Derived.SizedLaws
section
/-
  Plain words for slices of bytes and for blocks of the call's own, over any world; no program is named. Nothing is claimed here of the Go text.
-/
namespace Go.Proofs.Ytepmamfbhocjjaa
open Go.ChangeShapes Go.WideShapes Go.ChangeAt Go.RowKit

/-- A fact kept out of the walk's sight. -/
theorem kept {p : Prop} (h : p) : Hid p := h

theorem ret_int {k : IntKind} {a b : Int} (h : a = b) : Ending.returned (.int k a) = Ending.returned (.int k b) := by rw [h]
theorem ret_bool {a b : Bool} (h : a = b) : Ending.returned (.bool a) = Ending.returned (.bool b) := by rw [h]
/-- One byte as a cell, and a row of bytes as cells. -/
def byteV (x : UInt8) : Value := .int .u8 (x.toNat : Int)
def cellsOf (xs : List UInt8) : List Value := xs.map byteV
theorem cellsOf_length (xs : List UInt8) : (cellsOf xs).length = xs.length := by simp [cellsOf]
theorem cellsOf_append (xs ys : List UInt8) : cellsOf (xs ++ ys) = cellsOf xs ++ cellsOf ys := by simp [cellsOf]
theorem cellsOf_one (xs : List UInt8) : ∀ u ∈ cellsOf xs, u.oneCell' = true := by
  intro u hu
  obtain ⟨x, _, rfl⟩ := List.mem_map.1 hu
  rfl
theorem cellsOf_get (xs : List UInt8) (j : Nat) (h : j < xs.length) : (cellsOf xs)[j]? = some (byteV xs[j]) := by simp [cellsOf, h]
theorem cellsOf_some {xs : List UInt8} {j : Nat} {u : Value} (h : (cellsOf xs)[j]? = some u) : ∃ hj : j < xs.length, u = byteV xs[j] := by
  have hj : j < xs.length := by
    have := (List.getElem?_eq_some_iff.1 h).1
    simpa [cellsOf] using this
  refine ⟨hj, ?_⟩
  rw [cellsOf_get xs j hj] at h
  exact (Option.some.inj h).symm

theorem add_block (a : Addr) (n : Nat) : (a.add n).block = a.block := by unfold Addr.add; split <;> rfl
theorem map_add_zero (p : Option Addr) : Option.map (fun x : Addr => x.add 0) p = p := by cases p <;> simp [Addr.add]
theorem add_add (a : Addr) (i j : Nat) : (a.add i).add j = a.add (i + j) := by
  unfold Addr.add
  by_cases hi : i = 0 <;> by_cases hj : j = 0 <;> simp [hi, hj, Nat.add_assoc]

/-- The slice at A of so many cells reads as these bytes. -/
def Rd (w : World) (A : Option Addr) (n : Nat) (xs : List UInt8) : Prop :=
  xs.length = n ∧ (0 < n → ∃ a, A = some a ∧ ∀ j (h : j < xs.length), w.cell? (a.add j) = some (byteV xs[j]))

section
variable {w w' : World} {A : Option Addr} {n : Nat} {xs : List UInt8}
theorem Rd.nil_ (w : World) (A : Option Addr) : Rd w A 0 [] := ⟨rfl, fun h => absurd h (by omega)⟩
theorem Rd.at_ (h : Rd w A n xs) {k : Nat} (hk : k < xs.length) : ∃ a, A = some a ∧ w.cell? (a.add k) = some (.int .u8 (xs[k].toNat : Int)) := by
  obtain ⟨a, e, hc⟩ := h.2 (by have := h.1; omega)
  exact ⟨a, e, hc k hk⟩
theorem Rd.lt (h : Rd w A n xs) (hn : 0 < n) : ∃ a, A = some a ∧ a.block < w.heap.size := by
  obtain ⟨a, e, hc⟩ := h.2 hn
  refine ⟨a, e, ?_⟩
  have := World.block_lt_of_cell? w _ (hc 0 (by have := h.1; omega))
  rwa [add_block] at this
theorem Rd.keep (h : Rd w A n xs) (hk : ∀ p : Addr, p.block < w.heap.size → w'.cell? p = w.cell? p) : Rd w' A n xs := by
  refine ⟨h.1, fun hn => ?_⟩
  obtain ⟨a, e, hc⟩ := h.2 hn
  refine ⟨a, e, fun j hj => (hk _ ?_).trans (hc j hj)⟩
  exact World.block_lt_of_cell? w _ (hc j hj)
theorem Rd.below (h : Rd w A n xs) (hb : Below w.heap.size w w') : Rd w' A n xs := h.keep fun _ hp => hb.cell hp
theorem Rd.alloc (h : Rd w A n xs) (o : Obj) : Rd (w.alloc o) A n xs := h.keep fun p hp => World.cell?_alloc_lt w o p hp
theorem Rd.drew (h : Rd w A n xs) : Rd w.drew A n xs := h
theorem Rd.cells (h : Rd w A n xs) {a : Addr} (e : A = some a) : ∀ j u, (cellsOf xs)[j]? = some u → w.cell? (a.add j) = some u := by
  intro j u hu
  obtain ⟨hj, rfl⟩ := cellsOf_some hu
  obtain ⟨a', e', hc⟩ := h.2 (by have := h.1; omega)
  rw [e] at e'
  obtain rfl := Option.some.inj e'
  exact hc j hj
theorem Rd.take (h : Rd w A n xs) {k : Nat} (hk : k ≤ n) : Rd w A k (xs.take k) := by
  refine ⟨by rw [List.length_take, h.1]; omega, fun hn => ?_⟩
  obtain ⟨a, e, hc⟩ := h.2 (by omega)
  refine ⟨a, e, fun j hj => ?_⟩
  rw [hc j (by rw [List.length_take] at hj; omega)]
  simp
theorem Rd.drop (h : Rd w A n xs) {k : Nat} (hk : k ≤ n) : Rd w (A.map (·.add k)) (n - k) (xs.drop k) := by
  refine ⟨by rw [List.length_drop, h.1], fun hn => ?_⟩
  obtain ⟨a, rfl, hc⟩ := h.2 (by omega)
  refine ⟨a.add k, rfl, fun j hj => ?_⟩
  rw [add_add, hc (k + j) (by rw [List.length_drop] at hj; omega)]
  simp
theorem Rd.cut (h : Rd w A n xs) {k c : Nat} (hk : k ≤ n) (hc : n ≤ c) : Rd w (if c = k then A else A.map (·.add k)) (n - k) (xs.drop k) := by
  by_cases hck : c = k
  · have : n = k := by omega
    subst this
    have e : xs.drop n = [] := List.drop_eq_nil_of_le (by rw [h.1]; omega)
    rw [e, Nat.sub_self]
    exact Rd.nil_ w _
  · rw [if_neg hck]; exact h.drop hk
theorem Rd.uniq {ys : List UInt8} (h : Rd w A n xs) (h' : Rd w A n ys) : xs = ys := by
  apply List.ext_getElem (by rw [h.1, h'.1])
  intro i h1 h2
  obtain ⟨a, e, hc⟩ := h.at_ h1
  obtain ⟨a', e', hc'⟩ := h'.at_ h2
  rw [e] at e'
  obtain rfl := Option.some.inj e'
  rw [hc] at hc'
  simp only [Option.some.injEq, Value.int.injEq, true_and] at hc'
  exact UInt8.toNat_inj.1 (by omega)
end

/-- A slice of the call's own reads so. -/
theorem Rd.of_own {w : World} {base : Nat} {e : TypeId} {A : Option Addr} {n c : Nat} {xs : List UInt8} (h : w.ownsRow base e 1 (.slice A n c) n (cellsOf xs)) : Rd w A n xs := by
  have hl := h.1
  rw [cellsOf_length] at hl
  refine ⟨by omega, fun hn => ?_⟩
  rcases h.2 with ⟨_, h0⟩ | ⟨g, cap, cur, hv, hb, hh, h1, h2, h3, h4⟩
  · omega
  · injection hv with hA _ _
    subst hA
    refine ⟨_, rfl, fun j hj => ?_⟩
    exact h.cells (g := g) rfl j _ (cellsOf_get xs j hj)

theorem own_cap {w : World} {base : Nat} {e : TypeId} {A : Option Addr} {n c : Nat} {xs : List Value} (h : w.ownsRow base e 1 (.slice A n c) n xs) : n ≤ c := by
  rcases h.2 with ⟨_, h0⟩ | ⟨g, cap, cur, hv, _, _, h1, _⟩
  · omega
  · injection hv with _ _ hc
    omega

theorem own_mono {w : World} {base base' : Nat} {e : TypeId} {v : Value} {n : Nat} {xs : List Value} (h : w.ownsRow base e 1 v n xs) (hb : base' ≤ base) : w.ownsRow base' e 1 v n xs := by
  refine ⟨h.1, ?_⟩
  rcases h.2 with h0 | ⟨g, cap, cur, hv, hg, r⟩
  · exact .inl h0
  · exact .inr ⟨g, cap, cur, hv, Nat.le_trans hb hg, r⟩
theorem own_stays {w w' : World} {base : Nat} {e : TypeId} {A : Option Addr} {n c : Nat} {xs : List Value} (h : w.ownsRow base e 1 (.slice A n c) n xs) (hb : Below w.heap.size w w') : w'.ownsRow base e 1 (.slice A n c) n xs := by
  refine h.kept (row := none) ⟨hb.os, hb.tape, hb.output, hb.size, fun i hi _ => hb.block i hi⟩ ?_
  cases A
  · exact .inl rfl
  · exact .inr (by simp [Value.ownBlock])

/-- string(b) of a slice that reads so. -/
def strOf (xs : List UInt8) : ByteArray := ⟨xs.toArray⟩
theorem strOf_eq {xs ys : List UInt8} : strOf xs = strOf ys ↔ xs = ys := by
  constructor
  · intro h; injection h with h; simpa using h
  · rintro rfl; rfl
theorem strOf_toList (xs : List UInt8) : (strOf xs).toList = xs := ByteArray.toList_mk xs
theorem Rd.string {P : Program} {w : World} {A : Option Addr} {n : Nat} {xs : List UInt8} (h : Rd w A n xs) (c : Nat) (src e dst : TypeId) (hs : P.underlying src = some (.slice e)) (he : P.underlying e = some (.int .u8)) (hd : P.underlying dst = some .string) :
    (convert src dst (.slice A n c)).run P w = .ok (.string (strOf xs)) w := by
  rcases Nat.eq_zero_or_pos n with hn | hn
  · subst hn
    obtain rfl : xs = [] := List.eq_nil_of_length_eq_zero h.1
    rw [run_convert_bytes_string w src dst e _ 0 c hs he hd]
    cases A <;> simp [Conv.bytesToString, loadCells]
    all_goals rfl
  · obtain ⟨a, rfl, hc⟩ := h.2 hn
    have hl : (loadCells a n).run P w = .ok (cellsOf xs).toArray w := by
      have := run_loadCells_list (P := P) w a (cellsOf xs) (fun j v hj => h.cells rfl j v hj)
      simpa [cellsOf_length, h.1] using this
    have hf : (cellsOf xs).toArray = ((xs.map fun x => (x.toNat : Int)).map (Value.int .u8)).toArray := by simp [cellsOf, byteV]
    rw [hf] at hl
    rw [run_convert_bytes_string w src dst e _ n c hs he hd, run_bytesToString w _ n c _ hl, foldl_push_bytes]
    congr 2
    have e : (fun n : Int => UInt8.ofNat n.toNat) ∘ (fun x : UInt8 => (x.toNat : Int)) = id := by
      funext x; simp
    simp [strOf, ByteArray.empty, ByteArray.emptyWithCapacity, e]
    rfl

/-- A block that is known whole. -/
def Blk (w : World) (g : Nat) (t : TypeId) (cs : List Value) : Prop := w.heap[g]? = some (.cells cs.toArray t (0, 0))
section
variable {w w' : World} {g : Nat} {t : TypeId} {cs : List Value}
theorem Blk.lt (h : Blk w g t cs) : g < w.heap.size := (Array.getElem?_eq_some_iff.1 h).1
theorem Blk.cell (h : Blk w g t cs) (i : Nat) : w.cell? ⟨g, i, none⟩ = cs[i]? := by
  have := cell_of_row w g i cs.toArray t (0, 0) h
  simpa using this
theorem Blk.frozen (h : Blk w g t cs) (i : Nat) : w.frozen? ⟨g, i, none⟩ = false := by
  unfold Blk at h
  simp [World.frozen?, h]
theorem Blk.alloc (h : Blk w g t cs) (o : Obj) : Blk (w.alloc o) g t cs := (Below.heap_alloc w o g h.lt).trans h
theorem Blk.below {B : Nat} (h : Blk w g t cs) (hb : Below B w w') (hg : g < B) : Blk w' g t cs := (hb.block g hg).trans h
theorem Blk.far (h : Blk w g t cs) {p : Addr} (hp : g ≠ p.block) (u : Value) : Blk (w.setCell p u) g t cs := (Below.heap_setCell w p u g hp).trans h
theorem Blk.set_ (h : Blk w g t cs) (i : Nat) (u : Value) : Blk (w.setCell ⟨g, i, none⟩ u) g t (cs.set i u) := by
  unfold Blk at h ⊢
  simp [World.setCell, Array.getElem?_modify, h]
theorem Blk.new (w : World) (t : TypeId) (cs : Array Value) : Blk (w.alloc (.cells cs t)) w.heap.size t cs.toList := by
  have := heap_alloc_new w (.cells cs t)
  simpa [Blk] using this
theorem Blk.own {xs : List UInt8} (h : Blk w g t (cellsOf xs)) {base n : Nat} (hb : base ≤ g) (hn : xs.length = n) (hm : n ≤ maxLen) : w.ownsRow base t 1 (.slice (some ⟨g, 0, none⟩) n n) n (cellsOf xs) :=
  ⟨by rw [cellsOf_length]; omega, .inr ⟨g, n, _, rfl, hb, h, Nat.le_refl _, hm, by simp [cellsOf_length]; omega, by simp [← hn, ← cellsOf_length xs]⟩⟩
end

/-- append(v, s...) where v is the call's own and s reads as ys. -/
theorem run_append_rd {P : Program} {w : World} {base : Nat} (t ty e : TypeId) {n : Nat} {xs : List UInt8} {v : Value} {A : Option Addr} {m : Nat} {ys : List UInt8}
    (ht : P.underlying t = some (.slice e)) (hinfo : (P.info? e).map (fun i => (i.zero, i.size, i.bytes)) = some (some (.int .u8 0), 1, 1)) (hown : w.ownsRow base e 1 v n (cellsOf xs)) (hr : Rd w A m ys)
    (hm : n + m ≤ 140737488355328) (hbase : base ≤ w.heap.size) (c : Nat) :
    ∃ A' c' w', (Builtin.append_ #[t, t] ty #[v, .slice A m c]).run P w = .ok (.slice A' (n + m) c') w' ∧ w'.ownsRow base e 1 (.slice A' (n + m) c') (n + m) (cellsOf (xs ++ ys)) ∧ Below base w w' := by
  obtain ⟨i, hi, hz, hsz, hby⟩ := info_parts hinfo
  rcases Nat.eq_zero_or_pos m with h0 | h0
  · subst h0
    obtain rfl : ys = [] := List.eq_nil_of_length_eq_zero hr.1
    have hrun : (Builtin.append_ #[t, t] ty #[v, .slice A 0 c]).run P w = .ok v w := by
      rcases hown.2 with ⟨rfl, rfl⟩ | ⟨g, cap, cur, rfl, _, _, hnc, _⟩
      · cases A <;> simp [Builtin.append_, run_underlying ht, sizeOf, typeInfo, hi, Builtin.lenOf, Builtin.firstCells, loadCells, loadCellsFrom]
      · cases A <;> simp [Builtin.append_, run_underlying ht, sizeOf, typeInfo, hi, Builtin.lenOf, Builtin.firstCells, loadCells, loadCellsFrom, hnc, storeCells]
    have hv : ∃ A' c', v = .slice A' n c' := by
      rcases hown.2 with ⟨rfl, rfl⟩ | ⟨g, cap, cur, rfl, _⟩
      · exact ⟨_, _, rfl⟩
      · exact ⟨_, _, rfl⟩
    obtain ⟨A', c', rfl⟩ := hv
    exact ⟨A', c', w, hrun, by simpa using hown, Below.refl _ _⟩
  · obtain ⟨a, rfl, _⟩ := hr.2 h0
    obtain ⟨v', w', hrun, hown', hgrow, _⟩ := run_append_own (P := P) w base t ty e i _ 1 1 ht hi hz hsz hby rfl (by decide) v n (cellsOf xs) hown a m c (cellsOf ys) (by rw [cellsOf_length, hr.1]; omega) (hr.cells rfl) (cellsOf_one ys)
      (by unfold maxLen; omega) (by omega) hbase
    rw [← cellsOf_append] at hown'
    have hv : ∃ A' c', v' = .slice A' (n + m) c' := by
      rcases hown'.2 with ⟨rfl, h⟩ | ⟨g, cap, cur, rfl, _⟩
      · omega
      · exact ⟨_, _, rfl⟩
    obtain ⟨A', c', rfl⟩ := hv
    refine ⟨A', c', w', hrun, hown', ?_⟩
    exact (Below.refl base w).grown hgrow hbase (fun k hk => (hown.lt k hk).1)

theorem wp_append_rd {P : Program} {w : World} {o : Oper} {a : Act} {K : Act → World → Prop} {Q : Exit → Act → World → Prop} (s x : Operand) (t : TypeId)
    (ho : o.op = .call { callee := .builtin .append, args := #[s, x], argTypes := #[t, t] })
    (base : Nat) (e : TypeId) {n : Nat} {xs : List UInt8} {v : Value} {A : Option Addr} {m c : Nat} {ys : List UInt8} (hs : a.eval s = v) (hx : a.eval x = .slice A m c)
    (ht : P.underlying t = some (.slice e)) (hinfo : (P.info? e).map (fun i => (i.zero, i.size, i.bytes)) = some (some (.int .u8 0), 1, 1)) (hown : w.ownsRow base e 1 v n (cellsOf xs)) (hr : Rd w A m ys)
    (hm : n + m ≤ 140737488355328) (hbase : base ≤ w.heap.size)
    (h : ∀ A' c' w', w'.ownsRow base e 1 (.slice A' (n + m) c') (n + m) (cellsOf (xs ++ ys)) → Below base w w' → K (a.put o.dst (.slice A' (n + m) c')) w') : o.wp P a w K Q := by
  obtain ⟨A', c', w', hrun, h2, h3⟩ := run_append_rd (P := P) t o.type e ht hinfo hown hr hm hbase c
  unfold Oper.wp execOp
  simp only [ho, resolve, invoke, builtin, Sem.run_bind, Sem.run_pure, Result.andThen_ok, List.map_toArray, List.map_cons, List.map_nil, hs, hx, hrun]
  exact h A' c' w' h2 h3

theorem wpList_append_rd {P : Program} {w : World} {ops : Array Oper} {rest : List Oper} {o : Oper} {a : Act} {Q : Exit → Act → World → Prop} (hgd : o.guard = none) (s x : Operand) (t : TypeId)
    (ho : o.op = .call { callee := .builtin .append, args := #[s, x], argTypes := #[t, t] })
    (base : Nat) (e : TypeId) {n : Nat} {xs : List UInt8} {v : Value} {A : Option Addr} {m c : Nat} {ys : List UInt8} (hs : a.eval s = v) (hx : a.eval x = .slice A m c)
    (ht : P.underlying t = some (.slice e)) (hinfo : (P.info? e).map (fun i => (i.zero, i.size, i.bytes)) = some (some (.int .u8 0), 1, 1)) (hown : w.ownsRow base e 1 v n (cellsOf xs)) (hr : Rd w A m ys)
    (hm : n + m ≤ 140737488355328) (hbase : base ≤ w.heap.size)
    (h : ∀ A' c' w', w'.ownsRow base e 1 (.slice A' (n + m) c') (n + m) (cellsOf (xs ++ ys)) → Below base w w' → wpList P ops Q rest (a.put o.dst (.slice A' (n + m) c')) w') : wpList P ops Q (o :: rest) a w :=
  wpList_plain hgd fun _ hK => wp_append_rd s x t ho base e hs hx ht hinfo hown hr hm hbase fun A' c' w' h2 h3 => hK _ _ (h A' c' w' h2 h3)

/-- An argument of type []byte, opened, nil or not, in one word. -/
theorem opened_bytes {H : Type} {enc : TypeId × Value → H} {P : Program} {W : World} {t e : TypeId} (ht : P.underlying t = some (.slice e)) (he : P.underlying e = some (.int .u8)) (hc : P.cellsOf e = 1)
    {A : Option Addr} {n c : Nat} {d : DataW H} {p : List MemPlace} (h : DataW.Trod enc P W 0 (fun _ => true) true t (.slice A n c) d p) :
    ∃ xs : List UInt8, Rd W A n xs ∧ n ≤ c ∧ c ≤ maxLen ∧ (n = 0 ∨ ∃ es sp, d = .slice es sp ∧ es.length = n) := by
  obtain ⟨fuel, hf⟩ := h
  rcases open_ints ht he hc hf with ⟨hcs, hx⟩ | ⟨a, len', cap', zs, hcs, _, hl, hm, hz, hx, hcell, hwz⟩
  · simp [Value.cells] at hcs
    obtain ⟨rfl, rfl, rfl⟩ := hcs
    exact ⟨[], Rd.nil_ _ _, Nat.le_refl _, Nat.zero_le _, .inl rfl⟩
  · simp [Value.cells] at hcs
    obtain ⟨rfl, rfl, rfl⟩ := hcs
    simp only [Prod.mk.injEq] at hx
    obtain ⟨rfl, rfl⟩ := hx
    simp only [if_true] at hz
    refine ⟨(zs.take n).map (fun z => UInt8.ofNat z.toNat), ⟨by simp; omega, fun _ => ⟨a, rfl, fun j hj => ?_⟩⟩, hl, hm, .inr ⟨_, _, rfl, by simp [lits]; omega⟩⟩
    have hjn : j < n ∧ j < zs.length := by simp at hj; omega
    rw [hcell j hjn.2]
    have hw := hwz (zs[j]'hjn.2) (List.getElem_mem _)
    have hr : 0 ≤ zs[j]'hjn.2 ∧ zs[j]'hjn.2 ≤ 255 := by simpa [Lit.wf, IntKind.min, IntKind.max, IntKind.signed, IntKind.bits] using hw
    simp only [byteV, List.getElem_map, List.getElem_take, UInt8.toNat_ofNat']
    rw [List.getD_eq_getElem?_getD, List.getElem?_eq_getElem hjn.2]
    simp only [Option.getD_some, Option.some.injEq, Value.int.injEq, true_and]
    omega
/-- The form's own reach, for a slice of bytes. -/
theorem reach_bytes {H : Type} {P : Program} {t e : TypeId} {n : Nat} {d : DataW H} (h : n = 0 ∨ ∃ es sp, d = .slice es sp ∧ es.length = n) (_ht : P.underlying t = some (.slice e)) (hb : P.bytesOf e = 1)
    (hs : ∀ es sp, d = .slice es sp → (es.length + sp.length) * P.bytesOf e ≤ reachBytes) : n ≤ 140737488351232 := by
  rcases h with h | ⟨es, sp, hd, hl⟩
  · omega
  · have := hs es sp hd
    rw [hb] at this
    simp only [reachBytes] at this
    omega
end Go.Proofs.Ytepmamfbhocjjaa
end

section
/-
  Plain mathematics of numbers as bytes, highest byte first: no program is named.
-/
namespace Go.Proofs.Ytepmamfbhocjjaa

/-- The last s bytes of n, the highest one first. -/
def be (n : Nat) : Nat → List UInt8
  | 0 => []
  | s + 1 => be (n / 256) s ++ [UInt8.ofNat n]
theorem be_length (n s : Nat) : (be n s).length = s := by
  induction s generalizing n with
  | zero => rfl
  | succ s ih => simp [be, ih]
/-- From the front: one byte more is the next higher one. -/
theorem be_cons (n s : Nat) : be n (s + 1) = UInt8.ofNat (n / 256 ^ s) :: be n s := by
  induction s generalizing n with
  | zero => simp [be]
  | succ s ih =>
    rw [be, ih (n / 256), be, Nat.div_div_eq_div_mul, Nat.pow_succ, Nat.mul_comm 256]
    rfl
/-- The number of a row of bytes. -/
def num : List UInt8 → Nat → Nat
  | [], acc => acc
  | x :: r, acc => num r (acc * 256 + x.toNat)
theorem num_snoc (l : List UInt8) (x : UInt8) (acc : Nat) : num (l ++ [x]) acc = num l acc * 256 + x.toNat := by
  induction l generalizing acc with
  | nil => rfl
  | cons y r ih => exact ih _
theorem num_lt (l : List UInt8) (acc : Nat) : num l acc < (acc + 1) * 256 ^ l.length := by
  induction l generalizing acc with
  | nil => simp [num]
  | cons x r ih =>
    have h := ih (acc * 256 + x.toNat)
    have hx := x.toNat_lt
    refine Nat.lt_of_lt_of_le h ?_
    rw [List.length_cons, Nat.pow_succ, Nat.mul_comm (256 ^ r.length), ← Nat.mul_assoc]
    exact Nat.mul_le_mul_right _ (by omega)
theorem num_be (n s : Nat) (h : n < 256 ^ s) : num (be n s) 0 = n := by
  induction s generalizing n with
  | zero => simp at h; subst h; rfl
  | succ s ih =>
    rw [be, num_snoc, ih (n / 256) (by rw [Nat.pow_succ] at h; omega)]
    simp
    omega
theorem be_inj {n m s : Nat} (hn : n < 256 ^ s) (hm : m < 256 ^ s) (h : be n s = be m s) : n = m := by
  rw [← num_be n s hn, ← num_be m s hm, h]
theorem num_ge (l : List UInt8) (acc : Nat) : acc * 256 ^ l.length ≤ num l acc := by
  induction l generalizing acc with
  | nil => simp [num]
  | cons x r ih =>
    refine Nat.le_trans ?_ (ih (acc * 256 + x.toNat))
    rw [List.length_cons, Nat.pow_succ, Nat.mul_comm (256 ^ r.length), ← Nat.mul_assoc]
    exact Nat.mul_le_mul_right _ (by omega)
theorem be_num (l : List UInt8) (acc : Nat) : be (num l acc) l.length = l := by
  induction l generalizing acc with
  | nil => rfl
  | cons x r ih =>
    have h : num r (acc * 256 + x.toNat) / 256 ^ r.length = acc * 256 + x.toNat := by
      have h1 := num_ge r (acc * 256 + x.toNat)
      have h2 := num_lt r (acc * 256 + x.toNat)
      have hp : 0 < 256 ^ r.length := Nat.pow_pos (by omega)
      apply Nat.le_antisymm
      · have := (Nat.div_lt_iff_lt_mul hp).2 h2
        omega
      · exact (Nat.le_div_iff_mul_le hp).2 h1
    rw [List.length_cons, num, be_cons, ih, h]
    congr 1
    apply UInt8.toNat_inj.1
    simp
theorem ofNat_mod (n : Nat) : UInt8.ofNat (n % 256) = UInt8.ofNat n := by
  apply UInt8.toNat_inj.1; simp
theorem div_pow_succ (n k : Nat) : n / 256 ^ k / 256 = n / 256 ^ (k + 1) := by
  rw [Nat.div_div_eq_div_mul, Nat.pow_succ]
theorem two_pow_8 (k : Nat) : 2 ^ (8 * k) = 256 ^ k := by rw [Nat.pow_mul]
end Go.Proofs.Ytepmamfbhocjjaa
end

section
/-
  What octets.Put, its helpers and the document's own Put, Fits and Same answer, call by call.
-/
namespace Go.Proofs.Ytepmamfbhocjjaa
open Go.ChangeShapes Go.WideShapes Go.ChangeAt Go.RowKit

theorem u8info : (Try.prog.info? 5).map (fun i => (i.zero, i.size, i.bytes)) = some (some (.int .u8 0), 1, 1) := by kernel_rfl

/-- What stands in the new row after k rounds. -/
def putCells (n s k : Nat) : List UInt8 := List.replicate (s - k) 0 ++ be n k
theorem putCells_length (n s k : Nat) (h : k ≤ s) : (putCells n s k).length = s := by simp [putCells, be_length]; omega
theorem putCells_next (n s k : Nat) (h : k < s) : (cellsOf (putCells n s k)).set (s - 1 - k) (byteV (UInt8.ofNat (n / 256 ^ k))) = cellsOf (putCells n s (k + 1)) := by
  have e1 : s - k = (s - (k + 1)) + 1 := by omega
  unfold putCells
  rw [be_cons, e1, List.replicate_succ', cellsOf_append, cellsOf_append, cellsOf_append]
  rw [show s - 1 - k = (cellsOf (List.replicate (s - (k + 1)) 0)).length by rw [cellsOf_length, List.length_replicate]; omega]
  simp [cellsOf]

/-- Same: two slices of bytes as texts. -/
theorem same_any (A B : Option Addr) (n m c d : Nat) (xs ys : List UInt8) (w : World) (h1 : Rd w A n xs) (h2 : Rd w B m ys) (b : Bool) (hb : decide (xs = ys) = b) :
    Calls Try.prog 15 #[.slice A n c, .slice B m d] w fun e w' => e = .returned (.bool b) ∧ w = w' := by
  have c1 := h1.string (P := Try.prog) c 22 5 9 Try.underlying22 Try.underlying5 Try.underlying9
  have c2 := h2.string (P := Try.prog) d 22 5 9 Try.underlying22 Try.underlying5 Try.underlying9
  have hbb : ((strOf xs).toList == (strOf ys).toList) = b := by
    rw [strOf_toList, strOf_toList, ← hb]
    by_cases h : xs = ys
    · simp [h]
    · simp [h]
  clear hb h1 h2
  generalize strOf xs = s1 at c1 hbb
  generalize strOf ys = s2 at c2 hbb
  cases b <;> (go_enter Try.func15, Try.ntmps15; go_wp2; go_ret; exact ⟨rfl, rfl⟩)
end Go.Proofs.Ytepmamfbhocjjaa
end

section
/-
  What octets.Get, its helper holds, the document's own Get and Twin answer, call by call.
-/
namespace Go.Proofs.Ytepmamfbhocjjaa
open Go.ChangeShapes Go.WideShapes Go.ChangeAt Go.RowKit
set_option linter.unusedVariables false

/-- The bytes that stand from a place on. -/
def part (xs : List UInt8) (at_ s : Nat) : List UInt8 := (xs.drop at_).take s
theorem part_next (xs : List UInt8) (at_ k : Nat) (h : at_ + k < xs.length) : part xs at_ (k + 1) = part xs at_ k ++ [xs[at_ + k]] := by
  unfold part
  rw [List.take_succ_eq_append_getElem (by rw [List.length_drop]; omega)]
  simp
theorem part_length (xs : List UInt8) (at_ k : Nat) (h : at_ + k ≤ xs.length) : (part xs at_ k).length = k := by simp [part]; omega
theorem num_part_next (xs : List UInt8) (at_ k : Nat) (h : at_ + k < xs.length) : num (part xs at_ (k + 1)) 0 = num (part xs at_ k) 0 * 256 + xs[at_ + k].toNat := by
  rw [part_next xs at_ k h, num_snoc]
theorem num_part_lt (xs : List UInt8) (at_ k : Nat) (h : at_ + k ≤ xs.length) : num (part xs at_ k) 0 < 256 ^ k := by
  have := num_lt (part xs at_ k) 0
  rwa [part_length xs at_ k h, Nat.zero_add, Nat.one_mul] at this

theorem or_byte (m x : Nat) (hx : x < 2 ^ 8) (hm : m < 72057594037927936) : bits .or .u64 ((m : Int) * 256) (x : Int) = ((m * 256 + x : Nat) : Int) := by
  have h1 : ((m : Int) * 256) = ((m * 256 : Nat) : Int) := by simp
  have h2 := Nat.two_pow_add_eq_or_of_lt hx m
  rw [h1, u64_or_nat (m * 256) x (by omega) (by omega)]
  congr 1
  rw [Nat.mul_comm m 256]
  exact h2.symm

end Go.Proofs.Ytepmamfbhocjjaa
end

section
/-
  A record as plain data: what is right, its bytes, a tombstone's; a reader's Text as plain data; what was read is what was written. No program is named.
-/
namespace Go.Proofs.Ytepmamfbhocjjaa
open Go.ChangeShapes Go.WideShapes Go.ChangeAt Go.RowKit
set_option linter.unusedVariables false

/-- A record: key, value, Create, Mod, Version, Lease. -/
structure Kv where
  key : List UInt8
  val : List UInt8
  c : Int
  m : Int
  v : Int
  l : Int
deriving DecidableEq
def zeroKv : Kv := ⟨[], [], 0, 0, 0, 0⟩
def keyB (n : Nat) : Bool := decide (1 ≤ n) && decide (n ≤ 64)
def withinB (n least : Int) : Bool := decide (least ≤ n) && decide (n ≤ 4611686018427387904)
def rightV (x : Kv) : Bool := keyB x.key.length && decide (x.val.length ≤ 1024) && withinB x.c 1 && withinB x.m x.c && withinB x.v 1 && withinB x.l 0
def textB (b : List UInt8) : List UInt8 := be b.length 2 ++ b
def headB (kind : Nat) (k : List UInt8) : List UInt8 := be kind 1 ++ textB k
def numsB (c m v l : Nat) : List UInt8 := be c 8 ++ (be m 8 ++ (be v 8 ++ be l 8))
def kvB (x : Kv) : List UInt8 := headB 1 x.key ++ (numsB x.c.toNat x.m.toNat x.v.toNat x.l.toNat ++ textB x.val)
theorem textB_length (b : List UInt8) : (textB b).length = 2 + b.length := by simp [textB, be_length]
theorem headB_length (k : Nat) (b : List UInt8) : (headB k b).length = 3 + b.length := by simp [headB, be_length, textB_length]; omega
theorem numsB_length (c m v l : Nat) : (numsB c m v l).length = 32 := by simp [numsB, be_length]
theorem kvB_length (x : Kv) : (kvB x).length = 37 + (x.key.length + x.val.length) := by simp [kvB, headB_length, numsB_length, textB_length]; omega
/-- The numbers of a right record are natural ones. -/
theorem rightV_nat {x : Kv} (h : rightV x = true) : ∃ c m v l : Nat, x = ⟨x.key, x.val, c, m, v, l⟩ ∧ c ≤ 4611686018427387904 ∧ m ≤ 4611686018427387904 ∧ v ≤ 4611686018427387904 ∧ l ≤ 4611686018427387904 ∧ 1 ≤ x.key.length ∧ x.key.length ≤ 64 ∧ x.val.length ≤ 1024 := by
  obtain ⟨k, b, c, m, v, l⟩ := x
  simp only [rightV, keyB, withinB, Bool.and_eq_true, decide_eq_true_eq] at h
  obtain ⟨⟨⟨⟨⟨⟨h1, h2⟩, h3⟩, h4, h5⟩, h6, h7⟩, h8, h9⟩, h10, h11⟩ := h
  refine ⟨c.toNat, m.toNat, v.toNat, l.toNat, ?_, by omega, by omega, by omega, by omega, h1, h2, h3⟩
  congr 1 <;> omega

/-! ### reading -/
/-- A reader's Num and Text, from any state (place, error). -/
def rnumX (xs : List UInt8) (k : Nat) (s : Nat × Int) : Nat × (Nat × Int) := if s.2 ≠ 0 then (0, s) else if s.1 + k ≤ xs.length then (num (part xs s.1 k) 0, (s.1 + k, 0)) else (0, (s.1, 3))
def rtextX (xs : List UInt8) (most : Nat) (s : Nat × Int) : List UInt8 × (Nat × Int) :=
  if s.2 ≠ 0 then ([], s) else if s.1 + 2 ≤ xs.length then (if num (part xs s.1 2) 0 ≤ most then (if s.1 + 2 + num (part xs s.1 2) 0 ≤ xs.length then (part xs (s.1 + 2) (num (part xs s.1 2) 0), (s.1 + 2 + num (part xs s.1 2) 0, 0)) else ([], (s.1, 3))) else ([], (s.1, 5))) else ([], (s.1, 3))
/-- Where nothing went wrong, these bytes were read. -/
def Ate (xs : List UInt8) (s : Nat × Int) (ys : List UInt8) : Prop := s.2 = 0 → xs.take s.1 = ys
theorem take_part (xs : List UInt8) (p k : Nat) : xs.take (p + k) = xs.take p ++ part xs p k := by
  unfold part
  rw [List.take_add]
theorem be_part {xs : List UInt8} {p k : Nat} (h : p + k ≤ xs.length) : be (num (part xs p k) 0) k = part xs p k := by
  have := be_num (part xs p k) 0
  rwa [part_length _ _ _ h] at this
section
variable {xs ys zs : List UInt8} {s : Nat × Int} {k most p n : Nat}
theorem rnumX_lt : (rnumX xs k s).1 < 256 ^ k := by
  unfold rnumX
  split
  · exact Nat.pow_pos (by omega)
  · split
    · exact num_part_lt _ _ _ ‹_›
    · exact Nat.pow_pos (by omega)
theorem rnumX_le (h : s.1 ≤ xs.length) : (rnumX xs k s).2.1 ≤ xs.length := by
  unfold rnumX
  split
  · exact h
  · split
    · assumption
    · exact h
theorem rtextX_le (h : s.1 ≤ xs.length) : (rtextX xs most s).2.1 ≤ xs.length := by
  unfold rtextX
  repeat' split
  all_goals first | exact h | assumption
theorem rtextX_len : (rtextX xs most s).1.length ≤ most := by
  unfold rtextX
  repeat' split
  all_goals first | exact Nat.zero_le _ | (show (part _ _ _).length ≤ _; rw [part_length _ _ _ (by assumption)]; assumption)
theorem rnumX_ate (h : Ate xs s ys) : Ate xs (rnumX xs k s).2 (ys ++ be (rnumX xs k s).1 k) := by
  unfold rnumX
  split
  · next e => intro h0; exact absurd h0 e
  · next e =>
    split
    · next hk => intro _; rw [take_part, h (by simpa using e), be_part hk]
    · intro h0; simp at h0
theorem rtextX_ate (h : Ate xs s ys) : Ate xs (rtextX xs most s).2 (ys ++ textB (rtextX xs most s).1) := by
  unfold rtextX
  split
  · next e => intro h0; exact absurd h0 e
  · next e =>
    split
    · next h2 =>
      split
      · next hm =>
        split
        · next hk =>
          intro _
          have hl := part_length xs (s.1 + 2) (num (part xs s.1 2) 0) hk
          show xs.take (s.1 + 2 + num (part xs s.1 2) 0) = ys ++ textB (part xs (s.1 + 2) (num (part xs s.1 2) 0))
          unfold textB
          rw [hl, be_part h2, take_part, take_part, h (by simpa using e), List.append_assoc]
        · intro h0; simp at h0
      · intro h0; simp at h0
    · intro h0; simp at h0
theorem part_at3 (a b c : List UInt8) {p k : Nat} (hp : a.length = p) (hk : b.length = k) : part (a ++ (b ++ c)) p k = b := by
  unfold part
  rw [List.drop_left' hp, List.take_left' hk]
theorem rnumX_of (e : xs = ys ++ (be n k ++ zs)) (hp : ys.length = p) (hn : n < 256 ^ k) : rnumX xs k (p, 0) = (n, (p + k, 0)) := by
  have hl : p + k ≤ xs.length := by rw [e]; simp [be_length]; omega
  simp only [rnumX, ne_eq, not_true_eq_false, if_false, hl, if_true]
  rw [e, part_at3 _ _ _ hp (be_length _ _), num_be _ _ hn]
theorem rtextX_of {b : List UInt8} (e : xs = ys ++ (textB b ++ zs)) (hp : ys.length = p) (hb : b.length ≤ most) (hm : most ≤ 65535) : rtextX xs most (p, 0) = (b, (p + 2 + b.length, 0)) := by
  have hl : p + 2 ≤ xs.length := by rw [e]; simp [textB, be_length]; omega
  have hl2 : p + 2 + b.length ≤ xs.length := by rw [e]; simp [textB, be_length]; omega
  have h1 : num (part xs p 2) 0 = b.length := by
    rw [e, textB, List.append_assoc, part_at3 _ _ _ hp (be_length _ _), num_be _ _ (by omega)]
  have h2 : part xs (p + 2) b.length = b := by
    rw [e, textB, List.append_assoc, ← List.append_assoc]
    exact part_at3 _ _ _ (by simp [be_length]; omega) rfl
  simp only [rtextX, ne_eq, not_true_eq_false, if_false, hl, if_true, h1, hb, hl2, h2]
end
/-- What a Decode reads, one thing behind the other. -/
def pK (xs : List UInt8) := rnumX xs 1 (0, 0)
def pT (xs : List UInt8) := rtextX xs 64 (pK xs).2
def p1 (xs : List UInt8) := rnumX xs 8 (pT xs).2
def p2 (xs : List UInt8) := rnumX xs 8 (p1 xs).2
def p3 (xs : List UInt8) := rnumX xs 8 (p2 xs).2
def p4 (xs : List UInt8) := rnumX xs 8 (p3 xs).2
def pV (xs : List UInt8) := rtextX xs 1024 (p4 xs).2
theorem pK_le (xs : List UInt8) : (pK xs).2.1 ≤ xs.length := rnumX_le (Nat.zero_le _)
theorem pT_le (xs : List UInt8) : (pT xs).2.1 ≤ xs.length := rtextX_le (pK_le xs)
theorem pV_le (xs : List UInt8) : (pV xs).2.1 ≤ xs.length := rtextX_le (rnumX_le (rnumX_le (rnumX_le (rnumX_le (pT_le xs)))))
theorem head_ate (xs : List UInt8) : Ate xs (pT xs).2 (headB (pK xs).1 (pT xs).1) := by
  have h1 : Ate xs (0, 0) [] := fun _ => rfl
  have h2 := rnumX_ate (k := 1) h1
  exact rtextX_ate (most := 64) h2
theorem all_ate (xs : List UInt8) : Ate xs (pV xs).2 (headB (pK xs).1 (pT xs).1 ++ (numsB (p1 xs).1 (p2 xs).1 (p3 xs).1 (p4 xs).1 ++ textB (pV xs).1)) := by
  have h := rtextX_ate (most := 1024) (rnumX_ate (k := 8) (rnumX_ate (k := 8) (rnumX_ate (k := 8) (rnumX_ate (k := 8) (head_ate xs)))))
  simp only [numsB, List.append_assoc] at h ⊢
  exact h
/-- Read to the end, without an error. -/
def Done (xs : List UInt8) (s : Nat × Int) : Prop := s.2 = 0 ∧ ¬ s.1 < xs.length
theorem Ate.done {xs ys : List UInt8} {s : Nat × Int} (h : Ate xs s ys) (hd : Done xs s) : xs = ys := by
  rw [← h hd.1, List.take_of_length_le (Nat.le_of_not_lt hd.2)]
theorem parse_head (xs : List UInt8) (kind : Nat) (k zs : List UInt8) (hk : kind < 256) (hl : k.length ≤ 64) (e : xs = headB kind k ++ zs) : (pK xs).1 = kind ∧ (pT xs).1 = k ∧ (pT xs).2 = (3 + k.length, 0) := by
  have h1 : pK xs = (kind, (1, 0)) := by
    have := rnumX_of (xs := xs) (ys := []) (zs := textB k ++ zs) (n := kind) (k := 1) (p := 0) (by rw [e]; simp [headB]) rfl (by simpa using hk)
    simpa [pK] using this
  have h2 : pT xs = (k, (3 + k.length, 0)) := by
    have := rtextX_of (xs := xs) (ys := be kind 1) (zs := zs) (b := k) (most := 64) (p := 1) (by rw [e]; simp [headB]) (be_length _ _) hl (by omega)
    simpa [pT, h1] using this
  exact ⟨by rw [h1], by rw [h2], by rw [h2]⟩
theorem parse_tomb {xs k : List UInt8} (hl : k.length ≤ 64) (e : xs = headB 2 k) : (pK xs).1 = 2 ∧ (pT xs).1 = k ∧ Done xs (pT xs).2 := by
  obtain ⟨a, b, c⟩ := parse_head xs 2 k [] (by omega) hl (by rw [e, List.append_nil])
  refine ⟨a, b, ?_⟩
  rw [c]
  exact ⟨rfl, by rw [e, headB_length]; simp⟩
theorem parse_kv {xs k b : List UInt8} {c m v l : Nat} (hk : k.length ≤ 64) (hb : b.length ≤ 1024) (hc : c ≤ 4611686018427387904) (hm : m ≤ 4611686018427387904) (hv : v ≤ 4611686018427387904) (hl : l ≤ 4611686018427387904) (e : xs = headB 1 k ++ (numsB c m v l ++ textB b)) :
    (pK xs).1 = 1 ∧ (pT xs).1 = k ∧ (p1 xs).1 = c ∧ (p2 xs).1 = m ∧ (p3 xs).1 = v ∧ (p4 xs).1 = l ∧ (pV xs).1 = b ∧ Done xs (pV xs).2 := by
  obtain ⟨h0, h1, h2⟩ := parse_head xs 1 k _ (by omega) hk e
  have hh := headB_length 1 k
  have q1 : p1 xs = (c, (3 + k.length + 8, 0)) := by
    unfold p1
    rw [h2]
    exact rnumX_of (ys := headB 1 k) (zs := be m 8 ++ (be v 8 ++ (be l 8 ++ textB b))) (by rw [e]; simp [numsB]) hh (by omega)
  have q2 : p2 xs = (m, (3 + k.length + 8 + 8, 0)) := by
    unfold p2
    rw [q1]
    exact rnumX_of (ys := headB 1 k ++ be c 8) (zs := be v 8 ++ (be l 8 ++ textB b)) (by rw [e]; simp [numsB]) (by simp [hh, be_length]) (by omega)
  have q3 : p3 xs = (v, (3 + k.length + 8 + 8 + 8, 0)) := by
    unfold p3
    rw [q2]
    exact rnumX_of (ys := headB 1 k ++ (be c 8 ++ be m 8)) (zs := be l 8 ++ textB b) (by rw [e]; simp [numsB]) (by simp [hh, be_length] <;> omega) (by omega)
  have q4 : p4 xs = (l, (3 + k.length + 8 + 8 + 8 + 8, 0)) := by
    unfold p4
    rw [q3]
    exact rnumX_of (ys := headB 1 k ++ (be c 8 ++ (be m 8 ++ be v 8))) (zs := textB b) (by rw [e]; simp [numsB]) (by simp [hh, be_length] <;> omega) (by omega)
  have q5 : pV xs = (b, (3 + k.length + 8 + 8 + 8 + 8 + 2 + b.length, 0)) := by
    unfold pV
    rw [q4]
    exact rtextX_of (ys := headB 1 k ++ (be c 8 ++ (be m 8 ++ (be v 8 ++ be l 8)))) (zs := []) (by rw [e]; simp [numsB]) (by simp [hh, be_length] <;> omega) hb (by omega)
  refine ⟨h0, h1, by rw [q1], by rw [q2], by rw [q3], by rw [q4], by rw [q5], ?_⟩
  rw [q5]
  refine ⟨rfl, ?_⟩
  rw [e]
  simp [headB_length, numsB_length, textB_length]
  omega
theorem kvB_nat (k b : List UInt8) (c m v l : Nat) : kvB ⟨k, b, c, m, v, l⟩ = headB 1 k ++ (numsB c m v l ++ textB b) := by simp [kvB]
theorem kvB_inj {x y : Kv} (hx : rightV x = true) (hy : rightV y = true) (h : kvB x = kvB y) : x = y := by
  obtain ⟨c, m, v, l, e, h1, h2, h3, h4, h5, h6, h7⟩ := rightV_nat hx
  obtain ⟨c', m', v', l', e', g1, g2, g3, g4, g5, g6, g7⟩ := rightV_nat hy
  rw [e, e', kvB_nat, kvB_nat] at h
  obtain ⟨_, a1, a2, a3, a4, a5, a6, _⟩ := parse_kv h6 h7 h1 h2 h3 h4 rfl
  obtain ⟨_, b1, b2, b3, b4, b5, b6, _⟩ := parse_kv g6 g7 g1 g2 g3 g4 h
  rw [e, e']
  congr 1
  · rw [← a1, ← b1]
  · rw [← a6, ← b6]
  · rw [← a2, ← b2]
  · rw [← a3, ← b3]
  · rw [← a4, ← b4]
  · rw [← a5, ← b5]
theorem headB_inj {k k' : List UInt8} (h1 : k.length ≤ 64) (h2 : k'.length ≤ 64) (h : headB 2 k = headB 2 k') : k = k' := by
  rw [← (parse_tomb h1 rfl).2.1, ← (parse_tomb h2 h).2.1]
theorem kv_no_tomb {x : Kv} {k : List UInt8} : kvB x ≠ headB 2 k := by
  intro h
  have := congrArg (fun l => l.head?) h
  simp [kvB, headB, be] at this
/-- Whether these bytes are a record's or a tombstone's, and whose. -/
def IsDec (xs : List UInt8) (x : Kv) (t ok : Bool) : Prop :=
  (ok = true ∧ t = false ∧ rightV x = true ∧ xs = kvB x) ∨ (ok = true ∧ t = true ∧ keyB x.key.length = true ∧ x = ⟨x.key, [], 0, 0, 0, 0⟩ ∧ xs = headB 2 x.key) ∨
  (ok = false ∧ t = false ∧ x = zeroKv ∧ (∀ y, rightV y = true → xs ≠ kvB y) ∧ ∀ k : List UInt8, keyB k.length = true → xs ≠ headB 2 k)
theorem keyB_le {n : Nat} (h : keyB n = true) : n ≤ 64 := by simp [keyB] at h; omega
theorem IsDec.only {xs : List UInt8} {x y : Kv} {t u o q : Bool} (h : IsDec xs x t o) (g : IsDec xs y u q) : x = y ∧ t = u ∧ o = q := by
  rcases h with ⟨rfl, rfl, h1, h2⟩ | ⟨rfl, rfl, h1, h2, h3⟩ | ⟨rfl, rfl, rfl, h1, h2⟩ <;> rcases g with ⟨rfl, rfl, g1, g2⟩ | ⟨rfl, rfl, g1, g2, g3⟩ | ⟨rfl, rfl, rfl, g1, g2⟩
  · exact ⟨kvB_inj h1 g1 (h2.symm.trans g2), rfl, rfl⟩
  · exact absurd (h2.symm.trans g3) kv_no_tomb
  · exact absurd h2 (g1 _ h1)
  · exact absurd (g2.symm.trans h3) kv_no_tomb
  · have := headB_inj (keyB_le h1) (keyB_le g1) (h3.symm.trans g3)
    exact ⟨by rw [h2, g2, this], rfl, rfl⟩
  · exact absurd h3 (g2 _ h1)
  · exact absurd g2 (h1 _ g1)
  · exact absurd g3 (h2 _ g1)
  · exact ⟨rfl, rfl, rfl⟩
end Go.Proofs.Ytepmamfbhocjjaa
end

section
/-
  What the library's bytes.Clone answers: the same bytes in memory of their own, or nil of nil.
-/
namespace Go.Proofs.Ytepmamfbhocjjaa
open Go.ChangeShapes Go.WideShapes Go.ChangeAt Go.RowKit
set_option linter.unusedVariables false

theorem clone_any (A : Option Addr) (n c : Nat) (xs : List UInt8) (w : World) (hr : Rd w A n xs) (hl : n ≤ 140737488355328) :
    Calls Try.prog 29 #[.slice A n c] w fun e w' => ∃ A' c', e = .returned (.slice A' n c') ∧ w'.ownsRow w.heap.size 5 1 (.slice A' n c') n (cellsOf xs) ∧ Below w.heap.size w w' := by
  have q : ∀ (w : World) (a : Option Addr) (n c n' c' : Nat), (binOp .eql 22 (.slice a n c) (.slice none n' c')).run Try.prog w = .ok (.bool a.isNone) w := fun w a n c n' c' => Lib.run_eql_slice_nil w _ _ a n c n' c' Try.underlying22
  rcases A with _ | a
  · have hn : n = 0 := by
      rcases Nat.eq_zero_or_pos n with h | h
      · exact h
      · obtain ⟨a, e, _⟩ := hr.2 h
        cases e
    subst hn
    obtain rfl : xs = [] := List.eq_nil_of_length_eq_zero hr.1
    clear hr
    go_enter Try.func29, Try.ntmps29
    go_wp2
    go_ret
    exact ⟨none, 0, rfl, World.ownsRow_nil _ _ _ _, Below.refl _ _⟩
  · have HO := kept (World.ownsRow_made (base := w.heap.size) (e := 5) (size := 1) w #[] 0 (Nat.le_refl _) (Nat.zero_le _) rfl)
    have HR := kept (hr.alloc (.cells #[] 5))
    have HB := kept ((Below.refl w.heap.size w).alloc (Nat.le_refl _) (.cells #[] 5))
    clear hr
    go_enter Try.func29, Try.ntmps29
    go_wp2_with (at_builtin; refine wpList_append_rd (xs := []) rfl _ _ 22 rfl w.heap.size 5 rfl rfl Try.underlying22 u8info HO.out HR.out (by omega) (by simp) ?_; intro A' c' w1 hown1 hb1; have HO1 := kept hown1; have HB1 := kept hb1; clear hown1 hb1)
    go_ret
    have e : 0 + n = n := by omega
    have h1 := HO1.out
    rw [List.nil_append, e] at h1
    exact ⟨A', c', by simp, h1, HB.out.trans HB1.out⟩
end Go.Proofs.Ytepmamfbhocjjaa
end

section
/-
  What the library's bytes.Equal answers.
-/
namespace Go.Proofs.Ytepmamfbhocjjaa
open Go.ChangeShapes Go.WideShapes Go.ChangeAt Go.RowKit
end Go.Proofs.Ytepmamfbhocjjaa
end
