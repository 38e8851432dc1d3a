/- Base Num Put Get Crc Clone -/
import Derived.Test.YtblbhhijddcbeaaGreatDoorRows
import Derived.WalkKit
import Derived.ProofKit
import Derived.OpenShut
import Derived.ShutString
import Derived.ChangeOld
import Derived.Below
import Derived.WalkSpells
import Derived.Handy
import Derived.Laws.OwnMore
import Derived.Laws.MakeOwn
import Derived.Laws.BytesArg
import Derived.Laws.BitsAllLaws
import Derived.Laws.Shifts
import Derived.Laws.NewBlocks
import Derived.Maps.AppendAt
import Derived.Deep.AppendLies
import Derived.OwnWalk
import Derived.SizedLaws
section
namespace Go.Proofs.YtblbhhijddcbeaaGreatDoor
open Go.ChangeShapes Go.WideShapes Go.ChangeAt Go.RowKit
set_option linter.unusedVariables false
set_option linter.unusedSimpArgs false
set_option maxRecDepth 100000
set_option maxHeartbeats 16000000
theorem kept {p : Prop} (h : p) : Hid p := h
theorem ret_int {k : IntKind} {a b : Int} (h : a = b) : Ending.returned (.int k a) = Ending.returned (.int k b) := by rw [h]
theorem ret_bool {a b : Bool} (h : a = b) : Ending.returned (.bool a) = Ending.returned (.bool b) := by rw [h]
def byteV (x : UInt8) : Value := .int .u8 (x.toNat : Int)
def cellsOf (xs : List UInt8) : List Value := xs.map byteV
theorem cellsOf_length (xs : List UInt8) : (cellsOf xs).length = xs.length := by simp [cellsOf]
theorem cellsOf_append (xs ys : List UInt8) : cellsOf (xs ++ ys) = cellsOf xs ++ cellsOf ys := by simp [cellsOf]
theorem cellsOf_one (xs : List UInt8) : ∀ u ∈ cellsOf xs, u.oneCell' = true := by
 intro u hu; obtain ⟨x, _, rfl⟩ := List.mem_map.1 hu; rfl
theorem cellsOf_get (xs : List UInt8) (j : Nat) (h : j < xs.length) : (cellsOf xs)[j]? = some (byteV xs[j]) := by simp [cellsOf, h]
theorem cellsOf_some {xs : List UInt8} {j : Nat} {u : Value} (h : (cellsOf xs)[j]? = some u) : ∃ hj : j < xs.length, u = byteV xs[j] := by
 have hj : j < xs.length := by
  have := (List.getElem?_eq_some_iff.1 h).1; simpa [cellsOf] using this
 refine ⟨hj, ?_⟩; rw [cellsOf_get xs j hj] at h; exact (Option.some.inj h).symm
theorem add_block (a : Addr) (n : Nat) : (a.add n).block = a.block := by unfold Addr.add; split <;> rfl
theorem add_add (a : Addr) (i j : Nat) : (a.add i).add j = a.add (i + j) := by
 unfold Addr.add; by_cases hi : i = 0 <;> by_cases hj : j = 0 <;> simp [hi, hj, Nat.add_assoc]
def Rd (w : World) (A : Option Addr) (n : Nat) (xs : List UInt8) : Prop :=
 xs.length = n ∧ (0 < n → ∃ a, A = some a ∧ ∀ j (h : j < xs.length), w.cell? (a.add j) = some (byteV xs[j]))
section
variable {w w' : World} {A : Option Addr} {n : Nat} {xs : List UInt8}
theorem Rd.nil_ (w : World) (A : Option Addr) : Rd w A 0 [] := ⟨rfl, fun h => absurd h (by omega)⟩
theorem Rd.at_ (h : Rd w A n xs) {k : Nat} (hk : k < xs.length) : ∃ a, A = some a ∧ w.cell? (a.add k) = some (.int .u8 (xs[k].toNat : Int)) := by
 obtain ⟨a, e, hc⟩ := h.2 (by have := h.1; omega); exact ⟨a, e, hc k hk⟩
theorem Rd.lt (h : Rd w A n xs) (hn : 0 < n) : ∃ a, A = some a ∧ a.block < w.heap.size := by
 obtain ⟨a, e, hc⟩ := h.2 hn; refine ⟨a, e, ?_⟩; have := World.block_lt_of_cell? w _ (hc 0 (by have := h.1; omega))
 rwa [add_block] at this
theorem Rd.keep (h : Rd w A n xs) (hk : ∀ p : Addr, p.block < w.heap.size → w'.cell? p = w.cell? p) : Rd w' A n xs := by
 refine ⟨h.1, fun hn => ?_⟩; obtain ⟨a, e, hc⟩ := h.2 hn; refine ⟨a, e, fun j hj => (hk _ ?_).trans (hc j hj)⟩; exact World.block_lt_of_cell? w _ (hc j hj)
theorem Rd.below (h : Rd w A n xs) (hb : Below w.heap.size w w') : Rd w' A n xs := h.keep fun _ hp => hb.cell hp
theorem Rd.alloc (h : Rd w A n xs) (o : Obj) : Rd (w.alloc o) A n xs := h.keep fun p hp => World.cell?_alloc_lt w o p hp
theorem Rd.drew (h : Rd w A n xs) : Rd w.drew A n xs := h
theorem Rd.cells (h : Rd w A n xs) {a : Addr} (e : A = some a) : ∀ j u, (cellsOf xs)[j]? = some u → w.cell? (a.add j) = some u := by
 intro j u hu; obtain ⟨hj, rfl⟩ := cellsOf_some hu; obtain ⟨a', e', hc⟩ := h.2 (by have := h.1; omega); rw [e] at e'; obtain rfl := Option.some.inj e'; exact hc j hj
theorem Rd.take (h : Rd w A n xs) {k : Nat} (hk : k ≤ n) : Rd w A k (xs.take k) := by
 refine ⟨by rw [List.length_take, h.1]; omega, fun hn => ?_⟩; obtain ⟨a, e, hc⟩ := h.2 (by omega); refine ⟨a, e, fun j hj => ?_⟩; rw [hc j (by rw [List.length_take] at hj; omega)]; simp
theorem Rd.drop (h : Rd w A n xs) {k : Nat} (hk : k ≤ n) : Rd w (A.map (·.add k)) (n - k) (xs.drop k) := by
 refine ⟨by rw [List.length_drop, h.1], fun hn => ?_⟩; obtain ⟨a, rfl, hc⟩ := h.2 (by omega); refine ⟨a.add k, rfl, fun j hj => ?_⟩; rw [add_add, hc (k + j) (by rw [List.length_drop] at hj; omega)]; simp
theorem Rd.cut (h : Rd w A n xs) {k c : Nat} (hk : k ≤ n) (hc : n ≤ c) : Rd w (if c = k then A else A.map (·.add k)) (n - k) (xs.drop k) := by
 by_cases hck : c = k
 · have : n = k := by omega
   subst this; have e : xs.drop n = [] := List.drop_eq_nil_of_le (by rw [h.1]; omega); rw [e, Nat.sub_self]; exact Rd.nil_ w _
 · rw [if_neg hck]; exact h.drop hk
end
theorem Rd.of_own {w : World} {base : Nat} {e : TypeId} {A : Option Addr} {n c : Nat} {xs : List UInt8} (h : w.ownsRow base e 1 (.slice A n c) n (cellsOf xs)) : Rd w A n xs := by
 have hl := h.1; rw [cellsOf_length] at hl; refine ⟨by omega, fun hn => ?_⟩; rcases h.2 with ⟨_, h0⟩ | ⟨g, cap, cur, hv, hb, hh, h1, h2, h3, h4⟩
 · omega
 · injection hv with hA _ _
   subst hA; refine ⟨_, rfl, fun j hj => ?_⟩; exact h.cells (g := g) rfl j _ (cellsOf_get xs j hj)
theorem own_cap {w : World} {base : Nat} {e : TypeId} {A : Option Addr} {n c : Nat} {xs : List Value} (h : w.ownsRow base e 1 (.slice A n c) n xs) : n ≤ c := by
 rcases h.2 with ⟨_, h0⟩ | ⟨g, cap, cur, hv, _, _, h1, _⟩
 · omega
 · injection hv with _ _ hc
   omega
theorem own_mono {w : World} {base base' : Nat} {e : TypeId} {v : Value} {n : Nat} {xs : List Value} (h : w.ownsRow base e 1 v n xs) (hb : base' ≤ base) : w.ownsRow base' e 1 v n xs := by
 refine ⟨h.1, ?_⟩; rcases h.2 with h0 | ⟨g, cap, cur, hv, hg, r⟩
 · exact .inl h0
 · exact .inr ⟨g, cap, cur, hv, Nat.le_trans hb hg, r⟩
def strOf (xs : List UInt8) : ByteArray := ⟨xs.toArray⟩
theorem strOf_toList (xs : List UInt8) : (strOf xs).toList = xs := ByteArray.toList_mk xs
theorem Rd.string {P : Program} {w : World} {A : Option Addr} {n : Nat} {xs : List UInt8} (h : Rd w A n xs) (c : Nat) (src e dst : TypeId) (hs : P.underlying src = some (.slice e)) (he : P.underlying e = some (.int .u8)) (hd : P.underlying dst = some .string) :
 (convert src dst (.slice A n c)).run P w = .ok (.string (strOf xs)) w := by
 rcases Nat.eq_zero_or_pos n with hn | hn
 · subst hn; obtain rfl : xs = [] := List.eq_nil_of_length_eq_zero h.1; rw [run_convert_bytes_string w src dst e _ 0 c hs he hd]; cases A <;> simp [Conv.bytesToString, loadCells]
   all_goals rfl
 · obtain ⟨a, rfl, hc⟩ := h.2 hn; have hl : (loadCells a n).run P w = .ok (cellsOf xs).toArray w := by
    have := run_loadCells_list (P := P) w a (cellsOf xs) (fun j v hj => h.cells rfl j v hj); simpa [cellsOf_length, h.1] using this
   have hf : (cellsOf xs).toArray = ((xs.map fun x => (x.toNat : Int)).map (Value.int .u8)).toArray := by simp [cellsOf, byteV]
   rw [hf] at hl; rw [run_convert_bytes_string w src dst e _ n c hs he hd, run_bytesToString w _ n c _ hl, foldl_push_bytes]
   congr 2
   have e : (fun n : Int => UInt8.ofNat n.toNat) ∘ (fun x : UInt8 => (x.toNat : Int)) = id := by
    funext x; simp
   simp [strOf, ByteArray.empty, ByteArray.emptyWithCapacity, e]; rfl
def Blk (w : World) (g : Nat) (t : TypeId) (cs : List Value) : Prop := w.heap[g]? = some (.cells cs.toArray t (0, 0))
section
variable {w w' : World} {g : Nat} {t : TypeId} {cs : List Value}
theorem Blk.lt (h : Blk w g t cs) : g < w.heap.size := (Array.getElem?_eq_some_iff.1 h).1
theorem Blk.cell (h : Blk w g t cs) (i : Nat) : w.cell? ⟨g, i, none⟩ = cs[i]? := by
 have := cell_of_row w g i cs.toArray t (0, 0) h; simpa using this
theorem Blk.frozen (h : Blk w g t cs) (i : Nat) : w.frozen? ⟨g, i, none⟩ = false := by
 unfold Blk at h; simp [World.frozen?, h]
theorem Blk.alloc (h : Blk w g t cs) (o : Obj) : Blk (w.alloc o) g t cs := (Below.heap_alloc w o g h.lt).trans h
theorem Blk.below {B : Nat} (h : Blk w g t cs) (hb : Below B w w') (hg : g < B) : Blk w' g t cs := (hb.block g hg).trans h
theorem Blk.far (h : Blk w g t cs) {p : Addr} (hp : g ≠ p.block) (u : Value) : Blk (w.setCell p u) g t cs := (Below.heap_setCell w p u g hp).trans h
theorem Blk.set_ (h : Blk w g t cs) (i : Nat) (u : Value) : Blk (w.setCell ⟨g, i, none⟩ u) g t (cs.set i u) := by
 unfold Blk at h ⊢; simp [World.setCell, Array.getElem?_modify, h]
theorem Blk.new (w : World) (t : TypeId) (cs : Array Value) : Blk (w.alloc (.cells cs t)) w.heap.size t cs.toList := by
 have := heap_alloc_new w (.cells cs t); simpa [Blk] using this
theorem Blk.own {xs : List UInt8} (h : Blk w g t (cellsOf xs)) {base n : Nat} (hb : base ≤ g) (hn : xs.length = n) (hm : n ≤ maxLen) : w.ownsRow base t 1 (.slice (some ⟨g, 0, none⟩) n n) n (cellsOf xs) :=
 ⟨by rw [cellsOf_length]; omega, .inr ⟨g, n, _, rfl, hb, h, Nat.le_refl _, hm, by simp [cellsOf_length]; omega, by simp [← hn, ← cellsOf_length xs]⟩⟩
end
theorem run_append_rd {P : Program} {w : World} {base : Nat} (t ty e : TypeId) {n : Nat} {xs : List UInt8} {v : Value} {A : Option Addr} {m : Nat} {ys : List UInt8}
 (ht : P.underlying t = some (.slice e)) (hinfo : (P.info? e).map (fun i => (i.zero, i.size, i.bytes)) = some (some (.int .u8 0), 1, 1)) (hown : w.ownsRow base e 1 v n (cellsOf xs)) (hr : Rd w A m ys)
 (hm : n + m ≤ 140737488355328) (hbase : base ≤ w.heap.size) (c : Nat) :
 ∃ A' c' w', (Builtin.append_ #[t, t] ty #[v, .slice A m c]).run P w = .ok (.slice A' (n + m) c') w' ∧ w'.ownsRow base e 1 (.slice A' (n + m) c') (n + m) (cellsOf (xs ++ ys)) ∧ Below base w w' := by
 obtain ⟨i, hi, hz, hsz, hby⟩ := info_parts hinfo; rcases Nat.eq_zero_or_pos m with h0 | h0
 · subst h0; obtain rfl : ys = [] := List.eq_nil_of_length_eq_zero hr.1; have hrun : (Builtin.append_ #[t, t] ty #[v, .slice A 0 c]).run P w = .ok v w := by
    rcases hown.2 with ⟨rfl, rfl⟩ | ⟨g, cap, cur, rfl, _, _, hnc, _⟩
    · cases A <;> simp [Builtin.append_, run_underlying ht, sizeOf, typeInfo, hi, Builtin.lenOf, Builtin.firstCells, loadCells, loadCellsFrom]
    · cases A <;> simp [Builtin.append_, run_underlying ht, sizeOf, typeInfo, hi, Builtin.lenOf, Builtin.firstCells, loadCells, loadCellsFrom, hnc, storeCells]
   have hv : ∃ A' c', v = .slice A' n c' := by
    rcases hown.2 with ⟨rfl, rfl⟩ | ⟨g, cap, cur, rfl, _⟩
    · exact ⟨_, _, rfl⟩
    · exact ⟨_, _, rfl⟩
   obtain ⟨A', c', rfl⟩ := hv; exact ⟨A', c', w, hrun, by simpa using hown, Below.refl _ _⟩
 · obtain ⟨a, rfl, _⟩ := hr.2 h0; obtain ⟨v', w', hrun, hown', hgrow, _⟩ := run_append_own (P := P) w base t ty e i _ 1 1 ht hi hz hsz hby rfl (by decide) v n (cellsOf xs) hown a m c (cellsOf ys) (by rw [cellsOf_length, hr.1]; omega) (hr.cells rfl) (cellsOf_one ys)
    (by unfold maxLen; omega) (by omega) hbase
   rw [← cellsOf_append] at hown'; have hv : ∃ A' c', v' = .slice A' (n + m) c' := by
    rcases hown'.2 with ⟨rfl, h⟩ | ⟨g, cap, cur, rfl, _⟩
    · omega
    · exact ⟨_, _, rfl⟩
   obtain ⟨A', c', rfl⟩ := hv; refine ⟨A', c', w', hrun, hown', ?_⟩; exact (Below.refl base w).grown hgrow hbase (fun k hk => (hown.lt k hk).1)
theorem wp_append_rd {P : Program} {w : World} {o : Oper} {a : Act} {K : Act → World → Prop} {Q : Exit → Act → World → Prop} (s x : Operand) (t : TypeId)
 (ho : o.op = .call { callee := .builtin .append, args := #[s, x], argTypes := #[t, t] })
 (base : Nat) (e : TypeId) {n : Nat} {xs : List UInt8} {v : Value} {A : Option Addr} {m c : Nat} {ys : List UInt8} (hs : a.eval s = v) (hx : a.eval x = .slice A m c)
 (ht : P.underlying t = some (.slice e)) (hinfo : (P.info? e).map (fun i => (i.zero, i.size, i.bytes)) = some (some (.int .u8 0), 1, 1)) (hown : w.ownsRow base e 1 v n (cellsOf xs)) (hr : Rd w A m ys)
 (hm : n + m ≤ 140737488355328) (hbase : base ≤ w.heap.size)
 (h : ∀ A' c' w', w'.ownsRow base e 1 (.slice A' (n + m) c') (n + m) (cellsOf (xs ++ ys)) → Below base w w' → K (a.put o.dst (.slice A' (n + m) c')) w') : o.wp P a w K Q := by
 obtain ⟨A', c', w', hrun, h2, h3⟩ := run_append_rd (P := P) t o.type e ht hinfo hown hr hm hbase c; unfold Oper.wp execOp; simp only [ho, resolve, invoke, builtin, Sem.run_bind, Sem.run_pure, Result.andThen_ok, List.map_toArray, List.map_cons, List.map_nil, hs, hx, hrun]; exact h A' c' w' h2 h3
theorem wpList_append_rd {P : Program} {w : World} {ops : Array Oper} {rest : List Oper} {o : Oper} {a : Act} {Q : Exit → Act → World → Prop} (hgd : o.guard = none) (s x : Operand) (t : TypeId)
 (ho : o.op = .call { callee := .builtin .append, args := #[s, x], argTypes := #[t, t] })
 (base : Nat) (e : TypeId) {n : Nat} {xs : List UInt8} {v : Value} {A : Option Addr} {m c : Nat} {ys : List UInt8} (hs : a.eval s = v) (hx : a.eval x = .slice A m c)
 (ht : P.underlying t = some (.slice e)) (hinfo : (P.info? e).map (fun i => (i.zero, i.size, i.bytes)) = some (some (.int .u8 0), 1, 1)) (hown : w.ownsRow base e 1 v n (cellsOf xs)) (hr : Rd w A m ys)
 (hm : n + m ≤ 140737488355328) (hbase : base ≤ w.heap.size)
 (h : ∀ A' c' w', w'.ownsRow base e 1 (.slice A' (n + m) c') (n + m) (cellsOf (xs ++ ys)) → Below base w w' → wpList P ops Q rest (a.put o.dst (.slice A' (n + m) c')) w') : wpList P ops Q (o :: rest) a w :=
 wpList_plain hgd fun _ hK => wp_append_rd s x t ho base e hs hx ht hinfo hown hr hm hbase fun A' c' w' h2 h3 => hK _ _ (h A' c' w' h2 h3)
theorem opened_bytes {H : Type} {enc : TypeId × Value → H} {P : Program} {W : World} {t e : TypeId} (ht : P.underlying t = some (.slice e)) (he : P.underlying e = some (.int .u8)) (hc : P.cellsOf e = 1)
 {A : Option Addr} {n c : Nat} {d : DataW H} {p : List MemPlace} (h : DataW.Trod enc P W 0 (fun _ => true) true t (.slice A n c) d p) :
 ∃ xs : List UInt8, Rd W A n xs ∧ n ≤ c ∧ c ≤ maxLen ∧ (n = 0 ∨ ∃ es sp, d = .slice es sp ∧ es.length = n) := by
 obtain ⟨fuel, hf⟩ := h; rcases open_ints ht he hc hf with ⟨hcs, hx⟩ | ⟨a, len', cap', zs, hcs, _, hl, hm, hz, hx, hcell, hwz⟩
 · simp [Value.cells] at hcs; obtain ⟨rfl, rfl, rfl⟩ := hcs; exact ⟨[], Rd.nil_ _ _, Nat.le_refl _, Nat.zero_le _, .inl rfl⟩
 · simp [Value.cells] at hcs; obtain ⟨rfl, rfl, rfl⟩ := hcs; simp only [Prod.mk.injEq] at hx; obtain ⟨rfl, rfl⟩ := hx; simp only [if_true] at hz; refine ⟨(zs.take n).map (fun z => UInt8.ofNat z.toNat), ⟨by simp; omega, fun _ => ⟨a, rfl, fun j hj => ?_⟩⟩, hl, hm, .inr ⟨_, _, rfl, by simp [lits]; omega⟩⟩; have hjn : j < n ∧ j < zs.length := by simp at hj; omega
   rw [hcell j hjn.2]; have hw := hwz (zs[j]'hjn.2) (List.getElem_mem _); have hr : 0 ≤ zs[j]'hjn.2 ∧ zs[j]'hjn.2 ≤ 255 := by simpa [Lit.wf, IntKind.min, IntKind.max, IntKind.signed, IntKind.bits] using hw
   simp only [byteV, List.getElem_map, List.getElem_take, UInt8.toNat_ofNat']; rw [List.getD_eq_getElem?_getD, List.getElem?_eq_getElem hjn.2]; simp only [Option.getD_some, Option.some.injEq, Value.int.injEq, true_and]; omega
theorem reach_bytes {H : Type} {P : Program} {t e : TypeId} {n : Nat} {d : DataW H} (h : n = 0 ∨ ∃ es sp, d = .slice es sp ∧ es.length = n) (_ht : P.underlying t = some (.slice e)) (hb : P.bytesOf e = 1)
 (hs : ∀ es sp, d = .slice es sp → (es.length + sp.length) * P.bytesOf e ≤ reachBytes) : n ≤ 140737488351232 := by
 rcases h with h | ⟨es, sp, hd, hl⟩
 · omega
 · have := hs es sp hd; rw [hb] at this; simp only [reachBytes] at this; omega
def be (n : Nat) : Nat → List UInt8
 | 0 => []
 | s + 1 => be (n / 256) s ++ [UInt8.ofNat n]
theorem be_length (n s : Nat) : (be n s).length = s := by
 induction s generalizing n with
 | zero => rfl
 | succ s ih => simp [be, ih]
theorem be_cons (n s : Nat) : be n (s + 1) = UInt8.ofNat (n / 256 ^ s) :: be n s := by
 induction s generalizing n with
 | zero => simp [be]
 | succ s ih =>
   rw [be, ih (n / 256), be, Nat.div_div_eq_div_mul, Nat.pow_succ, Nat.mul_comm 256]; rfl
def num : List UInt8 → Nat → Nat
 | [], acc => acc
 | x :: r, acc => num r (acc * 256 + x.toNat)
theorem num_snoc (l : List UInt8) (x : UInt8) (acc : Nat) : num (l ++ [x]) acc = num l acc * 256 + x.toNat := by
 induction l generalizing acc with
 | nil => rfl
 | cons y r ih => exact ih _
theorem num_lt (l : List UInt8) (acc : Nat) : num l acc < (acc + 1) * 256 ^ l.length := by
 induction l generalizing acc with
 | nil => simp [num]
 | cons x r ih =>
   have h := ih (acc * 256 + x.toNat); have hx := x.toNat_lt; refine Nat.lt_of_lt_of_le h ?_; rw [List.length_cons, Nat.pow_succ, Nat.mul_comm (256 ^ r.length), ← Nat.mul_assoc]; exact Nat.mul_le_mul_right _ (by omega)
theorem num_be (n s : Nat) (h : n < 256 ^ s) : num (be n s) 0 = n := by
 induction s generalizing n with
 | zero => simp at h; subst h; rfl
 | succ s ih =>
   rw [be, num_snoc, ih (n / 256) (by rw [Nat.pow_succ] at h; omega)]; simp; omega
theorem be_inj {n m s : Nat} (hn : n < 256 ^ s) (hm : m < 256 ^ s) (h : be n s = be m s) : n = m := by
 rw [← num_be n s hn, ← num_be m s hm, h]
theorem num_ge (l : List UInt8) (acc : Nat) : acc * 256 ^ l.length ≤ num l acc := by
 induction l generalizing acc with
 | nil => simp [num]
 | cons x r ih =>
   refine Nat.le_trans ?_ (ih (acc * 256 + x.toNat)); rw [List.length_cons, Nat.pow_succ, Nat.mul_comm (256 ^ r.length), ← Nat.mul_assoc]; exact Nat.mul_le_mul_right _ (by omega)
theorem be_num (l : List UInt8) (acc : Nat) : be (num l acc) l.length = l := by
 induction l generalizing acc with
 | nil => rfl
 | cons x r ih =>
   have h : num r (acc * 256 + x.toNat) / 256 ^ r.length = acc * 256 + x.toNat := by
    have h1 := num_ge r (acc * 256 + x.toNat); have h2 := num_lt r (acc * 256 + x.toNat); have hp : 0 < 256 ^ r.length := Nat.pow_pos (by omega); apply Nat.le_antisymm
    · have := (Nat.div_lt_iff_lt_mul hp).2 h2; omega
    · exact (Nat.le_div_iff_mul_le hp).2 h1
   rw [List.length_cons, num, be_cons, ih, h]
   congr 1
   apply UInt8.toNat_inj.1; simp
theorem two_pow_8 (k : Nat) : 2 ^ (8 * k) = 256 ^ k := by rw [Nat.pow_mul]
theorem u8info : (Tryz.prog.info? 5).map (fun i => (i.zero, i.size, i.bytes)) = some (some (.int .u8 0), 1, 1) := by kernel_rfl
theorem canSize_yes (s : Int) (w : World) (h1 : 1 ≤ s) (h2 : s ≤ 8) :
 Calls Tryz.prog 212 #[.int .i64 s] w fun e w' => e = .returned (.bool true) ∧ w = w' := by
 go_enter Tryz.func212, Tryz.ntmps212; go_wp2; go_ret; exact ⟨rfl, rfl⟩
def putCells (n s k : Nat) : List UInt8 := List.replicate (s - k) 0 ++ be n k
theorem putCells_length (n s k : Nat) (h : k ≤ s) : (putCells n s k).length = s := by simp [putCells, be_length]; omega
theorem putCells_next (n s k : Nat) (h : k < s) : (cellsOf (putCells n s k)).set (s - 1 - k) (byteV (UInt8.ofNat (n / 256 ^ k))) = cellsOf (putCells n s (k + 1)) := by
 have e1 : s - k = (s - (k + 1)) + 1 := by omega
 unfold putCells; rw [be_cons, e1, List.replicate_succ', cellsOf_append, cellsOf_append, cellsOf_append]; rw [show s - 1 - k = (cellsOf (List.replicate (s - (k + 1)) 0)).length by rw [cellsOf_length, List.length_replicate]; omega]; simp [cellsOf]
theorem put_ok (n s : Nat) (w : World) (h1 : 1 ≤ s) (h2 : s ≤ 8) (hn : n < 256 ^ s) :
 Calls Tryz.prog 171 #[.int .u64 (n : Int), .int .i64 (s : Int)] w fun e w' => ∃ A c, e = .returned (.tuple #[.slice A s c, .int .i64 0]) ∧ w'.ownsRow w.heap.size 5 1 (.slice A s c) s (cellsOf (be n s)) ∧ Below w.heap.size w w' := by
 have hd : ((n : Int) / 2 ^ (8 * s) != 0) = false := by
  have hd : n / 2 ^ (8 * s) = 0 := by rw [two_pow_8]; exact Nat.div_eq_of_lt hn
  have e : ((n : Int) / 2 ^ (8 * s)) = ((n / 2 ^ (8 * s) : Nat) : Int) := by simp
  rw [e, hd]; rfl
 clear hn; obtain ⟨i0, hi, hz0, hz1, hz2⟩ := info_parts u8info; have hmk : ∀ u : World, (Instr.makeSlice 46 (.int .i64 (s : Int)) (.int .i64 (s : Int))).run Tryz.prog u =
  .ok (.slice (some ⟨u.heap.size, 0, none⟩) s s) (u.alloc (.cells (madeCells #[.int .u8 0] s) 5)) := fun u => by
  have h := run_make (P := Tryz.prog) u 46 5 i0 (.int .u8 0) Tryz.underlying46 hi hz0 .i64 .i64 (s : Int) (s : Int) (by omega) (Int.le_refl _) (by rw [hz2]; omega) (by omega); simpa [hz1, Value.cells] using h
 go_enter Tryz.func171, Tryz.ntmps171; go_wp2_with (go_at_call 212; refine (canSize_yes _ _ (by omega) (by omega)).mono ?_; rintro e w' ⟨rfl, rfl⟩)
 have hb0 : Blk (w.alloc (.cells (madeCells #[.int .u8 0] s) 5)) w.heap.size 5 (cellsOf (putCells n s 0)) := by
  have := Blk.new w 5 (madeCells #[.int .u8 0] s); rw [toList_madeCells_one] at this; simpa [putCells, be, cellsOf, byteV] using this
 have hw0 : Below w.heap.size w (w.alloc (.cells (madeCells #[.int .u8 0] s) 5)) := (Below.refl _ _).alloc (Nat.le_refl _) _; go_loopw [19] (fun i wr => ∃ k : Nat, k ≤ s ∧ i = .int .i64 k ∧ Blk wr w.heap.size 5 (cellsOf (putCells n s k)) ∧ Below w.heap.size w wr) (fun i _ => s - (intOf i).toNat)
 case atStart => exact ⟨0, Nat.zero_le _, rfl, hb0, hw0⟩
 case round =>
  obtain ⟨k, hk, rfl, hb, hbw⟩ := hrel; by_cases hlt : k < s
  · have hcl : (cellsOf (putCells n s k))[s - 1 - k]? = some (byteV ((putCells n s k)[s - 1 - k]'(by rw [putCells_length n s k hk]; omega))) := cellsOf_get _ _ _; have hc : wr.cell? ⟨w.heap.size, s - 1 - k, none⟩ = some (byteV ((putCells n s k)[s - 1 - k]'(by rw [putCells_length n s k hk]; omega))) := (hb.cell _).trans hcl; have hf : wr.frozen? ⟨w.heap.size, s - 1 - k, none⟩ = false := hb.frozen _; have hv : (Value.int .u8 ((n : Int) / 2 ^ (8 * k) % 256)) = byteV (UInt8.ofNat (n / 256 ^ k)) := by
     unfold byteV; rw [UInt8.toNat_ofNat', ← two_pow_8]; simp
    have hb2 := kept ((putCells_next n s k hlt) ▸ hb.set_ (s - 1 - k) (byteV (UInt8.ofNat (n / 256 ^ k)))); have hbw2 := kept (hbw.setCell (p := ⟨w.heap.size, s - 1 - k, none⟩) (Nat.le_refl _) (byteV (UInt8.ofNat (n / 256 ^ k)))); have HV := kept hv; clear hcl hb hv; go_wp2; go_roundw
    case rel => exact ⟨k + 1, by omega, by go_num, by rw [HV.out]; exact hb2.out, by rw [HV.out]; exact hbw2.out⟩
    case measure => simp [intOf]; omega
  · have : k = s := by omega
    subst this; go_wp2; go_ret2; have hb3 : Blk wr w.heap.size 5 (cellsOf (be n k)) := by simpa [putCells] using hb
    exact ⟨_, _, rfl, hb3.own (Nat.le_refl _) (be_length _ _) (by unfold maxLen; omega), hbw⟩
theorem same_any (A B : Option Addr) (n m c d : Nat) (xs ys : List UInt8) (w : World) (h1 : Rd w A n xs) (h2 : Rd w B m ys) (b : Bool) (hb : decide (xs = ys) = b) :
 Calls Tryz.prog 20 #[.slice A n c, .slice B m d] w fun e w' => e = .returned (.bool b) ∧ w = w' := by
 have c1 := h1.string (P := Tryz.prog) c 46 5 9 Tryz.underlying46 Tryz.underlying5 Tryz.underlying9; have c2 := h2.string (P := Tryz.prog) d 46 5 9 Tryz.underlying46 Tryz.underlying5 Tryz.underlying9; have hbb : ((strOf xs).toList == (strOf ys).toList) = b := by
  rw [strOf_toList, strOf_toList, ← hb]; by_cases h : xs = ys
  · simp [h]
  · simp [h]
 clear hb h1 h2; generalize strOf xs = s1 at c1 hbb; generalize strOf ys = s2 at c2 hbb; cases b <;> (go_enter Tryz.func20, Tryz.ntmps20; go_wp2; go_ret; exact ⟨rfl, rfl⟩)
theorem holds_yes (A : Option Addr) (len c at_ n : Nat) (w : World) (hl : len ≤ 140737488355328) (h : at_ + n ≤ len) :
 Calls Tryz.prog 237 #[.slice A len c, .int .i64 (at_ : Int), .int .i64 (n : Int)] w fun e w' => e = .returned (.bool true) ∧ w = w' := by
 have h4 : decide ((n : Int) ≤ (len : Int) - (at_ : Int)) = true := by simp; omega
 go_enter Tryz.func237, Tryz.ntmps237; go_wp2; go_ret; exact ⟨rfl, rfl⟩
theorem holds_no (A : Option Addr) (len c : Nat) (at_ n : Int) (w : World) (hl : len ≤ 140737488355328) (h : at_ < 0 ∨ n < 0 ∨ len < at_ + n) (hn : n ≤ 9223372036854775807) (ha : at_ ≤ 9223372036854775807) :
 Calls Tryz.prog 237 #[.slice A len c, .int .i64 at_, .int .i64 n] w fun e w' => e = .returned (.bool false) ∧ w = w' := by
 by_cases h1 : at_ < 0
 · clear h; go_enter Tryz.func237, Tryz.ntmps237; go_wp2; go_ret; exact ⟨rfl, rfl⟩
 · by_cases h2 : n < 0
   · have h1' : 0 ≤ at_ := by omega
     have h2' : decide (0 ≤ n) = false := by simp; omega
     clear h; go_enter Tryz.func237, Tryz.ntmps237; go_wp2; go_ret; exact ⟨rfl, rfl⟩
   · have h1' : 0 ≤ at_ := by omega
     have h2' : 0 ≤ n := by omega
     have h3 : (len : Int) - at_ < n := by omega
     have h4 : decide (n ≤ (len : Int) - at_) = false := by simp; omega
     have h5 : decide (0 ≤ n) = true := by simp; omega
     clear h; go_enter Tryz.func237, Tryz.ntmps237; go_wp2; go_ret; exact ⟨rfl, rfl⟩
theorem get_short (A : Option Addr) (len c : Nat) (at_ s : Int) (w : World) (h1 : 1 ≤ s) (h2 : s ≤ 8) (hl : len ≤ 140737488355328) (h : at_ < 0 ∨ len < at_ + s) (ha : at_ ≤ 9223372036854775807) :
 Calls Tryz.prog 227 #[.slice A len c, .int .i64 at_, .int .i64 s] w fun e w' => e = .returned (.tuple #[.int .u64 0, .int .i64 3]) ∧ w = w' := by
 have HH := fun w => kept (holds_no A len c at_ s w hl (by omega) (by omega) ha)
 clear h; go_enter Tryz.func227, Tryz.ntmps227; go_wp2_with (first | (go_at_call 212; refine (canSize_yes _ _ h1 h2).mono ?_; rintro e w' ⟨rfl, rfl⟩) | (go_at_call 237; refine (HH _).out.mono ?_; rintro e w' ⟨rfl, rfl⟩))
 go_ret2; exact ⟨rfl, rfl⟩
def part (xs : List UInt8) (at_ s : Nat) : List UInt8 := (xs.drop at_).take s
theorem part_next (xs : List UInt8) (at_ k : Nat) (h : at_ + k < xs.length) : part xs at_ (k + 1) = part xs at_ k ++ [xs[at_ + k]] := by
 unfold part; rw [List.take_succ_eq_append_getElem (by rw [List.length_drop]; omega)]; simp
theorem part_length (xs : List UInt8) (at_ k : Nat) (h : at_ + k ≤ xs.length) : (part xs at_ k).length = k := by simp [part]; omega
theorem num_part_next (xs : List UInt8) (at_ k : Nat) (h : at_ + k < xs.length) : num (part xs at_ (k + 1)) 0 = num (part xs at_ k) 0 * 256 + xs[at_ + k].toNat := by
 rw [part_next xs at_ k h, num_snoc]
theorem num_part_lt (xs : List UInt8) (at_ k : Nat) (h : at_ + k ≤ xs.length) : num (part xs at_ k) 0 < 256 ^ k := by
 have := num_lt (part xs at_ k) 0
 rwa [part_length xs at_ k h, Nat.zero_add, Nat.one_mul] at this
theorem or_byte (m x : Nat) (hx : x < 2 ^ 8) (hm : m < 72057594037927936) : bits .or .u64 ((m : Int) * 256) (x : Int) = ((m * 256 + x : Nat) : Int) := by
 have h1 : ((m : Int) * 256) = ((m * 256 : Nat) : Int) := by simp
 have h2 := Nat.two_pow_add_eq_or_of_lt hx m; rw [h1, u64_or_nat (m * 256) x (by omega) (by omega)]
 congr 1
 rw [Nat.mul_comm m 256]; exact h2.symm
theorem get_ok (A : Option Addr) (len c at_ s : Nat) (xs : List UInt8) (w : World) (h1 : 1 ≤ s) (h2 : s ≤ 8) (hr : Rd w A len xs) (hl : len ≤ 140737488355328) (h : at_ + s ≤ len) :
 Calls Tryz.prog 227 #[.slice A len c, .int .i64 (at_ : Int), .int .i64 (s : Int)] w fun e w' => e = .returned (.tuple #[.int .u64 ((num (part xs at_ s) 0 : Nat) : Int), .int .i64 0]) ∧ w = w' := by
 have HX := kept hr.1; obtain ⟨a, rfl, hc⟩ := hr.2 (by omega); have HC := kept hc; clear hc hr; go_enter Tryz.func227, Tryz.ntmps227; go_wp2_with (first | (go_at_call 212; refine (canSize_yes _ _ (by omega) (by omega)).mono ?_; rintro e w' ⟨rfl, rfl⟩) | (go_at_call 237; refine (holds_yes _ _ _ _ _ _ hl h).mono ?_; rintro e w' ⟨rfl, rfl⟩))
 go_loop [8, 19] (fun v i => ∃ k : Nat, k ≤ s ∧ i = .int .i64 k ∧ v = .int .u64 ((num (part xs at_ k) 0 : Nat) : Int)) (fun _ i => s - (intOf i).toNat)
 case atStart => exact ⟨0, Nat.zero_le _, rfl, rfl⟩
 case round =>
  obtain ⟨k, hk, rfl, rfl⟩ := hrel; by_cases hlt : k < s
  · have hx := HX.out; have hcell := HC.out (at_ + k) (by omega); have hnext := kept (num_part_next xs at_ k (by omega)); have hbound := num_part_lt xs at_ k (by omega); generalize hm : num (part xs at_ k) 0 = m at hnext hbound; have hm2 : m < 72057594037927936 := Nat.lt_of_lt_of_le hbound (by
     have : 256 ^ k ≤ 256 ^ 7 := Nat.pow_le_pow_right (by omega) (by omega); exact this)
    have hbt := (xs[at_ + k]'(by omega)).toNat_lt; unfold byteV at hcell; generalize (xs[at_ + k]'(by omega)).toNat = x at hcell hnext hbt; clear hx hm hbound; go_wp2; go_round
    case rel => exact ⟨k + 1, by omega, by go_num, by rw [hnext.out, or_byte m x hbt hm2]⟩
    case measure => simp [intOf]; omega
  · obtain rfl : k = s := by omega
    go_wp2; go_ret2; exact ⟨rfl, rfl⟩
end Go.Proofs.YtblbhhijddcbeaaGreatDoor
end
section
/-
 Plain mathematics of the checksum: a register of bits, what turned bits make of it; no program is named.
-/
namespace Go.Proofs.YtblbhhijddcbeaaGreatDoor.Crc
def bit1 (c : Nat) : Nat := if c % 2 = 1 then c / 2 ^^^ 2197175160 else c / 2
def it : Nat → Nat → Nat
 | 0, c => c
 | k + 1, c => it k (bit1 c)
def crc : Nat → List UInt8 → Nat
 | c, [] => c
 | c, x :: r => crc (it 8 (c ^^^ x.toNat)) r
theorem xor4 (a b c d : Nat) : (a ^^^ b) ^^^ (c ^^^ d) = (a ^^^ c) ^^^ (b ^^^ d) := by
 rw [Nat.xor_assoc, ← Nat.xor_assoc b c d, Nat.xor_comm b c, Nat.xor_assoc c b d, ← Nat.xor_assoc]
theorem bit1_xor (a b : Nat) : bit1 (a ^^^ b) = bit1 a ^^^ bit1 b := by
 have h1 : (a ^^^ b) / 2 = a / 2 ^^^ b / 2 := Nat.xor_div_two; have h2 : (a ^^^ b) % 2 = (a + b) % 2 := by
  have e := Nat.xor_mod_two_pow (a := a) (b := b) (n := 1); rw [Nat.pow_one] at e; rw [e]; rcases Nat.mod_two_eq_zero_or_one a with ha | ha <;> rcases Nat.mod_two_eq_zero_or_one b with hb | hb <;> rw [ha, hb] <;> simp <;> omega
 unfold bit1; rw [h1, h2]; by_cases ha : a % 2 = 1 <;> by_cases hb : b % 2 = 1
 · rw [if_neg (by omega), if_pos ha, if_pos hb, xor4, Nat.xor_self, Nat.xor_zero]
 · rw [if_pos (by omega), if_pos ha, if_neg hb, Nat.xor_assoc, Nat.xor_assoc, Nat.xor_comm (b / 2)]
 · rw [if_pos (by omega), if_neg ha, if_pos hb, Nat.xor_assoc]
 · rw [if_neg (by omega), if_neg ha, if_neg hb]
theorem it_xor (k a b : Nat) : it k (a ^^^ b) = it k a ^^^ it k b := by
 induction k generalizing a b with
 | zero => rfl
 | succ k ih => simp only [it]; rw [bit1_xor, ih]
theorem it_add (j k c : Nat) : it (j + k) c = it k (it j c) := by
 induction j generalizing c with
 | zero => simp [it]
 | succ j ih => rw [Nat.succ_add]; simp only [it]; exact ih _
theorem bit1_even (c : Nat) : bit1 (2 * c) = c := by
 unfold bit1; rw [if_neg (by omega)]; omega
theorem it_shift (k c : Nat) : it k (2 ^ k * c) = c := by
 induction k with
 | zero => simp [it]
 | succ k ih => simp only [it]; rw [Nat.pow_succ, Nat.mul_comm (2 ^ k) 2, Nat.mul_assoc, bit1_even]; exact ih
theorem bit1_lt {c : Nat} (h : c < 2 ^ 32) : bit1 c < 2 ^ 32 := by
 unfold bit1; by_cases e : c % 2 = 1
 · rw [if_pos e]; exact Nat.xor_lt_two_pow (by omega) (by omega)
 · rw [if_neg e]; omega
theorem it_lt {c : Nat} (k : Nat) (h : c < 2 ^ 32) : it k c < 2 ^ 32 := by
 induction k generalizing c with
 | zero => exact h
 | succ k ih => exact ih (bit1_lt h)
theorem crc_append (c : Nat) (xs ys : List UInt8) : crc c (xs ++ ys) = crc (crc c xs) ys := by
 induction xs generalizing c with
 | nil => rfl
 | cons x r ih => exact ih _
theorem crc_lt {c : Nat} (xs : List UInt8) (h : c < 2 ^ 32) : crc c xs < 2 ^ 32 := by
 induction xs generalizing c with
 | nil => exact h
 | cons x r ih =>
   have := x.toNat_lt; exact ih (it_lt 8 (Nat.xor_lt_two_pow h (by omega)))
theorem xor_low (a b k : Nat) (h : a < 2 ^ k) : a ^^^ (2 ^ k * b) = a + 2 ^ k * b := by
 apply Nat.eq_of_testBit_eq; intro i; rw [Nat.add_comm, Nat.testBit_xor, Nat.testBit_two_pow_mul_add _ h, Nat.testBit_two_pow_mul]; by_cases hi : i < k
 · simp [hi, show ¬ k ≤ i by omega]
 · have : a.testBit i = false := Nat.testBit_lt_two_pow (Nat.lt_of_lt_of_le h (Nat.pow_le_pow_right (by omega) (by omega))); simp [hi, this, show k ≤ i by omega]
end Go.Proofs.YtblbhhijddcbeaaGreatDoor.Crc
end
section
namespace Go.Proofs.YtblbhhijddcbeaaGreatDoor
open Go.ChangeShapes Go.WideShapes Go.ChangeAt Go.RowKit
set_option linter.unusedVariables false
set_option linter.unusedSimpArgs false
set_option maxRecDepth 100000
set_option maxHeartbeats 16000000
theorem clone_any (A : Option Addr) (n c : Nat) (xs : List UInt8) (w : World) (hr : Rd w A n xs) (hl : n ≤ 140737488355328) :
 Calls Tryz.prog 228 #[.slice A n c] w fun e w' => ∃ A' c', e = .returned (.slice A' n c') ∧ w'.ownsRow w.heap.size 5 1 (.slice A' n c') n (cellsOf xs) ∧ Below w.heap.size w w' := by
 have q : ∀ (w : World) (a : Option Addr) (n c n' c' : Nat), (binOp .eql 46 (.slice a n c) (.slice none n' c')).run Tryz.prog w = .ok (.bool a.isNone) w := fun w a n c n' c' => Lib.run_eql_slice_nil w _ _ a n c n' c' Tryz.underlying46
 rcases A with _ | a
 · have hn : n = 0 := by
    rcases Nat.eq_zero_or_pos n with h | h
    · exact h
    · obtain ⟨a, e, _⟩ := hr.2 h; cases e
   subst hn; obtain rfl : xs = [] := List.eq_nil_of_length_eq_zero hr.1; clear hr; go_enter Tryz.func228, Tryz.ntmps228; go_wp2; go_ret; exact ⟨none, 0, rfl, World.ownsRow_nil _ _ _ _, Below.refl _ _⟩
 · have HO := kept (World.ownsRow_made (base := w.heap.size) (e := 5) (size := 1) w #[] 0 (Nat.le_refl _) (Nat.zero_le _) rfl); have HR := kept (hr.alloc (.cells #[] 5)); have HB := kept ((Below.refl w.heap.size w).alloc (Nat.le_refl _) (.cells #[] 5)); clear hr; go_enter Tryz.func228, Tryz.ntmps228; go_wp2_with (at_builtin; refine wpList_append_rd (xs := []) rfl _ _ 46 rfl w.heap.size 5 rfl rfl Tryz.underlying46 u8info HO.out HR.out (by omega) (by simp) ?_; intro A' c' w1 hown1 hb1; have HO1 := kept hown1; have HB1 := kept hb1; clear hown1 hb1)
   go_ret; have e : 0 + n = n := by omega
   have h1 := HO1.out; rw [List.nil_append, e] at h1; exact ⟨A', c', by simp, h1, HB.out.trans HB1.out⟩
end Go.Proofs.YtblbhhijddcbeaaGreatDoor
end
