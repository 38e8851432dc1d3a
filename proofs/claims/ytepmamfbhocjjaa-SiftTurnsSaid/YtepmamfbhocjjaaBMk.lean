/-
  Texts laid together: Mk.
-/
import Derived.Test.YtepmamfbhocjjaaBPart
import Derived.Test.YtepmamfbhocjjaaBBase
import Derived.Lib.AppendStr
section
/-
  Rows of bytes of the call's own beside one another: a literal that is laid and marked, a string's bytes, an append of a string's bytes.
-/
namespace Go.Proofs.Ytepmamfbhocjjaa
open Go.ChangeShapes Go.WideShapes Go.ChangeAt Go.RowKit
set_option linter.unusedVariables false

/-- Reads so, and has room. -/
def Has (w : World) (A : Option Addr) (n c : Nat) (xs : List UInt8) : Prop := Rd w A n xs ∧ n ≤ c
section
variable {w w' : World} {A : Option Addr} {n c : Nat} {xs : List UInt8}
theorem Has.keeps (h : Has w A n c xs) (k : Keeps w w') : Has w' A n c xs := ⟨h.1.keeps k, h.2⟩
theorem Has.of_own {b : Nat} (h : w.ownsRow b 5 1 (.slice A n c) n (cellsOf xs)) : Has w A n c xs := ⟨Rd.of_own h, own_cap h⟩
end
/-- A literal's row, not marked yet. -/
def Lit (w : World) (g : Nat) (C : Array Value) : Prop := w.heap[g]? = some (.cells C 5 (0, 0))
theorem Lit.new {X W : World} {C : Array Value} (h : W = X.alloc (.cells C 5)) : Lit W X.heap.size C := by rw [h]; exact heap_alloc_new X _
theorem Lit.below {W W' : World} {g : Nat} {C : Array Value} (h : Lit W g C) (hb : Below W.heap.size W W') : Lit W' g C := (hb.block g (Array.getElem?_eq_some_iff.1 h).1).trans h
theorem below_alloc {X W : World} {o : Obj} (h : W = X.alloc o) : Below X.heap.size X W := by rw [h]; exact (Below.refl _ _).alloc (Nat.le_refl _) _
theorem keeps_alloc {X W : World} {o : Obj} (h : W = X.alloc o) : Keeps X W := by rw [h]; exact Keeps.alloc _ _
/-- The run-time's mark behind a literal's row of n bytes. -/
def markL (W : World) (g n : Nat) : World := W.freeze ⟨g, n, none⟩ 1
theorem markL_size (W : World) (g n : Nat) : (markL W g n).heap.size = W.heap.size := by simp [markL, World.freeze]
theorem markL_cell (W : World) (g n : Nat) (p : Addr) : (markL W g n).cell? p = W.cell? p := by
  unfold markL World.freeze
  simp only [Nat.one_ne_zero, if_false]
  unfold World.cell?
  simp only [Array.getElem?_modify]
  by_cases h : g = p.block
  · subst h
    rw [if_pos rfl]
    cases W.heap[p.block]? with
    | none => rfl
    | some o => cases o <;> rfl
  · rw [if_neg h]
theorem markL_keeps (W : World) (g n : Nat) : Keeps W (markL W g n) := ⟨Nat.le_of_eq (markL_size W g n).symm, fun p _ => markL_cell W g n p⟩
theorem markL_below {B : Nat} (W : World) (g n : Nat) (h : B ≤ g) : Below B W (markL W g n) :=
  ⟨rfl, rfl, rfl, Nat.le_of_eq (markL_size W g n).symm, fun k hk => by
    show ((markL W g n).heap)[k]? = W.heap[k]?
    unfold markL World.freeze
    simp only [Nat.one_ne_zero, if_false, Array.getElem?_modify]
    rw [if_neg (by omega)]⟩
theorem conv_mark {W : World} {g : Nat} {C : Array Value} (h : Lit W g C) (n : Nat) (hn : C.size = n) :
    (convert 22 22 (.slice (some ⟨g, 0, none⟩) n n)).run Try.prog W = .ok (.slice (some ⟨g, 0, none⟩) n n) (markL W g n) := by
  have hsh : W.shape? g = some (5, n) := by
    unfold World.shape?
    rw [show W.heap[g]? = _ from h, ← hn]
  simp [convert, run_underlying (P := Try.prog) Try.underlying22, run_underlying (P := Try.prog) Try.underlying5, markStringish, hsh, markL]
theorem Lit.has {W : World} {g n : Nat} {xs : List UInt8} (h : Lit W g (cellsOf xs).toArray) (hn : xs.length = n) : Has W (some ⟨g, 0, none⟩) n n xs := by
  refine ⟨⟨hn, fun _ => ⟨_, rfl, fun j hj => ?_⟩⟩, Nat.le_refl _⟩
  rw [show (⟨g, 0, none⟩ : Addr).add j = ⟨g, j, none⟩ from by unfold Addr.add; split <;> simp_all, cell_of_row _ g j (cellsOf xs).toArray 5 (0, 0) h]
  simpa using cellsOf_get xs j hj
/-- []byte(s). -/
theorem conv_str (s : List UInt8) (W : World) : (convert 9 22 (.string (strOf s))).run Try.prog W = .ok (.slice (some ⟨W.heap.size, 0, none⟩) s.length (grownCap W s.length 0 5)) (Lib.bytesWorld W 5 (strOf s)) :=
  Lib.run_convert_string_bytes W _ _ _ (strOf s) Try.underlying9 Try.underlying22 Try.underlying5
theorem str_has {X W : World} {s : List UInt8} (h : W = Lib.bytesWorld X 5 (strOf s)) (hs : s.length ≤ 140737488355328) : Has W (some ⟨X.heap.size, 0, none⟩) s.length (grownCap X s.length 0 5) s := by
  subst h
  exact ⟨bytesWorld_rd X 5 (strOf s), by first | exact Nat.le_refl _ | (have := grownCap_ge X s.length 0 5; omega)⟩
theorem str_below {X W : World} {s : List UInt8} (h : W = Lib.bytesWorld X 5 (strOf s)) : Below X.heap.size X W := by rw [h]; exact bytesWorld_below_ _ _ _

/-- append(b, s...) of a string. -/
theorem wpList_append_str {w : World} {ops : Array Oper} {rest : List Oper} {o : Oper} {a : Act} {Q : Exit → Act → World → Prop} (hgd : o.guard = none) (sl x : Operand)
    (ho : o.op = .call { callee := .builtin .append, args := #[sl, x], argTypes := #[22, 9] })
    (base : Nat) {n : Nat} {xs ys : List UInt8} {A : Option Addr} {c : Nat} (hs : a.eval sl = .slice A n c) (hown : w.ownsRow base 5 1 (.slice A n c) n (cellsOf xs)) (hx : a.eval x = .string (strOf ys))
    (hm : n + ys.length ≤ 140737488351232) (hbase : base ≤ w.heap.size) (tot : Nat) (zs : List UInt8) (htot : n + ys.length = tot) (hz : xs ++ ys = zs) (h0 : 0 < tot)
    (h : ∀ A' c' w', w'.ownsRow base 5 1 (.slice A' tot c') tot (cellsOf zs) → Below base w w' → wpList Try.prog ops Q rest (a.put o.dst (.slice A' tot c')) w') : wpList Try.prog ops Q (o :: rest) a w := by
  subst htot hz
  obtain ⟨i, hi, hz0, hz1, hz2⟩ := info_parts u8info
  refine Lib.wpList_append_own_string w hgd sl x 22 9 ho base 5 i Try.underlying22 Try.underlying9 hi hz0 hz1 hz2 _ n _ hs hown (strOf ys) hx (by show n + ys.length ≤ maxLen; unfold maxLen; omega) (by show n + ys.length ≤ _; omega) hbase ?_
  intro v' w' ho' hg _
  have e : cellsOf xs ++ Lib.strCells (strOf ys) = cellsOf (xs ++ ys) := by
    rw [cellsOf_append]
    congr 1
  rw [e] at ho'
  have ho2 : w'.ownsRow base 5 1 v' (n + ys.length) (cellsOf (xs ++ ys)) := ho'
  have hv : ∃ A' c', v' = .slice A' (n + ys.length) c' := by
    rcases ho2.2 with ⟨rfl, h⟩ | ⟨g, cap, cur, rfl, _⟩
    · omega
    · exact ⟨_, _, rfl⟩
  obtain ⟨A', c', rfl⟩ := hv
  exact h A' c' w' ho2 ((Below.refl base w).grown hg hbase (fun k hk => (hown.lt k hk).1))
/-- append, with the sum and the bytes named. -/
theorem wpList_append_to {P : Program} {w : World} {ops : Array Oper} {rest : List Oper} {o : Oper} {a : Act} {Q : Exit → Act → World → Prop} (hgd : o.guard = none) (s x : Operand) (t : TypeId)
    (ho : o.op = .call { callee := .builtin .append, args := #[s, x], argTypes := #[t, t] })
    (base : Nat) (e : TypeId) {n : Nat} {xs : List UInt8} {v : Value} {A : Option Addr} {m c : Nat} {ys : List UInt8} (hs : a.eval s = v) (hx : a.eval x = .slice A m c)
    (ht : P.underlying t = some (.slice e)) (hinfo : (P.info? e).map (fun i => (i.zero, i.size, i.bytes)) = some (some (.int .u8 0), 1, 1)) (hown : w.ownsRow base e 1 v n (cellsOf xs)) (hr : Rd w A m ys)
    (hm : n + m ≤ 140737488355328) (hbase : base ≤ w.heap.size) (tot : Nat) (zs : List UInt8) (htot : n + m = tot) (hz : xs ++ ys = zs)
    (h : ∀ A' c' w', w'.ownsRow base e 1 (.slice A' tot c') tot (cellsOf zs) → Below base w w' → wpList P ops Q rest (a.put o.dst (.slice A' tot c')) w') : wpList P ops Q (o :: rest) a w := by
  subst htot hz
  exact wpList_append_rd hgd s x t ho base e hs hx ht hinfo hown hr hm hbase h
end Go.Proofs.Ytepmamfbhocjjaa
end
