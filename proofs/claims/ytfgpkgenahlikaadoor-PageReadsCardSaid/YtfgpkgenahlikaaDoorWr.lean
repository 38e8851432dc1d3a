/-
  The writer of package page: its block, its methods; a page's bytes.
-/
import Derived.Test.YtfgpkgenahlikaaDoorPu
import Derived.Test.YtfgpkgenahlikaaDoorReader
import Derived.Laws.CopyOwn
import Derived.Deep.WholeRow
namespace Go.Proofs.YtfgpkgenahlikaaDoor
open Go.ChangeShapes Go.WideShapes Go.ChangeAt Go.RowKit
set_option linter.unusedVariables false
set_option linter.unusedSimpArgs false

/-- Noughts up to the end. -/
def pad (xs : List UInt8) : List UInt8 := xs ++ List.replicate (252 - xs.length) 0
theorem pad_length {xs : List UInt8} (h : xs.length ≤ 252) : (pad xs).length = 252 := by simp [pad]; omega
def wrCells (xs : List UInt8) : List Value := cellsOf (pad xs) ++ [.int .i64 (xs.length : Int)]
theorem wrCells_length {xs : List UInt8} (h : xs.length ≤ 252) : (wrCells xs).length = 253 := by simp [wrCells, cellsOf_length, pad_length h]
theorem wrInfo : (Tryd.prog.info? 74).map (fun i => (i.zero, i.size)) = some (some (.agg (wrCells []).toArray), 253) := by kernel_rfl
theorem wrZ (w : World) : (zeroValue 74).run Tryd.prog w = .ok (.agg (wrCells []).toArray) w := (zero_of_info wrInfo).1 w
/-- Block b is a writer that has written xs. -/
def Wr (w : World) (b : Nat) (xs : List UInt8) : Prop := Blk w b 74 (wrCells xs) ∧ xs.length ≤ 252
section
variable {ops : Array Oper} {rest : List Oper} {op : Oper} {a : Act} {w w' : World} {Q : Exit → Act → World → Prop} {b : Nat} {xs ys : List UInt8}
theorem wpList_alloc_wr (hgd : op.guard = none) (ho : op.op = .alloc 74)
    (h : ∀ w', Wr w' w.heap.size [] → Below w.heap.size w w' → w'.heap.size = w.heap.size + 1 → wpList Tryd.prog ops Q rest (a.put op.dst (.pointer (some ⟨w.heap.size, 0, none⟩))) w') : wpList Tryd.prog ops Q (op :: rest) a w := by
  have h' := h (w.alloc (.cells (wrCells []).toArray 74)) ⟨by have := Blk.new w 74 (wrCells []).toArray; simpa using this, by simp⟩ ((Below.refl _ _).alloc (Nat.le_refl _) _) (by simp)
  refine wpList_plain hgd fun _ hK => ?_
  have hz := wrZ w
  unfold Oper.wp execOp
  simp [ho, Instr.alloc, hz, Result.andThen, newVar, newRow, Value.cells]
  exact hK _ _ h'
theorem Wr.lt (h : Wr w b xs) : b < w.heap.size := h.1.lt
theorem wrCells_last (xs : List UInt8) (h : xs.length ≤ 252) : (wrCells xs)[252]? = some (.int .i64 (xs.length : Int)) := by
  unfold wrCells
  rw [List.getElem?_append_right (by rw [cellsOf_length, pad_length h]; omega), cellsOf_length, pad_length h]
  rfl
theorem Wr.at_ (h : Wr w b xs) : w.cell? ⟨b, 252, none⟩ = some (.int .i64 (xs.length : Int)) := (h.1.cell 252).trans (wrCells_last xs h.2)
theorem Wr.below (h : Wr w b xs) (hb : Below w.heap.size w w') : Wr w' b xs := ⟨h.1.below hb h.lt, h.2⟩
theorem pad_splice (xs ys : List UInt8) (h : xs.length + ys.length ≤ 252) : (pad xs).take xs.length ++ ys ++ (pad xs).drop (xs.length + ys.length) = pad (xs ++ ys) := by
  unfold pad
  rw [List.take_append_of_le_length (Nat.le_refl _), List.take_length, List.drop_append]
  have e : List.drop (xs.length + ys.length) xs = [] := List.drop_eq_nil_of_le (by omega)
  have e2 : xs.length + ys.length - xs.length = ys.length := by omega
  rw [e, List.nil_append, e2, List.drop_replicate, List.length_append]
  congr 2
  omega
/-- copy(w.body[at:], ys), as one operation. -/
theorem copy_op {K : Act → World → Prop} {o : Oper} (d s : Operand) (ho : o.op = .call { callee := .builtin .copy, args := #[d, s], argTypes := #[25, 25] })
    {dp sp : Option Addr} {dLen dCap n sCap : Nat} (hd : a.eval d = .slice dp dLen dCap) (hs : a.eval s = .slice sp n sCap) (hw : Wr w b xs) (hr : Rd w sp n ys) (hfit : xs.length + n ≤ 252) (hdl : dLen = 252 - xs.length) (hdp : 0 < n → dp = some ⟨b, xs.length, none⟩)
    (h : ∀ w', Blk w' b 74 (cellsOf (pad (xs ++ ys)) ++ [.int .i64 (xs.length : Int)]) → Only w w' b → K (a.put o.dst (.int .i64 (n : Int))) w') : Oper.wp Tryd.prog o a w K Q := by
  have hl := hr.1
  rcases Nat.eq_zero_or_pos n with h0 | h0
  · subst h0
    obtain rfl : ys = [] := List.eq_nil_of_length_eq_zero hl
    have hrun := run_copy_none (P := Tryd.prog) w 25 25 o.type 5 dp sp dLen dCap 0 sCap Tryd.underlying25 (by kernel_rfl) (by simp)
    unfold Oper.wp
    simp [execOp, ho, resolve, invoke, builtin, hd, hs, hrun, Result.andThen]
    exact h w (by rw [List.append_nil]; exact hw.1) (Only.refl w b)
  · obtain ⟨ad, rfl, _⟩ := hr.2 h0
    obtain rfl := hdp h0
    have hrun := run_copy_row (P := Tryd.prog) w 25 25 o.type 5 b xs.length dLen dCap ad n sCap (wrCells xs).toArray 74 (cellsOf ys) Tryd.underlying25 (by kernel_rfl) hw.1 (by rw [cellsOf_length, hl, hdl]; exact (Nat.min_eq_left (by omega)).symm) (hr.cells rfl) (by rw [cellsOf_length, hl, List.size_toArray, wrCells_length hw.2]; omega) (cellsOf_one ys)
    have e : (wrCells xs).toArray.toList.take xs.length ++ cellsOf ys ++ (wrCells xs).toArray.toList.drop (xs.length + (cellsOf ys).length) = cellsOf (pad (xs ++ ys)) ++ [.int .i64 (xs.length : Int)] := by
      rw [List.toList_toArray, cellsOf_length, ← pad_splice xs ys (by omega), cellsOf_append, cellsOf_append]
      unfold wrCells
      rw [List.take_append_of_le_length (by rw [cellsOf_length, pad_length hw.2]; exact hw.2), List.drop_append_of_le_length (by rw [cellsOf_length, pad_length hw.2]; omega)]
      simp [cellsOf]
    rw [e] at hrun
    unfold Oper.wp
    simp [execOp, ho, resolve, invoke, builtin, hd, hs, hrun, Result.andThen]
    rw [cellsOf_length, hl]
    refine h _ ?_ ⟨rfl, rfl, rfl, by simp [World.setRow], fun k _ hk => setRow_other w b k _ (fun e => hk (by rw [e]))⟩
    have := setRow_heap w b (wrCells xs).toArray (cellsOf (pad (xs ++ ys)) ++ [Value.int .i64 (xs.length : Int)]).toArray 74 (0, 0) hw.1
    unfold Blk
    simpa using this
/-- The same as one step of a region that draws its order. -/
theorem step_copy {K : Act → World → Prop} {o : Oper} {E : Prop} (hgd : o.guard = none) (d s : Operand) (ho : o.op = .call { callee := .builtin .copy, args := #[d, s], argTypes := #[25, 25] })
    {dp sp : Option Addr} {dLen dCap n sCap : Nat} (hd : a.eval d = .slice dp dLen dCap) (hs : a.eval s = .slice sp n sCap) (hw : Wr w b xs) (hr : Rd w sp n ys) (hfit : xs.length + n ≤ 252) (hdl : dLen = 252 - xs.length) (hdp : 0 < n → dp = some ⟨b, xs.length, none⟩)
    (h : ∀ w', Blk w' b 74 (cellsOf (pad (xs ++ ys)) ++ [.int .i64 (xs.length : Int)]) → Only w w' b → K (a.put o.dst (.int .i64 (n : Int))) w') : if Region.wanted o (yielded ops a.tmps) = true then Oper.wp Tryd.prog o a w K Q else E := by
  rw [if_pos (by simp [Region.wanted, hgd])]
  exact copy_op d s ho hd hs hw hr hfit hdl hdp h
end
end Go.Proofs.YtfgpkgenahlikaaDoor
