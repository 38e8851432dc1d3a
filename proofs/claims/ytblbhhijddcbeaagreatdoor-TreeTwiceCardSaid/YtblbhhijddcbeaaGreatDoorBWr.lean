/- Wr Wb Wi Wt En Lv Of Rk Rl -/
import Derived.Test.YtblbhhijddcbeaaGreatDoorBPh
import Derived.Test.YtblbhhijddcbeaaGreatDoorBCmp
import Derived.Laws.CopyOwn
import Derived.Deep.WholeRow
import Derived.Test.YtblbhhijddcbeaaGreatDoorBHnd
import Derived.Test.YtblbhhijddcbeaaGreatDoorBReader2
import Derived.Test.YtblbhhijddcbeaaGreatDoorBPg
section
namespace Go.Proofs.YtblbhhijddcbeaaGreatDoor
open Go.ChangeShapes Go.WideShapes Go.ChangeAt Go.RowKit
set_option linter.unusedVariables false
set_option linter.unusedSimpArgs false
set_option maxRecDepth 100000
set_option maxHeartbeats 16000000
def pad (xs : List UInt8) : List UInt8 := xs ++ List.replicate (252 - xs.length) 0
theorem pad_length {xs : List UInt8} (h : xs.length ≤ 252) : (pad xs).length = 252 := by simp [pad]; omega
def wrCells (xs : List UInt8) : List Value := cellsOf (pad xs) ++ [.int .i64 (xs.length : Int)]
theorem wrCells_length {xs : List UInt8} (h : xs.length ≤ 252) : (wrCells xs).length = 253 := by simp [wrCells, cellsOf_length, pad_length h]
theorem wrInfo : (Tryz.prog.info? 238).map (fun i => (i.zero, i.size)) = some (some (.agg (wrCells []).toArray), 253) := by kernel_rfl
theorem wrZ (w : World) : (zeroValue 238).run Tryz.prog w = .ok (.agg (wrCells []).toArray) w := (zero_of_info wrInfo).1 w
def Wr (w : World) (b : Nat) (xs : List UInt8) : Prop := Blk w b 238 (wrCells xs) ∧ xs.length ≤ 252
section
variable {ops : Array Oper} {rest : List Oper} {op : Oper} {a : Act} {w w' : World} {Q : Exit → Act → World → Prop} {b : Nat} {xs ys : List UInt8}
theorem wpList_alloc_wr (hgd : op.guard = none) (ho : op.op = .alloc 238)
 (h : ∀ w', Wr w' w.heap.size [] → Below w.heap.size w w' → w'.heap.size = w.heap.size + 1 → wpList Tryz.prog ops Q rest (a.put op.dst (.pointer (some ⟨w.heap.size, 0, none⟩))) w') : wpList Tryz.prog ops Q (op :: rest) a w := by
 have h' := h (w.alloc (.cells (wrCells []).toArray 238)) ⟨by have := Blk.new w 238 (wrCells []).toArray; simpa using this, by simp⟩ ((Below.refl _ _).alloc (Nat.le_refl _) _) (by simp); refine wpList_plain hgd fun _ hK => ?_
 have hz := wrZ w; unfold Oper.wp execOp; simp [ho, Instr.alloc, hz, Result.andThen, newVar, newRow, Value.cells]; exact hK _ _ h'
theorem Wr.lt (h : Wr w b xs) : b < w.heap.size := h.1.lt
theorem wrCells_last (xs : List UInt8) (h : xs.length ≤ 252) : (wrCells xs)[252]? = some (.int .i64 (xs.length : Int)) := by
 unfold wrCells; rw [List.getElem?_append_right (by rw [cellsOf_length, pad_length h]; omega), cellsOf_length, pad_length h]; rfl
theorem Wr.at_ (h : Wr w b xs) : w.cell? ⟨b, 252, none⟩ = some (.int .i64 (xs.length : Int)) := (h.1.cell 252).trans (wrCells_last xs h.2)
theorem Wr.below (h : Wr w b xs) (hb : Below w.heap.size w w') : Wr w' b xs := ⟨h.1.below hb h.lt, h.2⟩
theorem pad_splice (xs ys : List UInt8) (h : xs.length + ys.length ≤ 252) : (pad xs).take xs.length ++ ys ++ (pad xs).drop (xs.length + ys.length) = pad (xs ++ ys) := by
 unfold pad; rw [List.take_append_of_le_length (Nat.le_refl _), List.take_length, List.drop_append]; have e : List.drop (xs.length + ys.length) xs = [] := List.drop_eq_nil_of_le (by omega); have e2 : xs.length + ys.length - xs.length = ys.length := by omega
 rw [e, List.nil_append, e2, List.drop_replicate, List.length_append]
 congr 2
 omega
theorem copy_op {K : Act → World → Prop} {o : Oper} (d s : Operand) (ho : o.op = .call { callee := .builtin .copy, args := #[d, s], argTypes := #[46, 46] })
 {dp sp : Option Addr} {dLen dCap n sCap : Nat} (hd : a.eval d = .slice dp dLen dCap) (hs : a.eval s = .slice sp n sCap) (hw : Wr w b xs) (hr : Rd w sp n ys) (hfit : xs.length + n ≤ 252) (hdl : dLen = 252 - xs.length) (hdp : 0 < n → dp = some ⟨b, xs.length, none⟩)
 (h : ∀ w', Blk w' b 238 (cellsOf (pad (xs ++ ys)) ++ [.int .i64 (xs.length : Int)]) → Only w w' b → K (a.put o.dst (.int .i64 (n : Int))) w') : Oper.wp Tryz.prog o a w K Q := by
 have hl := hr.1; rcases Nat.eq_zero_or_pos n with h0 | h0
 · subst h0; obtain rfl : ys = [] := List.eq_nil_of_length_eq_zero hl; have hrun := run_copy_none (P := Tryz.prog) w 46 46 o.type 5 dp sp dLen dCap 0 sCap Tryz.underlying46 (by kernel_rfl) (by simp); unfold Oper.wp; simp [execOp, ho, resolve, invoke, builtin, hd, hs, hrun, Result.andThen]; exact h w (by rw [List.append_nil]; exact hw.1) (Only.refl w b)
 · obtain ⟨ad, rfl, _⟩ := hr.2 h0; obtain rfl := hdp h0; have hrun := run_copy_row (P := Tryz.prog) w 46 46 o.type 5 b xs.length dLen dCap ad n sCap (wrCells xs).toArray 238 (cellsOf ys) Tryz.underlying46 (by kernel_rfl) hw.1 (by rw [cellsOf_length, hl, hdl]; exact (Nat.min_eq_left (by omega)).symm) (hr.cells rfl) (by rw [cellsOf_length, hl, List.size_toArray, wrCells_length hw.2]; omega) (cellsOf_one ys); have e : (wrCells xs).toArray.toList.take xs.length ++ cellsOf ys ++ (wrCells xs).toArray.toList.drop (xs.length + (cellsOf ys).length) = cellsOf (pad (xs ++ ys)) ++ [.int .i64 (xs.length : Int)] := by
    rw [List.toList_toArray, cellsOf_length, ← pad_splice xs ys (by omega), cellsOf_append, cellsOf_append]; unfold wrCells; rw [List.take_append_of_le_length (by rw [cellsOf_length, pad_length hw.2]; exact hw.2), List.drop_append_of_le_length (by rw [cellsOf_length, pad_length hw.2]; omega)]; simp [cellsOf]
   rw [e] at hrun; unfold Oper.wp; simp [execOp, ho, resolve, invoke, builtin, hd, hs, hrun, Result.andThen]; rw [cellsOf_length, hl]; refine h _ ?_ ⟨rfl, rfl, rfl, by simp [World.setRow], fun k _ hk => setRow_other w b k _ (fun e => hk (by rw [e]))⟩; have := setRow_heap w b (wrCells xs).toArray (cellsOf (pad (xs ++ ys)) ++ [Value.int .i64 (xs.length : Int)]).toArray 238 (0, 0) hw.1; unfold Blk; simpa using this
theorem step_copy {K : Act → World → Prop} {o : Oper} {E : Prop} (hgd : o.guard = none) (d s : Operand) (ho : o.op = .call { callee := .builtin .copy, args := #[d, s], argTypes := #[46, 46] })
 {dp sp : Option Addr} {dLen dCap n sCap : Nat} (hd : a.eval d = .slice dp dLen dCap) (hs : a.eval s = .slice sp n sCap) (hw : Wr w b xs) (hr : Rd w sp n ys) (hfit : xs.length + n ≤ 252) (hdl : dLen = 252 - xs.length) (hdp : 0 < n → dp = some ⟨b, xs.length, none⟩)
 (h : ∀ w', Blk w' b 238 (cellsOf (pad (xs ++ ys)) ++ [.int .i64 (xs.length : Int)]) → Only w w' b → K (a.put o.dst (.int .i64 (n : Int))) w') : if Region.wanted o (yielded ops a.tmps) = true then Oper.wp Tryz.prog o a w K Q else E := by
 rw [if_pos (by simp [Region.wanted, hgd])]; exact copy_op d s ho hd hs hw hr hfit hdl hdp h
end
theorem Wr.step {w : World} {b p q : Nat} {zs : List UInt8} (h : Blk w b 238 (cellsOf (pad zs) ++ [.int .i64 (p : Int)])) (hl : zs.length = q) (hq : q ≤ 252) : Wr (w.setCell ⟨b, 252, none⟩ (.int .i64 (q : Int))) b zs := by
 refine ⟨?_, by omega⟩; have := h.set_ 252 (.int .i64 (q : Int)); have e : (cellsOf (pad zs) ++ [Value.int .i64 (p : Int)]).set 252 (.int .i64 (q : Int)) = wrCells zs := by
  unfold wrCells; rw [List.set_append_right _ _ (by rw [cellsOf_length, pad_length (by omega)]; omega), cellsOf_length, pad_length (by omega), hl]; rfl
 rwa [e] at this
theorem wb_mid {w : World} {b p n : Nat} {xs zs : List UInt8} (h : Blk w b 238 (cellsOf (pad zs) ++ [.int .i64 (xs.length : Int)])) (hl : zs.length = p + n) (hq : p + n ≤ 252) (hp : xs.length = p) : w.cell? ⟨b, 252, none⟩ = some (.int .i64 (p : Int)) ∧ zs.length ≤ 252 := by
 refine ⟨?_, by omega⟩; rw [h.cell, List.getElem?_append_right (by rw [cellsOf_length, pad_length (by omega)]; omega), cellsOf_length, pad_length (by omega), hp]; rfl
theorem Only.drew_ {w w' : World} {b : Nat} (h : Only w.drew w' b) : Only w w' b := ⟨h.os, h.tape, h.output, h.size, h.block⟩
theorem wb_end {w w1 : World} {b p n : Nat} {xs zs : List UInt8} (h : Blk w1 b 238 (cellsOf (pad zs) ++ [.int .i64 (xs.length : Int)])) (ho : Only w.drew w1 b) (hl : zs.length = p + n) (hq : p + n ≤ 252) :
 Wr (w1.setCell ⟨b, 252, none⟩ (.int .i64 ((p : Int) + (n : Int)))) b zs ∧ Only w (w1.setCell ⟨b, 252, none⟩ (.int .i64 ((p : Int) + (n : Int)))) b :=
 ⟨by have := Wr.step h hl hq; rwa [Int.natCast_add] at this, (Only.drew_ ho).setCell 252 _⟩
theorem wbytes_any (b : Nat) (xs ys : List UInt8) (A : Option Addr) (n c : Nat) (w : World) (hw : Wr w b xs) (hr : Rd w A n ys) (hfit : xs.length + n ≤ 252) :
 Calls Tryz.prog 178 #[.pointer (some ⟨b, 0, none⟩), .slice A n c] w fun e w' => e = .returned (.tuple #[]) ∧ Hid (Wr w' b (xs ++ ys) ∧ Only w w' b) := by
 obtain ⟨p, hp⟩ : ∃ p, xs.length = p := ⟨_, rfl⟩
 have HW := kept hw; have HR := kept hr; have HP := kept hp; have hat := hw.at_; have hfz := hw.1.frozen 252; have hlen : (xs ++ ys).length = p + n := by rw [List.length_append, hr.1, hp]
 have HLEN := kept hlen; rw [hp] at hat hfit; have hi1 : (0 : Int) ≤ (p : Int) := by omega
 have hi2 : (p : Int) ≤ 252 := by omega
 have hi3 : IntKind.i64.wrap ((p : Int) + (n : Int)) = (p : Int) + (n : Int) := IntWalk.i64_in _ ⟨by omega, by omega⟩; clear hw hr hp hlen; go_enter Tryz.func178, Tryz.ntmps178; go_wp2
 go_region_law (refine step_copy rfl (.tmp 15) (.tmp 16) rfl rfl rfl (show Wr w.drew b xs from HW.out) HR.out.drew (by rw [HP.out]; exact hfit) (by rw [HP.out]) (fun h0 => by rw [HP.out]; (try rw [if_neg (by omega)])) ?_; intro w1 hb1 ho1; have y1 : w1.cell? ⟨b, 252, none⟩ = some (.int .i64 (p : Int)) := (wb_mid hb1 HLEN.out hfit HP.out).1; have y2 : w1.frozen? ⟨b, 252, none⟩ = false := hb1.frozen 252; have HE : Hid (Wr (w1.setCell ⟨b, 252, none⟩ (.int .i64 ((p : Int) + (n : Int)))) b (xs ++ ys) ∧ Only w (w1.setCell ⟨b, 252, none⟩ (.int .i64 ((p : Int) + (n : Int)))) b) := kept (wb_end hb1 ho1 HLEN.out hfit); clear hb1 ho1)
 all_goals
  go_end0
  exact ⟨rfl, HE⟩
theorem wnum_any (b s : Nat) (xs : List UInt8) (v : Nat) (w : World) (hw : Wr w b xs) (hfit : xs.length + s ≤ 252) (h1 : 1 ≤ s) (h2 : s ≤ 8) (hv : v < 256 ^ s) :
 Calls Tryz.prog 128 #[.pointer (some ⟨b, 0, none⟩), .int .u64 (v : Int), .int .i64 (s : Int)] w fun e w' => e = .returned (.tuple #[]) ∧ Hid (Wr w' b (xs ++ be v s) ∧ Only w w' b) := by
 have HP := kept (put_ok v s w h1 h2 hv); have HW := kept hw; clear hw hv; go_enter Tryz.func128, Tryz.ntmps128; go_wp2_with (first | (go_at_call 171; (with_reducible refine (HP.out).mono ?_); rintro e w1 ⟨A, c, rfl, ho, hb⟩; have HB := kept (wbytes_any b xs (be v s) A s c w1 (HW.out.below hb) (Rd.of_own ho) hfit); have HO : Hid (Only w w1 b) := kept (Only.of_below hb); clear ho hb) | (go_at_call 178; (with_reducible refine (HB.out).mono ?_); rintro e w2 ⟨rfl, h2⟩))
 go_end0
 exact ⟨rfl, h2.out.1, HO.out.trans h2.out.2⟩
theorem wnum1 (b : Nat) (xs : List UInt8) (v : Nat) (w : World) (hw : Wr w b xs) (hfit : xs.length + 1 ≤ 252) (hv : v < 256) :
 Calls Tryz.prog 128 #[.pointer (some ⟨b, 0, none⟩), .int .u64 (v : Int), .int .i64 1] w fun e w' => e = .returned (.tuple #[]) ∧ Hid (Wr w' b (xs ++ be v 1) ∧ Only w w' b) := wnum_any b 1 xs v w hw hfit (by omega) (by omega) hv
theorem wnum2 (b : Nat) (xs : List UInt8) (v : Nat) (w : World) (hw : Wr w b xs) (hfit : xs.length + 2 ≤ 252) (hv : v < 65536) :
 Calls Tryz.prog 128 #[.pointer (some ⟨b, 0, none⟩), .int .u64 (v : Int), .int .i64 2] w fun e w' => e = .returned (.tuple #[]) ∧ Hid (Wr w' b (xs ++ be v 2) ∧ Only w w' b) := wnum_any b 2 xs v w hw hfit (by omega) (by omega) hv
theorem wnum4 (b : Nat) (xs : List UInt8) (v : Nat) (w : World) (hw : Wr w b xs) (hfit : xs.length + 4 ≤ 252) (hv : v < 4294967296) :
 Calls Tryz.prog 128 #[.pointer (some ⟨b, 0, none⟩), .int .u64 (v : Int), .int .i64 4] w fun e w' => e = .returned (.tuple #[]) ∧ Hid (Wr w' b (xs ++ be v 4) ∧ Only w w' b) := wnum_any b 4 xs v w hw hfit (by omega) (by omega) hv
theorem wnum8 (b : Nat) (xs : List UInt8) (v : Nat) (w : World) (hw : Wr w b xs) (hfit : xs.length + 8 ≤ 252) (hv : v < 18446744073709551616) :
 Calls Tryz.prog 128 #[.pointer (some ⟨b, 0, none⟩), .int .u64 (v : Int), .int .i64 8] w fun e w' => e = .returned (.tuple #[]) ∧ Hid (Wr w' b (xs ++ be v 8) ∧ Only w w' b) := wnum_any b 8 xs v w hw hfit (by omega) (by omega) hv
theorem wid_any (b : Nat) (xs : List UInt8) (v : Nat) (w : World) (hw : Wr w b xs) (hfit : xs.length + 4 ≤ 252) (hv : v < 4294967296) :
 Calls Tryz.prog 129 #[.pointer (some ⟨b, 0, none⟩), .int .i64 (v : Int)] w fun e w' => e = .returned (.tuple #[]) ∧ Hid (Wr w' b (xs ++ be v 4) ∧ Only w w' b) := by
 have HN := kept (wnum4 b xs v w hw hfit hv); clear hw; go_enter Tryz.func129, Tryz.ntmps129; go_wp2_with (first | (go_at_call 128; (with_reducible refine (HN.out).mono ?_); rintro e w2 ⟨rfl, h2⟩))
 go_end0
 exact ⟨rfl, h2.out⟩
def encItem (x : Itm) : List UInt8 := be x.key.length 1 ++ be x.size.toNat 2 ++ x.key ++ (if x.size ≤ 64 then x.val else be x.more.toNat 4)
def encKid (x : Kd) : List UInt8 := be x.key.length 1 ++ x.key ++ be x.page.toNat 4
def encId (i : Int) : List UInt8 := be i.toNat 4
theorem encItem_length (x : Itm) : (encItem x).length = itemUse x := by
 unfold encItem itemUse
 split <;> simp [be_length] <;> omega
theorem encKid_length (x : Kd) : (encKid x).length = kidUse x := by
 unfold encKid kidUse; simp [be_length]; omega
def Fr (w0 : World) (b : Nat) (w : World) : Prop := Below w0.heap.size w0 w ∧ w0.heap.size ≤ b
section
variable {w0 w w' : World} {b : Nat}
theorem Fr.only (h : Fr w0 b w) (k : Only w w' b) : Fr w0 b w' := ⟨k.below h.1 h.1.size h.2, h.2⟩
theorem Only.cell_ (k : Only w w' b) {p : Addr} {v : Value} (hp : p.block ≠ b) (h : w.cell? p = some v) : w'.cell? p = some v := by
 have hl := World.block_lt_of_cell? w _ h; exact (World.cell?_of_block (k.block p.block hl (fun e => hp (Option.some.inj e)))).trans h
theorem Only.alloc_ (w : World) (o : Obj) (b : Nat) : Only w (w.alloc o) b := Only.of_below ((Below.refl _ _).alloc (Nat.le_refl _) o)
theorem Fr.alloc (h : Fr w0 b w) (o : Obj) : Fr w0 b (w.alloc o) := h.only (Only.alloc_ w o b)
theorem Wr.alloc {xs : List UInt8} (h : Wr w b xs) (o : Obj) : Wr (w.alloc o) b xs := h.below ((Below.refl _ _).alloc (Nat.le_refl _) o)
end
theorem itemOk_parts {x : Itm} (h : itemOk x = true) : x.key.length ≤ 32 ∧ 0 ≤ x.size ∧ x.size ≤ 4096 ∧ (x.size ≤ 64 → (x.val.length : Int) = x.size ∧ x.more = 0) ∧ (64 < x.size → x.val.length = 0 ∧ 1 ≤ x.more ∧ x.more < 1024) := by
 unfold itemOk at h; simp only [Bool.and_eq_true, decide_eq_true_eq] at h; obtain ⟨⟨⟨h1, h2⟩, h3⟩, h4⟩ := h; refine ⟨h1, h2, h3, fun hs => ?_, fun hs => ?_⟩
 · rw [if_pos hs] at h4; simpa using h4
 · rw [if_neg (by omega)] at h4; simpa [isPg] using h4
theorem witem_any (w0 : World) (b : Nat) (xs : List UInt8) (L : LayI) (x : Itm) (w : World) (hw : Wr w b xs) (hr : RdIt w0 L x) (hf : Fr w0 b w) (hok : itemOk x = true) (hfit : xs.length + itemUse x ≤ 252) :
 Calls Tryz.prog 179 #[.pointer (some ⟨b, 0, none⟩), L.val] w fun e w' => e = .returned (.tuple #[]) ∧ Hid (Wr w' b (xs ++ encItem x) ∧ Only w w' b) := by
 obtain ⟨p1, p2, p3, p4, p5⟩ := itemOk_parts hok; have hlen : itemUse x = 3 + x.key.length + (if x.size ≤ 64 then x.val.length else 4) := rfl; have hkl := hr.1.1; have hvl := hr.2.1.1; have hsz := hr.2.2.1; have hmo := hr.2.2.2.1; have HRD := fun {X : World} (h : Fr w0 b X) => kept (show Rd X L.ka L.kn x.key ∧ Rd X L.va L.vn x.val from ⟨hr.1.below h.1, hr.2.1.below h.1⟩)
 have HE : Hid (encItem x = be x.key.length 1 ++ be x.size.toNat 2 ++ x.key ++ (if x.size ≤ 64 then x.val else be x.more.toNat 4)) := rfl; have HWR := kept hw; have HF := kept hf; have hbl := hw.lt; obtain ⟨key, val, size, more⟩ := x; obtain ⟨ka, kn, kc, va, vn, vc, size', more'⟩ := L; simp only at p1 p2 p3 p4 p5 hlen hkl hvl hsz hmo HRD HE; subst hsz hmo; rw [hlen] at hfit; obtain ⟨sn, rfl⟩ := Int.eq_ofNat_of_zero_le p2; have HO0 : Hid (Only w (w.alloc (.cells #[.slice ka kn kc, .slice va vn vc, .int .i64 (sn : Int), .int .i64 more] 149)) b) := kept (Only.alloc_ _ _ _); have HS : Hid (∀ {X : World}, Only (w.alloc (.cells #[.slice ka kn kc, .slice va vn vc, .int .i64 (sn : Int), .int .i64 more] 149)) X b → X.cell? ⟨w.heap.size, 0, none⟩ = some (.slice ka kn kc) ∧ X.cell? ⟨w.heap.size, 1, none⟩ = some (.slice va vn vc) ∧ X.cell? ⟨w.heap.size, 2, none⟩ = some (.int .i64 (sn : Int)) ∧ X.cell? ⟨w.heap.size, 3, none⟩ = some (.int .i64 more)) := kept (fun h => by
  have key : ∀ (i : Nat) (v : Value), #[Value.slice ka kn kc, .slice va vn vc, .int .i64 (sn : Int), .int .i64 more][i]? = some v → (w.alloc (.cells #[.slice ka kn kc, .slice va vn vc, .int .i64 (sn : Int), .int .i64 more] 149)).cell? ⟨w.heap.size, i, none⟩ = some v := fun i v hv => by rw [cell_of_row _ w.heap.size i _ _ _ (heap_alloc_new w _)]; exact hv
  exact ⟨h.cell_ (by simp; omega) (key 0 _ rfl), h.cell_ (by simp; omega) (key 1 _ rfl), h.cell_ (by simp; omega) (key 2 _ rfl), h.cell_ (by simp; omega) (key 3 _ rfl)⟩)
 have HKL := kept hkl; have HVL := kept hvl; rw [hkl, hvl] at hfit; rw [hkl] at p1; rw [hvl] at p4 p5; have HSN : Hid (((sn : Int)).toNat = sn) := kept (Int.toNat_natCast sn); clear hw hr hf hok hkl hvl hlen; by_cases hin : (sn : Int) ≤ 64
 · obtain ⟨q1, q2⟩ := p4 hin; rw [if_pos hin] at hfit; have H1 := kept (wnum1 b xs kn _ (HWR.out.alloc (.cells #[.slice ka kn kc, .slice va vn vc, .int .i64 (sn : Int), .int .i64 more] 149)) (by omega) (by omega)); clear p4 p5 q1 q2; go_enter Tryz.func179, Tryz.ntmps179; go_wp2_with fail
   with_reducible refine H1.out.mono ?_
   rintro e w1 ⟨rfl, h1⟩; obtain ⟨z0, z1, z2, z3⟩ := HS.out h1.out.2; have H2 := kept (wnum2 b _ sn w1 h1.out.1 (by rw [List.length_append, be_length]; omega) (by omega)); go_wp2_with fail
   with_reducible refine H2.out.mono ?_
   rintro e w2 ⟨rfl, h2⟩; have HO2 := kept (h1.out.2.trans h2.out.2); obtain ⟨y0, y1, y2, y3⟩ := HS.out HO2.out; have H3 := kept (wbytes_any b _ key ka kn kc w2 h2.out.1 (HRD (HF.out.only (HO0.out.trans HO2.out))).out.1 (by rw [List.length_append, List.length_append, be_length, be_length]; omega)); go_wp2_with fail
   with_reducible refine H3.out.mono ?_
   rintro e w3 ⟨rfl, h3⟩; have HO3 := kept (HO2.out.trans h3.out.2); obtain ⟨x0, x1, x2, x3⟩ := HS.out HO3.out; have H4 := kept (wbytes_any b _ val va vn vc w3 h3.out.1 (HRD (HF.out.only (HO0.out.trans HO3.out))).out.2 (by rw [List.length_append, List.length_append, List.length_append, be_length, be_length, HKL.out]; omega)); go_wp2_with (first | (go_at_call 224; (with_reducible refine (isInline_any _ _ true (by simpa using hin)).mono ?_); rintro e w' ⟨rfl, rfl⟩) | (go_at_call 178; (with_reducible refine (H4.out).mono ?_); rintro e w4 ⟨rfl, h4⟩))
   go_end0
   refine ⟨rfl, ?_, HO0.out.trans (HO3.out.trans h4.out.2)⟩; have := h4.out.1; rw [HE.out, if_pos hin, HKL.out, HSN.out]; simpa only [List.append_assoc] using this
 · obtain ⟨q1, q2, q3⟩ := p5 (by omega); rw [if_neg hin] at hfit; obtain ⟨mn, rfl⟩ := Int.eq_ofNat_of_zero_le (show 0 ≤ more by omega); have HMN : Hid (((mn : Int)).toNat = mn) := kept (Int.toNat_natCast mn); have H1 := kept (wnum1 b xs kn _ (HWR.out.alloc (.cells #[.slice ka kn kc, .slice va vn vc, .int .i64 (sn : Int), .int .i64 (mn : Int)] 149)) (by omega) (by omega)); clear p4 p5 q1; go_enter Tryz.func179, Tryz.ntmps179; go_wp2_with fail
   with_reducible refine H1.out.mono ?_
   rintro e w1 ⟨rfl, h1⟩; obtain ⟨z0, z1, z2, z3⟩ := HS.out h1.out.2; have H2 := kept (wnum2 b _ sn w1 h1.out.1 (by rw [List.length_append, be_length]; omega) (by omega)); go_wp2_with fail
   with_reducible refine H2.out.mono ?_
   rintro e w2 ⟨rfl, h2⟩; have HO2 := kept (h1.out.2.trans h2.out.2); obtain ⟨y0, y1, y2, y3⟩ := HS.out HO2.out; have H3 := kept (wbytes_any b _ key ka kn kc w2 h2.out.1 (HRD (HF.out.only (HO0.out.trans HO2.out))).out.1 (by rw [List.length_append, List.length_append, be_length, be_length]; omega)); go_wp2_with fail
   with_reducible refine H3.out.mono ?_
   rintro e w3 ⟨rfl, h3⟩; have HO3 := kept (HO2.out.trans h3.out.2); obtain ⟨x0, x1, x2, x3⟩ := HS.out HO3.out; have H4 := kept (wid_any b _ mn w3 h3.out.1 (by rw [List.length_append, List.length_append, List.length_append, be_length, be_length, HKL.out]; omega) (by omega)); go_wp2_with (first | (go_at_call 224; (with_reducible refine (isInline_any _ _ false (by simpa using hin)).mono ?_); rintro e w' ⟨rfl, rfl⟩) | (go_at_call 129; (with_reducible refine (H4.out).mono ?_); rintro e w4 ⟨rfl, h4⟩))
   go_end0
   refine ⟨rfl, ?_, HO0.out.trans (HO3.out.trans h4.out.2)⟩; have := h4.out.1; rw [HE.out, if_neg (by omega), HKL.out, HSN.out, HMN.out]; simpa only [List.append_assoc] using this
def encTo {α : Type} (f : α → List UInt8) (I : List α) (k : Nat) : List UInt8 := ((I.take k).map f).flatten
section
variable {α : Type} {f : α → List UInt8} {g : α → Nat} {I : List α}
theorem encTo_zero : encTo f I 0 = [] := rfl
theorem encTo_succ {k : Nat} (h : k < I.length) : encTo f I (k + 1) = encTo f I k ++ f I[k] := by
 unfold encTo; rw [List.take_succ_eq_append_getElem h]; simp only [List.map_append, List.map_cons, List.map_nil, List.flatten_append, List.flatten_cons, List.flatten_nil, List.append_nil]
theorem encTo_all : encTo f I I.length = (I.map f).flatten := by unfold encTo; rw [List.take_length]
theorem flatten_len (h : ∀ x, (f x).length = g x) : ∀ J : List α, (J.map f).flatten.length = (J.map g).sum
 | [] => rfl
 | x :: r => by rw [List.map_cons, List.flatten_cons, List.length_append, h, flatten_len h r, List.map_cons, List.sum_cons]
theorem encTo_length (h : ∀ x, (f x).length = g x) (k : Nat) : (encTo f I k).length = sumTo g I k := flatten_len h _
end
def roomOf (P : Pg) : List UInt8 := (P.items.map encItem).flatten ++ (P.kids.map encKid).flatten ++ P.data ++ (P.ids.map encId).flatten
theorem sum_rep (n c : Nat) : (List.replicate n c).sum = n * c := by
 induction n with
 | zero => simp
 | succ n ih => rw [List.replicate_succ, List.sum_cons, ih, Nat.succ_mul, Nat.add_comm]
theorem encId_length (i : Int) : (encId i).length = 4 := be_length _ _
theorem roomOf_length (P : Pg) : (roomOf P).length = usedN P := by
 unfold roomOf usedN; rw [List.length_append, List.length_append, List.length_append, flatten_len encItem_length, flatten_len encKid_length, flatten_len (f := encId) (g := fun _ => 4) encId_length]; rw [List.map_const', sum_rep]; omega
theorem box2 (w : World) (b : Nat) (v0 v1 : Value) (t : TypeId) (hb : b < w.heap.size) {X : World} (h : Only (w.alloc (.cells #[v0, v1] t)) X b) : X.cell? ⟨w.heap.size, 0, none⟩ = some v0 ∧ X.cell? ⟨w.heap.size, 1, none⟩ = some v1 := by
 have key : ∀ (i : Nat) (v : Value), #[v0, v1][i]? = some v → (w.alloc (.cells #[v0, v1] t)).cell? ⟨w.heap.size, i, none⟩ = some v := fun i v hv => by rw [cell_of_row _ w.heap.size i _ _ _ (heap_alloc_new w _)]; exact hv
 exact ⟨h.cell_ (by simp; omega) (key 0 _ rfl), h.cell_ (by simp; omega) (key 1 _ rfl)⟩
theorem sev_only (w : World) (b : Nat) (kind txn next : Int) (a1 : Option Addr) (n1 c1 : Nat) (a2 : Option Addr) (n2 c2 : Nat) (a3 : Option Addr) (n3 c3 : Nat) (a4 : Option Addr) (n4 c4 : Nat) (t : TypeId) (hb : b < w.heap.size) {X : World}
 (h : Only (w.alloc (.cells #[.int .i64 kind, .int .u64 txn, .int .i64 next, .slice a1 n1 c1, .slice a2 n2 c2, .slice a3 n3 c3, .slice a4 n4 c4] t)) X b) : Sev X w.heap.size kind txn next a1 n1 c1 a2 n2 c2 a3 n3 c3 a4 n4 c4 := by
 have key : ∀ (i : Nat) (v : Value), #[Value.int .i64 kind, .int .u64 txn, .int .i64 next, .slice a1 n1 c1, .slice a2 n2 c2, .slice a3 n3 c3, .slice a4 n4 c4][i]? = some v → (w.alloc (.cells #[.int .i64 kind, .int .u64 txn, .int .i64 next, .slice a1 n1 c1, .slice a2 n2 c2, .slice a3 n3 c3, .slice a4 n4 c4] t)).cell? ⟨w.heap.size, i, none⟩ = some v := fun i v hv => by rw [cell_of_row _ w.heap.size i _ _ _ (heap_alloc_new w _)]; exact hv
 exact ⟨h.cell_ (by simp; omega) (key 0 _ rfl), h.cell_ (by simp; omega) (key 1 _ rfl), h.cell_ (by simp; omega) (key 2 _ rfl), h.cell_ (by simp; omega) (key 3 _ rfl), h.cell_ (by simp; omega) (key 4 _ rfl), h.cell_ (by simp; omega) (key 5 _ rfl), h.cell_ (by simp; omega) (key 6 _ rfl)⟩
theorem kidOk_parts {x : Kd} (h : kidOk x = true) : x.key.length ≤ 32 ∧ 1 ≤ x.page ∧ x.page < 1024 := by
 unfold kidOk isPg at h; simpa using h
theorem things_parts {P : Pg} (h : thingsB P = true) : (∀ x ∈ P.items, itemOk x = true) ∧ (∀ x ∈ P.kids, kidOk x = true) ∧ (∀ x ∈ P.ids, isPg x = true) := by
 unfold thingsB at h; simp only [Bool.and_eq_true] at h; exact ⟨ordU_all h.1.1, ordU_all h.1.2, ordU_all h.2⟩
def Wst (W0 : World) (b : Nat) (zs : List UInt8) (w : World) : Prop := Wr w b zs ∧ Only W0 w b
theorem wthings_any (w0 : World) (b : Nat) (xs : List UInt8) (l : Lay) (P : Pg) (w : World) (hw : Wr w b xs) (hr : RdPg w0 l P) (hf : Fr w0 b w) (hT : thingsB P = true) (hfit : xs.length + usedN P ≤ 252) :
 Calls Tryz.prog 131 #[.pointer (some ⟨b, 0, none⟩), l.val] w fun e w' => e = .returned (.tuple #[]) ∧ Hid (Wst w b (xs ++ roomOf P) w') := by
 obtain ⟨t1, t2, t3⟩ := things_parts hT; have hbl := hw.lt; obtain ⟨I, hI⟩ : ∃ I, P.items = I := ⟨_, rfl⟩
 obtain ⟨J, hJ⟩ : ∃ J, P.kids = J := ⟨_, rfl⟩
 obtain ⟨D, hD⟩ : ∃ D, P.data = D := ⟨_, rfl⟩
 obtain ⟨S, hS⟩ : ∃ S, P.ids = S := ⟨_, rfl⟩
 have hn1 := hr.n1; have hn2 := hr.n2; have hn3 := hr.n3; have hn4 := hr.n4; have b1 := hr.b1; have b2 := hr.b2; have b4 := hr.b4; have r1 := hr.items; have r2 := hr.kids; have r3 := hr.data; have r4 := hr.ids; rw [hI] at t1 hn1 r1; rw [hJ] at t2 hn2 r2; rw [hD] at hn3 r3; rw [hS] at t3 hn4 r4; have hU : usedN P = D.length + S.length * 4 + (I.map itemUse).sum + (J.map kidUse).sum := by rw [← hI, ← hJ, ← hD, ← hS]; rfl
 have HE : Hid (roomOf P = encTo encItem I l.n1 ++ encTo encKid J l.n2 ++ D ++ encTo encId S l.n4) := kept (by unfold roomOf; rw [hI, hJ, hD, hS, ← hn1, ← hn2, ← hn4, encTo_all, encTo_all, encTo_all]); generalize roomOf P = rm at HE; obtain ⟨p, hp⟩ : ∃ p, xs.length = p := ⟨_, rfl⟩
 rw [hU, hn3, hn4] at hfit; obtain ⟨si, hsi⟩ : ∃ si, (I.map itemUse).sum = si := ⟨_, rfl⟩
 obtain ⟨sk, hsk⟩ : ∃ sk, (J.map kidUse).sum = sk := ⟨_, rfl⟩
 rw [hsi, hsk, hp] at hfit; have L1 : ∀ k, (encTo encItem I k).length ≤ si := fun k => by rw [encTo_length encItem_length, ← hsi]; exact sumTo_le k
 have L2 : ∀ k, (encTo encKid J k).length ≤ sk := fun k => by rw [encTo_length encKid_length, ← hsk]; exact sumTo_le k
 have L4 : ∀ k, k ≤ l.n4 → (encTo encId S k).length = 4 * k := fun k hk => by
  rw [encTo_length (f := encId) (g := fun _ => 4) encId_length]; unfold sumTo; rw [List.map_const', sum_rep, List.length_take, Nat.min_eq_left (by omega)]; omega
 clear hr hT hI hJ hD hS hU hsi hsk; obtain ⟨kind, txn, next, a1, n1, c1, a2, n2, c2, a3, n3, c3, a4, n4, c4⟩ := l; simp only at hn1 hn2 hn3 hn4 b1 b2 b4 r1 r2 r3 r4 HE L4 hfit; obtain ⟨W0, hW0⟩ : ∃ W0, w.alloc (.cells #[.int .i64 kind, .int .u64 txn, .int .i64 next, .slice a1 n1 c1, .slice a2 n2 c2, .slice a3 n3 c3, .slice a4 n4 c4] 137) = W0 := ⟨_, rfl⟩
 have HS : Hid (∀ {X : World}, Only W0 X b → Sev X w.heap.size kind txn next a1 n1 c1 a2 n2 c2 a3 n3 c3 a4 n4 c4) := kept (by subst hW0; exact sev_only w b kind txn next a1 n1 c1 a2 n2 c2 a3 n3 c3 a4 n4 c4 _ hbl); have HO0 : Hid (Only w W0 b) := kept (by rw [← hW0]; exact Only.alloc_ _ _ _); have HST0 : Hid (Wst W0 b xs W0) := kept ⟨by rw [← hW0]; exact hw.alloc _, Only.refl _ _⟩; have HFR : Hid (∀ {X : World}, Only W0 X b → Fr w0 b X) := kept (fun h => hf.only (HO0.out.trans h)); have HW0 := kept hW0; have HR1 := kept r1; have HR2 := kept r2; have HR3 := kept r3; have HR4 := kept r4; have HT1 := kept t1; have HT2 := kept t2; have HT3 := kept t3; have HL1 := kept L1; have HL2 := kept L2; have HL4 := kept L4; have HN1 := kept hn1; have HN2 := kept hn2; have HN3 := kept hn3; have HN4 := kept hn4; have HP := kept hp; obtain ⟨y0, y1, y2, y3, y4, y5, y6⟩ := HS.out (Only.refl W0 b); have hwe : W0.heap.size = w.heap.size + 1 := by rw [← hW0]; simp
 have HWE := kept hwe; clear hw hf hW0 r1 r2 r3 r4 t1 t2 t3 L1 L2 L4 hn1 hn2 hn3 hn4 hp hwe; go_enter Tryz.func131, Tryz.ntmps131; go_wp2; rw [HW0.out]; go_loopw [13] (fun i wr => ∃ k : Nat, k ≤ n1 ∧ i = .int .i64 k ∧ Hid (Wst W0 b (xs ++ encTo encItem I k) wr)) (fun i _ => n1 - (intOf i).toNat)
 case atStart => exact ⟨0, by omega, rfl, by rw [encTo_zero, List.append_nil]; exact HST0⟩
 case round =>
  obtain ⟨k, hk, rfl, HW⟩ := hrel; by_cases hlt : k < n1
  · have hbw := HW.out.1.lt; obtain ⟨bb, o, L, rfl, hrd, hc0, hc1, hc2, hc3⟩ := HR1.out.at_ hlt; have hc0 := cell_below (HFR.out HW.out.2).1 hc0; have hc1 := cell_below (HFR.out HW.out.2).1 hc1; have hc2 := cell_below (HFR.out HW.out.2).1 hc2; have hc3 := cell_below (HFR.out HW.out.2).1 hc3; have hki : k < I.length := by rw [HN1.out]; exact hlt
    have HSU := kept (encTo_succ (f := encItem) hki); have hle := HL1.out (k + 1); rw [HSU.out, List.length_append, encItem_length] at hle; have HIT := kept (witem_any w0 b (xs ++ encTo encItem I k) L (I[k]'hki) (wr.alloc (.cells #[.slice L.ka L.kn L.kc, .slice L.va L.vn L.vc, .int .i64 L.size, .int .i64 L.more] 149)) (HW.out.1.alloc _) hrd ((HFR.out HW.out.2).alloc _) (HT1.out _ (List.getElem_mem hki)) (by rw [List.length_append, HP.out]; omega)); clear hrd hle; obtain ⟨ka, kn, kc, va, vn, vc, size, more⟩ := L; simp only at hc0 hc1 hc2 hc3 HIT; go_wp2_with (first | (go_at_call 179; (with_reducible refine (HIT.out).mono ?_); rintro e w1 ⟨rfl, h1⟩))
    have HNX : Hid (Wst W0 b (xs ++ encTo encItem I (k + 1)) w1) := kept ⟨by rw [HSU.out, ← List.append_assoc]; exact h1.out.1, (HW.out.2.trans (Only.alloc_ _ _ _)).trans h1.out.2⟩; clear h1; go_roundw
    case rel => exact ⟨k + 1, by omega, by go_num, HNX⟩
    case measure => simp [intOf]; omega
  · obtain rfl : k = n1 := by omega
    obtain ⟨x0, x1, x2, x3, x4, x5, x6⟩ := HS.out HW.out.2; obtain ⟨zs, hzs⟩ : ∃ zs, xs ++ encTo encItem I k = zs := ⟨_, rfl⟩
    have hzl : zs.length ≤ p + si := by rw [← hzs, List.length_append, HP.out]; have := HL1.out k; omega
    have HZ := kept hzs; rw [hzs] at HW; clear hzs; go_wp2; go_loopw [24] (fun i wx => ∃ j : Nat, j ≤ n2 ∧ i = .int .i64 j ∧ Hid (Wst W0 b (zs ++ encTo encKid J j) wx)) (fun i _ => n2 - (intOf i).toNat)
    case atStart => exact ⟨0, by omega, rfl, by rw [encTo_zero, List.append_nil]; exact HW⟩
    case round =>
     obtain ⟨j, hj, rfl, HX⟩ := hrel
     rename World => wx
     by_cases hlt : j < n2
     · have hbw := HX.out.1.lt; obtain ⟨bb, o, L, rfl, hrd, hg0, hg1⟩ := HR2.out.at_ hlt; have hg0 := cell_below (HFR.out HX.out.2).1 hg0; have hg1 := cell_below (HFR.out HX.out.2).1 hg1; have hki : j < J.length := by rw [HN2.out]; exact hlt
       have HSU := kept (encTo_succ (f := encKid) hki); have hle := HL2.out (j + 1); rw [HSU.out, List.length_append, encKid_length] at hle; obtain ⟨p1, p2, p3⟩ := kidOk_parts (HT2.out _ (List.getElem_mem hki)); have hue : kidUse (J[j]'hki) = 5 + L.kn := by unfold kidUse; rw [hrd.1.1]
       rw [hue] at hle; have HKE : Hid (encKid (J[j]'hki) = be L.kn 1 ++ (J[j]'hki).key ++ be L.page.toNat 4) := kept (by unfold encKid; rw [hrd.1.1, hrd.2.1]); rw [hrd.1.1] at p1; rw [hrd.2.1] at p2 p3; have HKR := fun {X : World} (h : Only W0 X b) => kept (hrd.1.below (HFR.out h).1)
       generalize J[j]'hki = y at HKE HKR HSU; obtain ⟨ka, kn, kc, page⟩ := L; simp only at hg0 hg1 HKE HKR p1 p2 p3 hle; obtain ⟨pn, rfl⟩ := Int.eq_ofNat_of_zero_le (show 0 ≤ page by omega); have HPN : Hid (((pn : Int)).toNat = pn) := kept (Int.toNat_natCast pn); have HBX := fun {X : World} (h : Only (wx.alloc (.cells #[.slice ka kn kc, .int .i64 (pn : Int)] 131)) X b) => kept (box2 wx b _ _ _ hbw h)
       have HOX : Hid (∀ {X : World}, Only (wx.alloc (.cells #[.slice ka kn kc, .int .i64 (pn : Int)] 131)) X b → Only W0 X b) := kept (fun h => (HX.out.2.trans (Only.alloc_ _ _ _)).trans h); have H1 := kept (wnum1 b (zs ++ encTo encKid J j) kn (wx.alloc (.cells #[.slice ka kn kc, .int .i64 (pn : Int)] 131)) (HX.out.1.alloc _) (by rw [List.length_append]; omega) (by omega)); have hq1 : (zs ++ encTo encKid J j).length + (5 + kn) ≤ 252 := by rw [List.length_append]; omega
       generalize hys : zs ++ encTo encKid J j = ys at H1 hq1; have HYS := kept hys; clear hrd hle hue hys; go_wp2_with fail
       with_reducible refine H1.out.mono ?_
       rintro e w1 ⟨rfl, h1⟩; obtain ⟨z0, z1⟩ := (HBX h1.out.2).out; have H2 := kept (wbytes_any b _ y.key ka kn kc w1 h1.out.1 (HKR (HOX.out h1.out.2)).out (by rw [List.length_append, be_length]; omega)); go_wp2_with fail
       with_reducible refine H2.out.mono ?_
       rintro e w2 ⟨rfl, h2⟩; have HO2 := kept (h1.out.2.trans h2.out.2); obtain ⟨u0, u1⟩ := (HBX HO2.out).out; have hkl := (HKR (HOX.out HO2.out)).out.1; have H3 := kept (wid_any b _ pn w2 h2.out.1 (by rw [List.length_append, List.length_append, be_length, hkl]; omega) (by omega)); clear hkl; go_wp2_with (first | (go_at_call 129; (with_reducible refine (H3.out).mono ?_); rintro e w3 ⟨rfl, h3⟩))
       have HNX : Hid (Wst W0 b (zs ++ encTo encKid J (j + 1)) w3) := kept ⟨by have := h3.out.1; rw [HSU.out, HKE.out, HPN.out, ← List.append_assoc, HYS.out]; simpa only [List.append_assoc] using this, HOX.out (HO2.out.trans h3.out.2)⟩; clear h1 h2 h3; go_roundw
       case rel => exact ⟨j + 1, by omega, by go_num, HNX⟩
       case measure => simp [intOf]; omega
     · obtain rfl : j = n2 := by omega
       obtain ⟨v0, v1, v2, v3, v4, v5, v6⟩ := HS.out HX.out.2; have hl2 := HL2.out j; have H4 := kept (wbytes_any b (zs ++ encTo encKid J j) D a3 n3 c3 wx HX.out.1 (HR3.out.below (HFR.out HX.out.2).1) (by rw [List.length_append]; omega)); obtain ⟨ys, hys⟩ : ∃ ys, zs ++ encTo encKid J j ++ D = ys := ⟨_, rfl⟩
       have hyl : ys.length ≤ p + si + sk + n3 := by rw [← hys, List.length_append, List.length_append, HN3.out]; omega
       rw [hys] at H4; have HYS := kept hys; clear hys hl2; go_wp2_with fail
       with_reducible refine H4.out.mono ?_
       rintro e w4 ⟨rfl, h4⟩; have HW4 : Hid (Wst W0 b ys w4) := kept ⟨h4.out.1, HX.out.2.trans h4.out.2⟩; clear h4; obtain ⟨q0, q1, q2, q3, q4, q5, q6⟩ := HS.out HW4.out.2; go_wp2; go_loopw [50] (fun i wy => ∃ m : Nat, m ≤ n4 ∧ i = .int .i64 m ∧ Hid (Wst W0 b (ys ++ encTo encId S m) wy)) (fun i _ => n4 - (intOf i).toNat)
       case atStart => exact ⟨0, by omega, rfl, by rw [encTo_zero, List.append_nil]; exact HW4⟩
       case round =>
        obtain ⟨m, hm, rfl, HY⟩ := hrel
        rename World => wy
        by_cases hlt : m < n4
        · obtain ⟨bb, o, rfl, hg0⟩ := HR4.out.at_ hlt; have hg0 := cell_below (HFR.out HY.out.2).1 hg0; have hki : m < S.length := by rw [HN4.out]; exact hlt
          have HSU := kept (encTo_succ (f := encId) hki); have hl4 := HL4.out m (by omega); have hpg := HT3.out _ (List.getElem_mem hki); generalize S[m]'hki = y at hg0 hpg HSU; have hpp : 1 ≤ y ∧ y < 1024 := by simpa [isPg] using hpg
          obtain ⟨pn, rfl⟩ := Int.eq_ofNat_of_zero_le (show 0 ≤ y by omega); have HPN : Hid (encId (pn : Int) = be pn 4) := kept (by unfold encId; rw [Int.toNat_natCast]); have H5 := kept (wid_any b (ys ++ encTo encId S m) pn wy HY.out.1 (by rw [List.length_append, hl4]; omega) (by omega)); clear hl4 hpg; go_wp2_with (first | (go_at_call 129; (with_reducible refine (H5.out).mono ?_); rintro e w5 ⟨rfl, h5⟩))
          have HNX : Hid (Wst W0 b (ys ++ encTo encId S (m + 1)) w5) := kept ⟨by rw [HSU.out, HPN.out, ← List.append_assoc]; exact h5.out.1, HY.out.2.trans h5.out.2⟩; clear h5; go_roundw
          case rel => exact ⟨m + 1, by omega, by go_num, HNX⟩
          case measure => simp [intOf]; omega
        · obtain rfl : m = n4 := by omega
          have HFIN : Hid (Wst w b (xs ++ rm) wy) := kept ⟨by
           have := HY.out.1; rw [← HYS.out, ← HZ.out] at this; rw [HE.out]; simpa only [List.append_assoc] using this, HO0.out.trans HY.out.2⟩
          go_wp2
          go_end0
          exact ⟨rfl, HFIN⟩
def cntP (P : Pg) : Nat := P.items.length + P.kids.length + P.data.length + P.ids.length
def encPg (P : Pg) : List UInt8 := be P.kind.toNat 1 ++ be P.txn.toNat 8 ++ be P.next.toNat 4 ++ be (cntP P) 2 ++ roomOf P
def bodyOf (P : Pg) : List UInt8 := pad (encPg P)
theorem encPg_length (P : Pg) : (encPg P).length = 15 + usedN P := by
 unfold encPg; simp only [List.length_append, be_length, roomOf_length]
theorem right_parts {P : Pg} (h : rightB P = true) : ownB P = true ∧ nextB P = true ∧ thingsB P = true ∧ usedN P ≤ 237 := by
 unfold rightB at h; simp only [Bool.and_eq_true, decide_eq_true_eq] at h; exact ⟨h.1.1.1, h.1.1.2, h.1.2, h.2⟩
theorem bodyOf_length {P : Pg} (h : usedN P ≤ 237) : (bodyOf P).length = 252 := pad_length (by rw [encPg_length]; omega)
theorem own_kind {P : Pg} (h : ownB P = true) : 1 ≤ P.kind ∧ P.kind ≤ 4 := by
 unfold ownB at h; simp only [Bool.and_eq_true, decide_eq_true_eq] at h; omega
theorem next_range {P : Pg} (h : nextB P = true) : 0 ≤ P.next ∧ P.next < 1024 := by
 unfold nextB isPg at h; simp at h; omega
theorem sum_ge_mul {α : Type} {f : α → Nat} {m : Nat} (h : ∀ x, m ≤ f x) : ∀ I : List α, m * I.length ≤ (I.map f).sum
 | [] => by simp
 | x :: r => by
   have h1 := h x; have h2 := sum_ge_mul (f := f) h r; simp only [List.map_cons, List.sum_cons, List.length_cons, Nat.mul_add]; omega
theorem cntP_le {P : Pg} (h : usedN P ≤ 237) : cntP P ≤ 237 := by
 have h1 := sum_ge_mul (f := itemUse) (m := 3) (fun x => by unfold itemUse; omega) P.items; have h2 := sum_ge_mul (f := kidUse) (m := 5) (fun x => by unfold kidUse; omega) P.kids; unfold usedN at h; unfold cntP; omega
theorem cnt_is {l : Lay} {kd : Nat} (hk : l.kind = (kd : Int)) (h : ownL l = true) : cnt l kd = l.n1 + l.n2 + l.n3 + l.n4 := by
 unfold ownL at h; rw [hk] at h; simp only [Bool.and_eq_true, Bool.or_eq_true, decide_eq_true_eq] at h; have : kd = 1 ∨ kd = 2 ∨ kd = 3 ∨ kd = 4 := by omega
 rcases this with rfl | rfl | rfl | rfl <;> simp only [cnt] <;> omega
theorem Wr.rd {w : World} {b : Nat} {xs : List UInt8} (h : Wr w b xs) : Rd w (some ⟨b, 0, none⟩) 252 (pad xs) := by
 refine ⟨pad_length h.2, fun _ => ⟨_, rfl, fun j hj => ?_⟩⟩; rw [add_at, Nat.zero_add, h.1.cell]; unfold wrCells; rw [List.getElem?_append_left (by rw [cellsOf_length]; exact hj)]; exact cellsOf_get _ _ hj
theorem encode_right (l : Lay) (P : Pg) (w : World) (h : RdPg w l P) (hR : rightB P = true) (hF : Fours w) :
 Calls Tryz.prog 79 #[l.val] w fun e w' => ∃ A c, e = .returned (.tuple #[.slice A 256 c, .int .i64 0]) ∧ w'.ownsRow w.heap.size 5 1 (.slice A 256 c) 256 (cellsOf (sealed (bodyOf P))) ∧ Below w.heap.size w w' := by
 have HR := fun {X : World} (hb : Below w.heap.size w X) => kept (right_any l P X (h.below hb))
 rw [hR] at HR; obtain ⟨r1, r2, r3, r4⟩ := right_parts hR; obtain ⟨k1, k4⟩ := own_kind r1; obtain ⟨x1, x2⟩ := next_range r2; have hcn := cntP_le r4; have hcnt : cntP P = l.n1 + l.n2 + l.n3 + l.n4 := by unfold cntP; rw [h.n1, h.n2, h.n3, h.n4]
 have hci := fun (kd : Nat) (hk : l.kind = (kd : Int)) => cnt_is hk (by rw [ownL_eq h]; exact r1)
 have HTH := fun {X Y : World} (b : Nat) (zs : List UInt8) (hw : Wr Y b zs) (hX : Below w.heap.size w X) (hf : Fr X b Y) (hfit : zs.length + usedN P ≤ 252) => kept (wthings_any X b zs l P Y hw (h.below hX) hf r3 hfit)
 have t0 := h.t0; have t1 := h.t1; have hkd := h.kind; have htx := h.txn; have hnx := h.next; have HB : Hid (encPg P = be P.kind.toNat 1 ++ be P.txn.toNat 8 ++ be P.next.toNat 4 ++ be (cntP P) 2 ++ roomOf P) := rfl; have HBO : Hid (bodyOf P = pad (encPg P)) := rfl; have HFF := kept hF; have hut := r4; rw [hkd] at HB k1 k4; rw [htx] at HB t0 t1; rw [hnx] at HB x1 x2; generalize bodyOf P = bo at HBO; generalize encPg P = en at HB HBO; generalize cntP P = cp at HB hcn hcnt; generalize usedN P = us at hut HTH; generalize roomOf P = rm at HB HTH; clear hR r1 r2 r3 r4 hkd htx hnx hF; have HIX := fun (k : Nat) (hk : k < 5) w => kept (ixk l k hk w)
 have HCN := fun w => kept (counts_any l w)
 obtain ⟨kind, txn, next, a1, n1, c1, a2, n2, c2, a3, n3, c3, a4, n4, c4⟩ := l; simp only at HB k1 k4 t0 t1 x1 x2 hcnt hci; obtain ⟨kd, rfl⟩ := Int.eq_ofNat_of_zero_le (show 0 ≤ kind by omega); obtain ⟨tx, rfl⟩ := Int.eq_ofNat_of_zero_le t0; obtain ⟨nx, rfl⟩ := Int.eq_ofNat_of_zero_le x1; have hck := hci kd rfl; rw [← hcnt] at hck; have HIK := HIX kd (by omega); rw [hck] at HIK; rw [Int.toNat_natCast, Int.toNat_natCast, Int.toNat_natCast] at HB; have hb0 : Below w.heap.size w (w.alloc (.cells #[.int .i64 (kd : Int), .int .u64 (tx : Int), .int .i64 (nx : Int), .slice a1 n1 c1, .slice a2 n2 c2, .slice a3 n3 c3, .slice a4 n4 c4] 137)) := (Below.refl _ _).alloc (Nat.le_refl _) _; have HS : Hid (∀ {X : World}, Below (w.alloc (.cells #[.int .i64 (kd : Int), .int .u64 (tx : Int), .int .i64 (nx : Int), .slice a1 n1 c1, .slice a2 n2 c2, .slice a3 n3 c3, .slice a4 n4 c4] 137)).heap.size (w.alloc (.cells #[.int .i64 (kd : Int), .int .u64 (tx : Int), .int .i64 (nx : Int), .slice a1 n1 c1, .slice a2 n2 c2, .slice a3 n3 c3, .slice a4 n4 c4] 137)) X → Sev X w.heap.size kd tx nx a1 n1 c1 a2 n2 c2 a3 n3 c3 a4 n4 c4) := kept (sev_box w kd tx nx a1 n1 c1 a2 n2 c2 a3 n3 c3 a4 n4 c4); clear h hci hck hcnt HIX; go_enter Tryz.func79, Tryz.ntmps79; go_wp2_with (first | (go_at_call 127; (with_reducible refine ((HR hb0).out).mono ?_); rintro e w1 ⟨rfl, hb1⟩) | ((with_reducible refine wpList_alloc_wr rfl rfl ?_); intro w2 hw2 hb2 hs2; have HW2 := kept hw2; have HBW1 : Hid (Below w.heap.size w w1) := kept (below_to hb1 hb0); have HS1 : Hid (∀ {X : World}, Below w1.heap.size w1 X → Sev X w.heap.size kd tx nx a1 n1 c1 a2 n2 c2 a3 n3 c3 a4 n4 c4) := kept (fun h => HS.out (below_to h hb1)); have HBX : Hid (Below w1.heap.size w1 w2) := kept hb2; obtain ⟨z0, z1, z2, z3, z4, z5, z6⟩ := HS1.out hb2; clear hw2 hb2 hs2))
 have H1 := kept (wnum1 w1.heap.size [] kd w2 HW2.out (by simp) (by omega)); with_reducible refine H1.out.mono ?_
 rintro e w3 ⟨rfl, h3⟩; have HB3 : Hid (Below w1.heap.size w1 w3) := kept (h3.out.2.below HBX.out HBX.out.size (Nat.le_refl _)); obtain ⟨y0, y1, y2, y3, y4, y5, y6⟩ := HS1.out HB3.out; have H2 := kept (wnum8 w1.heap.size _ tx w3 h3.out.1 (by simp [be_length]) (by omega)); go_wp2_with fail
 with_reducible refine H2.out.mono ?_
 rintro e w4 ⟨rfl, h4⟩; have HB4 : Hid (Below w1.heap.size w1 w4) := kept (h4.out.2.below HB3.out HB3.out.size (Nat.le_refl _)); obtain ⟨x0, x1', x2', x3, x4, x5, x6⟩ := HS1.out HB4.out; have H3 := kept (wid_any w1.heap.size _ nx w4 h4.out.1 (by simp [be_length]) (by omega)); go_wp2_with fail
 with_reducible refine H3.out.mono ?_
 rintro e w5 ⟨rfl, h5⟩; have HB5 : Hid (Below w1.heap.size w1 w5) := kept (h5.out.2.below HB4.out HB4.out.size (Nat.le_refl _)); have HS5 := HS1.out HB5.out; have HW5 := kept h5.out.1; clear h3 h4 h5 H1 H2 H3; have hcw : IntKind.u64.wrap (cp : Int) = (cp : Int) := by rw [IntKind.wrap_u64]; omega
 go_wp2; refine wp_region_held_drew (S := (fun W' => Sev W' w.heap.size kd tx nx a1 n1 c1 a2 n2 c2 a3 n3 c3 a4 n4 c4)) (by kernel_rfl) ?_ (fun hHeld => ?_)
 · ((try dsimp only); (first | exact HS5 | exact HS1.out HB7.out | exact HS1.out HB6.out))
 refine hT 0 (some 18) ?_; refine hT 2 (some 20) ?_; refine hT 3 (some 21) ?_; refine hR 1 (fun K hK => ?_); go_simp
 ((go_at_call 130; (with_reducible refine (HCN _).out.mono ?_); rintro e w6 ⟨rfl, h6⟩); have HB6 : Hid (Below w1.heap.size w1 w6) := kept (below_to (below_of_drew1 h6) HB5.out); have HC := kept (wnum2 w1.heap.size _ cp w6 (HW5.out.below (below_of_drew1 h6)) (by simp [be_length]) (by omega)); have hixx := fun W => (HIK W).out; clear h6)
 (try go_wp2_with fail); refine hK.out _ _ ?_ (fun hHeld => ?_)
 · ((try dsimp only); (first | exact HS5 | exact HS1.out HB7.out | exact HS1.out HB6.out))
 clear hK K; (try simp only [Act.put, hA, h0, h1]); refine hT 4 (some 22) ?_; refine hT 5 (some 23) ?_; refine hR 6 (fun K hK => ?_); go_simp
 (go_at_call 128; (with_reducible refine HC.out.mono ?_); rintro e w7 ⟨rfl, h7⟩; have HB7 : Hid (Below w1.heap.size w1 w7) := kept (h7.out.2.below HB6.out HB6.out.size (Nat.le_refl _)))
 (try go_wp2_with fail); refine hK.out _ _ ?_ (fun hHeld => ?_)
 · ((try dsimp only); (first | exact HS5 | exact HS1.out HB7.out | exact HS1.out HB6.out))
 clear hK K; (try simp only [Act.put, hA, h0, h1]); refine wpAnyH_done (by kernel_rfl) ?_ _; clear hixx hcw; obtain ⟨u0, u1, u2, u3, u4, u5, u6⟩ := HS1.out HB7.out; have H8 := kept (HTH w1.heap.size _ h7.out.1 HBW1.out ⟨HB7.out, Nat.le_refl _⟩ (by simp [be_length]; omega)); go_wp2_with fail
 with_reducible refine H8.out.out.mono ?_
 rintro e w8 ⟨rfl, h8⟩; have HB8 : Hid (Below w1.heap.size w1 w8) := kept (h8.out.2.below HB7.out HB7.out.size (Nat.le_refl _)); have HBW8 : Hid (Below w.heap.size w w8) := kept (below_to HB8.out HBW1.out); have H9 := kept (seal_any (some ⟨w1.heap.size, 0, none⟩) 252 252 _ w8 h8.out.1.rd (Nat.le_refl _) (by omega) (HFF.out.below HBW8.out)); go_wp2_with (first | (go_at_call 124; (with_reducible refine (H9.out).mono ?_); rintro e w9 ⟨A9, c9, rfl, ho, hb9⟩; have HO := kept ho; have HB9 := kept hb9; clear ho hb9))
 go_ret2; refine ⟨A9, c9, rfl, ?_, below_to HB9.out HBW8.out⟩; have := own_mono HO.out HBW8.out.size; rw [HBO.out, HB.out]; simpa only [List.nil_append, List.append_assoc] using this
theorem new_cells4 (w : World) (v0 v1 v2 v3 : Value) (t : TypeId) (j : Nat) (u : Value) (h : [v0, v1, v2, v3][j]? = some u) : (w.alloc (.cells #[v0, v1, v2, v3] t)).cell? ((⟨w.heap.size, 0, none⟩ : Addr).add j) = some u := by
 rw [add_at, Nat.zero_add, cell_of_row _ w.heap.size j _ _ _ (heap_alloc_new w _)]; simpa using h
theorem new_cells2 (w : World) (v0 v1 : Value) (t : TypeId) (j : Nat) (u : Value) (h : [v0, v1][j]? = some u) : (w.alloc (.cells #[v0, v1] t)).cell? ((⟨w.heap.size, 0, none⟩ : Addr).add j) = some u := by
 rw [add_at, Nat.zero_add, cell_of_row _ w.heap.size j _ _ _ (heap_alloc_new w _)]; simpa using h
section
variable {w w' w0 : World} {r g : Nat} {A : Option Addr} {n c : Nat} {xs : List UInt8} {s : Rst} {t : TypeId} {cs : List Value}
theorem Only.set_new (h : Only w0 w r) (hg : w0.heap.size ≤ g) (i : Nat) (u : Value) : Only w0 (w.setCell ⟨g, i, none⟩ u) r :=
 ⟨h.os, h.tape, h.output, by simpa [World.setCell] using h.size, fun k hk hn => (Below.heap_setCell w ⟨g, i, none⟩ u k (by show k ≠ g; omega)).trans (h.block k hk hn)⟩
theorem Only.alloc (h : Only w0 w r) (o : Obj) : Only w0 (w.alloc o) r := h.trans (Only.alloc_ w o r)
end
def rkid (xs : List UInt8) (s : Rst) : Kd × Rst :=
 let a := rnum xs 1 s
 let b := rbytes xs a.1 a.2
 let d := rnum xs 4 b.2
 (⟨b.1, (d.1 : Int)⟩, d.2)
def ritem (xs : List UInt8) (s : Rst) : Itm × Rst :=
 let a := rnum xs 1 s
 let z := rnum xs 2 a.2
 let b := rbytes xs a.1 z.2
 if z.1 ≤ 64 then
  let d := rbytes xs z.1 b.2
  (⟨b.1, d.1, (z.1 : Int), 0⟩, d.2)
 else
  let d := rnum xs 4 b.2
  (⟨b.1, [], (z.1 : Int), (d.1 : Int)⟩, d.2)
theorem readKid_any (r : Nat) (A : Option Addr) (n c : Nat) (xs : List UInt8) (s : Rst) (w : World) (h : RS w r A n c xs s) :
 Calls Tryz.prog 234 #[.pointer (some ⟨r, 0, none⟩)] w fun e w' => ∃ L : LayK, e = .returned L.val ∧ Hid (RdKd w' L (rkid xs s).1 ∧ New L.ka L.kn w.heap.size) ∧ Hid (RS w' r A n c xs (rkid xs s).2 ∧ Only w w' r) := by
 have H1 := fun o => num1 r A n c xs s (w.alloc o) (h.alloc o)
 have hlt := rnum_lt xs 1 s; obtain ⟨v1, hv1⟩ : ∃ v, (rnum xs 1 s).1 = v := ⟨_, rfl⟩
 obtain ⟨s1, hs1⟩ : ∃ v, (rnum xs 1 s).2 = v := ⟨_, rfl⟩
 rw [hv1, hs1] at H1; rw [hv1] at hlt; have H2 := fun W (k : RS W r A n c xs s1) => bytes_any r A n c xs s1 v1 W k (by omega)
 obtain ⟨b, hb⟩ : ∃ v, (rbytes xs v1 s1).1 = v := ⟨_, rfl⟩
 obtain ⟨s2, hs2⟩ : ∃ v, (rbytes xs v1 s1).2 = v := ⟨_, rfl⟩
 rw [hb, hs2] at H2; have H3 := fun W (k : RS W r A n c xs s2) => readID_any r A n c xs s2 W k
 obtain ⟨v3, hv3⟩ : ∃ v, (rnum xs 4 s2).1 = v := ⟨_, rfl⟩
 obtain ⟨s3, hs3⟩ : ∃ v, (rnum xs 4 s2).2 = v := ⟨_, rfl⟩
 rw [hv3, hs3] at H3; have hk : rkid xs s = (⟨b, (v3 : Int)⟩, s3) := by simp [rkid, hv1, hs1, hb, hs2, hv3, hs3]
 rw [hk]; have H1 := kept H1; have H2 := kept H2; have H3 := kept H3; have HLT := kept h.lt; have HAP := kept (h.apart (Nat.le_refl _)); have hw1 : IntKind.i64.wrap (v1 : Int) = (v1 : Int) := IntWalk.i64_in _ ⟨by omega, by omega⟩; have HV := kept (show v1 ≤ 256 by omega); clear h hv1 hs1 hb hs2 hv3 hs3 hk hlt; go_enter Tryz.func234, Tryz.ntmps234; go_wp2_with fail
 with_reducible refine (H1.out _).mono ?_
 rintro e w1 ⟨rfl, hR1, hO1⟩; have HB1 : Hid (Blk w1 w.heap.size 131 [.slice none 0 0, .int .i64 0]) := kept ((Blk.new w 131 #[.slice none 0 0, .int .i64 0]).only hO1 (by have := HLT.out; show w.heap.size ≠ r; omega)); have HR1 := kept hR1; have HO1 := kept ((Only.alloc_ w _ r).trans hO1); clear hR1 hO1; go_wp2_with fail
 with_reducible refine (H2.out _ HR1.out).mono ?_
 rintro e w2 ⟨A2, n2, c2, rfl, hr2, hR2, hO2⟩; have HB2 := kept (HB1.out.only hO2 (by have := HLT.out; show w.heap.size ≠ r; omega)); have HR2 := kept hR2; have HO2 := kept (HO1.out.trans hO2); have HD2 := kept (And.intro hr2.1 (And.intro (fun g hg => hr2.2.1 g (Nat.lt_of_lt_of_le hg HO1.out.size) : New A2 n2 w.heap.size) (And.intro (hr2.2.1 w.heap.size (by have := HO1.out.size; have := HB1.out.lt; omega)) (And.intro (hr2.2.1 r (by have := HO1.out.size; have := HLT.out; omega)) hr2.2.2.2)))); clear hR2 hO2 hr2; go_wp2_with fail
 with_reducible refine (H3.out _ HR2.out).mono ?_
 rintro e w3 ⟨rfl, hR3, hO3⟩; have hB3 := HB2.out.only hO3 (by have := HLT.out; show w.heap.size ≠ r; omega); have f0 := hB3.frozen 0; have f1 := hB3.frozen 1; have e0 : w3.cell? ⟨w.heap.size, 0, none⟩ = some (.slice none 0 0) := hB3.cell 0; have e1 : w3.cell? ⟨w.heap.size, 1, none⟩ = some (.int .i64 0) := hB3.cell 1; have HB3 := kept hB3; have HR3 := kept hR3; have HO3 := kept (HO2.out.trans hO3); have HD3 := kept (HD2.out.1.only HD2.out.2.2.2.1 hO3); clear hR3 hO3 hB3; go_wp2; have HB7 := (HB3.out.set_ 0 (.slice A2 n2 c2)).set_ 1 (.int .i64 (v3 : Int)); have HO7 := (HO3.out.set_new (g := w.heap.size) (Nat.le_refl _) 0 (.slice A2 n2 c2)).set_new (g := w.heap.size) (Nat.le_refl _) 1 (.int .i64 (v3 : Int)); have hne : r ≠ w.heap.size := by have := HLT.out; omega
 have HR7 := (HR3.out.set_ hne HAP.out 0 (.slice A2 n2 c2)).set_ hne HAP.out 1 (.int .i64 (v3 : Int)); have HD7 := HD3.out.grown HD2.out.2.2.1 (((Only.refl w3 w.heap.size).setCell 0 (.slice A2 n2 c2)).setCell 1 (.int .i64 (v3 : Int))); generalize ((w3.setCell ⟨w.heap.size, 0, none⟩ (.slice A2 n2 c2)).setCell ⟨w.heap.size, 1, none⟩ (.int .i64 (v3 : Int))) = W at HB7 HO7 HR7 HD7 ⊢; have v0 : W.cell? ⟨w.heap.size, 0, none⟩ = some (.slice A2 n2 c2) := HB7.cell 0; have v1 : W.cell? ⟨w.heap.size, 1, none⟩ = some (.int .i64 (v3 : Int)) := HB7.cell 1; refine bodyPost_ret (v := .agg #[.slice A2 n2 c2, .int .i64 (v3 : Int)]) (by simp [results, Tryz.results234, go_sem, v0, v1]) rfl ⟨⟨A2, n2, c2, v3⟩, rfl, ⟨⟨HD7, rfl, ?_⟩, HD2.out.2.1⟩, HR7, HO7⟩; have := HD2.out.2.2.2.2; have := HV.out; show n2 ≤ _; omega
structure IS (w w' : World) (r : Nat) (A : Option Addr) (n c : Nat) (xs : List UInt8) (s : Rst) (g : Nat) (v0 v1 v2 v3 : Value) : Prop where
 rs : RS w' r A n c xs s
 only : Only w w' r
 res : Blk w' w.heap.size 149 [.slice none 0 0, .slice none 0 0, .int .i64 0, .int .i64 0]
 blk : Blk w' g 149 [v0, v1, v2, v3]
 rq : r < w.heap.size
 qg : w.heap.size < g
 aq : apartA A n w.heap.size
 ag : apartA A n g
section
variable {w w1 w2 : World} {r g : Nat} {A : Option Addr} {n c : Nat} {xs : List UInt8} {s s' : Rst} {v0 v1 v2 v3 : Value}
theorem IS.call (h : IS w w1 r A n c xs s g v0 v1 v2 v3) (hr : RS w2 r A n c xs s') (ho : Only w1 w2 r) : IS w w2 r A n c xs s' g v0 v1 v2 v3 :=
 ⟨hr, h.only.trans ho, h.res.only ho (by have := h.rq; omega), h.blk.only ho (by have := h.rq; have := h.qg; omega), h.rq, h.qg, h.aq, h.ag⟩
theorem IS.set_ (h : IS w w1 r A n c xs s g v0 v1 v2 v3) (i : Nat) (u u0 u1 u2 u3 : Value) (e : [v0, v1, v2, v3].set i u = [u0, u1, u2, u3]) : IS w (w1.setCell ⟨g, i, none⟩ u) r A n c xs s g u0 u1 u2 u3 :=
 ⟨h.rs.set_ (by have := h.rq; have := h.qg; omega) h.ag i u, h.only.set_new (Nat.le_of_lt h.qg) i u, h.res.far (p := ⟨g, i, none⟩) (by have := h.qg; show w.heap.size ≠ g; omega) u, by rw [← e]; exact h.blk.set_ i u, h.rq, h.qg, h.aq, h.ag⟩
structure NS (w w' : World) (r g : Nat) (A' : Option Addr) (n' : Nat) (b : List UInt8) : Prop where
 rd : Rd w' A' n' b
 new : New A' n' w.heap.size
 aq : apartA A' n' w.heap.size
 ag : apartA A' n' g
 ar : apartA A' n' r
theorem IS.bytes (h : IS w w1 r A n c xs s g v0 v1 v2 v3) {A' : Option Addr} {n' : Nat} {b : List UInt8} (hd : Rd w2 A' n' b) (hn : New A' n' w1.heap.size) : NS w w2 r g A' n' b :=
 ⟨hd, fun g hg => hn g (by have := h.only.size; omega), hn _ h.res.lt, hn _ h.blk.lt, hn _ (by have := h.only.size; have := h.rq; omega)⟩
theorem NS.call {w1 w2 : World} {A' : Option Addr} {n' : Nat} {b : List UInt8} (h : NS w w1 r g A' n' b) (ho : Only w1 w2 r) : NS w w2 r g A' n' b := ⟨h.rd.only h.ar ho, h.new, h.aq, h.ag, h.ar⟩
theorem NS.set_ {w1 : World} {A' : Option Addr} {n' : Nat} {b : List UInt8} (h : NS w w1 r g A' n' b) (i : Nat) (u : Value) : NS w (w1.setCell ⟨g, i, none⟩ u) r g A' n' b := ⟨h.rd.grown h.ag ((Only.refl w1 g).setCell i u), h.new, h.aq, h.ag, h.ar⟩
theorem NS.setq {w1 : World} {A' : Option Addr} {n' : Nat} {b : List UInt8} (h : NS w w1 r g A' n' b) (i : Nat) (u : Value) : NS w (w1.setCell ⟨w.heap.size, i, none⟩ u) r g A' n' b := ⟨h.rd.grown h.aq ((Only.refl w1 w.heap.size).setCell i u), h.new, h.aq, h.ag, h.ar⟩
theorem IS.fin (h : IS w w1 r A n c xs s g v0 v1 v2 v3) (u0 u1 u2 u3 : Value) :
 RS ((((w1.setCell ⟨w.heap.size, 0, none⟩ u0).setCell ⟨w.heap.size, 1, none⟩ u1).setCell ⟨w.heap.size, 2, none⟩ u2).setCell ⟨w.heap.size, 3, none⟩ u3) r A n c xs s ∧ Only w ((((w1.setCell ⟨w.heap.size, 0, none⟩ u0).setCell ⟨w.heap.size, 1, none⟩ u1).setCell ⟨w.heap.size, 2, none⟩ u2).setCell ⟨w.heap.size, 3, none⟩ u3) r ∧ Blk ((((w1.setCell ⟨w.heap.size, 0, none⟩ u0).setCell ⟨w.heap.size, 1, none⟩ u1).setCell ⟨w.heap.size, 2, none⟩ u2).setCell ⟨w.heap.size, 3, none⟩ u3) w.heap.size 149 [u0, u1, u2, u3] := by
 have hne : r ≠ w.heap.size := by have := h.rq; omega
 exact ⟨(((h.rs.set_ hne h.aq 0 u0).set_ hne h.aq 1 u1).set_ hne h.aq 2 u2).set_ hne h.aq 3 u3, (((h.only.set_new (Nat.le_refl _) 0 u0).set_new (Nat.le_refl _) 1 u1).set_new (Nat.le_refl _) 2 u2).set_new (Nat.le_refl _) 3 u3, (((h.res.set_ 0 u0).set_ 1 u1).set_ 2 u2).set_ 3 u3⟩
end
theorem readItem_any (r : Nat) (A : Option Addr) (n c : Nat) (xs : List UInt8) (s : Rst) (w : World) (h : RS w r A n c xs s) :
 Calls Tryz.prog 232 #[.pointer (some ⟨r, 0, none⟩)] w fun e w' => ∃ L : LayI, e = .returned (.agg #[.slice L.ka L.kn L.kc, .slice L.va L.vn L.vc, .int .i64 L.size, .int .i64 L.more]) ∧ Hid (RdIt w' L (ritem xs s).1 ∧ New L.ka L.kn w.heap.size ∧ New L.va L.vn w.heap.size ∧ (64 < (ritem xs s).1.size → L.va = none ∧ L.vc = 0)) ∧ Hid (RS w' r A n c xs (ritem xs s).2 ∧ Only w w' r) := by
 have H1 := fun o => num1 r A n c xs s (w.alloc o) (h.alloc o)
 have hlt := rnum_lt xs 1 s; obtain ⟨v1, hv1⟩ : ∃ v, (rnum xs 1 s).1 = v := ⟨_, rfl⟩
 obtain ⟨s1, hs1⟩ : ∃ v, (rnum xs 1 s).2 = v := ⟨_, rfl⟩
 rw [hv1, hs1] at H1; rw [hv1] at hlt; have H2 := fun W (k : RS W r A n c xs s1) => num2 r A n c xs s1 W k
 have hlt2 := rnum_lt xs 2 s1; obtain ⟨v2, hv2⟩ : ∃ v, (rnum xs 2 s1).1 = v := ⟨_, rfl⟩
 obtain ⟨s2, hs2⟩ : ∃ v, (rnum xs 2 s1).2 = v := ⟨_, rfl⟩
 rw [hv2, hs2] at H2; rw [hv2] at hlt2; have H3 := fun W (k : RS W r A n c xs s2) => bytes_any r A n c xs s2 v1 W k (by omega)
 obtain ⟨b, hb⟩ : ∃ v, (rbytes xs v1 s2).1 = v := ⟨_, rfl⟩
 obtain ⟨s3, hs3⟩ : ∃ v, (rbytes xs v1 s2).2 = v := ⟨_, rfl⟩
 rw [hb, hs3] at H3; have H1 := kept H1; have H2 := kept H2; have H3 := kept H3; have HLT := kept h.lt; have HAP := kept (h.apart (Nat.le_refl _)); have hw1 : IntKind.i64.wrap (v1 : Int) = (v1 : Int) := IntWalk.i64_in _ ⟨by omega, by omega⟩; have hw2 : IntKind.i64.wrap (v2 : Int) = (v2 : Int) := IntWalk.i64_in _ ⟨by omega, by omega⟩; have HV := kept (show v1 ≤ 256 by omega); by_cases hin : v2 ≤ 64
 · have H4 := fun W (k : RS W r A n c xs s3) => bytes_any r A n c xs s3 v2 W k (by omega)
   obtain ⟨d, hd⟩ : ∃ v, (rbytes xs v2 s3).1 = v := ⟨_, rfl⟩
   obtain ⟨s4, hs4⟩ : ∃ v, (rbytes xs v2 s3).2 = v := ⟨_, rfl⟩
   rw [hd, hs4] at H4; have hk : ritem xs s = (⟨b, d, (v2 : Int), 0⟩, s4) := by simp [ritem, hv1, hs1, hv2, hs2, hb, hs3, hin, hd, hs4]
   rw [hk]; have H4 := kept H4; have HIN := fun W => kept (isInline_any (v2 : Int) W true (by simp; omega))
   have HIN2 := kept hin; clear h hv1 hs1 hb hs2 hv2 hs3 hd hs4 hk hlt hlt2 hin; go_enter Tryz.func232, Tryz.ntmps232; go_wp2_with fail
   with_reducible refine (H1.out _).mono ?_
   rintro e w1 ⟨rfl, hR1, hO1⟩; have HB1 : Hid (Blk w1 w.heap.size 149 [.slice none 0 0, .slice none 0 0, .int .i64 0, .int .i64 0]) := kept ((Blk.new w 149 #[.slice none 0 0, .slice none 0 0, .int .i64 0, .int .i64 0]).only hO1 (by have := HLT.out; show w.heap.size ≠ r; omega)); have HR1 := kept hR1; have HO1 := kept ((Only.alloc_ w _ r).trans hO1); clear hR1 hO1; go_wp2_with fail
   with_reducible refine (H2.out _ HR1.out).mono ?_
   rintro e w2 ⟨rfl, hR2, hO2⟩; have HI2 : Hid (IS w (w2.alloc (.cells #[.slice none 0 0, .slice none 0 0, .int .i64 (v2 : Int), .int .i64 0] 149)) r A n c xs s2 w2.heap.size (.slice none 0 0) (.slice none 0 0) (.int .i64 (v2 : Int)) (.int .i64 0)) :=
    have hb2 := HB1.out.only hO2 (by have := HLT.out; show w.heap.size ≠ r; omega)
    kept ⟨hR2.alloc _, (HO1.out.trans hO2).alloc _, hb2.alloc _, Blk.new w2 149 #[.slice none 0 0, .slice none 0 0, .int .i64 (v2 : Int), .int .i64 0], HLT.out, hb2.lt, HAP.out, hR2.apart (Nat.le_refl _)⟩
   clear hR2 hO2; generalize hg : w2.heap.size = g at HI2; go_wp2_with fail
   with_reducible refine (H3.out _ HI2.out.rs).mono ?_
   rintro e w3 ⟨A1, n1, c1, rfl, hr3, hR3, hO3⟩; clear hg; have hI3 := HI2.out.call hR3 hO3; have f0 : w3.frozen? ⟨g, 0, none⟩ = false := hI3.blk.frozen 0; have e0 : w3.cell? ⟨g, 0, none⟩ = some (.slice none 0 0) := hI3.blk.cell 0; have HI3 := kept (hI3.set_ 0 (.slice A1 n1 c1) (.slice A1 n1 c1) (.slice none 0 0) (.int .i64 (v2 : Int)) (.int .i64 0) rfl); have HN3 := kept ((HI2.out.bytes hr3.1 hr3.2.1).set_ 0 (.slice A1 n1 c1)); have HM3 := kept hr3.2.2.2; have e2 : w3.cell? ⟨g, 2, none⟩ = some (.int .i64 (v2 : Int)) := hI3.blk.cell 2; clear hR3 hO3 hr3 hI3; go_wp2_with fail
   with_reducible refine (HIN _).out.mono ?_
   rintro e w4 ⟨rfl, rfl⟩; clear f0 e0 e2; generalize w3.setCell ⟨g, 0, none⟩ (.slice A1 n1 c1) = W3 at HI3 HN3 ⊢; have e2 : W3.cell? ⟨g, 2, none⟩ = some (.int .i64 (v2 : Int)) := HI3.out.blk.cell 2; go_wp2_with fail
   with_reducible refine (H4.out _ HI3.out.rs).mono ?_
   rintro e w5 ⟨A2, n2, c2, rfl, hr5, hR5, hO5⟩; clear e2; have hI5 := HI3.out.call hR5 hO5; have f1 : w5.frozen? ⟨g, 1, none⟩ = false := hI5.blk.frozen 1; have e1 : w5.cell? ⟨g, 1, none⟩ = some (.slice none 0 0) := hI5.blk.cell 1; have hI5' := hI5.set_ 1 (.slice A2 n2 c2) (.slice A1 n1 c1) (.slice A2 n2 c2) (.int .i64 (v2 : Int)) (.int .i64 0) rfl; have HN5 := kept ((HI3.out.bytes hr5.1 hr5.2.1).set_ 1 (.slice A2 n2 c2)); have HN4 := kept ((HN3.out.call hO5).set_ 1 (.slice A2 n2 c2)); have HM5 := kept hr5.2.2.2; have q0 : (w5.setCell ⟨g, 1, none⟩ (.slice A2 n2 c2)).cell? ⟨g, 0, none⟩ = some (.slice A1 n1 c1) := hI5'.blk.cell 0; have q1 : (w5.setCell ⟨g, 1, none⟩ (.slice A2 n2 c2)).cell? ⟨g, 1, none⟩ = some (.slice A2 n2 c2) := hI5'.blk.cell 1; have q2 : (w5.setCell ⟨g, 1, none⟩ (.slice A2 n2 c2)).cell? ⟨g, 2, none⟩ = some (.int .i64 (v2 : Int)) := hI5'.blk.cell 2; have q3 : (w5.setCell ⟨g, 1, none⟩ (.slice A2 n2 c2)).cell? ⟨g, 3, none⟩ = some (.int .i64 0) := hI5'.blk.cell 3; have p0 : w5.cell? ⟨w.heap.size, 0, none⟩ = some (.slice none 0 0) := hI5.res.cell 0; have p1 : w5.cell? ⟨w.heap.size, 1, none⟩ = some (.slice none 0 0) := hI5.res.cell 1; have p2 : w5.cell? ⟨w.heap.size, 2, none⟩ = some (.int .i64 0) := hI5.res.cell 2; have p3 : w5.cell? ⟨w.heap.size, 3, none⟩ = some (.int .i64 0) := hI5.res.cell 3; have t0 := hI5.res.frozen 0; have t1 := hI5.res.frozen 1; have t2 := hI5.res.frozen 2; have t3 := hI5.res.frozen 3; have hgq : g ≠ w.heap.size := by have := hI5.qg; omega
   have k0 : w5.cell? ⟨g, 0, none⟩ = some (.slice A1 n1 c1) := hI5.blk.cell 0; have k2 : w5.cell? ⟨g, 2, none⟩ = some (.int .i64 (v2 : Int)) := hI5.blk.cell 2; have k3 : w5.cell? ⟨g, 3, none⟩ = some (.int .i64 0) := hI5.blk.cell 3; have HI5 := kept hI5'; clear hI5 hI5' hr5 hR5 hO5 q0 q1 q2 q3; go_wp2; have HE := HI5.out.fin (.slice A1 n1 c1) (.slice A2 n2 c2) (.int .i64 (v2 : Int)) (.int .i64 0); have HK := (((HN4.out.setq 0 (.slice A1 n1 c1)).setq 1 (.slice A2 n2 c2)).setq 2 (.int .i64 (v2 : Int))).setq 3 (.int .i64 0); have HV5 := (((HN5.out.setq 0 (.slice A1 n1 c1)).setq 1 (.slice A2 n2 c2)).setq 2 (.int .i64 (v2 : Int))).setq 3 (.int .i64 0); generalize (((((w5.setCell ⟨g, 1, none⟩ (.slice A2 n2 c2)).setCell ⟨w.heap.size, 0, none⟩ (.slice A1 n1 c1)).setCell ⟨w.heap.size, 1, none⟩ (.slice A2 n2 c2)).setCell ⟨w.heap.size, 2, none⟩ (.int .i64 (v2 : Int))).setCell ⟨w.heap.size, 3, none⟩ (.int .i64 0)) = X at HE HK HV5 ⊢; obtain ⟨hRX, hOX, hBX⟩ := HE; have x0 : X.cell? ⟨w.heap.size, 0, none⟩ = some (.slice A1 n1 c1) := hBX.cell 0; have x1 : X.cell? ⟨w.heap.size, 1, none⟩ = some (.slice A2 n2 c2) := hBX.cell 1; have x2 : X.cell? ⟨w.heap.size, 2, none⟩ = some (.int .i64 (v2 : Int)) := hBX.cell 2; have x3 : X.cell? ⟨w.heap.size, 3, none⟩ = some (.int .i64 0) := hBX.cell 3; have := HV.out; have := HM3.out; have := HM5.out; have := HIN2.out; exact bodyPost_ret (v := .agg #[.slice A1 n1 c1, .slice A2 n2 c2, .int .i64 (v2 : Int), .int .i64 0]) (by simp [results, Tryz.results232, go_sem, x0, x1, x2, x3]) rfl ⟨⟨A1, n1, c1, A2, n2, c2, v2, 0⟩, rfl, ⟨⟨HK.rd, HV5.rd, rfl, rfl, by show n1 ≤ _; omega, by show n2 ≤ _; omega⟩, HK.new, HV5.new, fun h64 => absurd (show (64 : Int) < (v2 : Int) from h64) (by omega)⟩, hRX, hOX⟩
 · have H4 := fun W (k : RS W r A n c xs s3) => readID_any r A n c xs s3 W k
   obtain ⟨d, hd⟩ : ∃ v, (rnum xs 4 s3).1 = v := ⟨_, rfl⟩
   obtain ⟨s4, hs4⟩ : ∃ v, (rnum xs 4 s3).2 = v := ⟨_, rfl⟩
   rw [hd, hs4] at H4; have hk : ritem xs s = (⟨b, [], (v2 : Int), (d : Int)⟩, s4) := by simp [ritem, hv1, hs1, hv2, hs2, hb, hs3, hin, hd, hs4]
   rw [hk]; have H4 := kept H4; have HIN := fun W => kept (isInline_any (v2 : Int) W false (by simp; omega))
   have HIN2 := kept hin; clear h hv1 hs1 hb hs2 hv2 hs3 hd hs4 hk hlt hlt2 hin; go_enter Tryz.func232, Tryz.ntmps232; go_wp2_with fail
   with_reducible refine (H1.out _).mono ?_
   rintro e w1 ⟨rfl, hR1, hO1⟩; have HB1 : Hid (Blk w1 w.heap.size 149 [.slice none 0 0, .slice none 0 0, .int .i64 0, .int .i64 0]) := kept ((Blk.new w 149 #[.slice none 0 0, .slice none 0 0, .int .i64 0, .int .i64 0]).only hO1 (by have := HLT.out; show w.heap.size ≠ r; omega)); have HR1 := kept hR1; have HO1 := kept ((Only.alloc_ w _ r).trans hO1); clear hR1 hO1; go_wp2_with fail
   with_reducible refine (H2.out _ HR1.out).mono ?_
   rintro e w2 ⟨rfl, hR2, hO2⟩; have HI2 : Hid (IS w (w2.alloc (.cells #[.slice none 0 0, .slice none 0 0, .int .i64 (v2 : Int), .int .i64 0] 149)) r A n c xs s2 w2.heap.size (.slice none 0 0) (.slice none 0 0) (.int .i64 (v2 : Int)) (.int .i64 0)) :=
    have hb2 := HB1.out.only hO2 (by have := HLT.out; show w.heap.size ≠ r; omega)
    kept ⟨hR2.alloc _, (HO1.out.trans hO2).alloc _, hb2.alloc _, Blk.new w2 149 #[.slice none 0 0, .slice none 0 0, .int .i64 (v2 : Int), .int .i64 0], HLT.out, hb2.lt, HAP.out, hR2.apart (Nat.le_refl _)⟩
   clear hR2 hO2; generalize hg : w2.heap.size = g at HI2; go_wp2_with fail
   with_reducible refine (H3.out _ HI2.out.rs).mono ?_
   rintro e w3 ⟨A1, n1, c1, rfl, hr3, hR3, hO3⟩; clear hg; have hI3 := HI2.out.call hR3 hO3; have f0 : w3.frozen? ⟨g, 0, none⟩ = false := hI3.blk.frozen 0; have e0 : w3.cell? ⟨g, 0, none⟩ = some (.slice none 0 0) := hI3.blk.cell 0; have HI3 := kept (hI3.set_ 0 (.slice A1 n1 c1) (.slice A1 n1 c1) (.slice none 0 0) (.int .i64 (v2 : Int)) (.int .i64 0) rfl); have HN3 := kept ((HI2.out.bytes hr3.1 hr3.2.1).set_ 0 (.slice A1 n1 c1)); have HM3 := kept hr3.2.2.2; have e2 : w3.cell? ⟨g, 2, none⟩ = some (.int .i64 (v2 : Int)) := hI3.blk.cell 2; clear hR3 hO3 hr3 hI3; go_wp2_with fail
   with_reducible refine (HIN _).out.mono ?_
   rintro e w4 ⟨rfl, rfl⟩; clear f0 e0 e2; generalize w3.setCell ⟨g, 0, none⟩ (.slice A1 n1 c1) = W3 at HI3 HN3 ⊢; have e2 : W3.cell? ⟨g, 2, none⟩ = some (.int .i64 (v2 : Int)) := HI3.out.blk.cell 2; go_wp2_with fail
   with_reducible refine (H4.out _ HI3.out.rs).mono ?_
   rintro e w5 ⟨rfl, hR5, hO5⟩; clear e2; have hI5 := HI3.out.call hR5 hO5; have f1 : w5.frozen? ⟨g, 3, none⟩ = false := hI5.blk.frozen 3; have e1 : w5.cell? ⟨g, 3, none⟩ = some (.int .i64 0) := hI5.blk.cell 3; have hI5' := hI5.set_ 3 (.int .i64 (d : Int)) (.slice A1 n1 c1) (.slice none 0 0) (.int .i64 (v2 : Int)) (.int .i64 (d : Int)) rfl; have HN4 := kept ((HN3.out.call hO5).set_ 3 (.int .i64 (d : Int))); have p0 : w5.cell? ⟨w.heap.size, 0, none⟩ = some (.slice none 0 0) := hI5.res.cell 0; have p1 : w5.cell? ⟨w.heap.size, 1, none⟩ = some (.slice none 0 0) := hI5.res.cell 1; have p2 : w5.cell? ⟨w.heap.size, 2, none⟩ = some (.int .i64 0) := hI5.res.cell 2; have p3 : w5.cell? ⟨w.heap.size, 3, none⟩ = some (.int .i64 0) := hI5.res.cell 3; have t0 := hI5.res.frozen 0; have t1 := hI5.res.frozen 1; have t2 := hI5.res.frozen 2; have t3 := hI5.res.frozen 3; have hgq : g ≠ w.heap.size := by have := hI5.qg; omega
   have k0 : w5.cell? ⟨g, 0, none⟩ = some (.slice A1 n1 c1) := hI5.blk.cell 0; have k1 : w5.cell? ⟨g, 1, none⟩ = some (.slice none 0 0) := hI5.blk.cell 1; have k2 : w5.cell? ⟨g, 2, none⟩ = some (.int .i64 (v2 : Int)) := hI5.blk.cell 2; have HI5 := kept hI5'; clear hI5 hI5' hR5 hO5; go_wp2; have HE := HI5.out.fin (.slice A1 n1 c1) (.slice none 0 0) (.int .i64 (v2 : Int)) (.int .i64 (d : Int)); have HK := (((HN4.out.setq 0 (.slice A1 n1 c1)).setq 1 (.slice none 0 0)).setq 2 (.int .i64 (v2 : Int))).setq 3 (.int .i64 (d : Int)); generalize (((((w5.setCell ⟨g, 3, none⟩ (.int .i64 (d : Int))).setCell ⟨w.heap.size, 0, none⟩ (.slice A1 n1 c1)).setCell ⟨w.heap.size, 1, none⟩ (.slice none 0 0)).setCell ⟨w.heap.size, 2, none⟩ (.int .i64 (v2 : Int))).setCell ⟨w.heap.size, 3, none⟩ (.int .i64 (d : Int))) = X at HE HK ⊢; obtain ⟨hRX, hOX, hBX⟩ := HE; have x0 : X.cell? ⟨w.heap.size, 0, none⟩ = some (.slice A1 n1 c1) := hBX.cell 0; have x1 : X.cell? ⟨w.heap.size, 1, none⟩ = some (.slice none 0 0) := hBX.cell 1; have x2 : X.cell? ⟨w.heap.size, 2, none⟩ = some (.int .i64 (v2 : Int)) := hBX.cell 2; have x3 : X.cell? ⟨w.heap.size, 3, none⟩ = some (.int .i64 (d : Int)) := hBX.cell 3; have := HV.out; have := HM3.out; exact bodyPost_ret (v := .agg #[.slice A1 n1 c1, .slice none 0 0, .int .i64 (v2 : Int), .int .i64 (d : Int)]) (by simp [results, Tryz.results232, go_sem, x0, x1, x2, x3]) rfl ⟨⟨A1, n1, c1, none, 0, 0, v2, d⟩, rfl, ⟨⟨HK.rd, Rd.nil_ _ _, rfl, rfl, by show n1 ≤ _; omega, Nat.zero_le _⟩, HK.new, New.nil_ _ _, fun _ => ⟨rfl, rfl⟩⟩, hRX, hOX⟩
theorem below_drewN (w : World) (q : Nat) : Below w.heap.size w (w.drewN q) := ⟨rfl, rfl, rfl, Nat.le_refl _, fun _ _ => rfl⟩
def rid (xs : List UInt8) (s : Rst) : Int × Rst := (((rnum xs 4 s).1 : Int), (rnum xs 4 s).2)
def rlist {α : Type} (one : Rst → α × Rst) : Nat → Rst → List α × Rst
 | 0, s => ([], s)
 | k + 1, s => if s.2 ≠ 0 then ([], s) else ((one s).1 :: (rlist one k (one s).2).1, (rlist one k (one s).2).2)
theorem rlist_next {α : Type} {one : Rst → α × Rst} {count i : Nat} {s t : Rst} {I : List α} (h : rlist one count s = (I ++ (rlist one (count - i) t).1, (rlist one (count - i) t).2)) (hi : i < count) (ht : t.2 = 0) :
 rlist one count s = (I ++ [(one t).1] ++ (rlist one (count - (i + 1)) (one t).2).1, (rlist one (count - (i + 1)) (one t).2).2) := by
 rw [h, show count - i = (count - (i + 1)) + 1 by omega]; simp [rlist, ht]
def lenV : Value → Nat
 | .slice _ n _ => n
 | _ => 0
def RLs {Λ α : Type} (K : Sort' Λ α) (e : TypeId) (w : World) (r : Nat) (A : Option Addr) (n c : Nat) (xs : List UInt8) (one : Rst → α × Rst) (count : Nat) (s0 : Rst) (A' : Option Addr) (i c' : Nat) (wr : World) : Prop :=
 ∃ I s, RS wr r A n c xs s ∧ Only w wr r ∧ Ow K wr w.heap.size e (fun g => g < w.heap.size) A' i c' I ∧ rlist one count s0 = (I ++ (rlist one (count - i) s).1, (rlist one (count - i) s).2)
theorem RS.self {w : World} {r : Nat} {A : Option Addr} {n c : Nat} {xs : List UInt8} {s : Rst} (h : RS w r A n c xs s) : apartA A n r := fun a e h0 => by
 obtain ⟨a', e', hc⟩ := h.1.2.2 h0; rw [e] at e'; obtain rfl := Option.some.inj e'; exact h.1.apart (hc 0 (by rw [h.len_]; exact h0))
theorem RS.back {w w2 w4 : World} {r : Nat} {A : Option Addr} {n c : Nat} {xs : List UInt8} {s t : Rst} (h : RS w r A n c xs s) (hw : RS w2 r A n c xs t) (ho : Only w w2 r) (hb : Below w.heap.size w2 w4) : RS w4 r A n c xs t ∧ Only w w4 r :=
 have k : Only w w4 r := ⟨hb.os.trans ho.os, hb.tape.trans ho.tape, hb.output.trans ho.output, Nat.le_trans ho.size hb.size, fun k hk hn => (hb.block k hk).trans (ho.block k hk hn)⟩
 ⟨⟨⟨(hb.block r h.lt).trans hw.1.1, h.1.2.only h.self k⟩, hw.2⟩, k⟩
def kItemD : Sort' LayI Itm where
 size := 4
 cells := kItem.cells
 R w L x := RdIt w L x ∧ (64 < x.size → L.va = none ∧ L.vc = 0)
 apart := kItem.apart
 pos := kItem.pos
 len := kItem.len
 one := kItem.one
 fresh h hg := kItem.fresh (show kItem.R _ _ _ from h.1) hg
 keep h ha hg := ⟨kItem.keep (show kItem.R _ _ _ from h.1) ha hg, h.2⟩
theorem Ow.dec {w : World} {base : Nat} {e : TypeId} {F : Nat → Prop} {A : Option Addr} {n c : Nat} {I : List Itm} (h : Ow kItemD w base e F A n c I) : Ow kItem w base e F A n c I := by
 obtain ⟨Ls, h1, h2, ho, hrd, hap, hF⟩ := h; exact ⟨Ls, h1, h2, ho, fun k a b => (hrd k a b).1, hap, hF⟩
theorem itemInfo : (Tryz.prog.info? 149).map (fun i => (i.zero, i.size, i.bytes)) = some (some (.agg #[.slice none 0 0, .slice none 0 0, .int .i64 0, .int .i64 0]), kItem.size, 64) := by kernel_rfl
theorem kidInfo : (Tryz.prog.info? 131).map (fun i => (i.zero, i.size, i.bytes)) = some (some (.agg #[.slice none 0 0, .int .i64 0]), kKid.size, 32) := by kernel_rfl
theorem numInfo : (Tryz.prog.info? 3).map (fun i => (i.zero, i.size, i.bytes)) = some (some (.int .i64 0), kNum.size, 8) := by kernel_rfl
theorem new_cells1 (w : World) (v0 : Value) (t : TypeId) (j : Nat) (u : Value) (h : [v0][j]? = some u) : (w.alloc (.cells #[v0] t)).cell? ((⟨w.heap.size, 0, none⟩ : Addr).add j) = some u := by
 rw [add_at, Nat.zero_add, cell_of_row _ w.heap.size j _ _ _ (heap_alloc_new w _)]; simpa using h
theorem end_more (r : Nat) (A : Option Addr) (n c : Nat) (xs : List UInt8) (s : Rst) (w : World) (h : RS w r A n c xs s) (hs : s.2 = 0) :
 Calls Tryz.prog 187 #[.pointer (some ⟨r, 0, none⟩)] w fun e w' => ∃ z : Int, e = .returned (.int .i64 z) ∧ Hid ((z != 3) = true) ∧ Hid (∃ q, w' = w.drewN q) := by
 refine (endR_any r A n c xs s.1 s.2 w h.1 h.2.2.2.2 h.2.1).mono ?_; rintro e w' ⟨rfl, hq⟩; refine ⟨_, rfl, ?_, hq⟩; show _ = _; rw [hs]; unfold endE; simp only [ne_eq, not_true_eq_false, if_false]
 split <;> decide
theorem end_stop (r : Nat) (A : Option Addr) (n c : Nat) (xs : List UInt8) (s : Rst) (w : World) (h : RS w r A n c xs s) (hs : s.2 ≠ 0) :
 Calls Tryz.prog 187 #[.pointer (some ⟨r, 0, none⟩)] w fun e w' => e = .returned (.int .i64 3) ∧ Hid (∃ q, w' = w.drewN q) := by
 refine (endR_any r A n c xs s.1 s.2 w h.1 h.2.2.2.2 h.2.1).mono ?_; rintro e w' ⟨rfl, hq⟩; have h3 : s.2 = 3 := by rcases h.2.2.1 with e | e; exact absurd e hs; exact e
 exact ⟨by rw [h3]; rfl, hq⟩
theorem readID_rid (r : Nat) (A : Option Addr) (n c : Nat) (xs : List UInt8) (s : Rst) (w : World) (h : RS w r A n c xs s) :
 Calls Tryz.prog 230 #[.pointer (some ⟨r, 0, none⟩)] w fun e w' => e = .returned (.int .i64 (rid xs s).1) ∧ Hid (RS w' r A n c xs (rid xs s).2 ∧ Only w w' r) := readID_any r A n c xs s w h
theorem readListN_any (r : Nat) (A : Option Addr) (n c : Nat) (xs : List UInt8) (s : Rst) (count : Nat) (w : World) (h : RS w r A n c xs s) (hc : count ≤ 65535) :
 Calls Tryz.prog 235 #[.pointer (some ⟨r, 0, none⟩), .int .i64 (count : Int), .func (.func 230) #[] #[]] w fun e w' => ∃ A' i c', e = .returned (.slice A' i c') ∧ Hid (Ow kNum w' w.heap.size 3 (fun g => g < w.heap.size) A' i c' (rlist (rid xs) count s).1 ∧ RS w' r A n c xs (rlist (rid xs) count s).2 ∧ Only w w' r ∧ i ≤ count) := by
 have HLT := kept h.lt; have H0 := kept h; have hst : Hid (RLs kNum 3 w r A n c xs (rid xs) count s none 0 0 w) := kept ⟨[], s, h, Only.refl _ _, Ow.nil_ _, by simp⟩; clear h; go_enter Tryz.func235, Tryz.ntmps235; go_wp2; go_loopw [7] (fun v wr => ∃ (A' : Option Addr) (i c' : Nat), i ≤ count ∧ v = .slice A' i c' ∧ Hid (RLs kNum 3 w r A n c xs (rid xs) count s A' i c' wr)) (fun v _ => count - lenV v)
 case atStart => exact ⟨none, 0, 0, by omega, rfl, hst⟩
 case round =>
  obtain ⟨A', i, c', hi, rfl, HST⟩ := hrel; by_cases hlt : i < count
  · obtain ⟨I, t, hr, ho, how, heq⟩ := HST.out; have hd : decide (i < count) = true := by simp [hlt]
    by_cases ht : t.2 = 0
    · have HE := kept (end_more r A n c xs t wr hr ht); have HN := fun q => readID_rid r A n c xs t (wr.drewN q) (hr.drewN q)
      have HEQ := kept (rlist_next (one := rid xs) heq (by omega) ht); obtain ⟨s', hs'⟩ : ∃ v, (rid xs t).2 = v := ⟨_, rfl⟩
      obtain ⟨y, hy⟩ : ∃ v, (rid xs t).1 = v := ⟨_, rfl⟩
      rw [hs', hy] at HEQ; simp only [hs', hy] at HN; have HN := fun q => kept (HN q)
      have HON := kept ho; have HOW := kept how; clear hr ho how heq HST hs' hy ht; go_wp2_with fail
      with_reducible refine HE.out.mono ?_
      rintro e w1 ⟨z, rfl, hz, hq⟩; obtain ⟨q, rfl⟩ := hq.out; have hz1 := hz.out; go_wp2_with fail
      with_reducible refine (HN _).out.mono ?_
      rintro e w2 ⟨rfl, hR2, hO2⟩; have HY : Hid (kNum.R (w2.alloc (.cells #[.int .i64 y] 3)) y y ∧ ∀ g, g < wr.heap.size → kNum.apart y g) := kept ⟨rfl, fun _ _ => trivial⟩; have HO2 := kept ((HON.out.drewN q).trans hO2); have hw2 : Ow kNum w2 w.heap.size 3 (fun g => g < w.heap.size) A' i c' I := (HOW.out.below (below_drewN _ q)).turn hO2 (.inl HLT.out); have HW2 := kept (hw2.below ((Below.refl _ w2).alloc (Nat.le_refl _) (.cells #[.int .i64 y] 3))); have HR2 := kept hR2; clear hz hq hz1 hw2 hR2 hO2; go_wp2_with (first | (at_builtin; refine wpList_append_ow (K := kNum) (F := fun g => g < w.heap.size) rfl (.tmp 17) (.tmp 21) 60 rfl Tryz.underlying60 numInfo rfl rfl HW2.out ⟨w2.heap.size, 0, none⟩ 1 y y rfl (fun j u hu => new_cells1 w2 (.int .i64 y) 3 j u hu) HY.out.1 (fun g e => HY.out.2 g (by have := (HOW.out.lt e).2; exact this)) (fun g e => HY.out.2 g (Nat.lt_of_lt_of_le e HON.out.size)) (fun g e => Nat.lt_of_lt_of_le (Nat.lt_of_lt_of_le e HO2.out.size) ((Below.refl _ w2).alloc (Nat.le_refl _) _).size) (by unfold maxLen; omega) (by omega) (Nat.le_trans HO2.out.size ((Below.refl _ w2).alloc (Nat.le_refl _) _).size) ?_; intro A4 c4' w4 how4 hb4 hk4; have HNX : Hid (RLs kNum 3 w r A n c xs (rid xs) count s A4 (i + 1) c4' w4) := kept (by have hb := H0.out.back (HR2.out.alloc _) (HO2.out.alloc _) hb4; exact ⟨I ++ [y], s', hb.1, hb.2, how4, by rw [← Nat.sub_sub] at *; exact HEQ.out⟩); clear how4 hb4 hk4))
      go_roundw
      case rel => exact ⟨A4, i + 1, c4', by omega, rfl, HNX⟩
      case measure => simp [lenV]; omega
    · have HE := kept (end_stop r A n c xs t wr hr ht); have hfin : rlist (rid xs) count s = (I, t) := by
       rw [heq, show count - i = (count - i - 1) + 1 by omega]; simp [rlist, ht]
      have HFI := kept hfin; have HRR := fun q => kept (And.intro (hr.drewN q) (ho.drewN q))
      have HOW := fun q => kept (how.below (below_drewN _ q))
      clear hr ho how heq HST ht hfin; go_wp2_with fail
      with_reducible refine HE.out.mono ?_
      rintro e w1 ⟨rfl, hq⟩; obtain ⟨q, rfl⟩ := hq.out; go_wp2; go_ret; rw [HFI.out]; exact ⟨A', i, c', rfl, (HOW q).out, (HRR q).out.1, (HRR q).out.2, hi⟩
  · obtain rfl : i = count := by omega
    obtain ⟨I, t, hr, ho, how, heq⟩ := HST.out; have hfin : rlist (rid xs) i s = (I, t) := by
     rw [heq, Nat.sub_self]; simp [rlist]
    have HFI := kept hfin; have HF := kept (And.intro how (And.intro hr ho)); clear hr ho how heq HST hfin; go_wp2; go_ret; rw [HFI.out]; exact ⟨A', i, c', rfl, HF.out.1, HF.out.2.1, HF.out.2.2, hi⟩
theorem readListK_any (r : Nat) (A : Option Addr) (n c : Nat) (xs : List UInt8) (s : Rst) (count : Nat) (w : World) (h : RS w r A n c xs s) (hc : count ≤ 65535) :
 Calls Tryz.prog 233 #[.pointer (some ⟨r, 0, none⟩), .int .i64 (count : Int), .func (.func 234) #[] #[]] w fun e w' => ∃ A' i c', e = .returned (.slice A' i c') ∧ Hid (Ow kKid w' w.heap.size 131 (fun g => g < w.heap.size) A' i c' (rlist (rkid xs) count s).1 ∧ RS w' r A n c xs (rlist (rkid xs) count s).2 ∧ Only w w' r ∧ i ≤ count) := by
 have HLT := kept h.lt; have H0 := kept h; have hst : Hid (RLs kKid 131 w r A n c xs (rkid xs) count s none 0 0 w) := kept ⟨[], s, h, Only.refl _ _, Ow.nil_ _, by simp⟩; clear h; go_enter Tryz.func233, Tryz.ntmps233; go_wp2; go_loopw [7] (fun v wr => ∃ (A' : Option Addr) (i c' : Nat), i ≤ count ∧ v = .slice A' i c' ∧ Hid (RLs kKid 131 w r A n c xs (rkid xs) count s A' i c' wr)) (fun v _ => count - lenV v)
 case atStart => exact ⟨none, 0, 0, by omega, rfl, hst⟩
 case round =>
  obtain ⟨A', i, c', hi, rfl, HST⟩ := hrel; by_cases hlt : i < count
  · obtain ⟨I, t, hr, ho, how, heq⟩ := HST.out; have hd : decide (i < count) = true := by simp [hlt]
    by_cases ht : t.2 = 0
    · have HE := kept (end_more r A n c xs t wr hr ht); have HN := fun q => readKid_any r A n c xs t (wr.drewN q) (hr.drewN q)
      have HEQ := kept (rlist_next (one := rkid xs) heq (by omega) ht); obtain ⟨s', hs'⟩ : ∃ v, (rkid xs t).2 = v := ⟨_, rfl⟩
      obtain ⟨y, hy⟩ : ∃ v, (rkid xs t).1 = v := ⟨_, rfl⟩
      rw [hs', hy] at HEQ; simp only [hs', hy] at HN; have HN := fun q => kept (HN q)
      have HON := kept ho; have HOW := kept how; clear hr ho how heq HST hs' hy ht; go_wp2_with fail
      with_reducible refine HE.out.mono ?_
      rintro e w1 ⟨z, rfl, hz, hq⟩; obtain ⟨q, rfl⟩ := hq.out; have hz1 := hz.out; go_wp2_with fail
      with_reducible refine (HN _).out.mono ?_
      rintro e w2 ⟨⟨ka, kn, kc, pg⟩, rfl, hy2, hR2, hO2⟩; have HY : Hid (kKid.R (w2.alloc (.cells #[.slice ka kn kc, .int .i64 pg] 131)) ⟨ka, kn, kc, pg⟩ y ∧ ∀ g, g < wr.heap.size → kKid.apart ⟨ka, kn, kc, pg⟩ g) := kept ⟨hy2.1.below ((Below.refl _ w2).alloc (Nat.le_refl _) _), fun g hg => hy2.2 g hg⟩; have HO2 := kept ((HON.out.drewN q).trans hO2); have hw2 : Ow kKid w2 w.heap.size 131 (fun g => g < w.heap.size) A' i c' I := (HOW.out.below (below_drewN _ q)).turn hO2 (.inl HLT.out); have HW2 := kept (hw2.below ((Below.refl _ w2).alloc (Nat.le_refl _) (.cells #[.slice ka kn kc, .int .i64 pg] 131))); have HR2 := kept hR2; clear hz hq hz1 hw2 hR2 hO2; go_wp2_with (first | (at_builtin; refine wpList_append_ow (K := kKid) (F := fun g => g < w.heap.size) rfl (.tmp 17) (.tmp 21) 135 rfl Tryz.underlying135 kidInfo rfl rfl HW2.out ⟨w2.heap.size, 0, none⟩ 1 ⟨ka, kn, kc, pg⟩ y rfl (fun j u hu => new_cells2 w2 (.slice ka kn kc) (.int .i64 pg) 131 j u hu) HY.out.1 (fun g e => HY.out.2 g (by have := (HOW.out.lt e).2; exact this)) (fun g e => HY.out.2 g (Nat.lt_of_lt_of_le e HON.out.size)) (fun g e => Nat.lt_of_lt_of_le (Nat.lt_of_lt_of_le e HO2.out.size) ((Below.refl _ w2).alloc (Nat.le_refl _) _).size) (by unfold maxLen; omega) (by omega) (Nat.le_trans HO2.out.size ((Below.refl _ w2).alloc (Nat.le_refl _) _).size) ?_; intro A4 c4' w4 how4 hb4 hk4; have HNX : Hid (RLs kKid 131 w r A n c xs (rkid xs) count s A4 (i + 1) c4' w4) := kept (by have hb := H0.out.back (HR2.out.alloc _) (HO2.out.alloc _) hb4; exact ⟨I ++ [y], s', hb.1, hb.2, how4, by rw [← Nat.sub_sub] at *; exact HEQ.out⟩); clear how4 hb4 hk4))
      go_roundw
      case rel => exact ⟨A4, i + 1, c4', by omega, rfl, HNX⟩
      case measure => simp [lenV]; omega
    · have HE := kept (end_stop r A n c xs t wr hr ht); have hfin : rlist (rkid xs) count s = (I, t) := by
       rw [heq, show count - i = (count - i - 1) + 1 by omega]; simp [rlist, ht]
      have HFI := kept hfin; have HRR := fun q => kept (And.intro (hr.drewN q) (ho.drewN q))
      have HOW := fun q => kept (how.below (below_drewN _ q))
      clear hr ho how heq HST ht hfin; go_wp2_with fail
      with_reducible refine HE.out.mono ?_
      rintro e w1 ⟨rfl, hq⟩; obtain ⟨q, rfl⟩ := hq.out; go_wp2; go_ret; rw [HFI.out]; exact ⟨A', i, c', rfl, (HOW q).out, (HRR q).out.1, (HRR q).out.2, hi⟩
  · obtain rfl : i = count := by omega
    obtain ⟨I, t, hr, ho, how, heq⟩ := HST.out; have hfin : rlist (rkid xs) i s = (I, t) := by
     rw [heq, Nat.sub_self]; simp [rlist]
    have HFI := kept hfin; have HF := kept (And.intro how (And.intro hr ho)); clear hr ho how heq HST hfin; go_wp2; go_ret; rw [HFI.out]; exact ⟨A', i, c', rfl, HF.out.1, HF.out.2.1, HF.out.2.2, hi⟩
theorem readListI_any (r : Nat) (A : Option Addr) (n c : Nat) (xs : List UInt8) (s : Rst) (count : Nat) (w : World) (h : RS w r A n c xs s) (hc : count ≤ 65535) :
 Calls Tryz.prog 231 #[.pointer (some ⟨r, 0, none⟩), .int .i64 (count : Int), .func (.func 232) #[] #[]] w fun e w' => ∃ A' i c', e = .returned (.slice A' i c') ∧ Hid (Ow kItemD w' w.heap.size 149 (fun g => g < w.heap.size) A' i c' (rlist (ritem xs) count s).1 ∧ RS w' r A n c xs (rlist (ritem xs) count s).2 ∧ Only w w' r ∧ i ≤ count) := by
 have HLT := kept h.lt; have H0 := kept h; have hst : Hid (RLs kItemD 149 w r A n c xs (ritem xs) count s none 0 0 w) := kept ⟨[], s, h, Only.refl _ _, Ow.nil_ _, by simp⟩; clear h; go_enter Tryz.func231, Tryz.ntmps231; go_wp2; go_loopw [7] (fun v wr => ∃ (A' : Option Addr) (i c' : Nat), i ≤ count ∧ v = .slice A' i c' ∧ Hid (RLs kItemD 149 w r A n c xs (ritem xs) count s A' i c' wr)) (fun v _ => count - lenV v)
 case atStart => exact ⟨none, 0, 0, by omega, rfl, hst⟩
 case round =>
  obtain ⟨A', i, c', hi, rfl, HST⟩ := hrel; by_cases hlt : i < count
  · obtain ⟨I, t, hr, ho, how, heq⟩ := HST.out; have hd : decide (i < count) = true := by simp [hlt]
    by_cases ht : t.2 = 0
    · have HE := kept (end_more r A n c xs t wr hr ht); have HN := fun q => readItem_any r A n c xs t (wr.drewN q) (hr.drewN q)
      have HEQ := kept (rlist_next (one := ritem xs) heq (by omega) ht); obtain ⟨s', hs'⟩ : ∃ v, (ritem xs t).2 = v := ⟨_, rfl⟩
      obtain ⟨y, hy⟩ : ∃ v, (ritem xs t).1 = v := ⟨_, rfl⟩
      rw [hs', hy] at HEQ; simp only [hs', hy] at HN; have HN := fun q => kept (HN q)
      have HON := kept ho; have HOW := kept how; clear hr ho how heq HST hs' hy ht; go_wp2_with fail
      with_reducible refine HE.out.mono ?_
      rintro e w1 ⟨z, rfl, hz, hq⟩; obtain ⟨q, rfl⟩ := hq.out; have hz1 := hz.out; go_wp2_with fail
      with_reducible refine (HN _).out.mono ?_
      rintro e w2 ⟨⟨ka, kn, kc, va, vn, vc, sz, mo⟩, rfl, hy2, hR2, hO2⟩; have HY : Hid (kItemD.R (w2.alloc (.cells #[.slice ka kn kc, .slice va vn vc, .int .i64 sz, .int .i64 mo] 149)) ⟨ka, kn, kc, va, vn, vc, sz, mo⟩ y ∧ ∀ g, g < wr.heap.size → kItemD.apart ⟨ka, kn, kc, va, vn, vc, sz, mo⟩ g) := kept ⟨⟨hy2.1.below ((Below.refl _ w2).alloc (Nat.le_refl _) _), hy2.2.2.2⟩, fun g hg => ⟨hy2.2.1 g hg, hy2.2.2.1 g hg⟩⟩; have HO2 := kept ((HON.out.drewN q).trans hO2); have hw2 : Ow kItemD w2 w.heap.size 149 (fun g => g < w.heap.size) A' i c' I := (HOW.out.below (below_drewN _ q)).turn hO2 (.inl HLT.out); have HW2 := kept (hw2.below ((Below.refl _ w2).alloc (Nat.le_refl _) (.cells #[.slice ka kn kc, .slice va vn vc, .int .i64 sz, .int .i64 mo] 149))); have HR2 := kept hR2; clear hz hq hz1 hw2 hR2 hO2; go_wp2_with (first | (at_builtin; refine wpList_append_ow (K := kItemD) (F := fun g => g < w.heap.size) rfl (.tmp 17) (.tmp 21) 134 rfl Tryz.underlying134 itemInfo rfl rfl HW2.out ⟨w2.heap.size, 0, none⟩ 1 ⟨ka, kn, kc, va, vn, vc, sz, mo⟩ y rfl (fun j u hu => new_cells4 w2 (.slice ka kn kc) (.slice va vn vc) (.int .i64 sz) (.int .i64 mo) 149 j u hu) HY.out.1 (fun g e => HY.out.2 g (by have := (HOW.out.lt e).2; exact this)) (fun g e => HY.out.2 g (Nat.lt_of_lt_of_le e HON.out.size)) (fun g e => Nat.lt_of_lt_of_le (Nat.lt_of_lt_of_le e HO2.out.size) ((Below.refl _ w2).alloc (Nat.le_refl _) _).size) (by unfold maxLen; omega) (by omega) (Nat.le_trans HO2.out.size ((Below.refl _ w2).alloc (Nat.le_refl _) _).size) ?_; intro A4 c4' w4 how4 hb4 hk4; have HNX : Hid (RLs kItemD 149 w r A n c xs (ritem xs) count s A4 (i + 1) c4' w4) := kept (by have hb := H0.out.back (HR2.out.alloc _) (HO2.out.alloc _) hb4; exact ⟨I ++ [y], s', hb.1, hb.2, how4, by rw [← Nat.sub_sub] at *; exact HEQ.out⟩); clear how4 hb4 hk4))
      go_roundw
      case rel => exact ⟨A4, i + 1, c4', by omega, rfl, HNX⟩
      case measure => simp [lenV]; omega
    · have HE := kept (end_stop r A n c xs t wr hr ht); have hfin : rlist (ritem xs) count s = (I, t) := by
       rw [heq, show count - i = (count - i - 1) + 1 by omega]; simp [rlist, ht]
      have HFI := kept hfin; have HRR := fun q => kept (And.intro (hr.drewN q) (ho.drewN q))
      have HOW := fun q => kept (how.below (below_drewN _ q))
      clear hr ho how heq HST ht hfin; go_wp2_with fail
      with_reducible refine HE.out.mono ?_
      rintro e w1 ⟨rfl, hq⟩; obtain ⟨q, rfl⟩ := hq.out; go_wp2; go_ret; rw [HFI.out]; exact ⟨A', i, c', rfl, (HOW q).out, (HRR q).out.1, (HRR q).out.2, hi⟩
  · obtain rfl : i = count := by omega
    obtain ⟨I, t, hr, ho, how, heq⟩ := HST.out; have hfin : rlist (ritem xs) i s = (I, t) := by
     rw [heq, Nat.sub_self]; simp [rlist]
    have HFI := kept hfin; have HF := kept (And.intro how (And.intro hr ho)); clear hr ho how heq HST hfin; go_wp2; go_ret; rw [HFI.out]; exact ⟨A', i, c', rfl, HF.out.1, HF.out.2.1, HF.out.2.2, hi⟩
end Go.Proofs.YtblbhhijddcbeaaGreatDoor
end
