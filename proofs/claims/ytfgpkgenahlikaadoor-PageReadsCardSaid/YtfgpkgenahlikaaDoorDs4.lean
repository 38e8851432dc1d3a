/-
  page.Decode of bytes with another checksum, and of too few or too many.
-/
import Derived.Test.YtfgpkgenahlikaaDoorEn
namespace Go.Proofs.YtfgpkgenahlikaaDoor
open Go.ChangeShapes Go.WideShapes Go.ChangeAt Go.RowKit
set_option linter.unusedVariables false
set_option linter.unusedSimpArgs false

def zeroPg : Pg := ⟨0, 0, 0, [], [], [], []⟩
def zeroLay : Lay := ⟨0, 0, 0, none, 0, 0, none, 0, 0, none, 0, 0, none, 0, 0⟩
theorem zero_rd (w : World) : RdPg w zeroLay zeroPg :=
  ⟨rfl, rfl, rfl, RdItems.nil_ _ _, RdKids.nil_ _ _, Rd.nil_ _ _, RdNums.nil_ _ _, by decide, by decide, Nat.zero_le _, Nat.zero_le _, Nat.zero_le _, Nat.zero_le _⟩
abbrev zeroV : Value := .agg #[.int .i64 0, .int .u64 0, .int .i64 0, .slice none 0 0, .slice none 0 0, .slice none 0 0, .slice none 0 0]
theorem decode_size (A : Option Addr) (n c : Nat) (w : World) (hn : n ≠ 256) :
    Calls Tryd.prog 22 #[.slice A n c] w fun e w' => e = .returned (.tuple #[zeroV, .int .i64 4]) ∧ Below w.heap.size w w' := by
  have hb : ((n : Int) != 256) = true := by simp; omega
  clear hn
  go_enter Tryd.func22, Tryd.ntmps22
  go_wp2
  exact bodyPost_ret (v := .tuple #[zeroV, .int .i64 4]) (by simp [results, Tryd.results22, go_sem]) rfl ⟨rfl, (Below.refl _ _).alloc (Nat.le_refl _) _⟩
theorem decode_sum (A : Option Addr) (c : Nat) (xs : List UInt8) (w : World) (hr : Rd w A 256 xs) (hc : 256 ≤ c) (hf : Fours w) (hw : num (xs.take 4) 0 ≠ csum (xs.drop 4)) :
    Calls Tryd.prog 22 #[.slice A 256 c] w fun e w' => e = .returned (.tuple #[zeroV, .int .i64 6]) ∧ Below w.heap.size w w' := by
  have HO := fun o => kept (open_wrong A 256 c xs (w.alloc o) (hr.alloc o) hc (by omega) (by omega) (hf.alloc o) hw)
  have hres : ∀ (v0 : Value), True := fun _ => trivial
  clear hr hf hw hres
  go_enter Tryd.func22, Tryd.ntmps22
  go_wp2_with fail
  with_reducible refine (HO _).out.mono ?_
  rintro e w1 ⟨rfl, hb⟩
  have hblk := (Blk.new w 28 #[.int .i64 0, .int .u64 0, .int .i64 0, .slice none 0 0, .slice none 0 0, .slice none 0 0, .slice none 0 0]).below hb (by simp)
  have HBB := kept (below_to hb ((Below.refl _ w).alloc (Nat.le_refl _) _))
  have e0 : w1.cell? ⟨w.heap.size, 0, none⟩ = some (.int .i64 0) := hblk.cell 0
  have e1 : w1.cell? ⟨w.heap.size, 1, none⟩ = some (.int .u64 0) := hblk.cell 1
  have e2 : w1.cell? ⟨w.heap.size, 2, none⟩ = some (.int .i64 0) := hblk.cell 2
  have e3 : w1.cell? ⟨w.heap.size, 3, none⟩ = some (.slice none 0 0) := hblk.cell 3
  have e4 : w1.cell? ⟨w.heap.size, 4, none⟩ = some (.slice none 0 0) := hblk.cell 4
  have e5 : w1.cell? ⟨w.heap.size, 5, none⟩ = some (.slice none 0 0) := hblk.cell 5
  have e6 : w1.cell? ⟨w.heap.size, 6, none⟩ = some (.slice none 0 0) := hblk.cell 6
  have f0 := hblk.frozen 0
  have f1 := hblk.frozen 1
  have f2 := hblk.frozen 2
  have f3 := hblk.frozen 3
  have f4 := hblk.frozen 4
  have f5 := hblk.frozen 5
  have f6 := hblk.frozen 6
  have HBL := kept hblk
  clear hb hblk
  go_wp2
  have HB7 := ((((((HBL.out.set_ 0 (.int .i64 0)).set_ 1 (.int .u64 0)).set_ 2 (.int .i64 0)).set_ 3 (.slice none 0 0)).set_ 4 (.slice none 0 0)).set_ 5 (.slice none 0 0)).set_ 6 (.slice none 0 0)
  have HO7 : Only w1 _ w.heap.size := (((((((Only.refl w1 w.heap.size).setCell 0 (.int .i64 0)).setCell 1 (.int .u64 0)).setCell 2 (.int .i64 0)).setCell 3 (.slice none 0 0)).setCell 4 (.slice none 0 0)).setCell 5 (.slice none 0 0)).setCell 6 (.slice none 0 0)
  generalize (((((((w1.setCell ⟨w.heap.size, 0, none⟩ (.int .i64 0)).setCell ⟨w.heap.size, 1, none⟩ (.int .u64 0)).setCell ⟨w.heap.size, 2, none⟩ (.int .i64 0)).setCell ⟨w.heap.size, 3, none⟩ (.slice none 0 0)).setCell ⟨w.heap.size, 4, none⟩ (.slice none 0 0)).setCell ⟨w.heap.size, 5, none⟩ (.slice none 0 0)).setCell ⟨w.heap.size, 6, none⟩ (.slice none 0 0)) = W at HB7 HO7 ⊢
  have v0 : W.cell? ⟨w.heap.size, 0, none⟩ = some (.int .i64 0) := HB7.cell 0
  have v1 : W.cell? ⟨w.heap.size, 1, none⟩ = some (.int .u64 0) := HB7.cell 1
  have v2 : W.cell? ⟨w.heap.size, 2, none⟩ = some (.int .i64 0) := HB7.cell 2
  have v3 : W.cell? ⟨w.heap.size, 3, none⟩ = some (.slice none 0 0) := HB7.cell 3
  have v4 : W.cell? ⟨w.heap.size, 4, none⟩ = some (.slice none 0 0) := HB7.cell 4
  have v5 : W.cell? ⟨w.heap.size, 5, none⟩ = some (.slice none 0 0) := HB7.cell 5
  have v6 : W.cell? ⟨w.heap.size, 6, none⟩ = some (.slice none 0 0) := HB7.cell 6
  exact bodyPost_ret (v := .tuple #[zeroV, .int .i64 6]) (by simp [results, Tryd.results22, go_sem, v0, v1, v2, v3, v4, v5, v6]) rfl ⟨rfl, HO7.below HBB.out HBB.out.size (Nat.le_refl _)⟩
end Go.Proofs.YtfgpkgenahlikaaDoor
