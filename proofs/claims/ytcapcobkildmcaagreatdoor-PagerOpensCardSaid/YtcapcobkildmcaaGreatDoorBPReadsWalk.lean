/- PReadsWalk -/
import Derived.Test.YtcapcobkildmcaaGreatDoorBDe1
import Derived.Test.YtcapcobkildmcaaGreatDoorBRp
import Derived.Test.YtcapcobkildmcaaGreatDoorBWr
section
/-
 The document's Decode of any bytes; page.Decode of a body that is none; both beside each other; the walk of the law PageReads.
-/
namespace Go.Proofs.YtcapcobkildmcaaGreatDoor
open Go.ChangeShapes Go.WideShapes Go.ChangeAt Go.RowKit
set_option linter.unusedVariables false
set_option linter.unusedSimpArgs false
theorem refDecode_body (A : Option Addr) (c : Nat) (xs : List UInt8) (w : World) (hr : Rd w A 256 xs) (hc : 256 ≤ c) (hw : num (xs.take 4) 0 = csum (xs.drop 4)) :
 Calls Tryz.prog 94 #[.slice A 256 c] w (DecAns w xs) := by
 by_cases k1 : (rnum (xs.drop 4) 1 (0, 0)).1 = 1
 · exact refDecode_items A c xs w hr hc hw k1
 by_cases k2 : (rnum (xs.drop 4) 1 (0, 0)).1 = 2
 · exact refDecode_kids A c xs w hr hc hw k2
 by_cases k3 : (rnum (xs.drop 4) 1 (0, 0)).1 = 3
 · exact refDecode_data A c xs w hr hc hw k3
 by_cases k4 : (rnum (xs.drop 4) 1 (0, 0)).1 = 4
 · exact (refDecode_ids A c xs w hr hc hw k4).mono fun e w' h => h.1
 exact refDecode_none A c xs w hr hc hw ⟨k1, k2, k3, k4⟩
theorem refDecode_size (A : Option Addr) (n c : Nat) (w : World) (hn : n ≠ 256) :
 Calls Tryz.prog 94 #[.slice A n c] w fun e w' => e = .returned (.tuple #[zeroV, .int .i64 4]) ∧ Below w.heap.size w w' := by
 have hb : ((n : Int) != 256) = true := by simp; omega
 clear hn; go_enter Tryz.func94, Tryz.ntmps94; go_wp2; exact bodyPost_ret (v := .tuple #[zeroV, .int .i64 4]) (by simp [results, Tryz.results94, go_sem]) rfl ⟨rfl, (Below.refl _ _).alloc (Nat.le_refl _) _⟩
theorem refDecode_sum (A : Option Addr) (c : Nat) (xs : List UInt8) (w : World) (hr : Rd w A 256 xs) (hc : 256 ≤ c) (hw : num (xs.take 4) 0 ≠ csum (xs.drop 4)) :
 Calls Tryz.prog 94 #[.slice A 256 c] w fun e w' => e = .returned (.tuple #[zeroV, .int .i64 6]) ∧ Below w.heap.size w w' := by
 have HO := fun o => kept (open_bad4 A c xs (w.alloc o) (hr.alloc o) hc hw)
 clear hr hw; go_enter Tryz.func94, Tryz.ntmps94; go_wp2_with fail
 with_reducible refine (HO _).out.mono ?_
 rintro e w1 ⟨A1, n1, c1, rfl, hb⟩; have hblk := (Blk.new w 197 #[.int .i64 0, .int .u64 0, .int .i64 0, .slice none 0 0, .slice none 0 0, .slice none 0 0, .slice none 0 0]).below hb (by simp); have HBB := kept (below_to hb ((Below.refl _ w).alloc (Nat.le_refl _) _)); have e0 : w1.cell? ⟨w.heap.size, 0, none⟩ = some (.int .i64 0) := hblk.cell 0; have e1 : w1.cell? ⟨w.heap.size, 1, none⟩ = some (.int .u64 0) := hblk.cell 1; have e2 : w1.cell? ⟨w.heap.size, 2, none⟩ = some (.int .i64 0) := hblk.cell 2; have e3 : w1.cell? ⟨w.heap.size, 3, none⟩ = some (.slice none 0 0) := hblk.cell 3; have e4 : w1.cell? ⟨w.heap.size, 4, none⟩ = some (.slice none 0 0) := hblk.cell 4; have e5 : w1.cell? ⟨w.heap.size, 5, none⟩ = some (.slice none 0 0) := hblk.cell 5; have e6 : w1.cell? ⟨w.heap.size, 6, none⟩ = some (.slice none 0 0) := hblk.cell 6; have f0 := hblk.frozen 0; have f1 := hblk.frozen 1; have f2 := hblk.frozen 2; have f3 := hblk.frozen 3; have f4 := hblk.frozen 4; have f5 := hblk.frozen 5; have f6 := hblk.frozen 6; have HBL := kept hblk; clear hb hblk; go_wp2; have HB7 := ((((((HBL.out.set_ 0 (.int .i64 0)).set_ 1 (.int .u64 0)).set_ 2 (.int .i64 0)).set_ 3 (.slice none 0 0)).set_ 4 (.slice none 0 0)).set_ 5 (.slice none 0 0)).set_ 6 (.slice none 0 0); have HO7 : Only w1 _ w.heap.size := (((((((Only.refl w1 w.heap.size).setCell 0 (.int .i64 0)).setCell 1 (.int .u64 0)).setCell 2 (.int .i64 0)).setCell 3 (.slice none 0 0)).setCell 4 (.slice none 0 0)).setCell 5 (.slice none 0 0)).setCell 6 (.slice none 0 0); generalize (((((((w1.setCell ⟨w.heap.size, 0, none⟩ (.int .i64 0)).setCell ⟨w.heap.size, 1, none⟩ (.int .u64 0)).setCell ⟨w.heap.size, 2, none⟩ (.int .i64 0)).setCell ⟨w.heap.size, 3, none⟩ (.slice none 0 0)).setCell ⟨w.heap.size, 4, none⟩ (.slice none 0 0)).setCell ⟨w.heap.size, 5, none⟩ (.slice none 0 0)).setCell ⟨w.heap.size, 6, none⟩ (.slice none 0 0)) = W at HB7 HO7 ⊢; have v0 : W.cell? ⟨w.heap.size, 0, none⟩ = some (.int .i64 0) := HB7.cell 0; have v1 : W.cell? ⟨w.heap.size, 1, none⟩ = some (.int .u64 0) := HB7.cell 1
 have v2 : W.cell? ⟨w.heap.size, 2, none⟩ = some (.int .i64 0) := HB7.cell 2; have v3 : W.cell? ⟨w.heap.size, 3, none⟩ = some (.slice none 0 0) := HB7.cell 3; have v4 : W.cell? ⟨w.heap.size, 4, none⟩ = some (.slice none 0 0) := HB7.cell 4; have v5 : W.cell? ⟨w.heap.size, 5, none⟩ = some (.slice none 0 0) := HB7.cell 5; have v6 : W.cell? ⟨w.heap.size, 6, none⟩ = some (.slice none 0 0) := HB7.cell 6; exact bodyPost_ret (v := .tuple #[zeroV, .int .i64 6]) (by simp [results, Tryz.results94, go_sem, v0, v1, v2, v3, v4, v5, v6]) rfl ⟨rfl, HO7.below HBB.out HBB.out.size (Nat.le_refl _)⟩
end Go.Proofs.YtcapcobkildmcaaGreatDoor
namespace Go.Proofs.YtcapcobkildmcaaGreatDoor
open Go.ChangeShapes Go.WideShapes Go.ChangeAt Go.RowKit
set_option linter.unusedVariables false
set_option linter.unusedSimpArgs false
def Decs (w : World) (P : Pg) (er : Int) (e : Ending) (w' : World) : Prop :=
 ∃ l : Lay, e = .returned (.tuple #[l.val, .int .i64 er]) ∧ Hid (RdPg w' l P) ∧ (l.n1 ≤ 1000 ∧ l.n2 ≤ 1000) ∧ Below w.heap.size w w'
end Go.Proofs.YtcapcobkildmcaaGreatDoor
namespace Go.Proofs.YtcapcobkildmcaaGreatDoor.pageReads
open Go.ChangeShapes Go.WideShapes Go.ChangeAt Go.RowKit
set_option linter.unusedVariables false
set_option linter.unusedSimpArgs false
theorem bel_to {a b c : World} (h : Below b.heap.size b c) (k : Below a.heap.size a b) : Below a.heap.size a c := below_to h k
end Go.Proofs.YtcapcobkildmcaaGreatDoor.pageReads
end
