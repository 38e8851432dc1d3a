/-
  The writer's methods bytes, num and id.
-/
import Derived.Test.YtfgpkgenahlikaaDoorWr
namespace Go.Proofs.YtfgpkgenahlikaaDoor
open Go.ChangeShapes Go.WideShapes Go.ChangeAt Go.RowKit
set_option linter.unusedVariables false
set_option linter.unusedSimpArgs false

theorem Wr.step {w : World} {b p q : Nat} {zs : List UInt8} (h : Blk w b 74 (cellsOf (pad zs) ++ [.int .i64 (p : Int)])) (hl : zs.length = q) (hq : q ≤ 252) : Wr (w.setCell ⟨b, 252, none⟩ (.int .i64 (q : Int))) b zs := by
  refine ⟨?_, by omega⟩
  have := h.set_ 252 (.int .i64 (q : Int))
  have e : (cellsOf (pad zs) ++ [Value.int .i64 (p : Int)]).set 252 (.int .i64 (q : Int)) = wrCells zs := by
    unfold wrCells
    rw [List.set_append_right _ _ (by rw [cellsOf_length, pad_length (by omega)]; omega), cellsOf_length, pad_length (by omega), hl]
    rfl
  rwa [e] at this
theorem wb_mid {w : World} {b p n : Nat} {xs zs : List UInt8} (h : Blk w b 74 (cellsOf (pad zs) ++ [.int .i64 (xs.length : Int)])) (hl : zs.length = p + n) (hq : p + n ≤ 252) (hp : xs.length = p) : w.cell? ⟨b, 252, none⟩ = some (.int .i64 (p : Int)) ∧ zs.length ≤ 252 := by
  refine ⟨?_, by omega⟩
  rw [h.cell, List.getElem?_append_right (by rw [cellsOf_length, pad_length (by omega)]; omega), cellsOf_length, pad_length (by omega), hp]
  rfl
theorem Only.drew_ {w w' : World} {b : Nat} (h : Only w.drew w' b) : Only w w' b := ⟨h.os, h.tape, h.output, h.size, h.block⟩
theorem wb_end {w w1 : World} {b p n : Nat} {xs zs : List UInt8} (h : Blk w1 b 74 (cellsOf (pad zs) ++ [.int .i64 (xs.length : Int)])) (ho : Only w.drew w1 b) (hl : zs.length = p + n) (hq : p + n ≤ 252) :
    Wr (w1.setCell ⟨b, 252, none⟩ (.int .i64 ((p : Int) + (n : Int)))) b zs ∧ Only w (w1.setCell ⟨b, 252, none⟩ (.int .i64 ((p : Int) + (n : Int)))) b :=
  ⟨by have := Wr.step h hl hq; rwa [Int.natCast_add] at this, (Only.drew_ ho).setCell 252 _⟩
set_option maxRecDepth 100000 in
set_option maxHeartbeats 1000000 in
theorem wbytes_any (b : Nat) (xs ys : List UInt8) (A : Option Addr) (n c : Nat) (w : World) (hw : Wr w b xs) (hr : Rd w A n ys) (hfit : xs.length + n ≤ 252) :
    Calls Tryd.prog 65 #[.pointer (some ⟨b, 0, none⟩), .slice A n c] w fun e w' => e = .returned (.tuple #[]) ∧ Hid (Wr w' b (xs ++ ys) ∧ Only w w' b) := by
  obtain ⟨p, hp⟩ : ∃ p, xs.length = p := ⟨_, rfl⟩
  have HW := kept hw
  have HR := kept hr
  have HP := kept hp
  have hat := hw.at_
  have hfz := hw.1.frozen 252
  have hlen : (xs ++ ys).length = p + n := by rw [List.length_append, hr.1, hp]
  have HLEN := kept hlen
  rw [hp] at hat hfit
  have hi1 : (0 : Int) ≤ (p : Int) := by omega
  have hi2 : (p : Int) ≤ 252 := by omega
  have hi3 : IntKind.i64.wrap ((p : Int) + (n : Int)) = (p : Int) + (n : Int) := IntWalk.i64_in _ ⟨by omega, by omega⟩
  clear hw hr hp hlen
  go_enter Tryd.func65, Tryd.ntmps65
  go_wp2
  go_region_law (refine step_copy rfl (.tmp 15) (.tmp 16) rfl rfl rfl (show Wr w.drew b xs from HW.out) HR.out.drew (by rw [HP.out]; exact hfit) (by rw [HP.out]) (fun h0 => by rw [HP.out]; (try rw [if_neg (by omega)])) ?_; intro w1 hb1 ho1; have y1 : w1.cell? ⟨b, 252, none⟩ = some (.int .i64 (p : Int)) := (wb_mid hb1 HLEN.out hfit HP.out).1; have y2 : w1.frozen? ⟨b, 252, none⟩ = false := hb1.frozen 252; have HE : Hid (Wr (w1.setCell ⟨b, 252, none⟩ (.int .i64 ((p : Int) + (n : Int)))) b (xs ++ ys) ∧ Only w (w1.setCell ⟨b, 252, none⟩ (.int .i64 ((p : Int) + (n : Int)))) b) := kept (wb_end hb1 ho1 HLEN.out hfit); clear hb1 ho1)
  all_goals
    go_end0
    exact ⟨rfl, HE⟩
theorem wnum_any (b s : Nat) (xs : List UInt8) (v : Nat) (w : World) (hw : Wr w b xs) (hfit : xs.length + s ≤ 252) (h1 : 1 ≤ s) (h2 : s ≤ 8) (hv : v < 256 ^ s) :
    Calls Tryd.prog 34 #[.pointer (some ⟨b, 0, none⟩), .int .u64 (v : Int), .int .i64 (s : Int)] w fun e w' => e = .returned (.tuple #[]) ∧ Hid (Wr w' b (xs ++ be v s) ∧ Only w w' b) := by
  have HP := kept (put_ok v s w h1 h2 hv)
  have HW := kept hw
  clear hw hv
  go_enter Tryd.func34, Tryd.ntmps34
  go_wp2_with (first | (go_at_call 64; (with_reducible refine (HP.out).mono ?_); rintro e w1 ⟨A, c, rfl, ho, hb⟩; have HB := kept (wbytes_any b xs (be v s) A s c w1 (HW.out.below hb) (Rd.of_own ho) hfit); have HO : Hid (Only w w1 b) := kept (Only.of_below hb); clear ho hb) | (go_at_call 65; (with_reducible refine (HB.out).mono ?_); rintro e w2 ⟨rfl, h2⟩))
  go_end0
  exact ⟨rfl, h2.out.1, HO.out.trans h2.out.2⟩
theorem wnum1 (b : Nat) (xs : List UInt8) (v : Nat) (w : World) (hw : Wr w b xs) (hfit : xs.length + 1 ≤ 252) (hv : v < 256) :
    Calls Tryd.prog 34 #[.pointer (some ⟨b, 0, none⟩), .int .u64 (v : Int), .int .i64 1] w fun e w' => e = .returned (.tuple #[]) ∧ Hid (Wr w' b (xs ++ be v 1) ∧ Only w w' b) := wnum_any b 1 xs v w hw hfit (by omega) (by omega) hv
theorem wnum2 (b : Nat) (xs : List UInt8) (v : Nat) (w : World) (hw : Wr w b xs) (hfit : xs.length + 2 ≤ 252) (hv : v < 65536) :
    Calls Tryd.prog 34 #[.pointer (some ⟨b, 0, none⟩), .int .u64 (v : Int), .int .i64 2] w fun e w' => e = .returned (.tuple #[]) ∧ Hid (Wr w' b (xs ++ be v 2) ∧ Only w w' b) := wnum_any b 2 xs v w hw hfit (by omega) (by omega) hv
theorem wnum4 (b : Nat) (xs : List UInt8) (v : Nat) (w : World) (hw : Wr w b xs) (hfit : xs.length + 4 ≤ 252) (hv : v < 4294967296) :
    Calls Tryd.prog 34 #[.pointer (some ⟨b, 0, none⟩), .int .u64 (v : Int), .int .i64 4] w fun e w' => e = .returned (.tuple #[]) ∧ Hid (Wr w' b (xs ++ be v 4) ∧ Only w w' b) := wnum_any b 4 xs v w hw hfit (by omega) (by omega) hv
theorem wnum8 (b : Nat) (xs : List UInt8) (v : Nat) (w : World) (hw : Wr w b xs) (hfit : xs.length + 8 ≤ 252) (hv : v < 18446744073709551616) :
    Calls Tryd.prog 34 #[.pointer (some ⟨b, 0, none⟩), .int .u64 (v : Int), .int .i64 8] w fun e w' => e = .returned (.tuple #[]) ∧ Hid (Wr w' b (xs ++ be v 8) ∧ Only w w' b) := wnum_any b 8 xs v w hw hfit (by omega) (by omega) hv
theorem wid_any (b : Nat) (xs : List UInt8) (v : Nat) (w : World) (hw : Wr w b xs) (hfit : xs.length + 4 ≤ 252) (hv : v < 4294967296) :
    Calls Tryd.prog 35 #[.pointer (some ⟨b, 0, none⟩), .int .i64 (v : Int)] w fun e w' => e = .returned (.tuple #[]) ∧ Hid (Wr w' b (xs ++ be v 4) ∧ Only w w' b) := by
  have HN := kept (wnum4 b xs v w hw hfit hv)
  clear hw
  go_enter Tryd.func35, Tryd.ntmps35
  go_wp2_with (first | (go_at_call 34; (with_reducible refine (HN.out).mono ?_); rintro e w2 ⟨rfl, h2⟩))
  go_end0
  exact ⟨rfl, h2.out⟩
end Go.Proofs.YtfgpkgenahlikaaDoor
