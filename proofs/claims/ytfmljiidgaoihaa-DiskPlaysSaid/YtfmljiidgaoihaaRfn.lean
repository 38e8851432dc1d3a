/-
  terrierref03.New.
-/
import Derived.Test.YtfmljiidgaoihaaRfg
namespace Go.Proofs.Ytfmljiidgaoihaa
open Go.ChangeShapes Go.WideShapes Go.ChangeAt Go.RowKit
set_option linter.unusedVariables false
def NewA (w : World) (r k : Nat) (wr : World) : Prop := ∃ A c, NewR w r k (.slice A k c) wr
set_option maxRecDepth 100000 in
set_option maxHeartbeats 1000000 in
theorem rnew_any (n : Nat) (w : World) (h1 : 8 ≤ n) (h2 : n ≤ 1024) :
    Calls Try.prog 22 #[.int .i64 (n : Int)] w fun e w' => e = .returned (.pointer (some ⟨w.heap.size, 0, none⟩)) ∧ Hid (RefD w' w.heap.size w.heap.size ⟨List.replicate n noughts, [], -1, false, 0⟩ ∧ Sim (fresh n) ⟨List.replicate n noughts, [], -1, false, 0⟩ ∧ Below w.heap.size w w') := by
  obtain ⟨Z, hz⟩ : ∃ Z, Obj.cells (List.replicate 256 (Value.int .u8 0)).toArray 5 (0, 0) = Z := ⟨_, rfl⟩
  have hmk : ∀ W : World, (Instr.makeSlice 26 (.int .i64 256) (.int .i64 256)).run Try.prog W = .ok (.slice (some ⟨W.heap.size, 0, none⟩) 256 256) (W.alloc Z) := fun W => by rw [← hz]; exact make_bytes W
  have HZ : Hid (∀ W : World, RowV (W.alloc Z) (.slice (some ⟨W.heap.size, 0, none⟩) 256 256) noughts) := kept (fun W => by rw [← hz]; exact rowV_new W)
  clear hz
  have H0 : Hid (NewA w w.heap.size 0 (w.alloc (.cells #[.slice none 0 0, .slice none 0 0, .int .i64 (-1), .bool false, .int .i64 0] 52))) := kept ⟨none, 0, [], Blk.new w 52 _, Nat.le_refl _, ⟨rfl, .inl ⟨rfl, rfl⟩⟩, ⟨rfl, fun i h => absurd h (by simp)⟩, (Below.refl _ w).alloc (Nat.le_refl _) _⟩
  go_enter Try.func22, Try.ntmps22
  go_wp2
  go_loopw [4] (fun i wr => ∃ k : Nat, k ≤ n ∧ i = .int .i64 (k : Int) ∧ Hid (NewA w w.heap.size k wr)) (fun i _ => n - (intOf i).toNat)
  case atStart => exact ⟨0, Nat.zero_le _, rfl, H0⟩
  case round =>
    obtain ⟨k, hkn, rfl, HR⟩ := hrel
    by_cases hlt : k < n
    · obtain ⟨A, c, ps, hb, hr, ho, hrp, hbl⟩ := HR.out
      have d1 : wr.cell? ⟨w.heap.size, 0, none⟩ = some (.slice A k c) := hb.cell 0
      have hrl : w.heap.size < wr.heap.size := hb.lt
      have d2 : ∀ o, (wr.alloc o).cell? ⟨w.heap.size, 0, none⟩ = some (.slice A k c) := fun o => (World.cell?_alloc_lt wr o ⟨w.heap.size, 0, none⟩ hrl).trans d1
      have d3 : ∀ o o', ((wr.alloc o).alloc o').cell? ⟨w.heap.size, 0, none⟩ = some (.slice A k c) := fun o o' => (World.cell?_alloc_lt (wr.alloc o) o' ⟨w.heap.size, 0, none⟩ (Nat.lt_of_lt_of_le hrl (alloc_le _ _))).trans (d2 o)
      have HB := kept hb
      have HRR := kept hr
      have HO := kept ho
      have HRP := kept hrp
      have HBL := kept hbl
      have HBA : Hid (∀ o o', Below wr.heap.size wr ((wr.alloc o).alloc o')) := kept (fun o o' => (((Below.refl _ wr).alloc (Nat.le_refl _) o).alloc (alloc_le _ _) o'))
      have hk1 : (k : Int) < (n : Int) := by omega
      clear hb hr ho hrp hbl HR H0 hrl
      go_wp2
      go_region_law (first
        | (refine step_append_mine rfl _ _ 49 rfl w.heap.size 26 1 24 Try.underlying49 (z := .slice none 0 0) (by kernel_rfl) rfl (by omega) A k c ps rfl (own_turned HO.out (Turned.of_below (HBA.out _ _).drew (fun _ => False)) (fun _ _ _ _ => id)) ⟨wr.heap.size + 1, 0, none⟩ 1 1 [.slice (some ⟨wr.heap.size, 0, none⟩) 256 256] rfl rfl (by omega) (by have := new_cells (wr.alloc Z) 26 [.slice (some ⟨wr.heap.size, 0, none⟩) 256 256]; rw [World.size_alloc] at this; exact this) (fun u hu => by simp at hu; subst hu; rfl) (by unfold maxLen; omega) (by omega) (Nat.le_trans HBL.out.size (HBA.out _ _).size) ?_; intro A2 c2 w2 hown2 hg2; have HP : Hid (NewR w w.heap.size (k + 1) (.slice A2 (k + 1) c2) (w2.setCell ⟨w.heap.size, 0, none⟩ (.slice A2 (k + 1) c2)) ∧ w2.cell? ⟨w.heap.size, 0, none⟩ = some (.slice A k c) ∧ w2.frozen? ⟨w.heap.size, 0, none⟩ = false) := kept (NewR.more HB.out HRR.out HO.out HRP.out HBL.out (HBA.out _ _).drew ((HZ.out wr).turned (Turned.of_below ((Below.refl _ _).alloc (Nat.le_refl _) _).drew (fun _ => False)) (fun _ _ _ _ => id)) hown2 hg2); have y1 := HP.out.2.1; have y2 := HP.out.2.2; clear hown2 hg2))
      all_goals
        go_wp2
        go_roundw
        case rel => exact ⟨k + 1, by omega, by go_num, kept ⟨_, _, HP.out.1⟩⟩
        case measure => simp [intOf]; omega
    · obtain rfl : k = n := by omega
      have HE : Hid (RefD wr w.heap.size w.heap.size ⟨List.replicate k noughts, [], -1, false, 0⟩ ∧ Sim (fresh k) ⟨List.replicate k noughts, [], -1, false, 0⟩ ∧ Below w.heap.size w wr) := kept (by obtain ⟨A, c, hN⟩ := HR.out; exact hN.done h1)
      clear HR
      go_wp2
      go_ret
      exact ⟨rfl, HE⟩
end Go.Proofs.Ytfmljiidgaoihaa
