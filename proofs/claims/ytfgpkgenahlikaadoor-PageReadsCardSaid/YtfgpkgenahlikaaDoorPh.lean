/-
  page.hasItsOwn: of a kind, and with things of this kind alone.
-/
import Derived.Test.YtfgpkgenahlikaaDoorPr
import Derived.Deep.RegionHeld3
import Derived.Deep.DrawnRows
namespace Go.Proofs.YtfgpkgenahlikaaDoor
open Go.ChangeShapes Go.WideShapes Go.ChangeAt Go.RowKit
set_option linter.unusedVariables false

def ownL (l : Lay) : Bool := decide (1 ≤ l.kind) && decide (l.kind ≤ 4) &&
  (decide (l.kind = 1) || decide (l.n1 = 0)) && (decide (l.kind = 2) || decide (l.n2 = 0)) && (decide (l.kind = 3) || decide (l.n3 = 0)) && (decide (l.kind = 4) || decide (l.n4 = 0)) &&
  (decide (l.kind = 4) || decide (0 < l.n1 + l.n2 + l.n3 + l.n4))
theorem ownL_eq {w : World} {l : Lay} {P : Pg} (h : RdPg w l P) : ownL l = ownB P := by
  unfold ownL ownB
  rw [h.kind, h.n1, h.n2, h.n3, h.n4]
/-- The five counts, at a place. -/
theorem ixk (l : Lay) (k : Nat) (hk : k < 5) (w : World) : (Instr.index 77 (.agg #[.int .i64 0, .int .i64 l.n1, .int .i64 l.n2, .int .i64 l.n3, .int .i64 l.n4]) (.int .i64 (k : Int))).run Tryd.prog w = .ok (.int .i64 (cnt l k : Int)) w := by
  match k, hk with
  | 0, _ => exact ix0 _ _ _ _ _ w
  | 1, _ => exact ix1 _ _ _ _ _ w
  | 2, _ => exact ix2 _ _ _ _ _ w
  | 3, _ => exact ix3 _ _ _ _ _ w
  | 4, _ => exact ix4 _ _ _ _ _ w
theorem own_not {l : Lay} {kd k : Nat} (hk : l.kind = (kd : Int)) (hne : k ≠ kd) (h5 : k < 5) (h : cnt l k ≠ 0) : ownL l = false := by
  unfold ownL
  rw [hk, Bool.eq_false_iff]
  match k, h5 with
  | 0, _ => exact absurd rfl h
  | 1, _ => have h : l.n1 ≠ 0 := h; simp; omega
  | 2, _ => have h : l.n2 ≠ 0 := h; simp; omega
  | 3, _ => have h : l.n3 ≠ 0 := h; simp; omega
  | 4, _ => have h : l.n4 ≠ 0 := h; simp; omega
theorem own_if {l : Lay} {kd : Nat} (hk : l.kind = (kd : Int)) (h1 : 1 ≤ kd) (h4 : kd ≤ 4) (h : ∀ j, j < 5 → j ≠ kd → cnt l j = 0) : ownL l = (decide (kd = 4) || decide (0 < cnt l kd)) := by
  have g1 := h 1 (by omega)
  have g2 := h 2 (by omega)
  have g3 := h 3 (by omega)
  have g4 := h 4 (by omega)
  simp only [cnt] at g1 g2 g3 g4
  unfold ownL
  rw [hk, Bool.eq_iff_iff]
  have : kd = 1 ∨ kd = 2 ∨ kd = 3 ∨ kd = 4 := by omega
  rcases this with rfl | rfl | rfl | rfl <;> simp [cnt] <;> omega
theorem cnt_le {l : Lay} (k : Nat) (h1 : l.n1 ≤ 140737488355328) (h2 : l.n2 ≤ 140737488355328) (h3 : l.n3 ≤ 140737488355328) (h4 : l.n4 ≤ 140737488355328) : cnt l k ≤ 140737488355328 := by
  unfold cnt
  split <;> omega
/-- A page's box: its seven cells. -/
abbrev Sev (W : World) (b : Nat) (kind txn next : Int) (a1 : Option Addr) (n1 c1 : Nat) (a2 : Option Addr) (n2 c2 : Nat) (a3 : Option Addr) (n3 c3 : Nat) (a4 : Option Addr) (n4 c4 : Nat) : Prop :=
  W.cell? ⟨b, 0, none⟩ = some (.int .i64 kind) ∧ W.cell? ⟨b, 1, none⟩ = some (.int .u64 txn) ∧ W.cell? ⟨b, 2, none⟩ = some (.int .i64 next) ∧ W.cell? ⟨b, 3, none⟩ = some (.slice a1 n1 c1) ∧ W.cell? ⟨b, 4, none⟩ = some (.slice a2 n2 c2) ∧ W.cell? ⟨b, 5, none⟩ = some (.slice a3 n3 c3) ∧ W.cell? ⟨b, 6, none⟩ = some (.slice a4 n4 c4)
theorem sev_box (w : World) (kind txn next : Int) (a1 : Option Addr) (n1 c1 : Nat) (a2 : Option Addr) (n2 c2 : Nat) (a3 : Option Addr) (n3 c3 : Nat) (a4 : Option Addr) (n4 c4 : Nat) {X : World} (t : TypeId := 28)
    (hX : Below (w.alloc (.cells #[.int .i64 kind, .int .u64 txn, .int .i64 next, .slice a1 n1 c1, .slice a2 n2 c2, .slice a3 n3 c3, .slice a4 n4 c4] t)).heap.size (w.alloc (.cells #[.int .i64 kind, .int .u64 txn, .int .i64 next, .slice a1 n1 c1, .slice a2 n2 c2, .slice a3 n3 c3, .slice a4 n4 c4] t)) X) : Sev X w.heap.size kind txn next a1 n1 c1 a2 n2 c2 a3 n3 c3 a4 n4 c4 := by
  have key : ∀ (i : Nat) (v : Value), #[Value.int .i64 kind, .int .u64 txn, .int .i64 next, .slice a1 n1 c1, .slice a2 n2 c2, .slice a3 n3 c3, .slice a4 n4 c4][i]? = some v → X.cell? ⟨w.heap.size, i, none⟩ = some v := fun i v hv => (hX.cell (p := ⟨w.heap.size, i, none⟩) (by simp)).trans (by rw [cell_of_row _ w.heap.size i _ _ _ (heap_alloc_new w _)]; exact hv)
  exact ⟨key 0 _ rfl, key 1 _ rfl, key 2 _ rfl, key 3 _ rfl, key 4 _ rfl, key 5 _ rfl, key 6 _ rfl⟩
theorem below_of_drew' {w w' : World} {q : Nat} (h : Below (w.drewN q).heap.size (w.drewN q) w') : Below w.heap.size w w' := ⟨h.os, h.tape, h.output, h.size, h.block⟩
theorem below_of_drew1 {w w' : World} (h : Below w.drew.heap.size w.drew w') : Below w.heap.size w w' := ⟨h.os, h.tape, h.output, h.size, h.block⟩
set_option maxRecDepth 100000 in
theorem hasItsOwn_any (l : Lay) (w : World) (h1 : l.n1 ≤ 140737488355328) (h2 : l.n2 ≤ 140737488355328) (h3 : l.n3 ≤ 140737488355328) (h4 : l.n4 ≤ 140737488355328) :
    Calls Tryd.prog 40 #[l.val] w fun e w' => e = .returned (.bool (ownL l)) ∧ Below w.heap.size w w' := by
  by_cases hlo : l.kind < 1
  · have HO : Hid (ownL l = false) := by show _ = _; unfold ownL; rw [Bool.eq_false_iff]; simp; omega
    obtain ⟨kind, txn, next, a1, n1, c1, a2, n2, c2, a3, n3, c3, a4, n4, c4⟩ := l
    simp only at hlo
    go_enter Tryd.func40, Tryd.ntmps40
    go_wp2
    go_ret
    exact ⟨ret_bool HO.out.symm, (Below.refl _ _).alloc (Nat.le_refl _) _⟩
  by_cases hhi : 4 < l.kind
  · have HO : Hid (ownL l = false) := by show _ = _; unfold ownL; rw [Bool.eq_false_iff]; simp; omega
    obtain ⟨kind, txn, next, a1, n1, c1, a2, n2, c2, a3, n3, c3, a4, n4, c4⟩ := l
    simp only at hlo hhi
    go_enter Tryd.func40, Tryd.ntmps40
    go_wp2
    go_ret
    exact ⟨ret_bool HO.out.symm, (Below.refl _ _).alloc (Nat.le_refl _) _⟩
  obtain ⟨kd, hkd⟩ : ∃ kd : Nat, l.kind = (kd : Int) := ⟨l.kind.toNat, by omega⟩
  have hk1 : 1 ≤ kd := by omega
  have hk4 : kd ≤ 4 := by omega
  have HIX := kept (fun k hk w => ixk l k hk w)
  have HNOT := kept (fun k (hne : k ≠ kd) (h5 : k < 5) h => own_not (l := l) hkd hne h5 h)
  have HIF := kept (fun h => own_if (l := l) hkd hk1 hk4 h)
  have HCL := kept (fun k => cnt_le (l := l) k h1 h2 h3 h4)
  have HCN := kept (fun w => counts_any l w)
  generalize ownL l = o at HNOT HIF
  generalize cnt l = ct at HIX HNOT HIF HCL
  obtain ⟨kind, txn, next, a1, n1, c1, a2, n2, c2, a3, n3, c3, a4, n4, c4⟩ := l
  simp only at hkd hlo hhi h1 h2 h3 h4
  subst hkd
  clear hlo hhi
  go_enter Tryd.func40, Tryd.ntmps40
  go_wp2_with (first | (go_at_call 36; (with_reducible refine ((HCN.out _)).mono ?_); rintro e w1 ⟨rfl, hb1⟩; have HB1 := kept hb1; clear hb1))
  have HB0 : Hid (Below w.heap.size w w1) := kept (((Below.refl _ w).alloc (Nat.le_refl _) _).trans (HB1.out.mono (by simp)))
  have hcell : w1.cell? ⟨w.heap.size, 0, none⟩ = some (.int .i64 (kd : Int)) := (HB1.out.cell (p := ⟨w.heap.size, 0, none⟩) (by simp)).trans (by rw [cell_of_row _ w.heap.size 0 _ _ _ (heap_alloc_new w _)]; rfl)
  have hc1 : w1.cell? ⟨w.heap.size, 1, none⟩ = some (.int .u64 txn) := (HB1.out.cell (p := ⟨w.heap.size, 1, none⟩) (by simp)).trans (by rw [cell_of_row _ w.heap.size 1 _ _ _ (heap_alloc_new w _)]; rfl)
  have hc2 : w1.cell? ⟨w.heap.size, 2, none⟩ = some (.int .i64 next) := (HB1.out.cell (p := ⟨w.heap.size, 2, none⟩) (by simp)).trans (by rw [cell_of_row _ w.heap.size 2 _ _ _ (heap_alloc_new w _)]; rfl)
  have hc3 : w1.cell? ⟨w.heap.size, 3, none⟩ = some (.slice a1 n1 c1) := (HB1.out.cell (p := ⟨w.heap.size, 3, none⟩) (by simp)).trans (by rw [cell_of_row _ w.heap.size 3 _ _ _ (heap_alloc_new w _)]; rfl)
  have hc4 : w1.cell? ⟨w.heap.size, 4, none⟩ = some (.slice a2 n2 c2) := (HB1.out.cell (p := ⟨w.heap.size, 4, none⟩) (by simp)).trans (by rw [cell_of_row _ w.heap.size 4 _ _ _ (heap_alloc_new w _)]; rfl)
  have hc5 : w1.cell? ⟨w.heap.size, 5, none⟩ = some (.slice a3 n3 c3) := (HB1.out.cell (p := ⟨w.heap.size, 5, none⟩) (by simp)).trans (by rw [cell_of_row _ w.heap.size 5 _ _ _ (heap_alloc_new w _)]; rfl)
  have hc6 : w1.cell? ⟨w.heap.size, 6, none⟩ = some (.slice a4 n4 c4) := (HB1.out.cell (p := ⟨w.heap.size, 6, none⟩) (by simp)).trans (by rw [cell_of_row _ w.heap.size 6 _ _ _ (heap_alloc_new w _)]; rfl)
  go_loop [15] (fun i => ∃ k : Nat, k ≤ 5 ∧ i = .int .i64 k ∧ Hid (∀ j, j < k → j ≠ kd → ct j = 0)) (fun i => 5 - (intOf i).toNat)
  case atStart => exact ⟨0, by omega, rfl, fun j hj => absurd hj (by omega)⟩
  case round =>
    obtain ⟨k, hk, rfl, HALL⟩ := hrel
    by_cases hlt : k < 5
    · have hix := HIX.out k hlt
      have hcl := HCL.out k
      by_cases he : k = kd
      · have heq : ((k : Int) != (kd : Int)) = false := by simp; omega
        have HE := kept he
        clear he
        go_wp2
        go_round
        case rel => exact ⟨k + 1, by omega, by go_num, fun j hj hne => HALL.out j (by have := HE.out; omega) hne⟩
        case measure => simp [intOf]; omega
      · have heq : ((k : Int) != (kd : Int)) = true := by simp; omega
        have HNE := kept he
        clear he
        by_cases hz : ct k = 0
        · have HZ := kept hz
          rw [hz] at hix
          clear hz
          go_wp2
          go_round
          case rel =>
            refine ⟨k + 1, by omega, by go_num, fun j hj hne => ?_⟩
            rcases Nat.lt_succ_iff_lt_or_eq.1 hj with h | h
            · exact HALL.out j h hne
            · subst h; exact HZ.out
          case measure => simp [intOf]; omega
        · have HO := kept (HNOT.out k HNE.out hlt hz)
          have hpos : 0 < ct k := by omega
          go_wp2
          go_ret
          exact ⟨ret_bool HO.out.symm, HB0.out⟩
    · obtain rfl : k = 5 := by omega
      have HO := kept (HIF.out (fun j hj hne => HALL.out j hj hne))
      have hcl := HCL.out kd
      have hix := HIX.out kd (by omega)
      by_cases h4 : kd = 4
      · have hg : ((kd : Int) == 4) = true := by simp; omega
        have HE : Hid (o = true) := by show _ = _; rw [HO.out]; simp [h4]
        clear h4
        go_wp2
        go_quiet (fail)
        go_wp2
        go_ret
        exact ⟨ret_bool HE.out.symm, drewN_below HB0.out _⟩
      · have hg : ((kd : Int) == 4) = false := by simp; omega
        have HE : Hid (o = decide (0 < ct kd)) := by show _ = _; rw [HO.out]; simp [h4]
        have HS : Hid (∀ W, Below w1.heap.size w1 W → Sev W w.heap.size kd txn next a1 n1 c1 a2 n2 c2 a3 n3 c3 a4 n4 c4) := kept (fun W hW => ⟨cell_below hW hcell, cell_below hW hc1, cell_below hW hc2, cell_below hW hc3, cell_below hW hc4, cell_below hW hc5, cell_below hW hc6⟩)
        have HB00 : Hid (Below w1.heap.size w1 w1) := kept (Below.refl _ _)
        clear h4
        go_wp2
        go_region_held3 (fun W' => Sev W' w.heap.size kd txn next a1 n1 c1 a2 n2 c2 a3 n3 c3 a4 n4 c4) ((first | exact ⟨hcell, hc1, hc2, hc3, hc4, hc5, hc6⟩ | exact ⟨n0, n1', n2', n3', n4', n5', n6'⟩)) (first | (go_at_call 36; (with_reducible refine (HCN.out _).mono ?_); rintro e w2 ⟨rfl, hb2⟩; have HB2 : Hid (Below w1.heap.size w1 w2) := kept (below_of_drew1 hb2); obtain ⟨n0, n1', n2', n3', n4', n5', n6'⟩ := HS.out _ HB2.out; clear hb2))
        go_wp2
        go_ret
        exact ⟨ret_bool (by rw [HE.out]), HB0.out.trans (HB2.out.mono HB0.out.size)⟩
end Go.Proofs.YtfgpkgenahlikaaDoor
