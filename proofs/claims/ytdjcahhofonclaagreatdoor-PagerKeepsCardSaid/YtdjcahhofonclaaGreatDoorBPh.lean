/-
  Texts laid together: Ph Po Pi Pu.
-/
import Derived.Test.YtdjcahhofonclaaGreatDoorBPg
import Derived.Deep.RegionHeld3
import Derived.Deep.DrawnRows
import Derived.Test.YtdjcahhofonclaaGreatDoorBHnd
section
/-
  page.hasItsOwn: of a kind, and with things of this kind alone.
-/
namespace Go.Proofs.YtdjcahhofonclaaGreatDoor
open Go.ChangeShapes Go.WideShapes Go.ChangeAt Go.RowKit
set_option linter.unusedVariables false

def ownL (l : Lay) : Bool := decide (1 ≤ l.kind) && decide (l.kind ≤ 4) &&
  (decide (l.kind = 1) || decide (l.n1 = 0)) && (decide (l.kind = 2) || decide (l.n2 = 0)) && (decide (l.kind = 3) || decide (l.n3 = 0)) && (decide (l.kind = 4) || decide (l.n4 = 0)) &&
  (decide (l.kind = 4) || decide (0 < l.n1 + l.n2 + l.n3 + l.n4))
theorem ownL_eq {w : World} {l : Lay} {P : Pg} (h : RdPg w l P) : ownL l = ownB P := by
  unfold ownL ownB
  rw [h.kind, h.n1, h.n2, h.n3, h.n4]
/-- The five counts, at a place. -/
theorem ixk (l : Lay) (k : Nat) (hk : k < 5) (w : World) : (Instr.index 180 (.agg #[.int .i64 0, .int .i64 l.n1, .int .i64 l.n2, .int .i64 l.n3, .int .i64 l.n4]) (.int .i64 (k : Int))).run Tryz.prog w = .ok (.int .i64 (cnt l k : Int)) w := by
  match k, hk with
  | 0, _ => exact ix0 _ _ _ _ _ w
  | 1, _ => exact ix1 _ _ _ _ _ w
  | 2, _ => exact ix2 _ _ _ _ _ w
  | 3, _ => exact ix3 _ _ _ _ _ w
  | 4, _ => exact ix4 _ _ _ _ _ w
theorem own_not {l : Lay} {kd k : Nat} (hk : l.kind = (kd : Int)) (hne : k ≠ kd) (h5 : k < 5) (h : cnt l k ≠ 0) : ownL l = false := by
  unfold ownL
  rw [hk, Bool.eq_false_iff]
  match k, h5 with
  | 0, _ => exact absurd rfl h
  | 1, _ => have h : l.n1 ≠ 0 := h; simp; omega
  | 2, _ => have h : l.n2 ≠ 0 := h; simp; omega
  | 3, _ => have h : l.n3 ≠ 0 := h; simp; omega
  | 4, _ => have h : l.n4 ≠ 0 := h; simp; omega
theorem own_if {l : Lay} {kd : Nat} (hk : l.kind = (kd : Int)) (h1 : 1 ≤ kd) (h4 : kd ≤ 4) (h : ∀ j, j < 5 → j ≠ kd → cnt l j = 0) : ownL l = (decide (kd = 4) || decide (0 < cnt l kd)) := by
  have g1 := h 1 (by omega)
  have g2 := h 2 (by omega)
  have g3 := h 3 (by omega)
  have g4 := h 4 (by omega)
  simp only [cnt] at g1 g2 g3 g4
  unfold ownL
  rw [hk, Bool.eq_iff_iff]
  have : kd = 1 ∨ kd = 2 ∨ kd = 3 ∨ kd = 4 := by omega
  rcases this with rfl | rfl | rfl | rfl <;> simp [cnt] <;> omega
theorem cnt_le {l : Lay} (k : Nat) (h1 : l.n1 ≤ 140737488355328) (h2 : l.n2 ≤ 140737488355328) (h3 : l.n3 ≤ 140737488355328) (h4 : l.n4 ≤ 140737488355328) : cnt l k ≤ 140737488355328 := by
  unfold cnt
  split <;> omega
/-- A page's box: its seven cells. -/
abbrev Sev (W : World) (b : Nat) (kind txn next : Int) (a1 : Option Addr) (n1 c1 : Nat) (a2 : Option Addr) (n2 c2 : Nat) (a3 : Option Addr) (n3 c3 : Nat) (a4 : Option Addr) (n4 c4 : Nat) : Prop :=
  W.cell? ⟨b, 0, none⟩ = some (.int .i64 kind) ∧ W.cell? ⟨b, 1, none⟩ = some (.int .u64 txn) ∧ W.cell? ⟨b, 2, none⟩ = some (.int .i64 next) ∧ W.cell? ⟨b, 3, none⟩ = some (.slice a1 n1 c1) ∧ W.cell? ⟨b, 4, none⟩ = some (.slice a2 n2 c2) ∧ W.cell? ⟨b, 5, none⟩ = some (.slice a3 n3 c3) ∧ W.cell? ⟨b, 6, none⟩ = some (.slice a4 n4 c4)
theorem sev_box (w : World) (kind txn next : Int) (a1 : Option Addr) (n1 c1 : Nat) (a2 : Option Addr) (n2 c2 : Nat) (a3 : Option Addr) (n3 c3 : Nat) (a4 : Option Addr) (n4 c4 : Nat) {X : World} (t : TypeId := 64)
    (hX : Below (w.alloc (.cells #[.int .i64 kind, .int .u64 txn, .int .i64 next, .slice a1 n1 c1, .slice a2 n2 c2, .slice a3 n3 c3, .slice a4 n4 c4] t)).heap.size (w.alloc (.cells #[.int .i64 kind, .int .u64 txn, .int .i64 next, .slice a1 n1 c1, .slice a2 n2 c2, .slice a3 n3 c3, .slice a4 n4 c4] t)) X) : Sev X w.heap.size kind txn next a1 n1 c1 a2 n2 c2 a3 n3 c3 a4 n4 c4 := by
  have key : ∀ (i : Nat) (v : Value), #[Value.int .i64 kind, .int .u64 txn, .int .i64 next, .slice a1 n1 c1, .slice a2 n2 c2, .slice a3 n3 c3, .slice a4 n4 c4][i]? = some v → X.cell? ⟨w.heap.size, i, none⟩ = some v := fun i v hv => (hX.cell (p := ⟨w.heap.size, i, none⟩) (by simp)).trans (by rw [cell_of_row _ w.heap.size i _ _ _ (heap_alloc_new w _)]; exact hv)
  exact ⟨key 0 _ rfl, key 1 _ rfl, key 2 _ rfl, key 3 _ rfl, key 4 _ rfl, key 5 _ rfl, key 6 _ rfl⟩
theorem below_of_drew' {w w' : World} {q : Nat} (h : Below (w.drewN q).heap.size (w.drewN q) w') : Below w.heap.size w w' := ⟨h.os, h.tape, h.output, h.size, h.block⟩
theorem below_of_drew1 {w w' : World} (h : Below w.drew.heap.size w.drew w') : Below w.heap.size w w' := ⟨h.os, h.tape, h.output, h.size, h.block⟩
set_option maxRecDepth 100000 in
theorem hasItsOwn_any (l : Lay) (w : World) (h1 : l.n1 ≤ 140737488355328) (h2 : l.n2 ≤ 140737488355328) (h3 : l.n3 ≤ 140737488355328) (h4 : l.n4 ≤ 140737488355328) :
    Calls Tryz.prog 133 #[l.val] w fun e w' => e = .returned (.bool (ownL l)) ∧ Below w.heap.size w w' := by
  by_cases hlo : l.kind < 1
  · have HO : Hid (ownL l = false) := by show _ = _; unfold ownL; rw [Bool.eq_false_iff]; simp; omega
    obtain ⟨kind, txn, next, a1, n1, c1, a2, n2, c2, a3, n3, c3, a4, n4, c4⟩ := l
    simp only at hlo
    go_enter Tryz.func133, Tryz.ntmps133
    go_wp2
    go_ret
    exact ⟨ret_bool HO.out.symm, (Below.refl _ _).alloc (Nat.le_refl _) _⟩
  by_cases hhi : 4 < l.kind
  · have HO : Hid (ownL l = false) := by show _ = _; unfold ownL; rw [Bool.eq_false_iff]; simp; omega
    obtain ⟨kind, txn, next, a1, n1, c1, a2, n2, c2, a3, n3, c3, a4, n4, c4⟩ := l
    simp only at hlo hhi
    go_enter Tryz.func133, Tryz.ntmps133
    go_wp2
    go_ret
    exact ⟨ret_bool HO.out.symm, (Below.refl _ _).alloc (Nat.le_refl _) _⟩
  obtain ⟨kd, hkd⟩ : ∃ kd : Nat, l.kind = (kd : Int) := ⟨l.kind.toNat, by omega⟩
  have hk1 : 1 ≤ kd := by omega
  have hk4 : kd ≤ 4 := by omega
  have HIX := kept (fun k hk w => ixk l k hk w)
  have HNOT := kept (fun k (hne : k ≠ kd) (h5 : k < 5) h => own_not (l := l) hkd hne h5 h)
  have HIF := kept (fun h => own_if (l := l) hkd hk1 hk4 h)
  have HCL := kept (fun k => cnt_le (l := l) k h1 h2 h3 h4)
  have HCN := kept (fun w => counts_any l w)
  generalize ownL l = o at HNOT HIF
  generalize cnt l = ct at HIX HNOT HIF HCL
  obtain ⟨kind, txn, next, a1, n1, c1, a2, n2, c2, a3, n3, c3, a4, n4, c4⟩ := l
  simp only at hkd hlo hhi h1 h2 h3 h4
  subst hkd
  clear hlo hhi
  go_enter Tryz.func133, Tryz.ntmps133
  go_wp2_with (first | (go_at_call 98; (with_reducible refine ((HCN.out _)).mono ?_); rintro e w1 ⟨rfl, hb1⟩; have HB1 := kept hb1; clear hb1))
  have HB0 : Hid (Below w.heap.size w w1) := kept (((Below.refl _ w).alloc (Nat.le_refl _) _).trans (HB1.out.mono (by simp)))
  have hcell : w1.cell? ⟨w.heap.size, 0, none⟩ = some (.int .i64 (kd : Int)) := (HB1.out.cell (p := ⟨w.heap.size, 0, none⟩) (by simp)).trans (by rw [cell_of_row _ w.heap.size 0 _ _ _ (heap_alloc_new w _)]; rfl)
  have hc1 : w1.cell? ⟨w.heap.size, 1, none⟩ = some (.int .u64 txn) := (HB1.out.cell (p := ⟨w.heap.size, 1, none⟩) (by simp)).trans (by rw [cell_of_row _ w.heap.size 1 _ _ _ (heap_alloc_new w _)]; rfl)
  have hc2 : w1.cell? ⟨w.heap.size, 2, none⟩ = some (.int .i64 next) := (HB1.out.cell (p := ⟨w.heap.size, 2, none⟩) (by simp)).trans (by rw [cell_of_row _ w.heap.size 2 _ _ _ (heap_alloc_new w _)]; rfl)
  have hc3 : w1.cell? ⟨w.heap.size, 3, none⟩ = some (.slice a1 n1 c1) := (HB1.out.cell (p := ⟨w.heap.size, 3, none⟩) (by simp)).trans (by rw [cell_of_row _ w.heap.size 3 _ _ _ (heap_alloc_new w _)]; rfl)
  have hc4 : w1.cell? ⟨w.heap.size, 4, none⟩ = some (.slice a2 n2 c2) := (HB1.out.cell (p := ⟨w.heap.size, 4, none⟩) (by simp)).trans (by rw [cell_of_row _ w.heap.size 4 _ _ _ (heap_alloc_new w _)]; rfl)
  have hc5 : w1.cell? ⟨w.heap.size, 5, none⟩ = some (.slice a3 n3 c3) := (HB1.out.cell (p := ⟨w.heap.size, 5, none⟩) (by simp)).trans (by rw [cell_of_row _ w.heap.size 5 _ _ _ (heap_alloc_new w _)]; rfl)
  have hc6 : w1.cell? ⟨w.heap.size, 6, none⟩ = some (.slice a4 n4 c4) := (HB1.out.cell (p := ⟨w.heap.size, 6, none⟩) (by simp)).trans (by rw [cell_of_row _ w.heap.size 6 _ _ _ (heap_alloc_new w _)]; rfl)
  go_loop [15] (fun i => ∃ k : Nat, k ≤ 5 ∧ i = .int .i64 k ∧ Hid (∀ j, j < k → j ≠ kd → ct j = 0)) (fun i => 5 - (intOf i).toNat)
  case atStart => exact ⟨0, by omega, rfl, fun j hj => absurd hj (by omega)⟩
  case round =>
    obtain ⟨k, hk, rfl, HALL⟩ := hrel
    by_cases hlt : k < 5
    · have hix := HIX.out k hlt
      have hcl := HCL.out k
      by_cases he : k = kd
      · have heq : ((k : Int) != (kd : Int)) = false := by simp; omega
        have HE := kept he
        clear he
        go_wp2
        go_round
        case rel => exact ⟨k + 1, by omega, by go_num, fun j hj hne => HALL.out j (by have := HE.out; omega) hne⟩
        case measure => simp [intOf]; omega
      · have heq : ((k : Int) != (kd : Int)) = true := by simp; omega
        have HNE := kept he
        clear he
        by_cases hz : ct k = 0
        · have HZ := kept hz
          rw [hz] at hix
          clear hz
          go_wp2
          go_round
          case rel =>
            refine ⟨k + 1, by omega, by go_num, fun j hj hne => ?_⟩
            rcases Nat.lt_succ_iff_lt_or_eq.1 hj with h | h
            · exact HALL.out j h hne
            · subst h; exact HZ.out
          case measure => simp [intOf]; omega
        · have HO := kept (HNOT.out k HNE.out hlt hz)
          have hpos : 0 < ct k := by omega
          go_wp2
          go_ret
          exact ⟨ret_bool HO.out.symm, HB0.out⟩
    · obtain rfl : k = 5 := by omega
      have HO := kept (HIF.out (fun j hj hne => HALL.out j hj hne))
      have hcl := HCL.out kd
      have hix := HIX.out kd (by omega)
      by_cases h4 : kd = 4
      · have hg : ((kd : Int) == 4) = true := by simp; omega
        have HE : Hid (o = true) := by show _ = _; rw [HO.out]; simp [h4]
        clear h4
        go_wp2
        go_quiet (fail)
        go_wp2
        go_ret
        exact ⟨ret_bool HE.out.symm, drewN_below HB0.out _⟩
      · have hg : ((kd : Int) == 4) = false := by simp; omega
        have HE : Hid (o = decide (0 < ct kd)) := by show _ = _; rw [HO.out]; simp [h4]
        have HS : Hid (∀ W, Below w1.heap.size w1 W → Sev W w.heap.size kd txn next a1 n1 c1 a2 n2 c2 a3 n3 c3 a4 n4 c4) := kept (fun W hW => ⟨cell_below hW hcell, cell_below hW hc1, cell_below hW hc2, cell_below hW hc3, cell_below hW hc4, cell_below hW hc5, cell_below hW hc6⟩)
        have HB00 : Hid (Below w1.heap.size w1 w1) := kept (Below.refl _ _)
        clear h4
        go_wp2
        go_region_held3 (fun W' => Sev W' w.heap.size kd txn next a1 n1 c1 a2 n2 c2 a3 n3 c3 a4 n4 c4) ((first | exact ⟨hcell, hc1, hc2, hc3, hc4, hc5, hc6⟩ | exact ⟨n0, n1', n2', n3', n4', n5', n6'⟩)) (first | (go_at_call 98; (with_reducible refine (HCN.out _).mono ?_); rintro e w2 ⟨rfl, hb2⟩; have HB2 : Hid (Below w1.heap.size w1 w2) := kept (below_of_drew1 hb2); obtain ⟨n0, n1', n2', n3', n4', n5', n6'⟩ := HS.out _ HB2.out; clear hb2))
        go_wp2
        go_ret
        exact ⟨ret_bool (by rw [HE.out]), HB0.out.trans (HB2.out.mono HB0.out.size)⟩
end Go.Proofs.YtdjcahhofonclaaGreatDoor
end

section
/-
  page.inOrder, three times: of numbers, of kids, of items.
-/
namespace Go.Proofs.YtdjcahhofonclaaGreatDoor
open Go.ChangeShapes Go.WideShapes Go.ChangeAt Go.RowKit
set_option linter.unusedVariables false
set_option linter.unusedSimpArgs false

section
variable {α : Type} {ok : α → Bool} {cmp : α → α → Int} {I : List α}
theorem ordU_zero : ordU ok cmp I 0 = true := by simp [ordU]
/-- Is x above the one ahead of place k? -/
def aboveB (cmp : α → α → Int) (I : List α) (k : Nat) (x : α) : Bool := k == 0 || match I[k - 1]? with | none => true | some y => decide (cmp y x < 0)
theorem aboveB_succ {k : Nat} (hk : k < I.length) (x : α) : aboveB cmp I (k + 1) x = decide (cmp I[k] x < 0) := by
  unfold aboveB
  rw [Nat.add_sub_cancel, List.getElem?_eq_getElem hk]
  rfl
theorem ordU_succ {k : Nat} (hk : k < I.length) : ordU ok cmp I (k + 1) = (ordU ok cmp I k && (ok I[k] && aboveB cmp I k I[k])) := by
  unfold ordU
  rw [List.range_succ, List.all_append]
  simp only [List.all_cons, List.all_nil, Bool.and_true]
  rw [List.getElem?_eq_getElem hk]
  rfl
theorem ordU_false {k n : Nat} (h : ordU ok cmp I k = false) (hn : k ≤ n) : ordU ok cmp I n = false := by
  unfold ordU at *
  rw [List.all_eq_false] at *
  obtain ⟨x, hx, h⟩ := h
  exact ⟨x, by simp at *; omega, h⟩
theorem ordU_bad {k n : Nat} (hk : k < I.length) (hn : k < n) (h : ok I[k] = false) : ordU ok cmp I n = false :=
  ordU_false (k := k + 1) (by rw [ordU_succ hk, h]; simp) hn
theorem ordU_first (hk : 0 < I.length) (h : ok I[0] = true) : ordU ok cmp I 1 = true := by
  rw [ordU_succ (k := 0) hk, ordU_zero, h]; rfl
theorem ordU_back {k n : Nat} (hk : k + 1 < I.length) (hn : k + 1 < n) (h : 0 ≤ cmp I[k] I[k + 1]) : ordU ok cmp I n = false :=
  ordU_false (k := k + 1 + 1) (by
    rw [ordU_succ hk, aboveB_succ (by omega), decide_eq_false (by omega)]
    simp) hn
theorem ordU_next {k : Nat} (hk : k + 1 < I.length) (h0 : ordU ok cmp I (k + 1) = true) (h1 : ok I[k + 1] = true) (h2 : cmp I[k] I[k + 1] < 0) : ordU ok cmp I (k + 1 + 1) = true := by
  rw [ordU_succ hk, h0, h1, aboveB_succ (by omega), decide_eq_true h2]
  rfl
end
set_option maxRecDepth 100000 in
set_option maxHeartbeats 1000000 in
theorem inOrderN_any (A : Option Addr) (n c : Nat) (I : List Int) (w : World) (h : RdNums w A n I) (hn : n ≤ 140737488355328) :
    Calls Tryz.prog 178 #[.slice A n c, .func (.func 170) #[] #[], .func (.func 179) #[] #[]] w fun e w' => e = .returned (.bool (ordU isPg cmpN I n)) ∧ w = w' := by
  have HR := kept h
  have HL := kept h.1
  clear h
  go_enter Tryz.func178, Tryz.ntmps178
  go_wp2
  go_loop [11] (fun i => ∃ k : Nat, k ≤ n ∧ i = .int .i64 k ∧ Hid (ordU isPg cmpN I k = true)) (fun i => n - (intOf i).toNat)
  case atStart => exact ⟨0, by omega, rfl, ordU_zero⟩
  case round =>
    obtain ⟨k, hk, rfl, HU⟩ := hrel
    by_cases hlt : k < n
    · obtain ⟨b, o, rfl, hc⟩ := HR.out.at_ hlt
      have hki : k < I.length := by rw [HL.out]; exact hlt
      cases hok : isPg (I[k]'hki) with
      | false =>
        have HO : Hid (ordU isPg cmpN I n = false) := kept (ordU_bad hki hlt hok)
        have HP := fun w => kept (isPage_any (I[k]'hki) w false hok)
        clear hok
        generalize I[k]'hki = x at hc HP
        go_wp2_with (first | (go_at_call 170; (with_reducible refine ((HP _).out).mono ?_); rintro e w' ⟨rfl, rfl⟩))
        go_ret
        exact ⟨ret_bool HO.out.symm, rfl⟩
      | true =>
        cases k with
        | zero =>
          have HO : Hid (ordU isPg cmpN I 1 = true) := kept (ordU_first hki hok)
          have HP := fun w => kept (isPage_any (I[0]'hki) w true hok)
          clear hok
          generalize I[0]'hki = x at hc HP
          rw [Nat.add_zero] at hc
          go_wp2_with (first | (go_at_call 170; (with_reducible refine ((HP _).out).mono ?_); rintro e w' ⟨rfl, rfl⟩))
          go_round
          case rel => exact ⟨1, by omega, by go_num, HO⟩
          case measure => simp [intOf]; omega
        | succ k =>
          have hc0 := HR.out.2.2 b o rfl k (by omega)
          have HP := fun w => kept (isPage_any (I[k + 1]'hki) w true hok)
          have HCM := fun w => kept (cmpInt_any (I[k]'(by omega)) (I[k + 1]'hki) w)
          have hi1 : (0 : Int) ≤ (k : Int) + 1 - 1 := by omega
          by_cases hcm : cmpN (I[k]'(by omega)) (I[k + 1]'hki) < 0
          · have HO : Hid (ordU isPg cmpN I (k + 1 + 1) = true) := kept (ordU_next hki HU.out hok hcm)
            clear hok
            generalize cmpN (I[k]'(by omega)) (I[k + 1]'hki) = m at hcm HCM
            generalize I[k + 1]'hki = x at hc HP HCM
            generalize I[k]'(by omega) = y at hc0 HCM
            have hd : decide (0 ≤ m) = false := by simp; omega
            go_wp2_with (first | (go_at_call 170; (with_reducible refine ((HP _).out).mono ?_); rintro e w' ⟨rfl, rfl⟩) | (go_at_call 179; (with_reducible refine ((HCM _).out).mono ?_); rintro e w' ⟨rfl, rfl⟩))
            go_round
            case rel => exact ⟨k + 1 + 1, by omega, by go_num, HO⟩
            case measure => simp [intOf]; omega
          · have HO : Hid (ordU isPg cmpN I n = false) := kept (ordU_back hki hlt (by omega))
            clear hok
            generalize cmpN (I[k]'(by omega)) (I[k + 1]'hki) = m at hcm HCM
            generalize I[k + 1]'hki = x at hc HP HCM
            generalize I[k]'(by omega) = y at hc0 HCM
            have hd : decide (0 ≤ m) = true := by simp; omega
            go_wp2_with (first | (go_at_call 170; (with_reducible refine ((HP _).out).mono ?_); rintro e w' ⟨rfl, rfl⟩) | (go_at_call 179; (with_reducible refine ((HCM _).out).mono ?_); rintro e w' ⟨rfl, rfl⟩))
            go_ret
            exact ⟨ret_bool HO.out.symm, rfl⟩
    · obtain rfl : k = n := by omega
      go_wp2
      go_ret
      exact ⟨ret_bool HU.out.symm, rfl⟩

/-! ### kids and items: the order's function literals -/
theorem cmpItem_any (L M : LayI) (x y : List UInt8) (w : World) (hx : Rd w L.ka L.kn x) (hy : Rd w M.ka M.kn y) (m : Int) (hm : ordB x y = m) :
    Calls Tryz.prog 173 #[L.val, M.val] w fun e w' => e = .returned (.int .i64 m) ∧ Below w.heap.size w w' := by
  obtain ⟨ka, kn, kc, va, vn, vc, size, more⟩ := L
  obtain ⟨ka', kn', kc', va', vn', vc', size', more'⟩ := M
  simp only at hx hy
  have HX := kept hx
  have HY := kept hy
  have HM := kept hm
  clear hx hy hm
  go_enter Tryz.func173, Tryz.ntmps173
  go_wp2_with (first | (go_at_call 174; (with_reducible refine (compare_any _ _ _ _ _ _ x y _ ((HX.out.alloc _).alloc _) ((HY.out.alloc _).alloc _)).mono ?_); rintro e w' ⟨rfl, rfl⟩))
  go_ret
  exact ⟨ret_num HM.out, ((Below.refl _ _).alloc (Nat.le_refl _) _).alloc (by simp) _⟩
theorem cmpKid_any (L M : LayK) (x y : List UInt8) (w : World) (hx : Rd w L.ka L.kn x) (hy : Rd w M.ka M.kn y) (m : Int) (hm : ordB x y = m) :
    Calls Tryz.prog 177 #[L.val, M.val] w fun e w' => e = .returned (.int .i64 m) ∧ Below w.heap.size w w' := by
  obtain ⟨ka, kn, kc, page⟩ := L
  obtain ⟨ka', kn', kc', page'⟩ := M
  simp only at hx hy
  have HX := kept hx
  have HY := kept hy
  have HM := kept hm
  clear hx hy hm
  go_enter Tryz.func177, Tryz.ntmps177
  go_wp2_with (first | (go_at_call 174; (with_reducible refine (compare_any _ _ _ _ _ _ x y _ ((HX.out.alloc _).alloc _) ((HY.out.alloc _).alloc _)).mono ?_); rintro e w' ⟨rfl, rfl⟩))
  go_ret
  exact ⟨ret_num HM.out, ((Below.refl _ _).alloc (Nat.le_refl _) _).alloc (by simp) _⟩
theorem RdKd.ok {w : World} {L : LayK} {x : Kd} (h : RdKd w L x) : (decide (L.kn ≤ 32) && isPg L.page) = kidOk x := by
  unfold kidOk
  rw [h.1.1, h.2.1]
theorem RdIt.ok {w : World} {L : LayI} {x : Itm} (h : RdIt w L x) : (decide (L.kn ≤ 32) && decide (0 ≤ L.size) && decide (L.size ≤ 4096) && (if L.size ≤ 64 then decide ((L.vn : Int) = L.size) && decide (L.more = 0) else decide (L.vn = 0) && isPg L.more)) = itemOk x := by
  unfold itemOk
  rw [h.1.1, h.2.1.1, h.2.2.1, h.2.2.2.1]
theorem below_to {w w1 w2 : World} (h : Below w1.heap.size w1 w2) (hb : Below w.heap.size w w1) : Below w.heap.size w w2 := hb.trans (h.mono hb.size)
set_option maxRecDepth 100000 in
set_option maxHeartbeats 2000000 in
theorem inOrderK_any (A : Option Addr) (n c : Nat) (I : List Kd) (w : World) (h : RdKids w A n I) (hn : n ≤ 140737488355328) :
    Calls Tryz.prog 175 #[.slice A n c, .func (.func 176) #[] #[], .func (.func 177) #[] #[]] w fun e w' => e = .returned (.bool (ordU kidOk cmpK I n)) ∧ Below w.heap.size w w' := by
  have HR := kept h
  have HL := kept h.1
  clear h
  go_enter Tryz.func175, Tryz.ntmps175
  go_wp2
  go_loopw [11] (fun i wr => ∃ k : Nat, k ≤ n ∧ i = .int .i64 k ∧ Hid (ordU kidOk cmpK I k = true) ∧ Hid (Below w.heap.size w wr)) (fun i _ => n - (intOf i).toNat)
  case atStart => exact ⟨0, by omega, rfl, ordU_zero, Below.refl _ _⟩
  case round =>
    obtain ⟨k, hk, rfl, HU, HW⟩ := hrel
    by_cases hlt : k < n
    · obtain ⟨b, o, L, rfl, hrd, hc0, hc1⟩ := (HR.out.below HW.out).at_ hlt
      have hki : k < I.length := by rw [HL.out]; exact hlt
      have HRD := kept hrd
      have HB0 : Hid (Below wr.heap.size wr (wr.alloc (.cells #[.slice L.ka L.kn L.kc, .int .i64 L.page] 225))) := kept ((Below.refl _ _).alloc (Nat.le_refl _) _)
      have HBW : Hid (∀ {w' : World}, Below (wr.alloc (.cells #[.slice L.ka L.kn L.kc, .int .i64 L.page] 225)).drew.heap.size (wr.alloc (.cells #[.slice L.ka L.kn L.kc, .int .i64 L.page] 225)).drew w' → Below w.heap.size w w') := kept (fun h => below_to (below_to (below_of_drew1 h) HB0.out) HW.out)
      have e0 : (wr.alloc (.cells #[.slice L.ka L.kn L.kc, .int .i64 L.page] 225)).cell? ⟨wr.heap.size, 0, none⟩ = some (.slice L.ka L.kn L.kc) := (by rw [cell_of_row _ wr.heap.size 0 _ _ _ (heap_alloc_new wr _)]; rfl)
      have e1 : (wr.alloc (.cells #[.slice L.ka L.kn L.kc, .int .i64 L.page] 225)).cell? ⟨wr.heap.size, 1, none⟩ = some (.int .i64 L.page) := (by rw [cell_of_row _ wr.heap.size 1 _ _ _ (heap_alloc_new wr _)]; rfl)
      have HE : Hid (∀ {w' : World}, Below (wr.alloc (.cells #[.slice L.ka L.kn L.kc, .int .i64 L.page] 225)).drew.heap.size (wr.alloc (.cells #[.slice L.ka L.kn L.kc, .int .i64 L.page] 225)).drew w' → w'.cell? ⟨wr.heap.size, 0, none⟩ = some (.slice L.ka L.kn L.kc) ∧ w'.cell? ⟨wr.heap.size, 1, none⟩ = some (.int .i64 L.page)) := kept (fun h => ⟨cell_below (below_of_drew1 h) e0, cell_below (below_of_drew1 h) e1⟩)
      clear hrd
      cases hok : kidOk (I[k]'hki) with
      | false =>
        have HO : Hid (ordU kidOk cmpK I n = false) := kept (ordU_bad hki hlt hok)
        have HP := fun w => kept (rightKid_any L w false (HRD.out.ok.trans hok))
        clear hok
        clear HRD
        obtain ⟨ka, kn, kc, page⟩ := L
        simp only at hc0 hc1 e0 e1
        go_wp2
        refine wp_region_held_drew (S := (fun W' => W'.cell? ⟨wr.heap.size, 0, none⟩ = some (.slice ka kn kc) ∧ W'.cell? ⟨wr.heap.size, 1, none⟩ = some (.int .i64 page))) (by kernel_rfl) ?_ (fun hHeld => ?_)
        · ((try dsimp only); (first | exact ⟨e0, e1⟩ | exact HE.out hb1))
        refine hand_take 0 (some 16) ?_ (by kernel_rfl) (by kernel_rfl) (by kernel_rfl) (by kernel_rfl) (by kernel_rfl) (fun _ _ _ h => h) ?_ (by assumption) ?_
        rotate_left
        · (intro o ho w hSw; (simp only [List.getElem?_toArray, List.getElem?_cons_succ, List.getElem?_cons_zero, Option.some.injEq] at ho); subst ho; (try dsimp only at hSw); go_simp; (first | done | with_reducible rfl))
        (try simp only [Act.put, List.setIfInBounds_toArray, List.set_cons_zero, List.set_cons_succ])
        refine hand_take 1 (some 17) ?_ (by kernel_rfl) (by kernel_rfl) (by kernel_rfl) (by kernel_rfl) (by kernel_rfl) (fun _ _ _ h => h) ?_ (by assumption) ?_
        rotate_left
        · (intro o ho w hSw; (simp only [List.getElem?_toArray, List.getElem?_cons_succ, List.getElem?_cons_zero, Option.some.injEq] at ho); subst ho; (try dsimp only at hSw); go_simp; (first | done | with_reducible rfl))
        (try simp only [Act.put, List.setIfInBounds_toArray, List.set_cons_zero, List.set_cons_succ])
        refine hand_ready 2 (by kernel_rfl) (by kernel_rfl) (fun o ho K hK => ?_)
        (simp only [List.getElem?_toArray, List.getElem?_cons_succ, List.getElem?_cons_zero, Option.some.injEq] at ho)
        subst ho
        go_simp
        (go_at_call 176; (with_reducible refine (HP _).out.mono ?_); rintro e w1 ⟨rfl, hb1⟩)
        (try go_wp2_with fail)
        refine hK.out _ _ ?_ (fun hHeld => ?_)
        · ((try dsimp only); (first | exact ⟨e0, e1⟩ | exact HE.out hb1))
        clear hK K
        (try simp only [Act.put, List.setIfInBounds_toArray, List.set_cons_zero, List.set_cons_succ])
        refine hand_take 3 (some 19) ?_ (by kernel_rfl) (by kernel_rfl) (by kernel_rfl) (by kernel_rfl) (by kernel_rfl) (fun _ _ _ h => h) ?_ (by assumption) ?_
        rotate_left
        · (intro o ho w hSw; (simp only [List.getElem?_toArray, List.getElem?_cons_succ, List.getElem?_cons_zero, Option.some.injEq] at ho); subst ho; (try dsimp only at hSw); go_simp; (first | done | with_reducible rfl))
        (try simp only [Act.put, List.setIfInBounds_toArray, List.set_cons_zero, List.set_cons_succ])
        refine hand_take 4 (some 20) ?_ (by kernel_rfl) (by kernel_rfl) (by kernel_rfl) (by kernel_rfl) (by kernel_rfl) (fun _ _ _ h => h) ?_ (by assumption) ?_
        rotate_left
        · (intro o ho w hSw; (simp only [List.getElem?_toArray, List.getElem?_cons_succ, List.getElem?_cons_zero, Option.some.injEq] at ho); subst ho; (try dsimp only at hSw); go_simp; (first | done | with_reducible rfl))
        (try simp only [Act.put, List.setIfInBounds_toArray, List.set_cons_zero, List.set_cons_succ])
        refine hand_skip 5 (some 21) (by kernel_rfl) (by kernel_rfl) (by kernel_rfl) (by kernel_rfl) (by kernel_rfl) (fun _ _ _ h => h) (by assumption) ?_
        (try simp only [Act.put, List.setIfInBounds_toArray, List.set_cons_zero, List.set_cons_succ])
        refine hand_skip 6 (some 22) (by kernel_rfl) (by kernel_rfl) (by kernel_rfl) (by kernel_rfl) (by kernel_rfl) (fun _ _ _ h => h) (by assumption) ?_
        (try simp only [Act.put, List.setIfInBounds_toArray, List.set_cons_zero, List.set_cons_succ])
        refine hand_skip 7 (some 23) (by kernel_rfl) (by kernel_rfl) (by kernel_rfl) (by kernel_rfl) (by kernel_rfl) (fun _ _ _ h => h) (by assumption) ?_
        (try simp only [Act.put, List.setIfInBounds_toArray, List.set_cons_zero, List.set_cons_succ])
        refine hand_skip 8 (some 24) (by kernel_rfl) (by kernel_rfl) (by kernel_rfl) (by kernel_rfl) (by kernel_rfl) (fun _ _ _ h => h) (by assumption) ?_
        (try simp only [Act.put, List.setIfInBounds_toArray, List.set_cons_zero, List.set_cons_succ])
        refine hand_skip 9 (some 25) (by kernel_rfl) (by kernel_rfl) (by kernel_rfl) (by kernel_rfl) (by kernel_rfl) (fun _ _ _ h => h) (by assumption) ?_
        (try simp only [Act.put, List.setIfInBounds_toArray, List.set_cons_zero, List.set_cons_succ])
        refine hand_skip 10 (some 26) (by kernel_rfl) (by kernel_rfl) (by kernel_rfl) (by kernel_rfl) (by kernel_rfl) (fun _ _ _ h => h) (by assumption) ?_
        (try simp only [Act.put, List.setIfInBounds_toArray, List.set_cons_zero, List.set_cons_succ])
        refine hand_skip 11 (some 27) (by kernel_rfl) (by kernel_rfl) (by kernel_rfl) (by kernel_rfl) (by kernel_rfl) (fun _ _ _ h => h) (by assumption) ?_
        (try simp only [Act.put, List.setIfInBounds_toArray, List.set_cons_zero, List.set_cons_succ])
        refine hand_skip 12 (some 28) (by kernel_rfl) (by kernel_rfl) (by kernel_rfl) (by kernel_rfl) (by kernel_rfl) (fun _ _ _ h => h) (by assumption) ?_
        (try simp only [Act.put, List.setIfInBounds_toArray, List.set_cons_zero, List.set_cons_succ])
        refine hand_skip 13 (some 29) (by kernel_rfl) (by kernel_rfl) (by kernel_rfl) (by kernel_rfl) (by kernel_rfl) (fun _ _ _ h => h) (by assumption) ?_
        (try simp only [Act.put, List.setIfInBounds_toArray, List.set_cons_zero, List.set_cons_succ])
        refine hand_skip 14 (some 30) (by kernel_rfl) (by kernel_rfl) (by kernel_rfl) (by kernel_rfl) (by kernel_rfl) (fun _ _ _ h => h) (by assumption) ?_
        (try simp only [Act.put, List.setIfInBounds_toArray, List.set_cons_zero, List.set_cons_succ])
        refine hand_skip 15 (some 31) (by kernel_rfl) (by kernel_rfl) (by kernel_rfl) (by kernel_rfl) (by kernel_rfl) (fun _ _ _ h => h) (by assumption) ?_
        (try simp only [Act.put, List.setIfInBounds_toArray, List.set_cons_zero, List.set_cons_succ])
        refine hand_skip 16 (some 32) (by kernel_rfl) (by kernel_rfl) (by kernel_rfl) (by kernel_rfl) (by kernel_rfl) (fun _ _ _ h => h) (by assumption) ?_
        (try simp only [Act.put, List.setIfInBounds_toArray, List.set_cons_zero, List.set_cons_succ])
        refine hand_skip 17 (some 33) (by kernel_rfl) (by kernel_rfl) (by kernel_rfl) (by kernel_rfl) (by kernel_rfl) (fun _ _ _ h => h) (by assumption) ?_
        (try simp only [Act.put, List.setIfInBounds_toArray, List.set_cons_zero, List.set_cons_succ])
        refine hand_take 18 (some 34) ?_ (by kernel_rfl) (by kernel_rfl) (by kernel_rfl) (by kernel_rfl) (by kernel_rfl) (fun _ _ _ h => h) ?_ (by assumption) ?_
        rotate_left
        · (intro o ho w hSw; (simp only [List.getElem?_toArray, List.getElem?_cons_succ, List.getElem?_cons_zero, Option.some.injEq] at ho); subst ho; (try dsimp only at hSw); go_simp; (first | done | with_reducible rfl))
        (try simp only [Act.put, List.setIfInBounds_toArray, List.set_cons_zero, List.set_cons_succ])
        refine wpAnyH_done (by kernel_rfl) ?_ _
        have HB1 := kept (HBW.out hb1)
        clear hb1
        go_wp2
        go_ret
        exact ⟨ret_bool HO.out.symm, HB1.out⟩
      | true =>
        cases k with
        | zero =>
          have HO : Hid (ordU kidOk cmpK I 1 = true) := kept (ordU_first hki hok)
          have HP := fun w => kept (rightKid_any L w true (HRD.out.ok.trans hok))
          clear hok HRD
          obtain ⟨ka, kn, kc, page⟩ := L
          simp only at hc0 hc1 e0 e1
          rw [Nat.zero_mul, Nat.add_zero] at hc0 hc1
          go_wp2
          refine wp_region_held_drew (S := (fun W' => W'.cell? ⟨wr.heap.size, 0, none⟩ = some (.slice ka kn kc) ∧ W'.cell? ⟨wr.heap.size, 1, none⟩ = some (.int .i64 page))) (by kernel_rfl) ?_ (fun hHeld => ?_)
          · ((try dsimp only); (first | exact ⟨e0, e1⟩ | exact HE.out hb1))
          refine hand_take 0 (some 16) ?_ (by kernel_rfl) (by kernel_rfl) (by kernel_rfl) (by kernel_rfl) (by kernel_rfl) (fun _ _ _ h => h) ?_ (by assumption) ?_
          rotate_left
          · (intro o ho w hSw; (simp only [List.getElem?_toArray, List.getElem?_cons_succ, List.getElem?_cons_zero, Option.some.injEq] at ho); subst ho; (try dsimp only at hSw); go_simp; (first | done | with_reducible rfl))
          (try simp only [Act.put, List.setIfInBounds_toArray, List.set_cons_zero, List.set_cons_succ])
          refine hand_take 1 (some 17) ?_ (by kernel_rfl) (by kernel_rfl) (by kernel_rfl) (by kernel_rfl) (by kernel_rfl) (fun _ _ _ h => h) ?_ (by assumption) ?_
          rotate_left
          · (intro o ho w hSw; (simp only [List.getElem?_toArray, List.getElem?_cons_succ, List.getElem?_cons_zero, Option.some.injEq] at ho); subst ho; (try dsimp only at hSw); go_simp; (first | done | with_reducible rfl))
          (try simp only [Act.put, List.setIfInBounds_toArray, List.set_cons_zero, List.set_cons_succ])
          refine hand_ready 2 (by kernel_rfl) (by kernel_rfl) (fun o ho K hK => ?_)
          (simp only [List.getElem?_toArray, List.getElem?_cons_succ, List.getElem?_cons_zero, Option.some.injEq] at ho)
          subst ho
          go_simp
          (go_at_call 176; (with_reducible refine (HP _).out.mono ?_); rintro e w1 ⟨rfl, hb1⟩)
          (try go_wp2_with fail)
          refine hK.out _ _ ?_ (fun hHeld => ?_)
          · ((try dsimp only); (first | exact ⟨e0, e1⟩ | exact HE.out hb1))
          clear hK K
          (try simp only [Act.put, List.setIfInBounds_toArray, List.set_cons_zero, List.set_cons_succ])
          refine hand_take 3 (some 19) ?_ (by kernel_rfl) (by kernel_rfl) (by kernel_rfl) (by kernel_rfl) (by kernel_rfl) (fun _ _ _ h => h) ?_ (by assumption) ?_
          rotate_left
          · (intro o ho w hSw; (simp only [List.getElem?_toArray, List.getElem?_cons_succ, List.getElem?_cons_zero, Option.some.injEq] at ho); subst ho; (try dsimp only at hSw); go_simp; (first | done | with_reducible rfl))
          (try simp only [Act.put, List.setIfInBounds_toArray, List.set_cons_zero, List.set_cons_succ])
          refine hand_take 4 (some 20) ?_ (by kernel_rfl) (by kernel_rfl) (by kernel_rfl) (by kernel_rfl) (by kernel_rfl) (fun _ _ _ h => h) ?_ (by assumption) ?_
          rotate_left
          · (intro o ho w hSw; (simp only [List.getElem?_toArray, List.getElem?_cons_succ, List.getElem?_cons_zero, Option.some.injEq] at ho); subst ho; (try dsimp only at hSw); go_simp; (first | done | with_reducible rfl))
          (try simp only [Act.put, List.setIfInBounds_toArray, List.set_cons_zero, List.set_cons_succ])
          refine hand_take 5 (some 21) ?_ (by kernel_rfl) (by kernel_rfl) (by kernel_rfl) (by kernel_rfl) (by kernel_rfl) (fun _ _ _ h => h) ?_ (by assumption) ?_
          rotate_left
          · (intro o ho w hSw; (simp only [List.getElem?_toArray, List.getElem?_cons_succ, List.getElem?_cons_zero, Option.some.injEq] at ho); subst ho; (try dsimp only at hSw); go_simp; (first | done | with_reducible rfl))
          (try simp only [Act.put, List.setIfInBounds_toArray, List.set_cons_zero, List.set_cons_succ])
          refine hand_take 6 (some 22) ?_ (by kernel_rfl) (by kernel_rfl) (by kernel_rfl) (by kernel_rfl) (by kernel_rfl) (fun _ _ _ h => h) ?_ (by assumption) ?_
          rotate_left
          · (intro o ho w hSw; (simp only [List.getElem?_toArray, List.getElem?_cons_succ, List.getElem?_cons_zero, Option.some.injEq] at ho); subst ho; (try dsimp only at hSw); go_simp; (first | done | with_reducible rfl))
          (try simp only [Act.put, List.setIfInBounds_toArray, List.set_cons_zero, List.set_cons_succ])
          refine hand_take 7 (some 23) ?_ (by kernel_rfl) (by kernel_rfl) (by kernel_rfl) (by kernel_rfl) (by kernel_rfl) (fun _ _ _ h => h) ?_ (by assumption) ?_
          rotate_left
          · (intro o ho w hSw; (simp only [List.getElem?_toArray, List.getElem?_cons_succ, List.getElem?_cons_zero, Option.some.injEq] at ho); subst ho; (try dsimp only at hSw); go_simp; (first | done | with_reducible rfl))
          (try simp only [Act.put, List.setIfInBounds_toArray, List.set_cons_zero, List.set_cons_succ])
          refine hand_skip 8 (some 24) (by kernel_rfl) (by kernel_rfl) (by kernel_rfl) (by kernel_rfl) (by kernel_rfl) (fun _ _ _ h => h) (by assumption) ?_
          (try simp only [Act.put, List.setIfInBounds_toArray, List.set_cons_zero, List.set_cons_succ])
          refine hand_skip 9 (some 25) (by kernel_rfl) (by kernel_rfl) (by kernel_rfl) (by kernel_rfl) (by kernel_rfl) (fun _ _ _ h => h) (by assumption) ?_
          (try simp only [Act.put, List.setIfInBounds_toArray, List.set_cons_zero, List.set_cons_succ])
          refine hand_skip 10 (some 26) (by kernel_rfl) (by kernel_rfl) (by kernel_rfl) (by kernel_rfl) (by kernel_rfl) (fun _ _ _ h => h) (by assumption) ?_
          (try simp only [Act.put, List.setIfInBounds_toArray, List.set_cons_zero, List.set_cons_succ])
          refine hand_skip 11 (some 27) (by kernel_rfl) (by kernel_rfl) (by kernel_rfl) (by kernel_rfl) (by kernel_rfl) (fun _ _ _ h => h) (by assumption) ?_
          (try simp only [Act.put, List.setIfInBounds_toArray, List.set_cons_zero, List.set_cons_succ])
          refine hand_skip 12 (some 28) (by kernel_rfl) (by kernel_rfl) (by kernel_rfl) (by kernel_rfl) (by kernel_rfl) (fun _ _ _ h => h) (by assumption) ?_
          (try simp only [Act.put, List.setIfInBounds_toArray, List.set_cons_zero, List.set_cons_succ])
          refine hand_skip 13 (some 29) (by kernel_rfl) (by kernel_rfl) (by kernel_rfl) (by kernel_rfl) (by kernel_rfl) (fun _ _ _ h => h) (by assumption) ?_
          (try simp only [Act.put, List.setIfInBounds_toArray, List.set_cons_zero, List.set_cons_succ])
          refine hand_skip 14 (some 30) (by kernel_rfl) (by kernel_rfl) (by kernel_rfl) (by kernel_rfl) (by kernel_rfl) (fun _ _ _ h => h) (by assumption) ?_
          (try simp only [Act.put, List.setIfInBounds_toArray, List.set_cons_zero, List.set_cons_succ])
          refine hand_skip 15 (some 31) (by kernel_rfl) (by kernel_rfl) (by kernel_rfl) (by kernel_rfl) (by kernel_rfl) (fun _ _ _ h => h) (by assumption) ?_
          (try simp only [Act.put, List.setIfInBounds_toArray, List.set_cons_zero, List.set_cons_succ])
          refine hand_skip 16 (some 32) (by kernel_rfl) (by kernel_rfl) (by kernel_rfl) (by kernel_rfl) (by kernel_rfl) (fun _ _ _ h => h) (by assumption) ?_
          (try simp only [Act.put, List.setIfInBounds_toArray, List.set_cons_zero, List.set_cons_succ])
          refine hand_take 17 (some 33) ?_ (by kernel_rfl) (by kernel_rfl) (by kernel_rfl) (by kernel_rfl) (by kernel_rfl) (fun _ _ _ h => h) ?_ (by assumption) ?_
          rotate_left
          · (intro o ho w hSw; (simp only [List.getElem?_toArray, List.getElem?_cons_succ, List.getElem?_cons_zero, Option.some.injEq] at ho); subst ho; (try dsimp only at hSw); go_simp; (first | done | with_reducible rfl))
          (try simp only [Act.put, List.setIfInBounds_toArray, List.set_cons_zero, List.set_cons_succ])
          refine hand_take 18 (some 34) ?_ (by kernel_rfl) (by kernel_rfl) (by kernel_rfl) (by kernel_rfl) (by kernel_rfl) (fun _ _ _ h => h) ?_ (by assumption) ?_
          rotate_left
          · (intro o ho w hSw; (simp only [List.getElem?_toArray, List.getElem?_cons_succ, List.getElem?_cons_zero, Option.some.injEq] at ho); subst ho; (try dsimp only at hSw); go_simp; (first | done | with_reducible rfl))
          (try simp only [Act.put, List.setIfInBounds_toArray, List.set_cons_zero, List.set_cons_succ])
          refine wpAnyH_done (by kernel_rfl) ?_ _
          have HB1 := kept (HBW.out hb1)
          clear hb1
          go_wp2
          go_roundw
          case rel => exact ⟨1, by omega, by go_num, HO, HB1⟩
          case measure => simp [intOf]; omega
        | succ k =>
          obtain ⟨b', o', M, e, hrm, g0, g1⟩ := (HR.out.below HW.out).at_ (k := k) (by omega)
          simp only [Option.some.injEq, Addr.mk.injEq, and_true] at e
          obtain ⟨rfl, rfl⟩ := e
          have HP := fun w => kept (rightKid_any L w true (HRD.out.ok.trans hok))
          have HRL : Hid (∀ {w' : World}, Below (wr.alloc (.cells #[.slice L.ka L.kn L.kc, .int .i64 L.page] 225)).drew.heap.size (wr.alloc (.cells #[.slice L.ka L.kn L.kc, .int .i64 L.page] 225)).drew w' → Rd w' L.ka L.kn (I[k + 1]'hki).key ∧ Rd w' M.ka M.kn (I[k]'(by omega)).key ∧ w'.cell? ⟨b, o + k * 2, none⟩ = some (.slice M.ka M.kn M.kc) ∧ w'.cell? ⟨b, o + k * 2 + 1, none⟩ = some (.int .i64 M.page)) := kept (fun h => by
            have hb := below_to (below_of_drew1 h) HB0.out
            exact ⟨HRD.out.1.below hb, hrm.1.below hb, cell_below hb g0, cell_below hb g1⟩)
          have q0 := (HRL.out (Below.refl _ _)).2.2.1
          have q1 := (HRL.out (Below.refl _ _)).2.2.2
          have hcmp : ordB (I[k]'(by omega)).key (I[k + 1]'hki).key = cmpK (I[k]'(by omega)) (I[k + 1]'hki) := rfl
          have HKB := kept hki
          by_cases hcm : cmpK (I[k]'(by omega)) (I[k + 1]'hki) < 0
          all_goals
            first
            | have HO : Hid (ordU kidOk cmpK I (k + 1 + 1) = true) := kept (ordU_next hki HU.out hok hcm)
            | have HO : Hid (ordU kidOk cmpK I n = false) := kept (ordU_back hki hlt (by omega))
            clear hok
            generalize (I[k + 1]'hki).key = x at HRL hcmp
            generalize (I[k]'(by omega)).key = y at HRL hcmp
            generalize cmpK (I[k]'(by omega)) (I[k + 1]'hki) = m at hcm hcmp
            have HCM := fun {w' : World} h => kept (cmpKid_any M L y x w' (HRL.out h).2.1 (HRL.out h).1 m hcmp)
            clear HRD hrm
            obtain ⟨ka, kn, kc, page⟩ := L
            obtain ⟨ka', kn', kc', page'⟩ := M
            simp only at hc0 hc1 e0 e1 g0 g1 q0 q1
            have hi1 : (0 : Int) ≤ (k : Int) + 1 - 1 := by omega
            have hi2 : (k : Int) + 1 - 1 < (n : Int) := by omega
            first
            | have hd : decide (0 ≤ m) = false := by rw [decide_eq_false]; omega
            | have hd : decide (0 ≤ m) = true := by rw [decide_eq_true]; omega
            clear hcm hcmp
            have hi3 : (k : Int) < (n : Int) := by omega
            have hi4 : IntKind.i64.wrap (k : Int) = (k : Int) := IntWalk.i64_in _ ⟨by omega, by omega⟩
            go_wp2
            refine wp_region_held_drew (S := (fun W' => (W'.cell? ⟨wr.heap.size, 0, none⟩ = some (.slice ka kn kc) ∧ W'.cell? ⟨wr.heap.size, 1, none⟩ = some (.int .i64 page)) ∧ W'.cell? ⟨b, o + k * 2, none⟩ = some (.slice ka' kn' kc') ∧ W'.cell? ⟨b, o + k * 2 + 1, none⟩ = some (.int .i64 page'))) (by kernel_rfl) ?_ (fun hHeld => ?_)
            · ((try dsimp only); (first | exact ⟨⟨e0, e1⟩, q0, q1⟩ | exact ⟨HE.out hb2, (HRL.out hb2).2.2⟩ | exact ⟨HE.out hb1, (HRL.out hb1).2.2⟩))
            refine hand_take 0 (some 16) ?_ (by kernel_rfl) (by kernel_rfl) (by kernel_rfl) (by kernel_rfl) (by kernel_rfl) (fun _ _ _ h => h) ?_ (by assumption) ?_
            rotate_left
            · (intro o ho w hSw; (simp only [List.getElem?_toArray, List.getElem?_cons_succ, List.getElem?_cons_zero, Option.some.injEq] at ho); subst ho; (try dsimp only at hSw); go_simp; (first | done | with_reducible rfl))
            (try simp only [Act.put, List.setIfInBounds_toArray, List.set_cons_zero, List.set_cons_succ])
            refine hand_take 1 (some 17) ?_ (by kernel_rfl) (by kernel_rfl) (by kernel_rfl) (by kernel_rfl) (by kernel_rfl) (fun _ _ _ h => h) ?_ (by assumption) ?_
            rotate_left
            · (intro o ho w hSw; (simp only [List.getElem?_toArray, List.getElem?_cons_succ, List.getElem?_cons_zero, Option.some.injEq] at ho); subst ho; (try dsimp only at hSw); go_simp; (first | done | with_reducible rfl))
            (try simp only [Act.put, List.setIfInBounds_toArray, List.set_cons_zero, List.set_cons_succ])
            refine hand_ready 2 (by kernel_rfl) (by kernel_rfl) (fun o ho K hK => ?_)
            (simp only [List.getElem?_toArray, List.getElem?_cons_succ, List.getElem?_cons_zero, Option.some.injEq] at ho)
            subst ho
            go_simp
            (go_at_call 176; (with_reducible refine (HP _).out.mono ?_); rintro e w1 ⟨rfl, hb1⟩)
            (try go_wp2_with fail)
            refine hK.out _ _ ?_ (fun hHeld => ?_)
            · ((try dsimp only); (first | exact ⟨⟨e0, e1⟩, q0, q1⟩ | exact ⟨HE.out hb2, (HRL.out hb2).2.2⟩ | exact ⟨HE.out hb1, (HRL.out hb1).2.2⟩))
            clear hK K
            (try simp only [Act.put, List.setIfInBounds_toArray, List.set_cons_zero, List.set_cons_succ])
            refine hand_take 3 (some 19) ?_ (by kernel_rfl) (by kernel_rfl) (by kernel_rfl) (by kernel_rfl) (by kernel_rfl) (fun _ _ _ h => h) ?_ (by assumption) ?_
            rotate_left
            · (intro o ho w hSw; (simp only [List.getElem?_toArray, List.getElem?_cons_succ, List.getElem?_cons_zero, Option.some.injEq] at ho); subst ho; (try dsimp only at hSw); go_simp; (first | done | with_reducible rfl))
            (try simp only [Act.put, List.setIfInBounds_toArray, List.set_cons_zero, List.set_cons_succ])
            refine hand_take 4 (some 20) ?_ (by kernel_rfl) (by kernel_rfl) (by kernel_rfl) (by kernel_rfl) (by kernel_rfl) (fun _ _ _ h => h) ?_ (by assumption) ?_
            rotate_left
            · (intro o ho w hSw; (simp only [List.getElem?_toArray, List.getElem?_cons_succ, List.getElem?_cons_zero, Option.some.injEq] at ho); subst ho; (try dsimp only at hSw); go_simp; (first | done | with_reducible rfl))
            (try simp only [Act.put, List.setIfInBounds_toArray, List.set_cons_zero, List.set_cons_succ])
            refine hand_take 5 (some 21) ?_ (by kernel_rfl) (by kernel_rfl) (by kernel_rfl) (by kernel_rfl) (by kernel_rfl) (fun _ _ _ h => h) ?_ (by assumption) ?_
            rotate_left
            · (intro o ho w hSw; (simp only [List.getElem?_toArray, List.getElem?_cons_succ, List.getElem?_cons_zero, Option.some.injEq] at ho); subst ho; (try dsimp only at hSw); go_simp; (first | done | with_reducible rfl))
            (try simp only [Act.put, List.setIfInBounds_toArray, List.set_cons_zero, List.set_cons_succ])
            refine hand_take 6 (some 22) ?_ (by kernel_rfl) (by kernel_rfl) (by kernel_rfl) (by kernel_rfl) (by kernel_rfl) (fun _ _ _ h => h) ?_ (by assumption) ?_
            rotate_left
            · (intro o ho w hSw; (simp only [List.getElem?_toArray, List.getElem?_cons_succ, List.getElem?_cons_zero, Option.some.injEq] at ho); subst ho; (try dsimp only at hSw); go_simp; (first | done | with_reducible rfl))
            (try simp only [Act.put, List.setIfInBounds_toArray, List.set_cons_zero, List.set_cons_succ])
            refine hand_take 7 (some 23) ?_ (by kernel_rfl) (by kernel_rfl) (by kernel_rfl) (by kernel_rfl) (by kernel_rfl) (fun _ _ _ h => h) ?_ (by assumption) ?_
            rotate_left
            · (intro o ho w hSw; (simp only [List.getElem?_toArray, List.getElem?_cons_succ, List.getElem?_cons_zero, Option.some.injEq] at ho); subst ho; (try dsimp only at hSw); go_simp; (first | done | with_reducible rfl))
            (try simp only [Act.put, List.setIfInBounds_toArray, List.set_cons_zero, List.set_cons_succ])
            refine hand_take 8 (some 24) ?_ (by kernel_rfl) (by kernel_rfl) (by kernel_rfl) (by kernel_rfl) (by kernel_rfl) (fun _ _ _ h => h) ?_ (by assumption) ?_
            rotate_left
            · (intro o ho w hSw; (simp only [List.getElem?_toArray, List.getElem?_cons_succ, List.getElem?_cons_zero, Option.some.injEq] at ho); subst ho; (try dsimp only at hSw); go_simp; (first | done | with_reducible rfl))
            (try simp only [Act.put, List.setIfInBounds_toArray, List.set_cons_zero, List.set_cons_succ])
            refine hand_take 9 (some 25) ?_ (by kernel_rfl) (by kernel_rfl) (by kernel_rfl) (by kernel_rfl) (by kernel_rfl) (fun _ _ _ h => h) ?_ (by assumption) ?_
            rotate_left
            · (intro o ho w hSw; (simp only [List.getElem?_toArray, List.getElem?_cons_succ, List.getElem?_cons_zero, Option.some.injEq] at ho); subst ho; (try dsimp only at hSw); go_simp; (first | done | with_reducible rfl))
            (try simp only [Act.put, List.setIfInBounds_toArray, List.set_cons_zero, List.set_cons_succ])
            refine hand_take 10 (some 26) ?_ (by kernel_rfl) (by kernel_rfl) (by kernel_rfl) (by kernel_rfl) (by kernel_rfl) (fun _ _ _ h => h) ?_ (by assumption) ?_
            rotate_left
            · (intro o ho w hSw; (simp only [List.getElem?_toArray, List.getElem?_cons_succ, List.getElem?_cons_zero, Option.some.injEq] at ho); subst ho; (try dsimp only at hSw); go_simp; (first | done | with_reducible rfl))
            (try simp only [Act.put, List.setIfInBounds_toArray, List.set_cons_zero, List.set_cons_succ])
            refine hand_take 11 (some 27) ?_ (by kernel_rfl) (by kernel_rfl) (by kernel_rfl) (by kernel_rfl) (by kernel_rfl) (fun _ _ _ h => h) ?_ (by assumption) ?_
            rotate_left
            · (intro o ho w hSw; (simp only [List.getElem?_toArray, List.getElem?_cons_succ, List.getElem?_cons_zero, Option.some.injEq] at ho); subst ho; (try dsimp only at hSw); go_simp; (first | done | with_reducible rfl))
            (try simp only [Act.put, List.setIfInBounds_toArray, List.set_cons_zero, List.set_cons_succ])
            refine hand_take 12 (some 28) ?_ (by kernel_rfl) (by kernel_rfl) (by kernel_rfl) (by kernel_rfl) (by kernel_rfl) (fun _ _ _ h => h) ?_ (by assumption) ?_
            rotate_left
            · (intro o ho w hSw; (simp only [List.getElem?_toArray, List.getElem?_cons_succ, List.getElem?_cons_zero, Option.some.injEq] at ho); subst ho; (try dsimp only at hSw); go_simp; (first | done | with_reducible rfl))
            (try simp only [Act.put, List.setIfInBounds_toArray, List.set_cons_zero, List.set_cons_succ])
            refine hand_take 13 (some 29) ?_ (by kernel_rfl) (by kernel_rfl) (by kernel_rfl) (by kernel_rfl) (by kernel_rfl) (fun _ _ _ h => h) ?_ (by assumption) ?_
            rotate_left
            · (intro o ho w hSw; (simp only [List.getElem?_toArray, List.getElem?_cons_succ, List.getElem?_cons_zero, Option.some.injEq] at ho); subst ho; (try dsimp only at hSw); go_simp; (first | done | with_reducible rfl))
            (try simp only [Act.put, List.setIfInBounds_toArray, List.set_cons_zero, List.set_cons_succ])
            refine hand_take 14 (some 30) ?_ (by kernel_rfl) (by kernel_rfl) (by kernel_rfl) (by kernel_rfl) (by kernel_rfl) (fun _ _ _ h => h) ?_ (by assumption) ?_
            rotate_left
            · (intro o ho w hSw; (simp only [List.getElem?_toArray, List.getElem?_cons_succ, List.getElem?_cons_zero, Option.some.injEq] at ho); subst ho; (try dsimp only at hSw); go_simp; (first | done | with_reducible rfl))
            (try simp only [Act.put, List.setIfInBounds_toArray, List.set_cons_zero, List.set_cons_succ])
            refine hand_ready 15 (by kernel_rfl) (by kernel_rfl) (fun o ho K hK => ?_)
            (simp only [List.getElem?_toArray, List.getElem?_cons_succ, List.getElem?_cons_zero, Option.some.injEq] at ho)
            subst ho
            go_simp
            (go_at_call 177; (with_reducible refine (HCM hb1).out.mono ?_); rintro e w2 ⟨rfl, hb2'⟩; have hb2 := below_to hb2' hb1)
            (try go_wp2_with fail)
            refine hK.out _ _ ?_ (fun hHeld => ?_)
            · ((try dsimp only); (first | exact ⟨⟨e0, e1⟩, q0, q1⟩ | exact ⟨HE.out hb2, (HRL.out hb2).2.2⟩ | exact ⟨HE.out hb1, (HRL.out hb1).2.2⟩))
            clear hK K
            (try simp only [Act.put, List.setIfInBounds_toArray, List.set_cons_zero, List.set_cons_succ])
            refine hand_take 16 (some 32) ?_ (by kernel_rfl) (by kernel_rfl) (by kernel_rfl) (by kernel_rfl) (by kernel_rfl) (fun _ _ _ h => h) ?_ (by assumption) ?_
            rotate_left
            · (intro o ho w hSw; (simp only [List.getElem?_toArray, List.getElem?_cons_succ, List.getElem?_cons_zero, Option.some.injEq] at ho); subst ho; (try dsimp only at hSw); go_simp; (first | done | with_reducible rfl))
            (try simp only [Act.put, List.setIfInBounds_toArray, List.set_cons_zero, List.set_cons_succ])
            refine hand_take 17 (some 33) ?_ (by kernel_rfl) (by kernel_rfl) (by kernel_rfl) (by kernel_rfl) (by kernel_rfl) (fun _ _ _ h => h) ?_ (by assumption) ?_
            rotate_left
            · (intro o ho w hSw; (simp only [List.getElem?_toArray, List.getElem?_cons_succ, List.getElem?_cons_zero, Option.some.injEq] at ho); subst ho; (try dsimp only at hSw); go_simp; (first | done | with_reducible rfl))
            (try simp only [Act.put, List.setIfInBounds_toArray, List.set_cons_zero, List.set_cons_succ])
            refine hand_take 18 (some 34) ?_ (by kernel_rfl) (by kernel_rfl) (by kernel_rfl) (by kernel_rfl) (by kernel_rfl) (fun _ _ _ h => h) ?_ (by assumption) ?_
            rotate_left
            · (intro o ho w hSw; (simp only [List.getElem?_toArray, List.getElem?_cons_succ, List.getElem?_cons_zero, Option.some.injEq] at ho); subst ho; (try dsimp only at hSw); go_simp; (first | done | with_reducible rfl))
            (try simp only [Act.put, List.setIfInBounds_toArray, List.set_cons_zero, List.set_cons_succ])
            refine wpAnyH_done (by kernel_rfl) ?_ _
            have HB2 := kept (HBW.out hb2)
            go_wp2
            clear hi4
            first
            | (go_ret; exact ⟨ret_bool HO.out.symm, HB2.out⟩)
            | (go_roundw
               case rel => exact ⟨k + 1 + 1, by omega, by go_num, HO, HB2⟩
               case measure => simp [intOf]; omega)
    · obtain rfl : k = n := by omega
      go_wp2
      go_ret
      exact ⟨ret_bool HU.out.symm, HW.out⟩
end Go.Proofs.YtdjcahhofonclaaGreatDoor
end

section
/-
  page.inOrder of items.
-/
namespace Go.Proofs.YtdjcahhofonclaaGreatDoor
open Go.ChangeShapes Go.WideShapes Go.ChangeAt Go.RowKit
set_option linter.unusedVariables false
set_option linter.unusedSimpArgs false
set_option maxRecDepth 100000 in
set_option maxHeartbeats 2000000 in
theorem inOrderI_any (A : Option Addr) (n c : Nat) (I : List Itm) (w : World) (h : RdItems w A n I) (hn : n ≤ 140737488355328) :
    Calls Tryz.prog 171 #[.slice A n c, .func (.func 172) #[] #[], .func (.func 173) #[] #[]] w fun e w' => e = .returned (.bool (ordU itemOk cmpI I n)) ∧ Below w.heap.size w w' := by
  have HR := kept h
  have HL := kept h.1
  clear h
  go_enter Tryz.func171, Tryz.ntmps171
  go_wp2
  go_loopw [11] (fun i wr => ∃ k : Nat, k ≤ n ∧ i = .int .i64 k ∧ Hid (ordU itemOk cmpI I k = true) ∧ Hid (Below w.heap.size w wr)) (fun i _ => n - (intOf i).toNat)
  case atStart => exact ⟨0, by omega, rfl, ordU_zero, Below.refl _ _⟩
  case round =>
    obtain ⟨k, hk, rfl, HU, HW⟩ := hrel
    by_cases hlt : k < n
    · obtain ⟨b, o, L, rfl, hrd, hc0, hc1, hc2, hc3⟩ := (HR.out.below HW.out).at_ hlt
      have hki : k < I.length := by rw [HL.out]; exact hlt
      have HRD := kept hrd
      have HB0 : Hid (Below wr.heap.size wr (wr.alloc (.cells #[.slice L.ka L.kn L.kc, .slice L.va L.vn L.vc, .int .i64 L.size, .int .i64 L.more] 223))) := kept ((Below.refl _ _).alloc (Nat.le_refl _) _)
      have HBW : Hid (∀ {w' : World}, Below (wr.alloc (.cells #[.slice L.ka L.kn L.kc, .slice L.va L.vn L.vc, .int .i64 L.size, .int .i64 L.more] 223)).drew.heap.size (wr.alloc (.cells #[.slice L.ka L.kn L.kc, .slice L.va L.vn L.vc, .int .i64 L.size, .int .i64 L.more] 223)).drew w' → Below w.heap.size w w') := kept (fun h => below_to (below_to (below_of_drew1 h) HB0.out) HW.out)
      have e0 : (wr.alloc (.cells #[.slice L.ka L.kn L.kc, .slice L.va L.vn L.vc, .int .i64 L.size, .int .i64 L.more] 223)).cell? ⟨wr.heap.size, 0, none⟩ = some (.slice L.ka L.kn L.kc) := (by rw [cell_of_row _ wr.heap.size 0 _ _ _ (heap_alloc_new wr _)]; rfl)
      have e1 : (wr.alloc (.cells #[.slice L.ka L.kn L.kc, .slice L.va L.vn L.vc, .int .i64 L.size, .int .i64 L.more] 223)).cell? ⟨wr.heap.size, 1, none⟩ = some (.slice L.va L.vn L.vc) := (by rw [cell_of_row _ wr.heap.size 1 _ _ _ (heap_alloc_new wr _)]; rfl)
      have e2 : (wr.alloc (.cells #[.slice L.ka L.kn L.kc, .slice L.va L.vn L.vc, .int .i64 L.size, .int .i64 L.more] 223)).cell? ⟨wr.heap.size, 2, none⟩ = some (.int .i64 L.size) := (by rw [cell_of_row _ wr.heap.size 2 _ _ _ (heap_alloc_new wr _)]; rfl)
      have e3 : (wr.alloc (.cells #[.slice L.ka L.kn L.kc, .slice L.va L.vn L.vc, .int .i64 L.size, .int .i64 L.more] 223)).cell? ⟨wr.heap.size, 3, none⟩ = some (.int .i64 L.more) := (by rw [cell_of_row _ wr.heap.size 3 _ _ _ (heap_alloc_new wr _)]; rfl)
      have HE : Hid (∀ {w' : World}, Below (wr.alloc (.cells #[.slice L.ka L.kn L.kc, .slice L.va L.vn L.vc, .int .i64 L.size, .int .i64 L.more] 223)).drew.heap.size (wr.alloc (.cells #[.slice L.ka L.kn L.kc, .slice L.va L.vn L.vc, .int .i64 L.size, .int .i64 L.more] 223)).drew w' → w'.cell? ⟨wr.heap.size, 0, none⟩ = some (.slice L.ka L.kn L.kc) ∧ w'.cell? ⟨wr.heap.size, 1, none⟩ = some (.slice L.va L.vn L.vc) ∧ w'.cell? ⟨wr.heap.size, 2, none⟩ = some (.int .i64 L.size) ∧ w'.cell? ⟨wr.heap.size, 3, none⟩ = some (.int .i64 L.more)) := kept (fun h => ⟨cell_below (below_of_drew1 h) e0, cell_below (below_of_drew1 h) e1, cell_below (below_of_drew1 h) e2, cell_below (below_of_drew1 h) e3⟩)
      clear hrd
      cases hok : itemOk (I[k]'hki) with
      | false =>
        have HO : Hid (ordU itemOk cmpI I n = false) := kept (ordU_bad hki hlt hok)
        have HP := fun w => kept (rightItem_any L w false (HRD.out.ok.trans hok))
        clear hok
        clear HRD
        obtain ⟨ka, kn, kc, va, vn, vc, size, more⟩ := L
        simp only at hc0 hc1 hc2 hc3 e0 e1 e2 e3
        go_wp2
        refine wp_region_held_drew (S := (fun W' => W'.cell? ⟨wr.heap.size, 0, none⟩ = some (.slice ka kn kc) ∧ W'.cell? ⟨wr.heap.size, 1, none⟩ = some (.slice va vn vc) ∧ W'.cell? ⟨wr.heap.size, 2, none⟩ = some (.int .i64 size) ∧ W'.cell? ⟨wr.heap.size, 3, none⟩ = some (.int .i64 more))) (by kernel_rfl) ?_ (fun hHeld => ?_)
        · ((try dsimp only); (first | exact ⟨e0, e1, e2, e3⟩ | exact HE.out hb1))
        refine hand_take 0 (some 16) ?_ (by kernel_rfl) (by kernel_rfl) (by kernel_rfl) (by kernel_rfl) (by kernel_rfl) (fun _ _ _ h => h) ?_ (by assumption) ?_
        rotate_left
        · (intro o ho w hSw; (simp only [List.getElem?_toArray, List.getElem?_cons_succ, List.getElem?_cons_zero, Option.some.injEq] at ho); subst ho; (try dsimp only at hSw); go_simp; (first | done | with_reducible rfl))
        (try simp only [Act.put, List.setIfInBounds_toArray, List.set_cons_zero, List.set_cons_succ])
        refine hand_take 1 (some 17) ?_ (by kernel_rfl) (by kernel_rfl) (by kernel_rfl) (by kernel_rfl) (by kernel_rfl) (fun _ _ _ h => h) ?_ (by assumption) ?_
        rotate_left
        · (intro o ho w hSw; (simp only [List.getElem?_toArray, List.getElem?_cons_succ, List.getElem?_cons_zero, Option.some.injEq] at ho); subst ho; (try dsimp only at hSw); go_simp; (first | done | with_reducible rfl))
        (try simp only [Act.put, List.setIfInBounds_toArray, List.set_cons_zero, List.set_cons_succ])
        refine hand_ready 2 (by kernel_rfl) (by kernel_rfl) (fun o ho K hK => ?_)
        (simp only [List.getElem?_toArray, List.getElem?_cons_succ, List.getElem?_cons_zero, Option.some.injEq] at ho)
        subst ho
        go_simp
        (go_at_call 172; (with_reducible refine (HP _).out.mono ?_); rintro e w1 ⟨rfl, hb1⟩)
        (try go_wp2_with fail)
        refine hK.out _ _ ?_ (fun hHeld => ?_)
        · ((try dsimp only); (first | exact ⟨e0, e1, e2, e3⟩ | exact HE.out hb1))
        clear hK K
        (try simp only [Act.put, List.setIfInBounds_toArray, List.set_cons_zero, List.set_cons_succ])
        refine hand_take 3 (some 19) ?_ (by kernel_rfl) (by kernel_rfl) (by kernel_rfl) (by kernel_rfl) (by kernel_rfl) (fun _ _ _ h => h) ?_ (by assumption) ?_
        rotate_left
        · (intro o ho w hSw; (simp only [List.getElem?_toArray, List.getElem?_cons_succ, List.getElem?_cons_zero, Option.some.injEq] at ho); subst ho; (try dsimp only at hSw); go_simp; (first | done | with_reducible rfl))
        (try simp only [Act.put, List.setIfInBounds_toArray, List.set_cons_zero, List.set_cons_succ])
        refine hand_take 4 (some 20) ?_ (by kernel_rfl) (by kernel_rfl) (by kernel_rfl) (by kernel_rfl) (by kernel_rfl) (fun _ _ _ h => h) ?_ (by assumption) ?_
        rotate_left
        · (intro o ho w hSw; (simp only [List.getElem?_toArray, List.getElem?_cons_succ, List.getElem?_cons_zero, Option.some.injEq] at ho); subst ho; (try dsimp only at hSw); go_simp; (first | done | with_reducible rfl))
        (try simp only [Act.put, List.setIfInBounds_toArray, List.set_cons_zero, List.set_cons_succ])
        refine hand_skip 5 (some 21) (by kernel_rfl) (by kernel_rfl) (by kernel_rfl) (by kernel_rfl) (by kernel_rfl) (fun _ _ _ h => h) (by assumption) ?_
        (try simp only [Act.put, List.setIfInBounds_toArray, List.set_cons_zero, List.set_cons_succ])
        refine hand_skip 6 (some 22) (by kernel_rfl) (by kernel_rfl) (by kernel_rfl) (by kernel_rfl) (by kernel_rfl) (fun _ _ _ h => h) (by assumption) ?_
        (try simp only [Act.put, List.setIfInBounds_toArray, List.set_cons_zero, List.set_cons_succ])
        refine hand_skip 7 (some 23) (by kernel_rfl) (by kernel_rfl) (by kernel_rfl) (by kernel_rfl) (by kernel_rfl) (fun _ _ _ h => h) (by assumption) ?_
        (try simp only [Act.put, List.setIfInBounds_toArray, List.set_cons_zero, List.set_cons_succ])
        refine hand_skip 8 (some 24) (by kernel_rfl) (by kernel_rfl) (by kernel_rfl) (by kernel_rfl) (by kernel_rfl) (fun _ _ _ h => h) (by assumption) ?_
        (try simp only [Act.put, List.setIfInBounds_toArray, List.set_cons_zero, List.set_cons_succ])
        refine hand_skip 9 (some 25) (by kernel_rfl) (by kernel_rfl) (by kernel_rfl) (by kernel_rfl) (by kernel_rfl) (fun _ _ _ h => h) (by assumption) ?_
        (try simp only [Act.put, List.setIfInBounds_toArray, List.set_cons_zero, List.set_cons_succ])
        refine hand_skip 10 (some 26) (by kernel_rfl) (by kernel_rfl) (by kernel_rfl) (by kernel_rfl) (by kernel_rfl) (fun _ _ _ h => h) (by assumption) ?_
        (try simp only [Act.put, List.setIfInBounds_toArray, List.set_cons_zero, List.set_cons_succ])
        refine hand_skip 11 (some 27) (by kernel_rfl) (by kernel_rfl) (by kernel_rfl) (by kernel_rfl) (by kernel_rfl) (fun _ _ _ h => h) (by assumption) ?_
        (try simp only [Act.put, List.setIfInBounds_toArray, List.set_cons_zero, List.set_cons_succ])
        refine hand_skip 12 (some 28) (by kernel_rfl) (by kernel_rfl) (by kernel_rfl) (by kernel_rfl) (by kernel_rfl) (fun _ _ _ h => h) (by assumption) ?_
        (try simp only [Act.put, List.setIfInBounds_toArray, List.set_cons_zero, List.set_cons_succ])
        refine hand_skip 13 (some 29) (by kernel_rfl) (by kernel_rfl) (by kernel_rfl) (by kernel_rfl) (by kernel_rfl) (fun _ _ _ h => h) (by assumption) ?_
        (try simp only [Act.put, List.setIfInBounds_toArray, List.set_cons_zero, List.set_cons_succ])
        refine hand_skip 14 (some 30) (by kernel_rfl) (by kernel_rfl) (by kernel_rfl) (by kernel_rfl) (by kernel_rfl) (fun _ _ _ h => h) (by assumption) ?_
        (try simp only [Act.put, List.setIfInBounds_toArray, List.set_cons_zero, List.set_cons_succ])
        refine hand_skip 15 (some 31) (by kernel_rfl) (by kernel_rfl) (by kernel_rfl) (by kernel_rfl) (by kernel_rfl) (fun _ _ _ h => h) (by assumption) ?_
        (try simp only [Act.put, List.setIfInBounds_toArray, List.set_cons_zero, List.set_cons_succ])
        refine hand_skip 16 (some 32) (by kernel_rfl) (by kernel_rfl) (by kernel_rfl) (by kernel_rfl) (by kernel_rfl) (fun _ _ _ h => h) (by assumption) ?_
        (try simp only [Act.put, List.setIfInBounds_toArray, List.set_cons_zero, List.set_cons_succ])
        refine hand_skip 17 (some 33) (by kernel_rfl) (by kernel_rfl) (by kernel_rfl) (by kernel_rfl) (by kernel_rfl) (fun _ _ _ h => h) (by assumption) ?_
        (try simp only [Act.put, List.setIfInBounds_toArray, List.set_cons_zero, List.set_cons_succ])
        refine hand_take 18 (some 34) ?_ (by kernel_rfl) (by kernel_rfl) (by kernel_rfl) (by kernel_rfl) (by kernel_rfl) (fun _ _ _ h => h) ?_ (by assumption) ?_
        rotate_left
        · (intro o ho w hSw; (simp only [List.getElem?_toArray, List.getElem?_cons_succ, List.getElem?_cons_zero, Option.some.injEq] at ho); subst ho; (try dsimp only at hSw); go_simp; (first | done | with_reducible rfl))
        (try simp only [Act.put, List.setIfInBounds_toArray, List.set_cons_zero, List.set_cons_succ])
        refine wpAnyH_done (by kernel_rfl) ?_ _
        have HB1 := kept (HBW.out hb1)
        clear hb1
        go_wp2
        go_ret
        exact ⟨ret_bool HO.out.symm, HB1.out⟩
      | true =>
        cases k with
        | zero =>
          have HO : Hid (ordU itemOk cmpI I 1 = true) := kept (ordU_first hki hok)
          have HP := fun w => kept (rightItem_any L w true (HRD.out.ok.trans hok))
          clear hok HRD
          obtain ⟨ka, kn, kc, va, vn, vc, size, more⟩ := L
          simp only at hc0 hc1 hc2 hc3 e0 e1 e2 e3
          rw [Nat.zero_mul, Nat.add_zero] at hc0 hc1 hc2 hc3
          go_wp2
          refine wp_region_held_drew (S := (fun W' => W'.cell? ⟨wr.heap.size, 0, none⟩ = some (.slice ka kn kc) ∧ W'.cell? ⟨wr.heap.size, 1, none⟩ = some (.slice va vn vc) ∧ W'.cell? ⟨wr.heap.size, 2, none⟩ = some (.int .i64 size) ∧ W'.cell? ⟨wr.heap.size, 3, none⟩ = some (.int .i64 more))) (by kernel_rfl) ?_ (fun hHeld => ?_)
          · ((try dsimp only); (first | exact ⟨e0, e1, e2, e3⟩ | exact HE.out hb1))
          refine hand_take 0 (some 16) ?_ (by kernel_rfl) (by kernel_rfl) (by kernel_rfl) (by kernel_rfl) (by kernel_rfl) (fun _ _ _ h => h) ?_ (by assumption) ?_
          rotate_left
          · (intro o ho w hSw; (simp only [List.getElem?_toArray, List.getElem?_cons_succ, List.getElem?_cons_zero, Option.some.injEq] at ho); subst ho; (try dsimp only at hSw); go_simp; (first | done | with_reducible rfl))
          (try simp only [Act.put, List.setIfInBounds_toArray, List.set_cons_zero, List.set_cons_succ])
          refine hand_take 1 (some 17) ?_ (by kernel_rfl) (by kernel_rfl) (by kernel_rfl) (by kernel_rfl) (by kernel_rfl) (fun _ _ _ h => h) ?_ (by assumption) ?_
          rotate_left
          · (intro o ho w hSw; (simp only [List.getElem?_toArray, List.getElem?_cons_succ, List.getElem?_cons_zero, Option.some.injEq] at ho); subst ho; (try dsimp only at hSw); go_simp; (first | done | with_reducible rfl))
          (try simp only [Act.put, List.setIfInBounds_toArray, List.set_cons_zero, List.set_cons_succ])
          refine hand_ready 2 (by kernel_rfl) (by kernel_rfl) (fun o ho K hK => ?_)
          (simp only [List.getElem?_toArray, List.getElem?_cons_succ, List.getElem?_cons_zero, Option.some.injEq] at ho)
          subst ho
          go_simp
          (go_at_call 172; (with_reducible refine (HP _).out.mono ?_); rintro e w1 ⟨rfl, hb1⟩)
          (try go_wp2_with fail)
          refine hK.out _ _ ?_ (fun hHeld => ?_)
          · ((try dsimp only); (first | exact ⟨e0, e1, e2, e3⟩ | exact HE.out hb1))
          clear hK K
          (try simp only [Act.put, List.setIfInBounds_toArray, List.set_cons_zero, List.set_cons_succ])
          refine hand_take 3 (some 19) ?_ (by kernel_rfl) (by kernel_rfl) (by kernel_rfl) (by kernel_rfl) (by kernel_rfl) (fun _ _ _ h => h) ?_ (by assumption) ?_
          rotate_left
          · (intro o ho w hSw; (simp only [List.getElem?_toArray, List.getElem?_cons_succ, List.getElem?_cons_zero, Option.some.injEq] at ho); subst ho; (try dsimp only at hSw); go_simp; (first | done | with_reducible rfl))
          (try simp only [Act.put, List.setIfInBounds_toArray, List.set_cons_zero, List.set_cons_succ])
          refine hand_take 4 (some 20) ?_ (by kernel_rfl) (by kernel_rfl) (by kernel_rfl) (by kernel_rfl) (by kernel_rfl) (fun _ _ _ h => h) ?_ (by assumption) ?_
          rotate_left
          · (intro o ho w hSw; (simp only [List.getElem?_toArray, List.getElem?_cons_succ, List.getElem?_cons_zero, Option.some.injEq] at ho); subst ho; (try dsimp only at hSw); go_simp; (first | done | with_reducible rfl))
          (try simp only [Act.put, List.setIfInBounds_toArray, List.set_cons_zero, List.set_cons_succ])
          refine hand_take 5 (some 21) ?_ (by kernel_rfl) (by kernel_rfl) (by kernel_rfl) (by kernel_rfl) (by kernel_rfl) (fun _ _ _ h => h) ?_ (by assumption) ?_
          rotate_left
          · (intro o ho w hSw; (simp only [List.getElem?_toArray, List.getElem?_cons_succ, List.getElem?_cons_zero, Option.some.injEq] at ho); subst ho; (try dsimp only at hSw); go_simp; (first | done | with_reducible rfl))
          (try simp only [Act.put, List.setIfInBounds_toArray, List.set_cons_zero, List.set_cons_succ])
          refine hand_take 6 (some 22) ?_ (by kernel_rfl) (by kernel_rfl) (by kernel_rfl) (by kernel_rfl) (by kernel_rfl) (fun _ _ _ h => h) ?_ (by assumption) ?_
          rotate_left
          · (intro o ho w hSw; (simp only [List.getElem?_toArray, List.getElem?_cons_succ, List.getElem?_cons_zero, Option.some.injEq] at ho); subst ho; (try dsimp only at hSw); go_simp; (first | done | with_reducible rfl))
          (try simp only [Act.put, List.setIfInBounds_toArray, List.set_cons_zero, List.set_cons_succ])
          refine hand_take 7 (some 23) ?_ (by kernel_rfl) (by kernel_rfl) (by kernel_rfl) (by kernel_rfl) (by kernel_rfl) (fun _ _ _ h => h) ?_ (by assumption) ?_
          rotate_left
          · (intro o ho w hSw; (simp only [List.getElem?_toArray, List.getElem?_cons_succ, List.getElem?_cons_zero, Option.some.injEq] at ho); subst ho; (try dsimp only at hSw); go_simp; (first | done | with_reducible rfl))
          (try simp only [Act.put, List.setIfInBounds_toArray, List.set_cons_zero, List.set_cons_succ])
          refine hand_skip 8 (some 24) (by kernel_rfl) (by kernel_rfl) (by kernel_rfl) (by kernel_rfl) (by kernel_rfl) (fun _ _ _ h => h) (by assumption) ?_
          (try simp only [Act.put, List.setIfInBounds_toArray, List.set_cons_zero, List.set_cons_succ])
          refine hand_skip 9 (some 25) (by kernel_rfl) (by kernel_rfl) (by kernel_rfl) (by kernel_rfl) (by kernel_rfl) (fun _ _ _ h => h) (by assumption) ?_
          (try simp only [Act.put, List.setIfInBounds_toArray, List.set_cons_zero, List.set_cons_succ])
          refine hand_skip 10 (some 26) (by kernel_rfl) (by kernel_rfl) (by kernel_rfl) (by kernel_rfl) (by kernel_rfl) (fun _ _ _ h => h) (by assumption) ?_
          (try simp only [Act.put, List.setIfInBounds_toArray, List.set_cons_zero, List.set_cons_succ])
          refine hand_skip 11 (some 27) (by kernel_rfl) (by kernel_rfl) (by kernel_rfl) (by kernel_rfl) (by kernel_rfl) (fun _ _ _ h => h) (by assumption) ?_
          (try simp only [Act.put, List.setIfInBounds_toArray, List.set_cons_zero, List.set_cons_succ])
          refine hand_skip 12 (some 28) (by kernel_rfl) (by kernel_rfl) (by kernel_rfl) (by kernel_rfl) (by kernel_rfl) (fun _ _ _ h => h) (by assumption) ?_
          (try simp only [Act.put, List.setIfInBounds_toArray, List.set_cons_zero, List.set_cons_succ])
          refine hand_skip 13 (some 29) (by kernel_rfl) (by kernel_rfl) (by kernel_rfl) (by kernel_rfl) (by kernel_rfl) (fun _ _ _ h => h) (by assumption) ?_
          (try simp only [Act.put, List.setIfInBounds_toArray, List.set_cons_zero, List.set_cons_succ])
          refine hand_skip 14 (some 30) (by kernel_rfl) (by kernel_rfl) (by kernel_rfl) (by kernel_rfl) (by kernel_rfl) (fun _ _ _ h => h) (by assumption) ?_
          (try simp only [Act.put, List.setIfInBounds_toArray, List.set_cons_zero, List.set_cons_succ])
          refine hand_skip 15 (some 31) (by kernel_rfl) (by kernel_rfl) (by kernel_rfl) (by kernel_rfl) (by kernel_rfl) (fun _ _ _ h => h) (by assumption) ?_
          (try simp only [Act.put, List.setIfInBounds_toArray, List.set_cons_zero, List.set_cons_succ])
          refine hand_skip 16 (some 32) (by kernel_rfl) (by kernel_rfl) (by kernel_rfl) (by kernel_rfl) (by kernel_rfl) (fun _ _ _ h => h) (by assumption) ?_
          (try simp only [Act.put, List.setIfInBounds_toArray, List.set_cons_zero, List.set_cons_succ])
          refine hand_take 17 (some 33) ?_ (by kernel_rfl) (by kernel_rfl) (by kernel_rfl) (by kernel_rfl) (by kernel_rfl) (fun _ _ _ h => h) ?_ (by assumption) ?_
          rotate_left
          · (intro o ho w hSw; (simp only [List.getElem?_toArray, List.getElem?_cons_succ, List.getElem?_cons_zero, Option.some.injEq] at ho); subst ho; (try dsimp only at hSw); go_simp; (first | done | with_reducible rfl))
          (try simp only [Act.put, List.setIfInBounds_toArray, List.set_cons_zero, List.set_cons_succ])
          refine hand_take 18 (some 34) ?_ (by kernel_rfl) (by kernel_rfl) (by kernel_rfl) (by kernel_rfl) (by kernel_rfl) (fun _ _ _ h => h) ?_ (by assumption) ?_
          rotate_left
          · (intro o ho w hSw; (simp only [List.getElem?_toArray, List.getElem?_cons_succ, List.getElem?_cons_zero, Option.some.injEq] at ho); subst ho; (try dsimp only at hSw); go_simp; (first | done | with_reducible rfl))
          (try simp only [Act.put, List.setIfInBounds_toArray, List.set_cons_zero, List.set_cons_succ])
          refine wpAnyH_done (by kernel_rfl) ?_ _
          have HB1 := kept (HBW.out hb1)
          clear hb1
          go_wp2
          go_roundw
          case rel => exact ⟨1, by omega, by go_num, HO, HB1⟩
          case measure => simp [intOf]; omega
        | succ k =>
          obtain ⟨b', o', M, e, hrm, g0, g1, g2, g3⟩ := (HR.out.below HW.out).at_ (k := k) (by omega)
          simp only [Option.some.injEq, Addr.mk.injEq, and_true] at e
          obtain ⟨rfl, rfl⟩ := e
          have HP := fun w => kept (rightItem_any L w true (HRD.out.ok.trans hok))
          have HRL : Hid (∀ {w' : World}, Below (wr.alloc (.cells #[.slice L.ka L.kn L.kc, .slice L.va L.vn L.vc, .int .i64 L.size, .int .i64 L.more] 223)).drew.heap.size (wr.alloc (.cells #[.slice L.ka L.kn L.kc, .slice L.va L.vn L.vc, .int .i64 L.size, .int .i64 L.more] 223)).drew w' → Rd w' L.ka L.kn (I[k + 1]'hki).key ∧ Rd w' M.ka M.kn (I[k]'(by omega)).key ∧ w'.cell? ⟨b, o + k * 4, none⟩ = some (.slice M.ka M.kn M.kc) ∧ w'.cell? ⟨b, o + k * 4 + 1, none⟩ = some (.slice M.va M.vn M.vc) ∧ w'.cell? ⟨b, o + k * 4 + 2, none⟩ = some (.int .i64 M.size) ∧ w'.cell? ⟨b, o + k * 4 + 3, none⟩ = some (.int .i64 M.more)) := kept (fun h => by
            have hb := below_to (below_of_drew1 h) HB0.out
            exact ⟨HRD.out.1.below hb, hrm.1.below hb, cell_below hb g0, cell_below hb g1, cell_below hb g2, cell_below hb g3⟩)
          have q0 := (HRL.out (Below.refl _ _)).2.2.1
          have q1 := (HRL.out (Below.refl _ _)).2.2.2.1
          have q2 := (HRL.out (Below.refl _ _)).2.2.2.2.1
          have q3 := (HRL.out (Below.refl _ _)).2.2.2.2.2
          have hcmp : ordB (I[k]'(by omega)).key (I[k + 1]'hki).key = cmpI (I[k]'(by omega)) (I[k + 1]'hki) := rfl
          have HKB := kept hki
          by_cases hcm : cmpI (I[k]'(by omega)) (I[k + 1]'hki) < 0
          all_goals
            first
            | have HO : Hid (ordU itemOk cmpI I (k + 1 + 1) = true) := kept (ordU_next hki HU.out hok hcm)
            | have HO : Hid (ordU itemOk cmpI I n = false) := kept (ordU_back hki hlt (by omega))
            clear hok
            generalize (I[k + 1]'hki).key = x at HRL hcmp
            generalize (I[k]'(by omega)).key = y at HRL hcmp
            generalize cmpI (I[k]'(by omega)) (I[k + 1]'hki) = m at hcm hcmp
            have HCM := fun {w' : World} h => kept (cmpItem_any M L y x w' (HRL.out h).2.1 (HRL.out h).1 m hcmp)
            clear HRD hrm
            obtain ⟨ka, kn, kc, va, vn, vc, size, more⟩ := L
            obtain ⟨ka', kn', kc', va', vn', vc', size', more'⟩ := M
            simp only at hc0 hc1 hc2 hc3 e0 e1 e2 e3 g0 g1 g2 g3 q0 q1 q2 q3
            have hi1 : (0 : Int) ≤ (k : Int) + 1 - 1 := by omega
            have hi2 : (k : Int) + 1 - 1 < (n : Int) := by omega
            first
            | have hd : decide (0 ≤ m) = false := by rw [decide_eq_false]; omega
            | have hd : decide (0 ≤ m) = true := by rw [decide_eq_true]; omega
            clear hcm hcmp
            have hi3 : (k : Int) < (n : Int) := by omega
            have hi4 : IntKind.i64.wrap (k : Int) = (k : Int) := IntWalk.i64_in _ ⟨by omega, by omega⟩
            go_wp2
            refine wp_region_held_drew (S := (fun W' => (W'.cell? ⟨wr.heap.size, 0, none⟩ = some (.slice ka kn kc) ∧ W'.cell? ⟨wr.heap.size, 1, none⟩ = some (.slice va vn vc) ∧ W'.cell? ⟨wr.heap.size, 2, none⟩ = some (.int .i64 size) ∧ W'.cell? ⟨wr.heap.size, 3, none⟩ = some (.int .i64 more)) ∧ W'.cell? ⟨b, o + k * 4, none⟩ = some (.slice ka' kn' kc') ∧ W'.cell? ⟨b, o + k * 4 + 1, none⟩ = some (.slice va' vn' vc') ∧ W'.cell? ⟨b, o + k * 4 + 2, none⟩ = some (.int .i64 size') ∧ W'.cell? ⟨b, o + k * 4 + 3, none⟩ = some (.int .i64 more'))) (by kernel_rfl) ?_ (fun hHeld => ?_)
            · ((try dsimp only); (first | exact ⟨⟨e0, e1, e2, e3⟩, q0, q1, q2, q3⟩ | exact ⟨HE.out hb2, (HRL.out hb2).2.2⟩ | exact ⟨HE.out hb1, (HRL.out hb1).2.2⟩))
            refine hand_take 0 (some 16) ?_ (by kernel_rfl) (by kernel_rfl) (by kernel_rfl) (by kernel_rfl) (by kernel_rfl) (fun _ _ _ h => h) ?_ (by assumption) ?_
            rotate_left
            · (intro o ho w hSw; (simp only [List.getElem?_toArray, List.getElem?_cons_succ, List.getElem?_cons_zero, Option.some.injEq] at ho); subst ho; (try dsimp only at hSw); go_simp; (first | done | with_reducible rfl))
            (try simp only [Act.put, List.setIfInBounds_toArray, List.set_cons_zero, List.set_cons_succ])
            refine hand_take 1 (some 17) ?_ (by kernel_rfl) (by kernel_rfl) (by kernel_rfl) (by kernel_rfl) (by kernel_rfl) (fun _ _ _ h => h) ?_ (by assumption) ?_
            rotate_left
            · (intro o ho w hSw; (simp only [List.getElem?_toArray, List.getElem?_cons_succ, List.getElem?_cons_zero, Option.some.injEq] at ho); subst ho; (try dsimp only at hSw); go_simp; (first | done | with_reducible rfl))
            (try simp only [Act.put, List.setIfInBounds_toArray, List.set_cons_zero, List.set_cons_succ])
            refine hand_ready 2 (by kernel_rfl) (by kernel_rfl) (fun o ho K hK => ?_)
            (simp only [List.getElem?_toArray, List.getElem?_cons_succ, List.getElem?_cons_zero, Option.some.injEq] at ho)
            subst ho
            go_simp
            (go_at_call 172; (with_reducible refine (HP _).out.mono ?_); rintro e w1 ⟨rfl, hb1⟩)
            (try go_wp2_with fail)
            refine hK.out _ _ ?_ (fun hHeld => ?_)
            · ((try dsimp only); (first | exact ⟨⟨e0, e1, e2, e3⟩, q0, q1, q2, q3⟩ | exact ⟨HE.out hb2, (HRL.out hb2).2.2⟩ | exact ⟨HE.out hb1, (HRL.out hb1).2.2⟩))
            clear hK K
            (try simp only [Act.put, List.setIfInBounds_toArray, List.set_cons_zero, List.set_cons_succ])
            refine hand_take 3 (some 19) ?_ (by kernel_rfl) (by kernel_rfl) (by kernel_rfl) (by kernel_rfl) (by kernel_rfl) (fun _ _ _ h => h) ?_ (by assumption) ?_
            rotate_left
            · (intro o ho w hSw; (simp only [List.getElem?_toArray, List.getElem?_cons_succ, List.getElem?_cons_zero, Option.some.injEq] at ho); subst ho; (try dsimp only at hSw); go_simp; (first | done | with_reducible rfl))
            (try simp only [Act.put, List.setIfInBounds_toArray, List.set_cons_zero, List.set_cons_succ])
            refine hand_take 4 (some 20) ?_ (by kernel_rfl) (by kernel_rfl) (by kernel_rfl) (by kernel_rfl) (by kernel_rfl) (fun _ _ _ h => h) ?_ (by assumption) ?_
            rotate_left
            · (intro o ho w hSw; (simp only [List.getElem?_toArray, List.getElem?_cons_succ, List.getElem?_cons_zero, Option.some.injEq] at ho); subst ho; (try dsimp only at hSw); go_simp; (first | done | with_reducible rfl))
            (try simp only [Act.put, List.setIfInBounds_toArray, List.set_cons_zero, List.set_cons_succ])
            refine hand_take 5 (some 21) ?_ (by kernel_rfl) (by kernel_rfl) (by kernel_rfl) (by kernel_rfl) (by kernel_rfl) (fun _ _ _ h => h) ?_ (by assumption) ?_
            rotate_left
            · (intro o ho w hSw; (simp only [List.getElem?_toArray, List.getElem?_cons_succ, List.getElem?_cons_zero, Option.some.injEq] at ho); subst ho; (try dsimp only at hSw); go_simp; (first | done | with_reducible rfl))
            (try simp only [Act.put, List.setIfInBounds_toArray, List.set_cons_zero, List.set_cons_succ])
            refine hand_take 6 (some 22) ?_ (by kernel_rfl) (by kernel_rfl) (by kernel_rfl) (by kernel_rfl) (by kernel_rfl) (fun _ _ _ h => h) ?_ (by assumption) ?_
            rotate_left
            · (intro o ho w hSw; (simp only [List.getElem?_toArray, List.getElem?_cons_succ, List.getElem?_cons_zero, Option.some.injEq] at ho); subst ho; (try dsimp only at hSw); go_simp; (first | done | with_reducible rfl))
            (try simp only [Act.put, List.setIfInBounds_toArray, List.set_cons_zero, List.set_cons_succ])
            refine hand_take 7 (some 23) ?_ (by kernel_rfl) (by kernel_rfl) (by kernel_rfl) (by kernel_rfl) (by kernel_rfl) (fun _ _ _ h => h) ?_ (by assumption) ?_
            rotate_left
            · (intro o ho w hSw; (simp only [List.getElem?_toArray, List.getElem?_cons_succ, List.getElem?_cons_zero, Option.some.injEq] at ho); subst ho; (try dsimp only at hSw); go_simp; (first | done | with_reducible rfl))
            (try simp only [Act.put, List.setIfInBounds_toArray, List.set_cons_zero, List.set_cons_succ])
            refine hand_take 8 (some 24) ?_ (by kernel_rfl) (by kernel_rfl) (by kernel_rfl) (by kernel_rfl) (by kernel_rfl) (fun _ _ _ h => h) ?_ (by assumption) ?_
            rotate_left
            · (intro o ho w hSw; (simp only [List.getElem?_toArray, List.getElem?_cons_succ, List.getElem?_cons_zero, Option.some.injEq] at ho); subst ho; (try dsimp only at hSw); go_simp; (first | done | with_reducible rfl))
            (try simp only [Act.put, List.setIfInBounds_toArray, List.set_cons_zero, List.set_cons_succ])
            refine hand_take 9 (some 25) ?_ (by kernel_rfl) (by kernel_rfl) (by kernel_rfl) (by kernel_rfl) (by kernel_rfl) (fun _ _ _ h => h) ?_ (by assumption) ?_
            rotate_left
            · (intro o ho w hSw; (simp only [List.getElem?_toArray, List.getElem?_cons_succ, List.getElem?_cons_zero, Option.some.injEq] at ho); subst ho; (try dsimp only at hSw); go_simp; (first | done | with_reducible rfl))
            (try simp only [Act.put, List.setIfInBounds_toArray, List.set_cons_zero, List.set_cons_succ])
            refine hand_take 10 (some 26) ?_ (by kernel_rfl) (by kernel_rfl) (by kernel_rfl) (by kernel_rfl) (by kernel_rfl) (fun _ _ _ h => h) ?_ (by assumption) ?_
            rotate_left
            · (intro o ho w hSw; (simp only [List.getElem?_toArray, List.getElem?_cons_succ, List.getElem?_cons_zero, Option.some.injEq] at ho); subst ho; (try dsimp only at hSw); go_simp; (first | done | with_reducible rfl))
            (try simp only [Act.put, List.setIfInBounds_toArray, List.set_cons_zero, List.set_cons_succ])
            refine hand_take 11 (some 27) ?_ (by kernel_rfl) (by kernel_rfl) (by kernel_rfl) (by kernel_rfl) (by kernel_rfl) (fun _ _ _ h => h) ?_ (by assumption) ?_
            rotate_left
            · (intro o ho w hSw; (simp only [List.getElem?_toArray, List.getElem?_cons_succ, List.getElem?_cons_zero, Option.some.injEq] at ho); subst ho; (try dsimp only at hSw); go_simp; (first | done | with_reducible rfl))
            (try simp only [Act.put, List.setIfInBounds_toArray, List.set_cons_zero, List.set_cons_succ])
            refine hand_take 12 (some 28) ?_ (by kernel_rfl) (by kernel_rfl) (by kernel_rfl) (by kernel_rfl) (by kernel_rfl) (fun _ _ _ h => h) ?_ (by assumption) ?_
            rotate_left
            · (intro o ho w hSw; (simp only [List.getElem?_toArray, List.getElem?_cons_succ, List.getElem?_cons_zero, Option.some.injEq] at ho); subst ho; (try dsimp only at hSw); go_simp; (first | done | with_reducible rfl))
            (try simp only [Act.put, List.setIfInBounds_toArray, List.set_cons_zero, List.set_cons_succ])
            refine hand_take 13 (some 29) ?_ (by kernel_rfl) (by kernel_rfl) (by kernel_rfl) (by kernel_rfl) (by kernel_rfl) (fun _ _ _ h => h) ?_ (by assumption) ?_
            rotate_left
            · (intro o ho w hSw; (simp only [List.getElem?_toArray, List.getElem?_cons_succ, List.getElem?_cons_zero, Option.some.injEq] at ho); subst ho; (try dsimp only at hSw); go_simp; (first | done | with_reducible rfl))
            (try simp only [Act.put, List.setIfInBounds_toArray, List.set_cons_zero, List.set_cons_succ])
            refine hand_take 14 (some 30) ?_ (by kernel_rfl) (by kernel_rfl) (by kernel_rfl) (by kernel_rfl) (by kernel_rfl) (fun _ _ _ h => h) ?_ (by assumption) ?_
            rotate_left
            · (intro o ho w hSw; (simp only [List.getElem?_toArray, List.getElem?_cons_succ, List.getElem?_cons_zero, Option.some.injEq] at ho); subst ho; (try dsimp only at hSw); go_simp; (first | done | with_reducible rfl))
            (try simp only [Act.put, List.setIfInBounds_toArray, List.set_cons_zero, List.set_cons_succ])
            refine hand_ready 15 (by kernel_rfl) (by kernel_rfl) (fun o ho K hK => ?_)
            (simp only [List.getElem?_toArray, List.getElem?_cons_succ, List.getElem?_cons_zero, Option.some.injEq] at ho)
            subst ho
            go_simp
            (go_at_call 173; (with_reducible refine (HCM hb1).out.mono ?_); rintro e w2 ⟨rfl, hb2'⟩; have hb2 := below_to hb2' hb1)
            (try go_wp2_with fail)
            refine hK.out _ _ ?_ (fun hHeld => ?_)
            · ((try dsimp only); (first | exact ⟨⟨e0, e1, e2, e3⟩, q0, q1, q2, q3⟩ | exact ⟨HE.out hb2, (HRL.out hb2).2.2⟩ | exact ⟨HE.out hb1, (HRL.out hb1).2.2⟩))
            clear hK K
            (try simp only [Act.put, List.setIfInBounds_toArray, List.set_cons_zero, List.set_cons_succ])
            refine hand_take 16 (some 32) ?_ (by kernel_rfl) (by kernel_rfl) (by kernel_rfl) (by kernel_rfl) (by kernel_rfl) (fun _ _ _ h => h) ?_ (by assumption) ?_
            rotate_left
            · (intro o ho w hSw; (simp only [List.getElem?_toArray, List.getElem?_cons_succ, List.getElem?_cons_zero, Option.some.injEq] at ho); subst ho; (try dsimp only at hSw); go_simp; (first | done | with_reducible rfl))
            (try simp only [Act.put, List.setIfInBounds_toArray, List.set_cons_zero, List.set_cons_succ])
            refine hand_take 17 (some 33) ?_ (by kernel_rfl) (by kernel_rfl) (by kernel_rfl) (by kernel_rfl) (by kernel_rfl) (fun _ _ _ h => h) ?_ (by assumption) ?_
            rotate_left
            · (intro o ho w hSw; (simp only [List.getElem?_toArray, List.getElem?_cons_succ, List.getElem?_cons_zero, Option.some.injEq] at ho); subst ho; (try dsimp only at hSw); go_simp; (first | done | with_reducible rfl))
            (try simp only [Act.put, List.setIfInBounds_toArray, List.set_cons_zero, List.set_cons_succ])
            refine hand_take 18 (some 34) ?_ (by kernel_rfl) (by kernel_rfl) (by kernel_rfl) (by kernel_rfl) (by kernel_rfl) (fun _ _ _ h => h) ?_ (by assumption) ?_
            rotate_left
            · (intro o ho w hSw; (simp only [List.getElem?_toArray, List.getElem?_cons_succ, List.getElem?_cons_zero, Option.some.injEq] at ho); subst ho; (try dsimp only at hSw); go_simp; (first | done | with_reducible rfl))
            (try simp only [Act.put, List.setIfInBounds_toArray, List.set_cons_zero, List.set_cons_succ])
            refine wpAnyH_done (by kernel_rfl) ?_ _
            have HB2 := kept (HBW.out hb2)
            go_wp2
            clear hi4
            first
            | (go_ret; exact ⟨ret_bool HO.out.symm, HB2.out⟩)
            | (go_roundw
               case rel => exact ⟨k + 1 + 1, by omega, by go_num, HO, HB2⟩
               case measure => simp [intOf]; omega)
    · obtain rfl : k = n := by omega
      go_wp2
      go_ret
      exact ⟨ret_bool HU.out.symm, HW.out⟩
end Go.Proofs.YtdjcahhofonclaaGreatDoor
end

section
/-
  page.Used, page.rightThings and page.Right.
-/
namespace Go.Proofs.YtdjcahhofonclaaGreatDoor
open Go.ChangeShapes Go.WideShapes Go.ChangeAt Go.RowKit
set_option linter.unusedVariables false
set_option linter.unusedSimpArgs false

/-- The sum over the first k. -/
def sumTo {α : Type} (f : α → Nat) (I : List α) (k : Nat) : Nat := ((I.take k).map f).sum
section
variable {α : Type} {f : α → Nat} {I : List α}
theorem sumTo_zero : sumTo f I 0 = 0 := rfl
theorem sumTo_succ {k : Nat} (h : k < I.length) : sumTo f I (k + 1) = sumTo f I k + f I[k] := by
  unfold sumTo
  rw [List.take_succ_eq_append_getElem h]
  simp only [List.map_append, List.map_cons, List.map_nil, List.sum_append, List.sum_cons, List.sum_nil, Nat.add_zero]
theorem sumTo_all : sumTo f I I.length = (I.map f).sum := by unfold sumTo; rw [List.take_length]
theorem sumTo_le (k : Nat) : sumTo f I k ≤ (I.map f).sum := by
  unfold sumTo
  conv => rhs; rw [← List.take_append_drop k I]
  rw [List.map_append, List.sum_append]
  exact Nat.le_add_right _ _
end
set_option maxRecDepth 100000 in
set_option maxHeartbeats 1000000 in
theorem used_any (l : Lay) (P : Pg) (w : World) (h : RdPg w l P) (hu : usedN P ≤ 72057594037927936) :
    Calls Tryz.prog 136 #[l.val] w fun e w' => e = .returned (.int .i64 (usedN P : Nat)) ∧ Below w.heap.size w w' := by
  have HI := kept h.items
  have HK := kept h.kids
  have HL1 := kept h.n1
  have HL2 := kept h.n2
  have h3 := h.n3
  have h4 := h.n4
  have b1 := h.b1
  have b2 := h.b2
  have b3 := h.b3
  have b4 := h.b4
  obtain ⟨I, hI⟩ : ∃ I, P.items = I := ⟨_, rfl⟩
  obtain ⟨J, hJ⟩ : ∃ J, P.kids = J := ⟨_, rfl⟩
  have hU : usedN P = P.data.length + P.ids.length * 4 + (I.map itemUse).sum + (J.map kidUse).sum := by rw [← hI, ← hJ]; rfl
  rw [hI] at HI HL1
  rw [hJ] at HK HL2
  rw [h3, h4] at hU
  have s1 := fun k => sumTo_le (f := itemUse) (I := I) k
  have s2 := fun k => sumTo_le (f := kidUse) (I := J) k
  have e1 := sumTo_all (f := itemUse) (I := I)
  have e2 := sumTo_all (f := kidUse) (I := J)
  rw [HL1.out] at e1
  rw [HL2.out] at e2
  generalize (I.map itemUse).sum = si at hU s1 e1
  generalize (J.map kidUse).sum = sk at hU s2 e2
  generalize usedN P = u at hu hU
  obtain ⟨kind, txn, next, a1, n1, c1, a2, n2, c2, a3, n3, c3, a4, n4, c4⟩ := l
  simp only at HI HK HL1 HL2 b1 b2 b3 b4 hU e1 e2
  clear h h3 h4 hI hJ
  have HU := kept hU
  have HE1 := kept e1
  have HE2 := kept e2
  have HS1 := kept s1
  have HS2 := kept s2
  have hsi : n3 + n4 * 4 + si + sk ≤ 72057594037927936 := by omega
  clear hU e1 e2 s1 s2 hu
  have HB0 : Hid (Below w.heap.size w (w.alloc (.cells #[.int .i64 kind, .int .u64 txn, .int .i64 next, .slice a1 n1 c1, .slice a2 n2 c2, .slice a3 n3 c3, .slice a4 n4 c4] 64))) := kept ((Below.refl _ _).alloc (Nat.le_refl _) _)
  have HC4 : Hid ((w.alloc (.cells #[.int .i64 kind, .int .u64 txn, .int .i64 next, .slice a1 n1 c1, .slice a2 n2 c2, .slice a3 n3 c3, .slice a4 n4 c4] 64)).cell? ⟨w.heap.size, 4, none⟩ = some (.slice a2 n2 c2)) := kept (by rw [cell_of_row _ w.heap.size 4 _ _ _ (heap_alloc_new w _)]; rfl)
  go_enter Tryz.func136, Tryz.ntmps136
  go_wp2
  go_loopw [3, 19] (fun s i wr => ∃ k : Nat, k ≤ n1 ∧ i = .int .i64 k ∧ s = .int .i64 ((n3 + n4 * 4 + sumTo itemUse I k : Nat) : Int) ∧ Hid (Below (w.alloc (.cells #[.int .i64 kind, .int .u64 txn, .int .i64 next, .slice a1 n1 c1, .slice a2 n2 c2, .slice a3 n3 c3, .slice a4 n4 c4] 64)).heap.size (w.alloc (.cells #[.int .i64 kind, .int .u64 txn, .int .i64 next, .slice a1 n1 c1, .slice a2 n2 c2, .slice a3 n3 c3, .slice a4 n4 c4] 64)) wr)) (fun _ i _ => n1 - (intOf i).toNat)
  case atStart => exact ⟨0, by omega, rfl, by rw [sumTo_zero]; simp, Below.refl _ _⟩
  case round =>
    obtain ⟨k, hk, rfl, rfl, HW⟩ := hrel
    by_cases hlt : k < n1
    · have HBA : Hid (∀ o, Below (w.alloc (.cells #[.int .i64 kind, .int .u64 txn, .int .i64 next, .slice a1 n1 c1, .slice a2 n2 c2, .slice a3 n3 c3, .slice a4 n4 c4] 64)).heap.size (w.alloc (.cells #[.int .i64 kind, .int .u64 txn, .int .i64 next, .slice a1 n1 c1, .slice a2 n2 c2, .slice a3 n3 c3, .slice a4 n4 c4] 64)) (wr.alloc o)) := kept (fun o => HW.out.alloc HW.out.size o)
      obtain ⟨b, o, L, rfl, hrd, hc0, hc1, hc2, hc3⟩ := ((HI.out.below HB0.out).below HW.out).at_ hlt
      have hki : k < I.length := by rw [HL1.out]; exact hlt
      have hss := sumTo_succ (f := itemUse) hki
      have hle := HS1.out (k + 1)
      have hit : itemUse (I[k]'hki) = 3 + L.kn + (if L.size ≤ 64 then L.vn else 4) := by unfold itemUse; rw [hrd.1.1, hrd.2.1.1, hrd.2.2.1]
      have HIS := fun w => kept (itemSize_any L w (itemUse (I[k]'hki)) hrd.2.2.2.2.1 hrd.2.2.2.2.2 hit.symm)
      generalize itemUse (I[k]'hki) = iu at hss HIS
      have HSS := kept hss
      have hbd : n3 + n4 * 4 + (sumTo itemUse I k + iu) + sk ≤ 72057594037927936 := by omega
      clear hrd hit hss hle
      obtain ⟨ka, kn, kc, va, vn, vc, size, more⟩ := L
      simp only at hc0 hc1 hc2 hc3
      generalize sumTo itemUse I k = sm at HSS hbd
      go_wp2_with (first | (go_at_call 180; (with_reducible refine ((HIS _).out).mono ?_); rintro e w1 ⟨rfl, hb1⟩; have HB1 := kept (below_to hb1 (HBA.out _)); clear hb1))
      go_roundw
      case rel => exact ⟨k + 1, by omega, by go_num, by rw [HSS.out]; go_num, HB1⟩
      case measure => simp [intOf]; omega
    · obtain rfl : k = n1 := by omega
      have hc4 := cell_below HW.out HC4.out
      have HWK := kept (HK.out.below (below_to HW.out HB0.out))
      have HSE := HE1.out
      generalize sumTo itemUse I k = sm at HSE
      subst HSE
      go_wp2
      go_loopw [3, 31] (fun s i wx => ∃ j : Nat, j ≤ n2 ∧ i = .int .i64 j ∧ s = .int .i64 ((n3 + n4 * 4 + sm + sumTo kidUse J j : Nat) : Int) ∧ Hid (Below wr.heap.size wr wx)) (fun _ i _ => n2 - (intOf i).toNat)
      case atStart => exact ⟨0, by omega, rfl, by rw [sumTo_zero]; simp, Below.refl _ _⟩
      case round =>
        obtain ⟨j, hj, rfl, rfl, HX⟩ := hrel
        rename World => wx
        by_cases hlt : j < n2
        · obtain ⟨b, o, L, rfl, hrd, hg0, hg1⟩ := (HWK.out.below HX.out).at_ hlt
          have hki : j < J.length := by rw [HL2.out]; exact hlt
          have hss := sumTo_succ (f := kidUse) hki
          have hle := HS2.out (j + 1)
          have hit : kidUse (J[j]'hki) = 5 + L.kn := by unfold kidUse; rw [hrd.1.1]
          have hkn := hrd.2.2
          rw [hit] at hss
          have HSS := kept hss
          have HBA : Hid (∀ o, Below wr.heap.size wr (wx.alloc o)) := kept (fun o => HX.out.alloc HX.out.size o)
          obtain ⟨ka, kn, kc, page⟩ := L
          simp only at hg0 hg1 hkn hss HSS
          have hbd : n3 + n4 * 4 + sm + (sumTo kidUse J j + (5 + kn)) ≤ 72057594037927936 := by omega
          clear hrd hit hss hle
          generalize sumTo kidUse J j = sj at HSS hbd
          go_wp2
          go_roundw
          case rel => exact ⟨j + 1, by omega, by go_num, by rw [HSS.out]; go_num, HBA.out _⟩
          case measure => simp [intOf]; omega
        · obtain rfl : j = n2 := by omega
          have HSE2 := kept HE2.out
          generalize sumTo kidUse J j = sj at HSE2
          go_wp2
          go_ret
          exact ⟨ret_num (by rw [HU.out, HSE2.out]), below_to HX.out (below_to HW.out HB0.out)⟩
theorem rightThings_any (l : Lay) (P : Pg) (w : World) (h : RdPg w l P) :
    Calls Tryz.prog 135 #[l.val] w fun e w' => e = .returned (.bool (thingsB P)) ∧ Below w.heap.size w w' := by
  have HI := fun {X : World} (hb : Below w.heap.size w X) => kept (inOrderI_any l.a1 l.n1 l.c1 P.items X (h.items.below hb) h.b1)
  have HK := fun {X : World} (hb : Below w.heap.size w X) => kept (inOrderK_any l.a2 l.n2 l.c2 P.kids X (h.kids.below hb) h.b2)
  have HN := fun {X : World} (hb : Below w.heap.size w X) => kept (inOrderN_any l.a4 l.n4 l.c4 P.ids X (h.ids.below hb) h.b4)
  have HT : Hid (thingsB P = (ordU itemOk cmpI P.items l.n1 && ordU kidOk cmpK P.kids l.n2 && ordU isPg cmpN P.ids l.n4)) := by show _ = _; rw [← h.n1, ← h.n2, ← h.n4]; rfl
  generalize thingsB P = o at HT
  generalize ordU itemOk cmpI P.items l.n1 = x1 at HT HI
  generalize ordU kidOk cmpK P.kids l.n2 = x2 at HT HK
  generalize ordU isPg cmpN P.ids l.n4 = x3 at HT HN
  clear h
  obtain ⟨kind, txn, next, a1, n1, c1, a2, n2, c2, a3, n3, c3, a4, n4, c4⟩ := l
  have hb0 : Below w.heap.size w (w.alloc (.cells #[.int .i64 kind, .int .u64 txn, .int .i64 next, .slice a1 n1 c1, .slice a2 n2 c2, .slice a3 n3 c3, .slice a4 n4 c4] 64)) := (Below.refl _ _).alloc (Nat.le_refl _) _
  have HC4 : Hid ((w.alloc (.cells #[.int .i64 kind, .int .u64 txn, .int .i64 next, .slice a1 n1 c1, .slice a2 n2 c2, .slice a3 n3 c3, .slice a4 n4 c4] 64)).cell? ⟨w.heap.size, 4, none⟩ = some (.slice a2 n2 c2) ∧ (w.alloc (.cells #[.int .i64 kind, .int .u64 txn, .int .i64 next, .slice a1 n1 c1, .slice a2 n2 c2, .slice a3 n3 c3, .slice a4 n4 c4] 64)).cell? ⟨w.heap.size, 6, none⟩ = some (.slice a4 n4 c4)) := kept ⟨by rw [cell_of_row _ w.heap.size 4 _ _ _ (heap_alloc_new w _)]; rfl, by rw [cell_of_row _ w.heap.size 6 _ _ _ (heap_alloc_new w _)]; rfl⟩
  simp only at HI HK HN
  cases x1
  · go_enter Tryz.func135, Tryz.ntmps135
    go_wp2_with (first | (go_at_call 171; (with_reducible refine ((HI hb0).out).mono ?_); rintro e w1 ⟨rfl, hb1⟩; have HB1 := kept (below_to hb1 hb0); clear hb1))
    go_ret
    exact ⟨ret_bool (by rw [HT.out]; rfl), HB1.out⟩
  · cases x2
    · go_enter Tryz.func135, Tryz.ntmps135
      go_wp2_with (first | (go_at_call 171; (with_reducible refine ((HI hb0).out).mono ?_); rintro e w1 ⟨rfl, hb1⟩; have hc1 := cell_below hb1 HC4.out.1; have hB1 := below_to hb1 hb0; clear hb1) | (go_at_call 175; (with_reducible refine ((HK hB1).out).mono ?_); rintro e w2 ⟨rfl, hb2⟩; have HB2 := kept (below_to hb2 hB1); clear hb2))
      go_ret
      exact ⟨ret_bool (by rw [HT.out]; rfl), HB2.out⟩
    · go_enter Tryz.func135, Tryz.ntmps135
      go_wp2_with (first | (go_at_call 171; (with_reducible refine ((HI hb0).out).mono ?_); rintro e w1 ⟨rfl, hb1⟩; have hc1 := cell_below hb1 HC4.out.1; have hc2 := cell_below hb1 HC4.out.2; have hB1 := below_to hb1 hb0; clear hb1) | (go_at_call 175; (with_reducible refine ((HK hB1).out).mono ?_); rintro e w2 ⟨rfl, hb2⟩; have hc3 := cell_below hb2 hc2; have hB2 := below_to hb2 hB1; clear hb2) | (go_at_call 178; (with_reducible refine ((HN hB2).out).mono ?_); rintro e w3 ⟨rfl, rfl⟩))
      go_ret
      exact ⟨ret_bool (by rw [HT.out]; cases x3 <;> rfl), hB2⟩

/-! ### Right -/
theorem ordU_all {α : Type} {ok : α → Bool} {cmp : α → α → Int} {I : List α} (h : ordU ok cmp I I.length = true) : ∀ x ∈ I, ok x = true := by
  intro x hx
  obtain ⟨i, hi, rfl⟩ := List.getElem_of_mem hx
  unfold ordU at h
  rw [List.all_eq_true] at h
  have := h i (by simpa using hi)
  rw [List.getElem?_eq_getElem hi] at this
  simp only [Bool.and_eq_true] at this
  exact this.1
theorem sum_le_mul {α : Type} {f : α → Nat} {m : Nat} : ∀ {I : List α}, (∀ x ∈ I, f x ≤ m) → (I.map f).sum ≤ m * I.length
  | [], _ => by simp
  | x :: r, h => by
    have h1 := h x (by simp)
    have h2 := sum_le_mul (f := f) (m := m) (I := r) (fun y hy => h y (by simp [hy]))
    simp only [List.map_cons, List.sum_cons, List.length_cons, Nat.mul_add]
    omega
theorem itemUse_le {x : Itm} (h : itemOk x = true) : itemUse x ≤ 99 := by
  unfold itemOk at h
  unfold itemUse
  simp only [Bool.and_eq_true, decide_eq_true_eq] at h
  obtain ⟨⟨⟨h1, h2⟩, h3⟩, h4⟩ := h
  split
  · rename_i hs
    rw [if_pos hs] at h4
    simp only [Bool.and_eq_true, decide_eq_true_eq] at h4
    omega
  · omega
theorem kidUse_le {x : Kd} (h : kidOk x = true) : kidUse x ≤ 37 := by
  unfold kidOk at h
  unfold kidUse
  simp only [Bool.and_eq_true, decide_eq_true_eq] at h
  omega
theorem things_used {P : Pg} (h : thingsB P = true) : usedN P ≤ P.data.length + P.ids.length * 4 + 99 * P.items.length + 37 * P.kids.length := by
  unfold thingsB at h
  simp only [Bool.and_eq_true] at h
  have h1 := sum_le_mul (f := itemUse) (fun x hx => itemUse_le (ordU_all h.1.1 x hx))
  have h2 := sum_le_mul (f := kidUse) (fun x hx => kidUse_le (ordU_all h.1.2 x hx))
  unfold usedN
  omega
theorem nextB_eq {w : World} {l : Lay} {P : Pg} (h : RdPg w l P) : (decide (l.next = 0) || (decide (l.kind ≠ 1) && decide (l.kind ≠ 2) && isPg l.next)) = nextB P := by
  unfold nextB
  rw [h.kind, h.next]
set_option maxRecDepth 100000 in
theorem right_any (l : Lay) (P : Pg) (w : World) (h : RdPg w l P) :
    Calls Tryz.prog 95 #[l.val] w fun e w' => e = .returned (.bool (rightB P)) ∧ Below w.heap.size w w' := by
  have H1 := fun X => kept (hasItsOwn_any l X h.b1 h.b2 h.b3 h.b4)
  have H2 := fun X => kept (rightNext_any l X _ (nextB_eq h))
  have H3 := fun {X : World} (hb : Below w.heap.size w X) => kept (rightThings_any l P X (h.below hb))
  have H4 := fun {X : World} (hb : Below w.heap.size w X) (hT : thingsB P = true) => kept (used_any l P X (h.below hb) (by have := things_used hT; rw [h.n1, h.n2, h.n3, h.n4] at this; have h1 := h.b1; have h2 := h.b2; have h3 := h.b3; have h4 := h.b4; omega))
  have HU : Hid (thingsB P = true → usedN P ≤ 72057594037927936) := kept (fun hT => by have := things_used hT; rw [h.n1, h.n2, h.n3, h.n4] at this; have h1 := h.b1; have h2 := h.b2; have h3 := h.b3; have h4 := h.b4; omega)
  rw [ownL_eq h] at H1
  have HR : Hid (rightB P = (ownB P && nextB P && thingsB P && decide (usedN P ≤ 237))) := rfl
  generalize rightB P = o at HR
  generalize ownB P = x1 at HR H1
  generalize nextB P = x2 at HR H2
  generalize thingsB P = x3 at HR H3 H4 HU
  generalize usedN P = u at HR H4 HU
  clear h
  obtain ⟨kind, txn, next, a1, n1, c1, a2, n2, c2, a3, n3, c3, a4, n4, c4⟩ := l
  have hb0 : Below w.heap.size w (w.alloc (.cells #[.int .i64 kind, .int .u64 txn, .int .i64 next, .slice a1 n1 c1, .slice a2 n2 c2, .slice a3 n3 c3, .slice a4 n4 c4] 64)) := (Below.refl _ _).alloc (Nat.le_refl _) _
  have HS : Hid (∀ {X : World}, Below (w.alloc (.cells #[.int .i64 kind, .int .u64 txn, .int .i64 next, .slice a1 n1 c1, .slice a2 n2 c2, .slice a3 n3 c3, .slice a4 n4 c4] 64)).heap.size (w.alloc (.cells #[.int .i64 kind, .int .u64 txn, .int .i64 next, .slice a1 n1 c1, .slice a2 n2 c2, .slice a3 n3 c3, .slice a4 n4 c4] 64)) X → Sev X w.heap.size kind txn next a1 n1 c1 a2 n2 c2 a3 n3 c3 a4 n4 c4) := kept (sev_box w kind txn next a1 n1 c1 a2 n2 c2 a3 n3 c3 a4 n4 c4)
  cases x1
  · go_enter Tryz.func95, Tryz.ntmps95
    go_wp2_with (first | (go_at_call 133; (with_reducible refine ((H1 _).out).mono ?_); rintro e w1 ⟨rfl, hb1⟩; have HB1 := kept (below_to hb1 hb0); clear hb1))
    go_ret
    exact ⟨ret_bool (by rw [HR.out]; rfl), HB1.out⟩
  cases x2
  · go_enter Tryz.func95, Tryz.ntmps95
    go_wp2_with (first | (go_at_call 133; (with_reducible refine ((H1 _).out).mono ?_); rintro e w1 ⟨rfl, hb1⟩; have hq1 := hb1; obtain ⟨z0, z1, z2, z3, z4, z5, z6⟩ := HS.out hq1; have HB1 := kept (below_to hb1 hb0); clear hb1) | (go_at_call 134; (with_reducible refine ((H2 _).out).mono ?_); rintro e w2 ⟨rfl, hb2⟩; have HB2 := kept (below_to hb2 HB1.out); clear hb2))
    go_ret
    exact ⟨ret_bool (by rw [HR.out]; rfl), HB2.out⟩
  cases x3
  · go_enter Tryz.func95, Tryz.ntmps95
    go_wp2_with (first | (go_at_call 133; (with_reducible refine ((H1 _).out).mono ?_); rintro e w1 ⟨rfl, hb1⟩; have hq1 := hb1; obtain ⟨z0, z1, z2, z3, z4, z5, z6⟩ := HS.out hq1; clear hb1) | (go_at_call 134; (with_reducible refine ((H2 _).out).mono ?_); rintro e w2 ⟨rfl, hb2⟩; have hq2 := below_to hb2 hq1; obtain ⟨y0, y1, y2, y3, y4, y5, y6⟩ := HS.out hq2; have hr2 := below_to hq2 hb0; clear hb2) | (go_at_call 135; (with_reducible refine ((H3 hr2).out).mono ?_); rintro e w3 ⟨rfl, hb3⟩; have HB3 := kept (below_to hb3 hr2); clear hb3))
    go_ret
    exact ⟨ret_bool (by rw [HR.out]; rfl), HB3.out⟩
  · have hub := HU.out rfl
    have H5 := fun {X : World} (hb : Below w.heap.size w X) => H4 hb rfl
    clear H4
    go_enter Tryz.func95, Tryz.ntmps95
    go_wp2_with (first | (go_at_call 133; (with_reducible refine ((H1 _).out).mono ?_); rintro e w1 ⟨rfl, hb1⟩; have hq1 := hb1; obtain ⟨z0, z1, z2, z3, z4, z5, z6⟩ := HS.out hq1; clear hb1) | (go_at_call 134; (with_reducible refine ((H2 _).out).mono ?_); rintro e w2 ⟨rfl, hb2⟩; have hq2 := below_to hb2 hq1; obtain ⟨y0, y1, y2, y3, y4, y5, y6⟩ := HS.out hq2; have hr2 := below_to hq2 hb0; clear hb2) | (go_at_call 135; (with_reducible refine ((H3 hr2).out).mono ?_); rintro e w3 ⟨rfl, hb3⟩; have hq3 := below_to hb3 hq2; obtain ⟨v0, v1, v2, v3, v4, v5, v6⟩ := HS.out hq3; have hr3 := below_to hq3 hb0; clear hb3) | (go_at_call 136; (with_reducible refine ((H5 hr3).out).mono ?_); rintro e w4 ⟨rfl, hb4⟩; have HB4 := kept (below_to hb4 hr3); clear hb4))
    all_goals
      go_ret
      exact ⟨ret_bool (by rw [HR.out]; rw [Bool.eq_iff_iff]; simp <;> omega), HB4.out⟩
end Go.Proofs.YtdjcahhofonclaaGreatDoor
end
