/- Ph Po Pi Pu Rg Rs Fr Ma -/
import Derived.Test.YtblbhhijddcbeaaGreatDoorBPg
import Derived.Deep.RegionHeld3
import Derived.Deep.DrawnRows
import Derived.Test.YtblbhhijddcbeaaGreatDoorBHnd
import Derived.Test.YtblbhhijddcbeaaGreatDoorBReader2
section
namespace Go.Proofs.YtblbhhijddcbeaaGreatDoor
open Go.ChangeShapes Go.WideShapes Go.ChangeAt Go.RowKit
set_option linter.unusedVariables false
set_option linter.unusedSimpArgs false
set_option maxRecDepth 100000
set_option maxHeartbeats 16000000
def ownL (l : Lay) : Bool := decide (1 ≤ l.kind) && decide (l.kind ≤ 4) &&
 (decide (l.kind = 1) || decide (l.n1 = 0)) && (decide (l.kind = 2) || decide (l.n2 = 0)) && (decide (l.kind = 3) || decide (l.n3 = 0)) && (decide (l.kind = 4) || decide (l.n4 = 0)) &&
 (decide (l.kind = 4) || decide (0 < l.n1 + l.n2 + l.n3 + l.n4))
theorem ownL_eq {w : World} {l : Lay} {P : Pg} (h : RdPg w l P) : ownL l = ownB P := by
 unfold ownL ownB; rw [h.kind, h.n1, h.n2, h.n3, h.n4]
theorem ixk (l : Lay) (k : Nat) (hk : k < 5) (w : World) : (Instr.index 240 (.agg #[.int .i64 0, .int .i64 l.n1, .int .i64 l.n2, .int .i64 l.n3, .int .i64 l.n4]) (.int .i64 (k : Int))).run Tryz.prog w = .ok (.int .i64 (cnt l k : Int)) w := by
 match k, hk with
 | 0, _ => exact ix0 _ _ _ _ _ w
 | 1, _ => exact ix1 _ _ _ _ _ w
 | 2, _ => exact ix2 _ _ _ _ _ w
 | 3, _ => exact ix3 _ _ _ _ _ w
 | 4, _ => exact ix4 _ _ _ _ _ w
theorem own_not {l : Lay} {kd k : Nat} (hk : l.kind = (kd : Int)) (hne : k ≠ kd) (h5 : k < 5) (h : cnt l k ≠ 0) : ownL l = false := by
 unfold ownL; rw [hk, Bool.eq_false_iff]
 match k, h5 with
 | 0, _ => exact absurd rfl h
 | 1, _ => have h : l.n1 ≠ 0 := h; simp; omega
 | 2, _ => have h : l.n2 ≠ 0 := h; simp; omega
 | 3, _ => have h : l.n3 ≠ 0 := h; simp; omega
 | 4, _ => have h : l.n4 ≠ 0 := h; simp; omega
theorem own_if {l : Lay} {kd : Nat} (hk : l.kind = (kd : Int)) (h1 : 1 ≤ kd) (h4 : kd ≤ 4) (h : ∀ j, j < 5 → j ≠ kd → cnt l j = 0) : ownL l = (decide (kd = 4) || decide (0 < cnt l kd)) := by
 have g1 := h 1 (by omega); have g2 := h 2 (by omega); have g3 := h 3 (by omega); have g4 := h 4 (by omega); simp only [cnt] at g1 g2 g3 g4; unfold ownL; rw [hk, Bool.eq_iff_iff]; have : kd = 1 ∨ kd = 2 ∨ kd = 3 ∨ kd = 4 := by omega
 rcases this with rfl | rfl | rfl | rfl <;> simp [cnt] <;> omega
theorem cnt_le {l : Lay} (k : Nat) (h1 : l.n1 ≤ 140737488355328) (h2 : l.n2 ≤ 140737488355328) (h3 : l.n3 ≤ 140737488355328) (h4 : l.n4 ≤ 140737488355328) : cnt l k ≤ 140737488355328 := by
 unfold cnt
 split <;> omega
abbrev Sev (W : World) (b : Nat) (kind txn next : Int) (a1 : Option Addr) (n1 c1 : Nat) (a2 : Option Addr) (n2 c2 : Nat) (a3 : Option Addr) (n3 c3 : Nat) (a4 : Option Addr) (n4 c4 : Nat) : Prop :=
 W.cell? ⟨b, 0, none⟩ = some (.int .i64 kind) ∧ W.cell? ⟨b, 1, none⟩ = some (.int .u64 txn) ∧ W.cell? ⟨b, 2, none⟩ = some (.int .i64 next) ∧ W.cell? ⟨b, 3, none⟩ = some (.slice a1 n1 c1) ∧ W.cell? ⟨b, 4, none⟩ = some (.slice a2 n2 c2) ∧ W.cell? ⟨b, 5, none⟩ = some (.slice a3 n3 c3) ∧ W.cell? ⟨b, 6, none⟩ = some (.slice a4 n4 c4)
theorem sev_box (w : World) (kind txn next : Int) (a1 : Option Addr) (n1 c1 : Nat) (a2 : Option Addr) (n2 c2 : Nat) (a3 : Option Addr) (n3 c3 : Nat) (a4 : Option Addr) (n4 c4 : Nat) {X : World} (t : TypeId := 137)
 (hX : Below (w.alloc (.cells #[.int .i64 kind, .int .u64 txn, .int .i64 next, .slice a1 n1 c1, .slice a2 n2 c2, .slice a3 n3 c3, .slice a4 n4 c4] t)).heap.size (w.alloc (.cells #[.int .i64 kind, .int .u64 txn, .int .i64 next, .slice a1 n1 c1, .slice a2 n2 c2, .slice a3 n3 c3, .slice a4 n4 c4] t)) X) : Sev X w.heap.size kind txn next a1 n1 c1 a2 n2 c2 a3 n3 c3 a4 n4 c4 := by
 have key : ∀ (i : Nat) (v : Value), #[Value.int .i64 kind, .int .u64 txn, .int .i64 next, .slice a1 n1 c1, .slice a2 n2 c2, .slice a3 n3 c3, .slice a4 n4 c4][i]? = some v → X.cell? ⟨w.heap.size, i, none⟩ = some v := fun i v hv => (hX.cell (p := ⟨w.heap.size, i, none⟩) (by simp)).trans (by rw [cell_of_row _ w.heap.size i _ _ _ (heap_alloc_new w _)]; exact hv)
 exact ⟨key 0 _ rfl, key 1 _ rfl, key 2 _ rfl, key 3 _ rfl, key 4 _ rfl, key 5 _ rfl, key 6 _ rfl⟩
theorem below_of_drew1 {w w' : World} (h : Below w.drew.heap.size w.drew w') : Below w.heap.size w w' := ⟨h.os, h.tape, h.output, h.size, h.block⟩
theorem hasItsOwn_any (l : Lay) (w : World) (h1 : l.n1 ≤ 140737488355328) (h2 : l.n2 ≤ 140737488355328) (h3 : l.n3 ≤ 140737488355328) (h4 : l.n4 ≤ 140737488355328) :
 Calls Tryz.prog 175 #[l.val] w fun e w' => e = .returned (.bool (ownL l)) ∧ Below w.heap.size w w' := by
 by_cases hlo : l.kind < 1
 · have HO : Hid (ownL l = false) := by show _ = _; unfold ownL; rw [Bool.eq_false_iff]; simp; omega
   obtain ⟨kind, txn, next, a1, n1, c1, a2, n2, c2, a3, n3, c3, a4, n4, c4⟩ := l; simp only at hlo; go_enter Tryz.func175, Tryz.ntmps175; go_wp2; go_ret; exact ⟨ret_bool HO.out.symm, (Below.refl _ _).alloc (Nat.le_refl _) _⟩
 by_cases hhi : 4 < l.kind
 · have HO : Hid (ownL l = false) := by show _ = _; unfold ownL; rw [Bool.eq_false_iff]; simp; omega
   obtain ⟨kind, txn, next, a1, n1, c1, a2, n2, c2, a3, n3, c3, a4, n4, c4⟩ := l; simp only at hlo hhi; go_enter Tryz.func175, Tryz.ntmps175; go_wp2; go_ret; exact ⟨ret_bool HO.out.symm, (Below.refl _ _).alloc (Nat.le_refl _) _⟩
 obtain ⟨kd, hkd⟩ : ∃ kd : Nat, l.kind = (kd : Int) := ⟨l.kind.toNat, by omega⟩
 have hk1 : 1 ≤ kd := by omega
 have hk4 : kd ≤ 4 := by omega
 have HIX := kept (fun k hk w => ixk l k hk w); have HNOT := kept (fun k (hne : k ≠ kd) (h5 : k < 5) h => own_not (l := l) hkd hne h5 h); have HIF := kept (fun h => own_if (l := l) hkd hk1 hk4 h); have HCL := kept (fun k => cnt_le (l := l) k h1 h2 h3 h4); have HCN := kept (fun w => counts_any l w); generalize ownL l = o at HNOT HIF; generalize cnt l = ct at HIX HNOT HIF HCL; obtain ⟨kind, txn, next, a1, n1, c1, a2, n2, c2, a3, n3, c3, a4, n4, c4⟩ := l; simp only at hkd hlo hhi h1 h2 h3 h4; subst hkd; clear hlo hhi; go_enter Tryz.func175, Tryz.ntmps175; go_wp2_with (first | (go_at_call 130; (with_reducible refine ((HCN.out _)).mono ?_); rintro e w1 ⟨rfl, hb1⟩; have HB1 := kept hb1; clear hb1))
 have HB0 : Hid (Below w.heap.size w w1) := kept (((Below.refl _ w).alloc (Nat.le_refl _) _).trans (HB1.out.mono (by simp))); have hcell : w1.cell? ⟨w.heap.size, 0, none⟩ = some (.int .i64 (kd : Int)) := (HB1.out.cell (p := ⟨w.heap.size, 0, none⟩) (by simp)).trans (by rw [cell_of_row _ w.heap.size 0 _ _ _ (heap_alloc_new w _)]; rfl); have hc1 : w1.cell? ⟨w.heap.size, 1, none⟩ = some (.int .u64 txn) := (HB1.out.cell (p := ⟨w.heap.size, 1, none⟩) (by simp)).trans (by rw [cell_of_row _ w.heap.size 1 _ _ _ (heap_alloc_new w _)]; rfl); have hc2 : w1.cell? ⟨w.heap.size, 2, none⟩ = some (.int .i64 next) := (HB1.out.cell (p := ⟨w.heap.size, 2, none⟩) (by simp)).trans (by rw [cell_of_row _ w.heap.size 2 _ _ _ (heap_alloc_new w _)]; rfl); have hc3 : w1.cell? ⟨w.heap.size, 3, none⟩ = some (.slice a1 n1 c1) := (HB1.out.cell (p := ⟨w.heap.size, 3, none⟩) (by simp)).trans (by rw [cell_of_row _ w.heap.size 3 _ _ _ (heap_alloc_new w _)]; rfl); have hc4 : w1.cell? ⟨w.heap.size, 4, none⟩ = some (.slice a2 n2 c2) := (HB1.out.cell (p := ⟨w.heap.size, 4, none⟩) (by simp)).trans (by rw [cell_of_row _ w.heap.size 4 _ _ _ (heap_alloc_new w _)]; rfl); have hc5 : w1.cell? ⟨w.heap.size, 5, none⟩ = some (.slice a3 n3 c3) := (HB1.out.cell (p := ⟨w.heap.size, 5, none⟩) (by simp)).trans (by rw [cell_of_row _ w.heap.size 5 _ _ _ (heap_alloc_new w _)]; rfl); have hc6 : w1.cell? ⟨w.heap.size, 6, none⟩ = some (.slice a4 n4 c4) := (HB1.out.cell (p := ⟨w.heap.size, 6, none⟩) (by simp)).trans (by rw [cell_of_row _ w.heap.size 6 _ _ _ (heap_alloc_new w _)]; rfl); go_loop [15] (fun i => ∃ k : Nat, k ≤ 5 ∧ i = .int .i64 k ∧ Hid (∀ j, j < k → j ≠ kd → ct j = 0)) (fun i => 5 - (intOf i).toNat)
 case atStart => exact ⟨0, by omega, rfl, fun j hj => absurd hj (by omega)⟩
 case round =>
  obtain ⟨k, hk, rfl, HALL⟩ := hrel; by_cases hlt : k < 5
  · have hix := HIX.out k hlt; have hcl := HCL.out k; by_cases he : k = kd
    · have heq : ((k : Int) != (kd : Int)) = false := by simp; omega
      have HE := kept he; clear he; go_wp2; go_round
      case rel => exact ⟨k + 1, by omega, by go_num, fun j hj hne => HALL.out j (by have := HE.out; omega) hne⟩
      case measure => simp [intOf]; omega
    · have heq : ((k : Int) != (kd : Int)) = true := by simp; omega
      have HNE := kept he; clear he; by_cases hz : ct k = 0
      · have HZ := kept hz; rw [hz] at hix; clear hz; go_wp2; go_round
        case rel =>
         refine ⟨k + 1, by omega, by go_num, fun j hj hne => ?_⟩; rcases Nat.lt_succ_iff_lt_or_eq.1 hj with h | h
         · exact HALL.out j h hne
         · subst h; exact HZ.out
        case measure => simp [intOf]; omega
      · have HO := kept (HNOT.out k HNE.out hlt hz); have hpos : 0 < ct k := by omega
        go_wp2; go_ret; exact ⟨ret_bool HO.out.symm, HB0.out⟩
  · obtain rfl : k = 5 := by omega
    have HO := kept (HIF.out (fun j hj hne => HALL.out j hj hne)); have hcl := HCL.out kd; have hix := HIX.out kd (by omega); by_cases h4 : kd = 4
    · have hg : ((kd : Int) == 4) = true := by simp; omega
      have HE : Hid (o = true) := by show _ = _; rw [HO.out]; simp [h4]
      clear h4; go_wp2
      go_quiet (fail)
      go_wp2; go_ret; exact ⟨ret_bool HE.out.symm, drewN_below HB0.out _⟩
    · have hg : ((kd : Int) == 4) = false := by simp; omega
      have HE : Hid (o = decide (0 < ct kd)) := by show _ = _; rw [HO.out]; simp [h4]
      have HS : Hid (∀ W, Below w1.heap.size w1 W → Sev W w.heap.size kd txn next a1 n1 c1 a2 n2 c2 a3 n3 c3 a4 n4 c4) := kept (fun W hW => ⟨cell_below hW hcell, cell_below hW hc1, cell_below hW hc2, cell_below hW hc3, cell_below hW hc4, cell_below hW hc5, cell_below hW hc6⟩); have HB00 : Hid (Below w1.heap.size w1 w1) := kept (Below.refl _ _); clear h4; go_wp2
      go_region_held3 (fun W' => Sev W' w.heap.size kd txn next a1 n1 c1 a2 n2 c2 a3 n3 c3 a4 n4 c4) ((first | exact ⟨hcell, hc1, hc2, hc3, hc4, hc5, hc6⟩ | exact ⟨n0, n1', n2', n3', n4', n5', n6'⟩)) (first | (go_at_call 130; (with_reducible refine (HCN.out _).mono ?_); rintro e w2 ⟨rfl, hb2⟩; have HB2 : Hid (Below w1.heap.size w1 w2) := kept (below_of_drew1 hb2); obtain ⟨n0, n1', n2', n3', n4', n5', n6'⟩ := HS.out _ HB2.out; clear hb2))
      go_wp2; go_ret; exact ⟨ret_bool (by rw [HE.out]), HB0.out.trans (HB2.out.mono HB0.out.size)⟩
section
variable {α : Type} {ok : α → Bool} {cmp : α → α → Int} {I : List α}
theorem ordU_zero : ordU ok cmp I 0 = true := by simp [ordU]
def aboveB (cmp : α → α → Int) (I : List α) (k : Nat) (x : α) : Bool := k == 0 || match I[k - 1]? with | none => true | some y => decide (cmp y x < 0)
theorem aboveB_succ {k : Nat} (hk : k < I.length) (x : α) : aboveB cmp I (k + 1) x = decide (cmp I[k] x < 0) := by
 unfold aboveB; rw [Nat.add_sub_cancel, List.getElem?_eq_getElem hk]; rfl
theorem ordU_succ {k : Nat} (hk : k < I.length) : ordU ok cmp I (k + 1) = (ordU ok cmp I k && (ok I[k] && aboveB cmp I k I[k])) := by
 unfold ordU; rw [List.range_succ, List.all_append]; simp only [List.all_cons, List.all_nil, Bool.and_true]; rw [List.getElem?_eq_getElem hk]; rfl
theorem ordU_false {k n : Nat} (h : ordU ok cmp I k = false) (hn : k ≤ n) : ordU ok cmp I n = false := by
 unfold ordU at *; rw [List.all_eq_false] at *; obtain ⟨x, hx, h⟩ := h; exact ⟨x, by simp at *; omega, h⟩
theorem ordU_bad {k n : Nat} (hk : k < I.length) (hn : k < n) (h : ok I[k] = false) : ordU ok cmp I n = false :=
 ordU_false (k := k + 1) (by rw [ordU_succ hk, h]; simp) hn
theorem ordU_first (hk : 0 < I.length) (h : ok I[0] = true) : ordU ok cmp I 1 = true := by
 rw [ordU_succ (k := 0) hk, ordU_zero, h]; rfl
theorem ordU_back {k n : Nat} (hk : k + 1 < I.length) (hn : k + 1 < n) (h : 0 ≤ cmp I[k] I[k + 1]) : ordU ok cmp I n = false :=
 ordU_false (k := k + 1 + 1) (by
  rw [ordU_succ hk, aboveB_succ (by omega), decide_eq_false (by omega)]
  simp) hn
theorem ordU_next {k : Nat} (hk : k + 1 < I.length) (h0 : ordU ok cmp I (k + 1) = true) (h1 : ok I[k + 1] = true) (h2 : cmp I[k] I[k + 1] < 0) : ordU ok cmp I (k + 1 + 1) = true := by
 rw [ordU_succ hk, h0, h1, aboveB_succ (by omega), decide_eq_true h2]; rfl
end
theorem inOrderN_any (A : Option Addr) (n c : Nat) (I : List Int) (w : World) (h : RdNums w A n I) (hn : n ≤ 140737488355328) :
 Calls Tryz.prog 222 #[.slice A n c, .func (.func 214) #[] #[], .func (.func 223) #[] #[]] w fun e w' => e = .returned (.bool (ordU isPg cmpN I n)) ∧ w = w' := by
 have HR := kept h; have HL := kept h.1; clear h; go_enter Tryz.func222, Tryz.ntmps222; go_wp2; go_loop [11] (fun i => ∃ k : Nat, k ≤ n ∧ i = .int .i64 k ∧ Hid (ordU isPg cmpN I k = true)) (fun i => n - (intOf i).toNat)
 case atStart => exact ⟨0, by omega, rfl, ordU_zero⟩
 case round =>
  obtain ⟨k, hk, rfl, HU⟩ := hrel; by_cases hlt : k < n
  · obtain ⟨b, o, rfl, hc⟩ := HR.out.at_ hlt; have hki : k < I.length := by rw [HL.out]; exact hlt
    cases hok : isPg (I[k]'hki) with
    | false =>
      have HO : Hid (ordU isPg cmpN I n = false) := kept (ordU_bad hki hlt hok); have HP := fun w => kept (isPage_any (I[k]'hki) w false hok)
      clear hok; generalize I[k]'hki = x at hc HP; go_wp2_with (first | (go_at_call 214; (with_reducible refine ((HP _).out).mono ?_); rintro e w' ⟨rfl, rfl⟩))
      go_ret; exact ⟨ret_bool HO.out.symm, rfl⟩
    | true =>
      cases k with
      | zero =>
        have HO : Hid (ordU isPg cmpN I 1 = true) := kept (ordU_first hki hok); have HP := fun w => kept (isPage_any (I[0]'hki) w true hok)
        clear hok; generalize I[0]'hki = x at hc HP; rw [Nat.add_zero] at hc; go_wp2_with (first | (go_at_call 214; (with_reducible refine ((HP _).out).mono ?_); rintro e w' ⟨rfl, rfl⟩))
        go_round
        case rel => exact ⟨1, by omega, by go_num, HO⟩
        case measure => simp [intOf]; omega
      | succ k =>
        have hc0 := HR.out.2.2 b o rfl k (by omega); have HP := fun w => kept (isPage_any (I[k + 1]'hki) w true hok)
        have HCM := fun w => kept (cmpInt_any (I[k]'(by omega)) (I[k + 1]'hki) w)
        have hi1 : (0 : Int) ≤ (k : Int) + 1 - 1 := by omega
        by_cases hcm : cmpN (I[k]'(by omega)) (I[k + 1]'hki) < 0
        · have HO : Hid (ordU isPg cmpN I (k + 1 + 1) = true) := kept (ordU_next hki HU.out hok hcm); clear hok; generalize cmpN (I[k]'(by omega)) (I[k + 1]'hki) = m at hcm HCM; generalize I[k + 1]'hki = x at hc HP HCM; generalize I[k]'(by omega) = y at hc0 HCM; have hd : decide (0 ≤ m) = false := by simp; omega
          go_wp2_with (first | (go_at_call 214; (with_reducible refine ((HP _).out).mono ?_); rintro e w' ⟨rfl, rfl⟩) | (go_at_call 223; (with_reducible refine ((HCM _).out).mono ?_); rintro e w' ⟨rfl, rfl⟩))
          go_round
          case rel => exact ⟨k + 1 + 1, by omega, by go_num, HO⟩
          case measure => simp [intOf]; omega
        · have HO : Hid (ordU isPg cmpN I n = false) := kept (ordU_back hki hlt (by omega)); clear hok; generalize cmpN (I[k]'(by omega)) (I[k + 1]'hki) = m at hcm HCM; generalize I[k + 1]'hki = x at hc HP HCM; generalize I[k]'(by omega) = y at hc0 HCM; have hd : decide (0 ≤ m) = true := by simp; omega
          go_wp2_with (first | (go_at_call 214; (with_reducible refine ((HP _).out).mono ?_); rintro e w' ⟨rfl, rfl⟩) | (go_at_call 223; (with_reducible refine ((HCM _).out).mono ?_); rintro e w' ⟨rfl, rfl⟩))
          go_ret; exact ⟨ret_bool HO.out.symm, rfl⟩
  · obtain rfl : k = n := by omega
    go_wp2; go_ret; exact ⟨ret_bool HU.out.symm, rfl⟩
theorem cmpItem_any (L M : LayI) (x y : List UInt8) (w : World) (hx : Rd w L.ka L.kn x) (hy : Rd w M.ka M.kn y) (m : Int) (hm : ordB x y = m) :
 Calls Tryz.prog 217 #[L.val, M.val] w fun e w' => e = .returned (.int .i64 m) ∧ Below w.heap.size w w' := by
 obtain ⟨ka, kn, kc, va, vn, vc, size, more⟩ := L; obtain ⟨ka', kn', kc', va', vn', vc', size', more'⟩ := M; simp only at hx hy; have HX := kept hx; have HY := kept hy; have HM := kept hm; clear hx hy hm; go_enter Tryz.func217, Tryz.ntmps217; go_wp2_with (first | (go_at_call 218; (with_reducible refine (compare_any _ _ _ _ _ _ x y _ ((HX.out.alloc _).alloc _) ((HY.out.alloc _).alloc _)).mono ?_); rintro e w' ⟨rfl, rfl⟩))
 go_ret; exact ⟨ret_num HM.out, ((Below.refl _ _).alloc (Nat.le_refl _) _).alloc (by simp) _⟩
theorem cmpKid_any (L M : LayK) (x y : List UInt8) (w : World) (hx : Rd w L.ka L.kn x) (hy : Rd w M.ka M.kn y) (m : Int) (hm : ordB x y = m) :
 Calls Tryz.prog 221 #[L.val, M.val] w fun e w' => e = .returned (.int .i64 m) ∧ Below w.heap.size w w' := by
 obtain ⟨ka, kn, kc, page⟩ := L; obtain ⟨ka', kn', kc', page'⟩ := M; simp only at hx hy; have HX := kept hx; have HY := kept hy; have HM := kept hm; clear hx hy hm; go_enter Tryz.func221, Tryz.ntmps221; go_wp2_with (first | (go_at_call 218; (with_reducible refine (compare_any _ _ _ _ _ _ x y _ ((HX.out.alloc _).alloc _) ((HY.out.alloc _).alloc _)).mono ?_); rintro e w' ⟨rfl, rfl⟩))
 go_ret; exact ⟨ret_num HM.out, ((Below.refl _ _).alloc (Nat.le_refl _) _).alloc (by simp) _⟩
theorem RdKd.ok {w : World} {L : LayK} {x : Kd} (h : RdKd w L x) : (decide (L.kn ≤ 32) && isPg L.page) = kidOk x := by
 unfold kidOk; rw [h.1.1, h.2.1]
theorem RdIt.ok {w : World} {L : LayI} {x : Itm} (h : RdIt w L x) : (decide (L.kn ≤ 32) && decide (0 ≤ L.size) && decide (L.size ≤ 4096) && (if L.size ≤ 64 then decide ((L.vn : Int) = L.size) && decide (L.more = 0) else decide (L.vn = 0) && isPg L.more)) = itemOk x := by
 unfold itemOk; rw [h.1.1, h.2.1.1, h.2.2.1, h.2.2.2.1]
theorem below_to {w w1 w2 : World} (h : Below w1.heap.size w1 w2) (hb : Below w.heap.size w w1) : Below w.heap.size w w2 := hb.trans (h.mono hb.size)
theorem inOrderK_any (A : Option Addr) (n c : Nat) (I : List Kd) (w : World) (h : RdKids w A n I) (hn : n ≤ 140737488355328) :
 Calls Tryz.prog 219 #[.slice A n c, .func (.func 220) #[] #[], .func (.func 221) #[] #[]] w fun e w' => e = .returned (.bool (ordU kidOk cmpK I n)) ∧ Below w.heap.size w w' := by
 have HR := kept h; have HL := kept h.1; clear h; go_enter Tryz.func219, Tryz.ntmps219; go_wp2; go_loopw [11] (fun i wr => ∃ k : Nat, k ≤ n ∧ i = .int .i64 k ∧ Hid (ordU kidOk cmpK I k = true) ∧ Hid (Below w.heap.size w wr)) (fun i _ => n - (intOf i).toNat)
 case atStart => exact ⟨0, by omega, rfl, ordU_zero, Below.refl _ _⟩
 case round =>
  obtain ⟨k, hk, rfl, HU, HW⟩ := hrel; by_cases hlt : k < n
  · obtain ⟨b, o, L, rfl, hrd, hc0, hc1⟩ := (HR.out.below HW.out).at_ hlt; have hki : k < I.length := by rw [HL.out]; exact hlt
    have HRD := kept hrd; have HB0 : Hid (Below wr.heap.size wr (wr.alloc (.cells #[.slice L.ka L.kn L.kc, .int .i64 L.page] 131))) := kept ((Below.refl _ _).alloc (Nat.le_refl _) _); have HBW : Hid (∀ {w' : World}, Below (wr.alloc (.cells #[.slice L.ka L.kn L.kc, .int .i64 L.page] 131)).drew.heap.size (wr.alloc (.cells #[.slice L.ka L.kn L.kc, .int .i64 L.page] 131)).drew w' → Below w.heap.size w w') := kept (fun h => below_to (below_to (below_of_drew1 h) HB0.out) HW.out); have e0 : (wr.alloc (.cells #[.slice L.ka L.kn L.kc, .int .i64 L.page] 131)).cell? ⟨wr.heap.size, 0, none⟩ = some (.slice L.ka L.kn L.kc) := (by rw [cell_of_row _ wr.heap.size 0 _ _ _ (heap_alloc_new wr _)]; rfl)
    have e1 : (wr.alloc (.cells #[.slice L.ka L.kn L.kc, .int .i64 L.page] 131)).cell? ⟨wr.heap.size, 1, none⟩ = some (.int .i64 L.page) := (by rw [cell_of_row _ wr.heap.size 1 _ _ _ (heap_alloc_new wr _)]; rfl)
    have HE : Hid (∀ {w' : World}, Below (wr.alloc (.cells #[.slice L.ka L.kn L.kc, .int .i64 L.page] 131)).drew.heap.size (wr.alloc (.cells #[.slice L.ka L.kn L.kc, .int .i64 L.page] 131)).drew w' → w'.cell? ⟨wr.heap.size, 0, none⟩ = some (.slice L.ka L.kn L.kc) ∧ w'.cell? ⟨wr.heap.size, 1, none⟩ = some (.int .i64 L.page)) := kept (fun h => ⟨cell_below (below_of_drew1 h) e0, cell_below (below_of_drew1 h) e1⟩); clear hrd; cases hok : kidOk (I[k]'hki) with
    | false =>
      have HO : Hid (ordU kidOk cmpK I n = false) := kept (ordU_bad hki hlt hok); have HP := fun w => kept (rightKid_any L w false (HRD.out.ok.trans hok))
      clear hok; clear HRD; obtain ⟨ka, kn, kc, page⟩ := L; simp only at hc0 hc1 e0 e1; go_wp2; refine wp_region_held_drew (S := (fun W' => W'.cell? ⟨wr.heap.size, 0, none⟩ = some (.slice ka kn kc) ∧ W'.cell? ⟨wr.heap.size, 1, none⟩ = some (.int .i64 page))) (by kernel_rfl) ?_ (fun hHeld => ?_)
      · ((try dsimp only); (first | exact ⟨e0, e1⟩ | exact HE.out hb1))
      refine hT 0 (some 16) ?_; refine hT 1 (some 17) ?_; refine hR 2 (fun K hK => ?_); go_simp
      (go_at_call 220; (with_reducible refine (HP _).out.mono ?_); rintro e w1 ⟨rfl, hb1⟩)
      (try go_wp2_with fail); refine hK.out _ _ ?_ (fun hHeld => ?_)
      · ((try dsimp only); (first | exact ⟨e0, e1⟩ | exact HE.out hb1))
      clear hK K; (try simp only [Act.put, hA, h0, h1]); refine hT 3 (some 19) ?_; refine hT 4 (some 20) ?_; refine hU 5 (some 21) ?_; refine hU 6 (some 22) ?_; refine hU 7 (some 23) ?_; refine hU 8 (some 24) ?_; refine hU 9 (some 25) ?_; refine hU 10 (some 26) ?_; refine hU 11 (some 27) ?_; refine hU 12 (some 28) ?_; refine hU 13 (some 29) ?_; refine hU 14 (some 30) ?_; refine hU 15 (some 31) ?_; refine hU 16 (some 32) ?_; refine hU 17 (some 33) ?_; refine hT 18 (some 34) ?_; refine wpAnyH_done (by kernel_rfl) ?_ _; have HB1 := kept (HBW.out hb1); clear hb1; go_wp2; go_ret; exact ⟨ret_bool HO.out.symm, HB1.out⟩
    | true =>
      cases k with
      | zero =>
        have HO : Hid (ordU kidOk cmpK I 1 = true) := kept (ordU_first hki hok); have HP := fun w => kept (rightKid_any L w true (HRD.out.ok.trans hok))
        clear hok HRD; obtain ⟨ka, kn, kc, page⟩ := L; simp only at hc0 hc1 e0 e1; rw [Nat.zero_mul, Nat.add_zero] at hc0 hc1; go_wp2; refine wp_region_held_drew (S := (fun W' => W'.cell? ⟨wr.heap.size, 0, none⟩ = some (.slice ka kn kc) ∧ W'.cell? ⟨wr.heap.size, 1, none⟩ = some (.int .i64 page))) (by kernel_rfl) ?_ (fun hHeld => ?_)
        · ((try dsimp only); (first | exact ⟨e0, e1⟩ | exact HE.out hb1))
        refine hT 0 (some 16) ?_; refine hT 1 (some 17) ?_; refine hR 2 (fun K hK => ?_); go_simp
        (go_at_call 220; (with_reducible refine (HP _).out.mono ?_); rintro e w1 ⟨rfl, hb1⟩)
        (try go_wp2_with fail); refine hK.out _ _ ?_ (fun hHeld => ?_)
        · ((try dsimp only); (first | exact ⟨e0, e1⟩ | exact HE.out hb1))
        clear hK K; (try simp only [Act.put, hA, h0, h1]); refine hT 3 (some 19) ?_; refine hT 4 (some 20) ?_; refine hT 5 (some 21) ?_; refine hT 6 (some 22) ?_; refine hT 7 (some 23) ?_; refine hU 8 (some 24) ?_; refine hU 9 (some 25) ?_; refine hU 10 (some 26) ?_; refine hU 11 (some 27) ?_; refine hU 12 (some 28) ?_; refine hU 13 (some 29) ?_; refine hU 14 (some 30) ?_; refine hU 15 (some 31) ?_; refine hU 16 (some 32) ?_; refine hT 17 (some 33) ?_; refine hT 18 (some 34) ?_; refine wpAnyH_done (by kernel_rfl) ?_ _; have HB1 := kept (HBW.out hb1); clear hb1; go_wp2; go_roundw
        case rel => exact ⟨1, by omega, by go_num, HO, HB1⟩
        case measure => simp [intOf]; omega
      | succ k =>
        obtain ⟨b', o', M, e, hrm, g0, g1⟩ := (HR.out.below HW.out).at_ (k := k) (by omega); simp only [Option.some.injEq, Addr.mk.injEq, and_true] at e; obtain ⟨rfl, rfl⟩ := e; have HP := fun w => kept (rightKid_any L w true (HRD.out.ok.trans hok))
        have HRL : Hid (∀ {w' : World}, Below (wr.alloc (.cells #[.slice L.ka L.kn L.kc, .int .i64 L.page] 131)).drew.heap.size (wr.alloc (.cells #[.slice L.ka L.kn L.kc, .int .i64 L.page] 131)).drew w' → Rd w' L.ka L.kn (I[k + 1]'hki).key ∧ Rd w' M.ka M.kn (I[k]'(by omega)).key ∧ w'.cell? ⟨b, o + k * 2, none⟩ = some (.slice M.ka M.kn M.kc) ∧ w'.cell? ⟨b, o + k * 2 + 1, none⟩ = some (.int .i64 M.page)) := kept (fun h => by
         have hb := below_to (below_of_drew1 h) HB0.out; exact ⟨HRD.out.1.below hb, hrm.1.below hb, cell_below hb g0, cell_below hb g1⟩)
        have q0 := (HRL.out (Below.refl _ _)).2.2.1; have q1 := (HRL.out (Below.refl _ _)).2.2.2; have hcmp : ordB (I[k]'(by omega)).key (I[k + 1]'hki).key = cmpK (I[k]'(by omega)) (I[k + 1]'hki) := rfl; have HKB := kept hki; by_cases hcm : cmpK (I[k]'(by omega)) (I[k + 1]'hki) < 0
        all_goals
         first
         | have HO : Hid (ordU kidOk cmpK I (k + 1 + 1) = true) := kept (ordU_next hki HU.out hok hcm)
         | have HO : Hid (ordU kidOk cmpK I n = false) := kept (ordU_back hki hlt (by omega))
         clear hok; generalize (I[k + 1]'hki).key = x at HRL hcmp; generalize (I[k]'(by omega)).key = y at HRL hcmp; generalize cmpK (I[k]'(by omega)) (I[k + 1]'hki) = m at hcm hcmp; have HCM := fun {w' : World} h => kept (cmpKid_any M L y x w' (HRL.out h).2.1 (HRL.out h).1 m hcmp)
         clear HRD hrm; obtain ⟨ka, kn, kc, page⟩ := L; obtain ⟨ka', kn', kc', page'⟩ := M; simp only at hc0 hc1 e0 e1 g0 g1 q0 q1; have hi1 : (0 : Int) ≤ (k : Int) + 1 - 1 := by omega
         have hi2 : (k : Int) + 1 - 1 < (n : Int) := by omega
         first
         | have hd : decide (0 ≤ m) = false := by rw [decide_eq_false]; omega
         | have hd : decide (0 ≤ m) = true := by rw [decide_eq_true]; omega
         clear hcm hcmp; have hi3 : (k : Int) < (n : Int) := by omega
         have hi4 : IntKind.i64.wrap (k : Int) = (k : Int) := IntWalk.i64_in _ ⟨by omega, by omega⟩; go_wp2; refine wp_region_held_drew (S := (fun W' => (W'.cell? ⟨wr.heap.size, 0, none⟩ = some (.slice ka kn kc) ∧ W'.cell? ⟨wr.heap.size, 1, none⟩ = some (.int .i64 page)) ∧ W'.cell? ⟨b, o + k * 2, none⟩ = some (.slice ka' kn' kc') ∧ W'.cell? ⟨b, o + k * 2 + 1, none⟩ = some (.int .i64 page'))) (by kernel_rfl) ?_ (fun hHeld => ?_)
         · ((try dsimp only); (first | exact ⟨⟨e0, e1⟩, q0, q1⟩ | exact ⟨HE.out hb2, (HRL.out hb2).2.2⟩ | exact ⟨HE.out hb1, (HRL.out hb1).2.2⟩))
         refine hT 0 (some 16) ?_; refine hT 1 (some 17) ?_; refine hR 2 (fun K hK => ?_); go_simp
         (go_at_call 220; (with_reducible refine (HP _).out.mono ?_); rintro e w1 ⟨rfl, hb1⟩)
         (try go_wp2_with fail); refine hK.out _ _ ?_ (fun hHeld => ?_)
         · ((try dsimp only); (first | exact ⟨⟨e0, e1⟩, q0, q1⟩ | exact ⟨HE.out hb2, (HRL.out hb2).2.2⟩ | exact ⟨HE.out hb1, (HRL.out hb1).2.2⟩))
         clear hK K; (try simp only [Act.put, hA, h0, h1]); refine hT 3 (some 19) ?_; refine hT 4 (some 20) ?_; refine hT 5 (some 21) ?_; refine hT 6 (some 22) ?_; refine hT 7 (some 23) ?_; refine hT 8 (some 24) ?_; refine hT 9 (some 25) ?_; refine hT 10 (some 26) ?_; refine hT 11 (some 27) ?_; refine hT 12 (some 28) ?_; refine hT 13 (some 29) ?_; refine hT 14 (some 30) ?_; refine hR 15 (fun K hK => ?_); go_simp
         (go_at_call 221; (with_reducible refine (HCM hb1).out.mono ?_); rintro e w2 ⟨rfl, hb2'⟩; have hb2 := below_to hb2' hb1)
         (try go_wp2_with fail); refine hK.out _ _ ?_ (fun hHeld => ?_)
         · ((try dsimp only); (first | exact ⟨⟨e0, e1⟩, q0, q1⟩ | exact ⟨HE.out hb2, (HRL.out hb2).2.2⟩ | exact ⟨HE.out hb1, (HRL.out hb1).2.2⟩))
         clear hK K; (try simp only [Act.put, hA, h0, h1]); refine hT 16 (some 32) ?_; refine hT 17 (some 33) ?_; refine hT 18 (some 34) ?_; refine wpAnyH_done (by kernel_rfl) ?_ _; have HB2 := kept (HBW.out hb2); go_wp2; clear hi4
         first
         | (go_ret; exact ⟨ret_bool HO.out.symm, HB2.out⟩)
         | (go_roundw
            case rel => exact ⟨k + 1 + 1, by omega, by go_num, HO, HB2⟩
            case measure => simp [intOf]; omega)
  · obtain rfl : k = n := by omega
    go_wp2; go_ret; exact ⟨ret_bool HU.out.symm, HW.out⟩
theorem inOrderI_any (A : Option Addr) (n c : Nat) (I : List Itm) (w : World) (h : RdItems w A n I) (hn : n ≤ 140737488355328) :
 Calls Tryz.prog 215 #[.slice A n c, .func (.func 216) #[] #[], .func (.func 217) #[] #[]] w fun e w' => e = .returned (.bool (ordU itemOk cmpI I n)) ∧ Below w.heap.size w w' := by
 have HR := kept h; have HL := kept h.1; clear h; go_enter Tryz.func215, Tryz.ntmps215; go_wp2; go_loopw [11] (fun i wr => ∃ k : Nat, k ≤ n ∧ i = .int .i64 k ∧ Hid (ordU itemOk cmpI I k = true) ∧ Hid (Below w.heap.size w wr)) (fun i _ => n - (intOf i).toNat)
 case atStart => exact ⟨0, by omega, rfl, ordU_zero, Below.refl _ _⟩
 case round =>
  obtain ⟨k, hk, rfl, HU, HW⟩ := hrel; by_cases hlt : k < n
  · obtain ⟨b, o, L, rfl, hrd, hc0, hc1, hc2, hc3⟩ := (HR.out.below HW.out).at_ hlt; have hki : k < I.length := by rw [HL.out]; exact hlt
    have HRD := kept hrd; have HB0 : Hid (Below wr.heap.size wr (wr.alloc (.cells #[.slice L.ka L.kn L.kc, .slice L.va L.vn L.vc, .int .i64 L.size, .int .i64 L.more] 149))) := kept ((Below.refl _ _).alloc (Nat.le_refl _) _); have HBW : Hid (∀ {w' : World}, Below (wr.alloc (.cells #[.slice L.ka L.kn L.kc, .slice L.va L.vn L.vc, .int .i64 L.size, .int .i64 L.more] 149)).drew.heap.size (wr.alloc (.cells #[.slice L.ka L.kn L.kc, .slice L.va L.vn L.vc, .int .i64 L.size, .int .i64 L.more] 149)).drew w' → Below w.heap.size w w') := kept (fun h => below_to (below_to (below_of_drew1 h) HB0.out) HW.out); have e0 : (wr.alloc (.cells #[.slice L.ka L.kn L.kc, .slice L.va L.vn L.vc, .int .i64 L.size, .int .i64 L.more] 149)).cell? ⟨wr.heap.size, 0, none⟩ = some (.slice L.ka L.kn L.kc) := (by rw [cell_of_row _ wr.heap.size 0 _ _ _ (heap_alloc_new wr _)]; rfl)
    have e1 : (wr.alloc (.cells #[.slice L.ka L.kn L.kc, .slice L.va L.vn L.vc, .int .i64 L.size, .int .i64 L.more] 149)).cell? ⟨wr.heap.size, 1, none⟩ = some (.slice L.va L.vn L.vc) := (by rw [cell_of_row _ wr.heap.size 1 _ _ _ (heap_alloc_new wr _)]; rfl)
    have e2 : (wr.alloc (.cells #[.slice L.ka L.kn L.kc, .slice L.va L.vn L.vc, .int .i64 L.size, .int .i64 L.more] 149)).cell? ⟨wr.heap.size, 2, none⟩ = some (.int .i64 L.size) := (by rw [cell_of_row _ wr.heap.size 2 _ _ _ (heap_alloc_new wr _)]; rfl)
    have e3 : (wr.alloc (.cells #[.slice L.ka L.kn L.kc, .slice L.va L.vn L.vc, .int .i64 L.size, .int .i64 L.more] 149)).cell? ⟨wr.heap.size, 3, none⟩ = some (.int .i64 L.more) := (by rw [cell_of_row _ wr.heap.size 3 _ _ _ (heap_alloc_new wr _)]; rfl)
    have HE : Hid (∀ {w' : World}, Below (wr.alloc (.cells #[.slice L.ka L.kn L.kc, .slice L.va L.vn L.vc, .int .i64 L.size, .int .i64 L.more] 149)).drew.heap.size (wr.alloc (.cells #[.slice L.ka L.kn L.kc, .slice L.va L.vn L.vc, .int .i64 L.size, .int .i64 L.more] 149)).drew w' → w'.cell? ⟨wr.heap.size, 0, none⟩ = some (.slice L.ka L.kn L.kc) ∧ w'.cell? ⟨wr.heap.size, 1, none⟩ = some (.slice L.va L.vn L.vc) ∧ w'.cell? ⟨wr.heap.size, 2, none⟩ = some (.int .i64 L.size) ∧ w'.cell? ⟨wr.heap.size, 3, none⟩ = some (.int .i64 L.more)) := kept (fun h => ⟨cell_below (below_of_drew1 h) e0, cell_below (below_of_drew1 h) e1, cell_below (below_of_drew1 h) e2, cell_below (below_of_drew1 h) e3⟩); clear hrd; cases hok : itemOk (I[k]'hki) with
    | false =>
      have HO : Hid (ordU itemOk cmpI I n = false) := kept (ordU_bad hki hlt hok); have HP := fun w => kept (rightItem_any L w false (HRD.out.ok.trans hok))
      clear hok; clear HRD; obtain ⟨ka, kn, kc, va, vn, vc, size, more⟩ := L; simp only at hc0 hc1 hc2 hc3 e0 e1 e2 e3; go_wp2; refine wp_region_held_drew (S := (fun W' => W'.cell? ⟨wr.heap.size, 0, none⟩ = some (.slice ka kn kc) ∧ W'.cell? ⟨wr.heap.size, 1, none⟩ = some (.slice va vn vc) ∧ W'.cell? ⟨wr.heap.size, 2, none⟩ = some (.int .i64 size) ∧ W'.cell? ⟨wr.heap.size, 3, none⟩ = some (.int .i64 more))) (by kernel_rfl) ?_ (fun hHeld => ?_)
      · ((try dsimp only); (first | exact ⟨e0, e1, e2, e3⟩ | exact HE.out hb1))
      refine hT 0 (some 16) ?_; refine hT 1 (some 17) ?_; refine hR 2 (fun K hK => ?_); go_simp
      (go_at_call 216; (with_reducible refine (HP _).out.mono ?_); rintro e w1 ⟨rfl, hb1⟩)
      (try go_wp2_with fail); refine hK.out _ _ ?_ (fun hHeld => ?_)
      · ((try dsimp only); (first | exact ⟨e0, e1, e2, e3⟩ | exact HE.out hb1))
      clear hK K; (try simp only [Act.put, hA, h0, h1]); refine hT 3 (some 19) ?_; refine hT 4 (some 20) ?_; refine hU 5 (some 21) ?_; refine hU 6 (some 22) ?_; refine hU 7 (some 23) ?_; refine hU 8 (some 24) ?_; refine hU 9 (some 25) ?_; refine hU 10 (some 26) ?_; refine hU 11 (some 27) ?_; refine hU 12 (some 28) ?_; refine hU 13 (some 29) ?_; refine hU 14 (some 30) ?_; refine hU 15 (some 31) ?_; refine hU 16 (some 32) ?_; refine hU 17 (some 33) ?_; refine hT 18 (some 34) ?_; refine wpAnyH_done (by kernel_rfl) ?_ _; have HB1 := kept (HBW.out hb1); clear hb1; go_wp2; go_ret; exact ⟨ret_bool HO.out.symm, HB1.out⟩
    | true =>
      cases k with
      | zero =>
        have HO : Hid (ordU itemOk cmpI I 1 = true) := kept (ordU_first hki hok); have HP := fun w => kept (rightItem_any L w true (HRD.out.ok.trans hok))
        clear hok HRD; obtain ⟨ka, kn, kc, va, vn, vc, size, more⟩ := L; simp only at hc0 hc1 hc2 hc3 e0 e1 e2 e3; rw [Nat.zero_mul, Nat.add_zero] at hc0 hc1 hc2 hc3; go_wp2; refine wp_region_held_drew (S := (fun W' => W'.cell? ⟨wr.heap.size, 0, none⟩ = some (.slice ka kn kc) ∧ W'.cell? ⟨wr.heap.size, 1, none⟩ = some (.slice va vn vc) ∧ W'.cell? ⟨wr.heap.size, 2, none⟩ = some (.int .i64 size) ∧ W'.cell? ⟨wr.heap.size, 3, none⟩ = some (.int .i64 more))) (by kernel_rfl) ?_ (fun hHeld => ?_)
        · ((try dsimp only); (first | exact ⟨e0, e1, e2, e3⟩ | exact HE.out hb1))
        refine hT 0 (some 16) ?_; refine hT 1 (some 17) ?_; refine hR 2 (fun K hK => ?_); go_simp
        (go_at_call 216; (with_reducible refine (HP _).out.mono ?_); rintro e w1 ⟨rfl, hb1⟩)
        (try go_wp2_with fail); refine hK.out _ _ ?_ (fun hHeld => ?_)
        · ((try dsimp only); (first | exact ⟨e0, e1, e2, e3⟩ | exact HE.out hb1))
        clear hK K; (try simp only [Act.put, hA, h0, h1]); refine hT 3 (some 19) ?_; refine hT 4 (some 20) ?_; refine hT 5 (some 21) ?_; refine hT 6 (some 22) ?_; refine hT 7 (some 23) ?_; refine hU 8 (some 24) ?_; refine hU 9 (some 25) ?_; refine hU 10 (some 26) ?_; refine hU 11 (some 27) ?_; refine hU 12 (some 28) ?_; refine hU 13 (some 29) ?_; refine hU 14 (some 30) ?_; refine hU 15 (some 31) ?_; refine hU 16 (some 32) ?_; refine hT 17 (some 33) ?_; refine hT 18 (some 34) ?_; refine wpAnyH_done (by kernel_rfl) ?_ _; have HB1 := kept (HBW.out hb1); clear hb1; go_wp2; go_roundw
        case rel => exact ⟨1, by omega, by go_num, HO, HB1⟩
        case measure => simp [intOf]; omega
      | succ k =>
        obtain ⟨b', o', M, e, hrm, g0, g1, g2, g3⟩ := (HR.out.below HW.out).at_ (k := k) (by omega); simp only [Option.some.injEq, Addr.mk.injEq, and_true] at e; obtain ⟨rfl, rfl⟩ := e; have HP := fun w => kept (rightItem_any L w true (HRD.out.ok.trans hok))
        have HRL : Hid (∀ {w' : World}, Below (wr.alloc (.cells #[.slice L.ka L.kn L.kc, .slice L.va L.vn L.vc, .int .i64 L.size, .int .i64 L.more] 149)).drew.heap.size (wr.alloc (.cells #[.slice L.ka L.kn L.kc, .slice L.va L.vn L.vc, .int .i64 L.size, .int .i64 L.more] 149)).drew w' → Rd w' L.ka L.kn (I[k + 1]'hki).key ∧ Rd w' M.ka M.kn (I[k]'(by omega)).key ∧ w'.cell? ⟨b, o + k * 4, none⟩ = some (.slice M.ka M.kn M.kc) ∧ w'.cell? ⟨b, o + k * 4 + 1, none⟩ = some (.slice M.va M.vn M.vc) ∧ w'.cell? ⟨b, o + k * 4 + 2, none⟩ = some (.int .i64 M.size) ∧ w'.cell? ⟨b, o + k * 4 + 3, none⟩ = some (.int .i64 M.more)) := kept (fun h => by
         have hb := below_to (below_of_drew1 h) HB0.out; exact ⟨HRD.out.1.below hb, hrm.1.below hb, cell_below hb g0, cell_below hb g1, cell_below hb g2, cell_below hb g3⟩)
        have q0 := (HRL.out (Below.refl _ _)).2.2.1; have q1 := (HRL.out (Below.refl _ _)).2.2.2.1; have q2 := (HRL.out (Below.refl _ _)).2.2.2.2.1; have q3 := (HRL.out (Below.refl _ _)).2.2.2.2.2; have hcmp : ordB (I[k]'(by omega)).key (I[k + 1]'hki).key = cmpI (I[k]'(by omega)) (I[k + 1]'hki) := rfl; have HKB := kept hki; by_cases hcm : cmpI (I[k]'(by omega)) (I[k + 1]'hki) < 0
        all_goals
         first
         | have HO : Hid (ordU itemOk cmpI I (k + 1 + 1) = true) := kept (ordU_next hki HU.out hok hcm)
         | have HO : Hid (ordU itemOk cmpI I n = false) := kept (ordU_back hki hlt (by omega))
         clear hok; generalize (I[k + 1]'hki).key = x at HRL hcmp; generalize (I[k]'(by omega)).key = y at HRL hcmp; generalize cmpI (I[k]'(by omega)) (I[k + 1]'hki) = m at hcm hcmp; have HCM := fun {w' : World} h => kept (cmpItem_any M L y x w' (HRL.out h).2.1 (HRL.out h).1 m hcmp)
         clear HRD hrm; obtain ⟨ka, kn, kc, va, vn, vc, size, more⟩ := L; obtain ⟨ka', kn', kc', va', vn', vc', size', more'⟩ := M; simp only at hc0 hc1 hc2 hc3 e0 e1 e2 e3 g0 g1 g2 g3 q0 q1 q2 q3; have hi1 : (0 : Int) ≤ (k : Int) + 1 - 1 := by omega
         have hi2 : (k : Int) + 1 - 1 < (n : Int) := by omega
         first
         | have hd : decide (0 ≤ m) = false := by rw [decide_eq_false]; omega
         | have hd : decide (0 ≤ m) = true := by rw [decide_eq_true]; omega
         clear hcm hcmp; have hi3 : (k : Int) < (n : Int) := by omega
         have hi4 : IntKind.i64.wrap (k : Int) = (k : Int) := IntWalk.i64_in _ ⟨by omega, by omega⟩; go_wp2; refine wp_region_held_drew (S := (fun W' => (W'.cell? ⟨wr.heap.size, 0, none⟩ = some (.slice ka kn kc) ∧ W'.cell? ⟨wr.heap.size, 1, none⟩ = some (.slice va vn vc) ∧ W'.cell? ⟨wr.heap.size, 2, none⟩ = some (.int .i64 size) ∧ W'.cell? ⟨wr.heap.size, 3, none⟩ = some (.int .i64 more)) ∧ W'.cell? ⟨b, o + k * 4, none⟩ = some (.slice ka' kn' kc') ∧ W'.cell? ⟨b, o + k * 4 + 1, none⟩ = some (.slice va' vn' vc') ∧ W'.cell? ⟨b, o + k * 4 + 2, none⟩ = some (.int .i64 size') ∧ W'.cell? ⟨b, o + k * 4 + 3, none⟩ = some (.int .i64 more'))) (by kernel_rfl) ?_ (fun hHeld => ?_)
         · ((try dsimp only); (first | exact ⟨⟨e0, e1, e2, e3⟩, q0, q1, q2, q3⟩ | exact ⟨HE.out hb2, (HRL.out hb2).2.2⟩ | exact ⟨HE.out hb1, (HRL.out hb1).2.2⟩))
         refine hT 0 (some 16) ?_; refine hT 1 (some 17) ?_; refine hR 2 (fun K hK => ?_); go_simp
         (go_at_call 216; (with_reducible refine (HP _).out.mono ?_); rintro e w1 ⟨rfl, hb1⟩)
         (try go_wp2_with fail); refine hK.out _ _ ?_ (fun hHeld => ?_)
         · ((try dsimp only); (first | exact ⟨⟨e0, e1, e2, e3⟩, q0, q1, q2, q3⟩ | exact ⟨HE.out hb2, (HRL.out hb2).2.2⟩ | exact ⟨HE.out hb1, (HRL.out hb1).2.2⟩))
         clear hK K; (try simp only [Act.put, hA, h0, h1]); refine hT 3 (some 19) ?_; refine hT 4 (some 20) ?_; refine hT 5 (some 21) ?_; refine hT 6 (some 22) ?_; refine hT 7 (some 23) ?_; refine hT 8 (some 24) ?_; refine hT 9 (some 25) ?_; refine hT 10 (some 26) ?_; refine hT 11 (some 27) ?_; refine hT 12 (some 28) ?_; refine hT 13 (some 29) ?_; refine hT 14 (some 30) ?_; refine hR 15 (fun K hK => ?_); go_simp
         (go_at_call 217; (with_reducible refine (HCM hb1).out.mono ?_); rintro e w2 ⟨rfl, hb2'⟩; have hb2 := below_to hb2' hb1)
         (try go_wp2_with fail); refine hK.out _ _ ?_ (fun hHeld => ?_)
         · ((try dsimp only); (first | exact ⟨⟨e0, e1, e2, e3⟩, q0, q1, q2, q3⟩ | exact ⟨HE.out hb2, (HRL.out hb2).2.2⟩ | exact ⟨HE.out hb1, (HRL.out hb1).2.2⟩))
         clear hK K; (try simp only [Act.put, hA, h0, h1]); refine hT 16 (some 32) ?_; refine hT 17 (some 33) ?_; refine hT 18 (some 34) ?_; refine wpAnyH_done (by kernel_rfl) ?_ _; have HB2 := kept (HBW.out hb2); go_wp2; clear hi4
         first
         | (go_ret; exact ⟨ret_bool HO.out.symm, HB2.out⟩)
         | (go_roundw
            case rel => exact ⟨k + 1 + 1, by omega, by go_num, HO, HB2⟩
            case measure => simp [intOf]; omega)
  · obtain rfl : k = n := by omega
    go_wp2; go_ret; exact ⟨ret_bool HU.out.symm, HW.out⟩
def sumTo {α : Type} (f : α → Nat) (I : List α) (k : Nat) : Nat := ((I.take k).map f).sum
section
variable {α : Type} {f : α → Nat} {I : List α}
theorem sumTo_zero : sumTo f I 0 = 0 := rfl
theorem sumTo_succ {k : Nat} (h : k < I.length) : sumTo f I (k + 1) = sumTo f I k + f I[k] := by
 unfold sumTo; rw [List.take_succ_eq_append_getElem h]; simp only [List.map_append, List.map_cons, List.map_nil, List.sum_append, List.sum_cons, List.sum_nil, Nat.add_zero]
theorem sumTo_all : sumTo f I I.length = (I.map f).sum := by unfold sumTo; rw [List.take_length]
theorem sumTo_le (k : Nat) : sumTo f I k ≤ (I.map f).sum := by
 unfold sumTo
 conv => rhs; rw [← List.take_append_drop k I]
 rw [List.map_append, List.sum_append]; exact Nat.le_add_right _ _
end
theorem used_any (l : Lay) (P : Pg) (w : World) (h : RdPg w l P) (hu : usedN P ≤ 72057594037927936) :
 Calls Tryz.prog 148 #[l.val] w fun e w' => e = .returned (.int .i64 (usedN P : Nat)) ∧ Below w.heap.size w w' := by
 have HI := kept h.items; have HK := kept h.kids; have HL1 := kept h.n1; have HL2 := kept h.n2; have h3 := h.n3; have h4 := h.n4; have b1 := h.b1; have b2 := h.b2; have b3 := h.b3; have b4 := h.b4; obtain ⟨I, hI⟩ : ∃ I, P.items = I := ⟨_, rfl⟩
 obtain ⟨J, hJ⟩ : ∃ J, P.kids = J := ⟨_, rfl⟩
 have hU : usedN P = P.data.length + P.ids.length * 4 + (I.map itemUse).sum + (J.map kidUse).sum := by rw [← hI, ← hJ]; rfl
 rw [hI] at HI HL1; rw [hJ] at HK HL2; rw [h3, h4] at hU; have s1 := fun k => sumTo_le (f := itemUse) (I := I) k
 have s2 := fun k => sumTo_le (f := kidUse) (I := J) k
 have e1 := sumTo_all (f := itemUse) (I := I); have e2 := sumTo_all (f := kidUse) (I := J); rw [HL1.out] at e1; rw [HL2.out] at e2; generalize (I.map itemUse).sum = si at hU s1 e1; generalize (J.map kidUse).sum = sk at hU s2 e2; generalize usedN P = u at hu hU; obtain ⟨kind, txn, next, a1, n1, c1, a2, n2, c2, a3, n3, c3, a4, n4, c4⟩ := l; simp only at HI HK HL1 HL2 b1 b2 b3 b4 hU e1 e2; clear h h3 h4 hI hJ; have HU := kept hU; have HE1 := kept e1; have HE2 := kept e2; have HS1 := kept s1; have HS2 := kept s2; have hsi : n3 + n4 * 4 + si + sk ≤ 72057594037927936 := by omega
 clear hU e1 e2 s1 s2 hu; have HB0 : Hid (Below w.heap.size w (w.alloc (.cells #[.int .i64 kind, .int .u64 txn, .int .i64 next, .slice a1 n1 c1, .slice a2 n2 c2, .slice a3 n3 c3, .slice a4 n4 c4] 137))) := kept ((Below.refl _ _).alloc (Nat.le_refl _) _); have HC4 : Hid ((w.alloc (.cells #[.int .i64 kind, .int .u64 txn, .int .i64 next, .slice a1 n1 c1, .slice a2 n2 c2, .slice a3 n3 c3, .slice a4 n4 c4] 137)).cell? ⟨w.heap.size, 4, none⟩ = some (.slice a2 n2 c2)) := kept (by rw [cell_of_row _ w.heap.size 4 _ _ _ (heap_alloc_new w _)]; rfl); go_enter Tryz.func148, Tryz.ntmps148; go_wp2; go_loopw [3, 19] (fun s i wr => ∃ k : Nat, k ≤ n1 ∧ i = .int .i64 k ∧ s = .int .i64 ((n3 + n4 * 4 + sumTo itemUse I k : Nat) : Int) ∧ Hid (Below (w.alloc (.cells #[.int .i64 kind, .int .u64 txn, .int .i64 next, .slice a1 n1 c1, .slice a2 n2 c2, .slice a3 n3 c3, .slice a4 n4 c4] 137)).heap.size (w.alloc (.cells #[.int .i64 kind, .int .u64 txn, .int .i64 next, .slice a1 n1 c1, .slice a2 n2 c2, .slice a3 n3 c3, .slice a4 n4 c4] 137)) wr)) (fun _ i _ => n1 - (intOf i).toNat)
 case atStart => exact ⟨0, by omega, rfl, by rw [sumTo_zero]; simp, Below.refl _ _⟩
 case round =>
  obtain ⟨k, hk, rfl, rfl, HW⟩ := hrel; by_cases hlt : k < n1
  · have HBA : Hid (∀ o, Below (w.alloc (.cells #[.int .i64 kind, .int .u64 txn, .int .i64 next, .slice a1 n1 c1, .slice a2 n2 c2, .slice a3 n3 c3, .slice a4 n4 c4] 137)).heap.size (w.alloc (.cells #[.int .i64 kind, .int .u64 txn, .int .i64 next, .slice a1 n1 c1, .slice a2 n2 c2, .slice a3 n3 c3, .slice a4 n4 c4] 137)) (wr.alloc o)) := kept (fun o => HW.out.alloc HW.out.size o); obtain ⟨b, o, L, rfl, hrd, hc0, hc1, hc2, hc3⟩ := ((HI.out.below HB0.out).below HW.out).at_ hlt; have hki : k < I.length := by rw [HL1.out]; exact hlt
    have hss := sumTo_succ (f := itemUse) hki; have hle := HS1.out (k + 1); have hit : itemUse (I[k]'hki) = 3 + L.kn + (if L.size ≤ 64 then L.vn else 4) := by unfold itemUse; rw [hrd.1.1, hrd.2.1.1, hrd.2.2.1]
    have HIS := fun w => kept (itemSize_any L w (itemUse (I[k]'hki)) hrd.2.2.2.2.1 hrd.2.2.2.2.2 hit.symm)
    generalize itemUse (I[k]'hki) = iu at hss HIS; have HSS := kept hss; have hbd : n3 + n4 * 4 + (sumTo itemUse I k + iu) + sk ≤ 72057594037927936 := by omega
    clear hrd hit hss hle; obtain ⟨ka, kn, kc, va, vn, vc, size, more⟩ := L; simp only at hc0 hc1 hc2 hc3; generalize sumTo itemUse I k = sm at HSS hbd; go_wp2_with (first | (go_at_call 204; (with_reducible refine ((HIS _).out).mono ?_); rintro e w1 ⟨rfl, hb1⟩; have HB1 := kept (below_to hb1 (HBA.out _)); clear hb1))
    go_roundw
    case rel => exact ⟨k + 1, by omega, by go_num, by rw [HSS.out]; go_num, HB1⟩
    case measure => simp [intOf]; omega
  · obtain rfl : k = n1 := by omega
    have hc4 := cell_below HW.out HC4.out; have HWK := kept (HK.out.below (below_to HW.out HB0.out)); have HSE := HE1.out; generalize sumTo itemUse I k = sm at HSE; subst HSE; go_wp2; go_loopw [3, 31] (fun s i wx => ∃ j : Nat, j ≤ n2 ∧ i = .int .i64 j ∧ s = .int .i64 ((n3 + n4 * 4 + sm + sumTo kidUse J j : Nat) : Int) ∧ Hid (Below wr.heap.size wr wx)) (fun _ i _ => n2 - (intOf i).toNat)
    case atStart => exact ⟨0, by omega, rfl, by rw [sumTo_zero]; simp, Below.refl _ _⟩
    case round =>
     obtain ⟨j, hj, rfl, rfl, HX⟩ := hrel
     rename World => wx
     by_cases hlt : j < n2
     · obtain ⟨b, o, L, rfl, hrd, hg0, hg1⟩ := (HWK.out.below HX.out).at_ hlt; have hki : j < J.length := by rw [HL2.out]; exact hlt
       have hss := sumTo_succ (f := kidUse) hki; have hle := HS2.out (j + 1); have hit : kidUse (J[j]'hki) = 5 + L.kn := by unfold kidUse; rw [hrd.1.1]
       have hkn := hrd.2.2; rw [hit] at hss; have HSS := kept hss; have HBA : Hid (∀ o, Below wr.heap.size wr (wx.alloc o)) := kept (fun o => HX.out.alloc HX.out.size o); obtain ⟨ka, kn, kc, page⟩ := L; simp only at hg0 hg1 hkn hss HSS; have hbd : n3 + n4 * 4 + sm + (sumTo kidUse J j + (5 + kn)) ≤ 72057594037927936 := by omega
       clear hrd hit hss hle; generalize sumTo kidUse J j = sj at HSS hbd; go_wp2; go_roundw
       case rel => exact ⟨j + 1, by omega, by go_num, by rw [HSS.out]; go_num, HBA.out _⟩
       case measure => simp [intOf]; omega
     · obtain rfl : j = n2 := by omega
       have HSE2 := kept HE2.out; generalize sumTo kidUse J j = sj at HSE2; go_wp2; go_ret; exact ⟨ret_num (by rw [HU.out, HSE2.out]), below_to HX.out (below_to HW.out HB0.out)⟩
theorem rightThings_any (l : Lay) (P : Pg) (w : World) (h : RdPg w l P) :
 Calls Tryz.prog 177 #[l.val] w fun e w' => e = .returned (.bool (thingsB P)) ∧ Below w.heap.size w w' := by
 have HI := fun {X : World} (hb : Below w.heap.size w X) => kept (inOrderI_any l.a1 l.n1 l.c1 P.items X (h.items.below hb) h.b1)
 have HK := fun {X : World} (hb : Below w.heap.size w X) => kept (inOrderK_any l.a2 l.n2 l.c2 P.kids X (h.kids.below hb) h.b2)
 have HN := fun {X : World} (hb : Below w.heap.size w X) => kept (inOrderN_any l.a4 l.n4 l.c4 P.ids X (h.ids.below hb) h.b4)
 have HT : Hid (thingsB P = (ordU itemOk cmpI P.items l.n1 && ordU kidOk cmpK P.kids l.n2 && ordU isPg cmpN P.ids l.n4)) := by show _ = _; rw [← h.n1, ← h.n2, ← h.n4]; rfl
 generalize thingsB P = o at HT; generalize ordU itemOk cmpI P.items l.n1 = x1 at HT HI; generalize ordU kidOk cmpK P.kids l.n2 = x2 at HT HK; generalize ordU isPg cmpN P.ids l.n4 = x3 at HT HN; clear h; obtain ⟨kind, txn, next, a1, n1, c1, a2, n2, c2, a3, n3, c3, a4, n4, c4⟩ := l; have hb0 : Below w.heap.size w (w.alloc (.cells #[.int .i64 kind, .int .u64 txn, .int .i64 next, .slice a1 n1 c1, .slice a2 n2 c2, .slice a3 n3 c3, .slice a4 n4 c4] 137)) := (Below.refl _ _).alloc (Nat.le_refl _) _; have HC4 : Hid ((w.alloc (.cells #[.int .i64 kind, .int .u64 txn, .int .i64 next, .slice a1 n1 c1, .slice a2 n2 c2, .slice a3 n3 c3, .slice a4 n4 c4] 137)).cell? ⟨w.heap.size, 4, none⟩ = some (.slice a2 n2 c2) ∧ (w.alloc (.cells #[.int .i64 kind, .int .u64 txn, .int .i64 next, .slice a1 n1 c1, .slice a2 n2 c2, .slice a3 n3 c3, .slice a4 n4 c4] 137)).cell? ⟨w.heap.size, 6, none⟩ = some (.slice a4 n4 c4)) := kept ⟨by rw [cell_of_row _ w.heap.size 4 _ _ _ (heap_alloc_new w _)]; rfl, by rw [cell_of_row _ w.heap.size 6 _ _ _ (heap_alloc_new w _)]; rfl⟩; simp only at HI HK HN; cases x1
 · go_enter Tryz.func177, Tryz.ntmps177; go_wp2_with (first | (go_at_call 215; (with_reducible refine ((HI hb0).out).mono ?_); rintro e w1 ⟨rfl, hb1⟩; have HB1 := kept (below_to hb1 hb0); clear hb1))
   go_ret; exact ⟨ret_bool (by rw [HT.out]; rfl), HB1.out⟩
 · cases x2
   · go_enter Tryz.func177, Tryz.ntmps177; go_wp2_with (first | (go_at_call 215; (with_reducible refine ((HI hb0).out).mono ?_); rintro e w1 ⟨rfl, hb1⟩; have hc1 := cell_below hb1 HC4.out.1; have hB1 := below_to hb1 hb0; clear hb1) | (go_at_call 219; (with_reducible refine ((HK hB1).out).mono ?_); rintro e w2 ⟨rfl, hb2⟩; have HB2 := kept (below_to hb2 hB1); clear hb2))
     go_ret; exact ⟨ret_bool (by rw [HT.out]; rfl), HB2.out⟩
   · go_enter Tryz.func177, Tryz.ntmps177; go_wp2_with (first | (go_at_call 215; (with_reducible refine ((HI hb0).out).mono ?_); rintro e w1 ⟨rfl, hb1⟩; have hc1 := cell_below hb1 HC4.out.1; have hc2 := cell_below hb1 HC4.out.2; have hB1 := below_to hb1 hb0; clear hb1) | (go_at_call 219; (with_reducible refine ((HK hB1).out).mono ?_); rintro e w2 ⟨rfl, hb2⟩; have hc3 := cell_below hb2 hc2; have hB2 := below_to hb2 hB1; clear hb2) | (go_at_call 222; (with_reducible refine ((HN hB2).out).mono ?_); rintro e w3 ⟨rfl, rfl⟩))
     go_ret; exact ⟨ret_bool (by rw [HT.out]; cases x3 <;> rfl), hB2⟩
theorem ordU_all {α : Type} {ok : α → Bool} {cmp : α → α → Int} {I : List α} (h : ordU ok cmp I I.length = true) : ∀ x ∈ I, ok x = true := by
 intro x hx; obtain ⟨i, hi, rfl⟩ := List.getElem_of_mem hx; unfold ordU at h; rw [List.all_eq_true] at h; have := h i (by simpa using hi); rw [List.getElem?_eq_getElem hi] at this; simp only [Bool.and_eq_true] at this; exact this.1
theorem sum_le_mul {α : Type} {f : α → Nat} {m : Nat} : ∀ {I : List α}, (∀ x ∈ I, f x ≤ m) → (I.map f).sum ≤ m * I.length
 | [], _ => by simp
 | x :: r, h => by
   have h1 := h x (by simp); have h2 := sum_le_mul (f := f) (m := m) (I := r) (fun y hy => h y (by simp [hy])); simp only [List.map_cons, List.sum_cons, List.length_cons, Nat.mul_add]; omega
theorem itemUse_le {x : Itm} (h : itemOk x = true) : itemUse x ≤ 99 := by
 unfold itemOk at h; unfold itemUse; simp only [Bool.and_eq_true, decide_eq_true_eq] at h; obtain ⟨⟨⟨h1, h2⟩, h3⟩, h4⟩ := h
 split
 · rename_i hs
   rw [if_pos hs] at h4; simp only [Bool.and_eq_true, decide_eq_true_eq] at h4; omega
 · omega
theorem kidUse_le {x : Kd} (h : kidOk x = true) : kidUse x ≤ 37 := by
 unfold kidOk at h; unfold kidUse; simp only [Bool.and_eq_true, decide_eq_true_eq] at h; omega
theorem things_used {P : Pg} (h : thingsB P = true) : usedN P ≤ P.data.length + P.ids.length * 4 + 99 * P.items.length + 37 * P.kids.length := by
 unfold thingsB at h; simp only [Bool.and_eq_true] at h; have h1 := sum_le_mul (f := itemUse) (fun x hx => itemUse_le (ordU_all h.1.1 x hx)); have h2 := sum_le_mul (f := kidUse) (fun x hx => kidUse_le (ordU_all h.1.2 x hx)); unfold usedN; omega
theorem nextB_eq {w : World} {l : Lay} {P : Pg} (h : RdPg w l P) : (decide (l.next = 0) || (decide (l.kind ≠ 1) && decide (l.kind ≠ 2) && isPg l.next)) = nextB P := by
 unfold nextB; rw [h.kind, h.next]
theorem right_any (l : Lay) (P : Pg) (w : World) (h : RdPg w l P) :
 Calls Tryz.prog 127 #[l.val] w fun e w' => e = .returned (.bool (rightB P)) ∧ Below w.heap.size w w' := by
 have H1 := fun X => kept (hasItsOwn_any l X h.b1 h.b2 h.b3 h.b4)
 have H2 := fun X => kept (rightNext_any l X _ (nextB_eq h))
 have H3 := fun {X : World} (hb : Below w.heap.size w X) => kept (rightThings_any l P X (h.below hb))
 have H4 := fun {X : World} (hb : Below w.heap.size w X) (hT : thingsB P = true) => kept (used_any l P X (h.below hb) (by have := things_used hT; rw [h.n1, h.n2, h.n3, h.n4] at this; have h1 := h.b1; have h2 := h.b2; have h3 := h.b3; have h4 := h.b4; omega))
 have HU : Hid (thingsB P = true → usedN P ≤ 72057594037927936) := kept (fun hT => by have := things_used hT; rw [h.n1, h.n2, h.n3, h.n4] at this; have h1 := h.b1; have h2 := h.b2; have h3 := h.b3; have h4 := h.b4; omega); rw [ownL_eq h] at H1; have HR : Hid (rightB P = (ownB P && nextB P && thingsB P && decide (usedN P ≤ 237))) := rfl; generalize rightB P = o at HR; generalize ownB P = x1 at HR H1; generalize nextB P = x2 at HR H2; generalize thingsB P = x3 at HR H3 H4 HU; generalize usedN P = u at HR H4 HU; clear h; obtain ⟨kind, txn, next, a1, n1, c1, a2, n2, c2, a3, n3, c3, a4, n4, c4⟩ := l; have hb0 : Below w.heap.size w (w.alloc (.cells #[.int .i64 kind, .int .u64 txn, .int .i64 next, .slice a1 n1 c1, .slice a2 n2 c2, .slice a3 n3 c3, .slice a4 n4 c4] 137)) := (Below.refl _ _).alloc (Nat.le_refl _) _; have HS : Hid (∀ {X : World}, Below (w.alloc (.cells #[.int .i64 kind, .int .u64 txn, .int .i64 next, .slice a1 n1 c1, .slice a2 n2 c2, .slice a3 n3 c3, .slice a4 n4 c4] 137)).heap.size (w.alloc (.cells #[.int .i64 kind, .int .u64 txn, .int .i64 next, .slice a1 n1 c1, .slice a2 n2 c2, .slice a3 n3 c3, .slice a4 n4 c4] 137)) X → Sev X w.heap.size kind txn next a1 n1 c1 a2 n2 c2 a3 n3 c3 a4 n4 c4) := kept (sev_box w kind txn next a1 n1 c1 a2 n2 c2 a3 n3 c3 a4 n4 c4); cases x1
 · go_enter Tryz.func127, Tryz.ntmps127; go_wp2_with (first | (go_at_call 175; (with_reducible refine ((H1 _).out).mono ?_); rintro e w1 ⟨rfl, hb1⟩; have HB1 := kept (below_to hb1 hb0); clear hb1))
   go_ret; exact ⟨ret_bool (by rw [HR.out]; rfl), HB1.out⟩
 cases x2
 · go_enter Tryz.func127, Tryz.ntmps127; go_wp2_with (first | (go_at_call 175; (with_reducible refine ((H1 _).out).mono ?_); rintro e w1 ⟨rfl, hb1⟩; have hq1 := hb1; obtain ⟨z0, z1, z2, z3, z4, z5, z6⟩ := HS.out hq1; have HB1 := kept (below_to hb1 hb0); clear hb1) | (go_at_call 176; (with_reducible refine ((H2 _).out).mono ?_); rintro e w2 ⟨rfl, hb2⟩; have HB2 := kept (below_to hb2 HB1.out); clear hb2))
   go_ret; exact ⟨ret_bool (by rw [HR.out]; rfl), HB2.out⟩
 cases x3
 · go_enter Tryz.func127, Tryz.ntmps127; go_wp2_with (first | (go_at_call 175; (with_reducible refine ((H1 _).out).mono ?_); rintro e w1 ⟨rfl, hb1⟩; have hq1 := hb1; obtain ⟨z0, z1, z2, z3, z4, z5, z6⟩ := HS.out hq1; clear hb1) | (go_at_call 176; (with_reducible refine ((H2 _).out).mono ?_); rintro e w2 ⟨rfl, hb2⟩; have hq2 := below_to hb2 hq1; obtain ⟨y0, y1, y2, y3, y4, y5, y6⟩ := HS.out hq2; have hr2 := below_to hq2 hb0; clear hb2) | (go_at_call 177; (with_reducible refine ((H3 hr2).out).mono ?_); rintro e w3 ⟨rfl, hb3⟩; have HB3 := kept (below_to hb3 hr2); clear hb3))
   go_ret; exact ⟨ret_bool (by rw [HR.out]; rfl), HB3.out⟩
 · have hub := HU.out rfl; have H5 := fun {X : World} (hb : Below w.heap.size w X) => H4 hb rfl
   clear H4; go_enter Tryz.func127, Tryz.ntmps127; go_wp2_with (first | (go_at_call 175; (with_reducible refine ((H1 _).out).mono ?_); rintro e w1 ⟨rfl, hb1⟩; have hq1 := hb1; obtain ⟨z0, z1, z2, z3, z4, z5, z6⟩ := HS.out hq1; clear hb1) | (go_at_call 176; (with_reducible refine ((H2 _).out).mono ?_); rintro e w2 ⟨rfl, hb2⟩; have hq2 := below_to hb2 hq1; obtain ⟨y0, y1, y2, y3, y4, y5, y6⟩ := HS.out hq2; have hr2 := below_to hq2 hb0; clear hb2) | (go_at_call 177; (with_reducible refine ((H3 hr2).out).mono ?_); rintro e w3 ⟨rfl, hb3⟩; have hq3 := below_to hb3 hq2; obtain ⟨v0, v1, v2, v3, v4, v5, v6⟩ := HS.out hq3; have hr3 := below_to hq3 hb0; clear hb3) | (go_at_call 148; (with_reducible refine ((H5 hr3).out).mono ?_); rintro e w4 ⟨rfl, hb4⟩; have HB4 := kept (below_to hb4 hr3); clear hb4))
   all_goals
    go_ret; exact ⟨ret_bool (by rw [HR.out]; rw [Bool.eq_iff_iff]; simp <;> omega), HB4.out⟩
attribute [local go_sem ↓] Go.wp_at_zero Go.wp_at_succ
abbrev Rst := Nat × Int
def rnum (xs : List UInt8) (k : Nat) (s : Rst) : Nat × Rst := if s.2 ≠ 0 then (0, s) else if s.1 + k ≤ xs.length then (num (part xs s.1 k) 0, (s.1 + k, 0)) else (0, (s.1, 3))
def rbytes (xs : List UInt8) (m : Nat) (s : Rst) : List UInt8 × Rst := if s.2 ≠ 0 then ([], s) else if s.1 + m ≤ xs.length then (part xs s.1 m, (s.1 + m, 0)) else ([], (s.1, 3))
def RS (w : World) (r : Nat) (A : Option Addr) (n c : Nat) (xs : List UInt8) (s : Rst) : Prop := Rdr w r A n c xs s.1 s.2 ∧ s.1 ≤ n ∧ (s.2 = 0 ∨ s.2 = 3) ∧ n ≤ c ∧ n ≤ 140737488355328
theorem rnum_lt (xs : List UInt8) (k : Nat) (s : Rst) : (rnum xs k s).1 < 256 ^ k := by
 unfold rnum
 split
 · exact Nat.pow_pos (by omega)
 · split
   · exact num_part_lt _ _ _ ‹_›
   · exact Nat.pow_pos (by omega)
section
variable {w w' : World} {r : Nat} {A : Option Addr} {n c : Nat} {xs : List UInt8} {s : Rst}
theorem RS.below (h : RS w r A n c xs s) (hb : Below w.heap.size w w') : RS w' r A n c xs s := ⟨h.1.below hb, h.2⟩
theorem RS.drewN (h : RS w r A n c xs s) (q : Nat) : RS (w.drewN q) r A n c xs s := ⟨h.1.drewN q, h.2⟩
theorem RS.lt (h : RS w r A n c xs s) : r < w.heap.size := h.1.1.lt
theorem RS.len_ (h : RS w r A n c xs s) : xs.length = n := h.1.2.1
end
theorem num_any (r : Nat) (A : Option Addr) (n c : Nat) (xs : List UInt8) (s : Rst) (k : Nat) (w : World) (h : RS w r A n c xs s) (h1 : 1 ≤ k) (h2 : k ≤ 8) :
 Calls Tryz.prog 229 #[.pointer (some ⟨r, 0, none⟩), .int .i64 (k : Int)] w fun e w' => e = .returned (.int .u64 (((rnum xs k s).1 : Nat) : Int)) ∧ Hid (RS w' r A n c xs (rnum xs k s).2 ∧ Only w w' r) := by
 obtain ⟨pos, err⟩ := s; have hl := h.len_; obtain ⟨hr, hp, he, hc, hb⟩ := h; simp only at hr hp he; by_cases h0 : err = 0
 · subst h0; by_cases hk : pos + k ≤ n
   · refine (num_ok r A n c xs pos k w hr hb h1 h2 hk).mono ?_; rintro e w' ⟨rfl, hR, hO⟩; simp only [rnum, hl, hk, if_true, ne_eq, not_true_eq_false, if_false]; exact ⟨by first | trivial | rfl, ⟨hR, hk, .inl rfl, hc, hb⟩, hO⟩
   · refine (num_bad r A n c xs pos k 0 3 w hr (by decide) (fun W _ => get_short A n c pos k W (by omega) (by omega) hb (.inr (by omega)) (by omega))).mono ?_; rintro e w' ⟨rfl, hR, hO⟩; simp only [rnum, hl, hk, ne_eq, not_true_eq_false, if_false]; exact ⟨by first | trivial | rfl, ⟨hR, hp, .inr rfl, hc, hb⟩, hO⟩
 · refine (num_stopped r A n c xs pos err k w hr h0).mono ?_; rintro e w' ⟨rfl, rfl⟩; simp only [rnum, ne_eq, h0, not_false_eq_true, if_true]; exact ⟨by first | trivial | rfl, ⟨hr, hp, he, hc, hb⟩, Only.refl _ _⟩
theorem num1 (r : Nat) (A : Option Addr) (n c : Nat) (xs : List UInt8) (s : Rst) (w : World) (h : RS w r A n c xs s) :
 Calls Tryz.prog 229 #[.pointer (some ⟨r, 0, none⟩), .int .i64 1] w fun e w' => e = .returned (.int .u64 (((rnum xs 1 s).1 : Nat) : Int)) ∧ Hid (RS w' r A n c xs (rnum xs 1 s).2 ∧ Only w w' r) := num_any r A n c xs s 1 w h (by omega) (by omega)
theorem num2 (r : Nat) (A : Option Addr) (n c : Nat) (xs : List UInt8) (s : Rst) (w : World) (h : RS w r A n c xs s) :
 Calls Tryz.prog 229 #[.pointer (some ⟨r, 0, none⟩), .int .i64 2] w fun e w' => e = .returned (.int .u64 (((rnum xs 2 s).1 : Nat) : Int)) ∧ Hid (RS w' r A n c xs (rnum xs 2 s).2 ∧ Only w w' r) := num_any r A n c xs s 2 w h (by omega) (by omega)
theorem num4 (r : Nat) (A : Option Addr) (n c : Nat) (xs : List UInt8) (s : Rst) (w : World) (h : RS w r A n c xs s) :
 Calls Tryz.prog 229 #[.pointer (some ⟨r, 0, none⟩), .int .i64 4] w fun e w' => e = .returned (.int .u64 (((rnum xs 4 s).1 : Nat) : Int)) ∧ Hid (RS w' r A n c xs (rnum xs 4 s).2 ∧ Only w w' r) := num_any r A n c xs s 4 w h (by omega) (by omega)
theorem num8 (r : Nat) (A : Option Addr) (n c : Nat) (xs : List UInt8) (s : Rst) (w : World) (h : RS w r A n c xs s) :
 Calls Tryz.prog 229 #[.pointer (some ⟨r, 0, none⟩), .int .i64 8] w fun e w' => e = .returned (.int .u64 (((rnum xs 8 s).1 : Nat) : Int)) ∧ Hid (RS w' r A n c xs (rnum xs 8 s).2 ∧ Only w w' r) := num_any r A n c xs s 8 w h (by omega) (by omega)
def New (A : Option Addr) (n B : Nat) : Prop := ∀ g, g < B → apartA A n g
theorem New.nil_ (B c : Nat) : New none c B := fun g _ a e => by cases e
theorem new_of_own {w : World} {base : Nat} {e : TypeId} {A : Option Addr} {n c : Nat} {xs : List Value} (h : w.ownsRow base e 1 (.slice A n c) n xs) : New A n base := by
 intro g hg a e _ hh; rcases h.2 with ⟨h0, _⟩ | ⟨g', cap, cur, hv, hb, _⟩
 · injection h0 with h0; rw [h0] at e; cases e
 · injection hv with hA; rw [hA] at e; cases e; simp only at hh; omega
theorem bytes_new (r : Nat) (A : Option Addr) (n c : Nat) (xs : List UInt8) (pos m : Nat) (w : World) (h : Rdr w r A n c xs pos 0) (hl : n ≤ 140737488355328) (hnc : n ≤ c) (hp : pos + m ≤ n) :
 Calls Tryz.prog 185 #[.pointer (some ⟨r, 0, none⟩), .int .i64 (m : Int)] w fun e w' => ∃ A' c', e = .returned (.slice A' m c') ∧ Hid (Rd w' A' m (part xs pos m) ∧ New A' m w.heap.size ∧ m ≤ c') ∧ Hid (Rdr w' r A n c xs (pos + m) 0 ∧ Only w w' r) := by
 have HS := kept (stopped_no r A n c xs pos w h); have HG := fun W => kept (holds_yes A n c pos m W hl hp)
 have HH := kept h; have h0 := h.slice; have h1 := h.place; have h2 := h.error; have h3 := h.frozen 1; have hi1 : (0 : Int) ≤ (pos : Int) := by omega
 have hi2 : (pos : Int) ≤ (pos : Int) + (m : Int) := by omega
 have hi3 : (pos : Int) + (m : Int) ≤ (c : Int) := by omega
 clear h; go_enter Tryz.func185, Tryz.ntmps185; go_wp2_with fail
 with_reducible refine HS.out.mono ?_
 rintro e w' ⟨rfl, rfl⟩; go_wp2
 go_quiet ((go_at_call 237; exact Calls.quiet_of_same (turn (HG _).out)))
 go_wp2; have HM := kept (show m ≤ 140737488355328 by omega); have hmid := HH.out.2.mid hp hnc; obtain ⟨X, hX⟩ : ∃ X, (if c = pos then A else A.map (fun x => x.add pos)) = X := ⟨_, rfl⟩
 rw [hX] at hmid; have HMID := kept hmid; clear hmid; have HLT := kept HH.out.1.lt; have HC0 := kept h0; have HF := kept h3; have HC1 := kept h1; have hq1 : ((pos : Int) + (m : Int)).toNat = pos + m := by omega
 have hq2 : IntKind.i64.wrap ((pos : Int) + (m : Int)) = (pos : Int) + (m : Int) := IntWalk.i64_in _ ⟨by omega, by omega⟩
 go_region_held3 (fun w' => w'.cell? ⟨r, 0, none⟩ = some (.slice A n c) ∧ w'.cell? ⟨r, 1, none⟩ = some (.int .i64 (pos : Int))) (go_keep) (first | (go_at_call 228; (with_reducible refine (clone_any _ _ _ (part xs pos m) _ (HMID.out.drewN _) HM.out).mono ?_); rintro e w1 ⟨A1, c1, rfl, hown1, hb1⟩; have k0 : w1.cell? ⟨r, 0, none⟩ = some (.slice A n c) := (hb1.cell (p := ⟨r, 0, none⟩) HLT.out).trans HC0.out; have k1 : w1.cell? ⟨r, 1, none⟩ = some (.int .i64 (pos : Int)) := (hb1.cell (p := ⟨r, 1, none⟩) HLT.out).trans HC1.out; have k2 : w1.frozen? ⟨r, 1, none⟩ = false := (hb1.frozen (p := ⟨r, 1, none⟩) HLT.out).trans HF.out; have HO1 := kept (Rd.of_own hown1); have HNW := kept (And.intro (new_of_own hown1) (own_cap hown1)); have HB1 := kept ((HH.out.drewN _).below hb1); have HOW := kept (Only.of_below (r := r) hb1); clear hown1 hb1))
 clear hq1 hq2; have HP := kept (HB1.out.set_pos (pos + m)); have HC : Hid (((pos + m : Nat) : Int) = (pos : Int) + (m : Int)) := Int.natCast_add pos m; have HR2 := fun u => kept (HB1.out.rd_other HO1.out 1 u)
 have HO2 := fun u => kept (((Only.refl w r).drewN _ |>.trans HOW.out).setCell 1 u)
 go_wp2; go_ret; refine ⟨A1, c1, rfl, ⟨(HR2 _).out, HNW.out⟩, ?_, (HO2 _).out⟩; rw [← HC.out]; exact HP.out
theorem bytes_any (r : Nat) (A : Option Addr) (n c : Nat) (xs : List UInt8) (s : Rst) (m : Nat) (w : World) (h : RS w r A n c xs s) (hm : m ≤ 140737488355328) :
 Calls Tryz.prog 185 #[.pointer (some ⟨r, 0, none⟩), .int .i64 (m : Int)] w fun e w' => ∃ A' n' c', e = .returned (.slice A' n' c') ∧ Hid (Rd w' A' n' (rbytes xs m s).1 ∧ New A' n' w.heap.size ∧ n' ≤ c' ∧ n' ≤ m) ∧ Hid (RS w' r A n c xs (rbytes xs m s).2 ∧ Only w w' r) := by
 obtain ⟨pos, err⟩ := s; have hl := h.len_; obtain ⟨hr, hp, he, hc, hb⟩ := h; simp only at hr hp he; by_cases h0 : err = 0
 · subst h0; by_cases hk : pos + m ≤ n
   · refine (bytes_new r A n c xs pos m w hr hb hc hk).mono ?_; rintro e w' ⟨A', c', rfl, ⟨h1, h2, h3⟩, hR, hO⟩; simp only [rbytes, hl, hk, if_true, ne_eq, not_true_eq_false, if_false]; exact ⟨A', m, c', rfl, ⟨h1, h2, h3, Nat.le_refl _⟩, ⟨hR, hk, .inl rfl, hc, hb⟩, hO⟩
   · refine (bytes_short r A n c xs pos m w hr hb hp (.inr (by omega)) (by omega)).mono ?_; rintro e w' ⟨rfl, hR, hO⟩; simp only [rbytes, hl, hk, ne_eq, not_true_eq_false, if_false]; exact ⟨none, 0, 0, rfl, ⟨Rd.nil_ _ _, New.nil_ _ _, Nat.le_refl _, Nat.zero_le _⟩, ⟨hR, hp, .inr rfl, hc, hb⟩, hO⟩
 · refine (bytes_stopped r A n c xs pos err m w hr h0).mono ?_; rintro e w' ⟨rfl, rfl⟩; simp only [rbytes, ne_eq, h0, not_false_eq_true, if_true]; exact ⟨none, 0, 0, rfl, ⟨Rd.nil_ _ _, New.nil_ _ _, Nat.le_refl _, Nat.zero_le _⟩, ⟨hr, hp, he, hc, hb⟩, Only.refl _ _⟩
theorem readID_any (r : Nat) (A : Option Addr) (n c : Nat) (xs : List UInt8) (s : Rst) (w : World) (h : RS w r A n c xs s) :
 Calls Tryz.prog 230 #[.pointer (some ⟨r, 0, none⟩)] w fun e w' => e = .returned (.int .i64 (((rnum xs 4 s).1 : Nat) : Int)) ∧ Hid (RS w' r A n c xs (rnum xs 4 s).2 ∧ Only w w' r) := by
 have HN := num4 r A n c xs s w h; have hlt := rnum_lt xs 4 s; obtain ⟨v, hv⟩ : ∃ v, (rnum xs 4 s).1 = v := ⟨_, rfl⟩
 obtain ⟨s', hs⟩ : ∃ s', (rnum xs 4 s).2 = s' := ⟨_, rfl⟩
 rw [hv, hs] at HN; rw [hv] at hlt ⊢; rw [hs]; have HN := kept HN; have hw : IntKind.i64.wrap (v : Int) = (v : Int) := IntWalk.i64_in _ ⟨by omega, by omega⟩; clear h hv hs; go_enter Tryz.func230, Tryz.ntmps230; go_wp2_with (first | (go_at_call 229; (with_reducible refine (HN.out).mono ?_); rintro e w2 ⟨rfl, h2⟩))
 go_ret; exact ⟨rfl, h2⟩
section
variable {w w' w0 : World} {r g : Nat} {A : Option Addr} {n c : Nat} {xs : List UInt8} {s : Rst} {t : TypeId} {cs : List Value}
theorem Blk.only (h : Blk w g t cs) (k : Only w w' r) (hne : g ≠ r) : Blk w' g t cs := (k.block g h.lt (fun e => hne (Option.some.inj e))).trans h
theorem RS.set_ (h : RS w r A n c xs s) (hg : r ≠ g) (ha : apartA A n g) (i : Nat) (u : Value) : RS (w.setCell ⟨g, i, none⟩ u) r A n c xs s :=
 ⟨⟨h.1.1.far hg u, h.1.2.grown ha ((Only.refl w g).setCell i u)⟩, h.2⟩
theorem RS.apart (h : RS w r A n c xs s) (hg : w.heap.size ≤ g) : apartA A n g := h.1.2.fresh hg
theorem RS.alloc (h : RS w r A n c xs s) (o : Obj) : RS (w.alloc o) r A n c xs s := h.below ((Below.refl _ _).alloc (Nat.le_refl _) o)
theorem Rd.only (h : Rd w A n xs) (ha : apartA A n r) (k : Only w w' r) : Rd w' A n xs := h.grown ha k
end
def Fro (ys : List UInt8) (pos : Nat) (zs : List UInt8) : Prop := ys.drop pos = zs ∧ pos ≤ ys.length
theorem Fro.skip {ys zs xs : List UInt8} {pos k : Nat} (h : Fro ys pos (xs ++ zs)) (hk : xs.length = k) : Fro ys (pos + k) zs ∧ part ys pos k = xs ∧ pos + k ≤ ys.length := by
 subst hk; have hl := congrArg List.length h.1; rw [List.length_drop, List.length_append] at hl; have hp := h.2; refine ⟨⟨?_, by omega⟩, ?_, by omega⟩
 · rw [← List.drop_drop, h.1, List.drop_left]
 · unfold part; rw [h.1, List.take_left]
theorem Fro.num {ys zs : List UInt8} {pos k v : Nat} (h : Fro ys pos (be v k ++ zs)) (hv : v < 256 ^ k) : rnum ys k (pos, 0) = (v, (pos + k, 0)) ∧ Fro ys (pos + k) zs := by
 obtain ⟨h1, h2, h3⟩ := h.skip (be_length v k); refine ⟨?_, h1⟩; unfold rnum; simp only [ne_eq, not_true_eq_false, if_false, h3, if_true, h2, num_be v k hv]
theorem Fro.bytes {ys zs b : List UInt8} {pos k : Nat} (h : Fro ys pos (b ++ zs)) (hk : b.length = k) : rbytes ys k (pos, 0) = (b, (pos + k, 0)) ∧ Fro ys (pos + k) zs := by
 obtain ⟨h1, h2, h3⟩ := h.skip hk; refine ⟨?_, h1⟩; unfold rbytes; simp only [ne_eq, not_true_eq_false, if_false, h3, if_true, h2]
structure Mt where
 txn : Nat
 root : Int
 spare : Int
 size : Int
 deriving DecidableEq
abbrev Mt.val (m : Mt) : Value := .agg #[.int .u64 (m.txn : Int), .int .i64 m.root, .int .i64 m.spare, .int .i64 m.size]
def zeroMt : Mt := ⟨0, 0, 0, 0⟩
def beginsB (z i : Int) : Bool := decide (i = 0) || (decide (2 ≤ i) && decide (i < z))
def rightM (m : Mt) : Bool := decide (8 ≤ m.size) && decide (m.size ≤ 1024) && beginsB m.size m.root && beginsB m.size m.spare
def headM (t r s z : Nat) : List UInt8 := [9] ++ be t 8 ++ [84, 69, 82, 82, 1] ++ be r 4 ++ be s 4 ++ be z 4
def bodyN (t r s z : Nat) : List UInt8 := headM t r s z ++ List.replicate 218 0 ++ be t 8
def bodyM (m : Mt) : List UInt8 := bodyN m.txn m.root.toNat m.spare.toNat m.size.toNat
theorem headM_length (t r s z : Nat) : (headM t r s z).length = 26 := by simp [headM, be_length]
theorem bodyN_length (t r s z : Nat) : (bodyN t r s z).length = 252 := by
 unfold bodyN; rw [List.length_append, List.length_append, headM_length, List.length_replicate, be_length]
theorem bodyM_length (m : Mt) : (bodyM m).length = 252 := bodyN_length _ _ _ _
theorem rightM_nat {m : Mt} (h : rightM m = true) : ∃ r s z : Nat, m = ⟨m.txn, (r : Int), (s : Int), (z : Int)⟩ ∧ r ≤ 1024 ∧ s ≤ 1024 ∧ z ≤ 1024 ∧ bodyM m = bodyN m.txn r s z := by
 obtain ⟨t, r, s, z⟩ := m; unfold rightM beginsB at h; simp only [Bool.and_eq_true, Bool.or_eq_true, decide_eq_true_eq] at h; refine ⟨r.toNat, s.toNat, z.toNat, ?_, by omega, by omega, by omega, rfl⟩; rw [show ((r.toNat : Nat) : Int) = r by omega, show ((s.toNat : Nat) : Int) = s by omega, show ((z.toNat : Nat) : Int) = z by omega]
theorem bel_to {w w1 w2 : World} (h : Below w1.heap.size w1 w2) (hb : Below w.heap.size w w1) : Below w.heap.size w w2 := hb.trans (h.mono hb.size)
abbrev Fou (W : World) (b : Nat) (t r s z : Int) : Prop :=
 W.cell? ⟨b, 0, none⟩ = some (.int .u64 t) ∧ W.cell? ⟨b, 1, none⟩ = some (.int .i64 r) ∧ W.cell? ⟨b, 2, none⟩ = some (.int .i64 s) ∧ W.cell? ⟨b, 3, none⟩ = some (.int .i64 z)
def Keeps (w w' : World) : Prop := w.heap.size ≤ w'.heap.size ∧ ∀ p : Addr, p.block < w.heap.size → w'.cell? p = w.cell? p
theorem Keeps.refl (w : World) : Keeps w w := ⟨Nat.le_refl _, fun _ _ => rfl⟩
theorem Keeps.trans {a b c : World} (h : Keeps a b) (k : Keeps b c) : Keeps a c := ⟨Nat.le_trans h.1 k.1, fun p hp => (k.2 p (Nat.lt_of_lt_of_le hp h.1)).trans (h.2 p hp)⟩
theorem Keeps.alloc (w : World) (o : Obj) : Keeps w (w.alloc o) := ⟨by simp, fun p hp => World.cell?_alloc_lt w o p hp⟩
theorem Keeps.of_below {w w' : World} (h : Below w.heap.size w w') : Keeps w w' := ⟨h.size, fun p hp => h.cell hp⟩
theorem Keeps.drew (w : World) : Keeps w w.drew := ⟨Nat.le_refl _, fun _ _ => rfl⟩
theorem Keeps.cell_ {w w' : World} (h : Keeps w w') {p : Addr} {v : Value} (hc : w.cell? p = some v) : w'.cell? p = some v := (h.2 p (World.block_lt_of_cell? w _ hc)).trans hc
theorem Rd.keeps {w w' : World} {A : Option Addr} {n : Nat} {xs : List UInt8} (h : Rd w A n xs) (k : Keeps w w') : Rd w' A n xs := h.keep k.2
theorem Fou.keeps {w w' : World} {b : Nat} {t r s z : Int} (h : Fou w b t r s z) (k : Keeps w w') : Fou w' b t r s z := ⟨k.cell_ h.1, k.cell_ h.2.1, k.cell_ h.2.2.1, k.cell_ h.2.2.2⟩
theorem Blk.fou {w : World} {b : Nat} {ty : TypeId} {t r s z : Int} (h : Blk w b ty [.int .u64 t, .int .i64 r, .int .i64 s, .int .i64 z]) : Fou w b t r s z := ⟨h.cell 0, h.cell 1, h.cell 2, h.cell 3⟩
theorem fou_new (w : World) (ty : TypeId) (t r s z : Int) : Fou (w.alloc (.cells #[.int .u64 t, .int .i64 r, .int .i64 s, .int .i64 z] ty)) w.heap.size t r s z := (Blk.new w ty #[.int .u64 t, .int .i64 r, .int .i64 s, .int .i64 z]).fou
theorem begins_any (t r s z i : Int) (w : World) (b : Bool) (hb : beginsB z i = b) :
 Calls Tryz.prog 170 #[.agg #[.int .u64 t, .int .i64 r, .int .i64 s, .int .i64 z], .int .i64 i] w fun e w' => e = .returned (.bool b) ∧ Below w.heap.size w w' := by
 subst hb; go_enter Tryz.func170, Tryz.ntmps170; go_wp2
 all_goals
  go_ret; exact ⟨ret_bool (by rw [Bool.eq_iff_iff]; simp [beginsB] <;> omega), (Below.refl _ _).alloc (Nat.le_refl _) _⟩
theorem right_m (m : Mt) (w : World) :
 Calls Tryz.prog 120 #[m.val] w fun e w' => e = .returned (.bool (rightM m)) ∧ Below w.heap.size w w' := by
 obtain ⟨t, r, s, z⟩ := m; have HR : Hid (rightM ⟨t, r, s, z⟩ = (decide (8 ≤ z) && decide (z ≤ 1024) && beginsB z r && beginsB z s)) := rfl; have hc1 := fun w => kept (begins_any t r s z r w _ rfl)
 have hc2 := fun w => kept (begins_any t r s z s w _ rfl)
 have HF := kept (fou_new w 88 t r s z); have HB0 := kept ((Below.refl w.heap.size w).alloc (Nat.le_refl _) (.cells #[.int .u64 (t : Int), .int .i64 r, .int .i64 s, .int .i64 z] 88)); generalize rightM ⟨t, r, s, z⟩ = o at HR; generalize beginsB z r = b1 at HR hc1; generalize beginsB z s = b2 at HR hc2; by_cases h8 : z < 8
 · have HO : Hid (o = false) := by show _ = _; rw [HR.out]; simp; omega
   go_enter Tryz.func120, Tryz.ntmps120; go_wp2; go_ret; exact ⟨ret_bool HO.out.symm, HB0.out⟩
 by_cases h9 : 1024 < z
 · have HO : Hid (o = false) := by show _ = _; rw [HR.out]; simp; omega
   have g1 : 8 ≤ z := by omega
   go_enter Tryz.func120, Tryz.ntmps120; go_wp2; go_ret; exact ⟨ret_bool HO.out.symm, HB0.out⟩
 have HO : Hid (o = (b1 && b2)) := by show _ = _; rw [HR.out]; simp [show 8 ≤ z by omega, show z ≤ 1024 by omega]
 have g1 : 8 ≤ z := by omega
 have g2 : z ≤ 1024 := by omega
 clear h8 h9; cases b1
 · go_enter Tryz.func120, Tryz.ntmps120; go_wp2_with (first | (go_at_call 170; (with_reducible refine ((hc1 _).out).mono ?_); rintro e w1 ⟨rfl, hb1⟩; have HB1 := kept (bel_to hb1 HB0.out); clear hb1))
   go_ret; exact ⟨ret_bool HO.out.symm, HB1.out⟩
 · go_enter Tryz.func120, Tryz.ntmps120; go_wp2_with fail
   with_reducible refine (hc1 _).out.mono ?_
   rintro e w1 ⟨rfl, hb1⟩; obtain ⟨n0, n1, n2, n3⟩ := HF.out.keeps (Keeps.of_below hb1); have HB1 := kept (bel_to hb1 HB0.out); clear hb1; go_wp2_with (first | (go_at_call 170; (with_reducible refine ((hc2 _).out).mono ?_); rintro e w2 ⟨rfl, hb2⟩; have HB2 := kept (bel_to hb2 HB1.out); clear hb2))
   go_ret; exact ⟨ret_bool (by rw [HO.out]; rfl), HB2.out⟩
theorem place_any (t : Nat) (r s z : Int) (w : World) (ht : t < 18446744073709551616) :
 Calls Tryz.prog 181 #[.agg #[.int .u64 (t : Int), .int .i64 r, .int .i64 s, .int .i64 z]] w fun e w' => e = .returned (.int .u64 ((t % 2 : Nat) : Int)) ∧ Below w.heap.size w w' := by
 go_enter Tryz.func181, Tryz.ntmps181; go_wp2; go_ret; exact ⟨ret_int (by first | rfl | simp | omega), (Below.refl _ _).alloc (Nat.le_refl _) _⟩
theorem bytesEqual_any (A B : Option Addr) (n m c d : Nat) (xs ys : List UInt8) (w : World) (h1 : Rd w A n xs) (h2 : Rd w B m ys) (b : Bool) (hb : decide (xs = ys) = b) :
 Calls Tryz.prog 226 #[.slice A n c, .slice B m d] w fun e w' => e = .returned (.bool b) ∧ w = w' := by
 have c1 := h1.string (P := Tryz.prog) c 46 5 9 Tryz.underlying46 Tryz.underlying5 Tryz.underlying9; have c2 := h2.string (P := Tryz.prog) d 46 5 9 Tryz.underlying46 Tryz.underlying5 Tryz.underlying9; have hbb : ((strOf xs).toList == (strOf ys).toList) = b := by
  rw [strOf_toList, strOf_toList, ← hb]; by_cases h : xs = ys
  · simp [h]
  · simp [h]
 clear hb h1 h2; generalize strOf xs = s1 at c1 hbb; generalize strOf ys = s2 at c2 hbb; cases b <;> (go_enter Tryz.func226, Tryz.ntmps226; go_wp2; go_ret; exact ⟨rfl, rfl⟩)
theorem number_any (n s : Nat) (w : World) (h1 : 1 ≤ s) (h2 : s ≤ 8) (hn : n < 256 ^ s) :
 Calls Tryz.prog 121 #[.int .u64 (n : Int), .int .i64 (s : Int)] w fun e w' => ∃ A c, e = .returned (.slice A s c) ∧ w'.ownsRow w.heap.size 5 1 (.slice A s c) s (cellsOf (be n s)) ∧ Below w.heap.size w w' := by
 have HP := kept (put_ok n s w h1 h2 hn); clear hn; go_enter Tryz.func121, Tryz.ntmps121; go_wp2_with (first | (go_at_call 171; (with_reducible refine (HP.out).mono ?_); rintro e w1 ⟨A1, c1, rfl, hown, hb⟩; have HO := kept hown; have HB := kept hb; clear hown hb))
 go_ret; exact ⟨A1, c1, rfl, HO.out, HB.out⟩
theorem number1 (w : World) : Calls Tryz.prog 121 #[.int .u64 9, .int .i64 1] w fun e w' => ∃ A c, e = .returned (.slice A 1 c) ∧ w'.ownsRow w.heap.size 5 1 (.slice A 1 c) 1 (cellsOf [9]) ∧ Below w.heap.size w w' := number_any 9 1 w (by omega) (by omega) (by omega)
theorem number8 (n : Nat) (w : World) (hn : n < 18446744073709551616) : Calls Tryz.prog 121 #[.int .u64 (n : Int), .int .i64 8] w fun e w' => ∃ A c, e = .returned (.slice A 8 c) ∧ w'.ownsRow w.heap.size 5 1 (.slice A 8 c) 8 (cellsOf (be n 8)) ∧ Below w.heap.size w w' := number_any n 8 w (by omega) (by omega) (by omega)
theorem number4 (n : Nat) (w : World) (hn : n ≤ 1024) : Calls Tryz.prog 121 #[.int .u64 (n : Int), .int .i64 4] w fun e w' => ∃ A c, e = .returned (.slice A 4 c) ∧ w'.ownsRow w.heap.size 5 1 (.slice A 4 c) 4 (cellsOf (be n 4)) ∧ Below w.heap.size w w' := number_any n 4 w (by omega) (by omega) (by omega)
theorem id_any (n : Nat) (w : World) (hn : n ≤ 1024) : Calls Tryz.prog 123 #[.int .i64 (n : Int)] w fun e w' => ∃ A c, e = .returned (.slice A 4 c) ∧ w'.ownsRow w.heap.size 5 1 (.slice A 4 c) 4 (cellsOf (be n 4)) ∧ Below w.heap.size w w' := by
 have HP := kept (number4 n w hn); go_enter Tryz.func123, Tryz.ntmps123; go_wp2_with (first | (go_at_call 121; (with_reducible refine (HP.out).mono ?_); rintro e w1 ⟨A1, c1, rfl, hown, hb⟩; have HO := kept hown; have HB := kept hb; clear hown hb))
 go_ret; exact ⟨A1, c1, rfl, HO.out, HB.out⟩
end Go.Proofs.YtblbhhijddcbeaaGreatDoor
end
