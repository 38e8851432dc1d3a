/-
  terrierlaw04.few: little enough.
-/
import Derived.Test.YtfgpkgenahlikaaDoorOf
namespace Go.Proofs.YtfgpkgenahlikaaDoor
open Go.ChangeShapes Go.WideShapes Go.ChangeAt Go.RowKit
set_option linter.unusedVariables false
set_option linter.unusedSimpArgs false

def fewI (x : Itm) : Bool := decide (x.key.length ≤ 1000) && decide (x.val.length ≤ 1000)
def fewK (x : Kd) : Bool := decide (x.key.length ≤ 1000)
def fewB (P : Pg) : Bool := decide (P.items.length ≤ 300 ∧ P.kids.length ≤ 300 ∧ P.data.length ≤ 1000 ∧ P.ids.length ≤ 300) && P.items.all fewI && P.kids.all fewK
theorem ret_bools {a b : Bool} (h : b = a) : Ending.returned (.bool a) = Ending.returned (.bool b) := by rw [h]
theorem all_bad {α : Type} {f : α → Bool} {I : List α} {k : Nat} (hk : k < I.length) (h : f I[k] = false) : I.all f = false := by
  rw [List.all_eq_false]
  exact ⟨I[k], List.getElem_mem hk, by simp [h]⟩
theorem all_step {α : Type} {f : α → Bool} {I : List α} {k : Nat} (hk : k < I.length) (h : (I.take k).all f = true) (h1 : f I[k] = true) : (I.take (k + 1)).all f = true := by
  rw [List.take_succ_eq_append_getElem hk, List.all_append, h]
  simp [h1]
set_option maxRecDepth 100000 in
set_option maxHeartbeats 2000000 in
theorem few_any (l : Lay) (P : Pg) (w : World) (h : RdPg w l P) :
    Calls Tryd.prog 12 #[l.val] w fun e w' => e = .returned (.bool (fewB P)) ∧ Below w.heap.size w w' := by
  have HI := kept h.items
  have HK := kept h.kids
  have HF : Hid (fewB P = (decide (l.n1 ≤ 300 ∧ l.n2 ≤ 300 ∧ l.n3 ≤ 1000 ∧ l.n4 ≤ 300) && P.items.all fewI && P.kids.all fewK)) := by
    show _ = _
    rw [← h.n1, ← h.n2, ← h.n3, ← h.n4]
    rfl
  generalize fewB P = res at HF
  obtain ⟨I, hI⟩ : ∃ I, P.items = I := ⟨_, rfl⟩
  obtain ⟨J, hJ⟩ : ∃ J, P.kids = J := ⟨_, rfl⟩
  rw [hI] at HI HF
  rw [hJ] at HK HF
  clear h hI hJ
  obtain ⟨kind, txn, next, a1, n1, c1, a2, n2, c2, a3, n3, c3, a4, n4, c4⟩ := l
  simp only at HI HK HF
  by_cases hh : n1 ≤ 300 ∧ n2 ≤ 300 ∧ n3 ≤ 1000 ∧ n4 ≤ 300
  · obtain ⟨q1, q2, q3, q4⟩ := hh
    have HR : Hid (res = (I.all fewI && J.all fewK)) := kept (by rw [HF.out]; simp [q1, q2, q3, q4])
    clear HF
    have e1 : decide ((300 : Int) < (n1 : Int)) = false := by simp; omega
    have e2 : decide ((300 : Int) < (n2 : Int)) = false := by simp; omega
    have e3 : decide ((1000 : Int) < (n3 : Int)) = false := by simp; omega
    have e4 : decide ((300 : Int) < (n4 : Int)) = false := by simp; omega
    go_enter Tryd.func12, Tryd.ntmps12
    go_wp2
    have hb0 : Below w.heap.size w (w.alloc (.cells #[.int .i64 kind, .int .u64 txn, .int .i64 next, .slice a1 n1 c1, .slice a2 n2 c2, .slice a3 n3 c3, .slice a4 n4 c4] 28)) := (Below.refl _ _).alloc (Nat.le_refl _) _
    have hc4 : (w.alloc (.cells #[.int .i64 kind, .int .u64 txn, .int .i64 next, .slice a1 n1 c1, .slice a2 n2 c2, .slice a3 n3 c3, .slice a4 n4 c4] 28)).cell? ⟨w.heap.size, 4, none⟩ = some (.slice a2 n2 c2) := by rw [cell_of_row _ w.heap.size 4 _ _ _ (heap_alloc_new w _)]; rfl
    generalize (w.alloc (.cells #[.int .i64 kind, .int .u64 txn, .int .i64 next, .slice a1 n1 c1, .slice a2 n2 c2, .slice a3 n3 c3, .slice a4 n4 c4] 28)) = W0 at hb0 hc4 ⊢
    have HB0 := kept hb0
    have HC4 := kept hc4
    clear hb0 hc4 e1 e2 e3 e4
    go_loopw [32] (fun i wr => ∃ k : Nat, k ≤ n1 ∧ i = .int .i64 k ∧ Hid (Below W0.heap.size W0 wr ∧ (I.take k).all fewI = true)) (fun i _ => n1 - (intOf i).toNat)
    case atStart => exact ⟨0, by omega, rfl, kept ⟨Below.refl _ _, rfl⟩⟩
    case round =>
      obtain ⟨k, hk, rfl, HST⟩ := hrel
      by_cases hlt : k < n1
      · have hki : k < I.length := by rw [HI.out.1]; exact hlt
        obtain ⟨bb, o, L, rfl, hrd, hc0, hc1, hc2, hc3⟩ := (HI.out.below (below_to HST.out.1 HB0.out)).at_ hlt
        have HBA : Hid (∀ o, Below W0.heap.size W0 (wr.alloc o)) := kept (fun o => HST.out.1.alloc HST.out.1.size o)
        have HOK : Hid ((L.kn ≤ 1000 ∧ L.vn ≤ 1000) → (I.take (k + 1)).all fewI = true) := kept (fun h => all_step hki HST.out.2 (by unfold fewI; rw [hrd.1.1, hrd.2.1.1]; simp [h.1, h.2]))
        have HBAD : Hid (¬ (L.kn ≤ 1000 ∧ L.vn ≤ 1000) → res = false) := kept (fun h => by rw [HR.out, all_bad hki (by unfold fewI; rw [hrd.1.1, hrd.2.1.1]; simp; omega)]; rfl)
        obtain ⟨ka, kn, kc, va, vn, vc, size, more⟩ := L
        simp only at hc0 hc1 hc2 hc3 HOK HBAD
        clear hrd hki
        by_cases hh : kn ≤ 1000 ∧ vn ≤ 1000
        · have HX := kept (HOK.out hh)
          obtain ⟨g1, g2⟩ := hh
          have e1 : decide ((1000 : Int) < (kn : Int)) = false := by simp; omega
          have e2 : decide ((1000 : Int) < (vn : Int)) = false := by simp; omega
          go_wp2
          go_roundw
          case rel => exact ⟨k + 1, by omega, by go_num, kept ⟨HBA.out _, HX.out⟩⟩
          case measure => simp [intOf]; omega
        · have HX := kept (HBAD.out hh)
          go_wp2
          all_goals first
            | (go_ret; exact ⟨ret_bools HX.out, below_to (HBA.out _) HB0.out⟩)
            | (exfalso; omega)
      · obtain rfl : k = n1 := by omega
        have HIA : Hid (I.all fewI = true) := kept (by have := HST.out.2; rwa [← HI.out.1, List.take_length] at this)
        have hc4 := cell_below HST.out.1 HC4.out
        have HBR := kept (below_to HST.out.1 HB0.out)
        go_wp2
        go_loopw [50] (fun i wx => ∃ j : Nat, j ≤ n2 ∧ i = .int .i64 j ∧ Hid (Below wr.heap.size wr wx ∧ (J.take j).all fewK = true)) (fun i _ => n2 - (intOf i).toNat)
        case atStart => exact ⟨0, by omega, rfl, kept ⟨Below.refl _ _, rfl⟩⟩
        case round =>
          obtain ⟨j, hj, rfl, HS2⟩ := hrel
          rename World => wx
          by_cases hlt : j < n2
          · have hki : j < J.length := by rw [HK.out.1]; exact hlt
            obtain ⟨bb, o, L, rfl, hrd, hc0, hc1⟩ := (HK.out.below (below_to HS2.out.1 HBR.out)).at_ hlt
            have HBA : Hid (∀ o, Below wr.heap.size wr (wx.alloc o)) := kept (fun o => HS2.out.1.alloc HS2.out.1.size o)
            have HOK : Hid (L.kn ≤ 1000 → (J.take (j + 1)).all fewK = true) := kept (fun h => all_step hki HS2.out.2 (by unfold fewK; rw [hrd.1.1]; simp [h]))
            have HBAD : Hid (¬ L.kn ≤ 1000 → res = false) := kept (fun h => by rw [HR.out, all_bad hki (by unfold fewK; rw [hrd.1.1]; simp; omega)]; simp)
            obtain ⟨ka, kn, kc, page⟩ := L
            simp only at hc0 hc1 HOK HBAD
            clear hrd hki
            by_cases hh : kn ≤ 1000
            · have HX := kept (HOK.out hh)
              have e1 : decide ((1000 : Int) < (kn : Int)) = false := by simp; omega
              go_wp2
              go_roundw
              case rel => exact ⟨j + 1, by omega, by go_num, kept ⟨HBA.out _, HX.out⟩⟩
              case measure => simp [intOf]; omega
            · have HX := kept (HBAD.out hh)
              go_wp2
              go_ret
              exact ⟨ret_bools HX.out, below_to (HBA.out _) HBR.out⟩
          · obtain rfl : j = n2 := by omega
            have HRES : Hid (res = true) := kept (by have := HS2.out.2; rw [HR.out, HIA.out]; rwa [← HK.out.1, List.take_length] at this)
            go_wp2
            go_ret
            exact ⟨ret_bools HRES.out, below_to HS2.out.1 HBR.out⟩
  · have HR : Hid (res = false) := kept (by rw [HF.out, decide_eq_false hh]; rfl)
    go_enter Tryd.func12, Tryd.ntmps12
    go_wp2
    all_goals first
      | (go_ret; exact ⟨ret_bools HR.out, (Below.refl _ _).alloc (Nat.le_refl _) _⟩)
      | (exfalso; omega)
end Go.Proofs.YtfgpkgenahlikaaDoor
