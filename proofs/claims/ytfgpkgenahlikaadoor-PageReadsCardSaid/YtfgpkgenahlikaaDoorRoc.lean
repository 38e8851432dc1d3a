/-
  terrierref04.room of a page of kind 3, and of no kind.
-/
import Derived.Test.YtfgpkgenahlikaaDoorRb
import Derived.Deep.DeepCutAuto
namespace Go.Proofs.YtfgpkgenahlikaaDoor
open Go.ChangeShapes Go.WideShapes Go.ChangeAt Go.RowKit
set_option linter.unusedVariables false
set_option linter.unusedSimpArgs false

set_option maxRecDepth 100000 in
theorem roomX_any (l : Lay) (P : Pg) (w : World) (h : RdPg w l P) (h1 : l.kind ≠ 1) (h2 : l.kind ≠ 2) (h3 : l.kind ≠ 3) (h4 : l.kind ≠ 4) :
    Calls Tryd.prog 39 #[l.val] w (RoomAns P w) := by
  have HF : Hid (rightB P = false) := by
    show _ = _
    have hk := h.kind
    have : ownB P = false := by
      unfold ownB
      rw [Bool.eq_false_iff]
      intro hh
      simp only [Bool.and_eq_true, Bool.or_eq_true, decide_eq_true_eq] at hh
      omega
    unfold rightB
    rw [this]
    simp
  obtain ⟨kind, txn, next, a1, n1, c1, a2, n2, c2, a3, n3, c3, a4, n4, c4⟩ := l
  simp only at h1 h2 h3 h4
  have g1 : (kind == 1) = false := by rw [beq_eq_false_iff_ne]; exact h1
  have g2 : (kind == 2) = false := by rw [beq_eq_false_iff_ne]; exact h2
  have g3 : (kind == 3) = false := by rw [beq_eq_false_iff_ne]; exact h3
  have g4 : (kind == 4) = false := by rw [beq_eq_false_iff_ne]; exact h4
  clear h h1 h2 h3 h4
  go_enter Tryd.func39, Tryd.ntmps39
  go_wp2
  go_ret3
  exact .inr ⟨HF.out, rfl, ((Below.refl _ _).alloc (Nat.le_refl _) _).alloc (by simp) _⟩
set_option maxRecDepth 100000 in
set_option maxHeartbeats 4000000 in
theorem room3_any (l : Lay) (P : Pg) (w : World) (h : RdPg w l P) (hk : l.kind = 3) :
    Calls Tryd.prog 39 #[l.val] w (RoomAns P w) := by
  have hkP : P.kind = 3 := by rw [h.kind, hk]
  have hr3 := right3 hkP
  have HD := kept h.data
  have hL : cntP P = l.n1 + l.n2 + l.n3 + l.n4 ∧ P.items.length = l.n1 ∧ P.kids.length = l.n2 ∧ P.data.length = l.n3 ∧ P.ids.length = l.n4 := ⟨by unfold cntP; rw [h.n1, h.n2, h.n3, h.n4], h.n1, h.n2, h.n3, h.n4⟩
  rw [hL.2.2.2.1] at hr3
  have HR3 := kept hr3
  have HLN := kept hL
  have HNX := kept h.next
  have HUS := kept (fun (h0 : P.items.length + P.kids.length + P.ids.length = 0) => (show roomOf P = P.data ∧ usedN P = P.data.length from by
    have e1 : P.items = [] := List.eq_nil_of_length_eq_zero (by omega)
    have e2 : P.kids = [] := List.eq_nil_of_length_eq_zero (by omega)
    have e3 : P.ids = [] := List.eq_nil_of_length_eq_zero (by omega)
    refine ⟨?_, ?_⟩
    · unfold roomOf
      rw [e1, e2, e3]
      simp
    · unfold usedN
      rw [e1, e2, e3]
      simp))
  have hb := And.intro h.b1 (And.intro h.b2 (And.intro h.b3 h.b4))
  obtain ⟨s1, hs1⟩ : ∃ s : Nat, s = l.n1 + l.n2 := ⟨_, rfl⟩
  obtain ⟨s2, hs2⟩ : ∃ s : Nat, s = s1 + l.n3 := ⟨_, rfl⟩
  obtain ⟨s3, hs3⟩ : ∃ s : Nat, s = s2 + l.n4 := ⟨_, rfl⟩
  obtain ⟨s4, hs4⟩ : ∃ s : Nat, s = l.n1 + l.n2 + l.n4 := ⟨_, rfl⟩
  have hw1 : IntKind.i64.wrap ((l.n1 : Int) + (l.n2 : Int)) = (s1 : Int) := by rw [show (l.n1 : Int) + (l.n2 : Int) = (s1 : Int) by omega]; exact IntWalk.i64_in _ ⟨by omega, by omega⟩
  have hw2 : IntKind.i64.wrap ((s1 : Int) + (l.n3 : Int)) = (s2 : Int) := by rw [show (s1 : Int) + (l.n3 : Int) = (s2 : Int) by omega]; exact IntWalk.i64_in _ ⟨by omega, by omega⟩
  have hw3 : IntKind.i64.wrap ((s2 : Int) + (l.n4 : Int)) = (s3 : Int) := by rw [show (s2 : Int) + (l.n4 : Int) = (s3 : Int) by omega]; exact IntWalk.i64_in _ ⟨by omega, by omega⟩
  have hw4 : IntKind.i64.wrap ((s3 : Int) - (l.n3 : Int)) = (s4 : Int) := by rw [show (s3 : Int) - (l.n3 : Int) = (s4 : Int) by omega]; exact IntWalk.i64_in _ ⟨by omega, by omega⟩
  have HS2 := kept hs4
  have HN := kept h.b3
  obtain ⟨D, hD⟩ : ∃ D, P.data = D := ⟨_, rfl⟩
  rw [hD] at HD HUS
  clear h hkP hL hs1 hs2 hs3 hs4 hb hD hr3
  obtain ⟨kind, txn, next, a1, n1, c1, a2, n2, c2, a3, n3, c3, a4, n4, c4⟩ := l
  simp only at hk hw1 hw2 hw3 hw4 HD HLN HNX HS2 HN HR3
  subst hk
  have HRO := kept (ro_new w 3 txn next a1 n1 c1 a2 n2 c2 a3 n3 c3 a4 n4 c4)
  go_enter Tryd.func39, Tryd.ntmps39
  go_upto_region 43 with (at_builtin; refine wpList_append_is (xs := []) rfl (.tmp 189) (.tmp 191) 25 rfl (w.heap.size + 1) 5 rfl rfl Tryd.underlying25 u8info HRO.out.own (HD.out.below (HRO.out.below.trans (HRO.out.next_.mono (Nat.le_succ _)))) (by have := HN.out; omega) (by simp) n3 D (by omega) rfl ?_; intro A c w3 hown3 hb3; obtain ⟨z0, z1, z2, z3, z4, z5, z6⟩ := sev_old HRO.out.box (HRO.out.next_.trans hb3); have HO := kept hown3; have HBX := kept (HRO.out.below.trans ((HRO.out.next_.trans hb3).mono (Nat.le_succ _))); clear hown3 hb3)
  have hs2 := HS2.out
  have hll := HLN.out
  have hnx := HNX.out
  by_cases t0 : n3 = 0
  · have HFF : Hid (rightB P = false) := kept (by rw [HR3.out, decide_eq_false (p := 0 < n3) (by omega)]; simp)
    have g0 : ((n3 : Int) == 0) = true := by rw [beq_iff_eq]; omega
    clear hs2 hll hnx t0
    go_wp2
    all_goals
      go_ret3
      exact .inr ⟨HFF.out, rfl, HBX.out⟩
  have g0 : ((n3 : Int) == 0) = false := by rw [beq_eq_false_iff_ne]; omega
  by_cases t1 : s4 = 0
  · have g1 : ((s4 : Int) != 0) = false := by rw [t1]; rfl
    by_cases t2 : 237 < n3
    · have HFF : Hid (rightB P = false) := kept (by rw [HR3.out, decide_eq_false (p := n3 ≤ 237) (by omega)]; simp)
      have g2 : decide ((237 : Int) < (n3 : Int)) = true := by rw [decide_eq_true_eq]; omega
      clear hs2 hll hnx t0 t1 t2
      go_wp2
      all_goals
        go_ret3
        exact .inr ⟨HFF.out, rfl, HBX.out⟩
    have g2 : decide ((237 : Int) < (n3 : Int)) = false := by rw [decide_eq_false_iff_not]; omega
    by_cases t3 : next < 0
    · have HFF : Hid (rightB P = false) := kept (by rw [HR3.out, decide_eq_false (p := 0 ≤ P.next) (by omega)]; simp)
      have g3 : decide (next < 0) = true := by rw [decide_eq_true_eq]; omega
      clear hs2 hll hnx t0 t1 t2 t3
      go_wp2
      all_goals
        go_ret3
        exact .inr ⟨HFF.out, rfl, HBX.out⟩
    have g3 : decide (next < 0) = false := by rw [decide_eq_false_iff_not]; omega
    by_cases t4 : 1024 ≤ next
    · have HFF : Hid (rightB P = false) := kept (by rw [HR3.out, decide_eq_false (p := P.next < 1024) (by omega)]; simp)
      have g4 : decide (1024 ≤ next) = true := by rw [decide_eq_true_eq]; omega
      clear hs2 hll hnx t0 t1 t2 t3 t4
      go_wp2
      all_goals
        go_ret3
        exact .inr ⟨HFF.out, rfl, HBX.out⟩
    have g4 : decide (1024 ≤ next) = false := by rw [decide_eq_false_iff_not]; omega
    have HTT : Hid (rightB P = true) := kept (by rw [HR3.out]; simp only [Bool.and_eq_true, decide_eq_true_eq]; omega)
    have hus := HUS.out (by omega)
    have HU1 := kept hus
    have HDL : Hid (D.length = n3) := kept HD.out.1
    have HU2 : Hid (cntP P = n3) := kept (by omega)
    clear hs2 hll hnx t0 t1 t2 t3 t4 hus
    go_wp2
    all_goals
      go_ret3
      refine .inl ⟨HTT.out, ⟨A, c, by rw [HU1.out.2, HU2.out, HDL.out] <;> first | done | rfl | (simp <;> omega), ?_⟩, HBX.out⟩
      rw [HU1.out.1, HU1.out.2, HDL.out]
      exact own_mono HO.out (Nat.le_succ _)
  · have HFF : Hid (rightB P = false) := kept (by rw [HR3.out, decide_eq_false (p := P.items.length + P.kids.length + P.ids.length = 0) (by omega)]; simp)
    have g1 : ((s4 : Int) != 0) = true := by rw [bne_iff_ne]; omega
    clear hs2 hll hnx t0 t1
    go_wp2
    all_goals
      go_ret3
      exact .inr ⟨HFF.out, rfl, HBX.out⟩
end Go.Proofs.YtfgpkgenahlikaaDoor
