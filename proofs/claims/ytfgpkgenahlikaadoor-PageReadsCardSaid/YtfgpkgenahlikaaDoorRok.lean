/-
  terrierref04.room of a page of kind 2: kids.
-/
import Derived.Test.YtfgpkgenahlikaaDoorRb
import Derived.Deep.DeepCutAuto
namespace Go.Proofs.YtfgpkgenahlikaaDoor
open Go.ChangeShapes Go.WideShapes Go.ChangeAt Go.RowKit
set_option linter.unusedVariables false
set_option linter.unusedSimpArgs false

theorem rd_u8 (X : World) (n : Nat) (v : Value) (h : n < 256) (e : v = .int .u8 (n : Int)) : Rd (X.alloc (.cells #[v] 5)) (some ⟨X.heap.size, 0, none⟩) 1 (be n 1) := by
  subst e
  have hb : be n 1 = [UInt8.ofNat n] := by rw [be_cons]; simp [be]
  have h2 := Rd.marked X 5 [UInt8.ofNat n] (0, 0)
  rw [hb]
  have e2 : (cellsOf [UInt8.ofNat n]).toArray = #[Value.int .u8 (n : Int)] := by
    simp [cellsOf, byteV]
    omega
  rw [e2] at h2
  exact h2
set_option maxRecDepth 100000 in
set_option maxHeartbeats 8000000 in
theorem room2_any (l : Lay) (P : Pg) (w : World) (h : RdPg w l P) (hk : l.kind = 2) (hn : l.n2 ≤ 1000) :
    Calls Tryd.prog 39 #[l.val] w (RoomAns P w) := by
  have hkP : P.kind = 2 := by rw [h.kind, hk]
  have HR2 := kept (fun ho => right2 hkP ho)
  have HK := kept h.kids
  have HKN := kept h.n2
  have hL : cntP P = l.n1 + l.n2 + l.n3 + l.n4 ∧ P.items.length = l.n1 ∧ P.kids.length = l.n2 ∧ P.data.length = l.n3 ∧ P.ids.length = l.n4 := ⟨by unfold cntP; rw [h.n1, h.n2, h.n3, h.n4], h.n1, h.n2, h.n3, h.n4⟩
  have HLN := kept hL
  have HNX := kept h.next
  have HRN := kept (fun (ho : ordU kidOk cmpK P.kids P.kids.length = false) => rightB_no_things (P := P) (by unfold thingsB; rw [ho]; simp))
  have HUS := kept (fun (h0 : P.items.length + P.data.length + P.ids.length = 0) => (show roomOf P = encTo encKid P.kids P.kids.length from by
    have e1 : P.items = [] := List.eq_nil_of_length_eq_zero (by omega)
    have e2 : P.data = [] := List.eq_nil_of_length_eq_zero (by omega)
    have e3 : P.ids = [] := List.eq_nil_of_length_eq_zero (by omega)
    unfold roomOf
    rw [e1, e2, e3, encTo_all]
    simp))
  have HUQ2 := kept (roomOf_length P)
  have hb := And.intro h.b1 (And.intro h.b2 (And.intro h.b3 h.b4))
  obtain ⟨s1, hs1⟩ : ∃ s : Nat, s = l.n1 + l.n2 := ⟨_, rfl⟩
  obtain ⟨s2, hs2⟩ : ∃ s : Nat, s = s1 + l.n3 := ⟨_, rfl⟩
  obtain ⟨s3, hs3⟩ : ∃ s : Nat, s = s2 + l.n4 := ⟨_, rfl⟩
  obtain ⟨s4, hs4⟩ : ∃ s : Nat, s = l.n1 + l.n3 + l.n4 := ⟨_, rfl⟩
  have hw1 : IntKind.i64.wrap ((l.n1 : Int) + (l.n2 : Int)) = (s1 : Int) := by rw [show (l.n1 : Int) + (l.n2 : Int) = (s1 : Int) by omega]; exact IntWalk.i64_in _ ⟨by omega, by omega⟩
  have hw2 : IntKind.i64.wrap ((s1 : Int) + (l.n3 : Int)) = (s2 : Int) := by rw [show (s1 : Int) + (l.n3 : Int) = (s2 : Int) by omega]; exact IntWalk.i64_in _ ⟨by omega, by omega⟩
  have hw3 : IntKind.i64.wrap ((s2 : Int) + (l.n4 : Int)) = (s3 : Int) := by rw [show (s2 : Int) + (l.n4 : Int) = (s3 : Int) by omega]; exact IntWalk.i64_in _ ⟨by omega, by omega⟩
  have hw4 : IntKind.i64.wrap ((s3 : Int) - (l.n2 : Int)) = (s4 : Int) := by rw [show (s3 : Int) - (l.n2 : Int) = (s4 : Int) by omega]; exact IntWalk.i64_in _ ⟨by omega, by omega⟩
  have HS2 := kept hs4
  have HN := kept hn
  obtain ⟨J, hJ⟩ : ∃ J, P.kids = J := ⟨_, rfl⟩
  rw [hJ] at HR2 HK HKN HRN HUS
  clear h hkP hL hs1 hs2 hs3 hs4 hb hJ
  obtain ⟨kind, txn, next, a1, n1, c1, a2, n2, c2, a3, n3, c3, a4, n4, c4⟩ := l
  simp only at hk hw1 hw2 hw3 hw4 hn HK HKN HLN HNX HS2 HN
  subst hk
  have HRO := kept (ro_new w 2 txn next a1 n1 c1 a2 n2 c2 a3 n3 c3 a4 n4 c4)
  go_enter Tryd.func39, Tryd.ntmps39
  go_wp2
  generalize (w.alloc (.cells #[.int .i64 2, .int .u64 txn, .int .i64 next, .slice a1 n1 c1, .slice a2 n2 c2, .slice a3 n3 c3, .slice a4 n4 c4] 34)) = w1 at HRO ⊢
  generalize (w1.alloc (.cells #[] 5)) = w2 at HRO ⊢
  have HBW := kept (fun (X : World) (hX : Below (w.heap.size + 1) w1 X) => HRO.out.below.trans (hX.mono (Nat.le_succ _)))
  have HSB := kept (fun (X : World) (hX : Below (w.heap.size + 1) w1 X) => (show w.heap.size + 1 ≤ X.heap.size from Nat.le_trans (Nat.le_of_eq HRO.out.size.symm) hX.size))
  have HSV := kept (fun (X : World) (hX : Below (w.heap.size + 1) w1 X) => sev_old HRO.out.box hX)
  go_loopw [5, 134] (fun ob i wr => ∃ (k u : Nat) (A : Option Addr) (c : Nat), k ≤ n2 ∧ i = .int .i64 k ∧ ob = .slice A u c ∧ Hid ((encTo encKid J k).length = u ∧ u ≤ 37 * k) ∧ Hid (wr.ownsRow (w.heap.size + 1) 5 1 (.slice A u c) u (cellsOf (encTo encKid J k))) ∧ Hid (Below (w.heap.size + 1) w1 wr) ∧ Hid (ordU kidOk cmpK J k = true)) (fun _ i _ => n2 - (intOf i).toNat)
  case atStart => exact ⟨0, 0, _, _, by omega, rfl, rfl, kept ⟨rfl, by omega⟩, kept HRO.out.own, kept HRO.out.next_, ordU_zero⟩
  case round =>
    obtain ⟨k, u, A, c, hk, rfl, rfl, HUQ, HO, HB, HU⟩ := hrel
    by_cases hlt : k < n2
    · obtain ⟨b, o, L, ea2, hrd, hc0, hc1⟩ := HK.out.at_ hlt
      subst ea2
      have hki : k < J.length := by rw [HKN.out]; exact hlt
      have hi1 : (0 : Int) ≤ (k : Int) := by omega
      have hi2 : (k : Int) < (n2 : Int) := by omega
      have hbw := HBW.out _ HB.out
      have HKI := kept hki
      obtain ⟨ka, kn, kc, page⟩ := L
      simp only at hc0 hc1
      replace hc0 := cell_below hbw hc0
      replace hc1 := cell_below hbw hc1
      have HE : Hid (∀ X, Below (wr.alloc (.cells #[.slice ka kn kc, .int .i64 page] 71)).heap.size (wr.alloc (.cells #[.slice ka kn kc, .int .i64 page] 71)) X → (X.cell? ⟨wr.heap.size, 0, none⟩ = some (.slice ka kn kc) ∧ X.cell? ⟨wr.heap.size, 1, none⟩ = some (.int .i64 page)) ∧ Sev X w.heap.size 2 txn next a1 n1 c1 (some ⟨b, o, none⟩) n2 c2 a3 n3 c3 a4 n4 c4) := kept (fun X hX => by
        have hg := (Blk.new wr 71 #[.slice ka kn kc, .int .i64 page]).below hX (by simp)
        have hb5 := HB.out.trans (((Below.refl _ wr).alloc (HSB.out _ HB.out) (.cells #[.slice ka kn kc, .int .i64 page] 71)).trans (hX.mono (by have := HSB.out _ HB.out; simp; omega)))
        exact ⟨⟨hg.cell 0, hg.cell 1⟩, HSV.out _ hb5⟩)
      have HBF := fun X (hX : Below (wr.alloc (.cells #[.slice ka kn kc, .int .i64 page] 71)).heap.size (wr.alloc (.cells #[.slice ka kn kc, .int .i64 page] 71)) X) => kept (HBW.out X (HB.out.trans (((Below.refl _ wr).alloc (HSB.out _ HB.out) (.cells #[.slice ka kn kc, .int .i64 page] 71)).trans (hX.mono (by have := HSB.out _ HB.out; simp; omega)))))
      have hBQ : Below (wr.alloc (.cells #[.slice ka kn kc, .int .i64 page] 71)).heap.size (wr.alloc (.cells #[.slice ka kn kc, .int .i64 page] 71)) (wr.alloc (.cells #[.slice ka kn kc, .int .i64 page] 71)).drew := (Below.refl _ _).drew
      have HBQ := hBQ
      have hok := (RdKd.ok hrd)
      simp only at hok
      have HX : Hid (RdKd w ⟨ka, kn, kc, page⟩ (J[k]'hki)) := kept hrd
      clear hrd hbw
      by_cases h32 : 32 < kn
      · have HF := kept (HRN.out (by rw [HKN.out]; exact ordU_bad hki hlt (by rw [← hok, decide_eq_false (by omega)]; rfl)))
        have hg32 : decide ((32 : Int) < (kn : Int)) = true := by rw [decide_eq_true_eq]; omega
        clear hok h32
        go_wp2_with fail
        refine wp_region_held_drew (S := (fun W' => (W'.cell? ⟨wr.heap.size, 0, none⟩ = some (.slice ka kn kc) ∧ W'.cell? ⟨wr.heap.size, 1, none⟩ = some (.int .i64 page)) ∧ Sev W' w.heap.size 2 txn next a1 n1 c1 (some ⟨b, o, none⟩) n2 c2 a3 n3 c3 a4 n4 c4)) (by kernel_rfl) ?_ (fun hHeld => ?_)
        · ((try dsimp only); (first | exact HE.out _ (Below.refl _ _) | exact HE.out _ (Below.refl _ _).drew))
        refine hand_take 0 (some 139) ?_ (by kernel_rfl) (by kernel_rfl) (by kernel_rfl) (by kernel_rfl) (by kernel_rfl) (fun _ _ _ h => h) ?_ (by assumption) ?_
        rotate_left
        · (intro o ho w hSw; (simp only [List.getElem?_toArray, List.getElem?_cons_succ, List.getElem?_cons_zero, Option.some.injEq] at ho); subst ho; (try dsimp only at hSw); go_simp; (first | done | with_reducible rfl))
        (try simp only [Act.put, List.setIfInBounds_toArray, List.set_cons_zero, List.set_cons_succ])
        refine hand_take 1 (some 140) ?_ (by kernel_rfl) (by kernel_rfl) (by kernel_rfl) (by kernel_rfl) (by kernel_rfl) (fun _ _ _ h => h) ?_ (by assumption) ?_
        rotate_left
        · (intro o ho w hSw; (simp only [List.getElem?_toArray, List.getElem?_cons_succ, List.getElem?_cons_zero, Option.some.injEq] at ho); subst ho; (try dsimp only at hSw); go_simp; (first | done | with_reducible rfl))
        (try simp only [Act.put, List.setIfInBounds_toArray, List.set_cons_zero, List.set_cons_succ])
        refine hand_take 2 (some 141) ?_ (by kernel_rfl) (by kernel_rfl) (by kernel_rfl) (by kernel_rfl) (by kernel_rfl) (fun _ _ _ h => h) ?_ (by assumption) ?_
        rotate_left
        · (intro o ho w hSw; (simp only [List.getElem?_toArray, List.getElem?_cons_succ, List.getElem?_cons_zero, Option.some.injEq] at ho); subst ho; (try dsimp only at hSw); go_simp; (first | done | with_reducible rfl))
        (try simp only [Act.put, List.setIfInBounds_toArray, List.set_cons_zero, List.set_cons_succ])
        refine hand_take 3 (some 142) ?_ (by kernel_rfl) (by kernel_rfl) (by kernel_rfl) (by kernel_rfl) (by kernel_rfl) (fun _ _ _ h => h) ?_ (by assumption) ?_
        rotate_left
        · (intro o ho w hSw; (simp only [List.getElem?_toArray, List.getElem?_cons_succ, List.getElem?_cons_zero, Option.some.injEq] at ho); subst ho; (try dsimp only at hSw); go_simp; (first | done | with_reducible rfl))
        (try simp only [Act.put, List.setIfInBounds_toArray, List.set_cons_zero, List.set_cons_succ])
        refine hand_take 4 (some 143) ?_ (by kernel_rfl) (by kernel_rfl) (by kernel_rfl) (by kernel_rfl) (by kernel_rfl) (fun _ _ _ h => h) ?_ (by assumption) ?_
        rotate_left
        · (intro o ho w hSw; (simp only [List.getElem?_toArray, List.getElem?_cons_succ, List.getElem?_cons_zero, Option.some.injEq] at ho); subst ho; (try dsimp only at hSw); go_simp; (first | done | with_reducible rfl))
        (try simp only [Act.put, List.setIfInBounds_toArray, List.set_cons_zero, List.set_cons_succ])
        refine hand_skip 5 (some 144) (by kernel_rfl) (by kernel_rfl) (by kernel_rfl) (by kernel_rfl) (by kernel_rfl) (fun _ _ _ h => h) (by assumption) ?_
        (try simp only [Act.put, List.setIfInBounds_toArray, List.set_cons_zero, List.set_cons_succ])
        refine hand_skip 6 (some 145) (by kernel_rfl) (by kernel_rfl) (by kernel_rfl) (by kernel_rfl) (by kernel_rfl) (fun _ _ _ h => h) (by assumption) ?_
        (try simp only [Act.put, List.setIfInBounds_toArray, List.set_cons_zero, List.set_cons_succ])
        refine hand_skip 7 (some 146) (by kernel_rfl) (by kernel_rfl) (by kernel_rfl) (by kernel_rfl) (by kernel_rfl) (fun _ _ _ h => h) (by assumption) ?_
        (try simp only [Act.put, List.setIfInBounds_toArray, List.set_cons_zero, List.set_cons_succ])
        refine hand_skip 8 (some 147) (by kernel_rfl) (by kernel_rfl) (by kernel_rfl) (by kernel_rfl) (by kernel_rfl) (fun _ _ _ h => h) (by assumption) ?_
        (try simp only [Act.put, List.setIfInBounds_toArray, List.set_cons_zero, List.set_cons_succ])
        refine hand_take 9 (some 148) ?_ (by kernel_rfl) (by kernel_rfl) (by kernel_rfl) (by kernel_rfl) (by kernel_rfl) (fun _ _ _ h => h) ?_ (by assumption) ?_
        rotate_left
        · (intro o ho w hSw; (simp only [List.getElem?_toArray, List.getElem?_cons_succ, List.getElem?_cons_zero, Option.some.injEq] at ho); subst ho; (try dsimp only at hSw); go_simp; (first | done | with_reducible rfl))
        (try simp only [Act.put, List.setIfInBounds_toArray, List.set_cons_zero, List.set_cons_succ])
        refine hand_take 10 (some 149) ?_ (by kernel_rfl) (by kernel_rfl) (by kernel_rfl) (by kernel_rfl) (by kernel_rfl) (fun _ _ _ h => h) ?_ (by assumption) ?_
        rotate_left
        · (intro o ho w hSw; (simp only [List.getElem?_toArray, List.getElem?_cons_succ, List.getElem?_cons_zero, Option.some.injEq] at ho); subst ho; (try dsimp only at hSw); go_simp; (first | done | with_reducible rfl))
        (try simp only [Act.put, List.setIfInBounds_toArray, List.set_cons_zero, List.set_cons_succ])
        refine hand_skip 11 (some 150) (by kernel_rfl) (by kernel_rfl) (by kernel_rfl) (by kernel_rfl) (by kernel_rfl) (fun _ _ _ h => h) (by assumption) ?_
        (try simp only [Act.put, List.setIfInBounds_toArray, List.set_cons_zero, List.set_cons_succ])
        refine hand_skip 12 (some 151) (by kernel_rfl) (by kernel_rfl) (by kernel_rfl) (by kernel_rfl) (by kernel_rfl) (fun _ _ _ h => h) (by assumption) ?_
        (try simp only [Act.put, List.setIfInBounds_toArray, List.set_cons_zero, List.set_cons_succ])
        refine hand_skip 13 (some 152) (by kernel_rfl) (by kernel_rfl) (by kernel_rfl) (by kernel_rfl) (by kernel_rfl) (fun _ _ _ h => h) (by assumption) ?_
        (try simp only [Act.put, List.setIfInBounds_toArray, List.set_cons_zero, List.set_cons_succ])
        refine hand_skip 14 (some 153) (by kernel_rfl) (by kernel_rfl) (by kernel_rfl) (by kernel_rfl) (by kernel_rfl) (fun _ _ _ h => h) (by assumption) ?_
        (try simp only [Act.put, List.setIfInBounds_toArray, List.set_cons_zero, List.set_cons_succ])
        refine hand_skip 15 (some 154) (by kernel_rfl) (by kernel_rfl) (by kernel_rfl) (by kernel_rfl) (by kernel_rfl) (fun _ _ _ h => h) (by assumption) ?_
        (try simp only [Act.put, List.setIfInBounds_toArray, List.set_cons_zero, List.set_cons_succ])
        refine hand_skip 16 (some 155) (by kernel_rfl) (by kernel_rfl) (by kernel_rfl) (by kernel_rfl) (by kernel_rfl) (fun _ _ _ h => h) (by assumption) ?_
        (try simp only [Act.put, List.setIfInBounds_toArray, List.set_cons_zero, List.set_cons_succ])
        refine hand_skip 17 (some 156) (by kernel_rfl) (by kernel_rfl) (by kernel_rfl) (by kernel_rfl) (by kernel_rfl) (fun _ _ _ h => h) (by assumption) ?_
        (try simp only [Act.put, List.setIfInBounds_toArray, List.set_cons_zero, List.set_cons_succ])
        refine hand_skip 18 (some 157) (by kernel_rfl) (by kernel_rfl) (by kernel_rfl) (by kernel_rfl) (by kernel_rfl) (fun _ _ _ h => h) (by assumption) ?_
        (try simp only [Act.put, List.setIfInBounds_toArray, List.set_cons_zero, List.set_cons_succ])
        refine hand_skip 19 (some 158) (by kernel_rfl) (by kernel_rfl) (by kernel_rfl) (by kernel_rfl) (by kernel_rfl) (fun _ _ _ h => h) (by assumption) ?_
        (try simp only [Act.put, List.setIfInBounds_toArray, List.set_cons_zero, List.set_cons_succ])
        refine hand_skip 20 (some 159) (by kernel_rfl) (by kernel_rfl) (by kernel_rfl) (by kernel_rfl) (by kernel_rfl) (fun _ _ _ h => h) (by assumption) ?_
        (try simp only [Act.put, List.setIfInBounds_toArray, List.set_cons_zero, List.set_cons_succ])
        refine hand_skip 21 (some 160) (by kernel_rfl) (by kernel_rfl) (by kernel_rfl) (by kernel_rfl) (by kernel_rfl) (fun _ _ _ h => h) (by assumption) ?_
        (try simp only [Act.put, List.setIfInBounds_toArray, List.set_cons_zero, List.set_cons_succ])
        refine hand_skip 22 (some 161) (by kernel_rfl) (by kernel_rfl) (by kernel_rfl) (by kernel_rfl) (by kernel_rfl) (fun _ _ _ h => h) (by assumption) ?_
        (try simp only [Act.put, List.setIfInBounds_toArray, List.set_cons_zero, List.set_cons_succ])
        refine hand_skip 23 (some 162) (by kernel_rfl) (by kernel_rfl) (by kernel_rfl) (by kernel_rfl) (by kernel_rfl) (fun _ _ _ h => h) (by assumption) ?_
        (try simp only [Act.put, List.setIfInBounds_toArray, List.set_cons_zero, List.set_cons_succ])
        refine hand_skip 24 (some 163) (by kernel_rfl) (by kernel_rfl) (by kernel_rfl) (by kernel_rfl) (by kernel_rfl) (fun _ _ _ h => h) (by assumption) ?_
        (try simp only [Act.put, List.setIfInBounds_toArray, List.set_cons_zero, List.set_cons_succ])
        refine hand_skip 25 (some 164) (by kernel_rfl) (by kernel_rfl) (by kernel_rfl) (by kernel_rfl) (by kernel_rfl) (fun _ _ _ h => h) (by assumption) ?_
        (try simp only [Act.put, List.setIfInBounds_toArray, List.set_cons_zero, List.set_cons_succ])
        refine hand_take 26 (some 165) ?_ (by kernel_rfl) (by kernel_rfl) (by kernel_rfl) (by kernel_rfl) (by kernel_rfl) (fun _ _ _ h => h) ?_ (by assumption) ?_
        rotate_left
        · (intro o ho w hSw; (simp only [List.getElem?_toArray, List.getElem?_cons_succ, List.getElem?_cons_zero, Option.some.injEq] at ho); subst ho; (try dsimp only at hSw); go_simp; (first | done | with_reducible rfl))
        (try simp only [Act.put, List.setIfInBounds_toArray, List.set_cons_zero, List.set_cons_succ])
        refine wpAnyH_done (by kernel_rfl) ?_ _
        go_wp2
        go_ret3
        exact .inr ⟨HF.out, rfl, (HBF _ HBQ).out⟩
      have hg32 : decide ((32 : Int) < (kn : Int)) = false := by rw [decide_eq_false_iff_not]; omega
      cases hpg : isPg page with
      | false =>
        have HF := kept (HRN.out (by rw [HKN.out]; exact ordU_bad hki hlt (by rw [← hok, hpg]; simp)))
        have HP := fun w => kept (refId_any page w false hpg)
        clear hok h32 hpg
        go_wp2_with fail
        refine wp_region_held_drew (S := (fun W' => (W'.cell? ⟨wr.heap.size, 0, none⟩ = some (.slice ka kn kc) ∧ W'.cell? ⟨wr.heap.size, 1, none⟩ = some (.int .i64 page)) ∧ Sev W' w.heap.size 2 txn next a1 n1 c1 (some ⟨b, o, none⟩) n2 c2 a3 n3 c3 a4 n4 c4)) (by kernel_rfl) ?_ (fun hHeld => ?_)
        · ((try dsimp only); (first | exact HE.out _ (Below.refl _ _) | exact HE.out _ (Below.refl _ _).drew))
        refine hand_take 0 (some 139) ?_ (by kernel_rfl) (by kernel_rfl) (by kernel_rfl) (by kernel_rfl) (by kernel_rfl) (fun _ _ _ h => h) ?_ (by assumption) ?_
        rotate_left
        · (intro o ho w hSw; (simp only [List.getElem?_toArray, List.getElem?_cons_succ, List.getElem?_cons_zero, Option.some.injEq] at ho); subst ho; (try dsimp only at hSw); go_simp; (first | done | with_reducible rfl))
        (try simp only [Act.put, List.setIfInBounds_toArray, List.set_cons_zero, List.set_cons_succ])
        refine hand_take 1 (some 140) ?_ (by kernel_rfl) (by kernel_rfl) (by kernel_rfl) (by kernel_rfl) (by kernel_rfl) (fun _ _ _ h => h) ?_ (by assumption) ?_
        rotate_left
        · (intro o ho w hSw; (simp only [List.getElem?_toArray, List.getElem?_cons_succ, List.getElem?_cons_zero, Option.some.injEq] at ho); subst ho; (try dsimp only at hSw); go_simp; (first | done | with_reducible rfl))
        (try simp only [Act.put, List.setIfInBounds_toArray, List.set_cons_zero, List.set_cons_succ])
        refine hand_take 2 (some 141) ?_ (by kernel_rfl) (by kernel_rfl) (by kernel_rfl) (by kernel_rfl) (by kernel_rfl) (fun _ _ _ h => h) ?_ (by assumption) ?_
        rotate_left
        · (intro o ho w hSw; (simp only [List.getElem?_toArray, List.getElem?_cons_succ, List.getElem?_cons_zero, Option.some.injEq] at ho); subst ho; (try dsimp only at hSw); go_simp; (first | done | with_reducible rfl))
        (try simp only [Act.put, List.setIfInBounds_toArray, List.set_cons_zero, List.set_cons_succ])
        refine hand_take 3 (some 142) ?_ (by kernel_rfl) (by kernel_rfl) (by kernel_rfl) (by kernel_rfl) (by kernel_rfl) (fun _ _ _ h => h) ?_ (by assumption) ?_
        rotate_left
        · (intro o ho w hSw; (simp only [List.getElem?_toArray, List.getElem?_cons_succ, List.getElem?_cons_zero, Option.some.injEq] at ho); subst ho; (try dsimp only at hSw); go_simp; (first | done | with_reducible rfl))
        (try simp only [Act.put, List.setIfInBounds_toArray, List.set_cons_zero, List.set_cons_succ])
        refine hand_take 4 (some 143) ?_ (by kernel_rfl) (by kernel_rfl) (by kernel_rfl) (by kernel_rfl) (by kernel_rfl) (fun _ _ _ h => h) ?_ (by assumption) ?_
        rotate_left
        · (intro o ho w hSw; (simp only [List.getElem?_toArray, List.getElem?_cons_succ, List.getElem?_cons_zero, Option.some.injEq] at ho); subst ho; (try dsimp only at hSw); go_simp; (first | done | with_reducible rfl))
        (try simp only [Act.put, List.setIfInBounds_toArray, List.set_cons_zero, List.set_cons_succ])
        refine hand_take 5 (some 144) ?_ (by kernel_rfl) (by kernel_rfl) (by kernel_rfl) (by kernel_rfl) (by kernel_rfl) (fun _ _ _ h => h) ?_ (by assumption) ?_
        rotate_left
        · (intro o ho w hSw; (simp only [List.getElem?_toArray, List.getElem?_cons_succ, List.getElem?_cons_zero, Option.some.injEq] at ho); subst ho; (try dsimp only at hSw); go_simp; (first | done | with_reducible rfl))
        (try simp only [Act.put, List.setIfInBounds_toArray, List.set_cons_zero, List.set_cons_succ])
        refine hand_take 6 (some 145) ?_ (by kernel_rfl) (by kernel_rfl) (by kernel_rfl) (by kernel_rfl) (by kernel_rfl) (fun _ _ _ h => h) ?_ (by assumption) ?_
        rotate_left
        · (intro o ho w hSw; (simp only [List.getElem?_toArray, List.getElem?_cons_succ, List.getElem?_cons_zero, Option.some.injEq] at ho); subst ho; (try dsimp only at hSw); go_simp; (first | done | with_reducible rfl))
        (try simp only [Act.put, List.setIfInBounds_toArray, List.set_cons_zero, List.set_cons_succ])
        refine hand_ready 7 (by kernel_rfl) (by kernel_rfl) (fun o ho K hK => ?_)
        (simp only [List.getElem?_toArray, List.getElem?_cons_succ, List.getElem?_cons_zero, Option.some.injEq] at ho)
        subst ho
        go_simp
        (go_at_call 68; (with_reducible refine (HP _).out.mono ?_); rintro e w' ⟨rfl, rfl⟩)
        (try go_wp2_with fail)
        refine hK.out _ _ ?_ (fun hHeld => ?_)
        · ((try dsimp only); (first | exact HE.out _ (Below.refl _ _) | exact HE.out _ (Below.refl _ _).drew))
        clear hK K
        (try simp only [Act.put, List.setIfInBounds_toArray, List.set_cons_zero, List.set_cons_succ])
        refine hand_take 8 (some 147) ?_ (by kernel_rfl) (by kernel_rfl) (by kernel_rfl) (by kernel_rfl) (by kernel_rfl) (fun _ _ _ h => h) ?_ (by assumption) ?_
        rotate_left
        · (intro o ho w hSw; (simp only [List.getElem?_toArray, List.getElem?_cons_succ, List.getElem?_cons_zero, Option.some.injEq] at ho); subst ho; (try dsimp only at hSw); go_simp; (first | done | with_reducible rfl))
        (try simp only [Act.put, List.setIfInBounds_toArray, List.set_cons_zero, List.set_cons_succ])
        refine hand_take 9 (some 148) ?_ (by kernel_rfl) (by kernel_rfl) (by kernel_rfl) (by kernel_rfl) (by kernel_rfl) (fun _ _ _ h => h) ?_ (by assumption) ?_
        rotate_left
        · (intro o ho w hSw; (simp only [List.getElem?_toArray, List.getElem?_cons_succ, List.getElem?_cons_zero, Option.some.injEq] at ho); subst ho; (try dsimp only at hSw); go_simp; (first | done | with_reducible rfl))
        (try simp only [Act.put, List.setIfInBounds_toArray, List.set_cons_zero, List.set_cons_succ])
        refine hand_take 10 (some 149) ?_ (by kernel_rfl) (by kernel_rfl) (by kernel_rfl) (by kernel_rfl) (by kernel_rfl) (fun _ _ _ h => h) ?_ (by assumption) ?_
        rotate_left
        · (intro o ho w hSw; (simp only [List.getElem?_toArray, List.getElem?_cons_succ, List.getElem?_cons_zero, Option.some.injEq] at ho); subst ho; (try dsimp only at hSw); go_simp; (first | done | with_reducible rfl))
        (try simp only [Act.put, List.setIfInBounds_toArray, List.set_cons_zero, List.set_cons_succ])
        refine hand_skip 11 (some 150) (by kernel_rfl) (by kernel_rfl) (by kernel_rfl) (by kernel_rfl) (by kernel_rfl) (fun _ _ _ h => h) (by assumption) ?_
        (try simp only [Act.put, List.setIfInBounds_toArray, List.set_cons_zero, List.set_cons_succ])
        refine hand_skip 12 (some 151) (by kernel_rfl) (by kernel_rfl) (by kernel_rfl) (by kernel_rfl) (by kernel_rfl) (fun _ _ _ h => h) (by assumption) ?_
        (try simp only [Act.put, List.setIfInBounds_toArray, List.set_cons_zero, List.set_cons_succ])
        refine hand_skip 13 (some 152) (by kernel_rfl) (by kernel_rfl) (by kernel_rfl) (by kernel_rfl) (by kernel_rfl) (fun _ _ _ h => h) (by assumption) ?_
        (try simp only [Act.put, List.setIfInBounds_toArray, List.set_cons_zero, List.set_cons_succ])
        refine hand_skip 14 (some 153) (by kernel_rfl) (by kernel_rfl) (by kernel_rfl) (by kernel_rfl) (by kernel_rfl) (fun _ _ _ h => h) (by assumption) ?_
        (try simp only [Act.put, List.setIfInBounds_toArray, List.set_cons_zero, List.set_cons_succ])
        refine hand_skip 15 (some 154) (by kernel_rfl) (by kernel_rfl) (by kernel_rfl) (by kernel_rfl) (by kernel_rfl) (fun _ _ _ h => h) (by assumption) ?_
        (try simp only [Act.put, List.setIfInBounds_toArray, List.set_cons_zero, List.set_cons_succ])
        refine hand_skip 16 (some 155) (by kernel_rfl) (by kernel_rfl) (by kernel_rfl) (by kernel_rfl) (by kernel_rfl) (fun _ _ _ h => h) (by assumption) ?_
        (try simp only [Act.put, List.setIfInBounds_toArray, List.set_cons_zero, List.set_cons_succ])
        refine hand_skip 17 (some 156) (by kernel_rfl) (by kernel_rfl) (by kernel_rfl) (by kernel_rfl) (by kernel_rfl) (fun _ _ _ h => h) (by assumption) ?_
        (try simp only [Act.put, List.setIfInBounds_toArray, List.set_cons_zero, List.set_cons_succ])
        refine hand_skip 18 (some 157) (by kernel_rfl) (by kernel_rfl) (by kernel_rfl) (by kernel_rfl) (by kernel_rfl) (fun _ _ _ h => h) (by assumption) ?_
        (try simp only [Act.put, List.setIfInBounds_toArray, List.set_cons_zero, List.set_cons_succ])
        refine hand_skip 19 (some 158) (by kernel_rfl) (by kernel_rfl) (by kernel_rfl) (by kernel_rfl) (by kernel_rfl) (fun _ _ _ h => h) (by assumption) ?_
        (try simp only [Act.put, List.setIfInBounds_toArray, List.set_cons_zero, List.set_cons_succ])
        refine hand_skip 20 (some 159) (by kernel_rfl) (by kernel_rfl) (by kernel_rfl) (by kernel_rfl) (by kernel_rfl) (fun _ _ _ h => h) (by assumption) ?_
        (try simp only [Act.put, List.setIfInBounds_toArray, List.set_cons_zero, List.set_cons_succ])
        refine hand_skip 21 (some 160) (by kernel_rfl) (by kernel_rfl) (by kernel_rfl) (by kernel_rfl) (by kernel_rfl) (fun _ _ _ h => h) (by assumption) ?_
        (try simp only [Act.put, List.setIfInBounds_toArray, List.set_cons_zero, List.set_cons_succ])
        refine hand_skip 22 (some 161) (by kernel_rfl) (by kernel_rfl) (by kernel_rfl) (by kernel_rfl) (by kernel_rfl) (fun _ _ _ h => h) (by assumption) ?_
        (try simp only [Act.put, List.setIfInBounds_toArray, List.set_cons_zero, List.set_cons_succ])
        refine hand_skip 23 (some 162) (by kernel_rfl) (by kernel_rfl) (by kernel_rfl) (by kernel_rfl) (by kernel_rfl) (fun _ _ _ h => h) (by assumption) ?_
        (try simp only [Act.put, List.setIfInBounds_toArray, List.set_cons_zero, List.set_cons_succ])
        refine hand_skip 24 (some 163) (by kernel_rfl) (by kernel_rfl) (by kernel_rfl) (by kernel_rfl) (by kernel_rfl) (fun _ _ _ h => h) (by assumption) ?_
        (try simp only [Act.put, List.setIfInBounds_toArray, List.set_cons_zero, List.set_cons_succ])
        refine hand_skip 25 (some 164) (by kernel_rfl) (by kernel_rfl) (by kernel_rfl) (by kernel_rfl) (by kernel_rfl) (fun _ _ _ h => h) (by assumption) ?_
        (try simp only [Act.put, List.setIfInBounds_toArray, List.set_cons_zero, List.set_cons_succ])
        refine hand_take 26 (some 165) ?_ (by kernel_rfl) (by kernel_rfl) (by kernel_rfl) (by kernel_rfl) (by kernel_rfl) (fun _ _ _ h => h) ?_ (by assumption) ?_
        rotate_left
        · (intro o ho w hSw; (simp only [List.getElem?_toArray, List.getElem?_cons_succ, List.getElem?_cons_zero, Option.some.injEq] at ho); subst ho; (try dsimp only at hSw); go_simp; (first | done | with_reducible rfl))
        (try simp only [Act.put, List.setIfInBounds_toArray, List.set_cons_zero, List.set_cons_succ])
        refine wpAnyH_done (by kernel_rfl) ?_ _
        go_wp2
        go_ret3
        exact .inr ⟨HF.out, rfl, (HBF _ HBQ).out⟩
      | true =>
        have hokt : kidOk (J[k]'hki) = true := by rw [← hok, hpg, decide_eq_true (by omega)]; rfl
        have HP := fun w => kept (refId_any page w true hpg)
        have hpp := page_small' hpg
        obtain ⟨pg, hpe, hp2⟩ : ∃ pg : Nat, page = (pg : Int) ∧ pg < 1024 := ⟨page.toNat, by omega, by omega⟩
        have HPU := fun w => kept (refPut4 pg w hp2)
        have hpw : IntKind.u64.wrap (pg : Int) = (pg : Int) := IntWalk.u64_in _ ⟨by omega, by omega⟩
        have hw8 : IntKind.u8.wrap (kn : Int) = (kn : Int) := IntWalk.u8_in _ ⟨by omega, by omega⟩
        have hw8' : (kn : Int) % 256 = (kn : Int) := by omega
        have HKL := kept (show kn ≤ 32 by omega)
        have HUL := kept (show u ≤ 37000 by have h2 := HUQ.out.2; have h3 := HN.out; omega)
        have HRD := HX
        have hlen : (J[k]'hki).key.length = kn := HX.out.1.1
        have hpage : (J[k]'hki).page = (pg : Int) := by rw [← hpe]; exact HX.out.2.1
        have HEN := kept (show encTo encKid J k ++ be kn 1 ++ (J[k]'hki).key ++ be pg 4 = encTo encKid J (k + 1) from by
          rw [encTo_succ hki]
          unfold encKid
          rw [hlen, hpage]
          simp [List.append_assoc])
        have HUN : Hid ((encTo encKid J (k + 1)).length = u + 1 + kn + 4 ∧ u + 1 + kn + 4 ≤ 37 * (k + 1)) := kept (by
          have h2 := HUQ.out
          have h3 := HKL.out
          rw [← HEN.out]
          simp only [List.length_append, be_length, hlen]
          omega)
        subst hpe
        clear hok hpg hpp hlen hpage
        cases k with
        | zero =>
          have HU2 : Hid (ordU kidOk cmpK J 1 = true) := kept (ordU_first hki hokt)
          generalize J[0]'hki = x at HRD HEN
          clear hokt HX
          rw [Nat.zero_mul, Nat.add_zero] at hc0 hc1
          go_wp2_with fail
          refine wp_region_held_drew (S := (fun W' => (W'.cell? ⟨wr.heap.size, 0, none⟩ = some (.slice ka kn kc) ∧ W'.cell? ⟨wr.heap.size, 1, none⟩ = some (.int .i64 (pg : Int))) ∧ Sev W' w.heap.size 2 txn next a1 n1 c1 (some ⟨b, o, none⟩) n2 c2 a3 n3 c3 a4 n4 c4)) (by kernel_rfl) ?_ (fun hHeld => ?_)
          · ((try dsimp only); (first | exact HE.out _ (Below.refl _ _) | exact HE.out _ (Below.refl _ _).drew))
          refine hand_take 0 (some 139) ?_ (by kernel_rfl) (by kernel_rfl) (by kernel_rfl) (by kernel_rfl) (by kernel_rfl) (fun _ _ _ h => h) ?_ (by assumption) ?_
          rotate_left
          · (intro o ho w hSw; (simp only [List.getElem?_toArray, List.getElem?_cons_succ, List.getElem?_cons_zero, Option.some.injEq] at ho); subst ho; (try dsimp only at hSw); go_simp; (first | done | with_reducible rfl))
          (try simp only [Act.put, List.setIfInBounds_toArray, List.set_cons_zero, List.set_cons_succ])
          refine hand_take 1 (some 140) ?_ (by kernel_rfl) (by kernel_rfl) (by kernel_rfl) (by kernel_rfl) (by kernel_rfl) (fun _ _ _ h => h) ?_ (by assumption) ?_
          rotate_left
          · (intro o ho w hSw; (simp only [List.getElem?_toArray, List.getElem?_cons_succ, List.getElem?_cons_zero, Option.some.injEq] at ho); subst ho; (try dsimp only at hSw); go_simp; (first | done | with_reducible rfl))
          (try simp only [Act.put, List.setIfInBounds_toArray, List.set_cons_zero, List.set_cons_succ])
          refine hand_take 2 (some 141) ?_ (by kernel_rfl) (by kernel_rfl) (by kernel_rfl) (by kernel_rfl) (by kernel_rfl) (fun _ _ _ h => h) ?_ (by assumption) ?_
          rotate_left
          · (intro o ho w hSw; (simp only [List.getElem?_toArray, List.getElem?_cons_succ, List.getElem?_cons_zero, Option.some.injEq] at ho); subst ho; (try dsimp only at hSw); go_simp; (first | done | with_reducible rfl))
          (try simp only [Act.put, List.setIfInBounds_toArray, List.set_cons_zero, List.set_cons_succ])
          refine hand_take 3 (some 142) ?_ (by kernel_rfl) (by kernel_rfl) (by kernel_rfl) (by kernel_rfl) (by kernel_rfl) (fun _ _ _ h => h) ?_ (by assumption) ?_
          rotate_left
          · (intro o ho w hSw; (simp only [List.getElem?_toArray, List.getElem?_cons_succ, List.getElem?_cons_zero, Option.some.injEq] at ho); subst ho; (try dsimp only at hSw); go_simp; (first | done | with_reducible rfl))
          (try simp only [Act.put, List.setIfInBounds_toArray, List.set_cons_zero, List.set_cons_succ])
          refine hand_take 4 (some 143) ?_ (by kernel_rfl) (by kernel_rfl) (by kernel_rfl) (by kernel_rfl) (by kernel_rfl) (fun _ _ _ h => h) ?_ (by assumption) ?_
          rotate_left
          · (intro o ho w hSw; (simp only [List.getElem?_toArray, List.getElem?_cons_succ, List.getElem?_cons_zero, Option.some.injEq] at ho); subst ho; (try dsimp only at hSw); go_simp; (first | done | with_reducible rfl))
          (try simp only [Act.put, List.setIfInBounds_toArray, List.set_cons_zero, List.set_cons_succ])
          refine hand_take 5 (some 144) ?_ (by kernel_rfl) (by kernel_rfl) (by kernel_rfl) (by kernel_rfl) (by kernel_rfl) (fun _ _ _ h => h) ?_ (by assumption) ?_
          rotate_left
          · (intro o ho w hSw; (simp only [List.getElem?_toArray, List.getElem?_cons_succ, List.getElem?_cons_zero, Option.some.injEq] at ho); subst ho; (try dsimp only at hSw); go_simp; (first | done | with_reducible rfl))
          (try simp only [Act.put, List.setIfInBounds_toArray, List.set_cons_zero, List.set_cons_succ])
          refine hand_take 6 (some 145) ?_ (by kernel_rfl) (by kernel_rfl) (by kernel_rfl) (by kernel_rfl) (by kernel_rfl) (fun _ _ _ h => h) ?_ (by assumption) ?_
          rotate_left
          · (intro o ho w hSw; (simp only [List.getElem?_toArray, List.getElem?_cons_succ, List.getElem?_cons_zero, Option.some.injEq] at ho); subst ho; (try dsimp only at hSw); go_simp; (first | done | with_reducible rfl))
          (try simp only [Act.put, List.setIfInBounds_toArray, List.set_cons_zero, List.set_cons_succ])
          refine hand_ready 7 (by kernel_rfl) (by kernel_rfl) (fun o ho K hK => ?_)
          (simp only [List.getElem?_toArray, List.getElem?_cons_succ, List.getElem?_cons_zero, Option.some.injEq] at ho)
          subst ho
          go_simp
          (go_at_call 68; (with_reducible refine (HP _).out.mono ?_); rintro e w' ⟨rfl, rfl⟩)
          (try go_wp2_with fail)
          refine hK.out _ _ ?_ (fun hHeld => ?_)
          · ((try dsimp only); (first | exact HE.out _ (Below.refl _ _) | exact HE.out _ (Below.refl _ _).drew))
          clear hK K
          (try simp only [Act.put, List.setIfInBounds_toArray, List.set_cons_zero, List.set_cons_succ])
          refine hand_take 8 (some 147) ?_ (by kernel_rfl) (by kernel_rfl) (by kernel_rfl) (by kernel_rfl) (by kernel_rfl) (fun _ _ _ h => h) ?_ (by assumption) ?_
          rotate_left
          · (intro o ho w hSw; (simp only [List.getElem?_toArray, List.getElem?_cons_succ, List.getElem?_cons_zero, Option.some.injEq] at ho); subst ho; (try dsimp only at hSw); go_simp; (first | done | with_reducible rfl))
          (try simp only [Act.put, List.setIfInBounds_toArray, List.set_cons_zero, List.set_cons_succ])
          refine hand_take 9 (some 148) ?_ (by kernel_rfl) (by kernel_rfl) (by kernel_rfl) (by kernel_rfl) (by kernel_rfl) (fun _ _ _ h => h) ?_ (by assumption) ?_
          rotate_left
          · (intro o ho w hSw; (simp only [List.getElem?_toArray, List.getElem?_cons_succ, List.getElem?_cons_zero, Option.some.injEq] at ho); subst ho; (try dsimp only at hSw); go_simp; (first | done | with_reducible rfl))
          (try simp only [Act.put, List.setIfInBounds_toArray, List.set_cons_zero, List.set_cons_succ])
          refine hand_take 10 (some 149) ?_ (by kernel_rfl) (by kernel_rfl) (by kernel_rfl) (by kernel_rfl) (by kernel_rfl) (fun _ _ _ h => h) ?_ (by assumption) ?_
          rotate_left
          · (intro o ho w hSw; (simp only [List.getElem?_toArray, List.getElem?_cons_succ, List.getElem?_cons_zero, Option.some.injEq] at ho); subst ho; (try dsimp only at hSw); go_simp; (first | done | with_reducible rfl))
          (try simp only [Act.put, List.setIfInBounds_toArray, List.set_cons_zero, List.set_cons_succ])
          refine hand_take 11 (some 150) ?_ (by kernel_rfl) (by kernel_rfl) (by kernel_rfl) (by kernel_rfl) (by kernel_rfl) (fun _ _ _ h => h) ?_ (by assumption) ?_
          rotate_left
          · (intro o ho w hSw; (simp only [List.getElem?_toArray, List.getElem?_cons_succ, List.getElem?_cons_zero, Option.some.injEq] at ho); subst ho; (try dsimp only at hSw); go_simp; (first | done | with_reducible rfl))
          (try simp only [Act.put, List.setIfInBounds_toArray, List.set_cons_zero, List.set_cons_succ])
          refine hand_take 12 (some 151) ?_ (by kernel_rfl) (by kernel_rfl) (by kernel_rfl) (by kernel_rfl) (by kernel_rfl) (fun _ _ _ h => h) ?_ (by assumption) ?_
          rotate_left
          · (intro o ho w hSw; (simp only [List.getElem?_toArray, List.getElem?_cons_succ, List.getElem?_cons_zero, Option.some.injEq] at ho); subst ho; (try dsimp only at hSw); go_simp; (first | done | with_reducible rfl))
          (try simp only [Act.put, List.setIfInBounds_toArray, List.set_cons_zero, List.set_cons_succ])
          refine hand_take 13 (some 152) ?_ (by kernel_rfl) (by kernel_rfl) (by kernel_rfl) (by kernel_rfl) (by kernel_rfl) (fun _ _ _ h => h) ?_ (by assumption) ?_
          rotate_left
          · (intro o ho w hSw; (simp only [List.getElem?_toArray, List.getElem?_cons_succ, List.getElem?_cons_zero, Option.some.injEq] at ho); subst ho; (try dsimp only at hSw); go_simp; (first | done | with_reducible rfl))
          (try simp only [Act.put, List.setIfInBounds_toArray, List.set_cons_zero, List.set_cons_succ])
          refine hand_skip 14 (some 153) (by kernel_rfl) (by kernel_rfl) (by kernel_rfl) (by kernel_rfl) (by kernel_rfl) (fun _ _ _ h => h) (by assumption) ?_
          (try simp only [Act.put, List.setIfInBounds_toArray, List.set_cons_zero, List.set_cons_succ])
          refine hand_skip 15 (some 154) (by kernel_rfl) (by kernel_rfl) (by kernel_rfl) (by kernel_rfl) (by kernel_rfl) (fun _ _ _ h => h) (by assumption) ?_
          (try simp only [Act.put, List.setIfInBounds_toArray, List.set_cons_zero, List.set_cons_succ])
          refine hand_skip 16 (some 155) (by kernel_rfl) (by kernel_rfl) (by kernel_rfl) (by kernel_rfl) (by kernel_rfl) (fun _ _ _ h => h) (by assumption) ?_
          (try simp only [Act.put, List.setIfInBounds_toArray, List.set_cons_zero, List.set_cons_succ])
          refine hand_skip 17 (some 156) (by kernel_rfl) (by kernel_rfl) (by kernel_rfl) (by kernel_rfl) (by kernel_rfl) (fun _ _ _ h => h) (by assumption) ?_
          (try simp only [Act.put, List.setIfInBounds_toArray, List.set_cons_zero, List.set_cons_succ])
          refine hand_skip 18 (some 157) (by kernel_rfl) (by kernel_rfl) (by kernel_rfl) (by kernel_rfl) (by kernel_rfl) (fun _ _ _ h => h) (by assumption) ?_
          (try simp only [Act.put, List.setIfInBounds_toArray, List.set_cons_zero, List.set_cons_succ])
          refine hand_skip 19 (some 158) (by kernel_rfl) (by kernel_rfl) (by kernel_rfl) (by kernel_rfl) (by kernel_rfl) (fun _ _ _ h => h) (by assumption) ?_
          (try simp only [Act.put, List.setIfInBounds_toArray, List.set_cons_zero, List.set_cons_succ])
          refine hand_skip 20 (some 159) (by kernel_rfl) (by kernel_rfl) (by kernel_rfl) (by kernel_rfl) (by kernel_rfl) (fun _ _ _ h => h) (by assumption) ?_
          (try simp only [Act.put, List.setIfInBounds_toArray, List.set_cons_zero, List.set_cons_succ])
          refine hand_skip 21 (some 160) (by kernel_rfl) (by kernel_rfl) (by kernel_rfl) (by kernel_rfl) (by kernel_rfl) (fun _ _ _ h => h) (by assumption) ?_
          (try simp only [Act.put, List.setIfInBounds_toArray, List.set_cons_zero, List.set_cons_succ])
          refine hand_skip 22 (some 161) (by kernel_rfl) (by kernel_rfl) (by kernel_rfl) (by kernel_rfl) (by kernel_rfl) (fun _ _ _ h => h) (by assumption) ?_
          (try simp only [Act.put, List.setIfInBounds_toArray, List.set_cons_zero, List.set_cons_succ])
          refine hand_skip 23 (some 162) (by kernel_rfl) (by kernel_rfl) (by kernel_rfl) (by kernel_rfl) (by kernel_rfl) (fun _ _ _ h => h) (by assumption) ?_
          (try simp only [Act.put, List.setIfInBounds_toArray, List.set_cons_zero, List.set_cons_succ])
          refine hand_skip 24 (some 163) (by kernel_rfl) (by kernel_rfl) (by kernel_rfl) (by kernel_rfl) (by kernel_rfl) (fun _ _ _ h => h) (by assumption) ?_
          (try simp only [Act.put, List.setIfInBounds_toArray, List.set_cons_zero, List.set_cons_succ])
          refine hand_take 25 (some 164) ?_ (by kernel_rfl) (by kernel_rfl) (by kernel_rfl) (by kernel_rfl) (by kernel_rfl) (fun _ _ _ h => h) ?_ (by assumption) ?_
          rotate_left
          · (intro o ho w hSw; (simp only [List.getElem?_toArray, List.getElem?_cons_succ, List.getElem?_cons_zero, Option.some.injEq] at ho); subst ho; (try dsimp only at hSw); go_simp; (first | done | with_reducible rfl))
          (try simp only [Act.put, List.setIfInBounds_toArray, List.set_cons_zero, List.set_cons_succ])
          refine hand_take 26 (some 165) ?_ (by kernel_rfl) (by kernel_rfl) (by kernel_rfl) (by kernel_rfl) (by kernel_rfl) (fun _ _ _ h => h) ?_ (by assumption) ?_
          rotate_left
          · (intro o ho w hSw; (simp only [List.getElem?_toArray, List.getElem?_cons_succ, List.getElem?_cons_zero, Option.some.injEq] at ho); subst ho; (try dsimp only at hSw); go_simp; (first | done | with_reducible rfl))
          (try simp only [Act.put, List.setIfInBounds_toArray, List.set_cons_zero, List.set_cons_succ])
          refine wpAnyH_done (by kernel_rfl) ?_ _
          have hbx : Below wr.heap.size wr (wr.alloc (.cells #[.slice ka kn kc, .int .i64 (pg : Int)] 71)).drew := ((Below.refl _ _).alloc (Nat.le_refl _) _).drew
          have hbg : Below (wr.alloc (.cells #[.slice ka kn kc, .int .i64 (pg : Int)] 71)).heap.size (wr.alloc (.cells #[.slice ka kn kc, .int .i64 (pg : Int)] 71)) (wr.alloc (.cells #[.slice ka kn kc, .int .i64 (pg : Int)] 71)).drew := (Below.refl _ _).drew
          clear HBQ
          generalize (wr.alloc (.cells #[.slice ka kn kc, .int .i64 (pg : Int)] 71)).drew = X at hbx hbg ⊢
          have HBX5 := kept hbx
          have HO5 := kept (own_stays HO.out hbx)
          have HB5 := kept (HB.out.trans (hbx.mono (HSB.out _ HB.out)))
          have HG5 := kept ((Blk.new wr 71 #[.slice ka kn kc, .int .i64 (pg : Int)]).below hbg (by simp))
          obtain ⟨⟨k0, k1⟩, _⟩ := HE.out _ hbg
          have HR5 := fun v e => kept (rd_u8 X kn v (by have := HKL.out; omega) e)
          have HA5 := fun o => kept (HB5.out.alloc (HSB.out _ HB5.out) o)
          have HOA5 := fun o => kept (own_stays HO5.out ((Below.refl _ X).alloc (Nat.le_refl _) o))
          have HGA5 := fun o => kept (HG5.out.alloc o)
          have HXS := kept (HSB.out _ HB5.out)
          clear hbx hbg
          go_wp2_with (first | (at_builtin; refine wpList_append_oth rfl (.tmp 166) (.tmp 171) 25 rfl (w.heap.size + 1) 5 rfl rfl Tryd.underlying25 u8info (HOA5 _).out (HR5 _ rfl).out (by have := HUL.out; omega) (HSB.out _ (HA5 _).out) (u + 1) (encTo encKid J 0 ++ be kn 1) rfl rfl ?_; intro A6 c6' w6 hown6 hb6 hot6; have HO6 := kept hown6; have HB6 := kept ((HA5 _).out.trans hb6); have hg6 := hot6 _ _ _ (by decide) (HGA5 _).out; have k0 : w6.cell? ⟨wr.heap.size, 0, none⟩ = some (.slice ka kn kc) := hg6.cell 0; have HG6 := kept hg6; have HR6 := kept (HRD.out.1.below (HBW.out _ HB6.out)); clear hown6 hb6 hot6 hg6) | (at_builtin; refine wpList_append_oth rfl (.tmp 173) (.tmp 175) 25 rfl (w.heap.size + 1) 5 rfl rfl Tryd.underlying25 u8info HO6.out HR6.out (by have := HUL.out; have := HKL.out; omega) (HSB.out _ HB6.out) (u + 1 + kn) (encTo encKid J 0 ++ be kn 1 ++ x.key) rfl rfl ?_; intro A7 c7' w7 hown7 hb7 hot7; have HO7 := kept hown7; have HB7 := kept (HB6.out.trans hb7); have hg7 := hot7 _ _ _ (by decide) HG6.out; have k1 : w7.cell? ⟨wr.heap.size, 1, none⟩ = some (.int .i64 (pg : Int)) := hg7.cell 1; have HPU7 := HPU w7; clear hown7 hb7 hot7 hg7) | (go_at_call 44; (with_reducible refine (HPU7.out).mono ?_); rintro e w8 ⟨A8, c8', rfl, hrd8, hb8⟩; have HO8 := kept (own_stays HO7.out hb8); have HR8 := kept hrd8; have HB8 := kept (HB7.out.trans (hb8.mono (HSB.out _ HB7.out))); clear hrd8 hb8) | (at_builtin; refine wpList_append_oth rfl (.tmp 177) (.tmp 181) 25 rfl (w.heap.size + 1) 5 rfl rfl Tryd.underlying25 u8info HO8.out HR8.out (by have := HUL.out; have := HKL.out; omega) (HSB.out _ HB8.out) (u + 1 + kn + 4) (encTo encKid J (0 + 1)) rfl HEN.out ?_; intro A9 c9' w9 hown9 hb9 hot9; have HO9 := kept hown9; have HB9 := kept (HB8.out.trans hb9); clear hown9 hb9 hot9))
          go_roundw
          case rel => exact ⟨0 + 1, u + 1 + kn + 4, A9, c9', by omega, by go_num, rfl, HUN, HO9, HB9, HU2⟩
          case measure => simp [intOf]; omega
        | succ k =>
          obtain ⟨b', o', M, e, hrm, g0, g1⟩ := HK.out.at_ (k := k) (by omega)
          simp only [Option.some.injEq, Addr.mk.injEq, and_true] at e
          obtain ⟨rfl, rfl⟩ := e
          obtain ⟨ka', kn', kc', page'⟩ := M
          simp only at g0 g1
          replace g0 := cell_below (HBW.out _ HB.out) g0
          have hi3 : (0 : Int) ≤ (k : Int) := by omega
          have hi4 : (k : Int) < (n2 : Int) := by omega
          have hi5 : IntKind.i64.wrap (k : Int) = (k : Int) := IntWalk.i64_in _ ⟨by omega, by have := HN.out; omega⟩
          have HEQ : Hid (∀ X, Below (wr.alloc (.cells #[.slice ka kn kc, .int .i64 (pg : Int)] 71)).heap.size (wr.alloc (.cells #[.slice ka kn kc, .int .i64 (pg : Int)] 71)) X → ((X.cell? ⟨wr.heap.size, 0, none⟩ = some (.slice ka kn kc) ∧ X.cell? ⟨wr.heap.size, 1, none⟩ = some (.int .i64 (pg : Int))) ∧ Sev X w.heap.size 2 txn next a1 n1 c1 (some ⟨b, o, none⟩) n2 c2 a3 n3 c3 a4 n4 c4) ∧ X.cell? ⟨b, o + k * 2, none⟩ = some (.slice ka' kn' kc')) := kept (fun X hX => ⟨HE.out X hX, cell_below (((Below.refl _ wr).alloc (Nat.le_refl _) (.cells #[.slice ka kn kc, .int .i64 (pg : Int)] 71)).trans (hX.mono (by simp))) g0⟩)
          have hah := ahead_any ka' ka kn' kn kc' kc (J[k]'(by omega)).key (J[k + 1]'hki).key (wr.alloc (.cells #[.slice ka kn kc, .int .i64 (pg : Int)] 71)).drew (hrm.1.below (HBF _ HBQ).out) (HX.out.1.below (HBF _ HBQ).out) hrm.2.2 HX.out.2.2
          have hrmx := hrm
          clear hrm g1
          cases hao : ahead (J[k]'(by omega)).key (J[k + 1]'hki).key with
          | true =>
            have HU2 : Hid (ordU kidOk cmpK J (k + 1 + 1) = true) := kept (ordU_next hki HU.out hokt (ahead_lt hao))
            rw [hao] at hah
            have HAH := kept hah
            generalize J[k + 1]'hki = x at HRD HEN
            clear hokt HX hah hao hrmx
            go_wp2_with fail
            refine wp_region_held_drew (S := (fun W' => ((W'.cell? ⟨wr.heap.size, 0, none⟩ = some (.slice ka kn kc) ∧ W'.cell? ⟨wr.heap.size, 1, none⟩ = some (.int .i64 (pg : Int))) ∧ Sev W' w.heap.size 2 txn next a1 n1 c1 (some ⟨b, o, none⟩) n2 c2 a3 n3 c3 a4 n4 c4) ∧ W'.cell? ⟨b, o + k * 2, none⟩ = some (.slice ka' kn' kc'))) (by kernel_rfl) ?_ (fun hHeld => ?_)
            · ((try dsimp only); (first | exact HEQ.out _ (Below.refl _ _) | exact HEQ.out _ (Below.refl _ _).drew | exact HEQ.out _ HBG7.out))
            refine hand_take 0 (some 139) ?_ (by kernel_rfl) (by kernel_rfl) (by kernel_rfl) (by kernel_rfl) (by kernel_rfl) (fun _ _ _ h => h) ?_ (by assumption) ?_
            rotate_left
            · (intro o ho w hSw; (simp only [List.getElem?_toArray, List.getElem?_cons_succ, List.getElem?_cons_zero, Option.some.injEq] at ho); subst ho; (try dsimp only at hSw); go_simp; (first | done | with_reducible rfl))
            (try simp only [Act.put, List.setIfInBounds_toArray, List.set_cons_zero, List.set_cons_succ])
            refine hand_take 1 (some 140) ?_ (by kernel_rfl) (by kernel_rfl) (by kernel_rfl) (by kernel_rfl) (by kernel_rfl) (fun _ _ _ h => h) ?_ (by assumption) ?_
            rotate_left
            · (intro o ho w hSw; (simp only [List.getElem?_toArray, List.getElem?_cons_succ, List.getElem?_cons_zero, Option.some.injEq] at ho); subst ho; (try dsimp only at hSw); go_simp; (first | done | with_reducible rfl))
            (try simp only [Act.put, List.setIfInBounds_toArray, List.set_cons_zero, List.set_cons_succ])
            refine hand_take 2 (some 141) ?_ (by kernel_rfl) (by kernel_rfl) (by kernel_rfl) (by kernel_rfl) (by kernel_rfl) (fun _ _ _ h => h) ?_ (by assumption) ?_
            rotate_left
            · (intro o ho w hSw; (simp only [List.getElem?_toArray, List.getElem?_cons_succ, List.getElem?_cons_zero, Option.some.injEq] at ho); subst ho; (try dsimp only at hSw); go_simp; (first | done | with_reducible rfl))
            (try simp only [Act.put, List.setIfInBounds_toArray, List.set_cons_zero, List.set_cons_succ])
            refine hand_take 3 (some 142) ?_ (by kernel_rfl) (by kernel_rfl) (by kernel_rfl) (by kernel_rfl) (by kernel_rfl) (fun _ _ _ h => h) ?_ (by assumption) ?_
            rotate_left
            · (intro o ho w hSw; (simp only [List.getElem?_toArray, List.getElem?_cons_succ, List.getElem?_cons_zero, Option.some.injEq] at ho); subst ho; (try dsimp only at hSw); go_simp; (first | done | with_reducible rfl))
            (try simp only [Act.put, List.setIfInBounds_toArray, List.set_cons_zero, List.set_cons_succ])
            refine hand_take 4 (some 143) ?_ (by kernel_rfl) (by kernel_rfl) (by kernel_rfl) (by kernel_rfl) (by kernel_rfl) (fun _ _ _ h => h) ?_ (by assumption) ?_
            rotate_left
            · (intro o ho w hSw; (simp only [List.getElem?_toArray, List.getElem?_cons_succ, List.getElem?_cons_zero, Option.some.injEq] at ho); subst ho; (try dsimp only at hSw); go_simp; (first | done | with_reducible rfl))
            (try simp only [Act.put, List.setIfInBounds_toArray, List.set_cons_zero, List.set_cons_succ])
            refine hand_take 5 (some 144) ?_ (by kernel_rfl) (by kernel_rfl) (by kernel_rfl) (by kernel_rfl) (by kernel_rfl) (fun _ _ _ h => h) ?_ (by assumption) ?_
            rotate_left
            · (intro o ho w hSw; (simp only [List.getElem?_toArray, List.getElem?_cons_succ, List.getElem?_cons_zero, Option.some.injEq] at ho); subst ho; (try dsimp only at hSw); go_simp; (first | done | with_reducible rfl))
            (try simp only [Act.put, List.setIfInBounds_toArray, List.set_cons_zero, List.set_cons_succ])
            refine hand_take 6 (some 145) ?_ (by kernel_rfl) (by kernel_rfl) (by kernel_rfl) (by kernel_rfl) (by kernel_rfl) (fun _ _ _ h => h) ?_ (by assumption) ?_
            rotate_left
            · (intro o ho w hSw; (simp only [List.getElem?_toArray, List.getElem?_cons_succ, List.getElem?_cons_zero, Option.some.injEq] at ho); subst ho; (try dsimp only at hSw); go_simp; (first | done | with_reducible rfl))
            (try simp only [Act.put, List.setIfInBounds_toArray, List.set_cons_zero, List.set_cons_succ])
            refine hand_ready 7 (by kernel_rfl) (by kernel_rfl) (fun o ho K hK => ?_)
            (simp only [List.getElem?_toArray, List.getElem?_cons_succ, List.getElem?_cons_zero, Option.some.injEq] at ho)
            subst ho
            go_simp
            (go_at_call 68; (with_reducible refine (HP _).out.mono ?_); rintro e w' ⟨rfl, rfl⟩)
            (try go_wp2_with fail)
            refine hK.out _ _ ?_ (fun hHeld => ?_)
            · ((try dsimp only); (first | exact HEQ.out _ (Below.refl _ _) | exact HEQ.out _ (Below.refl _ _).drew | exact HEQ.out _ HBG7.out))
            clear hK K
            (try simp only [Act.put, List.setIfInBounds_toArray, List.set_cons_zero, List.set_cons_succ])
            refine hand_take 8 (some 147) ?_ (by kernel_rfl) (by kernel_rfl) (by kernel_rfl) (by kernel_rfl) (by kernel_rfl) (fun _ _ _ h => h) ?_ (by assumption) ?_
            rotate_left
            · (intro o ho w hSw; (simp only [List.getElem?_toArray, List.getElem?_cons_succ, List.getElem?_cons_zero, Option.some.injEq] at ho); subst ho; (try dsimp only at hSw); go_simp; (first | done | with_reducible rfl))
            (try simp only [Act.put, List.setIfInBounds_toArray, List.set_cons_zero, List.set_cons_succ])
            refine hand_take 9 (some 148) ?_ (by kernel_rfl) (by kernel_rfl) (by kernel_rfl) (by kernel_rfl) (by kernel_rfl) (fun _ _ _ h => h) ?_ (by assumption) ?_
            rotate_left
            · (intro o ho w hSw; (simp only [List.getElem?_toArray, List.getElem?_cons_succ, List.getElem?_cons_zero, Option.some.injEq] at ho); subst ho; (try dsimp only at hSw); go_simp; (first | done | with_reducible rfl))
            (try simp only [Act.put, List.setIfInBounds_toArray, List.set_cons_zero, List.set_cons_succ])
            refine hand_take 10 (some 149) ?_ (by kernel_rfl) (by kernel_rfl) (by kernel_rfl) (by kernel_rfl) (by kernel_rfl) (fun _ _ _ h => h) ?_ (by assumption) ?_
            rotate_left
            · (intro o ho w hSw; (simp only [List.getElem?_toArray, List.getElem?_cons_succ, List.getElem?_cons_zero, Option.some.injEq] at ho); subst ho; (try dsimp only at hSw); go_simp; (first | done | with_reducible rfl))
            (try simp only [Act.put, List.setIfInBounds_toArray, List.set_cons_zero, List.set_cons_succ])
            refine hand_take 11 (some 150) ?_ (by kernel_rfl) (by kernel_rfl) (by kernel_rfl) (by kernel_rfl) (by kernel_rfl) (fun _ _ _ h => h) ?_ (by assumption) ?_
            rotate_left
            · (intro o ho w hSw; (simp only [List.getElem?_toArray, List.getElem?_cons_succ, List.getElem?_cons_zero, Option.some.injEq] at ho); subst ho; (try dsimp only at hSw); go_simp; (first | done | with_reducible rfl))
            (try simp only [Act.put, List.setIfInBounds_toArray, List.set_cons_zero, List.set_cons_succ])
            refine hand_take 12 (some 151) ?_ (by kernel_rfl) (by kernel_rfl) (by kernel_rfl) (by kernel_rfl) (by kernel_rfl) (fun _ _ _ h => h) ?_ (by assumption) ?_
            rotate_left
            · (intro o ho w hSw; (simp only [List.getElem?_toArray, List.getElem?_cons_succ, List.getElem?_cons_zero, Option.some.injEq] at ho); subst ho; (try dsimp only at hSw); go_simp; (first | done | with_reducible rfl))
            (try simp only [Act.put, List.setIfInBounds_toArray, List.set_cons_zero, List.set_cons_succ])
            refine hand_take 13 (some 152) ?_ (by kernel_rfl) (by kernel_rfl) (by kernel_rfl) (by kernel_rfl) (by kernel_rfl) (fun _ _ _ h => h) ?_ (by assumption) ?_
            rotate_left
            · (intro o ho w hSw; (simp only [List.getElem?_toArray, List.getElem?_cons_succ, List.getElem?_cons_zero, Option.some.injEq] at ho); subst ho; (try dsimp only at hSw); go_simp; (first | done | with_reducible rfl))
            (try simp only [Act.put, List.setIfInBounds_toArray, List.set_cons_zero, List.set_cons_succ])
            refine hand_take 14 (some 153) ?_ (by kernel_rfl) (by kernel_rfl) (by kernel_rfl) (by kernel_rfl) (by kernel_rfl) (fun _ _ _ h => h) ?_ (by assumption) ?_
            rotate_left
            · (intro o ho w hSw; (simp only [List.getElem?_toArray, List.getElem?_cons_succ, List.getElem?_cons_zero, Option.some.injEq] at ho); subst ho; (try dsimp only at hSw); go_simp; (first | done | with_reducible rfl))
            (try simp only [Act.put, List.setIfInBounds_toArray, List.set_cons_zero, List.set_cons_succ])
            refine hand_take 15 (some 154) ?_ (by kernel_rfl) (by kernel_rfl) (by kernel_rfl) (by kernel_rfl) (by kernel_rfl) (fun _ _ _ h => h) ?_ (by assumption) ?_
            rotate_left
            · (intro o ho w hSw; (simp only [List.getElem?_toArray, List.getElem?_cons_succ, List.getElem?_cons_zero, Option.some.injEq] at ho); subst ho; (try dsimp only at hSw); go_simp; (first | done | with_reducible rfl))
            (try simp only [Act.put, List.setIfInBounds_toArray, List.set_cons_zero, List.set_cons_succ])
            refine hand_take 16 (some 155) ?_ (by kernel_rfl) (by kernel_rfl) (by kernel_rfl) (by kernel_rfl) (by kernel_rfl) (fun _ _ _ h => h) ?_ (by assumption) ?_
            rotate_left
            · (intro o ho w hSw; (simp only [List.getElem?_toArray, List.getElem?_cons_succ, List.getElem?_cons_zero, Option.some.injEq] at ho); subst ho; (try dsimp only at hSw); go_simp; (first | done | with_reducible rfl))
            (try simp only [Act.put, List.setIfInBounds_toArray, List.set_cons_zero, List.set_cons_succ])
            refine hand_take 17 (some 156) ?_ (by kernel_rfl) (by kernel_rfl) (by kernel_rfl) (by kernel_rfl) (by kernel_rfl) (fun _ _ _ h => h) ?_ (by assumption) ?_
            rotate_left
            · (intro o ho w hSw; (simp only [List.getElem?_toArray, List.getElem?_cons_succ, List.getElem?_cons_zero, Option.some.injEq] at ho); subst ho; (try dsimp only at hSw); go_simp; (first | done | with_reducible rfl))
            (try simp only [Act.put, List.setIfInBounds_toArray, List.set_cons_zero, List.set_cons_succ])
            refine hand_take 18 (some 157) ?_ (by kernel_rfl) (by kernel_rfl) (by kernel_rfl) (by kernel_rfl) (by kernel_rfl) (fun _ _ _ h => h) ?_ (by assumption) ?_
            rotate_left
            · (intro o ho w hSw; (simp only [List.getElem?_toArray, List.getElem?_cons_succ, List.getElem?_cons_zero, Option.some.injEq] at ho); subst ho; (try dsimp only at hSw); go_simp; (first | done | with_reducible rfl))
            (try simp only [Act.put, List.setIfInBounds_toArray, List.set_cons_zero, List.set_cons_succ])
            refine hand_take 19 (some 158) ?_ (by kernel_rfl) (by kernel_rfl) (by kernel_rfl) (by kernel_rfl) (by kernel_rfl) (fun _ _ _ h => h) ?_ (by assumption) ?_
            rotate_left
            · (intro o ho w hSw; (simp only [List.getElem?_toArray, List.getElem?_cons_succ, List.getElem?_cons_zero, Option.some.injEq] at ho); subst ho; (try dsimp only at hSw); go_simp; (first | done | with_reducible rfl))
            (try simp only [Act.put, List.setIfInBounds_toArray, List.set_cons_zero, List.set_cons_succ])
            refine hand_take 20 (some 159) ?_ (by kernel_rfl) (by kernel_rfl) (by kernel_rfl) (by kernel_rfl) (by kernel_rfl) (fun _ _ _ h => h) ?_ (by assumption) ?_
            rotate_left
            · (intro o ho w hSw; (simp only [List.getElem?_toArray, List.getElem?_cons_succ, List.getElem?_cons_zero, Option.some.injEq] at ho); subst ho; (try dsimp only at hSw); go_simp; (first | done | with_reducible rfl))
            (try simp only [Act.put, List.setIfInBounds_toArray, List.set_cons_zero, List.set_cons_succ])
            refine hand_take 21 (some 160) ?_ (by kernel_rfl) (by kernel_rfl) (by kernel_rfl) (by kernel_rfl) (by kernel_rfl) (fun _ _ _ h => h) ?_ (by assumption) ?_
            rotate_left
            · (intro o ho w hSw; (simp only [List.getElem?_toArray, List.getElem?_cons_succ, List.getElem?_cons_zero, Option.some.injEq] at ho); subst ho; (try dsimp only at hSw); go_simp; (first | done | with_reducible rfl))
            (try simp only [Act.put, List.setIfInBounds_toArray, List.set_cons_zero, List.set_cons_succ])
            refine hand_take 22 (some 161) ?_ (by kernel_rfl) (by kernel_rfl) (by kernel_rfl) (by kernel_rfl) (by kernel_rfl) (fun _ _ _ h => h) ?_ (by assumption) ?_
            rotate_left
            · (intro o ho w hSw; (simp only [List.getElem?_toArray, List.getElem?_cons_succ, List.getElem?_cons_zero, Option.some.injEq] at ho); subst ho; (try dsimp only at hSw); go_simp; (first | done | with_reducible rfl))
            (try simp only [Act.put, List.setIfInBounds_toArray, List.set_cons_zero, List.set_cons_succ])
            refine hand_ready 23 (by kernel_rfl) (by kernel_rfl) (fun o ho K hK => ?_)
            (simp only [List.getElem?_toArray, List.getElem?_cons_succ, List.getElem?_cons_zero, Option.some.injEq] at ho)
            subst ho
            go_simp
            ((go_at_call 69; (with_reducible refine HAH.out.mono ?_); rintro e w7 ⟨rfl, hq⟩); have HBG7 : Hid (Below (wr.alloc (.cells #[.slice ka kn kc, .int .i64 (pg : Int)] 71)).heap.size (wr.alloc (.cells #[.slice ka kn kc, .int .i64 (pg : Int)] 71)) w7) := kept (by obtain ⟨q, e⟩ := hq.out; rw [e]; exact drewN_below (Below.refl _ _).drew q); clear hq)
            (try go_wp2_with fail)
            refine hK.out _ _ ?_ (fun hHeld => ?_)
            · ((try dsimp only); (first | exact HEQ.out _ (Below.refl _ _) | exact HEQ.out _ (Below.refl _ _).drew | exact HEQ.out _ HBG7.out))
            clear hK K
            (try simp only [Act.put, List.setIfInBounds_toArray, List.set_cons_zero, List.set_cons_succ])
            refine hand_take 24 (some 163) ?_ (by kernel_rfl) (by kernel_rfl) (by kernel_rfl) (by kernel_rfl) (by kernel_rfl) (fun _ _ _ h => h) ?_ (by assumption) ?_
            rotate_left
            · (intro o ho w hSw; (simp only [List.getElem?_toArray, List.getElem?_cons_succ, List.getElem?_cons_zero, Option.some.injEq] at ho); subst ho; (try dsimp only at hSw); go_simp; (first | done | with_reducible rfl))
            (try simp only [Act.put, List.setIfInBounds_toArray, List.set_cons_zero, List.set_cons_succ])
            refine hand_take 25 (some 164) ?_ (by kernel_rfl) (by kernel_rfl) (by kernel_rfl) (by kernel_rfl) (by kernel_rfl) (fun _ _ _ h => h) ?_ (by assumption) ?_
            rotate_left
            · (intro o ho w hSw; (simp only [List.getElem?_toArray, List.getElem?_cons_succ, List.getElem?_cons_zero, Option.some.injEq] at ho); subst ho; (try dsimp only at hSw); go_simp; (first | done | with_reducible rfl))
            (try simp only [Act.put, List.setIfInBounds_toArray, List.set_cons_zero, List.set_cons_succ])
            refine hand_take 26 (some 165) ?_ (by kernel_rfl) (by kernel_rfl) (by kernel_rfl) (by kernel_rfl) (by kernel_rfl) (fun _ _ _ h => h) ?_ (by assumption) ?_
            rotate_left
            · (intro o ho w hSw; (simp only [List.getElem?_toArray, List.getElem?_cons_succ, List.getElem?_cons_zero, Option.some.injEq] at ho); subst ho; (try dsimp only at hSw); go_simp; (first | done | with_reducible rfl))
            (try simp only [Act.put, List.setIfInBounds_toArray, List.set_cons_zero, List.set_cons_succ])
            refine wpAnyH_done (by kernel_rfl) ?_ _
            have hbg := HBG7.out
            have hbx : Below wr.heap.size wr w7 := ((Below.refl _ wr).alloc (Nat.le_refl _) (.cells #[.slice ka kn kc, .int .i64 (pg : Int)] 71)).trans (hbg.mono (by simp))
            generalize w7 = X at hbx hbg ⊢
            have HBX5 := kept hbx
            have HO5 := kept (own_stays HO.out hbx)
            have HB5 := kept (HB.out.trans (hbx.mono (HSB.out _ HB.out)))
            have HG5 := kept ((Blk.new wr 71 #[.slice ka kn kc, .int .i64 (pg : Int)]).below hbg (by simp))
            obtain ⟨⟨k0, k1⟩, _⟩ := HE.out _ hbg
            have HR5 := fun v e => kept (rd_u8 X kn v (by have := HKL.out; omega) e)
            have HA5 := fun o => kept (HB5.out.alloc (HSB.out _ HB5.out) o)
            have HOA5 := fun o => kept (own_stays HO5.out ((Below.refl _ X).alloc (Nat.le_refl _) o))
            have HGA5 := fun o => kept (HG5.out.alloc o)
            have HXS := kept (HSB.out _ HB5.out)
            clear hbx hbg
            go_wp2_with (first | (at_builtin; refine wpList_append_oth rfl (.tmp 166) (.tmp 171) 25 rfl (w.heap.size + 1) 5 rfl rfl Tryd.underlying25 u8info (HOA5 _).out (HR5 _ rfl).out (by have := HUL.out; omega) (HSB.out _ (HA5 _).out) (u + 1) (encTo encKid J (k + 1) ++ be kn 1) rfl rfl ?_; intro A6 c6' w6 hown6 hb6 hot6; have HO6 := kept hown6; have HB6 := kept ((HA5 _).out.trans hb6); have hg6 := hot6 _ _ _ (by decide) (HGA5 _).out; have k0 : w6.cell? ⟨wr.heap.size, 0, none⟩ = some (.slice ka kn kc) := hg6.cell 0; have HG6 := kept hg6; have HR6 := kept (HRD.out.1.below (HBW.out _ HB6.out)); clear hown6 hb6 hot6 hg6) | (at_builtin; refine wpList_append_oth rfl (.tmp 173) (.tmp 175) 25 rfl (w.heap.size + 1) 5 rfl rfl Tryd.underlying25 u8info HO6.out HR6.out (by have := HUL.out; have := HKL.out; omega) (HSB.out _ HB6.out) (u + 1 + kn) (encTo encKid J (k + 1) ++ be kn 1 ++ x.key) rfl rfl ?_; intro A7 c7' w7 hown7 hb7 hot7; have HO7 := kept hown7; have HB7 := kept (HB6.out.trans hb7); have hg7 := hot7 _ _ _ (by decide) HG6.out; have k1 : w7.cell? ⟨wr.heap.size, 1, none⟩ = some (.int .i64 (pg : Int)) := hg7.cell 1; have HPU7 := HPU w7; clear hown7 hb7 hot7 hg7) | (go_at_call 44; (with_reducible refine (HPU7.out).mono ?_); rintro e w8 ⟨A8, c8', rfl, hrd8, hb8⟩; have HO8 := kept (own_stays HO7.out hb8); have HR8 := kept hrd8; have HB8 := kept (HB7.out.trans (hb8.mono (HSB.out _ HB7.out))); clear hrd8 hb8) | (at_builtin; refine wpList_append_oth rfl (.tmp 177) (.tmp 181) 25 rfl (w.heap.size + 1) 5 rfl rfl Tryd.underlying25 u8info HO8.out HR8.out (by have := HUL.out; have := HKL.out; omega) (HSB.out _ HB8.out) (u + 1 + kn + 4) (encTo encKid J ((k + 1) + 1)) rfl HEN.out ?_; intro A9 c9' w9 hown9 hb9 hot9; have HO9 := kept hown9; have HB9 := kept (HB8.out.trans hb9); clear hown9 hb9 hot9))
            go_roundw
            case rel => exact ⟨(k + 1) + 1, u + 1 + kn + 4, A9, c9', by omega, by go_num, rfl, HUN, HO9, HB9, HU2⟩
            case measure => simp [intOf]; omega
          | false =>
            have HF := kept (HRN.out (by rw [HKN.out]; exact ordU_back hki hlt (ahead_ge hao)))
            rw [hao] at hah
            have HAH := kept hah
            clear hokt HX hah hao hrmx
            go_wp2_with fail
            refine wp_region_held_drew (S := (fun W' => ((W'.cell? ⟨wr.heap.size, 0, none⟩ = some (.slice ka kn kc) ∧ W'.cell? ⟨wr.heap.size, 1, none⟩ = some (.int .i64 (pg : Int))) ∧ Sev W' w.heap.size 2 txn next a1 n1 c1 (some ⟨b, o, none⟩) n2 c2 a3 n3 c3 a4 n4 c4) ∧ W'.cell? ⟨b, o + k * 2, none⟩ = some (.slice ka' kn' kc'))) (by kernel_rfl) ?_ (fun hHeld => ?_)
            · ((try dsimp only); (first | exact HEQ.out _ (Below.refl _ _) | exact HEQ.out _ (Below.refl _ _).drew | exact HEQ.out _ HBG7.out))
            refine hand_take 0 (some 139) ?_ (by kernel_rfl) (by kernel_rfl) (by kernel_rfl) (by kernel_rfl) (by kernel_rfl) (fun _ _ _ h => h) ?_ (by assumption) ?_
            rotate_left
            · (intro o ho w hSw; (simp only [List.getElem?_toArray, List.getElem?_cons_succ, List.getElem?_cons_zero, Option.some.injEq] at ho); subst ho; (try dsimp only at hSw); go_simp; (first | done | with_reducible rfl))
            (try simp only [Act.put, List.setIfInBounds_toArray, List.set_cons_zero, List.set_cons_succ])
            refine hand_take 1 (some 140) ?_ (by kernel_rfl) (by kernel_rfl) (by kernel_rfl) (by kernel_rfl) (by kernel_rfl) (fun _ _ _ h => h) ?_ (by assumption) ?_
            rotate_left
            · (intro o ho w hSw; (simp only [List.getElem?_toArray, List.getElem?_cons_succ, List.getElem?_cons_zero, Option.some.injEq] at ho); subst ho; (try dsimp only at hSw); go_simp; (first | done | with_reducible rfl))
            (try simp only [Act.put, List.setIfInBounds_toArray, List.set_cons_zero, List.set_cons_succ])
            refine hand_take 2 (some 141) ?_ (by kernel_rfl) (by kernel_rfl) (by kernel_rfl) (by kernel_rfl) (by kernel_rfl) (fun _ _ _ h => h) ?_ (by assumption) ?_
            rotate_left
            · (intro o ho w hSw; (simp only [List.getElem?_toArray, List.getElem?_cons_succ, List.getElem?_cons_zero, Option.some.injEq] at ho); subst ho; (try dsimp only at hSw); go_simp; (first | done | with_reducible rfl))
            (try simp only [Act.put, List.setIfInBounds_toArray, List.set_cons_zero, List.set_cons_succ])
            refine hand_take 3 (some 142) ?_ (by kernel_rfl) (by kernel_rfl) (by kernel_rfl) (by kernel_rfl) (by kernel_rfl) (fun _ _ _ h => h) ?_ (by assumption) ?_
            rotate_left
            · (intro o ho w hSw; (simp only [List.getElem?_toArray, List.getElem?_cons_succ, List.getElem?_cons_zero, Option.some.injEq] at ho); subst ho; (try dsimp only at hSw); go_simp; (first | done | with_reducible rfl))
            (try simp only [Act.put, List.setIfInBounds_toArray, List.set_cons_zero, List.set_cons_succ])
            refine hand_take 4 (some 143) ?_ (by kernel_rfl) (by kernel_rfl) (by kernel_rfl) (by kernel_rfl) (by kernel_rfl) (fun _ _ _ h => h) ?_ (by assumption) ?_
            rotate_left
            · (intro o ho w hSw; (simp only [List.getElem?_toArray, List.getElem?_cons_succ, List.getElem?_cons_zero, Option.some.injEq] at ho); subst ho; (try dsimp only at hSw); go_simp; (first | done | with_reducible rfl))
            (try simp only [Act.put, List.setIfInBounds_toArray, List.set_cons_zero, List.set_cons_succ])
            refine hand_take 5 (some 144) ?_ (by kernel_rfl) (by kernel_rfl) (by kernel_rfl) (by kernel_rfl) (by kernel_rfl) (fun _ _ _ h => h) ?_ (by assumption) ?_
            rotate_left
            · (intro o ho w hSw; (simp only [List.getElem?_toArray, List.getElem?_cons_succ, List.getElem?_cons_zero, Option.some.injEq] at ho); subst ho; (try dsimp only at hSw); go_simp; (first | done | with_reducible rfl))
            (try simp only [Act.put, List.setIfInBounds_toArray, List.set_cons_zero, List.set_cons_succ])
            refine hand_take 6 (some 145) ?_ (by kernel_rfl) (by kernel_rfl) (by kernel_rfl) (by kernel_rfl) (by kernel_rfl) (fun _ _ _ h => h) ?_ (by assumption) ?_
            rotate_left
            · (intro o ho w hSw; (simp only [List.getElem?_toArray, List.getElem?_cons_succ, List.getElem?_cons_zero, Option.some.injEq] at ho); subst ho; (try dsimp only at hSw); go_simp; (first | done | with_reducible rfl))
            (try simp only [Act.put, List.setIfInBounds_toArray, List.set_cons_zero, List.set_cons_succ])
            refine hand_ready 7 (by kernel_rfl) (by kernel_rfl) (fun o ho K hK => ?_)
            (simp only [List.getElem?_toArray, List.getElem?_cons_succ, List.getElem?_cons_zero, Option.some.injEq] at ho)
            subst ho
            go_simp
            (go_at_call 68; (with_reducible refine (HP _).out.mono ?_); rintro e w' ⟨rfl, rfl⟩)
            (try go_wp2_with fail)
            refine hK.out _ _ ?_ (fun hHeld => ?_)
            · ((try dsimp only); (first | exact HEQ.out _ (Below.refl _ _) | exact HEQ.out _ (Below.refl _ _).drew | exact HEQ.out _ HBG7.out))
            clear hK K
            (try simp only [Act.put, List.setIfInBounds_toArray, List.set_cons_zero, List.set_cons_succ])
            refine hand_take 8 (some 147) ?_ (by kernel_rfl) (by kernel_rfl) (by kernel_rfl) (by kernel_rfl) (by kernel_rfl) (fun _ _ _ h => h) ?_ (by assumption) ?_
            rotate_left
            · (intro o ho w hSw; (simp only [List.getElem?_toArray, List.getElem?_cons_succ, List.getElem?_cons_zero, Option.some.injEq] at ho); subst ho; (try dsimp only at hSw); go_simp; (first | done | with_reducible rfl))
            (try simp only [Act.put, List.setIfInBounds_toArray, List.set_cons_zero, List.set_cons_succ])
            refine hand_take 9 (some 148) ?_ (by kernel_rfl) (by kernel_rfl) (by kernel_rfl) (by kernel_rfl) (by kernel_rfl) (fun _ _ _ h => h) ?_ (by assumption) ?_
            rotate_left
            · (intro o ho w hSw; (simp only [List.getElem?_toArray, List.getElem?_cons_succ, List.getElem?_cons_zero, Option.some.injEq] at ho); subst ho; (try dsimp only at hSw); go_simp; (first | done | with_reducible rfl))
            (try simp only [Act.put, List.setIfInBounds_toArray, List.set_cons_zero, List.set_cons_succ])
            refine hand_take 10 (some 149) ?_ (by kernel_rfl) (by kernel_rfl) (by kernel_rfl) (by kernel_rfl) (by kernel_rfl) (fun _ _ _ h => h) ?_ (by assumption) ?_
            rotate_left
            · (intro o ho w hSw; (simp only [List.getElem?_toArray, List.getElem?_cons_succ, List.getElem?_cons_zero, Option.some.injEq] at ho); subst ho; (try dsimp only at hSw); go_simp; (first | done | with_reducible rfl))
            (try simp only [Act.put, List.setIfInBounds_toArray, List.set_cons_zero, List.set_cons_succ])
            refine hand_take 11 (some 150) ?_ (by kernel_rfl) (by kernel_rfl) (by kernel_rfl) (by kernel_rfl) (by kernel_rfl) (fun _ _ _ h => h) ?_ (by assumption) ?_
            rotate_left
            · (intro o ho w hSw; (simp only [List.getElem?_toArray, List.getElem?_cons_succ, List.getElem?_cons_zero, Option.some.injEq] at ho); subst ho; (try dsimp only at hSw); go_simp; (first | done | with_reducible rfl))
            (try simp only [Act.put, List.setIfInBounds_toArray, List.set_cons_zero, List.set_cons_succ])
            refine hand_take 12 (some 151) ?_ (by kernel_rfl) (by kernel_rfl) (by kernel_rfl) (by kernel_rfl) (by kernel_rfl) (fun _ _ _ h => h) ?_ (by assumption) ?_
            rotate_left
            · (intro o ho w hSw; (simp only [List.getElem?_toArray, List.getElem?_cons_succ, List.getElem?_cons_zero, Option.some.injEq] at ho); subst ho; (try dsimp only at hSw); go_simp; (first | done | with_reducible rfl))
            (try simp only [Act.put, List.setIfInBounds_toArray, List.set_cons_zero, List.set_cons_succ])
            refine hand_take 13 (some 152) ?_ (by kernel_rfl) (by kernel_rfl) (by kernel_rfl) (by kernel_rfl) (by kernel_rfl) (fun _ _ _ h => h) ?_ (by assumption) ?_
            rotate_left
            · (intro o ho w hSw; (simp only [List.getElem?_toArray, List.getElem?_cons_succ, List.getElem?_cons_zero, Option.some.injEq] at ho); subst ho; (try dsimp only at hSw); go_simp; (first | done | with_reducible rfl))
            (try simp only [Act.put, List.setIfInBounds_toArray, List.set_cons_zero, List.set_cons_succ])
            refine hand_take 14 (some 153) ?_ (by kernel_rfl) (by kernel_rfl) (by kernel_rfl) (by kernel_rfl) (by kernel_rfl) (fun _ _ _ h => h) ?_ (by assumption) ?_
            rotate_left
            · (intro o ho w hSw; (simp only [List.getElem?_toArray, List.getElem?_cons_succ, List.getElem?_cons_zero, Option.some.injEq] at ho); subst ho; (try dsimp only at hSw); go_simp; (first | done | with_reducible rfl))
            (try simp only [Act.put, List.setIfInBounds_toArray, List.set_cons_zero, List.set_cons_succ])
            refine hand_take 15 (some 154) ?_ (by kernel_rfl) (by kernel_rfl) (by kernel_rfl) (by kernel_rfl) (by kernel_rfl) (fun _ _ _ h => h) ?_ (by assumption) ?_
            rotate_left
            · (intro o ho w hSw; (simp only [List.getElem?_toArray, List.getElem?_cons_succ, List.getElem?_cons_zero, Option.some.injEq] at ho); subst ho; (try dsimp only at hSw); go_simp; (first | done | with_reducible rfl))
            (try simp only [Act.put, List.setIfInBounds_toArray, List.set_cons_zero, List.set_cons_succ])
            refine hand_take 16 (some 155) ?_ (by kernel_rfl) (by kernel_rfl) (by kernel_rfl) (by kernel_rfl) (by kernel_rfl) (fun _ _ _ h => h) ?_ (by assumption) ?_
            rotate_left
            · (intro o ho w hSw; (simp only [List.getElem?_toArray, List.getElem?_cons_succ, List.getElem?_cons_zero, Option.some.injEq] at ho); subst ho; (try dsimp only at hSw); go_simp; (first | done | with_reducible rfl))
            (try simp only [Act.put, List.setIfInBounds_toArray, List.set_cons_zero, List.set_cons_succ])
            refine hand_take 17 (some 156) ?_ (by kernel_rfl) (by kernel_rfl) (by kernel_rfl) (by kernel_rfl) (by kernel_rfl) (fun _ _ _ h => h) ?_ (by assumption) ?_
            rotate_left
            · (intro o ho w hSw; (simp only [List.getElem?_toArray, List.getElem?_cons_succ, List.getElem?_cons_zero, Option.some.injEq] at ho); subst ho; (try dsimp only at hSw); go_simp; (first | done | with_reducible rfl))
            (try simp only [Act.put, List.setIfInBounds_toArray, List.set_cons_zero, List.set_cons_succ])
            refine hand_take 18 (some 157) ?_ (by kernel_rfl) (by kernel_rfl) (by kernel_rfl) (by kernel_rfl) (by kernel_rfl) (fun _ _ _ h => h) ?_ (by assumption) ?_
            rotate_left
            · (intro o ho w hSw; (simp only [List.getElem?_toArray, List.getElem?_cons_succ, List.getElem?_cons_zero, Option.some.injEq] at ho); subst ho; (try dsimp only at hSw); go_simp; (first | done | with_reducible rfl))
            (try simp only [Act.put, List.setIfInBounds_toArray, List.set_cons_zero, List.set_cons_succ])
            refine hand_take 19 (some 158) ?_ (by kernel_rfl) (by kernel_rfl) (by kernel_rfl) (by kernel_rfl) (by kernel_rfl) (fun _ _ _ h => h) ?_ (by assumption) ?_
            rotate_left
            · (intro o ho w hSw; (simp only [List.getElem?_toArray, List.getElem?_cons_succ, List.getElem?_cons_zero, Option.some.injEq] at ho); subst ho; (try dsimp only at hSw); go_simp; (first | done | with_reducible rfl))
            (try simp only [Act.put, List.setIfInBounds_toArray, List.set_cons_zero, List.set_cons_succ])
            refine hand_take 20 (some 159) ?_ (by kernel_rfl) (by kernel_rfl) (by kernel_rfl) (by kernel_rfl) (by kernel_rfl) (fun _ _ _ h => h) ?_ (by assumption) ?_
            rotate_left
            · (intro o ho w hSw; (simp only [List.getElem?_toArray, List.getElem?_cons_succ, List.getElem?_cons_zero, Option.some.injEq] at ho); subst ho; (try dsimp only at hSw); go_simp; (first | done | with_reducible rfl))
            (try simp only [Act.put, List.setIfInBounds_toArray, List.set_cons_zero, List.set_cons_succ])
            refine hand_take 21 (some 160) ?_ (by kernel_rfl) (by kernel_rfl) (by kernel_rfl) (by kernel_rfl) (by kernel_rfl) (fun _ _ _ h => h) ?_ (by assumption) ?_
            rotate_left
            · (intro o ho w hSw; (simp only [List.getElem?_toArray, List.getElem?_cons_succ, List.getElem?_cons_zero, Option.some.injEq] at ho); subst ho; (try dsimp only at hSw); go_simp; (first | done | with_reducible rfl))
            (try simp only [Act.put, List.setIfInBounds_toArray, List.set_cons_zero, List.set_cons_succ])
            refine hand_take 22 (some 161) ?_ (by kernel_rfl) (by kernel_rfl) (by kernel_rfl) (by kernel_rfl) (by kernel_rfl) (fun _ _ _ h => h) ?_ (by assumption) ?_
            rotate_left
            · (intro o ho w hSw; (simp only [List.getElem?_toArray, List.getElem?_cons_succ, List.getElem?_cons_zero, Option.some.injEq] at ho); subst ho; (try dsimp only at hSw); go_simp; (first | done | with_reducible rfl))
            (try simp only [Act.put, List.setIfInBounds_toArray, List.set_cons_zero, List.set_cons_succ])
            refine hand_ready 23 (by kernel_rfl) (by kernel_rfl) (fun o ho K hK => ?_)
            (simp only [List.getElem?_toArray, List.getElem?_cons_succ, List.getElem?_cons_zero, Option.some.injEq] at ho)
            subst ho
            go_simp
            ((go_at_call 69; (with_reducible refine HAH.out.mono ?_); rintro e w7 ⟨rfl, hq⟩); have HBG7 : Hid (Below (wr.alloc (.cells #[.slice ka kn kc, .int .i64 (pg : Int)] 71)).heap.size (wr.alloc (.cells #[.slice ka kn kc, .int .i64 (pg : Int)] 71)) w7) := kept (by obtain ⟨q, e⟩ := hq.out; rw [e]; exact drewN_below (Below.refl _ _).drew q); clear hq)
            (try go_wp2_with fail)
            refine hK.out _ _ ?_ (fun hHeld => ?_)
            · ((try dsimp only); (first | exact HEQ.out _ (Below.refl _ _) | exact HEQ.out _ (Below.refl _ _).drew | exact HEQ.out _ HBG7.out))
            clear hK K
            (try simp only [Act.put, List.setIfInBounds_toArray, List.set_cons_zero, List.set_cons_succ])
            refine hand_take 24 (some 163) ?_ (by kernel_rfl) (by kernel_rfl) (by kernel_rfl) (by kernel_rfl) (by kernel_rfl) (fun _ _ _ h => h) ?_ (by assumption) ?_
            rotate_left
            · (intro o ho w hSw; (simp only [List.getElem?_toArray, List.getElem?_cons_succ, List.getElem?_cons_zero, Option.some.injEq] at ho); subst ho; (try dsimp only at hSw); go_simp; (first | done | with_reducible rfl))
            (try simp only [Act.put, List.setIfInBounds_toArray, List.set_cons_zero, List.set_cons_succ])
            refine hand_take 25 (some 164) ?_ (by kernel_rfl) (by kernel_rfl) (by kernel_rfl) (by kernel_rfl) (by kernel_rfl) (fun _ _ _ h => h) ?_ (by assumption) ?_
            rotate_left
            · (intro o ho w hSw; (simp only [List.getElem?_toArray, List.getElem?_cons_succ, List.getElem?_cons_zero, Option.some.injEq] at ho); subst ho; (try dsimp only at hSw); go_simp; (first | done | with_reducible rfl))
            (try simp only [Act.put, List.setIfInBounds_toArray, List.set_cons_zero, List.set_cons_succ])
            refine hand_take 26 (some 165) ?_ (by kernel_rfl) (by kernel_rfl) (by kernel_rfl) (by kernel_rfl) (by kernel_rfl) (fun _ _ _ h => h) ?_ (by assumption) ?_
            rotate_left
            · (intro o ho w hSw; (simp only [List.getElem?_toArray, List.getElem?_cons_succ, List.getElem?_cons_zero, Option.some.injEq] at ho); subst ho; (try dsimp only at hSw); go_simp; (first | done | with_reducible rfl))
            (try simp only [Act.put, List.setIfInBounds_toArray, List.set_cons_zero, List.set_cons_succ])
            refine wpAnyH_done (by kernel_rfl) ?_ _
            go_wp2
            go_ret3
            exact .inr ⟨HF.out, rfl, (HBF _ HBG7.out).out⟩
    · obtain rfl : k = n2 := by omega
      have hrx := HR2.out (by rw [HKN.out]; exact HU.out)
      have hsum : (J.map kidUse).sum = u := by
        have h1 := flatten_len encKid_length J
        have h2 := HUQ.out.1
        rw [← h1, ← encTo_all, HKN.out, h2]
      rw [HKN.out, hsum] at hrx
      have HRX := kept hrx
      have HBX := kept (HBW.out _ HB.out)
      obtain ⟨z0, z1, z2, z3, z4, z5, z6⟩ := HSV.out _ HB.out
      have hs2 := HS2.out
      have hll := HLN.out
      have hnx := HNX.out
      clear hlt hk hrx hsum
      go_upto_region 43 with fail
      by_cases t0 : k = 0
      · have HFF : Hid (rightB P = false) := kept (by rw [HRX.out, decide_eq_false (p := 0 < k) (by omega)]; simp)
        have g0 : ((k : Int) == 0) = true := by rw [beq_iff_eq]; omega
        clear hs2 hll hnx t0
        go_wp2
        all_goals
          go_ret3
          exact .inr ⟨HFF.out, rfl, HBX.out⟩
      have g0 : ((k : Int) == 0) = false := by rw [beq_eq_false_iff_ne]; omega
      by_cases t1 : s4 = 0
      · have g1 : ((s4 : Int) != 0) = false := by rw [t1]; rfl
        by_cases t2 : 237 < u
        · have HFF : Hid (rightB P = false) := kept (by rw [HRX.out, decide_eq_false (p := u ≤ 237) (by omega)]; simp)
          have g2 : decide ((237 : Int) < (u : Int)) = true := by rw [decide_eq_true_eq]; omega
          clear hs2 hll hnx t0 t1 t2
          go_wp2
          all_goals
            go_ret3
            exact .inr ⟨HFF.out, rfl, HBX.out⟩
        have g2 : decide ((237 : Int) < (u : Int)) = false := by rw [decide_eq_false_iff_not]; omega
        by_cases t3 : next < 0
        · have HFF : Hid (rightB P = false) := kept (by rw [HRX.out, decide_eq_false (p := P.next = 0) (by omega)]; simp)
          have g3 : decide (next < 0) = true := by rw [decide_eq_true_eq]; omega
          clear hs2 hll hnx t0 t1 t2 t3
          go_wp2
          all_goals
            go_ret3
            exact .inr ⟨HFF.out, rfl, HBX.out⟩
        have g3 : decide (next < 0) = false := by rw [decide_eq_false_iff_not]; omega
        by_cases t4 : 1024 ≤ next
        · have HFF : Hid (rightB P = false) := kept (by rw [HRX.out, decide_eq_false (p := P.next = 0) (by omega)]; simp)
          have g4 : decide (1024 ≤ next) = true := by rw [decide_eq_true_eq]; omega
          clear hs2 hll hnx t0 t1 t2 t3 t4
          go_wp2
          all_goals
            go_ret3
            exact .inr ⟨HFF.out, rfl, HBX.out⟩
        have g4 : decide (1024 ≤ next) = false := by rw [decide_eq_false_iff_not]; omega
        by_cases t5 : next = 0
        rotate_left
        · have HFF : Hid (rightB P = false) := kept (by rw [HRX.out, decide_eq_false (p := P.next = 0) (by omega)]; simp)
          have g5 : (next != 0) = true := by rw [bne_iff_ne]; exact t5
          clear hs2 hll hnx t0 t1 t2 t3 t4 t5
          go_wp2
          all_goals
            go_ret3
            exact .inr ⟨HFF.out, rfl, HBX.out⟩
        have g5 : (next != 0) = false := by rw [t5]; rfl
        have HTT : Hid (rightB P = true) := kept (by rw [HRX.out]; simp only [Bool.and_eq_true, decide_eq_true_eq]; omega)
        have hus := HUS.out (by omega)
        have HU1 := kept hus
        have HU2 : Hid (cntP P = k) := kept (by omega)
        have HUE : Hid (u = usedN P) := kept (by rw [← HUQ2.out, hus, HKN.out]; exact HUQ.out.1.symm)
        clear hs2 hll hnx t0 t1 t2 t3 t4 t5 hus
        go_wp2
        all_goals
          go_ret3
          refine .inl ⟨HTT.out, ⟨A, c, by rw [HU2.out, ← HUE.out] <;> first | done | rfl | (simp <;> omega), ?_⟩, HBX.out⟩
          rw [HU1.out, ← HUE.out, HKN.out]
          exact own_mono HO.out (Nat.le_succ _)
      · have HFF : Hid (rightB P = false) := kept (by rw [HRX.out, decide_eq_false (p := P.items.length + P.data.length + P.ids.length = 0) (by omega)]; simp)
        have g1 : ((s4 : Int) != 0) = true := by rw [bne_iff_ne]; omega
        clear hs2 hll hnx t0 t1
        go_wp2
        all_goals
          go_ret3
          exact .inr ⟨HFF.out, rfl, HBX.out⟩
end Go.Proofs.YtfgpkgenahlikaaDoor
