/-
  terrierref04.room of a page of kind 1: items.
-/
import Derived.Test.YtfgpkgenahlikaaDoorRok
namespace Go.Proofs.YtfgpkgenahlikaaDoor
open Go.ChangeShapes Go.WideShapes Go.ChangeAt Go.RowKit
set_option linter.unusedVariables false
set_option linter.unusedSimpArgs false

theorem be_two (n : Nat) : be n 2 = [UInt8.ofNat (n / 256), UInt8.ofNat n] := by simp [be]
theorem rd_u8s (X : World) (n sz q r : Nat) (v0 v1 v2 : Value) (h : n < 256) (hq : q < 256) (hr : r < 256) (hs : sz = q * 256 + r) (e0 : v0 = .int .u8 (n : Int)) (e1 : v1 = .int .u8 (q : Int)) (e2 : v2 = .int .u8 (r : Int)) :
    Rd (X.alloc (.cells #[v0, v1, v2] 5)) (some ⟨X.heap.size, 0, none⟩) 3 (be n 1 ++ be sz 2) := by
  subst e0 e1 e2
  have hb : be n 1 ++ be sz 2 = [UInt8.ofNat n, UInt8.ofNat (sz / 256), UInt8.ofNat sz] := by rw [be_two]; simp [be]
  have h2 := Rd.marked X 5 [UInt8.ofNat n, UInt8.ofNat (sz / 256), UInt8.ofNat sz] (0, 0)
  rw [hb]
  have e3 : (cellsOf [UInt8.ofNat n, UInt8.ofNat (sz / 256), UInt8.ofNat sz]).toArray = #[Value.int .u8 (n : Int), .int .u8 (q : Int), .int .u8 (r : Int)] := by
    simp only [cellsOf, byteV, List.map_cons, List.map_nil, UInt8.toNat_ofNat']
    rw [show n % 2 ^ 8 = n by omega, show sz / 256 % 2 ^ 8 = q by omega, show sz % 2 ^ 8 = r by omega]
  rw [e3] at h2
  exact h2
set_option maxRecDepth 100000 in
set_option maxHeartbeats 16000000 in
theorem room1_any (l : Lay) (P : Pg) (w : World) (h : RdPg w l P) (hk : l.kind = 1) (hn : l.n1 ≤ 1000) :
    Calls Tryd.prog 39 #[l.val] w (RoomAns P w) := by
  have hkP : P.kind = 1 := by rw [h.kind, hk]
  have HR2 := kept (fun ho => right1 hkP ho)
  have HK := kept h.items
  have HKN := kept h.n1
  have hL : cntP P = l.n1 + l.n2 + l.n3 + l.n4 ∧ P.items.length = l.n1 ∧ P.kids.length = l.n2 ∧ P.data.length = l.n3 ∧ P.ids.length = l.n4 := ⟨by unfold cntP; rw [h.n1, h.n2, h.n3, h.n4], h.n1, h.n2, h.n3, h.n4⟩
  have HLN := kept hL
  have HNX := kept h.next
  have HRN := kept (fun (ho : ordU itemOk cmpI P.items P.items.length = false) => rightB_no_things (P := P) (by unfold thingsB; rw [ho]; simp))
  have HUS := kept (fun (h0 : P.kids.length + P.data.length + P.ids.length = 0) => (show roomOf P = encTo encItem P.items P.items.length from by
    have e1 : P.kids = [] := List.eq_nil_of_length_eq_zero (by omega)
    have e2 : P.data = [] := List.eq_nil_of_length_eq_zero (by omega)
    have e3 : P.ids = [] := List.eq_nil_of_length_eq_zero (by omega)
    unfold roomOf
    rw [e1, e2, e3, encTo_all]
    simp))
  have HUQ2 := kept (roomOf_length P)
  have hb := And.intro h.b1 (And.intro h.b2 (And.intro h.b3 h.b4))
  obtain ⟨s1, hs1⟩ : ∃ s : Nat, s = l.n1 + l.n2 := ⟨_, rfl⟩
  obtain ⟨s2, hs2⟩ : ∃ s : Nat, s = s1 + l.n3 := ⟨_, rfl⟩
  obtain ⟨s3, hs3⟩ : ∃ s : Nat, s = s2 + l.n4 := ⟨_, rfl⟩
  obtain ⟨s4, hs4⟩ : ∃ s : Nat, s = l.n2 + l.n3 + l.n4 := ⟨_, rfl⟩
  have hw1 : IntKind.i64.wrap ((l.n1 : Int) + (l.n2 : Int)) = (s1 : Int) := by rw [show (l.n1 : Int) + (l.n2 : Int) = (s1 : Int) by omega]; exact IntWalk.i64_in _ ⟨by omega, by omega⟩
  have hw2 : IntKind.i64.wrap ((s1 : Int) + (l.n3 : Int)) = (s2 : Int) := by rw [show (s1 : Int) + (l.n3 : Int) = (s2 : Int) by omega]; exact IntWalk.i64_in _ ⟨by omega, by omega⟩
  have hw3 : IntKind.i64.wrap ((s2 : Int) + (l.n4 : Int)) = (s3 : Int) := by rw [show (s2 : Int) + (l.n4 : Int) = (s3 : Int) by omega]; exact IntWalk.i64_in _ ⟨by omega, by omega⟩
  have hw4 : IntKind.i64.wrap ((s3 : Int) - (l.n1 : Int)) = (s4 : Int) := by rw [show (s3 : Int) - (l.n1 : Int) = (s4 : Int) by omega]; exact IntWalk.i64_in _ ⟨by omega, by omega⟩
  have HS2 := kept hs4
  have HN := kept hn
  obtain ⟨J, hJ⟩ : ∃ J, P.items = J := ⟨_, rfl⟩
  rw [hJ] at HR2 HK HKN HRN HUS
  clear h hkP hL hs1 hs2 hs3 hs4 hb hJ
  obtain ⟨kind, txn, next, a1, n1, c1, a2, n2, c2, a3, n3, c3, a4, n4, c4⟩ := l
  simp only at hk hw1 hw2 hw3 hw4 hn HK HKN HLN HNX HS2 HN
  subst hk
  have HRO := kept (ro_new w 1 txn next a1 n1 c1 a2 n2 c2 a3 n3 c3 a4 n4 c4)
  go_enter Tryd.func39, Tryd.ntmps39
  go_wp2
  generalize (w.alloc (.cells #[.int .i64 1, .int .u64 txn, .int .i64 next, .slice a1 n1 c1, .slice a2 n2 c2, .slice a3 n3 c3, .slice a4 n4 c4] 34)) = w1 at HRO ⊢
  generalize (w1.alloc (.cells #[] 5)) = w2 at HRO ⊢
  have HBW := kept (fun (X : World) (hX : Below (w.heap.size + 1) w1 X) => HRO.out.below.trans (hX.mono (Nat.le_succ _)))
  have HSB := kept (fun (X : World) (hX : Below (w.heap.size + 1) w1 X) => (show w.heap.size + 1 ≤ X.heap.size from Nat.le_trans (Nat.le_of_eq HRO.out.size.symm) hX.size))
  have HSV := kept (fun (X : World) (hX : Below (w.heap.size + 1) w1 X) => sev_old HRO.out.box hX)
  go_loopw [5, 26] (fun ob i wr => ∃ (k u : Nat) (A : Option Addr) (c : Nat), k ≤ n1 ∧ i = .int .i64 k ∧ ob = .slice A u c ∧ Hid ((encTo encItem J k).length = u ∧ u ≤ 99 * k) ∧ Hid (wr.ownsRow (w.heap.size + 1) 5 1 (.slice A u c) u (cellsOf (encTo encItem J k))) ∧ Hid (Below (w.heap.size + 1) w1 wr) ∧ Hid (ordU itemOk cmpI J k = true)) (fun _ i _ => n1 - (intOf i).toNat)
  case atStart => exact ⟨0, 0, _, _, by omega, rfl, rfl, kept ⟨rfl, by omega⟩, kept HRO.out.own, kept HRO.out.next_, ordU_zero⟩
  case round =>
    obtain ⟨k, u, A, c, hk, rfl, rfl, HUQ, HO, HB, HU⟩ := hrel
    by_cases hlt : k < n1
    · obtain ⟨b, o, L, ea2, hrd, hc0, hc1, hc2, hc3⟩ := HK.out.at_ hlt
      subst ea2
      have hki : k < J.length := by rw [HKN.out]; exact hlt
      have hi1 : (0 : Int) ≤ (k : Int) := by omega
      have hi2 : (k : Int) < (n1 : Int) := by omega
      have hbw := HBW.out _ HB.out
      have HKI := kept hki
      obtain ⟨ka, kn, kc, va, vn, vc, size, more⟩ := L
      simp only at hc0 hc1 hc2 hc3
      replace hc0 := cell_below hbw hc0
      replace hc1 := cell_below hbw hc1
      replace hc2 := cell_below hbw hc2
      replace hc3 := cell_below hbw hc3
      have HE : Hid (∀ X, Below (wr.alloc (.cells #[.slice ka kn kc, .slice va vn vc, .int .i64 size, .int .i64 more] 70)).heap.size (wr.alloc (.cells #[.slice ka kn kc, .slice va vn vc, .int .i64 size, .int .i64 more] 70)) X → (X.cell? ⟨wr.heap.size, 0, none⟩ = some (.slice ka kn kc) ∧ X.cell? ⟨wr.heap.size, 1, none⟩ = some (.slice va vn vc) ∧ X.cell? ⟨wr.heap.size, 2, none⟩ = some (.int .i64 size) ∧ X.cell? ⟨wr.heap.size, 3, none⟩ = some (.int .i64 more)) ∧ Sev X w.heap.size 1 txn next (some ⟨b, o, none⟩) n1 c1 a2 n2 c2 a3 n3 c3 a4 n4 c4) := kept (fun X hX => by
        have hg := (Blk.new wr 70 #[.slice ka kn kc, .slice va vn vc, .int .i64 size, .int .i64 more]).below hX (by simp)
        have hb5 := HB.out.trans (((Below.refl _ wr).alloc (HSB.out _ HB.out) (.cells #[.slice ka kn kc, .slice va vn vc, .int .i64 size, .int .i64 more] 70)).trans (hX.mono (by have := HSB.out _ HB.out; simp; omega)))
        exact ⟨⟨hg.cell 0, hg.cell 1, hg.cell 2, hg.cell 3⟩, HSV.out _ hb5⟩)
      have HBF := fun X (hX : Below (wr.alloc (.cells #[.slice ka kn kc, .slice va vn vc, .int .i64 size, .int .i64 more] 70)).heap.size (wr.alloc (.cells #[.slice ka kn kc, .slice va vn vc, .int .i64 size, .int .i64 more] 70)) X) => kept (HBW.out X (HB.out.trans (((Below.refl _ wr).alloc (HSB.out _ HB.out) (.cells #[.slice ka kn kc, .slice va vn vc, .int .i64 size, .int .i64 more] 70)).trans (hX.mono (by have := HSB.out _ HB.out; simp; omega)))))
      have HBQ : Below (wr.alloc (.cells #[.slice ka kn kc, .slice va vn vc, .int .i64 size, .int .i64 more] 70)).heap.size (wr.alloc (.cells #[.slice ka kn kc, .slice va vn vc, .int .i64 size, .int .i64 more] 70)) (wr.alloc (.cells #[.slice ka kn kc, .slice va vn vc, .int .i64 size, .int .i64 more] 70)).drew := (Below.refl _ _).drew
      have HBQ0 : Below (wr.alloc (.cells #[.slice ka kn kc, .slice va vn vc, .int .i64 size, .int .i64 more] 70)).heap.size (wr.alloc (.cells #[.slice ka kn kc, .slice va vn vc, .int .i64 size, .int .i64 more] 70)) (wr.alloc (.cells #[.slice ka kn kc, .slice va vn vc, .int .i64 size, .int .i64 more] 70)) := Below.refl _ _
      have hok := (RdIt.ok hrd)
      simp only at hok
      have HX : Hid (RdIt w ⟨ka, kn, kc, va, vn, vc, size, more⟩ (J[k]'hki)) := kept hrd
      have HBAD := kept (fun (hf : itemOk (J[k]'hki) = false) => HRN.out (by rw [HKN.out]; exact ordU_bad hki hlt hf))
      clear hrd hbw
      by_cases h32 : 32 < kn
      · have HF := kept (HBAD.out (by rw [← hok, decide_eq_false (by omega)]; simp))
        have hg32 : decide ((32 : Int) < (kn : Int)) = true := by rw [decide_eq_true_eq]; omega
        clear hok h32
        go_wp2
        go_ret3
        exact .inr ⟨HF.out, rfl, (HBF _ HBQ0).out⟩
      have hg32 : decide ((32 : Int) < (kn : Int)) = false := by rw [decide_eq_false_iff_not]; omega
      by_cases hs0 : size < 0
      · have HF := kept (HBAD.out (by rw [← hok, decide_eq_false (p := 0 ≤ size) (by omega)]; simp))
        have hg0 : decide (size < 0) = true := by rw [decide_eq_true_eq]; omega
        clear hok h32 hs0
        go_wp2
        go_ret3
        exact .inr ⟨HF.out, rfl, (HBF _ HBQ0).out⟩
      have hg0 : decide (size < 0) = false := by rw [decide_eq_false_iff_not]; omega
      by_cases hs1 : 4096 < size
      · have HF := kept (HBAD.out (by rw [← hok, decide_eq_false (p := size ≤ 4096) (by omega)]; simp))
        have hg1 : decide (4096 < size) = true := by rw [decide_eq_true_eq]; omega
        clear hok h32 hs0 hs1
        go_wp2
        go_ret3
        exact .inr ⟨HF.out, rfl, (HBF _ HBQ0).out⟩
      have hg1 : decide (4096 < size) = false := by rw [decide_eq_false_iff_not]; omega
      obtain ⟨sz, hsz⟩ : ∃ sz : Nat, size = (sz : Int) := ⟨size.toNat, by omega⟩
      obtain ⟨q, hq⟩ : ∃ q : Nat, q = sz / 256 := ⟨_, rfl⟩
      obtain ⟨rm, hrm'⟩ : ∃ rm : Nat, rm = sz % 256 := ⟨_, rfl⟩
      have hq0 : q < 256 ∧ rm < 256 ∧ sz = q * 256 + rm := by omega
      have HQR := kept hq0
      have hd1 : (size).tdiv 256 = (q : Int) := by rw [hsz, Int.tdiv_eq_ediv_of_nonneg (by omega)]; omega
      have hd2 : (size).tmod 256 = (rm : Int) := by rw [hsz, Int.tmod_eq_emod_of_nonneg (by omega)]; omega
      have hd3 : size / 256 = (q : Int) := by omega
      have hd4 : size % 256 = (rm : Int) := by omega
      have hd5 : IntKind.u8.wrap (q : Int) = (q : Int) := IntWalk.u8_in _ ⟨by omega, by omega⟩
      have hd6 : IntKind.u8.wrap (rm : Int) = (rm : Int) := IntWalk.u8_in _ ⟨by omega, by omega⟩
      have hd7 : IntKind.i64.wrap (q : Int) = (q : Int) := IntWalk.i64_in _ ⟨by omega, by omega⟩
      have hd8 : (q : Int) % 256 = (q : Int) := by omega
      have hd9 : (rm : Int) % 256 = (rm : Int) := by omega
      have hw8 : IntKind.u8.wrap (kn : Int) = (kn : Int) := IntWalk.u8_in _ ⟨by omega, by omega⟩
      have hw8' : (kn : Int) % 256 = (kn : Int) := by omega
      have HKL := kept (show kn ≤ 32 by omega)
      have HUL := kept (show u ≤ 99000 by have h2 := HUQ.out.2; have h3 := HN.out; omega)
      have hlen : (J[k]'hki).key.length = kn := HX.out.1.1
      have hvlen : (J[k]'hki).val.length = vn := HX.out.2.1.1
      have hsize : (J[k]'hki).size = size := HX.out.2.2.1
      have hmore : (J[k]'hki).more = more := HX.out.2.2.2.1
      have HVL := kept hvlen
      by_cases hin : size ≤ 64
      · have hgi : decide (size ≤ 64) = true := by rw [decide_eq_true_eq]; exact hin
        rw [if_pos hin] at hok
        by_cases hv : (vn : Int) = size
        rotate_left
        · have HF := kept (HBAD.out (by rw [← hok, decide_eq_false (p := (vn : Int) = size) hv]; simp))
          have hg4 : ((vn : Int) != size) = true := by rw [bne_iff_ne]; exact hv
          clear hok h32 hs0 hs1 hin hv hd1 hd2 hd3 hd4 hd5 hd6 hd7 hd8 hd9 hw8 hw8' hsz hq hrm' hq0 hlen hvlen hsize hmore
          go_wp2
          go_ret3
          exact .inr ⟨HF.out, rfl, (HBF _ HBQ0).out⟩
        have hg4 : ((vn : Int) != size) = false := by rw [hv]; simp
        by_cases hm : more = 0
        rotate_left
        · have HF := kept (HBAD.out (by rw [← hok, decide_eq_false hm]; simp))
          have hg5 : (more != 0) = true := by rw [bne_iff_ne]; exact hm
          clear hok h32 hs0 hs1 hin hv hm hd1 hd2 hd3 hd4 hd5 hd6 hd7 hd8 hd9 hw8 hw8' hsz hq hrm' hq0 hlen hvlen hsize hmore
          go_wp2
          go_ret3
          exact .inr ⟨HF.out, rfl, (HBF _ HBQ0).out⟩
        have hg5 : (more != 0) = false := by rw [hm]; rfl
        have hokt : itemOk (J[k]'hki) = true := by rw [← hok]; simp; omega
        have HVB := kept (show vn ≤ 64 by omega)
        have HEN := kept (show encTo encItem J k ++ (be kn 1 ++ be sz 2) ++ (J[k]'hki).key ++ (J[k]'hki).val = encTo encItem J (k + 1) from by
          rw [encTo_succ hki]
          unfold encItem
          rw [hlen, hsize, if_pos hin, hsz]
          simp [List.append_assoc])
        have HUN : Hid ((encTo encItem J (k + 1)).length = u + 3 + kn + vn ∧ u + 3 + kn + vn ≤ 99 * (k + 1)) := kept (by
          have h2 := HUQ.out
          have h3 := HKL.out
          rw [← HEN.out]
          simp only [List.length_append, be_length, hlen, hvlen]
          omega)
        clear hok h32 hs0 hs1 hin hv hm hsz hq hrm' hq0 hlen hvlen hsize hmore
        have HRD := HX
        cases k with
        | zero =>
          have HU2 : Hid (ordU itemOk cmpI J 1 = true) := kept (ordU_first hki hokt)
          generalize J[0]'hki = x at HRD HEN
          clear hokt HX HBAD
          rw [Nat.zero_mul, Nat.add_zero] at hc0 hc1 hc2 hc3
          go_upto_region 12 with fail
          refine wp_region_held_drew (S := (fun W' => (W'.cell? ⟨wr.heap.size, 0, none⟩ = some (.slice ka kn kc) ∧ W'.cell? ⟨wr.heap.size, 1, none⟩ = some (.slice va vn vc) ∧ W'.cell? ⟨wr.heap.size, 2, none⟩ = some (.int .i64 size) ∧ W'.cell? ⟨wr.heap.size, 3, none⟩ = some (.int .i64 more)) ∧ Sev W' w.heap.size 1 txn next (some ⟨b, o, none⟩) n1 c1 a2 n2 c2 a3 n3 c3 a4 n4 c4)) (by kernel_rfl) ?_ (fun hHeld => ?_)
          · ((try dsimp only); (first | exact HE.out _ (Below.refl _ _) | exact HE.out _ (Below.refl _ _).drew))
          refine hand_take 0 (some 80) ?_ (by kernel_rfl) (by kernel_rfl) (by kernel_rfl) (by kernel_rfl) (by kernel_rfl) (fun _ _ _ h => h) ?_ (by assumption) ?_
          rotate_left
          · (intro o ho w hSw; (simp only [List.getElem?_toArray, List.getElem?_cons_succ, List.getElem?_cons_zero, Option.some.injEq] at ho); subst ho; (try dsimp only at hSw); go_simp; (first | done | with_reducible rfl))
          (try simp only [Act.put, List.setIfInBounds_toArray, List.set_cons_zero, List.set_cons_succ])
          refine hand_take 1 (some 81) ?_ (by kernel_rfl) (by kernel_rfl) (by kernel_rfl) (by kernel_rfl) (by kernel_rfl) (fun _ _ _ h => h) ?_ (by assumption) ?_
          rotate_left
          · (intro o ho w hSw; (simp only [List.getElem?_toArray, List.getElem?_cons_succ, List.getElem?_cons_zero, Option.some.injEq] at ho); subst ho; (try dsimp only at hSw); go_simp; (first | done | with_reducible rfl))
          (try simp only [Act.put, List.setIfInBounds_toArray, List.set_cons_zero, List.set_cons_succ])
          refine hand_take 2 (some 82) ?_ (by kernel_rfl) (by kernel_rfl) (by kernel_rfl) (by kernel_rfl) (by kernel_rfl) (fun _ _ _ h => h) ?_ (by assumption) ?_
          rotate_left
          · (intro o ho w hSw; (simp only [List.getElem?_toArray, List.getElem?_cons_succ, List.getElem?_cons_zero, Option.some.injEq] at ho); subst ho; (try dsimp only at hSw); go_simp; (first | done | with_reducible rfl))
          (try simp only [Act.put, List.setIfInBounds_toArray, List.set_cons_zero, List.set_cons_succ])
          refine hand_skip 3 (some 83) (by kernel_rfl) (by kernel_rfl) (by kernel_rfl) (by kernel_rfl) (by kernel_rfl) (fun _ _ _ h => h) (by assumption) ?_
          (try simp only [Act.put, List.setIfInBounds_toArray, List.set_cons_zero, List.set_cons_succ])
          refine hand_skip 4 (some 84) (by kernel_rfl) (by kernel_rfl) (by kernel_rfl) (by kernel_rfl) (by kernel_rfl) (fun _ _ _ h => h) (by assumption) ?_
          (try simp only [Act.put, List.setIfInBounds_toArray, List.set_cons_zero, List.set_cons_succ])
          refine hand_skip 5 (some 85) (by kernel_rfl) (by kernel_rfl) (by kernel_rfl) (by kernel_rfl) (by kernel_rfl) (fun _ _ _ h => h) (by assumption) ?_
          (try simp only [Act.put, List.setIfInBounds_toArray, List.set_cons_zero, List.set_cons_succ])
          refine hand_skip 6 (some 86) (by kernel_rfl) (by kernel_rfl) (by kernel_rfl) (by kernel_rfl) (by kernel_rfl) (fun _ _ _ h => h) (by assumption) ?_
          (try simp only [Act.put, List.setIfInBounds_toArray, List.set_cons_zero, List.set_cons_succ])
          refine hand_skip 7 (some 87) (by kernel_rfl) (by kernel_rfl) (by kernel_rfl) (by kernel_rfl) (by kernel_rfl) (fun _ _ _ h => h) (by assumption) ?_
          (try simp only [Act.put, List.setIfInBounds_toArray, List.set_cons_zero, List.set_cons_succ])
          refine hand_skip 8 (some 88) (by kernel_rfl) (by kernel_rfl) (by kernel_rfl) (by kernel_rfl) (by kernel_rfl) (fun _ _ _ h => h) (by assumption) ?_
          (try simp only [Act.put, List.setIfInBounds_toArray, List.set_cons_zero, List.set_cons_succ])
          refine hand_skip 9 (some 89) (by kernel_rfl) (by kernel_rfl) (by kernel_rfl) (by kernel_rfl) (by kernel_rfl) (fun _ _ _ h => h) (by assumption) ?_
          (try simp only [Act.put, List.setIfInBounds_toArray, List.set_cons_zero, List.set_cons_succ])
          refine hand_skip 10 (some 90) (by kernel_rfl) (by kernel_rfl) (by kernel_rfl) (by kernel_rfl) (by kernel_rfl) (fun _ _ _ h => h) (by assumption) ?_
          (try simp only [Act.put, List.setIfInBounds_toArray, List.set_cons_zero, List.set_cons_succ])
          refine hand_skip 11 (some 91) (by kernel_rfl) (by kernel_rfl) (by kernel_rfl) (by kernel_rfl) (by kernel_rfl) (fun _ _ _ h => h) (by assumption) ?_
          (try simp only [Act.put, List.setIfInBounds_toArray, List.set_cons_zero, List.set_cons_succ])
          refine hand_skip 12 (some 92) (by kernel_rfl) (by kernel_rfl) (by kernel_rfl) (by kernel_rfl) (by kernel_rfl) (fun _ _ _ h => h) (by assumption) ?_
          (try simp only [Act.put, List.setIfInBounds_toArray, List.set_cons_zero, List.set_cons_succ])
          refine hand_skip 13 (some 93) (by kernel_rfl) (by kernel_rfl) (by kernel_rfl) (by kernel_rfl) (by kernel_rfl) (fun _ _ _ h => h) (by assumption) ?_
          (try simp only [Act.put, List.setIfInBounds_toArray, List.set_cons_zero, List.set_cons_succ])
          refine hand_take 14 (some 94) ?_ (by kernel_rfl) (by kernel_rfl) (by kernel_rfl) (by kernel_rfl) (by kernel_rfl) (fun _ _ _ h => h) ?_ (by assumption) ?_
          rotate_left
          · (intro o ho w hSw; (simp only [List.getElem?_toArray, List.getElem?_cons_succ, List.getElem?_cons_zero, Option.some.injEq] at ho); subst ho; (try dsimp only at hSw); go_simp; (first | done | with_reducible rfl))
          (try simp only [Act.put, List.setIfInBounds_toArray, List.set_cons_zero, List.set_cons_succ])
          refine wpAnyH_done (by kernel_rfl) ?_ _
          have hbx : Below wr.heap.size wr (wr.alloc (.cells #[.slice ka kn kc, .slice va vn vc, .int .i64 size, .int .i64 more] 70)).drew := ((Below.refl _ _).alloc (Nat.le_refl _) _).drew
          have hbg : Below (wr.alloc (.cells #[.slice ka kn kc, .slice va vn vc, .int .i64 size, .int .i64 more] 70)).heap.size (wr.alloc (.cells #[.slice ka kn kc, .slice va vn vc, .int .i64 size, .int .i64 more] 70)) (wr.alloc (.cells #[.slice ka kn kc, .slice va vn vc, .int .i64 size, .int .i64 more] 70)).drew := (Below.refl _ _).drew
          clear HBQ
          generalize (wr.alloc (.cells #[.slice ka kn kc, .slice va vn vc, .int .i64 size, .int .i64 more] 70)).drew = X at hbx hbg ⊢
          have HBX5 := kept hbx
          have HO5 := kept (own_stays HO.out hbx)
          have HB5 := kept (HB.out.trans (hbx.mono (HSB.out _ HB.out)))
          have HG5 := kept ((Blk.new wr 70 #[.slice ka kn kc, .slice va vn vc, .int .i64 size, .int .i64 more]).below hbg (by simp))
          obtain ⟨⟨k0, k1, k2, k3⟩, _⟩ := HE.out _ hbg
          have HR5 := fun v0 v1 v2 e0 e1 e2 => kept (rd_u8s X kn sz q rm v0 v1 v2 (by have := HKL.out; omega) HQR.out.1 HQR.out.2.1 HQR.out.2.2 e0 e1 e2)
          have HA5 := fun o => kept (HB5.out.alloc (HSB.out _ HB5.out) o)
          have HOA5 := fun o => kept (own_stays HO5.out ((Below.refl _ X).alloc (Nat.le_refl _) o))
          have HGA5 := fun o => kept (HG5.out.alloc o)
          clear hbx hbg
          go_wp2_with (first | (at_builtin; refine wpList_append_oth rfl (.tmp 95) (.tmp 108) 25 rfl (w.heap.size + 1) 5 rfl rfl Tryd.underlying25 u8info (HOA5 _).out (HR5 _ _ _ rfl rfl rfl).out (by have := HUL.out; omega) (HSB.out _ (HA5 _).out) (u + 3) (encTo encItem J 0 ++ (be kn 1 ++ be sz 2)) rfl rfl ?_; intro A6 c6' w6 hown6 hb6 hot6; have HO6 := kept hown6; have HB6 := kept ((HA5 _).out.trans hb6); have hg6 := hot6 _ _ _ (by decide) (HGA5 _).out; have k0 : w6.cell? ⟨wr.heap.size, 0, none⟩ = some (.slice ka kn kc) := hg6.cell 0; have HG6 := kept hg6; have HR6 := kept (HRD.out.1.below (HBW.out _ HB6.out)); clear hown6 hb6 hot6 hg6) | (at_builtin; refine wpList_append_oth rfl (.tmp 110) (.tmp 112) 25 rfl (w.heap.size + 1) 5 rfl rfl Tryd.underlying25 u8info HO6.out HR6.out (by have := HUL.out; have := HKL.out; omega) (HSB.out _ HB6.out) (u + 3 + kn) (encTo encItem J 0 ++ (be kn 1 ++ be sz 2) ++ x.key) rfl rfl ?_; intro A7 c7' w7 hown7 hb7 hot7; have HO7 := kept hown7; have HB7 := kept (HB6.out.trans hb7); have hg7 := hot7 _ _ _ (by decide) HG6.out; have k1 : w7.cell? ⟨wr.heap.size, 1, none⟩ = some (.slice va vn vc) := hg7.cell 1; have k3 : w7.cell? ⟨wr.heap.size, 3, none⟩ = some (.int .i64 more) := hg7.cell 3; have HR7 := kept (HRD.out.2.1.below (HBW.out _ HB7.out)); clear hown7 hb7 hot7 hg7) | (at_builtin; refine wpList_append_oth rfl (.tmp 115) (.tmp 117) 25 rfl (w.heap.size + 1) 5 rfl rfl Tryd.underlying25 u8info HO7.out HR7.out (by have := HUL.out; have := HKL.out; have := HVB.out; omega) (HSB.out _ HB7.out) (u + 3 + kn + vn) (encTo encItem J (0 + 1)) rfl HEN.out ?_; intro A9 c9' w9 hown9 hb9 hot9; have HO9 := kept hown9; have HB9 := kept (HB7.out.trans hb9); clear hown9 hb9 hot9))
          go_roundw
          case rel => exact ⟨0 + 1, u + 3 + kn + vn, A9, c9', by omega, by go_num, rfl, HUN, HO9, HB9, HU2⟩
          case measure => simp [intOf]; omega
        | succ k =>
          obtain ⟨b', o', M, e, hrm, g0, _, _, _⟩ := HK.out.at_ (k := k) (by omega)
          simp only [Option.some.injEq, Addr.mk.injEq, and_true] at e
          obtain ⟨rfl, rfl⟩ := e
          obtain ⟨ka', kn', kc', va', vn', vc', size', more'⟩ := M
          simp only at g0
          replace g0 := cell_below (HBW.out _ HB.out) g0
          have hi3 : (0 : Int) ≤ (k : Int) := by omega
          have hi4 : (k : Int) < (n1 : Int) := by omega
          have hi5 : IntKind.i64.wrap (k : Int) = (k : Int) := IntWalk.i64_in _ ⟨by omega, by have := HN.out; omega⟩
          have HEQ : Hid (∀ X, Below (wr.alloc (.cells #[.slice ka kn kc, .slice va vn vc, .int .i64 size, .int .i64 more] 70)).heap.size (wr.alloc (.cells #[.slice ka kn kc, .slice va vn vc, .int .i64 size, .int .i64 more] 70)) X → ((X.cell? ⟨wr.heap.size, 0, none⟩ = some (.slice ka kn kc) ∧ X.cell? ⟨wr.heap.size, 1, none⟩ = some (.slice va vn vc) ∧ X.cell? ⟨wr.heap.size, 2, none⟩ = some (.int .i64 size) ∧ X.cell? ⟨wr.heap.size, 3, none⟩ = some (.int .i64 more)) ∧ Sev X w.heap.size 1 txn next (some ⟨b, o, none⟩) n1 c1 a2 n2 c2 a3 n3 c3 a4 n4 c4) ∧ X.cell? ⟨b, o + k * 4, none⟩ = some (.slice ka' kn' kc')) := kept (fun X hX => ⟨HE.out X hX, cell_below (((Below.refl _ wr).alloc (Nat.le_refl _) (.cells #[.slice ka kn kc, .slice va vn vc, .int .i64 size, .int .i64 more] 70)).trans (hX.mono (by simp))) g0⟩)
          have hah := ahead_any ka' ka kn' kn kc' kc (J[k]'(by omega)).key (J[k + 1]'hki).key (wr.alloc (.cells #[.slice ka kn kc, .slice va vn vc, .int .i64 size, .int .i64 more] 70)).drew (hrm.1.below (HBF _ HBQ).out) (HX.out.1.below (HBF _ HBQ).out) hrm.2.2.2.2.1 HX.out.2.2.2.2.1
          clear hrm
          cases hao : ahead (J[k]'(by omega)).key (J[k + 1]'hki).key with
          | true =>
            have HU2 : Hid (ordU itemOk cmpI J (k + 1 + 1) = true) := kept (ordU_next hki HU.out hokt (ahead_lt hao))
            rw [hao] at hah
            have HAH := kept hah
            generalize J[k + 1]'hki = x at HRD HEN
            clear hokt HX hah hao HBAD
            go_upto_region 12 with fail
            refine wp_region_held_drew (S := (fun W' => ((W'.cell? ⟨wr.heap.size, 0, none⟩ = some (.slice ka kn kc) ∧ W'.cell? ⟨wr.heap.size, 1, none⟩ = some (.slice va vn vc) ∧ W'.cell? ⟨wr.heap.size, 2, none⟩ = some (.int .i64 size) ∧ W'.cell? ⟨wr.heap.size, 3, none⟩ = some (.int .i64 more)) ∧ Sev W' w.heap.size 1 txn next (some ⟨b, o, none⟩) n1 c1 a2 n2 c2 a3 n3 c3 a4 n4 c4) ∧ W'.cell? ⟨b, o + k * 4, none⟩ = some (.slice ka' kn' kc'))) (by kernel_rfl) ?_ (fun hHeld => ?_)
            · ((try dsimp only); (first | exact HEQ.out _ (Below.refl _ _) | exact HEQ.out _ (Below.refl _ _).drew | exact HEQ.out _ HBG7.out))
            refine hand_take 0 (some 80) ?_ (by kernel_rfl) (by kernel_rfl) (by kernel_rfl) (by kernel_rfl) (by kernel_rfl) (fun _ _ _ h => h) ?_ (by assumption) ?_
            rotate_left
            · (intro o ho w hSw; (simp only [List.getElem?_toArray, List.getElem?_cons_succ, List.getElem?_cons_zero, Option.some.injEq] at ho); subst ho; (try dsimp only at hSw); go_simp; (first | done | with_reducible rfl))
            (try simp only [Act.put, List.setIfInBounds_toArray, List.set_cons_zero, List.set_cons_succ])
            refine hand_take 1 (some 81) ?_ (by kernel_rfl) (by kernel_rfl) (by kernel_rfl) (by kernel_rfl) (by kernel_rfl) (fun _ _ _ h => h) ?_ (by assumption) ?_
            rotate_left
            · (intro o ho w hSw; (simp only [List.getElem?_toArray, List.getElem?_cons_succ, List.getElem?_cons_zero, Option.some.injEq] at ho); subst ho; (try dsimp only at hSw); go_simp; (first | done | with_reducible rfl))
            (try simp only [Act.put, List.setIfInBounds_toArray, List.set_cons_zero, List.set_cons_succ])
            refine hand_take 2 (some 82) ?_ (by kernel_rfl) (by kernel_rfl) (by kernel_rfl) (by kernel_rfl) (by kernel_rfl) (fun _ _ _ h => h) ?_ (by assumption) ?_
            rotate_left
            · (intro o ho w hSw; (simp only [List.getElem?_toArray, List.getElem?_cons_succ, List.getElem?_cons_zero, Option.some.injEq] at ho); subst ho; (try dsimp only at hSw); go_simp; (first | done | with_reducible rfl))
            (try simp only [Act.put, List.setIfInBounds_toArray, List.set_cons_zero, List.set_cons_succ])
            refine hand_take 3 (some 83) ?_ (by kernel_rfl) (by kernel_rfl) (by kernel_rfl) (by kernel_rfl) (by kernel_rfl) (fun _ _ _ h => h) ?_ (by assumption) ?_
            rotate_left
            · (intro o ho w hSw; (simp only [List.getElem?_toArray, List.getElem?_cons_succ, List.getElem?_cons_zero, Option.some.injEq] at ho); subst ho; (try dsimp only at hSw); go_simp; (first | done | with_reducible rfl))
            (try simp only [Act.put, List.setIfInBounds_toArray, List.set_cons_zero, List.set_cons_succ])
            refine hand_take 4 (some 84) ?_ (by kernel_rfl) (by kernel_rfl) (by kernel_rfl) (by kernel_rfl) (by kernel_rfl) (fun _ _ _ h => h) ?_ (by assumption) ?_
            rotate_left
            · (intro o ho w hSw; (simp only [List.getElem?_toArray, List.getElem?_cons_succ, List.getElem?_cons_zero, Option.some.injEq] at ho); subst ho; (try dsimp only at hSw); go_simp; (first | done | with_reducible rfl))
            (try simp only [Act.put, List.setIfInBounds_toArray, List.set_cons_zero, List.set_cons_succ])
            refine hand_take 5 (some 85) ?_ (by kernel_rfl) (by kernel_rfl) (by kernel_rfl) (by kernel_rfl) (by kernel_rfl) (fun _ _ _ h => h) ?_ (by assumption) ?_
            rotate_left
            · (intro o ho w hSw; (simp only [List.getElem?_toArray, List.getElem?_cons_succ, List.getElem?_cons_zero, Option.some.injEq] at ho); subst ho; (try dsimp only at hSw); go_simp; (first | done | with_reducible rfl))
            (try simp only [Act.put, List.setIfInBounds_toArray, List.set_cons_zero, List.set_cons_succ])
            refine hand_take 6 (some 86) ?_ (by kernel_rfl) (by kernel_rfl) (by kernel_rfl) (by kernel_rfl) (by kernel_rfl) (fun _ _ _ h => h) ?_ (by assumption) ?_
            rotate_left
            · (intro o ho w hSw; (simp only [List.getElem?_toArray, List.getElem?_cons_succ, List.getElem?_cons_zero, Option.some.injEq] at ho); subst ho; (try dsimp only at hSw); go_simp; (first | done | with_reducible rfl))
            (try simp only [Act.put, List.setIfInBounds_toArray, List.set_cons_zero, List.set_cons_succ])
            refine hand_take 7 (some 87) ?_ (by kernel_rfl) (by kernel_rfl) (by kernel_rfl) (by kernel_rfl) (by kernel_rfl) (fun _ _ _ h => h) ?_ (by assumption) ?_
            rotate_left
            · (intro o ho w hSw; (simp only [List.getElem?_toArray, List.getElem?_cons_succ, List.getElem?_cons_zero, Option.some.injEq] at ho); subst ho; (try dsimp only at hSw); go_simp; (first | done | with_reducible rfl))
            (try simp only [Act.put, List.setIfInBounds_toArray, List.set_cons_zero, List.set_cons_succ])
            refine hand_take 8 (some 88) ?_ (by kernel_rfl) (by kernel_rfl) (by kernel_rfl) (by kernel_rfl) (by kernel_rfl) (fun _ _ _ h => h) ?_ (by assumption) ?_
            rotate_left
            · (intro o ho w hSw; (simp only [List.getElem?_toArray, List.getElem?_cons_succ, List.getElem?_cons_zero, Option.some.injEq] at ho); subst ho; (try dsimp only at hSw); go_simp; (first | done | with_reducible rfl))
            (try simp only [Act.put, List.setIfInBounds_toArray, List.set_cons_zero, List.set_cons_succ])
            refine hand_take 9 (some 89) ?_ (by kernel_rfl) (by kernel_rfl) (by kernel_rfl) (by kernel_rfl) (by kernel_rfl) (fun _ _ _ h => h) ?_ (by assumption) ?_
            rotate_left
            · (intro o ho w hSw; (simp only [List.getElem?_toArray, List.getElem?_cons_succ, List.getElem?_cons_zero, Option.some.injEq] at ho); subst ho; (try dsimp only at hSw); go_simp; (first | done | with_reducible rfl))
            (try simp only [Act.put, List.setIfInBounds_toArray, List.set_cons_zero, List.set_cons_succ])
            refine hand_take 10 (some 90) ?_ (by kernel_rfl) (by kernel_rfl) (by kernel_rfl) (by kernel_rfl) (by kernel_rfl) (fun _ _ _ h => h) ?_ (by assumption) ?_
            rotate_left
            · (intro o ho w hSw; (simp only [List.getElem?_toArray, List.getElem?_cons_succ, List.getElem?_cons_zero, Option.some.injEq] at ho); subst ho; (try dsimp only at hSw); go_simp; (first | done | with_reducible rfl))
            (try simp only [Act.put, List.setIfInBounds_toArray, List.set_cons_zero, List.set_cons_succ])
            refine hand_take 11 (some 91) ?_ (by kernel_rfl) (by kernel_rfl) (by kernel_rfl) (by kernel_rfl) (by kernel_rfl) (fun _ _ _ h => h) ?_ (by assumption) ?_
            rotate_left
            · (intro o ho w hSw; (simp only [List.getElem?_toArray, List.getElem?_cons_succ, List.getElem?_cons_zero, Option.some.injEq] at ho); subst ho; (try dsimp only at hSw); go_simp; (first | done | with_reducible rfl))
            (try simp only [Act.put, List.setIfInBounds_toArray, List.set_cons_zero, List.set_cons_succ])
            refine hand_ready 12 (by kernel_rfl) (by kernel_rfl) (fun o ho K hK => ?_)
            (simp only [List.getElem?_toArray, List.getElem?_cons_succ, List.getElem?_cons_zero, Option.some.injEq] at ho)
            subst ho
            go_simp
            ((go_at_call 69; (with_reducible refine HAH.out.mono ?_); rintro e w7 ⟨rfl, hq⟩); have HBG7 : Hid (Below (wr.alloc (.cells #[.slice ka kn kc, .slice va vn vc, .int .i64 size, .int .i64 more] 70)).heap.size (wr.alloc (.cells #[.slice ka kn kc, .slice va vn vc, .int .i64 size, .int .i64 more] 70)) w7) := kept (by obtain ⟨q, e⟩ := hq.out; rw [e]; exact drewN_below (Below.refl _ _).drew q); clear hq)
            (try go_wp2_with fail)
            refine hK.out _ _ ?_ (fun hHeld => ?_)
            · ((try dsimp only); (first | exact HEQ.out _ (Below.refl _ _) | exact HEQ.out _ (Below.refl _ _).drew | exact HEQ.out _ HBG7.out))
            clear hK K
            (try simp only [Act.put, List.setIfInBounds_toArray, List.set_cons_zero, List.set_cons_succ])
            refine hand_take 13 (some 93) ?_ (by kernel_rfl) (by kernel_rfl) (by kernel_rfl) (by kernel_rfl) (by kernel_rfl) (fun _ _ _ h => h) ?_ (by assumption) ?_
            rotate_left
            · (intro o ho w hSw; (simp only [List.getElem?_toArray, List.getElem?_cons_succ, List.getElem?_cons_zero, Option.some.injEq] at ho); subst ho; (try dsimp only at hSw); go_simp; (first | done | with_reducible rfl))
            (try simp only [Act.put, List.setIfInBounds_toArray, List.set_cons_zero, List.set_cons_succ])
            refine hand_take 14 (some 94) ?_ (by kernel_rfl) (by kernel_rfl) (by kernel_rfl) (by kernel_rfl) (by kernel_rfl) (fun _ _ _ h => h) ?_ (by assumption) ?_
            rotate_left
            · (intro o ho w hSw; (simp only [List.getElem?_toArray, List.getElem?_cons_succ, List.getElem?_cons_zero, Option.some.injEq] at ho); subst ho; (try dsimp only at hSw); go_simp; (first | done | with_reducible rfl))
            (try simp only [Act.put, List.setIfInBounds_toArray, List.set_cons_zero, List.set_cons_succ])
            refine wpAnyH_done (by kernel_rfl) ?_ _
            have hbg := HBG7.out
            have hbx : Below wr.heap.size wr w7 := ((Below.refl _ wr).alloc (Nat.le_refl _) (.cells #[.slice ka kn kc, .slice va vn vc, .int .i64 size, .int .i64 more] 70)).trans (hbg.mono (by simp))
            generalize w7 = X at hbx hbg ⊢
            have HBX5 := kept hbx
            have HO5 := kept (own_stays HO.out hbx)
            have HB5 := kept (HB.out.trans (hbx.mono (HSB.out _ HB.out)))
            have HG5 := kept ((Blk.new wr 70 #[.slice ka kn kc, .slice va vn vc, .int .i64 size, .int .i64 more]).below hbg (by simp))
            obtain ⟨⟨k0, k1, k2, k3⟩, _⟩ := HE.out _ hbg
            have HR5 := fun v0 v1 v2 e0 e1 e2 => kept (rd_u8s X kn sz q rm v0 v1 v2 (by have := HKL.out; omega) HQR.out.1 HQR.out.2.1 HQR.out.2.2 e0 e1 e2)
            have HA5 := fun o => kept (HB5.out.alloc (HSB.out _ HB5.out) o)
            have HOA5 := fun o => kept (own_stays HO5.out ((Below.refl _ X).alloc (Nat.le_refl _) o))
            have HGA5 := fun o => kept (HG5.out.alloc o)
            clear hbx hbg
            go_wp2_with (first | (at_builtin; refine wpList_append_oth rfl (.tmp 95) (.tmp 108) 25 rfl (w.heap.size + 1) 5 rfl rfl Tryd.underlying25 u8info (HOA5 _).out (HR5 _ _ _ rfl rfl rfl).out (by have := HUL.out; omega) (HSB.out _ (HA5 _).out) (u + 3) (encTo encItem J (k + 1) ++ (be kn 1 ++ be sz 2)) rfl rfl ?_; intro A6 c6' w6 hown6 hb6 hot6; have HO6 := kept hown6; have HB6 := kept ((HA5 _).out.trans hb6); have hg6 := hot6 _ _ _ (by decide) (HGA5 _).out; have k0 : w6.cell? ⟨wr.heap.size, 0, none⟩ = some (.slice ka kn kc) := hg6.cell 0; have HG6 := kept hg6; have HR6 := kept (HRD.out.1.below (HBW.out _ HB6.out)); clear hown6 hb6 hot6 hg6) | (at_builtin; refine wpList_append_oth rfl (.tmp 110) (.tmp 112) 25 rfl (w.heap.size + 1) 5 rfl rfl Tryd.underlying25 u8info HO6.out HR6.out (by have := HUL.out; have := HKL.out; omega) (HSB.out _ HB6.out) (u + 3 + kn) (encTo encItem J (k + 1) ++ (be kn 1 ++ be sz 2) ++ x.key) rfl rfl ?_; intro A7 c7' w7 hown7 hb7 hot7; have HO7 := kept hown7; have HB7 := kept (HB6.out.trans hb7); have hg7 := hot7 _ _ _ (by decide) HG6.out; have k1 : w7.cell? ⟨wr.heap.size, 1, none⟩ = some (.slice va vn vc) := hg7.cell 1; have k3 : w7.cell? ⟨wr.heap.size, 3, none⟩ = some (.int .i64 more) := hg7.cell 3; have HR7 := kept (HRD.out.2.1.below (HBW.out _ HB7.out)); clear hown7 hb7 hot7 hg7) | (at_builtin; refine wpList_append_oth rfl (.tmp 115) (.tmp 117) 25 rfl (w.heap.size + 1) 5 rfl rfl Tryd.underlying25 u8info HO7.out HR7.out (by have := HUL.out; have := HKL.out; have := HVB.out; omega) (HSB.out _ HB7.out) (u + 3 + kn + vn) (encTo encItem J ((k + 1) + 1)) rfl HEN.out ?_; intro A9 c9' w9 hown9 hb9 hot9; have HO9 := kept hown9; have HB9 := kept (HB7.out.trans hb9); clear hown9 hb9 hot9))
            go_roundw
            case rel => exact ⟨(k + 1) + 1, u + 3 + kn + vn, A9, c9', by omega, by go_num, rfl, HUN, HO9, HB9, HU2⟩
            case measure => simp [intOf]; omega
          | false =>
            have HF := kept (HRN.out (by rw [HKN.out]; exact ordU_back hki hlt (ahead_ge hao)))
            rw [hao] at hah
            have HAH := kept hah
            clear hokt HX hah hao HBAD
            go_upto_region 12 with fail
            refine wp_region_held_drew (S := (fun W' => ((W'.cell? ⟨wr.heap.size, 0, none⟩ = some (.slice ka kn kc) ∧ W'.cell? ⟨wr.heap.size, 1, none⟩ = some (.slice va vn vc) ∧ W'.cell? ⟨wr.heap.size, 2, none⟩ = some (.int .i64 size) ∧ W'.cell? ⟨wr.heap.size, 3, none⟩ = some (.int .i64 more)) ∧ Sev W' w.heap.size 1 txn next (some ⟨b, o, none⟩) n1 c1 a2 n2 c2 a3 n3 c3 a4 n4 c4) ∧ W'.cell? ⟨b, o + k * 4, none⟩ = some (.slice ka' kn' kc'))) (by kernel_rfl) ?_ (fun hHeld => ?_)
            · ((try dsimp only); (first | exact HEQ.out _ (Below.refl _ _) | exact HEQ.out _ (Below.refl _ _).drew | exact HEQ.out _ HBG7.out))
            refine hand_take 0 (some 80) ?_ (by kernel_rfl) (by kernel_rfl) (by kernel_rfl) (by kernel_rfl) (by kernel_rfl) (fun _ _ _ h => h) ?_ (by assumption) ?_
            rotate_left
            · (intro o ho w hSw; (simp only [List.getElem?_toArray, List.getElem?_cons_succ, List.getElem?_cons_zero, Option.some.injEq] at ho); subst ho; (try dsimp only at hSw); go_simp; (first | done | with_reducible rfl))
            (try simp only [Act.put, List.setIfInBounds_toArray, List.set_cons_zero, List.set_cons_succ])
            refine hand_take 1 (some 81) ?_ (by kernel_rfl) (by kernel_rfl) (by kernel_rfl) (by kernel_rfl) (by kernel_rfl) (fun _ _ _ h => h) ?_ (by assumption) ?_
            rotate_left
            · (intro o ho w hSw; (simp only [List.getElem?_toArray, List.getElem?_cons_succ, List.getElem?_cons_zero, Option.some.injEq] at ho); subst ho; (try dsimp only at hSw); go_simp; (first | done | with_reducible rfl))
            (try simp only [Act.put, List.setIfInBounds_toArray, List.set_cons_zero, List.set_cons_succ])
            refine hand_take 2 (some 82) ?_ (by kernel_rfl) (by kernel_rfl) (by kernel_rfl) (by kernel_rfl) (by kernel_rfl) (fun _ _ _ h => h) ?_ (by assumption) ?_
            rotate_left
            · (intro o ho w hSw; (simp only [List.getElem?_toArray, List.getElem?_cons_succ, List.getElem?_cons_zero, Option.some.injEq] at ho); subst ho; (try dsimp only at hSw); go_simp; (first | done | with_reducible rfl))
            (try simp only [Act.put, List.setIfInBounds_toArray, List.set_cons_zero, List.set_cons_succ])
            refine hand_take 3 (some 83) ?_ (by kernel_rfl) (by kernel_rfl) (by kernel_rfl) (by kernel_rfl) (by kernel_rfl) (fun _ _ _ h => h) ?_ (by assumption) ?_
            rotate_left
            · (intro o ho w hSw; (simp only [List.getElem?_toArray, List.getElem?_cons_succ, List.getElem?_cons_zero, Option.some.injEq] at ho); subst ho; (try dsimp only at hSw); go_simp; (first | done | with_reducible rfl))
            (try simp only [Act.put, List.setIfInBounds_toArray, List.set_cons_zero, List.set_cons_succ])
            refine hand_take 4 (some 84) ?_ (by kernel_rfl) (by kernel_rfl) (by kernel_rfl) (by kernel_rfl) (by kernel_rfl) (fun _ _ _ h => h) ?_ (by assumption) ?_
            rotate_left
            · (intro o ho w hSw; (simp only [List.getElem?_toArray, List.getElem?_cons_succ, List.getElem?_cons_zero, Option.some.injEq] at ho); subst ho; (try dsimp only at hSw); go_simp; (first | done | with_reducible rfl))
            (try simp only [Act.put, List.setIfInBounds_toArray, List.set_cons_zero, List.set_cons_succ])
            refine hand_take 5 (some 85) ?_ (by kernel_rfl) (by kernel_rfl) (by kernel_rfl) (by kernel_rfl) (by kernel_rfl) (fun _ _ _ h => h) ?_ (by assumption) ?_
            rotate_left
            · (intro o ho w hSw; (simp only [List.getElem?_toArray, List.getElem?_cons_succ, List.getElem?_cons_zero, Option.some.injEq] at ho); subst ho; (try dsimp only at hSw); go_simp; (first | done | with_reducible rfl))
            (try simp only [Act.put, List.setIfInBounds_toArray, List.set_cons_zero, List.set_cons_succ])
            refine hand_take 6 (some 86) ?_ (by kernel_rfl) (by kernel_rfl) (by kernel_rfl) (by kernel_rfl) (by kernel_rfl) (fun _ _ _ h => h) ?_ (by assumption) ?_
            rotate_left
            · (intro o ho w hSw; (simp only [List.getElem?_toArray, List.getElem?_cons_succ, List.getElem?_cons_zero, Option.some.injEq] at ho); subst ho; (try dsimp only at hSw); go_simp; (first | done | with_reducible rfl))
            (try simp only [Act.put, List.setIfInBounds_toArray, List.set_cons_zero, List.set_cons_succ])
            refine hand_take 7 (some 87) ?_ (by kernel_rfl) (by kernel_rfl) (by kernel_rfl) (by kernel_rfl) (by kernel_rfl) (fun _ _ _ h => h) ?_ (by assumption) ?_
            rotate_left
            · (intro o ho w hSw; (simp only [List.getElem?_toArray, List.getElem?_cons_succ, List.getElem?_cons_zero, Option.some.injEq] at ho); subst ho; (try dsimp only at hSw); go_simp; (first | done | with_reducible rfl))
            (try simp only [Act.put, List.setIfInBounds_toArray, List.set_cons_zero, List.set_cons_succ])
            refine hand_take 8 (some 88) ?_ (by kernel_rfl) (by kernel_rfl) (by kernel_rfl) (by kernel_rfl) (by kernel_rfl) (fun _ _ _ h => h) ?_ (by assumption) ?_
            rotate_left
            · (intro o ho w hSw; (simp only [List.getElem?_toArray, List.getElem?_cons_succ, List.getElem?_cons_zero, Option.some.injEq] at ho); subst ho; (try dsimp only at hSw); go_simp; (first | done | with_reducible rfl))
            (try simp only [Act.put, List.setIfInBounds_toArray, List.set_cons_zero, List.set_cons_succ])
            refine hand_take 9 (some 89) ?_ (by kernel_rfl) (by kernel_rfl) (by kernel_rfl) (by kernel_rfl) (by kernel_rfl) (fun _ _ _ h => h) ?_ (by assumption) ?_
            rotate_left
            · (intro o ho w hSw; (simp only [List.getElem?_toArray, List.getElem?_cons_succ, List.getElem?_cons_zero, Option.some.injEq] at ho); subst ho; (try dsimp only at hSw); go_simp; (first | done | with_reducible rfl))
            (try simp only [Act.put, List.setIfInBounds_toArray, List.set_cons_zero, List.set_cons_succ])
            refine hand_take 10 (some 90) ?_ (by kernel_rfl) (by kernel_rfl) (by kernel_rfl) (by kernel_rfl) (by kernel_rfl) (fun _ _ _ h => h) ?_ (by assumption) ?_
            rotate_left
            · (intro o ho w hSw; (simp only [List.getElem?_toArray, List.getElem?_cons_succ, List.getElem?_cons_zero, Option.some.injEq] at ho); subst ho; (try dsimp only at hSw); go_simp; (first | done | with_reducible rfl))
            (try simp only [Act.put, List.setIfInBounds_toArray, List.set_cons_zero, List.set_cons_succ])
            refine hand_take 11 (some 91) ?_ (by kernel_rfl) (by kernel_rfl) (by kernel_rfl) (by kernel_rfl) (by kernel_rfl) (fun _ _ _ h => h) ?_ (by assumption) ?_
            rotate_left
            · (intro o ho w hSw; (simp only [List.getElem?_toArray, List.getElem?_cons_succ, List.getElem?_cons_zero, Option.some.injEq] at ho); subst ho; (try dsimp only at hSw); go_simp; (first | done | with_reducible rfl))
            (try simp only [Act.put, List.setIfInBounds_toArray, List.set_cons_zero, List.set_cons_succ])
            refine hand_ready 12 (by kernel_rfl) (by kernel_rfl) (fun o ho K hK => ?_)
            (simp only [List.getElem?_toArray, List.getElem?_cons_succ, List.getElem?_cons_zero, Option.some.injEq] at ho)
            subst ho
            go_simp
            ((go_at_call 69; (with_reducible refine HAH.out.mono ?_); rintro e w7 ⟨rfl, hq⟩); have HBG7 : Hid (Below (wr.alloc (.cells #[.slice ka kn kc, .slice va vn vc, .int .i64 size, .int .i64 more] 70)).heap.size (wr.alloc (.cells #[.slice ka kn kc, .slice va vn vc, .int .i64 size, .int .i64 more] 70)) w7) := kept (by obtain ⟨q, e⟩ := hq.out; rw [e]; exact drewN_below (Below.refl _ _).drew q); clear hq)
            (try go_wp2_with fail)
            refine hK.out _ _ ?_ (fun hHeld => ?_)
            · ((try dsimp only); (first | exact HEQ.out _ (Below.refl _ _) | exact HEQ.out _ (Below.refl _ _).drew | exact HEQ.out _ HBG7.out))
            clear hK K
            (try simp only [Act.put, List.setIfInBounds_toArray, List.set_cons_zero, List.set_cons_succ])
            refine hand_take 13 (some 93) ?_ (by kernel_rfl) (by kernel_rfl) (by kernel_rfl) (by kernel_rfl) (by kernel_rfl) (fun _ _ _ h => h) ?_ (by assumption) ?_
            rotate_left
            · (intro o ho w hSw; (simp only [List.getElem?_toArray, List.getElem?_cons_succ, List.getElem?_cons_zero, Option.some.injEq] at ho); subst ho; (try dsimp only at hSw); go_simp; (first | done | with_reducible rfl))
            (try simp only [Act.put, List.setIfInBounds_toArray, List.set_cons_zero, List.set_cons_succ])
            refine hand_take 14 (some 94) ?_ (by kernel_rfl) (by kernel_rfl) (by kernel_rfl) (by kernel_rfl) (by kernel_rfl) (fun _ _ _ h => h) ?_ (by assumption) ?_
            rotate_left
            · (intro o ho w hSw; (simp only [List.getElem?_toArray, List.getElem?_cons_succ, List.getElem?_cons_zero, Option.some.injEq] at ho); subst ho; (try dsimp only at hSw); go_simp; (first | done | with_reducible rfl))
            (try simp only [Act.put, List.setIfInBounds_toArray, List.set_cons_zero, List.set_cons_succ])
            refine wpAnyH_done (by kernel_rfl) ?_ _
            go_wp2
            go_ret3
            exact .inr ⟨HF.out, rfl, (HBF _ HBG7.out).out⟩
      · have hgi : decide (size ≤ 64) = false := by rw [decide_eq_false_iff_not]; exact hin
        rw [if_neg hin] at hok
        by_cases hv : vn = 0
        rotate_left
        · have HF := kept (HBAD.out (by rw [← hok, decide_eq_false hv]; simp))
          have hg4 : ((vn : Int) != 0) = true := by rw [bne_iff_ne]; omega
          clear hok h32 hs0 hs1 hin hv hd1 hd2 hd3 hd4 hd5 hd6 hd7 hd8 hd9 hw8 hw8' hsz hq hrm' hq0 hlen hvlen hsize hmore
          go_wp2
          go_ret3
          exact .inr ⟨HF.out, rfl, (HBF _ HBQ0).out⟩
        have hg4 : ((vn : Int) != 0) = false := by rw [hv]; rfl
        cases hpg : isPg more with
        | false =>
          have HF := kept (HBAD.out (by rw [← hok, hpg]; simp))
          have HP := fun w => kept (refId_any more w false hpg)
          clear hok h32 hs0 hs1 hin hv hpg hd1 hd2 hd3 hd4 hd5 hd6 hd7 hd8 hd9 hw8 hw8' hsz hq hrm' hq0 hlen hvlen hsize hmore
          go_wp2_with (first | (go_at_call 68; (with_reducible refine ((HP _).out).mono ?_); rintro e w' ⟨rfl, rfl⟩))
          go_ret3
          exact .inr ⟨HF.out, rfl, (HBF _ HBQ0).out⟩
        | true =>
          have hokt : itemOk (J[k]'hki) = true := by rw [← hok, hpg]; simp; omega
          have HP := fun w => kept (refId_any more w true hpg)
          have hpp := page_small' hpg
          obtain ⟨pg, hpe, hp2⟩ : ∃ pg : Nat, more = (pg : Int) ∧ pg < 1024 := ⟨more.toNat, by omega, by omega⟩
          have HPU := fun w => kept (refPut4 pg w hp2)
          have hpw : IntKind.u64.wrap more = (pg : Int) := by rw [hpe]; exact IntWalk.u64_in _ ⟨by omega, by omega⟩
          have HEN := kept (show encTo encItem J k ++ (be kn 1 ++ be sz 2) ++ (J[k]'hki).key ++ be pg 4 = encTo encItem J (k + 1) from by
            rw [encTo_succ hki]
            unfold encItem
            rw [hlen, hsize, if_neg hin, hsz, hmore, hpe]
            simp [List.append_assoc])
          have HUN : Hid ((encTo encItem J (k + 1)).length = u + 3 + kn + 4 ∧ u + 3 + kn + 4 ≤ 99 * (k + 1)) := kept (by
            have h2 := HUQ.out
            have h3 := HKL.out
            rw [← HEN.out]
            simp only [List.length_append, be_length, hlen]
            omega)
          clear hok h32 hs0 hs1 hin hv hpg hpp hpe hsz hq hrm' hq0 hlen hvlen hsize hmore
          have HRD := HX
          cases k with
          | zero =>
            have HU2 : Hid (ordU itemOk cmpI J 1 = true) := kept (ordU_first hki hokt)
            generalize J[0]'hki = x at HRD HEN
            clear hokt HX HBAD
            rw [Nat.zero_mul, Nat.add_zero] at hc0 hc1 hc2 hc3
            go_upto_region 12 with ((go_at_call 68; (with_reducible refine (HP _).out.mono ?_); rintro e w' ⟨rfl, rfl⟩))
            refine wp_region_held_drew (S := (fun W' => (W'.cell? ⟨wr.heap.size, 0, none⟩ = some (.slice ka kn kc) ∧ W'.cell? ⟨wr.heap.size, 1, none⟩ = some (.slice va vn vc) ∧ W'.cell? ⟨wr.heap.size, 2, none⟩ = some (.int .i64 size) ∧ W'.cell? ⟨wr.heap.size, 3, none⟩ = some (.int .i64 more)) ∧ Sev W' w.heap.size 1 txn next (some ⟨b, o, none⟩) n1 c1 a2 n2 c2 a3 n3 c3 a4 n4 c4)) (by kernel_rfl) ?_ (fun hHeld => ?_)
            · ((try dsimp only); (first | exact HE.out _ (Below.refl _ _) | exact HE.out _ (Below.refl _ _).drew))
            refine hand_take 0 (some 80) ?_ (by kernel_rfl) (by kernel_rfl) (by kernel_rfl) (by kernel_rfl) (by kernel_rfl) (fun _ _ _ h => h) ?_ (by assumption) ?_
            rotate_left
            · (intro o ho w hSw; (simp only [List.getElem?_toArray, List.getElem?_cons_succ, List.getElem?_cons_zero, Option.some.injEq] at ho); subst ho; (try dsimp only at hSw); go_simp; (first | done | with_reducible rfl))
            (try simp only [Act.put, List.setIfInBounds_toArray, List.set_cons_zero, List.set_cons_succ])
            refine hand_take 1 (some 81) ?_ (by kernel_rfl) (by kernel_rfl) (by kernel_rfl) (by kernel_rfl) (by kernel_rfl) (fun _ _ _ h => h) ?_ (by assumption) ?_
            rotate_left
            · (intro o ho w hSw; (simp only [List.getElem?_toArray, List.getElem?_cons_succ, List.getElem?_cons_zero, Option.some.injEq] at ho); subst ho; (try dsimp only at hSw); go_simp; (first | done | with_reducible rfl))
            (try simp only [Act.put, List.setIfInBounds_toArray, List.set_cons_zero, List.set_cons_succ])
            refine hand_take 2 (some 82) ?_ (by kernel_rfl) (by kernel_rfl) (by kernel_rfl) (by kernel_rfl) (by kernel_rfl) (fun _ _ _ h => h) ?_ (by assumption) ?_
            rotate_left
            · (intro o ho w hSw; (simp only [List.getElem?_toArray, List.getElem?_cons_succ, List.getElem?_cons_zero, Option.some.injEq] at ho); subst ho; (try dsimp only at hSw); go_simp; (first | done | with_reducible rfl))
            (try simp only [Act.put, List.setIfInBounds_toArray, List.set_cons_zero, List.set_cons_succ])
            refine hand_skip 3 (some 83) (by kernel_rfl) (by kernel_rfl) (by kernel_rfl) (by kernel_rfl) (by kernel_rfl) (fun _ _ _ h => h) (by assumption) ?_
            (try simp only [Act.put, List.setIfInBounds_toArray, List.set_cons_zero, List.set_cons_succ])
            refine hand_skip 4 (some 84) (by kernel_rfl) (by kernel_rfl) (by kernel_rfl) (by kernel_rfl) (by kernel_rfl) (fun _ _ _ h => h) (by assumption) ?_
            (try simp only [Act.put, List.setIfInBounds_toArray, List.set_cons_zero, List.set_cons_succ])
            refine hand_skip 5 (some 85) (by kernel_rfl) (by kernel_rfl) (by kernel_rfl) (by kernel_rfl) (by kernel_rfl) (fun _ _ _ h => h) (by assumption) ?_
            (try simp only [Act.put, List.setIfInBounds_toArray, List.set_cons_zero, List.set_cons_succ])
            refine hand_skip 6 (some 86) (by kernel_rfl) (by kernel_rfl) (by kernel_rfl) (by kernel_rfl) (by kernel_rfl) (fun _ _ _ h => h) (by assumption) ?_
            (try simp only [Act.put, List.setIfInBounds_toArray, List.set_cons_zero, List.set_cons_succ])
            refine hand_skip 7 (some 87) (by kernel_rfl) (by kernel_rfl) (by kernel_rfl) (by kernel_rfl) (by kernel_rfl) (fun _ _ _ h => h) (by assumption) ?_
            (try simp only [Act.put, List.setIfInBounds_toArray, List.set_cons_zero, List.set_cons_succ])
            refine hand_skip 8 (some 88) (by kernel_rfl) (by kernel_rfl) (by kernel_rfl) (by kernel_rfl) (by kernel_rfl) (fun _ _ _ h => h) (by assumption) ?_
            (try simp only [Act.put, List.setIfInBounds_toArray, List.set_cons_zero, List.set_cons_succ])
            refine hand_skip 9 (some 89) (by kernel_rfl) (by kernel_rfl) (by kernel_rfl) (by kernel_rfl) (by kernel_rfl) (fun _ _ _ h => h) (by assumption) ?_
            (try simp only [Act.put, List.setIfInBounds_toArray, List.set_cons_zero, List.set_cons_succ])
            refine hand_skip 10 (some 90) (by kernel_rfl) (by kernel_rfl) (by kernel_rfl) (by kernel_rfl) (by kernel_rfl) (fun _ _ _ h => h) (by assumption) ?_
            (try simp only [Act.put, List.setIfInBounds_toArray, List.set_cons_zero, List.set_cons_succ])
            refine hand_skip 11 (some 91) (by kernel_rfl) (by kernel_rfl) (by kernel_rfl) (by kernel_rfl) (by kernel_rfl) (fun _ _ _ h => h) (by assumption) ?_
            (try simp only [Act.put, List.setIfInBounds_toArray, List.set_cons_zero, List.set_cons_succ])
            refine hand_skip 12 (some 92) (by kernel_rfl) (by kernel_rfl) (by kernel_rfl) (by kernel_rfl) (by kernel_rfl) (fun _ _ _ h => h) (by assumption) ?_
            (try simp only [Act.put, List.setIfInBounds_toArray, List.set_cons_zero, List.set_cons_succ])
            refine hand_skip 13 (some 93) (by kernel_rfl) (by kernel_rfl) (by kernel_rfl) (by kernel_rfl) (by kernel_rfl) (fun _ _ _ h => h) (by assumption) ?_
            (try simp only [Act.put, List.setIfInBounds_toArray, List.set_cons_zero, List.set_cons_succ])
            refine hand_take 14 (some 94) ?_ (by kernel_rfl) (by kernel_rfl) (by kernel_rfl) (by kernel_rfl) (by kernel_rfl) (fun _ _ _ h => h) ?_ (by assumption) ?_
            rotate_left
            · (intro o ho w hSw; (simp only [List.getElem?_toArray, List.getElem?_cons_succ, List.getElem?_cons_zero, Option.some.injEq] at ho); subst ho; (try dsimp only at hSw); go_simp; (first | done | with_reducible rfl))
            (try simp only [Act.put, List.setIfInBounds_toArray, List.set_cons_zero, List.set_cons_succ])
            refine wpAnyH_done (by kernel_rfl) ?_ _
            have hbx : Below wr.heap.size wr (wr.alloc (.cells #[.slice ka kn kc, .slice va vn vc, .int .i64 size, .int .i64 more] 70)).drew := ((Below.refl _ _).alloc (Nat.le_refl _) _).drew
            have hbg : Below (wr.alloc (.cells #[.slice ka kn kc, .slice va vn vc, .int .i64 size, .int .i64 more] 70)).heap.size (wr.alloc (.cells #[.slice ka kn kc, .slice va vn vc, .int .i64 size, .int .i64 more] 70)) (wr.alloc (.cells #[.slice ka kn kc, .slice va vn vc, .int .i64 size, .int .i64 more] 70)).drew := (Below.refl _ _).drew
            clear HBQ
            generalize (wr.alloc (.cells #[.slice ka kn kc, .slice va vn vc, .int .i64 size, .int .i64 more] 70)).drew = X at hbx hbg ⊢
            have HBX5 := kept hbx
            have HO5 := kept (own_stays HO.out hbx)
            have HB5 := kept (HB.out.trans (hbx.mono (HSB.out _ HB.out)))
            have HG5 := kept ((Blk.new wr 70 #[.slice ka kn kc, .slice va vn vc, .int .i64 size, .int .i64 more]).below hbg (by simp))
            obtain ⟨⟨k0, k1, k2, k3⟩, _⟩ := HE.out _ hbg
            have HR5 := fun v0 v1 v2 e0 e1 e2 => kept (rd_u8s X kn sz q rm v0 v1 v2 (by have := HKL.out; omega) HQR.out.1 HQR.out.2.1 HQR.out.2.2 e0 e1 e2)
            have HA5 := fun o => kept (HB5.out.alloc (HSB.out _ HB5.out) o)
            have HOA5 := fun o => kept (own_stays HO5.out ((Below.refl _ X).alloc (Nat.le_refl _) o))
            have HGA5 := fun o => kept (HG5.out.alloc o)
            clear hbx hbg
            go_wp2_with (first | (at_builtin; refine wpList_append_oth rfl (.tmp 95) (.tmp 108) 25 rfl (w.heap.size + 1) 5 rfl rfl Tryd.underlying25 u8info (HOA5 _).out (HR5 _ _ _ rfl rfl rfl).out (by have := HUL.out; omega) (HSB.out _ (HA5 _).out) (u + 3) (encTo encItem J 0 ++ (be kn 1 ++ be sz 2)) rfl rfl ?_; intro A6 c6' w6 hown6 hb6 hot6; have HO6 := kept hown6; have HB6 := kept ((HA5 _).out.trans hb6); have hg6 := hot6 _ _ _ (by decide) (HGA5 _).out; have k0 : w6.cell? ⟨wr.heap.size, 0, none⟩ = some (.slice ka kn kc) := hg6.cell 0; have HG6 := kept hg6; have HR6 := kept (HRD.out.1.below (HBW.out _ HB6.out)); clear hown6 hb6 hot6 hg6) | (at_builtin; refine wpList_append_oth rfl (.tmp 110) (.tmp 112) 25 rfl (w.heap.size + 1) 5 rfl rfl Tryd.underlying25 u8info HO6.out HR6.out (by have := HUL.out; have := HKL.out; omega) (HSB.out _ HB6.out) (u + 3 + kn) (encTo encItem J 0 ++ (be kn 1 ++ be sz 2) ++ x.key) rfl rfl ?_; intro A7 c7' w7 hown7 hb7 hot7; have HO7 := kept hown7; have HB7 := kept (HB6.out.trans hb7); have hg7 := hot7 _ _ _ (by decide) HG6.out; have k1 : w7.cell? ⟨wr.heap.size, 1, none⟩ = some (.slice va vn vc) := hg7.cell 1; have k3 : w7.cell? ⟨wr.heap.size, 3, none⟩ = some (.int .i64 more) := hg7.cell 3; have HPU7 := HPU w7; clear hown7 hb7 hot7 hg7) | (go_at_call 44; (with_reducible refine (HPU7.out).mono ?_); rintro e w8 ⟨A8, c8', rfl, hrd8, hb8⟩; have HO8 := kept (own_stays HO7.out hb8); have HR8 := kept hrd8; have HB8 := kept (HB7.out.trans (hb8.mono (HSB.out _ HB7.out))); clear hrd8 hb8) | (at_builtin; refine wpList_append_oth rfl (.tmp 119) (.tmp 123) 25 rfl (w.heap.size + 1) 5 rfl rfl Tryd.underlying25 u8info HO8.out HR8.out (by have := HUL.out; have := HKL.out; omega) (HSB.out _ HB8.out) (u + 3 + kn + 4) (encTo encItem J (0 + 1)) rfl HEN.out ?_; intro A9 c9' w9 hown9 hb9 hot9; have HO9 := kept hown9; have HB9 := kept (HB8.out.trans hb9); clear hown9 hb9 hot9))
            go_roundw
            case rel => exact ⟨0 + 1, u + 3 + kn + 4, A9, c9', by omega, by go_num, rfl, HUN, HO9, HB9, HU2⟩
            case measure => simp [intOf]; omega
          | succ k =>
            obtain ⟨b', o', M, e, hrm, g0, _, _, _⟩ := HK.out.at_ (k := k) (by omega)
            simp only [Option.some.injEq, Addr.mk.injEq, and_true] at e
            obtain ⟨rfl, rfl⟩ := e
            obtain ⟨ka', kn', kc', va', vn', vc', size', more'⟩ := M
            simp only at g0
            replace g0 := cell_below (HBW.out _ HB.out) g0
            have hi3 : (0 : Int) ≤ (k : Int) := by omega
            have hi4 : (k : Int) < (n1 : Int) := by omega
            have hi5 : IntKind.i64.wrap (k : Int) = (k : Int) := IntWalk.i64_in _ ⟨by omega, by have := HN.out; omega⟩
            have HEQ : Hid (∀ X, Below (wr.alloc (.cells #[.slice ka kn kc, .slice va vn vc, .int .i64 size, .int .i64 more] 70)).heap.size (wr.alloc (.cells #[.slice ka kn kc, .slice va vn vc, .int .i64 size, .int .i64 more] 70)) X → ((X.cell? ⟨wr.heap.size, 0, none⟩ = some (.slice ka kn kc) ∧ X.cell? ⟨wr.heap.size, 1, none⟩ = some (.slice va vn vc) ∧ X.cell? ⟨wr.heap.size, 2, none⟩ = some (.int .i64 size) ∧ X.cell? ⟨wr.heap.size, 3, none⟩ = some (.int .i64 more)) ∧ Sev X w.heap.size 1 txn next (some ⟨b, o, none⟩) n1 c1 a2 n2 c2 a3 n3 c3 a4 n4 c4) ∧ X.cell? ⟨b, o + k * 4, none⟩ = some (.slice ka' kn' kc')) := kept (fun X hX => ⟨HE.out X hX, cell_below (((Below.refl _ wr).alloc (Nat.le_refl _) (.cells #[.slice ka kn kc, .slice va vn vc, .int .i64 size, .int .i64 more] 70)).trans (hX.mono (by simp))) g0⟩)
            have hah := ahead_any ka' ka kn' kn kc' kc (J[k]'(by omega)).key (J[k + 1]'hki).key (wr.alloc (.cells #[.slice ka kn kc, .slice va vn vc, .int .i64 size, .int .i64 more] 70)).drew (hrm.1.below (HBF _ HBQ).out) (HX.out.1.below (HBF _ HBQ).out) hrm.2.2.2.2.1 HX.out.2.2.2.2.1
            clear hrm
            cases hao : ahead (J[k]'(by omega)).key (J[k + 1]'hki).key with
            | true =>
              have HU2 : Hid (ordU itemOk cmpI J (k + 1 + 1) = true) := kept (ordU_next hki HU.out hokt (ahead_lt hao))
              rw [hao] at hah
              have HAH := kept hah
              generalize J[k + 1]'hki = x at HRD HEN
              clear hokt HX hah hao HBAD
              go_upto_region 12 with ((go_at_call 68; (with_reducible refine (HP _).out.mono ?_); rintro e w' ⟨rfl, rfl⟩))
              refine wp_region_held_drew (S := (fun W' => ((W'.cell? ⟨wr.heap.size, 0, none⟩ = some (.slice ka kn kc) ∧ W'.cell? ⟨wr.heap.size, 1, none⟩ = some (.slice va vn vc) ∧ W'.cell? ⟨wr.heap.size, 2, none⟩ = some (.int .i64 size) ∧ W'.cell? ⟨wr.heap.size, 3, none⟩ = some (.int .i64 more)) ∧ Sev W' w.heap.size 1 txn next (some ⟨b, o, none⟩) n1 c1 a2 n2 c2 a3 n3 c3 a4 n4 c4) ∧ W'.cell? ⟨b, o + k * 4, none⟩ = some (.slice ka' kn' kc'))) (by kernel_rfl) ?_ (fun hHeld => ?_)
              · ((try dsimp only); (first | exact HEQ.out _ (Below.refl _ _) | exact HEQ.out _ (Below.refl _ _).drew | exact HEQ.out _ HBG7.out))
              refine hand_take 0 (some 80) ?_ (by kernel_rfl) (by kernel_rfl) (by kernel_rfl) (by kernel_rfl) (by kernel_rfl) (fun _ _ _ h => h) ?_ (by assumption) ?_
              rotate_left
              · (intro o ho w hSw; (simp only [List.getElem?_toArray, List.getElem?_cons_succ, List.getElem?_cons_zero, Option.some.injEq] at ho); subst ho; (try dsimp only at hSw); go_simp; (first | done | with_reducible rfl))
              (try simp only [Act.put, List.setIfInBounds_toArray, List.set_cons_zero, List.set_cons_succ])
              refine hand_take 1 (some 81) ?_ (by kernel_rfl) (by kernel_rfl) (by kernel_rfl) (by kernel_rfl) (by kernel_rfl) (fun _ _ _ h => h) ?_ (by assumption) ?_
              rotate_left
              · (intro o ho w hSw; (simp only [List.getElem?_toArray, List.getElem?_cons_succ, List.getElem?_cons_zero, Option.some.injEq] at ho); subst ho; (try dsimp only at hSw); go_simp; (first | done | with_reducible rfl))
              (try simp only [Act.put, List.setIfInBounds_toArray, List.set_cons_zero, List.set_cons_succ])
              refine hand_take 2 (some 82) ?_ (by kernel_rfl) (by kernel_rfl) (by kernel_rfl) (by kernel_rfl) (by kernel_rfl) (fun _ _ _ h => h) ?_ (by assumption) ?_
              rotate_left
              · (intro o ho w hSw; (simp only [List.getElem?_toArray, List.getElem?_cons_succ, List.getElem?_cons_zero, Option.some.injEq] at ho); subst ho; (try dsimp only at hSw); go_simp; (first | done | with_reducible rfl))
              (try simp only [Act.put, List.setIfInBounds_toArray, List.set_cons_zero, List.set_cons_succ])
              refine hand_take 3 (some 83) ?_ (by kernel_rfl) (by kernel_rfl) (by kernel_rfl) (by kernel_rfl) (by kernel_rfl) (fun _ _ _ h => h) ?_ (by assumption) ?_
              rotate_left
              · (intro o ho w hSw; (simp only [List.getElem?_toArray, List.getElem?_cons_succ, List.getElem?_cons_zero, Option.some.injEq] at ho); subst ho; (try dsimp only at hSw); go_simp; (first | done | with_reducible rfl))
              (try simp only [Act.put, List.setIfInBounds_toArray, List.set_cons_zero, List.set_cons_succ])
              refine hand_take 4 (some 84) ?_ (by kernel_rfl) (by kernel_rfl) (by kernel_rfl) (by kernel_rfl) (by kernel_rfl) (fun _ _ _ h => h) ?_ (by assumption) ?_
              rotate_left
              · (intro o ho w hSw; (simp only [List.getElem?_toArray, List.getElem?_cons_succ, List.getElem?_cons_zero, Option.some.injEq] at ho); subst ho; (try dsimp only at hSw); go_simp; (first | done | with_reducible rfl))
              (try simp only [Act.put, List.setIfInBounds_toArray, List.set_cons_zero, List.set_cons_succ])
              refine hand_take 5 (some 85) ?_ (by kernel_rfl) (by kernel_rfl) (by kernel_rfl) (by kernel_rfl) (by kernel_rfl) (fun _ _ _ h => h) ?_ (by assumption) ?_
              rotate_left
              · (intro o ho w hSw; (simp only [List.getElem?_toArray, List.getElem?_cons_succ, List.getElem?_cons_zero, Option.some.injEq] at ho); subst ho; (try dsimp only at hSw); go_simp; (first | done | with_reducible rfl))
              (try simp only [Act.put, List.setIfInBounds_toArray, List.set_cons_zero, List.set_cons_succ])
              refine hand_take 6 (some 86) ?_ (by kernel_rfl) (by kernel_rfl) (by kernel_rfl) (by kernel_rfl) (by kernel_rfl) (fun _ _ _ h => h) ?_ (by assumption) ?_
              rotate_left
              · (intro o ho w hSw; (simp only [List.getElem?_toArray, List.getElem?_cons_succ, List.getElem?_cons_zero, Option.some.injEq] at ho); subst ho; (try dsimp only at hSw); go_simp; (first | done | with_reducible rfl))
              (try simp only [Act.put, List.setIfInBounds_toArray, List.set_cons_zero, List.set_cons_succ])
              refine hand_take 7 (some 87) ?_ (by kernel_rfl) (by kernel_rfl) (by kernel_rfl) (by kernel_rfl) (by kernel_rfl) (fun _ _ _ h => h) ?_ (by assumption) ?_
              rotate_left
              · (intro o ho w hSw; (simp only [List.getElem?_toArray, List.getElem?_cons_succ, List.getElem?_cons_zero, Option.some.injEq] at ho); subst ho; (try dsimp only at hSw); go_simp; (first | done | with_reducible rfl))
              (try simp only [Act.put, List.setIfInBounds_toArray, List.set_cons_zero, List.set_cons_succ])
              refine hand_take 8 (some 88) ?_ (by kernel_rfl) (by kernel_rfl) (by kernel_rfl) (by kernel_rfl) (by kernel_rfl) (fun _ _ _ h => h) ?_ (by assumption) ?_
              rotate_left
              · (intro o ho w hSw; (simp only [List.getElem?_toArray, List.getElem?_cons_succ, List.getElem?_cons_zero, Option.some.injEq] at ho); subst ho; (try dsimp only at hSw); go_simp; (first | done | with_reducible rfl))
              (try simp only [Act.put, List.setIfInBounds_toArray, List.set_cons_zero, List.set_cons_succ])
              refine hand_take 9 (some 89) ?_ (by kernel_rfl) (by kernel_rfl) (by kernel_rfl) (by kernel_rfl) (by kernel_rfl) (fun _ _ _ h => h) ?_ (by assumption) ?_
              rotate_left
              · (intro o ho w hSw; (simp only [List.getElem?_toArray, List.getElem?_cons_succ, List.getElem?_cons_zero, Option.some.injEq] at ho); subst ho; (try dsimp only at hSw); go_simp; (first | done | with_reducible rfl))
              (try simp only [Act.put, List.setIfInBounds_toArray, List.set_cons_zero, List.set_cons_succ])
              refine hand_take 10 (some 90) ?_ (by kernel_rfl) (by kernel_rfl) (by kernel_rfl) (by kernel_rfl) (by kernel_rfl) (fun _ _ _ h => h) ?_ (by assumption) ?_
              rotate_left
              · (intro o ho w hSw; (simp only [List.getElem?_toArray, List.getElem?_cons_succ, List.getElem?_cons_zero, Option.some.injEq] at ho); subst ho; (try dsimp only at hSw); go_simp; (first | done | with_reducible rfl))
              (try simp only [Act.put, List.setIfInBounds_toArray, List.set_cons_zero, List.set_cons_succ])
              refine hand_take 11 (some 91) ?_ (by kernel_rfl) (by kernel_rfl) (by kernel_rfl) (by kernel_rfl) (by kernel_rfl) (fun _ _ _ h => h) ?_ (by assumption) ?_
              rotate_left
              · (intro o ho w hSw; (simp only [List.getElem?_toArray, List.getElem?_cons_succ, List.getElem?_cons_zero, Option.some.injEq] at ho); subst ho; (try dsimp only at hSw); go_simp; (first | done | with_reducible rfl))
              (try simp only [Act.put, List.setIfInBounds_toArray, List.set_cons_zero, List.set_cons_succ])
              refine hand_ready 12 (by kernel_rfl) (by kernel_rfl) (fun o ho K hK => ?_)
              (simp only [List.getElem?_toArray, List.getElem?_cons_succ, List.getElem?_cons_zero, Option.some.injEq] at ho)
              subst ho
              go_simp
              ((go_at_call 69; (with_reducible refine HAH.out.mono ?_); rintro e w7 ⟨rfl, hq⟩); have HBG7 : Hid (Below (wr.alloc (.cells #[.slice ka kn kc, .slice va vn vc, .int .i64 size, .int .i64 more] 70)).heap.size (wr.alloc (.cells #[.slice ka kn kc, .slice va vn vc, .int .i64 size, .int .i64 more] 70)) w7) := kept (by obtain ⟨q, e⟩ := hq.out; rw [e]; exact drewN_below (Below.refl _ _).drew q); clear hq)
              (try go_wp2_with fail)
              refine hK.out _ _ ?_ (fun hHeld => ?_)
              · ((try dsimp only); (first | exact HEQ.out _ (Below.refl _ _) | exact HEQ.out _ (Below.refl _ _).drew | exact HEQ.out _ HBG7.out))
              clear hK K
              (try simp only [Act.put, List.setIfInBounds_toArray, List.set_cons_zero, List.set_cons_succ])
              refine hand_take 13 (some 93) ?_ (by kernel_rfl) (by kernel_rfl) (by kernel_rfl) (by kernel_rfl) (by kernel_rfl) (fun _ _ _ h => h) ?_ (by assumption) ?_
              rotate_left
              · (intro o ho w hSw; (simp only [List.getElem?_toArray, List.getElem?_cons_succ, List.getElem?_cons_zero, Option.some.injEq] at ho); subst ho; (try dsimp only at hSw); go_simp; (first | done | with_reducible rfl))
              (try simp only [Act.put, List.setIfInBounds_toArray, List.set_cons_zero, List.set_cons_succ])
              refine hand_take 14 (some 94) ?_ (by kernel_rfl) (by kernel_rfl) (by kernel_rfl) (by kernel_rfl) (by kernel_rfl) (fun _ _ _ h => h) ?_ (by assumption) ?_
              rotate_left
              · (intro o ho w hSw; (simp only [List.getElem?_toArray, List.getElem?_cons_succ, List.getElem?_cons_zero, Option.some.injEq] at ho); subst ho; (try dsimp only at hSw); go_simp; (first | done | with_reducible rfl))
              (try simp only [Act.put, List.setIfInBounds_toArray, List.set_cons_zero, List.set_cons_succ])
              refine wpAnyH_done (by kernel_rfl) ?_ _
              have hbg := HBG7.out
              have hbx : Below wr.heap.size wr w7 := ((Below.refl _ wr).alloc (Nat.le_refl _) (.cells #[.slice ka kn kc, .slice va vn vc, .int .i64 size, .int .i64 more] 70)).trans (hbg.mono (by simp))
              generalize w7 = X at hbx hbg ⊢
              have HBX5 := kept hbx
              have HO5 := kept (own_stays HO.out hbx)
              have HB5 := kept (HB.out.trans (hbx.mono (HSB.out _ HB.out)))
              have HG5 := kept ((Blk.new wr 70 #[.slice ka kn kc, .slice va vn vc, .int .i64 size, .int .i64 more]).below hbg (by simp))
              obtain ⟨⟨k0, k1, k2, k3⟩, _⟩ := HE.out _ hbg
              have HR5 := fun v0 v1 v2 e0 e1 e2 => kept (rd_u8s X kn sz q rm v0 v1 v2 (by have := HKL.out; omega) HQR.out.1 HQR.out.2.1 HQR.out.2.2 e0 e1 e2)
              have HA5 := fun o => kept (HB5.out.alloc (HSB.out _ HB5.out) o)
              have HOA5 := fun o => kept (own_stays HO5.out ((Below.refl _ X).alloc (Nat.le_refl _) o))
              have HGA5 := fun o => kept (HG5.out.alloc o)
              clear hbx hbg
              go_wp2_with (first | (at_builtin; refine wpList_append_oth rfl (.tmp 95) (.tmp 108) 25 rfl (w.heap.size + 1) 5 rfl rfl Tryd.underlying25 u8info (HOA5 _).out (HR5 _ _ _ rfl rfl rfl).out (by have := HUL.out; omega) (HSB.out _ (HA5 _).out) (u + 3) (encTo encItem J (k + 1) ++ (be kn 1 ++ be sz 2)) rfl rfl ?_; intro A6 c6' w6 hown6 hb6 hot6; have HO6 := kept hown6; have HB6 := kept ((HA5 _).out.trans hb6); have hg6 := hot6 _ _ _ (by decide) (HGA5 _).out; have k0 : w6.cell? ⟨wr.heap.size, 0, none⟩ = some (.slice ka kn kc) := hg6.cell 0; have HG6 := kept hg6; have HR6 := kept (HRD.out.1.below (HBW.out _ HB6.out)); clear hown6 hb6 hot6 hg6) | (at_builtin; refine wpList_append_oth rfl (.tmp 110) (.tmp 112) 25 rfl (w.heap.size + 1) 5 rfl rfl Tryd.underlying25 u8info HO6.out HR6.out (by have := HUL.out; have := HKL.out; omega) (HSB.out _ HB6.out) (u + 3 + kn) (encTo encItem J (k + 1) ++ (be kn 1 ++ be sz 2) ++ x.key) rfl rfl ?_; intro A7 c7' w7 hown7 hb7 hot7; have HO7 := kept hown7; have HB7 := kept (HB6.out.trans hb7); have hg7 := hot7 _ _ _ (by decide) HG6.out; have k1 : w7.cell? ⟨wr.heap.size, 1, none⟩ = some (.slice va vn vc) := hg7.cell 1; have k3 : w7.cell? ⟨wr.heap.size, 3, none⟩ = some (.int .i64 more) := hg7.cell 3; have HPU7 := HPU w7; clear hown7 hb7 hot7 hg7) | (go_at_call 44; (with_reducible refine (HPU7.out).mono ?_); rintro e w8 ⟨A8, c8', rfl, hrd8, hb8⟩; have HO8 := kept (own_stays HO7.out hb8); have HR8 := kept hrd8; have HB8 := kept (HB7.out.trans (hb8.mono (HSB.out _ HB7.out))); clear hrd8 hb8) | (at_builtin; refine wpList_append_oth rfl (.tmp 119) (.tmp 123) 25 rfl (w.heap.size + 1) 5 rfl rfl Tryd.underlying25 u8info HO8.out HR8.out (by have := HUL.out; have := HKL.out; omega) (HSB.out _ HB8.out) (u + 3 + kn + 4) (encTo encItem J ((k + 1) + 1)) rfl HEN.out ?_; intro A9 c9' w9 hown9 hb9 hot9; have HO9 := kept hown9; have HB9 := kept (HB8.out.trans hb9); clear hown9 hb9 hot9))
              go_roundw
              case rel => exact ⟨(k + 1) + 1, u + 3 + kn + 4, A9, c9', by omega, by go_num, rfl, HUN, HO9, HB9, HU2⟩
              case measure => simp [intOf]; omega
            | false =>
              have HF := kept (HRN.out (by rw [HKN.out]; exact ordU_back hki hlt (ahead_ge hao)))
              rw [hao] at hah
              have HAH := kept hah
              clear hokt HX hah hao HBAD
              go_upto_region 12 with ((go_at_call 68; (with_reducible refine (HP _).out.mono ?_); rintro e w' ⟨rfl, rfl⟩))
              refine wp_region_held_drew (S := (fun W' => ((W'.cell? ⟨wr.heap.size, 0, none⟩ = some (.slice ka kn kc) ∧ W'.cell? ⟨wr.heap.size, 1, none⟩ = some (.slice va vn vc) ∧ W'.cell? ⟨wr.heap.size, 2, none⟩ = some (.int .i64 size) ∧ W'.cell? ⟨wr.heap.size, 3, none⟩ = some (.int .i64 more)) ∧ Sev W' w.heap.size 1 txn next (some ⟨b, o, none⟩) n1 c1 a2 n2 c2 a3 n3 c3 a4 n4 c4) ∧ W'.cell? ⟨b, o + k * 4, none⟩ = some (.slice ka' kn' kc'))) (by kernel_rfl) ?_ (fun hHeld => ?_)
              · ((try dsimp only); (first | exact HEQ.out _ (Below.refl _ _) | exact HEQ.out _ (Below.refl _ _).drew | exact HEQ.out _ HBG7.out))
              refine hand_take 0 (some 80) ?_ (by kernel_rfl) (by kernel_rfl) (by kernel_rfl) (by kernel_rfl) (by kernel_rfl) (fun _ _ _ h => h) ?_ (by assumption) ?_
              rotate_left
              · (intro o ho w hSw; (simp only [List.getElem?_toArray, List.getElem?_cons_succ, List.getElem?_cons_zero, Option.some.injEq] at ho); subst ho; (try dsimp only at hSw); go_simp; (first | done | with_reducible rfl))
              (try simp only [Act.put, List.setIfInBounds_toArray, List.set_cons_zero, List.set_cons_succ])
              refine hand_take 1 (some 81) ?_ (by kernel_rfl) (by kernel_rfl) (by kernel_rfl) (by kernel_rfl) (by kernel_rfl) (fun _ _ _ h => h) ?_ (by assumption) ?_
              rotate_left
              · (intro o ho w hSw; (simp only [List.getElem?_toArray, List.getElem?_cons_succ, List.getElem?_cons_zero, Option.some.injEq] at ho); subst ho; (try dsimp only at hSw); go_simp; (first | done | with_reducible rfl))
              (try simp only [Act.put, List.setIfInBounds_toArray, List.set_cons_zero, List.set_cons_succ])
              refine hand_take 2 (some 82) ?_ (by kernel_rfl) (by kernel_rfl) (by kernel_rfl) (by kernel_rfl) (by kernel_rfl) (fun _ _ _ h => h) ?_ (by assumption) ?_
              rotate_left
              · (intro o ho w hSw; (simp only [List.getElem?_toArray, List.getElem?_cons_succ, List.getElem?_cons_zero, Option.some.injEq] at ho); subst ho; (try dsimp only at hSw); go_simp; (first | done | with_reducible rfl))
              (try simp only [Act.put, List.setIfInBounds_toArray, List.set_cons_zero, List.set_cons_succ])
              refine hand_take 3 (some 83) ?_ (by kernel_rfl) (by kernel_rfl) (by kernel_rfl) (by kernel_rfl) (by kernel_rfl) (fun _ _ _ h => h) ?_ (by assumption) ?_
              rotate_left
              · (intro o ho w hSw; (simp only [List.getElem?_toArray, List.getElem?_cons_succ, List.getElem?_cons_zero, Option.some.injEq] at ho); subst ho; (try dsimp only at hSw); go_simp; (first | done | with_reducible rfl))
              (try simp only [Act.put, List.setIfInBounds_toArray, List.set_cons_zero, List.set_cons_succ])
              refine hand_take 4 (some 84) ?_ (by kernel_rfl) (by kernel_rfl) (by kernel_rfl) (by kernel_rfl) (by kernel_rfl) (fun _ _ _ h => h) ?_ (by assumption) ?_
              rotate_left
              · (intro o ho w hSw; (simp only [List.getElem?_toArray, List.getElem?_cons_succ, List.getElem?_cons_zero, Option.some.injEq] at ho); subst ho; (try dsimp only at hSw); go_simp; (first | done | with_reducible rfl))
              (try simp only [Act.put, List.setIfInBounds_toArray, List.set_cons_zero, List.set_cons_succ])
              refine hand_take 5 (some 85) ?_ (by kernel_rfl) (by kernel_rfl) (by kernel_rfl) (by kernel_rfl) (by kernel_rfl) (fun _ _ _ h => h) ?_ (by assumption) ?_
              rotate_left
              · (intro o ho w hSw; (simp only [List.getElem?_toArray, List.getElem?_cons_succ, List.getElem?_cons_zero, Option.some.injEq] at ho); subst ho; (try dsimp only at hSw); go_simp; (first | done | with_reducible rfl))
              (try simp only [Act.put, List.setIfInBounds_toArray, List.set_cons_zero, List.set_cons_succ])
              refine hand_take 6 (some 86) ?_ (by kernel_rfl) (by kernel_rfl) (by kernel_rfl) (by kernel_rfl) (by kernel_rfl) (fun _ _ _ h => h) ?_ (by assumption) ?_
              rotate_left
              · (intro o ho w hSw; (simp only [List.getElem?_toArray, List.getElem?_cons_succ, List.getElem?_cons_zero, Option.some.injEq] at ho); subst ho; (try dsimp only at hSw); go_simp; (first | done | with_reducible rfl))
              (try simp only [Act.put, List.setIfInBounds_toArray, List.set_cons_zero, List.set_cons_succ])
              refine hand_take 7 (some 87) ?_ (by kernel_rfl) (by kernel_rfl) (by kernel_rfl) (by kernel_rfl) (by kernel_rfl) (fun _ _ _ h => h) ?_ (by assumption) ?_
              rotate_left
              · (intro o ho w hSw; (simp only [List.getElem?_toArray, List.getElem?_cons_succ, List.getElem?_cons_zero, Option.some.injEq] at ho); subst ho; (try dsimp only at hSw); go_simp; (first | done | with_reducible rfl))
              (try simp only [Act.put, List.setIfInBounds_toArray, List.set_cons_zero, List.set_cons_succ])
              refine hand_take 8 (some 88) ?_ (by kernel_rfl) (by kernel_rfl) (by kernel_rfl) (by kernel_rfl) (by kernel_rfl) (fun _ _ _ h => h) ?_ (by assumption) ?_
              rotate_left
              · (intro o ho w hSw; (simp only [List.getElem?_toArray, List.getElem?_cons_succ, List.getElem?_cons_zero, Option.some.injEq] at ho); subst ho; (try dsimp only at hSw); go_simp; (first | done | with_reducible rfl))
              (try simp only [Act.put, List.setIfInBounds_toArray, List.set_cons_zero, List.set_cons_succ])
              refine hand_take 9 (some 89) ?_ (by kernel_rfl) (by kernel_rfl) (by kernel_rfl) (by kernel_rfl) (by kernel_rfl) (fun _ _ _ h => h) ?_ (by assumption) ?_
              rotate_left
              · (intro o ho w hSw; (simp only [List.getElem?_toArray, List.getElem?_cons_succ, List.getElem?_cons_zero, Option.some.injEq] at ho); subst ho; (try dsimp only at hSw); go_simp; (first | done | with_reducible rfl))
              (try simp only [Act.put, List.setIfInBounds_toArray, List.set_cons_zero, List.set_cons_succ])
              refine hand_take 10 (some 90) ?_ (by kernel_rfl) (by kernel_rfl) (by kernel_rfl) (by kernel_rfl) (by kernel_rfl) (fun _ _ _ h => h) ?_ (by assumption) ?_
              rotate_left
              · (intro o ho w hSw; (simp only [List.getElem?_toArray, List.getElem?_cons_succ, List.getElem?_cons_zero, Option.some.injEq] at ho); subst ho; (try dsimp only at hSw); go_simp; (first | done | with_reducible rfl))
              (try simp only [Act.put, List.setIfInBounds_toArray, List.set_cons_zero, List.set_cons_succ])
              refine hand_take 11 (some 91) ?_ (by kernel_rfl) (by kernel_rfl) (by kernel_rfl) (by kernel_rfl) (by kernel_rfl) (fun _ _ _ h => h) ?_ (by assumption) ?_
              rotate_left
              · (intro o ho w hSw; (simp only [List.getElem?_toArray, List.getElem?_cons_succ, List.getElem?_cons_zero, Option.some.injEq] at ho); subst ho; (try dsimp only at hSw); go_simp; (first | done | with_reducible rfl))
              (try simp only [Act.put, List.setIfInBounds_toArray, List.set_cons_zero, List.set_cons_succ])
              refine hand_ready 12 (by kernel_rfl) (by kernel_rfl) (fun o ho K hK => ?_)
              (simp only [List.getElem?_toArray, List.getElem?_cons_succ, List.getElem?_cons_zero, Option.some.injEq] at ho)
              subst ho
              go_simp
              ((go_at_call 69; (with_reducible refine HAH.out.mono ?_); rintro e w7 ⟨rfl, hq⟩); have HBG7 : Hid (Below (wr.alloc (.cells #[.slice ka kn kc, .slice va vn vc, .int .i64 size, .int .i64 more] 70)).heap.size (wr.alloc (.cells #[.slice ka kn kc, .slice va vn vc, .int .i64 size, .int .i64 more] 70)) w7) := kept (by obtain ⟨q, e⟩ := hq.out; rw [e]; exact drewN_below (Below.refl _ _).drew q); clear hq)
              (try go_wp2_with fail)
              refine hK.out _ _ ?_ (fun hHeld => ?_)
              · ((try dsimp only); (first | exact HEQ.out _ (Below.refl _ _) | exact HEQ.out _ (Below.refl _ _).drew | exact HEQ.out _ HBG7.out))
              clear hK K
              (try simp only [Act.put, List.setIfInBounds_toArray, List.set_cons_zero, List.set_cons_succ])
              refine hand_take 13 (some 93) ?_ (by kernel_rfl) (by kernel_rfl) (by kernel_rfl) (by kernel_rfl) (by kernel_rfl) (fun _ _ _ h => h) ?_ (by assumption) ?_
              rotate_left
              · (intro o ho w hSw; (simp only [List.getElem?_toArray, List.getElem?_cons_succ, List.getElem?_cons_zero, Option.some.injEq] at ho); subst ho; (try dsimp only at hSw); go_simp; (first | done | with_reducible rfl))
              (try simp only [Act.put, List.setIfInBounds_toArray, List.set_cons_zero, List.set_cons_succ])
              refine hand_take 14 (some 94) ?_ (by kernel_rfl) (by kernel_rfl) (by kernel_rfl) (by kernel_rfl) (by kernel_rfl) (fun _ _ _ h => h) ?_ (by assumption) ?_
              rotate_left
              · (intro o ho w hSw; (simp only [List.getElem?_toArray, List.getElem?_cons_succ, List.getElem?_cons_zero, Option.some.injEq] at ho); subst ho; (try dsimp only at hSw); go_simp; (first | done | with_reducible rfl))
              (try simp only [Act.put, List.setIfInBounds_toArray, List.set_cons_zero, List.set_cons_succ])
              refine wpAnyH_done (by kernel_rfl) ?_ _
              go_wp2
              go_ret3
              exact .inr ⟨HF.out, rfl, (HBF _ HBG7.out).out⟩
    · obtain rfl : k = n1 := by omega
      have hrx := HR2.out (by rw [HKN.out]; exact HU.out)
      have hsum : (J.map itemUse).sum = u := by
        have h1 := flatten_len encItem_length J
        have h2 := HUQ.out.1
        rw [← h1, ← encTo_all, HKN.out, h2]
      rw [HKN.out, hsum] at hrx
      have HRX := kept hrx
      have HBX := kept (HBW.out _ HB.out)
      obtain ⟨z0, z1, z2, z3, z4, z5, z6⟩ := HSV.out _ HB.out
      have hs2 := HS2.out
      have hll := HLN.out
      have hnx := HNX.out
      clear hlt hk hrx hsum
      go_upto_region 43 with fail
      by_cases t0 : k = 0
      · have HFF : Hid (rightB P = false) := kept (by rw [HRX.out, decide_eq_false (p := 0 < k) (by omega)]; simp)
        have g0 : ((k : Int) == 0) = true := by rw [beq_iff_eq]; omega
        clear hs2 hll hnx t0
        go_wp2
        all_goals
          go_ret3
          exact .inr ⟨HFF.out, rfl, HBX.out⟩
      have g0 : ((k : Int) == 0) = false := by rw [beq_eq_false_iff_ne]; omega
      by_cases t1 : s4 = 0
      · have g1 : ((s4 : Int) != 0) = false := by rw [t1]; rfl
        by_cases t2 : 237 < u
        · have HFF : Hid (rightB P = false) := kept (by rw [HRX.out, decide_eq_false (p := u ≤ 237) (by omega)]; simp)
          have g2 : decide ((237 : Int) < (u : Int)) = true := by rw [decide_eq_true_eq]; omega
          clear hs2 hll hnx t0 t1 t2
          go_wp2
          all_goals
            go_ret3
            exact .inr ⟨HFF.out, rfl, HBX.out⟩
        have g2 : decide ((237 : Int) < (u : Int)) = false := by rw [decide_eq_false_iff_not]; omega
        by_cases t3 : next < 0
        · have HFF : Hid (rightB P = false) := kept (by rw [HRX.out, decide_eq_false (p := P.next = 0) (by omega)]; simp)
          have g3 : decide (next < 0) = true := by rw [decide_eq_true_eq]; omega
          clear hs2 hll hnx t0 t1 t2 t3
          go_wp2
          all_goals
            go_ret3
            exact .inr ⟨HFF.out, rfl, HBX.out⟩
        have g3 : decide (next < 0) = false := by rw [decide_eq_false_iff_not]; omega
        by_cases t4 : 1024 ≤ next
        · have HFF : Hid (rightB P = false) := kept (by rw [HRX.out, decide_eq_false (p := P.next = 0) (by omega)]; simp)
          have g4 : decide (1024 ≤ next) = true := by rw [decide_eq_true_eq]; omega
          clear hs2 hll hnx t0 t1 t2 t3 t4
          go_wp2
          all_goals
            go_ret3
            exact .inr ⟨HFF.out, rfl, HBX.out⟩
        have g4 : decide (1024 ≤ next) = false := by rw [decide_eq_false_iff_not]; omega
        by_cases t5 : next = 0
        rotate_left
        · have HFF : Hid (rightB P = false) := kept (by rw [HRX.out, decide_eq_false (p := P.next = 0) (by omega)]; simp)
          have g5 : (next != 0) = true := by rw [bne_iff_ne]; exact t5
          clear hs2 hll hnx t0 t1 t2 t3 t4 t5
          go_wp2
          all_goals
            go_ret3
            exact .inr ⟨HFF.out, rfl, HBX.out⟩
        have g5 : (next != 0) = false := by rw [t5]; rfl
        have HTT : Hid (rightB P = true) := kept (by rw [HRX.out]; simp only [Bool.and_eq_true, decide_eq_true_eq]; omega)
        have hus := HUS.out (by omega)
        have HU1 := kept hus
        have HU2 : Hid (cntP P = k) := kept (by omega)
        have HUE : Hid (u = usedN P) := kept (by rw [← HUQ2.out, hus, HKN.out]; exact HUQ.out.1.symm)
        clear hs2 hll hnx t0 t1 t2 t3 t4 t5 hus
        go_wp2
        all_goals
          go_ret3
          refine .inl ⟨HTT.out, ⟨A, c, by rw [HU2.out, ← HUE.out] <;> first | done | rfl | (simp <;> omega), ?_⟩, HBX.out⟩
          rw [HU1.out, ← HUE.out, HKN.out]
          exact own_mono HO.out (Nat.le_succ _)
      · have HFF : Hid (rightB P = false) := kept (by rw [HRX.out, decide_eq_false (p := P.kids.length + P.data.length + P.ids.length = 0) (by omega)]; simp)
        have g1 : ((s4 : Int) != 0) = true := by rw [bne_iff_ne]; omega
        clear hs2 hll hnx t0 t1
        go_wp2
        all_goals
          go_ret3
          exact .inr ⟨HFF.out, rfl, HBX.out⟩
end Go.Proofs.YtfgpkgenahlikaaDoor
