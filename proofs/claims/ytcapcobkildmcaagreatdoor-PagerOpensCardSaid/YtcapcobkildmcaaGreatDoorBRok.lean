/- Rok Roi Roc Re -/
import Derived.Test.YtcapcobkildmcaaGreatDoorBRp
import Derived.Deep.DeepCutAuto
section
namespace Go.Proofs.YtcapcobkildmcaaGreatDoor
open Go.ChangeShapes Go.WideShapes Go.ChangeAt Go.RowKit
set_option linter.unusedVariables false
set_option linter.unusedSimpArgs false
set_option maxRecDepth 100000
set_option maxHeartbeats 16000000
theorem rd_u8 (X : World) (n : Nat) (v : Value) (h : n < 256) (e : v = .int .u8 (n : Int)) : Rd (X.alloc (.cells #[v] 5)) (some ⟨X.heap.size, 0, none⟩) 1 (be n 1) := by
 subst e; have hb : be n 1 = [UInt8.ofNat n] := by rw [be_cons]; simp [be]
 have h2 := Rd.marked X 5 [UInt8.ofNat n] (0, 0); rw [hb]; have e2 : (cellsOf [UInt8.ofNat n]).toArray = #[Value.int .u8 (n : Int)] := by
  simp [cellsOf, byteV]; omega
 rw [e2] at h2; exact h2
theorem room2_any (l : Lay) (P : Pg) (w : World) (h : RdPg w l P) (hk : l.kind = 2) (hn : l.n2 ≤ 1000) :
 Calls Tryz.prog 145 #[l.val] w (RoomAns P w) := by
 have hkP : P.kind = 2 := by rw [h.kind, hk]
 have HR2 := kept (fun ho => right2 hkP ho); have HK := kept h.kids; have HKN := kept h.n2; have hL : cntP P = l.n1 + l.n2 + l.n3 + l.n4 ∧ P.items.length = l.n1 ∧ P.kids.length = l.n2 ∧ P.data.length = l.n3 ∧ P.ids.length = l.n4 := ⟨by unfold cntP; rw [h.n1, h.n2, h.n3, h.n4], h.n1, h.n2, h.n3, h.n4⟩
 have HLN := kept hL; have HNX := kept h.next; have HRN := kept (fun (ho : ordU kidOk cmpK P.kids P.kids.length = false) => rightB_no_things (P := P) (by unfold thingsB; rw [ho]; simp)); have HUS := kept (fun (h0 : P.items.length + P.data.length + P.ids.length = 0) => (show roomOf P = encTo encKid P.kids P.kids.length from by
  have e1 : P.items = [] := List.eq_nil_of_length_eq_zero (by omega); have e2 : P.data = [] := List.eq_nil_of_length_eq_zero (by omega); have e3 : P.ids = [] := List.eq_nil_of_length_eq_zero (by omega); unfold roomOf; rw [e1, e2, e3, encTo_all]
  simp))
 have HUQ2 := kept (roomOf_length P); have hb := And.intro h.b1 (And.intro h.b2 (And.intro h.b3 h.b4)); obtain ⟨s1, hs1⟩ : ∃ s : Nat, s = l.n1 + l.n2 := ⟨_, rfl⟩
 obtain ⟨s2, hs2⟩ : ∃ s : Nat, s = s1 + l.n3 := ⟨_, rfl⟩
 obtain ⟨s3, hs3⟩ : ∃ s : Nat, s = s2 + l.n4 := ⟨_, rfl⟩
 obtain ⟨s4, hs4⟩ : ∃ s : Nat, s = l.n1 + l.n3 + l.n4 := ⟨_, rfl⟩
 have hw1 : IntKind.i64.wrap ((l.n1 : Int) + (l.n2 : Int)) = (s1 : Int) := by rw [show (l.n1 : Int) + (l.n2 : Int) = (s1 : Int) by omega]; exact IntWalk.i64_in _ ⟨by omega, by omega⟩
 have hw2 : IntKind.i64.wrap ((s1 : Int) + (l.n3 : Int)) = (s2 : Int) := by rw [show (s1 : Int) + (l.n3 : Int) = (s2 : Int) by omega]; exact IntWalk.i64_in _ ⟨by omega, by omega⟩
 have hw3 : IntKind.i64.wrap ((s2 : Int) + (l.n4 : Int)) = (s3 : Int) := by rw [show (s2 : Int) + (l.n4 : Int) = (s3 : Int) by omega]; exact IntWalk.i64_in _ ⟨by omega, by omega⟩
 have hw4 : IntKind.i64.wrap ((s3 : Int) - (l.n2 : Int)) = (s4 : Int) := by rw [show (s3 : Int) - (l.n2 : Int) = (s4 : Int) by omega]; exact IntWalk.i64_in _ ⟨by omega, by omega⟩
 have HS2 := kept hs4; have HN := kept hn; obtain ⟨J, hJ⟩ : ∃ J, P.kids = J := ⟨_, rfl⟩
 rw [hJ] at HR2 HK HKN HRN HUS; clear h hkP hL hs1 hs2 hs3 hs4 hb hJ; obtain ⟨kind, txn, next, a1, n1, c1, a2, n2, c2, a3, n3, c3, a4, n4, c4⟩ := l; simp only at hk hw1 hw2 hw3 hw4 hn HK HKN HLN HNX HS2 HN; subst hk; have HRO := kept (ro_new w 2 txn next a1 n1 c1 a2 n2 c2 a3 n3 c3 a4 n4 c4); go_enter Tryz.func145, Tryz.ntmps145; go_wp2; generalize (w.alloc (.cells #[.int .i64 2, .int .u64 txn, .int .i64 next, .slice a1 n1 c1, .slice a2 n2 c2, .slice a3 n3 c3, .slice a4 n4 c4] 197)) = w1 at HRO ⊢; generalize (w1.alloc (.cells #[] 5)) = w2 at HRO ⊢; have HBW := kept (fun (X : World) (hX : Below (w.heap.size + 1) w1 X) => HRO.out.below.trans (hX.mono (Nat.le_succ _))); have HSB := kept (fun (X : World) (hX : Below (w.heap.size + 1) w1 X) => (show w.heap.size + 1 ≤ X.heap.size from Nat.le_trans (Nat.le_of_eq HRO.out.size.symm) hX.size)); have HSV := kept (fun (X : World) (hX : Below (w.heap.size + 1) w1 X) => sev_old HRO.out.box hX); go_loopw [5, 134] (fun ob i wr => ∃ (k u : Nat) (A : Option Addr) (c : Nat), k ≤ n2 ∧ i = .int .i64 k ∧ ob = .slice A u c ∧ Hid ((encTo encKid J k).length = u ∧ u ≤ 37 * k) ∧ Hid (wr.ownsRow (w.heap.size + 1) 5 1 (.slice A u c) u (cellsOf (encTo encKid J k))) ∧ Hid (Below (w.heap.size + 1) w1 wr) ∧ Hid (ordU kidOk cmpK J k = true)) (fun _ i _ => n2 - (intOf i).toNat)
 case atStart => exact ⟨0, 0, _, _, by omega, rfl, rfl, kept ⟨rfl, by omega⟩, kept HRO.out.own, kept HRO.out.next_, ordU_zero⟩
 case round =>
  obtain ⟨k, u, A, c, hk, rfl, rfl, HUQ, HO, HB, HU⟩ := hrel; by_cases hlt : k < n2
  · obtain ⟨b, o, L, ea2, hrd, hc0, hc1⟩ := HK.out.at_ hlt; subst ea2; have hki : k < J.length := by rw [HKN.out]; exact hlt
    have hi1 : (0 : Int) ≤ (k : Int) := by omega
    have hi2 : (k : Int) < (n2 : Int) := by omega
    have hbw := HBW.out _ HB.out; have HKI := kept hki; obtain ⟨ka, kn, kc, page⟩ := L; simp only at hc0 hc1
    replace hc0 := cell_below hbw hc0
    replace hc1 := cell_below hbw hc1
    have HE : Hid (∀ X, Below (wr.alloc (.cells #[.slice ka kn kc, .int .i64 page] 279)).heap.size (wr.alloc (.cells #[.slice ka kn kc, .int .i64 page] 279)) X → (X.cell? ⟨wr.heap.size, 0, none⟩ = some (.slice ka kn kc) ∧ X.cell? ⟨wr.heap.size, 1, none⟩ = some (.int .i64 page)) ∧ Sev X w.heap.size 2 txn next a1 n1 c1 (some ⟨b, o, none⟩) n2 c2 a3 n3 c3 a4 n4 c4) := kept (fun X hX => by
     have hg := (Blk.new wr 279 #[.slice ka kn kc, .int .i64 page]).below hX (by simp); have hb5 := HB.out.trans (((Below.refl _ wr).alloc (HSB.out _ HB.out) (.cells #[.slice ka kn kc, .int .i64 page] 279)).trans (hX.mono (by have := HSB.out _ HB.out; simp; omega))); exact ⟨⟨hg.cell 0, hg.cell 1⟩, HSV.out _ hb5⟩)
    have HBF := fun X (hX : Below (wr.alloc (.cells #[.slice ka kn kc, .int .i64 page] 279)).heap.size (wr.alloc (.cells #[.slice ka kn kc, .int .i64 page] 279)) X) => kept (HBW.out X (HB.out.trans (((Below.refl _ wr).alloc (HSB.out _ HB.out) (.cells #[.slice ka kn kc, .int .i64 page] 279)).trans (hX.mono (by have := HSB.out _ HB.out; simp; omega)))))
    have hBQ : Below (wr.alloc (.cells #[.slice ka kn kc, .int .i64 page] 279)).heap.size (wr.alloc (.cells #[.slice ka kn kc, .int .i64 page] 279)) (wr.alloc (.cells #[.slice ka kn kc, .int .i64 page] 279)).drew := (Below.refl _ _).drew; have HBQ := hBQ; have hok := (RdKd.ok hrd)
    simp only at hok; have HX : Hid (RdKd w ⟨ka, kn, kc, page⟩ (J[k]'hki)) := kept hrd; clear hrd hbw; by_cases h32 : 32 < kn
    · have HF := kept (HRN.out (by rw [HKN.out]; exact ordU_bad hki hlt (by rw [← hok, decide_eq_false (by omega)]; rfl))); have hg32 : decide ((32 : Int) < (kn : Int)) = true := by rw [decide_eq_true_eq]; omega
      clear hok h32; go_wp2_with fail
      refine wp_region_held_drew (S := (fun W' => (W'.cell? ⟨wr.heap.size, 0, none⟩ = some (.slice ka kn kc) ∧ W'.cell? ⟨wr.heap.size, 1, none⟩ = some (.int .i64 page)) ∧ Sev W' w.heap.size 2 txn next a1 n1 c1 (some ⟨b, o, none⟩) n2 c2 a3 n3 c3 a4 n4 c4)) (by kernel_rfl) ?_ (fun hHeld => ?_)
      · ((try dsimp only); (first | exact HE.out _ (Below.refl _ _) | exact HE.out _ (Below.refl _ _).drew))
      refine hT 0 (some 139) ?_; refine hT 1 (some 140) ?_; refine hT 2 (some 141) ?_; refine hT 3 (some 142) ?_; refine hT 4 (some 143) ?_; refine hU 5 (some 144) ?_; refine hU 6 (some 145) ?_; refine hU 7 (some 146) ?_; refine hU 8 (some 147) ?_; refine hT 9 (some 148) ?_; refine hT 10 (some 149) ?_; refine hU 11 (some 150) ?_; refine hU 12 (some 151) ?_; refine hU 13 (some 152) ?_; refine hU 14 (some 153) ?_; refine hU 15 (some 154) ?_; refine hU 16 (some 155) ?_; refine hU 17 (some 156) ?_; refine hU 18 (some 157) ?_; refine hU 19 (some 158) ?_; refine hU 20 (some 159) ?_; refine hU 21 (some 160) ?_; refine hU 22 (some 161) ?_; refine hU 23 (some 162) ?_; refine hU 24 (some 163) ?_; refine hU 25 (some 164) ?_; refine hT 26 (some 165) ?_; refine wpAnyH_done (by kernel_rfl) ?_ _; go_wp2
      go_ret3
      exact .inr ⟨HF.out, rfl, (HBF _ HBQ).out⟩
    have hg32 : decide ((32 : Int) < (kn : Int)) = false := by rw [decide_eq_false_iff_not]; omega
    cases hpg : isPg page with
    | false =>
      have HF := kept (HRN.out (by rw [HKN.out]; exact ordU_bad hki hlt (by rw [← hok, hpg]; simp))); have HP := fun w => kept (refId_any page w false hpg)
      clear hok h32 hpg; go_wp2_with fail
      refine wp_region_held_drew (S := (fun W' => (W'.cell? ⟨wr.heap.size, 0, none⟩ = some (.slice ka kn kc) ∧ W'.cell? ⟨wr.heap.size, 1, none⟩ = some (.int .i64 page)) ∧ Sev W' w.heap.size 2 txn next a1 n1 c1 (some ⟨b, o, none⟩) n2 c2 a3 n3 c3 a4 n4 c4)) (by kernel_rfl) ?_ (fun hHeld => ?_)
      · ((try dsimp only); (first | exact HE.out _ (Below.refl _ _) | exact HE.out _ (Below.refl _ _).drew))
      refine hT 0 (some 139) ?_; refine hT 1 (some 140) ?_; refine hT 2 (some 141) ?_; refine hT 3 (some 142) ?_; refine hT 4 (some 143) ?_; refine hT 5 (some 144) ?_; refine hT 6 (some 145) ?_; refine hR 7 (fun K hK => ?_); go_simp
      (go_at_call 207; (with_reducible refine (HP _).out.mono ?_); rintro e w' ⟨rfl, rfl⟩)
      (try go_wp2_with fail); refine hK.out _ _ ?_ (fun hHeld => ?_)
      · ((try dsimp only); (first | exact HE.out _ (Below.refl _ _) | exact HE.out _ (Below.refl _ _).drew))
      clear hK K; (try simp only [Act.put, hA, h0, h1]); refine hT 8 (some 147) ?_; refine hT 9 (some 148) ?_; refine hT 10 (some 149) ?_; refine hU 11 (some 150) ?_; refine hU 12 (some 151) ?_; refine hU 13 (some 152) ?_; refine hU 14 (some 153) ?_; refine hU 15 (some 154) ?_; refine hU 16 (some 155) ?_; refine hU 17 (some 156) ?_; refine hU 18 (some 157) ?_; refine hU 19 (some 158) ?_; refine hU 20 (some 159) ?_; refine hU 21 (some 160) ?_; refine hU 22 (some 161) ?_; refine hU 23 (some 162) ?_; refine hU 24 (some 163) ?_; refine hU 25 (some 164) ?_; refine hT 26 (some 165) ?_; refine wpAnyH_done (by kernel_rfl) ?_ _; go_wp2
      go_ret3
      exact .inr ⟨HF.out, rfl, (HBF _ HBQ).out⟩
    | true =>
      have hokt : kidOk (J[k]'hki) = true := by rw [← hok, hpg, decide_eq_true (by omega)]; rfl
      have HP := fun w => kept (refId_any page w true hpg)
      have hpp := page_small' hpg; obtain ⟨pg, hpe, hp2⟩ : ∃ pg : Nat, page = (pg : Int) ∧ pg < 1024 := ⟨page.toNat, by omega, by omega⟩
      have HPU := fun w => kept (refPut4 pg w hp2)
      have hpw : IntKind.u64.wrap (pg : Int) = (pg : Int) := IntWalk.u64_in _ ⟨by omega, by omega⟩; have hw8 : IntKind.u8.wrap (kn : Int) = (kn : Int) := IntWalk.u8_in _ ⟨by omega, by omega⟩; have hw8' : (kn : Int) % 256 = (kn : Int) := by omega
      have HKL := kept (show kn ≤ 32 by omega); have HUL := kept (show u ≤ 37000 by have h2 := HUQ.out.2; have h3 := HN.out; omega); have HRD := HX; have hlen : (J[k]'hki).key.length = kn := HX.out.1.1; have hpage : (J[k]'hki).page = (pg : Int) := by rw [← hpe]; exact HX.out.2.1
      have HEN := kept (show encTo encKid J k ++ be kn 1 ++ (J[k]'hki).key ++ be pg 4 = encTo encKid J (k + 1) from by
       rw [encTo_succ hki]; unfold encKid; rw [hlen, hpage]; simp [List.append_assoc])
      have HUN : Hid ((encTo encKid J (k + 1)).length = u + 1 + kn + 4 ∧ u + 1 + kn + 4 ≤ 37 * (k + 1)) := kept (by
       have h2 := HUQ.out; have h3 := HKL.out; rw [← HEN.out]; simp only [List.length_append, be_length, hlen]
       omega)
      subst hpe; clear hok hpg hpp hlen hpage; cases k with
      | zero =>
        have HU2 : Hid (ordU kidOk cmpK J 1 = true) := kept (ordU_first hki hokt); generalize J[0]'hki = x at HRD HEN; clear hokt HX; rw [Nat.zero_mul, Nat.add_zero] at hc0 hc1; go_wp2_with fail
        refine wp_region_held_drew (S := (fun W' => (W'.cell? ⟨wr.heap.size, 0, none⟩ = some (.slice ka kn kc) ∧ W'.cell? ⟨wr.heap.size, 1, none⟩ = some (.int .i64 (pg : Int))) ∧ Sev W' w.heap.size 2 txn next a1 n1 c1 (some ⟨b, o, none⟩) n2 c2 a3 n3 c3 a4 n4 c4)) (by kernel_rfl) ?_ (fun hHeld => ?_)
        · ((try dsimp only); (first | exact HE.out _ (Below.refl _ _) | exact HE.out _ (Below.refl _ _).drew))
        refine hT 0 (some 139) ?_; refine hT 1 (some 140) ?_; refine hT 2 (some 141) ?_; refine hT 3 (some 142) ?_; refine hT 4 (some 143) ?_; refine hT 5 (some 144) ?_; refine hT 6 (some 145) ?_; refine hR 7 (fun K hK => ?_); go_simp
        (go_at_call 207; (with_reducible refine (HP _).out.mono ?_); rintro e w' ⟨rfl, rfl⟩)
        (try go_wp2_with fail); refine hK.out _ _ ?_ (fun hHeld => ?_)
        · ((try dsimp only); (first | exact HE.out _ (Below.refl _ _) | exact HE.out _ (Below.refl _ _).drew))
        clear hK K; (try simp only [Act.put, hA, h0, h1]); refine hT 8 (some 147) ?_; refine hT 9 (some 148) ?_; refine hT 10 (some 149) ?_; refine hT 11 (some 150) ?_; refine hT 12 (some 151) ?_; refine hT 13 (some 152) ?_; refine hU 14 (some 153) ?_; refine hU 15 (some 154) ?_; refine hU 16 (some 155) ?_; refine hU 17 (some 156) ?_; refine hU 18 (some 157) ?_; refine hU 19 (some 158) ?_; refine hU 20 (some 159) ?_; refine hU 21 (some 160) ?_; refine hU 22 (some 161) ?_; refine hU 23 (some 162) ?_; refine hU 24 (some 163) ?_; refine hT 25 (some 164) ?_; refine hT 26 (some 165) ?_; refine wpAnyH_done (by kernel_rfl) ?_ _; have hbx : Below wr.heap.size wr (wr.alloc (.cells #[.slice ka kn kc, .int .i64 (pg : Int)] 279)).drew := ((Below.refl _ _).alloc (Nat.le_refl _) _).drew; have hbg : Below (wr.alloc (.cells #[.slice ka kn kc, .int .i64 (pg : Int)] 279)).heap.size (wr.alloc (.cells #[.slice ka kn kc, .int .i64 (pg : Int)] 279)) (wr.alloc (.cells #[.slice ka kn kc, .int .i64 (pg : Int)] 279)).drew := (Below.refl _ _).drew; clear HBQ; generalize (wr.alloc (.cells #[.slice ka kn kc, .int .i64 (pg : Int)] 279)).drew = X at hbx hbg ⊢; have HBX5 := kept hbx; have HO5 := kept (own_stays HO.out hbx); have HB5 := kept (HB.out.trans (hbx.mono (HSB.out _ HB.out))); have HG5 := kept ((Blk.new wr 279 #[.slice ka kn kc, .int .i64 (pg : Int)]).below hbg (by simp)); obtain ⟨⟨k0, k1⟩, _⟩ := HE.out _ hbg; have HR5 := fun v e => kept (rd_u8 X kn v (by have := HKL.out; omega) e)
        have HA5 := fun o => kept (HB5.out.alloc (HSB.out _ HB5.out) o)
        have HOA5 := fun o => kept (own_stays HO5.out ((Below.refl _ X).alloc (Nat.le_refl _) o))
        have HGA5 := fun o => kept (HG5.out.alloc o)
        have HXS := kept (HSB.out _ HB5.out); clear hbx hbg; go_wp2_with (first | (at_builtin; refine wpList_append_oth rfl (.tmp 166) (.tmp 171) 46 rfl (w.heap.size + 1) 5 rfl rfl Tryz.underlying46 u8info (HOA5 _).out (HR5 _ rfl).out (by have := HUL.out; omega) (HSB.out _ (HA5 _).out) (u + 1) (encTo encKid J 0 ++ be kn 1) rfl rfl ?_; intro A6 c6' w6 hown6 hb6 hot6; have HO6 := kept hown6; have HB6 := kept ((HA5 _).out.trans hb6); have hg6 := hot6 _ _ _ (by decide) (HGA5 _).out; have k0 : w6.cell? ⟨wr.heap.size, 0, none⟩ = some (.slice ka kn kc) := hg6.cell 0; have HG6 := kept hg6; have HR6 := kept (HRD.out.1.below (HBW.out _ HB6.out)); clear hown6 hb6 hot6 hg6) | (at_builtin; refine wpList_append_oth rfl (.tmp 173) (.tmp 175) 46 rfl (w.heap.size + 1) 5 rfl rfl Tryz.underlying46 u8info HO6.out HR6.out (by have := HUL.out; have := HKL.out; omega) (HSB.out _ HB6.out) (u + 1 + kn) (encTo encKid J 0 ++ be kn 1 ++ x.key) rfl rfl ?_; intro A7 c7' w7 hown7 hb7 hot7; have HO7 := kept hown7; have HB7 := kept (HB6.out.trans hb7); have hg7 := hot7 _ _ _ (by decide) HG6.out; have k1 : w7.cell? ⟨wr.heap.size, 1, none⟩ = some (.int .i64 (pg : Int)) := hg7.cell 1; have HPU7 := HPU w7; clear hown7 hb7 hot7 hg7) | (go_at_call 143; (with_reducible refine (HPU7.out).mono ?_); rintro e w8 ⟨A8, c8', rfl, hrd8, hb8⟩; have HO8 := kept (own_stays HO7.out hb8); have HR8 := kept hrd8; have HB8 := kept (HB7.out.trans (hb8.mono (HSB.out _ HB7.out))); clear hrd8 hb8) | (at_builtin; refine wpList_append_oth rfl (.tmp 177) (.tmp 181) 46 rfl (w.heap.size + 1) 5 rfl rfl Tryz.underlying46 u8info HO8.out HR8.out (by have := HUL.out; have := HKL.out; omega) (HSB.out _ HB8.out) (u + 1 + kn + 4) (encTo encKid J (0 + 1)) rfl HEN.out ?_; intro A9 c9' w9 hown9 hb9 hot9; have HO9 := kept hown9; have HB9 := kept (HB8.out.trans hb9); clear hown9 hb9 hot9))
        go_roundw
        case rel => exact ⟨0 + 1, u + 1 + kn + 4, A9, c9', by omega, by go_num, rfl, HUN, HO9, HB9, HU2⟩
        case measure => simp [intOf]; omega
      | succ k =>
        obtain ⟨b', o', M, e, hrm, g0, g1⟩ := HK.out.at_ (k := k) (by omega); simp only [Option.some.injEq, Addr.mk.injEq, and_true] at e; obtain ⟨rfl, rfl⟩ := e; obtain ⟨ka', kn', kc', page'⟩ := M; simp only at g0 g1
        replace g0 := cell_below (HBW.out _ HB.out) g0
        have hi3 : (0 : Int) ≤ (k : Int) := by omega
        have hi4 : (k : Int) < (n2 : Int) := by omega
        have hi5 : IntKind.i64.wrap (k : Int) = (k : Int) := IntWalk.i64_in _ ⟨by omega, by have := HN.out; omega⟩; have HEQ : Hid (∀ X, Below (wr.alloc (.cells #[.slice ka kn kc, .int .i64 (pg : Int)] 279)).heap.size (wr.alloc (.cells #[.slice ka kn kc, .int .i64 (pg : Int)] 279)) X → ((X.cell? ⟨wr.heap.size, 0, none⟩ = some (.slice ka kn kc) ∧ X.cell? ⟨wr.heap.size, 1, none⟩ = some (.int .i64 (pg : Int))) ∧ Sev X w.heap.size 2 txn next a1 n1 c1 (some ⟨b, o, none⟩) n2 c2 a3 n3 c3 a4 n4 c4) ∧ X.cell? ⟨b, o + k * 2, none⟩ = some (.slice ka' kn' kc')) := kept (fun X hX => ⟨HE.out X hX, cell_below (((Below.refl _ wr).alloc (Nat.le_refl _) (.cells #[.slice ka kn kc, .int .i64 (pg : Int)] 279)).trans (hX.mono (by simp))) g0⟩); have hah := ahead_any ka' ka kn' kn kc' kc (J[k]'(by omega)).key (J[k + 1]'hki).key (wr.alloc (.cells #[.slice ka kn kc, .int .i64 (pg : Int)] 279)).drew (hrm.1.below (HBF _ HBQ).out) (HX.out.1.below (HBF _ HBQ).out) hrm.2.2 HX.out.2.2; have hrmx := hrm; clear hrm g1; cases hao : ahead (J[k]'(by omega)).key (J[k + 1]'hki).key with
        | true =>
          have HU2 : Hid (ordU kidOk cmpK J (k + 1 + 1) = true) := kept (ordU_next hki HU.out hokt (ahead_lt hao)); rw [hao] at hah; have HAH := kept hah; generalize J[k + 1]'hki = x at HRD HEN; clear hokt HX hah hao hrmx; go_wp2_with fail
          refine wp_region_held_drew (S := (fun W' => ((W'.cell? ⟨wr.heap.size, 0, none⟩ = some (.slice ka kn kc) ∧ W'.cell? ⟨wr.heap.size, 1, none⟩ = some (.int .i64 (pg : Int))) ∧ Sev W' w.heap.size 2 txn next a1 n1 c1 (some ⟨b, o, none⟩) n2 c2 a3 n3 c3 a4 n4 c4) ∧ W'.cell? ⟨b, o + k * 2, none⟩ = some (.slice ka' kn' kc'))) (by kernel_rfl) ?_ (fun hHeld => ?_)
          · ((try dsimp only); (first | exact HEQ.out _ (Below.refl _ _) | exact HEQ.out _ (Below.refl _ _).drew | exact HEQ.out _ HBG7.out))
          refine hT 0 (some 139) ?_; refine hT 1 (some 140) ?_; refine hT 2 (some 141) ?_; refine hT 3 (some 142) ?_; refine hT 4 (some 143) ?_; refine hT 5 (some 144) ?_; refine hT 6 (some 145) ?_; refine hR 7 (fun K hK => ?_); go_simp
          (go_at_call 207; (with_reducible refine (HP _).out.mono ?_); rintro e w' ⟨rfl, rfl⟩)
          (try go_wp2_with fail); refine hK.out _ _ ?_ (fun hHeld => ?_)
          · ((try dsimp only); (first | exact HEQ.out _ (Below.refl _ _) | exact HEQ.out _ (Below.refl _ _).drew | exact HEQ.out _ HBG7.out))
          clear hK K; (try simp only [Act.put, hA, h0, h1]); refine hT 8 (some 147) ?_; refine hT 9 (some 148) ?_; refine hT 10 (some 149) ?_; refine hT 11 (some 150) ?_; refine hT 12 (some 151) ?_; refine hT 13 (some 152) ?_; refine hT 14 (some 153) ?_; refine hT 15 (some 154) ?_; refine hT 16 (some 155) ?_; refine hT 17 (some 156) ?_; refine hT 18 (some 157) ?_; refine hT 19 (some 158) ?_; refine hT 20 (some 159) ?_; refine hT 21 (some 160) ?_; refine hT 22 (some 161) ?_; refine hR 23 (fun K hK => ?_); go_simp
          ((go_at_call 30; (with_reducible refine HAH.out.mono ?_); rintro e w7 ⟨rfl, hq⟩); have HBG7 : Hid (Below (wr.alloc (.cells #[.slice ka kn kc, .int .i64 (pg : Int)] 279)).heap.size (wr.alloc (.cells #[.slice ka kn kc, .int .i64 (pg : Int)] 279)) w7) := kept (by obtain ⟨q, e⟩ := hq.out; rw [e]; exact drewN_below (Below.refl _ _).drew q); clear hq)
          (try go_wp2_with fail); refine hK.out _ _ ?_ (fun hHeld => ?_)
          · ((try dsimp only); (first | exact HEQ.out _ (Below.refl _ _) | exact HEQ.out _ (Below.refl _ _).drew | exact HEQ.out _ HBG7.out))
          clear hK K; (try simp only [Act.put, hA, h0, h1]); refine hT 24 (some 163) ?_; refine hT 25 (some 164) ?_; refine hT 26 (some 165) ?_; refine wpAnyH_done (by kernel_rfl) ?_ _; have hbg := HBG7.out; have hbx : Below wr.heap.size wr w7 := ((Below.refl _ wr).alloc (Nat.le_refl _) (.cells #[.slice ka kn kc, .int .i64 (pg : Int)] 279)).trans (hbg.mono (by simp)); generalize w7 = X at hbx hbg ⊢; have HBX5 := kept hbx; have HO5 := kept (own_stays HO.out hbx); have HB5 := kept (HB.out.trans (hbx.mono (HSB.out _ HB.out))); have HG5 := kept ((Blk.new wr 279 #[.slice ka kn kc, .int .i64 (pg : Int)]).below hbg (by simp)); obtain ⟨⟨k0, k1⟩, _⟩ := HE.out _ hbg; have HR5 := fun v e => kept (rd_u8 X kn v (by have := HKL.out; omega) e)
          have HA5 := fun o => kept (HB5.out.alloc (HSB.out _ HB5.out) o)
          have HOA5 := fun o => kept (own_stays HO5.out ((Below.refl _ X).alloc (Nat.le_refl _) o))
          have HGA5 := fun o => kept (HG5.out.alloc o)
          have HXS := kept (HSB.out _ HB5.out); clear hbx hbg; go_wp2_with (first | (at_builtin; refine wpList_append_oth rfl (.tmp 166) (.tmp 171) 46 rfl (w.heap.size + 1) 5 rfl rfl Tryz.underlying46 u8info (HOA5 _).out (HR5 _ rfl).out (by have := HUL.out; omega) (HSB.out _ (HA5 _).out) (u + 1) (encTo encKid J (k + 1) ++ be kn 1) rfl rfl ?_; intro A6 c6' w6 hown6 hb6 hot6; have HO6 := kept hown6; have HB6 := kept ((HA5 _).out.trans hb6); have hg6 := hot6 _ _ _ (by decide) (HGA5 _).out; have k0 : w6.cell? ⟨wr.heap.size, 0, none⟩ = some (.slice ka kn kc) := hg6.cell 0; have HG6 := kept hg6; have HR6 := kept (HRD.out.1.below (HBW.out _ HB6.out)); clear hown6 hb6 hot6 hg6) | (at_builtin; refine wpList_append_oth rfl (.tmp 173) (.tmp 175) 46 rfl (w.heap.size + 1) 5 rfl rfl Tryz.underlying46 u8info HO6.out HR6.out (by have := HUL.out; have := HKL.out; omega) (HSB.out _ HB6.out) (u + 1 + kn) (encTo encKid J (k + 1) ++ be kn 1 ++ x.key) rfl rfl ?_; intro A7 c7' w7 hown7 hb7 hot7; have HO7 := kept hown7; have HB7 := kept (HB6.out.trans hb7); have hg7 := hot7 _ _ _ (by decide) HG6.out; have k1 : w7.cell? ⟨wr.heap.size, 1, none⟩ = some (.int .i64 (pg : Int)) := hg7.cell 1; have HPU7 := HPU w7; clear hown7 hb7 hot7 hg7) | (go_at_call 143; (with_reducible refine (HPU7.out).mono ?_); rintro e w8 ⟨A8, c8', rfl, hrd8, hb8⟩; have HO8 := kept (own_stays HO7.out hb8); have HR8 := kept hrd8; have HB8 := kept (HB7.out.trans (hb8.mono (HSB.out _ HB7.out))); clear hrd8 hb8) | (at_builtin; refine wpList_append_oth rfl (.tmp 177) (.tmp 181) 46 rfl (w.heap.size + 1) 5 rfl rfl Tryz.underlying46 u8info HO8.out HR8.out (by have := HUL.out; have := HKL.out; omega) (HSB.out _ HB8.out) (u + 1 + kn + 4) (encTo encKid J ((k + 1) + 1)) rfl HEN.out ?_; intro A9 c9' w9 hown9 hb9 hot9; have HO9 := kept hown9; have HB9 := kept (HB8.out.trans hb9); clear hown9 hb9 hot9))
          go_roundw
          case rel => exact ⟨(k + 1) + 1, u + 1 + kn + 4, A9, c9', by omega, by go_num, rfl, HUN, HO9, HB9, HU2⟩
          case measure => simp [intOf]; omega
        | false =>
          have HF := kept (HRN.out (by rw [HKN.out]; exact ordU_back hki hlt (ahead_ge hao))); rw [hao] at hah; have HAH := kept hah; clear hokt HX hah hao hrmx; go_wp2_with fail
          refine wp_region_held_drew (S := (fun W' => ((W'.cell? ⟨wr.heap.size, 0, none⟩ = some (.slice ka kn kc) ∧ W'.cell? ⟨wr.heap.size, 1, none⟩ = some (.int .i64 (pg : Int))) ∧ Sev W' w.heap.size 2 txn next a1 n1 c1 (some ⟨b, o, none⟩) n2 c2 a3 n3 c3 a4 n4 c4) ∧ W'.cell? ⟨b, o + k * 2, none⟩ = some (.slice ka' kn' kc'))) (by kernel_rfl) ?_ (fun hHeld => ?_)
          · ((try dsimp only); (first | exact HEQ.out _ (Below.refl _ _) | exact HEQ.out _ (Below.refl _ _).drew | exact HEQ.out _ HBG7.out))
          refine hT 0 (some 139) ?_; refine hT 1 (some 140) ?_; refine hT 2 (some 141) ?_; refine hT 3 (some 142) ?_; refine hT 4 (some 143) ?_; refine hT 5 (some 144) ?_; refine hT 6 (some 145) ?_; refine hR 7 (fun K hK => ?_); go_simp
          (go_at_call 207; (with_reducible refine (HP _).out.mono ?_); rintro e w' ⟨rfl, rfl⟩)
          (try go_wp2_with fail); refine hK.out _ _ ?_ (fun hHeld => ?_)
          · ((try dsimp only); (first | exact HEQ.out _ (Below.refl _ _) | exact HEQ.out _ (Below.refl _ _).drew | exact HEQ.out _ HBG7.out))
          clear hK K; (try simp only [Act.put, hA, h0, h1]); refine hT 8 (some 147) ?_; refine hT 9 (some 148) ?_; refine hT 10 (some 149) ?_; refine hT 11 (some 150) ?_; refine hT 12 (some 151) ?_; refine hT 13 (some 152) ?_; refine hT 14 (some 153) ?_; refine hT 15 (some 154) ?_; refine hT 16 (some 155) ?_; refine hT 17 (some 156) ?_; refine hT 18 (some 157) ?_; refine hT 19 (some 158) ?_; refine hT 20 (some 159) ?_; refine hT 21 (some 160) ?_; refine hT 22 (some 161) ?_; refine hR 23 (fun K hK => ?_); go_simp
          ((go_at_call 30; (with_reducible refine HAH.out.mono ?_); rintro e w7 ⟨rfl, hq⟩); have HBG7 : Hid (Below (wr.alloc (.cells #[.slice ka kn kc, .int .i64 (pg : Int)] 279)).heap.size (wr.alloc (.cells #[.slice ka kn kc, .int .i64 (pg : Int)] 279)) w7) := kept (by obtain ⟨q, e⟩ := hq.out; rw [e]; exact drewN_below (Below.refl _ _).drew q); clear hq)
          (try go_wp2_with fail); refine hK.out _ _ ?_ (fun hHeld => ?_)
          · ((try dsimp only); (first | exact HEQ.out _ (Below.refl _ _) | exact HEQ.out _ (Below.refl _ _).drew | exact HEQ.out _ HBG7.out))
          clear hK K; (try simp only [Act.put, hA, h0, h1]); refine hT 24 (some 163) ?_; refine hT 25 (some 164) ?_; refine hT 26 (some 165) ?_; refine wpAnyH_done (by kernel_rfl) ?_ _; go_wp2
          go_ret3
          exact .inr ⟨HF.out, rfl, (HBF _ HBG7.out).out⟩
  · obtain rfl : k = n2 := by omega
    have hrx := HR2.out (by rw [HKN.out]; exact HU.out); have hsum : (J.map kidUse).sum = u := by
     have h1 := flatten_len encKid_length J; have h2 := HUQ.out.1; rw [← h1, ← encTo_all, HKN.out, h2]
    rw [HKN.out, hsum] at hrx; have HRX := kept hrx; have HBX := kept (HBW.out _ HB.out); obtain ⟨z0, z1, z2, z3, z4, z5, z6⟩ := HSV.out _ HB.out; have hs2 := HS2.out; have hll := HLN.out; have hnx := HNX.out; clear hlt hk hrx hsum; go_upto_region 43 with fail
    by_cases t0 : k = 0
    · have HFF : Hid (rightB P = false) := kept (by rw [HRX.out, decide_eq_false (p := 0 < k) (by omega)]; simp); have g0 : ((k : Int) == 0) = true := by rw [beq_iff_eq]; omega
      clear hs2 hll hnx t0; go_wp2
      all_goals
       go_ret3
       exact .inr ⟨HFF.out, rfl, HBX.out⟩
    have g0 : ((k : Int) == 0) = false := by rw [beq_eq_false_iff_ne]; omega
    by_cases t1 : s4 = 0
    · have g1 : ((s4 : Int) != 0) = false := by rw [t1]; rfl
      by_cases t2 : 237 < u
      · have HFF : Hid (rightB P = false) := kept (by rw [HRX.out, decide_eq_false (p := u ≤ 237) (by omega)]; simp); have g2 : decide ((237 : Int) < (u : Int)) = true := by rw [decide_eq_true_eq]; omega
        clear hs2 hll hnx t0 t1 t2; go_wp2
        all_goals
         go_ret3
         exact .inr ⟨HFF.out, rfl, HBX.out⟩
      have g2 : decide ((237 : Int) < (u : Int)) = false := by rw [decide_eq_false_iff_not]; omega
      by_cases t3 : next < 0
      · have HFF : Hid (rightB P = false) := kept (by rw [HRX.out, decide_eq_false (p := P.next = 0) (by omega)]; simp); have g3 : decide (next < 0) = true := by rw [decide_eq_true_eq]; omega
        clear hs2 hll hnx t0 t1 t2 t3; go_wp2
        all_goals
         go_ret3
         exact .inr ⟨HFF.out, rfl, HBX.out⟩
      have g3 : decide (next < 0) = false := by rw [decide_eq_false_iff_not]; omega
      by_cases t4 : 1024 ≤ next
      · have HFF : Hid (rightB P = false) := kept (by rw [HRX.out, decide_eq_false (p := P.next = 0) (by omega)]; simp); have g4 : decide (1024 ≤ next) = true := by rw [decide_eq_true_eq]; omega
        clear hs2 hll hnx t0 t1 t2 t3 t4; go_wp2
        all_goals
         go_ret3
         exact .inr ⟨HFF.out, rfl, HBX.out⟩
      have g4 : decide (1024 ≤ next) = false := by rw [decide_eq_false_iff_not]; omega
      by_cases t5 : next = 0
      rotate_left
      · have HFF : Hid (rightB P = false) := kept (by rw [HRX.out, decide_eq_false (p := P.next = 0) (by omega)]; simp); have g5 : (next != 0) = true := by rw [bne_iff_ne]; exact t5
        clear hs2 hll hnx t0 t1 t2 t3 t4 t5; go_wp2
        all_goals
         go_ret3
         exact .inr ⟨HFF.out, rfl, HBX.out⟩
      have g5 : (next != 0) = false := by rw [t5]; rfl
      have HTT : Hid (rightB P = true) := kept (by rw [HRX.out]; simp only [Bool.and_eq_true, decide_eq_true_eq]; omega); have hus := HUS.out (by omega); have HU1 := kept hus; have HU2 : Hid (cntP P = k) := kept (by omega); have HUE : Hid (u = usedN P) := kept (by rw [← HUQ2.out, hus, HKN.out]; exact HUQ.out.1.symm); clear hs2 hll hnx t0 t1 t2 t3 t4 t5 hus; go_wp2
      all_goals
       go_ret3
       refine .inl ⟨HTT.out, ⟨A, c, by rw [HU2.out, ← HUE.out] <;> first | done | rfl | (simp <;> omega), ?_⟩, HBX.out⟩; rw [HU1.out, ← HUE.out, HKN.out]; exact own_mono HO.out (Nat.le_succ _)
    · have HFF : Hid (rightB P = false) := kept (by rw [HRX.out, decide_eq_false (p := P.items.length + P.data.length + P.ids.length = 0) (by omega)]; simp); have g1 : ((s4 : Int) != 0) = true := by rw [bne_iff_ne]; omega
      clear hs2 hll hnx t0 t1; go_wp2
      all_goals
       go_ret3
       exact .inr ⟨HFF.out, rfl, HBX.out⟩
theorem be_two (n : Nat) : be n 2 = [UInt8.ofNat (n / 256), UInt8.ofNat n] := by simp [be]
theorem rd_u8s (X : World) (n sz q r : Nat) (v0 v1 v2 : Value) (h : n < 256) (hq : q < 256) (hr : r < 256) (hs : sz = q * 256 + r) (e0 : v0 = .int .u8 (n : Int)) (e1 : v1 = .int .u8 (q : Int)) (e2 : v2 = .int .u8 (r : Int)) :
 Rd (X.alloc (.cells #[v0, v1, v2] 5)) (some ⟨X.heap.size, 0, none⟩) 3 (be n 1 ++ be sz 2) := by
 subst e0 e1 e2; have hb : be n 1 ++ be sz 2 = [UInt8.ofNat n, UInt8.ofNat (sz / 256), UInt8.ofNat sz] := by rw [be_two]; simp [be]
 have h2 := Rd.marked X 5 [UInt8.ofNat n, UInt8.ofNat (sz / 256), UInt8.ofNat sz] (0, 0); rw [hb]; have e3 : (cellsOf [UInt8.ofNat n, UInt8.ofNat (sz / 256), UInt8.ofNat sz]).toArray = #[Value.int .u8 (n : Int), .int .u8 (q : Int), .int .u8 (r : Int)] := by
  simp only [cellsOf, byteV, List.map_cons, List.map_nil, UInt8.toNat_ofNat']; rw [show n % 2 ^ 8 = n by omega, show sz / 256 % 2 ^ 8 = q by omega, show sz % 2 ^ 8 = r by omega]
 rw [e3] at h2; exact h2
theorem room1_any (l : Lay) (P : Pg) (w : World) (h : RdPg w l P) (hk : l.kind = 1) (hn : l.n1 ≤ 1000) :
 Calls Tryz.prog 145 #[l.val] w (RoomAns P w) := by
 have hkP : P.kind = 1 := by rw [h.kind, hk]
 have HR2 := kept (fun ho => right1 hkP ho); have HK := kept h.items; have HKN := kept h.n1; have hL : cntP P = l.n1 + l.n2 + l.n3 + l.n4 ∧ P.items.length = l.n1 ∧ P.kids.length = l.n2 ∧ P.data.length = l.n3 ∧ P.ids.length = l.n4 := ⟨by unfold cntP; rw [h.n1, h.n2, h.n3, h.n4], h.n1, h.n2, h.n3, h.n4⟩
 have HLN := kept hL; have HNX := kept h.next; have HRN := kept (fun (ho : ordU itemOk cmpI P.items P.items.length = false) => rightB_no_things (P := P) (by unfold thingsB; rw [ho]; simp)); have HUS := kept (fun (h0 : P.kids.length + P.data.length + P.ids.length = 0) => (show roomOf P = encTo encItem P.items P.items.length from by
  have e1 : P.kids = [] := List.eq_nil_of_length_eq_zero (by omega); have e2 : P.data = [] := List.eq_nil_of_length_eq_zero (by omega); have e3 : P.ids = [] := List.eq_nil_of_length_eq_zero (by omega); unfold roomOf; rw [e1, e2, e3, encTo_all]
  simp))
 have HUQ2 := kept (roomOf_length P); have hb := And.intro h.b1 (And.intro h.b2 (And.intro h.b3 h.b4)); obtain ⟨s1, hs1⟩ : ∃ s : Nat, s = l.n1 + l.n2 := ⟨_, rfl⟩
 obtain ⟨s2, hs2⟩ : ∃ s : Nat, s = s1 + l.n3 := ⟨_, rfl⟩
 obtain ⟨s3, hs3⟩ : ∃ s : Nat, s = s2 + l.n4 := ⟨_, rfl⟩
 obtain ⟨s4, hs4⟩ : ∃ s : Nat, s = l.n2 + l.n3 + l.n4 := ⟨_, rfl⟩
 have hw1 : IntKind.i64.wrap ((l.n1 : Int) + (l.n2 : Int)) = (s1 : Int) := by rw [show (l.n1 : Int) + (l.n2 : Int) = (s1 : Int) by omega]; exact IntWalk.i64_in _ ⟨by omega, by omega⟩
 have hw2 : IntKind.i64.wrap ((s1 : Int) + (l.n3 : Int)) = (s2 : Int) := by rw [show (s1 : Int) + (l.n3 : Int) = (s2 : Int) by omega]; exact IntWalk.i64_in _ ⟨by omega, by omega⟩
 have hw3 : IntKind.i64.wrap ((s2 : Int) + (l.n4 : Int)) = (s3 : Int) := by rw [show (s2 : Int) + (l.n4 : Int) = (s3 : Int) by omega]; exact IntWalk.i64_in _ ⟨by omega, by omega⟩
 have hw4 : IntKind.i64.wrap ((s3 : Int) - (l.n1 : Int)) = (s4 : Int) := by rw [show (s3 : Int) - (l.n1 : Int) = (s4 : Int) by omega]; exact IntWalk.i64_in _ ⟨by omega, by omega⟩
 have HS2 := kept hs4; have HN := kept hn; obtain ⟨J, hJ⟩ : ∃ J, P.items = J := ⟨_, rfl⟩
 rw [hJ] at HR2 HK HKN HRN HUS; clear h hkP hL hs1 hs2 hs3 hs4 hb hJ; obtain ⟨kind, txn, next, a1, n1, c1, a2, n2, c2, a3, n3, c3, a4, n4, c4⟩ := l; simp only at hk hw1 hw2 hw3 hw4 hn HK HKN HLN HNX HS2 HN; subst hk; have HRO := kept (ro_new w 1 txn next a1 n1 c1 a2 n2 c2 a3 n3 c3 a4 n4 c4); go_enter Tryz.func145, Tryz.ntmps145; go_wp2; generalize (w.alloc (.cells #[.int .i64 1, .int .u64 txn, .int .i64 next, .slice a1 n1 c1, .slice a2 n2 c2, .slice a3 n3 c3, .slice a4 n4 c4] 197)) = w1 at HRO ⊢; generalize (w1.alloc (.cells #[] 5)) = w2 at HRO ⊢; have HBW := kept (fun (X : World) (hX : Below (w.heap.size + 1) w1 X) => HRO.out.below.trans (hX.mono (Nat.le_succ _))); have HSB := kept (fun (X : World) (hX : Below (w.heap.size + 1) w1 X) => (show w.heap.size + 1 ≤ X.heap.size from Nat.le_trans (Nat.le_of_eq HRO.out.size.symm) hX.size)); have HSV := kept (fun (X : World) (hX : Below (w.heap.size + 1) w1 X) => sev_old HRO.out.box hX); go_loopw [5, 26] (fun ob i wr => ∃ (k u : Nat) (A : Option Addr) (c : Nat), k ≤ n1 ∧ i = .int .i64 k ∧ ob = .slice A u c ∧ Hid ((encTo encItem J k).length = u ∧ u ≤ 99 * k) ∧ Hid (wr.ownsRow (w.heap.size + 1) 5 1 (.slice A u c) u (cellsOf (encTo encItem J k))) ∧ Hid (Below (w.heap.size + 1) w1 wr) ∧ Hid (ordU itemOk cmpI J k = true)) (fun _ i _ => n1 - (intOf i).toNat)
 case atStart => exact ⟨0, 0, _, _, by omega, rfl, rfl, kept ⟨rfl, by omega⟩, kept HRO.out.own, kept HRO.out.next_, ordU_zero⟩
 case round =>
  obtain ⟨k, u, A, c, hk, rfl, rfl, HUQ, HO, HB, HU⟩ := hrel; by_cases hlt : k < n1
  · obtain ⟨b, o, L, ea2, hrd, hc0, hc1, hc2, hc3⟩ := HK.out.at_ hlt; subst ea2; have hki : k < J.length := by rw [HKN.out]; exact hlt
    have hi1 : (0 : Int) ≤ (k : Int) := by omega
    have hi2 : (k : Int) < (n1 : Int) := by omega
    have hbw := HBW.out _ HB.out; have HKI := kept hki; obtain ⟨ka, kn, kc, va, vn, vc, size, more⟩ := L; simp only at hc0 hc1 hc2 hc3
    replace hc0 := cell_below hbw hc0
    replace hc1 := cell_below hbw hc1
    replace hc2 := cell_below hbw hc2
    replace hc3 := cell_below hbw hc3
    have HE : Hid (∀ X, Below (wr.alloc (.cells #[.slice ka kn kc, .slice va vn vc, .int .i64 size, .int .i64 more] 277)).heap.size (wr.alloc (.cells #[.slice ka kn kc, .slice va vn vc, .int .i64 size, .int .i64 more] 277)) X → (X.cell? ⟨wr.heap.size, 0, none⟩ = some (.slice ka kn kc) ∧ X.cell? ⟨wr.heap.size, 1, none⟩ = some (.slice va vn vc) ∧ X.cell? ⟨wr.heap.size, 2, none⟩ = some (.int .i64 size) ∧ X.cell? ⟨wr.heap.size, 3, none⟩ = some (.int .i64 more)) ∧ Sev X w.heap.size 1 txn next (some ⟨b, o, none⟩) n1 c1 a2 n2 c2 a3 n3 c3 a4 n4 c4) := kept (fun X hX => by
     have hg := (Blk.new wr 277 #[.slice ka kn kc, .slice va vn vc, .int .i64 size, .int .i64 more]).below hX (by simp); have hb5 := HB.out.trans (((Below.refl _ wr).alloc (HSB.out _ HB.out) (.cells #[.slice ka kn kc, .slice va vn vc, .int .i64 size, .int .i64 more] 277)).trans (hX.mono (by have := HSB.out _ HB.out; simp; omega))); exact ⟨⟨hg.cell 0, hg.cell 1, hg.cell 2, hg.cell 3⟩, HSV.out _ hb5⟩)
    have HBF := fun X (hX : Below (wr.alloc (.cells #[.slice ka kn kc, .slice va vn vc, .int .i64 size, .int .i64 more] 277)).heap.size (wr.alloc (.cells #[.slice ka kn kc, .slice va vn vc, .int .i64 size, .int .i64 more] 277)) X) => kept (HBW.out X (HB.out.trans (((Below.refl _ wr).alloc (HSB.out _ HB.out) (.cells #[.slice ka kn kc, .slice va vn vc, .int .i64 size, .int .i64 more] 277)).trans (hX.mono (by have := HSB.out _ HB.out; simp; omega)))))
    have HBQ : Below (wr.alloc (.cells #[.slice ka kn kc, .slice va vn vc, .int .i64 size, .int .i64 more] 277)).heap.size (wr.alloc (.cells #[.slice ka kn kc, .slice va vn vc, .int .i64 size, .int .i64 more] 277)) (wr.alloc (.cells #[.slice ka kn kc, .slice va vn vc, .int .i64 size, .int .i64 more] 277)).drew := (Below.refl _ _).drew; have HBQ0 : Below (wr.alloc (.cells #[.slice ka kn kc, .slice va vn vc, .int .i64 size, .int .i64 more] 277)).heap.size (wr.alloc (.cells #[.slice ka kn kc, .slice va vn vc, .int .i64 size, .int .i64 more] 277)) (wr.alloc (.cells #[.slice ka kn kc, .slice va vn vc, .int .i64 size, .int .i64 more] 277)) := Below.refl _ _; have hok := (RdIt.ok hrd)
    simp only at hok; have HX : Hid (RdIt w ⟨ka, kn, kc, va, vn, vc, size, more⟩ (J[k]'hki)) := kept hrd; have HBAD := kept (fun (hf : itemOk (J[k]'hki) = false) => HRN.out (by rw [HKN.out]; exact ordU_bad hki hlt hf)); clear hrd hbw; by_cases h32 : 32 < kn
    · have HF := kept (HBAD.out (by rw [← hok, decide_eq_false (by omega)]; simp)); have hg32 : decide ((32 : Int) < (kn : Int)) = true := by rw [decide_eq_true_eq]; omega
      clear hok h32; go_wp2
      go_ret3
      exact .inr ⟨HF.out, rfl, (HBF _ HBQ0).out⟩
    have hg32 : decide ((32 : Int) < (kn : Int)) = false := by rw [decide_eq_false_iff_not]; omega
    by_cases hs0 : size < 0
    · have HF := kept (HBAD.out (by rw [← hok, decide_eq_false (p := 0 ≤ size) (by omega)]; simp)); have hg0 : decide (size < 0) = true := by rw [decide_eq_true_eq]; omega
      clear hok h32 hs0; go_wp2
      go_ret3
      exact .inr ⟨HF.out, rfl, (HBF _ HBQ0).out⟩
    have hg0 : decide (size < 0) = false := by rw [decide_eq_false_iff_not]; omega
    by_cases hs1 : 4096 < size
    · have HF := kept (HBAD.out (by rw [← hok, decide_eq_false (p := size ≤ 4096) (by omega)]; simp)); have hg1 : decide (4096 < size) = true := by rw [decide_eq_true_eq]; omega
      clear hok h32 hs0 hs1; go_wp2
      go_ret3
      exact .inr ⟨HF.out, rfl, (HBF _ HBQ0).out⟩
    have hg1 : decide (4096 < size) = false := by rw [decide_eq_false_iff_not]; omega
    obtain ⟨sz, hsz⟩ : ∃ sz : Nat, size = (sz : Int) := ⟨size.toNat, by omega⟩
    obtain ⟨q, hq⟩ : ∃ q : Nat, q = sz / 256 := ⟨_, rfl⟩
    obtain ⟨rm, hrm'⟩ : ∃ rm : Nat, rm = sz % 256 := ⟨_, rfl⟩
    have hq0 : q < 256 ∧ rm < 256 ∧ sz = q * 256 + rm := by omega
    have HQR := kept hq0; have hd1 : (size).tdiv 256 = (q : Int) := by rw [hsz, Int.tdiv_eq_ediv_of_nonneg (by omega)]; omega
    have hd2 : (size).tmod 256 = (rm : Int) := by rw [hsz, Int.tmod_eq_emod_of_nonneg (by omega)]; omega
    have hd3 : size / 256 = (q : Int) := by omega
    have hd4 : size % 256 = (rm : Int) := by omega
    have hd5 : IntKind.u8.wrap (q : Int) = (q : Int) := IntWalk.u8_in _ ⟨by omega, by omega⟩; have hd6 : IntKind.u8.wrap (rm : Int) = (rm : Int) := IntWalk.u8_in _ ⟨by omega, by omega⟩; have hd7 : IntKind.i64.wrap (q : Int) = (q : Int) := IntWalk.i64_in _ ⟨by omega, by omega⟩; have hd8 : (q : Int) % 256 = (q : Int) := by omega
    have hd9 : (rm : Int) % 256 = (rm : Int) := by omega
    have hw8 : IntKind.u8.wrap (kn : Int) = (kn : Int) := IntWalk.u8_in _ ⟨by omega, by omega⟩; have hw8' : (kn : Int) % 256 = (kn : Int) := by omega
    have HKL := kept (show kn ≤ 32 by omega); have HUL := kept (show u ≤ 99000 by have h2 := HUQ.out.2; have h3 := HN.out; omega); have hlen : (J[k]'hki).key.length = kn := HX.out.1.1; have hvlen : (J[k]'hki).val.length = vn := HX.out.2.1.1; have hsize : (J[k]'hki).size = size := HX.out.2.2.1; have hmore : (J[k]'hki).more = more := HX.out.2.2.2.1; have HVL := kept hvlen; by_cases hin : size ≤ 64
    · have hgi : decide (size ≤ 64) = true := by rw [decide_eq_true_eq]; exact hin
      rw [if_pos hin] at hok; by_cases hv : (vn : Int) = size
      rotate_left
      · have HF := kept (HBAD.out (by rw [← hok, decide_eq_false (p := (vn : Int) = size) hv]; simp)); have hg4 : ((vn : Int) != size) = true := by rw [bne_iff_ne]; exact hv
        clear hok h32 hs0 hs1 hin hv hd1 hd2 hd3 hd4 hd5 hd6 hd7 hd8 hd9 hw8 hw8' hsz hq hrm' hq0 hlen hvlen hsize hmore; go_wp2
        go_ret3
        exact .inr ⟨HF.out, rfl, (HBF _ HBQ0).out⟩
      have hg4 : ((vn : Int) != size) = false := by rw [hv]; simp
      by_cases hm : more = 0
      rotate_left
      · have HF := kept (HBAD.out (by rw [← hok, decide_eq_false hm]; simp)); have hg5 : (more != 0) = true := by rw [bne_iff_ne]; exact hm
        clear hok h32 hs0 hs1 hin hv hm hd1 hd2 hd3 hd4 hd5 hd6 hd7 hd8 hd9 hw8 hw8' hsz hq hrm' hq0 hlen hvlen hsize hmore; go_wp2
        go_ret3
        exact .inr ⟨HF.out, rfl, (HBF _ HBQ0).out⟩
      have hg5 : (more != 0) = false := by rw [hm]; rfl
      have hokt : itemOk (J[k]'hki) = true := by rw [← hok]; simp; omega
      have HVB := kept (show vn ≤ 64 by omega); have HEN := kept (show encTo encItem J k ++ (be kn 1 ++ be sz 2) ++ (J[k]'hki).key ++ (J[k]'hki).val = encTo encItem J (k + 1) from by
       rw [encTo_succ hki]; unfold encItem; rw [hlen, hsize, if_pos hin, hsz]; simp [List.append_assoc])
      have HUN : Hid ((encTo encItem J (k + 1)).length = u + 3 + kn + vn ∧ u + 3 + kn + vn ≤ 99 * (k + 1)) := kept (by
       have h2 := HUQ.out; have h3 := HKL.out; rw [← HEN.out]; simp only [List.length_append, be_length, hlen, hvlen]
       omega)
      clear hok h32 hs0 hs1 hin hv hm hsz hq hrm' hq0 hlen hvlen hsize hmore; have HRD := HX; cases k with
      | zero =>
        have HU2 : Hid (ordU itemOk cmpI J 1 = true) := kept (ordU_first hki hokt); generalize J[0]'hki = x at HRD HEN; clear hokt HX HBAD; rw [Nat.zero_mul, Nat.add_zero] at hc0 hc1 hc2 hc3; go_upto_region 12 with fail
        refine wp_region_held_drew (S := (fun W' => (W'.cell? ⟨wr.heap.size, 0, none⟩ = some (.slice ka kn kc) ∧ W'.cell? ⟨wr.heap.size, 1, none⟩ = some (.slice va vn vc) ∧ W'.cell? ⟨wr.heap.size, 2, none⟩ = some (.int .i64 size) ∧ W'.cell? ⟨wr.heap.size, 3, none⟩ = some (.int .i64 more)) ∧ Sev W' w.heap.size 1 txn next (some ⟨b, o, none⟩) n1 c1 a2 n2 c2 a3 n3 c3 a4 n4 c4)) (by kernel_rfl) ?_ (fun hHeld => ?_)
        · ((try dsimp only); (first | exact HE.out _ (Below.refl _ _) | exact HE.out _ (Below.refl _ _).drew))
        refine hT 0 (some 80) ?_; refine hT 1 (some 81) ?_; refine hT 2 (some 82) ?_; refine hU 3 (some 83) ?_; refine hU 4 (some 84) ?_; refine hU 5 (some 85) ?_; refine hU 6 (some 86) ?_; refine hU 7 (some 87) ?_; refine hU 8 (some 88) ?_; refine hU 9 (some 89) ?_; refine hU 10 (some 90) ?_; refine hU 11 (some 91) ?_; refine hU 12 (some 92) ?_; refine hU 13 (some 93) ?_; refine hT 14 (some 94) ?_; refine wpAnyH_done (by kernel_rfl) ?_ _; have hbx : Below wr.heap.size wr (wr.alloc (.cells #[.slice ka kn kc, .slice va vn vc, .int .i64 size, .int .i64 more] 277)).drew := ((Below.refl _ _).alloc (Nat.le_refl _) _).drew; have hbg : Below (wr.alloc (.cells #[.slice ka kn kc, .slice va vn vc, .int .i64 size, .int .i64 more] 277)).heap.size (wr.alloc (.cells #[.slice ka kn kc, .slice va vn vc, .int .i64 size, .int .i64 more] 277)) (wr.alloc (.cells #[.slice ka kn kc, .slice va vn vc, .int .i64 size, .int .i64 more] 277)).drew := (Below.refl _ _).drew; clear HBQ; generalize (wr.alloc (.cells #[.slice ka kn kc, .slice va vn vc, .int .i64 size, .int .i64 more] 277)).drew = X at hbx hbg ⊢; have HBX5 := kept hbx; have HO5 := kept (own_stays HO.out hbx); have HB5 := kept (HB.out.trans (hbx.mono (HSB.out _ HB.out))); have HG5 := kept ((Blk.new wr 277 #[.slice ka kn kc, .slice va vn vc, .int .i64 size, .int .i64 more]).below hbg (by simp)); obtain ⟨⟨k0, k1, k2, k3⟩, _⟩ := HE.out _ hbg; have HR5 := fun v0 v1 v2 e0 e1 e2 => kept (rd_u8s X kn sz q rm v0 v1 v2 (by have := HKL.out; omega) HQR.out.1 HQR.out.2.1 HQR.out.2.2 e0 e1 e2)
        have HA5 := fun o => kept (HB5.out.alloc (HSB.out _ HB5.out) o)
        have HOA5 := fun o => kept (own_stays HO5.out ((Below.refl _ X).alloc (Nat.le_refl _) o))
        have HGA5 := fun o => kept (HG5.out.alloc o)
        clear hbx hbg; go_wp2_with (first | (at_builtin; refine wpList_append_oth rfl (.tmp 95) (.tmp 108) 46 rfl (w.heap.size + 1) 5 rfl rfl Tryz.underlying46 u8info (HOA5 _).out (HR5 _ _ _ rfl rfl rfl).out (by have := HUL.out; omega) (HSB.out _ (HA5 _).out) (u + 3) (encTo encItem J 0 ++ (be kn 1 ++ be sz 2)) rfl rfl ?_; intro A6 c6' w6 hown6 hb6 hot6; have HO6 := kept hown6; have HB6 := kept ((HA5 _).out.trans hb6); have hg6 := hot6 _ _ _ (by decide) (HGA5 _).out; have k0 : w6.cell? ⟨wr.heap.size, 0, none⟩ = some (.slice ka kn kc) := hg6.cell 0; have HG6 := kept hg6; have HR6 := kept (HRD.out.1.below (HBW.out _ HB6.out)); clear hown6 hb6 hot6 hg6) | (at_builtin; refine wpList_append_oth rfl (.tmp 110) (.tmp 112) 46 rfl (w.heap.size + 1) 5 rfl rfl Tryz.underlying46 u8info HO6.out HR6.out (by have := HUL.out; have := HKL.out; omega) (HSB.out _ HB6.out) (u + 3 + kn) (encTo encItem J 0 ++ (be kn 1 ++ be sz 2) ++ x.key) rfl rfl ?_; intro A7 c7' w7 hown7 hb7 hot7; have HO7 := kept hown7; have HB7 := kept (HB6.out.trans hb7); have hg7 := hot7 _ _ _ (by decide) HG6.out; have k1 : w7.cell? ⟨wr.heap.size, 1, none⟩ = some (.slice va vn vc) := hg7.cell 1; have k3 : w7.cell? ⟨wr.heap.size, 3, none⟩ = some (.int .i64 more) := hg7.cell 3; have HR7 := kept (HRD.out.2.1.below (HBW.out _ HB7.out)); clear hown7 hb7 hot7 hg7) | (at_builtin; refine wpList_append_oth rfl (.tmp 115) (.tmp 117) 46 rfl (w.heap.size + 1) 5 rfl rfl Tryz.underlying46 u8info HO7.out HR7.out (by have := HUL.out; have := HKL.out; have := HVB.out; omega) (HSB.out _ HB7.out) (u + 3 + kn + vn) (encTo encItem J (0 + 1)) rfl HEN.out ?_; intro A9 c9' w9 hown9 hb9 hot9; have HO9 := kept hown9; have HB9 := kept (HB7.out.trans hb9); clear hown9 hb9 hot9))
        go_roundw
        case rel => exact ⟨0 + 1, u + 3 + kn + vn, A9, c9', by omega, by go_num, rfl, HUN, HO9, HB9, HU2⟩
        case measure => simp [intOf]; omega
      | succ k =>
        obtain ⟨b', o', M, e, hrm, g0, _, _, _⟩ := HK.out.at_ (k := k) (by omega); simp only [Option.some.injEq, Addr.mk.injEq, and_true] at e; obtain ⟨rfl, rfl⟩ := e; obtain ⟨ka', kn', kc', va', vn', vc', size', more'⟩ := M; simp only at g0
        replace g0 := cell_below (HBW.out _ HB.out) g0
        have hi3 : (0 : Int) ≤ (k : Int) := by omega
        have hi4 : (k : Int) < (n1 : Int) := by omega
        have hi5 : IntKind.i64.wrap (k : Int) = (k : Int) := IntWalk.i64_in _ ⟨by omega, by have := HN.out; omega⟩; have HEQ : Hid (∀ X, Below (wr.alloc (.cells #[.slice ka kn kc, .slice va vn vc, .int .i64 size, .int .i64 more] 277)).heap.size (wr.alloc (.cells #[.slice ka kn kc, .slice va vn vc, .int .i64 size, .int .i64 more] 277)) X → ((X.cell? ⟨wr.heap.size, 0, none⟩ = some (.slice ka kn kc) ∧ X.cell? ⟨wr.heap.size, 1, none⟩ = some (.slice va vn vc) ∧ X.cell? ⟨wr.heap.size, 2, none⟩ = some (.int .i64 size) ∧ X.cell? ⟨wr.heap.size, 3, none⟩ = some (.int .i64 more)) ∧ Sev X w.heap.size 1 txn next (some ⟨b, o, none⟩) n1 c1 a2 n2 c2 a3 n3 c3 a4 n4 c4) ∧ X.cell? ⟨b, o + k * 4, none⟩ = some (.slice ka' kn' kc')) := kept (fun X hX => ⟨HE.out X hX, cell_below (((Below.refl _ wr).alloc (Nat.le_refl _) (.cells #[.slice ka kn kc, .slice va vn vc, .int .i64 size, .int .i64 more] 277)).trans (hX.mono (by simp))) g0⟩); have hah := ahead_any ka' ka kn' kn kc' kc (J[k]'(by omega)).key (J[k + 1]'hki).key (wr.alloc (.cells #[.slice ka kn kc, .slice va vn vc, .int .i64 size, .int .i64 more] 277)).drew (hrm.1.below (HBF _ HBQ).out) (HX.out.1.below (HBF _ HBQ).out) hrm.2.2.2.2.1 HX.out.2.2.2.2.1; clear hrm; cases hao : ahead (J[k]'(by omega)).key (J[k + 1]'hki).key with
        | true =>
          have HU2 : Hid (ordU itemOk cmpI J (k + 1 + 1) = true) := kept (ordU_next hki HU.out hokt (ahead_lt hao)); rw [hao] at hah; have HAH := kept hah; generalize J[k + 1]'hki = x at HRD HEN; clear hokt HX hah hao HBAD; go_upto_region 12 with fail
          refine wp_region_held_drew (S := (fun W' => ((W'.cell? ⟨wr.heap.size, 0, none⟩ = some (.slice ka kn kc) ∧ W'.cell? ⟨wr.heap.size, 1, none⟩ = some (.slice va vn vc) ∧ W'.cell? ⟨wr.heap.size, 2, none⟩ = some (.int .i64 size) ∧ W'.cell? ⟨wr.heap.size, 3, none⟩ = some (.int .i64 more)) ∧ Sev W' w.heap.size 1 txn next (some ⟨b, o, none⟩) n1 c1 a2 n2 c2 a3 n3 c3 a4 n4 c4) ∧ W'.cell? ⟨b, o + k * 4, none⟩ = some (.slice ka' kn' kc'))) (by kernel_rfl) ?_ (fun hHeld => ?_)
          · ((try dsimp only); (first | exact HEQ.out _ (Below.refl _ _) | exact HEQ.out _ (Below.refl _ _).drew | exact HEQ.out _ HBG7.out))
          refine hT 0 (some 80) ?_; refine hT 1 (some 81) ?_; refine hT 2 (some 82) ?_; refine hT 3 (some 83) ?_; refine hT 4 (some 84) ?_; refine hT 5 (some 85) ?_; refine hT 6 (some 86) ?_; refine hT 7 (some 87) ?_; refine hT 8 (some 88) ?_; refine hT 9 (some 89) ?_; refine hT 10 (some 90) ?_; refine hT 11 (some 91) ?_; refine hR 12 (fun K hK => ?_); go_simp
          ((go_at_call 30; (with_reducible refine HAH.out.mono ?_); rintro e w7 ⟨rfl, hq⟩); have HBG7 : Hid (Below (wr.alloc (.cells #[.slice ka kn kc, .slice va vn vc, .int .i64 size, .int .i64 more] 277)).heap.size (wr.alloc (.cells #[.slice ka kn kc, .slice va vn vc, .int .i64 size, .int .i64 more] 277)) w7) := kept (by obtain ⟨q, e⟩ := hq.out; rw [e]; exact drewN_below (Below.refl _ _).drew q); clear hq)
          (try go_wp2_with fail); refine hK.out _ _ ?_ (fun hHeld => ?_)
          · ((try dsimp only); (first | exact HEQ.out _ (Below.refl _ _) | exact HEQ.out _ (Below.refl _ _).drew | exact HEQ.out _ HBG7.out))
          clear hK K; (try simp only [Act.put, hA, h0, h1]); refine hT 13 (some 93) ?_; refine hT 14 (some 94) ?_; refine wpAnyH_done (by kernel_rfl) ?_ _; have hbg := HBG7.out; have hbx : Below wr.heap.size wr w7 := ((Below.refl _ wr).alloc (Nat.le_refl _) (.cells #[.slice ka kn kc, .slice va vn vc, .int .i64 size, .int .i64 more] 277)).trans (hbg.mono (by simp)); generalize w7 = X at hbx hbg ⊢; have HBX5 := kept hbx; have HO5 := kept (own_stays HO.out hbx); have HB5 := kept (HB.out.trans (hbx.mono (HSB.out _ HB.out))); have HG5 := kept ((Blk.new wr 277 #[.slice ka kn kc, .slice va vn vc, .int .i64 size, .int .i64 more]).below hbg (by simp)); obtain ⟨⟨k0, k1, k2, k3⟩, _⟩ := HE.out _ hbg; have HR5 := fun v0 v1 v2 e0 e1 e2 => kept (rd_u8s X kn sz q rm v0 v1 v2 (by have := HKL.out; omega) HQR.out.1 HQR.out.2.1 HQR.out.2.2 e0 e1 e2)
          have HA5 := fun o => kept (HB5.out.alloc (HSB.out _ HB5.out) o)
          have HOA5 := fun o => kept (own_stays HO5.out ((Below.refl _ X).alloc (Nat.le_refl _) o))
          have HGA5 := fun o => kept (HG5.out.alloc o)
          clear hbx hbg; go_wp2_with (first | (at_builtin; refine wpList_append_oth rfl (.tmp 95) (.tmp 108) 46 rfl (w.heap.size + 1) 5 rfl rfl Tryz.underlying46 u8info (HOA5 _).out (HR5 _ _ _ rfl rfl rfl).out (by have := HUL.out; omega) (HSB.out _ (HA5 _).out) (u + 3) (encTo encItem J (k + 1) ++ (be kn 1 ++ be sz 2)) rfl rfl ?_; intro A6 c6' w6 hown6 hb6 hot6; have HO6 := kept hown6; have HB6 := kept ((HA5 _).out.trans hb6); have hg6 := hot6 _ _ _ (by decide) (HGA5 _).out; have k0 : w6.cell? ⟨wr.heap.size, 0, none⟩ = some (.slice ka kn kc) := hg6.cell 0; have HG6 := kept hg6; have HR6 := kept (HRD.out.1.below (HBW.out _ HB6.out)); clear hown6 hb6 hot6 hg6) | (at_builtin; refine wpList_append_oth rfl (.tmp 110) (.tmp 112) 46 rfl (w.heap.size + 1) 5 rfl rfl Tryz.underlying46 u8info HO6.out HR6.out (by have := HUL.out; have := HKL.out; omega) (HSB.out _ HB6.out) (u + 3 + kn) (encTo encItem J (k + 1) ++ (be kn 1 ++ be sz 2) ++ x.key) rfl rfl ?_; intro A7 c7' w7 hown7 hb7 hot7; have HO7 := kept hown7; have HB7 := kept (HB6.out.trans hb7); have hg7 := hot7 _ _ _ (by decide) HG6.out; have k1 : w7.cell? ⟨wr.heap.size, 1, none⟩ = some (.slice va vn vc) := hg7.cell 1; have k3 : w7.cell? ⟨wr.heap.size, 3, none⟩ = some (.int .i64 more) := hg7.cell 3; have HR7 := kept (HRD.out.2.1.below (HBW.out _ HB7.out)); clear hown7 hb7 hot7 hg7) | (at_builtin; refine wpList_append_oth rfl (.tmp 115) (.tmp 117) 46 rfl (w.heap.size + 1) 5 rfl rfl Tryz.underlying46 u8info HO7.out HR7.out (by have := HUL.out; have := HKL.out; have := HVB.out; omega) (HSB.out _ HB7.out) (u + 3 + kn + vn) (encTo encItem J ((k + 1) + 1)) rfl HEN.out ?_; intro A9 c9' w9 hown9 hb9 hot9; have HO9 := kept hown9; have HB9 := kept (HB7.out.trans hb9); clear hown9 hb9 hot9))
          go_roundw
          case rel => exact ⟨(k + 1) + 1, u + 3 + kn + vn, A9, c9', by omega, by go_num, rfl, HUN, HO9, HB9, HU2⟩
          case measure => simp [intOf]; omega
        | false =>
          have HF := kept (HRN.out (by rw [HKN.out]; exact ordU_back hki hlt (ahead_ge hao))); rw [hao] at hah; have HAH := kept hah; clear hokt HX hah hao HBAD; go_upto_region 12 with fail
          refine wp_region_held_drew (S := (fun W' => ((W'.cell? ⟨wr.heap.size, 0, none⟩ = some (.slice ka kn kc) ∧ W'.cell? ⟨wr.heap.size, 1, none⟩ = some (.slice va vn vc) ∧ W'.cell? ⟨wr.heap.size, 2, none⟩ = some (.int .i64 size) ∧ W'.cell? ⟨wr.heap.size, 3, none⟩ = some (.int .i64 more)) ∧ Sev W' w.heap.size 1 txn next (some ⟨b, o, none⟩) n1 c1 a2 n2 c2 a3 n3 c3 a4 n4 c4) ∧ W'.cell? ⟨b, o + k * 4, none⟩ = some (.slice ka' kn' kc'))) (by kernel_rfl) ?_ (fun hHeld => ?_)
          · ((try dsimp only); (first | exact HEQ.out _ (Below.refl _ _) | exact HEQ.out _ (Below.refl _ _).drew | exact HEQ.out _ HBG7.out))
          refine hT 0 (some 80) ?_; refine hT 1 (some 81) ?_; refine hT 2 (some 82) ?_; refine hT 3 (some 83) ?_; refine hT 4 (some 84) ?_; refine hT 5 (some 85) ?_; refine hT 6 (some 86) ?_; refine hT 7 (some 87) ?_; refine hT 8 (some 88) ?_; refine hT 9 (some 89) ?_; refine hT 10 (some 90) ?_; refine hT 11 (some 91) ?_; refine hR 12 (fun K hK => ?_); go_simp
          ((go_at_call 30; (with_reducible refine HAH.out.mono ?_); rintro e w7 ⟨rfl, hq⟩); have HBG7 : Hid (Below (wr.alloc (.cells #[.slice ka kn kc, .slice va vn vc, .int .i64 size, .int .i64 more] 277)).heap.size (wr.alloc (.cells #[.slice ka kn kc, .slice va vn vc, .int .i64 size, .int .i64 more] 277)) w7) := kept (by obtain ⟨q, e⟩ := hq.out; rw [e]; exact drewN_below (Below.refl _ _).drew q); clear hq)
          (try go_wp2_with fail); refine hK.out _ _ ?_ (fun hHeld => ?_)
          · ((try dsimp only); (first | exact HEQ.out _ (Below.refl _ _) | exact HEQ.out _ (Below.refl _ _).drew | exact HEQ.out _ HBG7.out))
          clear hK K; (try simp only [Act.put, hA, h0, h1]); refine hT 13 (some 93) ?_; refine hT 14 (some 94) ?_; refine wpAnyH_done (by kernel_rfl) ?_ _; go_wp2
          go_ret3
          exact .inr ⟨HF.out, rfl, (HBF _ HBG7.out).out⟩
    · have hgi : decide (size ≤ 64) = false := by rw [decide_eq_false_iff_not]; exact hin
      rw [if_neg hin] at hok; by_cases hv : vn = 0
      rotate_left
      · have HF := kept (HBAD.out (by rw [← hok, decide_eq_false hv]; simp)); have hg4 : ((vn : Int) != 0) = true := by rw [bne_iff_ne]; omega
        clear hok h32 hs0 hs1 hin hv hd1 hd2 hd3 hd4 hd5 hd6 hd7 hd8 hd9 hw8 hw8' hsz hq hrm' hq0 hlen hvlen hsize hmore; go_wp2
        go_ret3
        exact .inr ⟨HF.out, rfl, (HBF _ HBQ0).out⟩
      have hg4 : ((vn : Int) != 0) = false := by rw [hv]; rfl
      cases hpg : isPg more with
      | false =>
        have HF := kept (HBAD.out (by rw [← hok, hpg]; simp)); have HP := fun w => kept (refId_any more w false hpg)
        clear hok h32 hs0 hs1 hin hv hpg hd1 hd2 hd3 hd4 hd5 hd6 hd7 hd8 hd9 hw8 hw8' hsz hq hrm' hq0 hlen hvlen hsize hmore; go_wp2_with (first | (go_at_call 207; (with_reducible refine ((HP _).out).mono ?_); rintro e w' ⟨rfl, rfl⟩))
        go_ret3
        exact .inr ⟨HF.out, rfl, (HBF _ HBQ0).out⟩
      | true =>
        have hokt : itemOk (J[k]'hki) = true := by rw [← hok, hpg]; simp; omega
        have HP := fun w => kept (refId_any more w true hpg)
        have hpp := page_small' hpg; obtain ⟨pg, hpe, hp2⟩ : ∃ pg : Nat, more = (pg : Int) ∧ pg < 1024 := ⟨more.toNat, by omega, by omega⟩
        have HPU := fun w => kept (refPut4 pg w hp2)
        have hpw : IntKind.u64.wrap more = (pg : Int) := by rw [hpe]; exact IntWalk.u64_in _ ⟨by omega, by omega⟩
        have HEN := kept (show encTo encItem J k ++ (be kn 1 ++ be sz 2) ++ (J[k]'hki).key ++ be pg 4 = encTo encItem J (k + 1) from by
         rw [encTo_succ hki]; unfold encItem; rw [hlen, hsize, if_neg hin, hsz, hmore, hpe]; simp [List.append_assoc])
        have HUN : Hid ((encTo encItem J (k + 1)).length = u + 3 + kn + 4 ∧ u + 3 + kn + 4 ≤ 99 * (k + 1)) := kept (by
         have h2 := HUQ.out; have h3 := HKL.out; rw [← HEN.out]; simp only [List.length_append, be_length, hlen]
         omega)
        clear hok h32 hs0 hs1 hin hv hpg hpp hpe hsz hq hrm' hq0 hlen hvlen hsize hmore; have HRD := HX; cases k with
        | zero =>
          have HU2 : Hid (ordU itemOk cmpI J 1 = true) := kept (ordU_first hki hokt); generalize J[0]'hki = x at HRD HEN; clear hokt HX HBAD; rw [Nat.zero_mul, Nat.add_zero] at hc0 hc1 hc2 hc3; go_upto_region 12 with ((go_at_call 207; (with_reducible refine (HP _).out.mono ?_); rintro e w' ⟨rfl, rfl⟩))
          refine wp_region_held_drew (S := (fun W' => (W'.cell? ⟨wr.heap.size, 0, none⟩ = some (.slice ka kn kc) ∧ W'.cell? ⟨wr.heap.size, 1, none⟩ = some (.slice va vn vc) ∧ W'.cell? ⟨wr.heap.size, 2, none⟩ = some (.int .i64 size) ∧ W'.cell? ⟨wr.heap.size, 3, none⟩ = some (.int .i64 more)) ∧ Sev W' w.heap.size 1 txn next (some ⟨b, o, none⟩) n1 c1 a2 n2 c2 a3 n3 c3 a4 n4 c4)) (by kernel_rfl) ?_ (fun hHeld => ?_)
          · ((try dsimp only); (first | exact HE.out _ (Below.refl _ _) | exact HE.out _ (Below.refl _ _).drew))
          refine hT 0 (some 80) ?_; refine hT 1 (some 81) ?_; refine hT 2 (some 82) ?_; refine hU 3 (some 83) ?_; refine hU 4 (some 84) ?_; refine hU 5 (some 85) ?_; refine hU 6 (some 86) ?_; refine hU 7 (some 87) ?_; refine hU 8 (some 88) ?_; refine hU 9 (some 89) ?_; refine hU 10 (some 90) ?_; refine hU 11 (some 91) ?_; refine hU 12 (some 92) ?_; refine hU 13 (some 93) ?_; refine hT 14 (some 94) ?_; refine wpAnyH_done (by kernel_rfl) ?_ _; have hbx : Below wr.heap.size wr (wr.alloc (.cells #[.slice ka kn kc, .slice va vn vc, .int .i64 size, .int .i64 more] 277)).drew := ((Below.refl _ _).alloc (Nat.le_refl _) _).drew; have hbg : Below (wr.alloc (.cells #[.slice ka kn kc, .slice va vn vc, .int .i64 size, .int .i64 more] 277)).heap.size (wr.alloc (.cells #[.slice ka kn kc, .slice va vn vc, .int .i64 size, .int .i64 more] 277)) (wr.alloc (.cells #[.slice ka kn kc, .slice va vn vc, .int .i64 size, .int .i64 more] 277)).drew := (Below.refl _ _).drew; clear HBQ; generalize (wr.alloc (.cells #[.slice ka kn kc, .slice va vn vc, .int .i64 size, .int .i64 more] 277)).drew = X at hbx hbg ⊢; have HBX5 := kept hbx; have HO5 := kept (own_stays HO.out hbx); have HB5 := kept (HB.out.trans (hbx.mono (HSB.out _ HB.out))); have HG5 := kept ((Blk.new wr 277 #[.slice ka kn kc, .slice va vn vc, .int .i64 size, .int .i64 more]).below hbg (by simp)); obtain ⟨⟨k0, k1, k2, k3⟩, _⟩ := HE.out _ hbg; have HR5 := fun v0 v1 v2 e0 e1 e2 => kept (rd_u8s X kn sz q rm v0 v1 v2 (by have := HKL.out; omega) HQR.out.1 HQR.out.2.1 HQR.out.2.2 e0 e1 e2)
          have HA5 := fun o => kept (HB5.out.alloc (HSB.out _ HB5.out) o)
          have HOA5 := fun o => kept (own_stays HO5.out ((Below.refl _ X).alloc (Nat.le_refl _) o))
          have HGA5 := fun o => kept (HG5.out.alloc o)
          clear hbx hbg; go_wp2_with (first | (at_builtin; refine wpList_append_oth rfl (.tmp 95) (.tmp 108) 46 rfl (w.heap.size + 1) 5 rfl rfl Tryz.underlying46 u8info (HOA5 _).out (HR5 _ _ _ rfl rfl rfl).out (by have := HUL.out; omega) (HSB.out _ (HA5 _).out) (u + 3) (encTo encItem J 0 ++ (be kn 1 ++ be sz 2)) rfl rfl ?_; intro A6 c6' w6 hown6 hb6 hot6; have HO6 := kept hown6; have HB6 := kept ((HA5 _).out.trans hb6); have hg6 := hot6 _ _ _ (by decide) (HGA5 _).out; have k0 : w6.cell? ⟨wr.heap.size, 0, none⟩ = some (.slice ka kn kc) := hg6.cell 0; have HG6 := kept hg6; have HR6 := kept (HRD.out.1.below (HBW.out _ HB6.out)); clear hown6 hb6 hot6 hg6) | (at_builtin; refine wpList_append_oth rfl (.tmp 110) (.tmp 112) 46 rfl (w.heap.size + 1) 5 rfl rfl Tryz.underlying46 u8info HO6.out HR6.out (by have := HUL.out; have := HKL.out; omega) (HSB.out _ HB6.out) (u + 3 + kn) (encTo encItem J 0 ++ (be kn 1 ++ be sz 2) ++ x.key) rfl rfl ?_; intro A7 c7' w7 hown7 hb7 hot7; have HO7 := kept hown7; have HB7 := kept (HB6.out.trans hb7); have hg7 := hot7 _ _ _ (by decide) HG6.out; have k1 : w7.cell? ⟨wr.heap.size, 1, none⟩ = some (.slice va vn vc) := hg7.cell 1; have k3 : w7.cell? ⟨wr.heap.size, 3, none⟩ = some (.int .i64 more) := hg7.cell 3; have HPU7 := HPU w7; clear hown7 hb7 hot7 hg7) | (go_at_call 143; (with_reducible refine (HPU7.out).mono ?_); rintro e w8 ⟨A8, c8', rfl, hrd8, hb8⟩; have HO8 := kept (own_stays HO7.out hb8); have HR8 := kept hrd8; have HB8 := kept (HB7.out.trans (hb8.mono (HSB.out _ HB7.out))); clear hrd8 hb8) | (at_builtin; refine wpList_append_oth rfl (.tmp 119) (.tmp 123) 46 rfl (w.heap.size + 1) 5 rfl rfl Tryz.underlying46 u8info HO8.out HR8.out (by have := HUL.out; have := HKL.out; omega) (HSB.out _ HB8.out) (u + 3 + kn + 4) (encTo encItem J (0 + 1)) rfl HEN.out ?_; intro A9 c9' w9 hown9 hb9 hot9; have HO9 := kept hown9; have HB9 := kept (HB8.out.trans hb9); clear hown9 hb9 hot9))
          go_roundw
          case rel => exact ⟨0 + 1, u + 3 + kn + 4, A9, c9', by omega, by go_num, rfl, HUN, HO9, HB9, HU2⟩
          case measure => simp [intOf]; omega
        | succ k =>
          obtain ⟨b', o', M, e, hrm, g0, _, _, _⟩ := HK.out.at_ (k := k) (by omega); simp only [Option.some.injEq, Addr.mk.injEq, and_true] at e; obtain ⟨rfl, rfl⟩ := e; obtain ⟨ka', kn', kc', va', vn', vc', size', more'⟩ := M; simp only at g0
          replace g0 := cell_below (HBW.out _ HB.out) g0
          have hi3 : (0 : Int) ≤ (k : Int) := by omega
          have hi4 : (k : Int) < (n1 : Int) := by omega
          have hi5 : IntKind.i64.wrap (k : Int) = (k : Int) := IntWalk.i64_in _ ⟨by omega, by have := HN.out; omega⟩; have HEQ : Hid (∀ X, Below (wr.alloc (.cells #[.slice ka kn kc, .slice va vn vc, .int .i64 size, .int .i64 more] 277)).heap.size (wr.alloc (.cells #[.slice ka kn kc, .slice va vn vc, .int .i64 size, .int .i64 more] 277)) X → ((X.cell? ⟨wr.heap.size, 0, none⟩ = some (.slice ka kn kc) ∧ X.cell? ⟨wr.heap.size, 1, none⟩ = some (.slice va vn vc) ∧ X.cell? ⟨wr.heap.size, 2, none⟩ = some (.int .i64 size) ∧ X.cell? ⟨wr.heap.size, 3, none⟩ = some (.int .i64 more)) ∧ Sev X w.heap.size 1 txn next (some ⟨b, o, none⟩) n1 c1 a2 n2 c2 a3 n3 c3 a4 n4 c4) ∧ X.cell? ⟨b, o + k * 4, none⟩ = some (.slice ka' kn' kc')) := kept (fun X hX => ⟨HE.out X hX, cell_below (((Below.refl _ wr).alloc (Nat.le_refl _) (.cells #[.slice ka kn kc, .slice va vn vc, .int .i64 size, .int .i64 more] 277)).trans (hX.mono (by simp))) g0⟩); have hah := ahead_any ka' ka kn' kn kc' kc (J[k]'(by omega)).key (J[k + 1]'hki).key (wr.alloc (.cells #[.slice ka kn kc, .slice va vn vc, .int .i64 size, .int .i64 more] 277)).drew (hrm.1.below (HBF _ HBQ).out) (HX.out.1.below (HBF _ HBQ).out) hrm.2.2.2.2.1 HX.out.2.2.2.2.1; clear hrm; cases hao : ahead (J[k]'(by omega)).key (J[k + 1]'hki).key with
          | true =>
            have HU2 : Hid (ordU itemOk cmpI J (k + 1 + 1) = true) := kept (ordU_next hki HU.out hokt (ahead_lt hao)); rw [hao] at hah; have HAH := kept hah; generalize J[k + 1]'hki = x at HRD HEN; clear hokt HX hah hao HBAD; go_upto_region 12 with ((go_at_call 207; (with_reducible refine (HP _).out.mono ?_); rintro e w' ⟨rfl, rfl⟩))
            refine wp_region_held_drew (S := (fun W' => ((W'.cell? ⟨wr.heap.size, 0, none⟩ = some (.slice ka kn kc) ∧ W'.cell? ⟨wr.heap.size, 1, none⟩ = some (.slice va vn vc) ∧ W'.cell? ⟨wr.heap.size, 2, none⟩ = some (.int .i64 size) ∧ W'.cell? ⟨wr.heap.size, 3, none⟩ = some (.int .i64 more)) ∧ Sev W' w.heap.size 1 txn next (some ⟨b, o, none⟩) n1 c1 a2 n2 c2 a3 n3 c3 a4 n4 c4) ∧ W'.cell? ⟨b, o + k * 4, none⟩ = some (.slice ka' kn' kc'))) (by kernel_rfl) ?_ (fun hHeld => ?_)
            · ((try dsimp only); (first | exact HEQ.out _ (Below.refl _ _) | exact HEQ.out _ (Below.refl _ _).drew | exact HEQ.out _ HBG7.out))
            refine hT 0 (some 80) ?_; refine hT 1 (some 81) ?_; refine hT 2 (some 82) ?_; refine hT 3 (some 83) ?_; refine hT 4 (some 84) ?_; refine hT 5 (some 85) ?_; refine hT 6 (some 86) ?_; refine hT 7 (some 87) ?_; refine hT 8 (some 88) ?_; refine hT 9 (some 89) ?_; refine hT 10 (some 90) ?_; refine hT 11 (some 91) ?_; refine hR 12 (fun K hK => ?_); go_simp
            ((go_at_call 30; (with_reducible refine HAH.out.mono ?_); rintro e w7 ⟨rfl, hq⟩); have HBG7 : Hid (Below (wr.alloc (.cells #[.slice ka kn kc, .slice va vn vc, .int .i64 size, .int .i64 more] 277)).heap.size (wr.alloc (.cells #[.slice ka kn kc, .slice va vn vc, .int .i64 size, .int .i64 more] 277)) w7) := kept (by obtain ⟨q, e⟩ := hq.out; rw [e]; exact drewN_below (Below.refl _ _).drew q); clear hq)
            (try go_wp2_with fail); refine hK.out _ _ ?_ (fun hHeld => ?_)
            · ((try dsimp only); (first | exact HEQ.out _ (Below.refl _ _) | exact HEQ.out _ (Below.refl _ _).drew | exact HEQ.out _ HBG7.out))
            clear hK K; (try simp only [Act.put, hA, h0, h1]); refine hT 13 (some 93) ?_; refine hT 14 (some 94) ?_; refine wpAnyH_done (by kernel_rfl) ?_ _; have hbg := HBG7.out; have hbx : Below wr.heap.size wr w7 := ((Below.refl _ wr).alloc (Nat.le_refl _) (.cells #[.slice ka kn kc, .slice va vn vc, .int .i64 size, .int .i64 more] 277)).trans (hbg.mono (by simp)); generalize w7 = X at hbx hbg ⊢; have HBX5 := kept hbx; have HO5 := kept (own_stays HO.out hbx); have HB5 := kept (HB.out.trans (hbx.mono (HSB.out _ HB.out))); have HG5 := kept ((Blk.new wr 277 #[.slice ka kn kc, .slice va vn vc, .int .i64 size, .int .i64 more]).below hbg (by simp)); obtain ⟨⟨k0, k1, k2, k3⟩, _⟩ := HE.out _ hbg; have HR5 := fun v0 v1 v2 e0 e1 e2 => kept (rd_u8s X kn sz q rm v0 v1 v2 (by have := HKL.out; omega) HQR.out.1 HQR.out.2.1 HQR.out.2.2 e0 e1 e2)
            have HA5 := fun o => kept (HB5.out.alloc (HSB.out _ HB5.out) o)
            have HOA5 := fun o => kept (own_stays HO5.out ((Below.refl _ X).alloc (Nat.le_refl _) o))
            have HGA5 := fun o => kept (HG5.out.alloc o)
            clear hbx hbg; go_wp2_with (first | (at_builtin; refine wpList_append_oth rfl (.tmp 95) (.tmp 108) 46 rfl (w.heap.size + 1) 5 rfl rfl Tryz.underlying46 u8info (HOA5 _).out (HR5 _ _ _ rfl rfl rfl).out (by have := HUL.out; omega) (HSB.out _ (HA5 _).out) (u + 3) (encTo encItem J (k + 1) ++ (be kn 1 ++ be sz 2)) rfl rfl ?_; intro A6 c6' w6 hown6 hb6 hot6; have HO6 := kept hown6; have HB6 := kept ((HA5 _).out.trans hb6); have hg6 := hot6 _ _ _ (by decide) (HGA5 _).out; have k0 : w6.cell? ⟨wr.heap.size, 0, none⟩ = some (.slice ka kn kc) := hg6.cell 0; have HG6 := kept hg6; have HR6 := kept (HRD.out.1.below (HBW.out _ HB6.out)); clear hown6 hb6 hot6 hg6) | (at_builtin; refine wpList_append_oth rfl (.tmp 110) (.tmp 112) 46 rfl (w.heap.size + 1) 5 rfl rfl Tryz.underlying46 u8info HO6.out HR6.out (by have := HUL.out; have := HKL.out; omega) (HSB.out _ HB6.out) (u + 3 + kn) (encTo encItem J (k + 1) ++ (be kn 1 ++ be sz 2) ++ x.key) rfl rfl ?_; intro A7 c7' w7 hown7 hb7 hot7; have HO7 := kept hown7; have HB7 := kept (HB6.out.trans hb7); have hg7 := hot7 _ _ _ (by decide) HG6.out; have k1 : w7.cell? ⟨wr.heap.size, 1, none⟩ = some (.slice va vn vc) := hg7.cell 1; have k3 : w7.cell? ⟨wr.heap.size, 3, none⟩ = some (.int .i64 more) := hg7.cell 3; have HPU7 := HPU w7; clear hown7 hb7 hot7 hg7) | (go_at_call 143; (with_reducible refine (HPU7.out).mono ?_); rintro e w8 ⟨A8, c8', rfl, hrd8, hb8⟩; have HO8 := kept (own_stays HO7.out hb8); have HR8 := kept hrd8; have HB8 := kept (HB7.out.trans (hb8.mono (HSB.out _ HB7.out))); clear hrd8 hb8) | (at_builtin; refine wpList_append_oth rfl (.tmp 119) (.tmp 123) 46 rfl (w.heap.size + 1) 5 rfl rfl Tryz.underlying46 u8info HO8.out HR8.out (by have := HUL.out; have := HKL.out; omega) (HSB.out _ HB8.out) (u + 3 + kn + 4) (encTo encItem J ((k + 1) + 1)) rfl HEN.out ?_; intro A9 c9' w9 hown9 hb9 hot9; have HO9 := kept hown9; have HB9 := kept (HB8.out.trans hb9); clear hown9 hb9 hot9))
            go_roundw
            case rel => exact ⟨(k + 1) + 1, u + 3 + kn + 4, A9, c9', by omega, by go_num, rfl, HUN, HO9, HB9, HU2⟩
            case measure => simp [intOf]; omega
          | false =>
            have HF := kept (HRN.out (by rw [HKN.out]; exact ordU_back hki hlt (ahead_ge hao))); rw [hao] at hah; have HAH := kept hah; clear hokt HX hah hao HBAD; go_upto_region 12 with ((go_at_call 207; (with_reducible refine (HP _).out.mono ?_); rintro e w' ⟨rfl, rfl⟩))
            refine wp_region_held_drew (S := (fun W' => ((W'.cell? ⟨wr.heap.size, 0, none⟩ = some (.slice ka kn kc) ∧ W'.cell? ⟨wr.heap.size, 1, none⟩ = some (.slice va vn vc) ∧ W'.cell? ⟨wr.heap.size, 2, none⟩ = some (.int .i64 size) ∧ W'.cell? ⟨wr.heap.size, 3, none⟩ = some (.int .i64 more)) ∧ Sev W' w.heap.size 1 txn next (some ⟨b, o, none⟩) n1 c1 a2 n2 c2 a3 n3 c3 a4 n4 c4) ∧ W'.cell? ⟨b, o + k * 4, none⟩ = some (.slice ka' kn' kc'))) (by kernel_rfl) ?_ (fun hHeld => ?_)
            · ((try dsimp only); (first | exact HEQ.out _ (Below.refl _ _) | exact HEQ.out _ (Below.refl _ _).drew | exact HEQ.out _ HBG7.out))
            refine hT 0 (some 80) ?_; refine hT 1 (some 81) ?_; refine hT 2 (some 82) ?_; refine hT 3 (some 83) ?_; refine hT 4 (some 84) ?_; refine hT 5 (some 85) ?_; refine hT 6 (some 86) ?_; refine hT 7 (some 87) ?_; refine hT 8 (some 88) ?_; refine hT 9 (some 89) ?_; refine hT 10 (some 90) ?_; refine hT 11 (some 91) ?_; refine hR 12 (fun K hK => ?_); go_simp
            ((go_at_call 30; (with_reducible refine HAH.out.mono ?_); rintro e w7 ⟨rfl, hq⟩); have HBG7 : Hid (Below (wr.alloc (.cells #[.slice ka kn kc, .slice va vn vc, .int .i64 size, .int .i64 more] 277)).heap.size (wr.alloc (.cells #[.slice ka kn kc, .slice va vn vc, .int .i64 size, .int .i64 more] 277)) w7) := kept (by obtain ⟨q, e⟩ := hq.out; rw [e]; exact drewN_below (Below.refl _ _).drew q); clear hq)
            (try go_wp2_with fail); refine hK.out _ _ ?_ (fun hHeld => ?_)
            · ((try dsimp only); (first | exact HEQ.out _ (Below.refl _ _) | exact HEQ.out _ (Below.refl _ _).drew | exact HEQ.out _ HBG7.out))
            clear hK K; (try simp only [Act.put, hA, h0, h1]); refine hT 13 (some 93) ?_; refine hT 14 (some 94) ?_; refine wpAnyH_done (by kernel_rfl) ?_ _; go_wp2
            go_ret3
            exact .inr ⟨HF.out, rfl, (HBF _ HBG7.out).out⟩
  · obtain rfl : k = n1 := by omega
    have hrx := HR2.out (by rw [HKN.out]; exact HU.out); have hsum : (J.map itemUse).sum = u := by
     have h1 := flatten_len encItem_length J; have h2 := HUQ.out.1; rw [← h1, ← encTo_all, HKN.out, h2]
    rw [HKN.out, hsum] at hrx; have HRX := kept hrx; have HBX := kept (HBW.out _ HB.out); obtain ⟨z0, z1, z2, z3, z4, z5, z6⟩ := HSV.out _ HB.out; have hs2 := HS2.out; have hll := HLN.out; have hnx := HNX.out; clear hlt hk hrx hsum; go_upto_region 43 with fail
    by_cases t0 : k = 0
    · have HFF : Hid (rightB P = false) := kept (by rw [HRX.out, decide_eq_false (p := 0 < k) (by omega)]; simp); have g0 : ((k : Int) == 0) = true := by rw [beq_iff_eq]; omega
      clear hs2 hll hnx t0; go_wp2
      all_goals
       go_ret3
       exact .inr ⟨HFF.out, rfl, HBX.out⟩
    have g0 : ((k : Int) == 0) = false := by rw [beq_eq_false_iff_ne]; omega
    by_cases t1 : s4 = 0
    · have g1 : ((s4 : Int) != 0) = false := by rw [t1]; rfl
      by_cases t2 : 237 < u
      · have HFF : Hid (rightB P = false) := kept (by rw [HRX.out, decide_eq_false (p := u ≤ 237) (by omega)]; simp); have g2 : decide ((237 : Int) < (u : Int)) = true := by rw [decide_eq_true_eq]; omega
        clear hs2 hll hnx t0 t1 t2; go_wp2
        all_goals
         go_ret3
         exact .inr ⟨HFF.out, rfl, HBX.out⟩
      have g2 : decide ((237 : Int) < (u : Int)) = false := by rw [decide_eq_false_iff_not]; omega
      by_cases t3 : next < 0
      · have HFF : Hid (rightB P = false) := kept (by rw [HRX.out, decide_eq_false (p := P.next = 0) (by omega)]; simp); have g3 : decide (next < 0) = true := by rw [decide_eq_true_eq]; omega
        clear hs2 hll hnx t0 t1 t2 t3; go_wp2
        all_goals
         go_ret3
         exact .inr ⟨HFF.out, rfl, HBX.out⟩
      have g3 : decide (next < 0) = false := by rw [decide_eq_false_iff_not]; omega
      by_cases t4 : 1024 ≤ next
      · have HFF : Hid (rightB P = false) := kept (by rw [HRX.out, decide_eq_false (p := P.next = 0) (by omega)]; simp); have g4 : decide (1024 ≤ next) = true := by rw [decide_eq_true_eq]; omega
        clear hs2 hll hnx t0 t1 t2 t3 t4; go_wp2
        all_goals
         go_ret3
         exact .inr ⟨HFF.out, rfl, HBX.out⟩
      have g4 : decide (1024 ≤ next) = false := by rw [decide_eq_false_iff_not]; omega
      by_cases t5 : next = 0
      rotate_left
      · have HFF : Hid (rightB P = false) := kept (by rw [HRX.out, decide_eq_false (p := P.next = 0) (by omega)]; simp); have g5 : (next != 0) = true := by rw [bne_iff_ne]; exact t5
        clear hs2 hll hnx t0 t1 t2 t3 t4 t5; go_wp2
        all_goals
         go_ret3
         exact .inr ⟨HFF.out, rfl, HBX.out⟩
      have g5 : (next != 0) = false := by rw [t5]; rfl
      have HTT : Hid (rightB P = true) := kept (by rw [HRX.out]; simp only [Bool.and_eq_true, decide_eq_true_eq]; omega); have hus := HUS.out (by omega); have HU1 := kept hus; have HU2 : Hid (cntP P = k) := kept (by omega); have HUE : Hid (u = usedN P) := kept (by rw [← HUQ2.out, hus, HKN.out]; exact HUQ.out.1.symm); clear hs2 hll hnx t0 t1 t2 t3 t4 t5 hus; go_wp2
      all_goals
       go_ret3
       refine .inl ⟨HTT.out, ⟨A, c, by rw [HU2.out, ← HUE.out] <;> first | done | rfl | (simp <;> omega), ?_⟩, HBX.out⟩; rw [HU1.out, ← HUE.out, HKN.out]; exact own_mono HO.out (Nat.le_succ _)
    · have HFF : Hid (rightB P = false) := kept (by rw [HRX.out, decide_eq_false (p := P.kids.length + P.data.length + P.ids.length = 0) (by omega)]; simp); have g1 : ((s4 : Int) != 0) = true := by rw [bne_iff_ne]; omega
      clear hs2 hll hnx t0 t1; go_wp2
      all_goals
       go_ret3
       exact .inr ⟨HFF.out, rfl, HBX.out⟩
theorem roomX_any (l : Lay) (P : Pg) (w : World) (h : RdPg w l P) (h1 : l.kind ≠ 1) (h2 : l.kind ≠ 2) (h3 : l.kind ≠ 3) (h4 : l.kind ≠ 4) :
 Calls Tryz.prog 145 #[l.val] w (RoomAns P w) := by
 have HF : Hid (rightB P = false) := by
  show _ = _; have hk := h.kind; have : ownB P = false := by
   unfold ownB; rw [Bool.eq_false_iff]; intro hh; simp only [Bool.and_eq_true, Bool.or_eq_true, decide_eq_true_eq] at hh; omega
  unfold rightB; rw [this]; simp
 obtain ⟨kind, txn, next, a1, n1, c1, a2, n2, c2, a3, n3, c3, a4, n4, c4⟩ := l; simp only at h1 h2 h3 h4; have g1 : (kind == 1) = false := by rw [beq_eq_false_iff_ne]; exact h1
 have g2 : (kind == 2) = false := by rw [beq_eq_false_iff_ne]; exact h2
 have g3 : (kind == 3) = false := by rw [beq_eq_false_iff_ne]; exact h3
 have g4 : (kind == 4) = false := by rw [beq_eq_false_iff_ne]; exact h4
 clear h h1 h2 h3 h4; go_enter Tryz.func145, Tryz.ntmps145; go_wp2
 go_ret3
 exact .inr ⟨HF.out, rfl, ((Below.refl _ _).alloc (Nat.le_refl _) _).alloc (by simp) _⟩
theorem room3_any (l : Lay) (P : Pg) (w : World) (h : RdPg w l P) (hk : l.kind = 3) :
 Calls Tryz.prog 145 #[l.val] w (RoomAns P w) := by
 have hkP : P.kind = 3 := by rw [h.kind, hk]
 have hr3 := right3 hkP; have HD := kept h.data; have hL : cntP P = l.n1 + l.n2 + l.n3 + l.n4 ∧ P.items.length = l.n1 ∧ P.kids.length = l.n2 ∧ P.data.length = l.n3 ∧ P.ids.length = l.n4 := ⟨by unfold cntP; rw [h.n1, h.n2, h.n3, h.n4], h.n1, h.n2, h.n3, h.n4⟩
 rw [hL.2.2.2.1] at hr3; have HR3 := kept hr3; have HLN := kept hL; have HNX := kept h.next; have HUS := kept (fun (h0 : P.items.length + P.kids.length + P.ids.length = 0) => (show roomOf P = P.data ∧ usedN P = P.data.length from by
  have e1 : P.items = [] := List.eq_nil_of_length_eq_zero (by omega); have e2 : P.kids = [] := List.eq_nil_of_length_eq_zero (by omega); have e3 : P.ids = [] := List.eq_nil_of_length_eq_zero (by omega); refine ⟨?_, ?_⟩
  · unfold roomOf; rw [e1, e2, e3]; simp
  · unfold usedN; rw [e1, e2, e3]
    simp))
 have hb := And.intro h.b1 (And.intro h.b2 (And.intro h.b3 h.b4)); obtain ⟨s1, hs1⟩ : ∃ s : Nat, s = l.n1 + l.n2 := ⟨_, rfl⟩
 obtain ⟨s2, hs2⟩ : ∃ s : Nat, s = s1 + l.n3 := ⟨_, rfl⟩
 obtain ⟨s3, hs3⟩ : ∃ s : Nat, s = s2 + l.n4 := ⟨_, rfl⟩
 obtain ⟨s4, hs4⟩ : ∃ s : Nat, s = l.n1 + l.n2 + l.n4 := ⟨_, rfl⟩
 have hw1 : IntKind.i64.wrap ((l.n1 : Int) + (l.n2 : Int)) = (s1 : Int) := by rw [show (l.n1 : Int) + (l.n2 : Int) = (s1 : Int) by omega]; exact IntWalk.i64_in _ ⟨by omega, by omega⟩
 have hw2 : IntKind.i64.wrap ((s1 : Int) + (l.n3 : Int)) = (s2 : Int) := by rw [show (s1 : Int) + (l.n3 : Int) = (s2 : Int) by omega]; exact IntWalk.i64_in _ ⟨by omega, by omega⟩
 have hw3 : IntKind.i64.wrap ((s2 : Int) + (l.n4 : Int)) = (s3 : Int) := by rw [show (s2 : Int) + (l.n4 : Int) = (s3 : Int) by omega]; exact IntWalk.i64_in _ ⟨by omega, by omega⟩
 have hw4 : IntKind.i64.wrap ((s3 : Int) - (l.n3 : Int)) = (s4 : Int) := by rw [show (s3 : Int) - (l.n3 : Int) = (s4 : Int) by omega]; exact IntWalk.i64_in _ ⟨by omega, by omega⟩
 have HS2 := kept hs4; have HN := kept h.b3; obtain ⟨D, hD⟩ : ∃ D, P.data = D := ⟨_, rfl⟩
 rw [hD] at HD HUS; clear h hkP hL hs1 hs2 hs3 hs4 hb hD hr3; obtain ⟨kind, txn, next, a1, n1, c1, a2, n2, c2, a3, n3, c3, a4, n4, c4⟩ := l; simp only at hk hw1 hw2 hw3 hw4 HD HLN HNX HS2 HN HR3; subst hk; have HRO := kept (ro_new w 3 txn next a1 n1 c1 a2 n2 c2 a3 n3 c3 a4 n4 c4); go_enter Tryz.func145, Tryz.ntmps145; go_upto_region 43 with (at_builtin; refine wpList_append_is (xs := []) rfl (.tmp 189) (.tmp 191) 46 rfl (w.heap.size + 1) 5 rfl rfl Tryz.underlying46 u8info HRO.out.own (HD.out.below (HRO.out.below.trans (HRO.out.next_.mono (Nat.le_succ _)))) (by have := HN.out; omega) (by simp) n3 D (by omega) rfl ?_; intro A c w3 hown3 hb3; obtain ⟨z0, z1, z2, z3, z4, z5, z6⟩ := sev_old HRO.out.box (HRO.out.next_.trans hb3); have HO := kept hown3; have HBX := kept (HRO.out.below.trans ((HRO.out.next_.trans hb3).mono (Nat.le_succ _))); clear hown3 hb3)
 have hs2 := HS2.out; have hll := HLN.out; have hnx := HNX.out; by_cases t0 : n3 = 0
 · have HFF : Hid (rightB P = false) := kept (by rw [HR3.out, decide_eq_false (p := 0 < n3) (by omega)]; simp); have g0 : ((n3 : Int) == 0) = true := by rw [beq_iff_eq]; omega
   clear hs2 hll hnx t0; go_wp2
   all_goals
    go_ret3
    exact .inr ⟨HFF.out, rfl, HBX.out⟩
 have g0 : ((n3 : Int) == 0) = false := by rw [beq_eq_false_iff_ne]; omega
 by_cases t1 : s4 = 0
 · have g1 : ((s4 : Int) != 0) = false := by rw [t1]; rfl
   by_cases t2 : 237 < n3
   · have HFF : Hid (rightB P = false) := kept (by rw [HR3.out, decide_eq_false (p := n3 ≤ 237) (by omega)]; simp); have g2 : decide ((237 : Int) < (n3 : Int)) = true := by rw [decide_eq_true_eq]; omega
     clear hs2 hll hnx t0 t1 t2; go_wp2
     all_goals
      go_ret3
      exact .inr ⟨HFF.out, rfl, HBX.out⟩
   have g2 : decide ((237 : Int) < (n3 : Int)) = false := by rw [decide_eq_false_iff_not]; omega
   by_cases t3 : next < 0
   · have HFF : Hid (rightB P = false) := kept (by rw [HR3.out, decide_eq_false (p := 0 ≤ P.next) (by omega)]; simp); have g3 : decide (next < 0) = true := by rw [decide_eq_true_eq]; omega
     clear hs2 hll hnx t0 t1 t2 t3; go_wp2
     all_goals
      go_ret3
      exact .inr ⟨HFF.out, rfl, HBX.out⟩
   have g3 : decide (next < 0) = false := by rw [decide_eq_false_iff_not]; omega
   by_cases t4 : 1024 ≤ next
   · have HFF : Hid (rightB P = false) := kept (by rw [HR3.out, decide_eq_false (p := P.next < 1024) (by omega)]; simp); have g4 : decide (1024 ≤ next) = true := by rw [decide_eq_true_eq]; omega
     clear hs2 hll hnx t0 t1 t2 t3 t4; go_wp2
     all_goals
      go_ret3
      exact .inr ⟨HFF.out, rfl, HBX.out⟩
   have g4 : decide (1024 ≤ next) = false := by rw [decide_eq_false_iff_not]; omega
   have HTT : Hid (rightB P = true) := kept (by rw [HR3.out]; simp only [Bool.and_eq_true, decide_eq_true_eq]; omega); have hus := HUS.out (by omega); have HU1 := kept hus; have HDL : Hid (D.length = n3) := kept HD.out.1; have HU2 : Hid (cntP P = n3) := kept (by omega); clear hs2 hll hnx t0 t1 t2 t3 t4 hus; go_wp2
   all_goals
    go_ret3
    refine .inl ⟨HTT.out, ⟨A, c, by rw [HU1.out.2, HU2.out, HDL.out] <;> first | done | rfl | (simp <;> omega), ?_⟩, HBX.out⟩; rw [HU1.out.1, HU1.out.2, HDL.out]; exact own_mono HO.out (Nat.le_succ _)
 · have HFF : Hid (rightB P = false) := kept (by rw [HR3.out, decide_eq_false (p := P.items.length + P.kids.length + P.ids.length = 0) (by omega)]; simp); have g1 : ((s4 : Int) != 0) = true := by rw [bne_iff_ne]; omega
   clear hs2 hll hnx t0 t1; go_wp2
   all_goals
    go_ret3
    exact .inr ⟨HFF.out, rfl, HBX.out⟩
theorem room_any (l : Lay) (P : Pg) (w : World) (h : RdPg w l P) (m1 : l.n1 ≤ 1000) (m2 : l.n2 ≤ 1000) (m4 : l.n4 ≤ 1000) :
 Calls Tryz.prog 145 #[l.val] w (RoomAns P w) := by
 by_cases k1 : l.kind = 1
 · exact room1_any l P w h k1 m1
 by_cases k2 : l.kind = 2
 · exact room2_any l P w h k2 m2
 by_cases k3 : l.kind = 3
 · exact room3_any l P w h k3
 by_cases k4 : l.kind = 4
 · exact room4_any l P w h k4 m4
 exact roomX_any l P w h k1 k2 k3 k4
theorem refRight04_any (l : Lay) (P : Pg) (w : World) (h : RdPg w l P) (m1 : l.n1 ≤ 1000) (m2 : l.n2 ≤ 1000) (m4 : l.n4 ≤ 1000) :
 Calls Tryz.prog 150 #[l.val] w fun e w' => e = .returned (.bool (rightB P)) ∧ Below w.heap.size w w' := by
 have HM := fun o => kept (room_any l P (w.alloc o) (h.below ((Below.refl _ _).alloc (Nat.le_refl _) o)) m1 m2 m4)
 have HB := fun o => kept ((Below.refl w.heap.size w).alloc (Nat.le_refl _) o)
 clear h; obtain ⟨kind, txn, next, a1, n1, c1, a2, n2, c2, a3, n3, c3, a4, n4, c4⟩ := l; go_enter Tryz.func150, Tryz.ntmps150; go_wp2_with fail
 with_reducible refine (HM _).out.mono ?_
 rintro e w1 (⟨hr, ⟨A1, k1, rfl, _⟩, hb⟩ | ⟨hr, rfl, hb⟩)
 · have HR := kept hr; have HB1 := kept (below_to hb (HB _).out); clear hr hb; go_wp2; go_ret; exact ⟨ret_bool HR.out.symm, HB1.out⟩
 · have HR := kept hr; have HB1 := kept (below_to hb (HB _).out); clear hr hb; go_wp2; go_ret; exact ⟨ret_bool HR.out.symm, HB1.out⟩
section
variable {P : Program} {ops : Array Oper} {Q : Exit → Act → World → Prop} {md : Region.Mode} {S : World → Prop}
theorem hand_two {fuel : Nat} {listed : Array Bool} {a : Act} {w : World} (i j : Nat) (hr : Region.ready md ops listed = [i, j]) (hwi : (ops[i]?).map (fun o => Region.wanted o (yielded ops a.tmps)) = some true) (hwj : (ops[j]?).map (fun o => Region.wanted o (yielded ops a.tmps)) = some true)
 (hi : ∀ o, ops[i]? = some o → ∀ K' : Act → World → Prop, Shut (∀ a w, S w → (S w → wpAnyH P md ops Q S fuel (listed.setIfInBounds i true) a w) → K' a w) → Oper.wp P o a w K' Q)
 (hj : ∀ o, ops[j]? = some o → ∀ K' : Act → World → Prop, Shut (∀ a w, S w → (S w → wpAnyH P md ops Q S fuel (listed.setIfInBounds j true) a w) → K' a w) → Oper.wp P o a w K' Q) : wpAnyH P md ops Q S (fuel + 1) listed a w := by
 refine wpAnyH_ready (rs := [i, j]) hr (by simp) ?_; cases hoi : ops[i]? with
 | none => rw [hoi] at hwi; cases hwi
 | some o =>
   cases hoj : ops[j]? with
   | none => rw [hoj] at hwj; cases hwj
   | some o' =>
     rw [hoi] at hwi; rw [hoj] at hwj; refine AllReadyH.cons hoi (fun K' hK => ?_) (AllReadyH.cons hoj (fun K' hK => ?_) AllReadyH.nil)
     · rw [if_pos (Option.some.inj hwi)]; exact hi o hoi K' hK
     · rw [if_pos (Option.some.inj hwj)]; exact hj o' hoj K' hK
end
theorem sev_below {w W : World} {b : Nat} {kind txn next : Int} {a1 : Option Addr} {n1 c1 : Nat} {a2 : Option Addr} {n2 c2 : Nat} {a3 : Option Addr} {n3 c3 : Nat} {a4 : Option Addr} {n4 c4 : Nat} (h : Sev w b kind txn next a1 n1 c1 a2 n2 c2 a3 n3 c3 a4 n4 c4) (hb : Below w.heap.size w W) : Sev W b kind txn next a1 n1 c1 a2 n2 c2 a3 n3 c3 a4 n4 c4 :=
 ⟨cell_below hb h.1, cell_below hb h.2.1, cell_below hb h.2.2.1, cell_below hb h.2.2.2.1, cell_below hb h.2.2.2.2.1, cell_below hb h.2.2.2.2.2.1, cell_below hb h.2.2.2.2.2.2⟩
theorem world_named {K : Act → World → Prop} {a : Act} {w : World} (h : ∀ W, W = w → K a W) : K a w := h w rfl
theorem wp_append_is {P : Program} {w : World} {o : Oper} {a : Act} {K : Act → World → Prop} {Q : Exit → Act → World → Prop} (s x : Operand) (t : TypeId)
 (ho : o.op = .call { callee := .builtin .append, args := #[s, x], argTypes := #[t, t] })
 (base : Nat) (e : TypeId) {n : Nat} {xs : List UInt8} {v : Value} {A : Option Addr} {m c : Nat} {ys : List UInt8} (hs : a.eval s = v) (hx : a.eval x = .slice A m c)
 (ht : P.underlying t = some (.slice e)) (hinfo : (P.info? e).map (fun i => (i.zero, i.size, i.bytes)) = some (some (.int .u8 0), 1, 1)) (hown : w.ownsRow base e 1 v n (cellsOf xs)) (hr : Rd w A m ys)
 (hm : n + m ≤ 140737488355328) (hbase : base ≤ w.heap.size) (tot : Nat) (zs : List UInt8) (htot : n + m = tot) (hz : xs ++ ys = zs)
 (h : ∀ A' c' w', w'.ownsRow base e 1 (.slice A' tot c') tot (cellsOf zs) → Below base w w' → K (a.put o.dst (.slice A' tot c')) w') : o.wp P a w K Q := by
 subst htot hz; exact wp_append_rd s x t ho base e hs hx ht hinfo hown hr hm hbase h
theorem own_byte (W X : World) (n base : Nat) (v : Value) (hn : n < 256) (hv : v = .int .u8 (n : Int)) (e : W = X.alloc (.cells #[v] 5)) (hb : base ≤ X.heap.size) : W.ownsRow base 5 1 (.slice (some ⟨X.heap.size, 0, none⟩) 1 1) 1 (cellsOf (be n 1)) := by
 subst e hv; have h := Blk.new X 5 #[.int .u8 (n : Int)]; have e1 : be n 1 = [UInt8.ofNat n] := by rw [be_cons]; simp [be]
 rw [e1]; refine Blk.own (xs := [UInt8.ofNat n]) ?_ hb rfl (by unfold maxLen; omega); have e2 : cellsOf [UInt8.ofNat n] = [Value.int .u8 (n : Int)] := by
  simp [cellsOf, byteV]; omega
 rw [e2]; exact h
theorem refPut8' (m : Nat) (w : World) (hm : m < 18446744073709551616) :
 Calls Tryz.prog 143 #[.int .u64 (m : Int), .int .i64 8] w fun e w' => ∃ A c, e = .returned (.slice A 8 c) ∧ Rd w' A 8 (be m 8) ∧ Below w.heap.size w w' := refPut_ok m 8 w hm (by omega)
theorem refPut2' (m : Nat) (w : World) (hm : m < 65536) :
 Calls Tryz.prog 143 #[.int .u64 (m : Int), .int .i64 2] w fun e w' => ∃ A c, e = .returned (.slice A 2 c) ∧ Rd w' A 2 (be m 2) ∧ Below w.heap.size w w' := refPut_ok m 2 w (by omega) (by omega)
theorem refSeal_252' (A : Option Addr) (c : Nat) (xs : List UInt8) (w : World) (h : Rd w A 252 xs) :
 Calls Tryz.prog 144 #[.slice A 252 c] w fun e w' => ∃ A' c', e = .returned (.slice A' 256 c') ∧ w'.ownsRow w.heap.size 5 1 (.slice A' 256 c') 256 (cellsOf (sealed xs)) ∧ Below w.heap.size w w' := refSeal_any A 252 c xs w h (by omega)
theorem rd_nought (W : World) : Rd (W.alloc (.cells #[.int .u8 0] 5)) (some ⟨W.heap.size, 0, none⟩) 1 [0] := Rd.marked W 5 [0] (0, 0)
theorem noughts_next (xs : List UInt8) (m k : Nat) (h : m ≤ k) : xs ++ List.replicate (k - m) 0 ++ [0] = xs ++ List.replicate (k + 1 - m) 0 := by
 rw [show k + 1 - m = (k - m) + 1 by omega, List.replicate_succ', List.append_assoc]
def lenO : Value → Nat
 | .slice _ n _ => n
 | _ => 0
theorem refEncode04_any (l : Lay) (P : Pg) (w : World) (h : RdPg w l P) (hR : rightB P = true) (m1 : l.n1 ≤ 1000) (m2 : l.n2 ≤ 1000) (m4 : l.n4 ≤ 1000) :
 Calls Tryz.prog 86 #[l.val] w fun e w' => ∃ A c, e = .returned (.slice A 256 c) ∧ w'.ownsRow w.heap.size 5 1 (.slice A 256 c) 256 (cellsOf (sealed (bodyOf P))) ∧ Below w.heap.size w w' := by
 have HM := fun o => kept (room_any l P (w.alloc o) (h.below ((Below.refl _ _).alloc (Nat.le_refl _) o)) m1 m2 m4)
 obtain ⟨r1, r2, r3, r4⟩ := right_parts hR; obtain ⟨k1, k4⟩ := own_kind r1; obtain ⟨x0, x1⟩ := next_range r2; have hcnt := cntP_le r4; obtain ⟨kd, hkd⟩ : ∃ kd : Nat, l.kind = (kd : Int) ∧ kd ≤ 4 := ⟨l.kind.toNat, by have := h.kind; omega, by have := h.kind; omega⟩
 obtain ⟨tx, htx⟩ : ∃ tx : Nat, l.txn = (tx : Int) ∧ tx < 18446744073709551616 := ⟨l.txn.toNat, by have := h.txn; have := h.t0; omega, by have := h.txn; have := h.t1; omega⟩
 obtain ⟨nx, hnx⟩ : ∃ nx : Nat, l.next = (nx : Int) ∧ nx < 1024 := ⟨l.next.toNat, by have := h.next; omega, by have := h.next; omega⟩
 obtain ⟨hkd1, hkd2⟩ := hkd; obtain ⟨htx1, htx2⟩ := htx; obtain ⟨hnx1, hnx2⟩ := hnx; have HENC : Hid (be kd 1 ++ be tx 8 ++ be nx 4 ++ be (cntP P) 2 ++ roomOf P = encPg P) := kept (by
  unfold encPg; rw [h.kind, h.txn, h.next, hkd1, htx1, hnx1]
  rfl)
 have HEL : Hid ((encPg P).length = 15 + usedN P) := kept (encPg_length P); have HUB := kept r4; have HPD : Hid (encPg P ++ List.replicate (252 - (15 + usedN P)) 0 = bodyOf P) := kept (by unfold bodyOf pad; rw [encPg_length]); have HCN := kept hcnt; have HP8 := fun w => kept (refPut8' tx w htx2)
 have HP4 := fun w => kept (refPut4 nx w hnx2)
 have HP2 := fun w => kept (refPut2' (cntP P) w (by omega))
 have HBX := fun o => kept ((Below.refl w.heap.size w).alloc (Nat.le_refl _) o)
 have hwk : IntKind.u8.wrap (kd : Int) = (kd : Int) := IntWalk.u8_in _ ⟨by omega, by omega⟩; have hwk' : (kd : Int) % 256 = (kd : Int) := by omega
 have hwn : IntKind.u64.wrap (nx : Int) = (nx : Int) := IntWalk.u64_in _ ⟨by omega, by omega⟩; have HKD := kept (show kd < 256 by omega); obtain ⟨n, hn⟩ : ∃ n, usedN P = n := ⟨_, rfl⟩
 obtain ⟨cn, hcn⟩ : ∃ n, cntP P = n := ⟨_, rfl⟩
 obtain ⟨R, hRo⟩ : ∃ R, roomOf P = R := ⟨_, rfl⟩
 rw [hn] at HEL HUB HPD; rw [hcn] at HENC HCN HP2; rw [hRo] at HENC; have hwc : IntKind.u64.wrap (cn : Int) = (cn : Int) := IntWalk.u64_in _ ⟨by omega, by have := HCN.out; omega⟩; have HRA : ∀ W e w', RoomAns P W e w' → (∃ A c, e = .returned (.tuple #[.slice A n c, .int .i64 (cn : Int), .bool true]) ∧ Hid (Rd w' A n R)) ∧ Below W.heap.size W w' := by
  rintro W e w' (⟨_, ⟨A, c, he, ho⟩, hb⟩ | ⟨hf, _⟩)
  · rw [hn, hcn] at he; rw [hn, hRo] at ho; exact ⟨⟨A, c, he, kept (Rd.of_own ho)⟩, hb⟩
  · rw [hR] at hf; cases hf
 have HRAN := kept HRA; have HSV := kept (fun X hX => sev_box w kd tx nx l.a1 l.n1 l.c1 l.a2 l.n2 l.c2 l.a3 l.n3 l.c3 l.a4 l.n4 l.c4 (t := 197) (X := X) hX); clear h hR r1 r2 r3 r4 k1 k4 x0 x1 hcnt hn hcn hRo HRA; obtain ⟨kind, txn, next, a1, n1, c1, a2, n2, c2, a3, n3, c3, a4, n4, c4⟩ := l; simp only at hkd1 htx1 hnx1 HSV; subst hkd1 htx1 hnx1; go_enter Tryz.func86, Tryz.ntmps86; go_wp2_with fail
 with_reducible refine (HM _).out.mono ?_
 intro e w5 hra; obtain ⟨⟨A5, k5, rfl, HR5⟩, hb⟩ := HRAN.out _ _ _ hra; have HB5 := kept (below_to hb (HBX _).out); have HS5 := kept (HSV.out _ hb); clear hra hb HM; go_upto_region 2 with fail
 go_cut [6] (fun s6 wx => ∃ A c, s6 = .slice A 9 c ∧ Hid (wx.ownsRow w5.heap.size 5 1 (.slice A 9 c) 9 (cellsOf (be kd 1 ++ be tx 8))) ∧ Hid (Below w5.heap.size w5 wx))
 case first =>
  refine wp_region_held_drew (S := fun W' => Sev W' w.heap.size (kd : Int) (tx : Int) (nx : Int) a1 n1 c1 a2 n2 c2 a3 n3 c3 a4 n4 c4) (by kernel_rfl) ?_ (fun hHeld => ?_)
  · ((try dsimp only); exact sev_below HS5.out (Below.refl _ _).drew)
  refine hT 0 (some 13) ?_; refine hT 1 (some 14) ?_; refine hT 2 (some 15) ?_; refine hT 4 (some 17) ?_; refine hT 5 (some 18) ?_; refine hV 3 6 (fun K hK => ?_) (fun K hK => ?_)
  · skip; go_simp; refine world_named (fun W6 hW => ?_); have HOB := kept (own_byte W6 w5.drew kd w5.heap.size _ HKD.out rfl hW (Nat.le_refl _)); have HB6 : Hid (Below w5.heap.size w5 W6) := kept (by rw [hW]; exact ((Below.refl _ _).drew.alloc (Nat.le_refl _) _)); clear hW; refine hK.out _ _ ?_ (fun hHeld => ?_)
    · ((try dsimp only); exact sev_below HS5.out HB6.out)
    clear hK K; (try simp only [Act.put, hA, h0, h1]); refine hR 6 (fun K hK => ?_); go_simp; go_at_call 143; with_reducible refine (HP8 _).out.mono ?_
    rintro e w7 ⟨A7, k7, rfl, hrd, hb⟩; have HOW := kept (own_stays HOB.out hb); have HRW := kept hrd; have HBW := kept (HB6.out.trans (hb.mono HB6.out.size)); clear hrd hb; (try go_wp2_with fail); refine hK.out _ _ ?_ (fun hHeld => ?_)
    · ((try dsimp only); exact sev_below HS5.out HBW.out)
    clear hK K; (try simp only [Act.put, hA, h0, h1]); refine hR 7 (fun K hK => ?_); refine wp_append_is (.tmp 16) (.tmp 19) 46 rfl w5.heap.size 5 rfl rfl Tryz.underlying46 u8info HOW.out HRW.out (by omega) HBW.out.size 9 (be kd 1 ++ be tx 8) rfl rfl ?_; intro A9 k9 w9 hown9 hb9; have HO9 := kept hown9; have HB9 := kept (HBW.out.trans hb9); clear hown9 hb9; refine hK.out _ _ ?_ (fun hHeld => ?_)
    · ((try dsimp only); exact sev_below HS5.out HB9.out)
    clear hK K; (try simp only [Act.put, hA, h0, h1]); refine hT 8 (some 6) ?_; refine wpAnyH_done (by kernel_rfl) ?_ _; go_wp2_with fail
    go_meet
    exact ⟨_, _, rfl, HO9, HB9⟩
  · skip; go_simp; go_at_call 143; with_reducible refine (HP8 _).out.mono ?_
    rintro e w7 ⟨A7, k7, rfl, hrd, hb⟩; have HR7 := kept hrd; have HB7 : Hid (Below w5.heap.size w5 w7) := kept ((Below.refl _ _).drew.trans hb); clear hrd hb; (try go_wp2_with fail); refine hK.out _ _ ?_ (fun hHeld => ?_)
    · ((try dsimp only); exact sev_below HS5.out HB7.out)
    clear hK K; (try simp only [Act.put, hA, h0, h1]); refine hR 3 (fun K hK => ?_); go_simp; refine world_named (fun W6 hW => ?_); have HOW := kept (own_byte W6 w7 kd w5.heap.size _ HKD.out rfl hW HB7.out.size); have HBW : Hid (Below w5.heap.size w5 W6) := kept (by rw [hW]; exact HB7.out.alloc HB7.out.size _); have HRW : Hid (Rd W6 A7 8 (be tx 8)) := kept (by rw [hW]; exact HR7.out.alloc _); clear hW; refine hK.out _ _ ?_ (fun hHeld => ?_)
    · ((try dsimp only); exact sev_below HS5.out HBW.out)
    clear hK K; (try simp only [Act.put, hA, h0, h1]); refine hR 7 (fun K hK => ?_); refine wp_append_is (.tmp 16) (.tmp 19) 46 rfl w5.heap.size 5 rfl rfl Tryz.underlying46 u8info HOW.out HRW.out (by omega) HBW.out.size 9 (be kd 1 ++ be tx 8) rfl rfl ?_; intro A9 k9 w9 hown9 hb9; have HO9 := kept hown9; have HB9 := kept (HBW.out.trans hb9); clear hown9 hb9; refine hK.out _ _ ?_ (fun hHeld => ?_)
    · ((try dsimp only); exact sev_below HS5.out HB9.out)
    clear hK K; (try simp only [Act.put, hA, h0, h1]); refine hT 8 (some 6) ?_; refine wpAnyH_done (by kernel_rfl) ?_ _; go_wp2_with fail
    go_meet
    exact ⟨_, _, rfl, HO9, HB9⟩
 case rest =>
 obtain ⟨A6, k6, rfl, HO6, HB6⟩ := hcut; obtain ⟨z0, z1, z2, z3, z4, z5, z6⟩ := sev_below HS5.out HB6.out; have HS6 := kept (HB6.out.size); go_wp2_with fail
 with_reducible refine (HP4 _).out.mono ?_
 rintro e w7 ⟨A7, k7, rfl, hrd, hb⟩; have HO7 := kept (own_stays HO6.out hb); have HR7 := kept hrd; have HB7 := kept (HB6.out.trans (hb.mono HS6.out)); clear hrd hb z0 z1 z2 z3 z4 z5 z6; go_wp2_with (first | (at_builtin; refine wpList_append_is rfl (.tmp 21) (.tmp 25) 46 rfl w5.heap.size 5 rfl rfl Tryz.underlying46 u8info HO7.out HR7.out (by omega) HB7.out.size 13 (be kd 1 ++ be tx 8 ++ be nx 4) rfl rfl ?_; intro A8 k8 w8 hown8 hb8; have HO8 := kept hown8; have HB8 := kept (HB7.out.trans hb8); have HP28 := HP2 w8; clear hown8 hb8) | (go_at_call 143; (with_reducible refine (HP28.out).mono ?_); rintro e w9 ⟨A9, k9, rfl, hrd, hb⟩; have HO9 := kept (own_stays HO8.out hb); have HR9 := kept hrd; have HB9 := kept (HB8.out.trans (hb.mono HB8.out.size)); clear hrd hb) | (at_builtin; refine wpList_append_is rfl (.tmp 27) (.tmp 30) 46 rfl w5.heap.size 5 rfl rfl Tryz.underlying46 u8info HO9.out HR9.out (by omega) HB9.out.size 15 (be kd 1 ++ be tx 8 ++ be nx 4 ++ be cn 2) rfl rfl ?_; intro A10 k10 w10 hown10 hb10; have HO10 := kept hown10; have HB10 := kept (HB9.out.trans hb10); have HR10 := kept (HR5.out.below HB10.out); clear hown10 hb10) | (at_builtin; refine wpList_append_is rfl (.tmp 32) (.tmp 33) 46 rfl w5.heap.size 5 rfl rfl Tryz.underlying46 u8info HO10.out HR10.out (by have := HUB.out; omega) HB10.out.size (15 + n) (encPg P) rfl HENC.out ?_; intro A11 k11 w11 hown11 hb11; have HO11 := kept hown11; have HB11 := kept (HB10.out.trans hb11); clear hown11 hb11))
 have hub := HUB.out; have HO12 : Hid (w11.ownsRow w5.heap.size 5 1 (.slice A11 (15 + n) k11) (15 + n) (cellsOf (encPg P ++ List.replicate (15 + n - (15 + n)) 0))) := kept (by rw [Nat.sub_self]; simpa using HO11.out); go_loopw [6] (fun ob wr => ∃ (k : Nat) (A : Option Addr) (c : Nat), 15 + n ≤ k ∧ k ≤ 252 ∧ ob = .slice A k c ∧ Hid (wr.ownsRow w5.heap.size 5 1 (.slice A k c) k (cellsOf (encPg P ++ List.replicate (k - (15 + n)) 0))) ∧ Hid (Below w5.heap.size w5 wr)) (fun ob _ => 252 - lenO ob)
 case atStart => exact ⟨15 + n, A11, k11, by omega, by omega, rfl, HO12, HB11⟩
 case round =>
  obtain ⟨k, A, c, hk, hk2, rfl, HO, HB⟩ := hrel; by_cases hlt : k < 252
  · have HZN := kept (noughts_next (encPg P) (15 + n) k hk); have HOA := fun o => kept (own_stays HO.out ((Below.refl _ wr).alloc (Nat.le_refl _) o))
    have HBA := fun o => kept (HB.out.alloc HB.out.size o)
    have HRZ := kept (rd_nought wr); go_wp2_with (first | (at_builtin; refine wpList_append_is rfl (.tmp 38) (.tmp 39) 46 rfl w5.heap.size 5 rfl rfl Tryz.underlying46 u8info (HOA _).out HRZ.out (by omega) (HBA _).out.size (k + 1) (encPg P ++ List.replicate (k + 1 - (15 + n)) 0) rfl HZN.out ?_; intro A12 k12 w12 hown12 hb12; have HO13 := kept hown12; have HB13 := kept ((HBA _).out.trans hb12); clear hown12 hb12))
    go_roundw
    case rel => exact ⟨k + 1, A12, k12, by omega, by omega, rfl, HO13, HB13⟩
    case measure => simp [lenO]; omega
  · obtain rfl : k = 252 := by omega
    have hob := HO.out; rw [HPD.out] at hob; have HSL := kept (refSeal_252' A c _ wr (Rd.of_own hob)); have HBW := kept (HB5.out.trans (HB.out.mono HB5.out.size)); clear hob; go_wp2_with (first | (go_at_call 144; (with_reducible refine (HSL.out).mono ?_); rintro e w13 ⟨A13, k13, rfl, hown13, hb13⟩; have HO14 := kept (own_mono hown13 HBW.out.size); have HB14 := kept (below_to hb13 HBW.out); clear hown13 hb13))
    go_ret; exact ⟨A13, k13, rfl, HO14.out, HB14.out⟩
end Go.Proofs.YtcapcobkildmcaaGreatDoor
end
