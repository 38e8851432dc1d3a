/- De1 De2 De3 De4 -/
import Derived.Test.YtcapcobkildmcaaGreatDoorBDe0
import Derived.Deep.CutBlock
section
namespace Go.Proofs.YtcapcobkildmcaaGreatDoor
open Go.ChangeShapes Go.WideShapes Go.ChangeAt Go.RowKit
set_option linter.unusedVariables false
set_option linter.unusedSimpArgs false
set_option maxRecDepth 100000
set_option maxHeartbeats 16000000
attribute [local go_sem ↓] Go.wp_at_zero Go.wp_at_succ
theorem refDecode_items (A : Option Addr) (c : Nat) (xs : List UInt8) (w : World) (hr : Rd w A 256 xs) (hc : 256 ≤ c) (hw : num (xs.take 4) 0 = csum (xs.drop 4)) (hk : (rnum (xs.drop 4) 1 (0, 0)).1 = 1) :
 Calls Tryz.prog 94 #[.slice A 256 c] w (DecAns w xs) := by
 have HO := fun o => kept (open_good4 A c xs (w.alloc o) (hr.alloc o) hc hw)
 have hyl : (xs.drop 4).length = 252 := by rw [List.length_drop, hr.1]
 have HR := kept hr; have HSI : Hid (∀ zs, (sealed zs = xs) ↔ (zs = xs.drop 4)) := kept (fun zs => ⟨fun e => by rw [← e, sealed_drop], fun e => by rw [e]; exact (sealed_iff xs (by have := hr.1; omega)).2 hw⟩); have HPG : Hid (refpage (xs.drop 4) (0, 0) = refpage (xs.drop 4) (0, 0)) := rfl; obtain ⟨ys, hys⟩ : ∃ ys, xs.drop 4 = ys := ⟨_, rfl⟩
 rw [hys] at HO hyl HSI hk; unfold DecAns; rw [hys]; clear hr hw hys HPG; have h1 := fun W r A c (k : RF W r A 252 c ys (0, 0)) => refNum1 r A 252 c ys (0, 0) W k
 have l1 := rnum_lt ys 1 (0, 0); obtain ⟨v1, hv1⟩ : ∃ v, (rnum ys 1 (0, 0)).1 = v := ⟨_, rfl⟩
 obtain ⟨s1, hs1⟩ : ∃ v, (rnum ys 1 (0, 0)).2 = v := ⟨_, rfl⟩
 rw [hv1, hs1] at h1; rw [hv1] at l1 hk; have h2 := fun W r A c (k : RF W r A 252 c ys s1) => refNum8 r A 252 c ys s1 W k
 have l2 := rnum_lt ys 8 s1; obtain ⟨v2, hv2⟩ : ∃ v, (rnum ys 8 s1).1 = v := ⟨_, rfl⟩
 obtain ⟨s2, hs2⟩ : ∃ v, (rnum ys 8 s1).2 = v := ⟨_, rfl⟩
 rw [hv2, hs2] at h2; rw [hv2] at l2; have h3 := fun W r A c (k : RF W r A 252 c ys s2) => refNum4 r A 252 c ys s2 W k
 have l3 := rnum_lt ys 4 s2; obtain ⟨v3, hv3⟩ : ∃ v, (rnum ys 4 s2).1 = v := ⟨_, rfl⟩
 obtain ⟨s3, hs3⟩ : ∃ v, (rnum ys 4 s2).2 = v := ⟨_, rfl⟩
 rw [hv3, hs3] at h3; rw [hv3] at l3; have h4 := fun W r A c (k : RF W r A 252 c ys s3) => refNum2 r A 252 c ys s3 W k
 have l4 := rnum_lt ys 2 s3; obtain ⟨v4, hv4⟩ : ∃ v, (rnum ys 2 s3).1 = v := ⟨_, rfl⟩
 obtain ⟨s4, hs4⟩ : ∃ v, (rnum ys 2 s3).2 = v := ⟨_, rfl⟩
 rw [hv4, hs4] at h4; rw [hv4] at l4; have hrp : refpage ys (0, 0) = ⟨(v1 : Int), (v2 : Int), (v3 : Int), if v1 = 1 then (rmany (ritem ys) (min v4 240) s4).1 else [], if v1 = 2 then (rmany (rkid ys) (min v4 240) s4).1 else [], if v1 = 3 then (rmany (rbytes ys 1) (min v4 240) s4).1.flatten else [], if v1 = 4 then (rmany (rid ys) (min v4 240) s4).1 else []⟩ := by
  simp only [refpage, hv1, hs1, hv2, hs2, hv3, hs3, hv4, hs4]
 rw [if_pos hk, if_neg (by omega), if_neg (by omega), if_neg (by omega)] at hrp; have HKD := kept hk; clear hk; obtain ⟨P, hP⟩ : ∃ P, refpage ys (0, 0) = P := ⟨_, rfl⟩
 rw [hP]; rw [hP] at hrp; have HP := kept hrp; clear hrp hP hv1 hs1 hv2 hs2 hv3 hs3 hv4 hs4; have H1 := kept h1; have H2 := kept h2; have H3 := kept h3; have H4 := kept h4; have HV := kept (And.intro l1 (And.intro l2 (And.intro l3 l4))); have hw1 : IntKind.i64.wrap (v1 : Int) = (v1 : Int) := IntWalk.i64_in _ ⟨by omega, by omega⟩; have hw3 : IntKind.i64.wrap (v3 : Int) = (v3 : Int) := IntWalk.i64_in _ ⟨by omega, by omega⟩; have hw4 : IntKind.i64.wrap (v4 : Int) = (v4 : Int) := IntWalk.i64_in _ ⟨by omega, by omega⟩; clear l1 l2 l3 l4 h1 h2 h3 h4; go_enter Tryz.func94, Tryz.ntmps94; go_wp2_with fail
 with_reducible refine (HO _).out.mono ?_
 rintro e w0 ⟨A0, c0, rfl, hd, hc0, hb⟩; have hx : ∀ W : World, W = (w0.alloc (.cells #[.slice A0 252 c0, .int .i64 0, .int .i64 0] 275)).alloc (.cells #[.int .i64 0, .int .u64 0, .int .i64 0, .slice none 0 0, .slice none 0 0, .slice none 0 0, .slice none 0 0] 197) → DkR w W w0.heap.size (w0.heap.size + 1) (w0.heap.size + 2) A0 c0 ys (0, 0) rz7 ∧ W.heap.size = w0.heap.size + 2 := by
  intro W e; have hn := Blk.new (w0.alloc (.cells #[.slice A0 252 c0, .int .i64 0, .int .i64 0] 275)) 197 #[.int .i64 0, .int .u64 0, .int .i64 0, .slice none 0 0, .slice none 0 0, .slice none 0 0, .slice none 0 0]; rw [World.size_alloc] at hn; have hq := (Blk.new w 197 #[.int .i64 0, .int .u64 0, .int .i64 0, .slice none 0 0, .slice none 0 0, .slice none 0 0, .slice none 0 0]).below hb (by simp); have hbb := below_to hb ((Below.refl _ w).alloc (Nat.le_refl _) (.cells #[.int .i64 0, .int .u64 0, .int .i64 0, .slice none 0 0, .slice none 0 0, .slice none 0 0, .slice none 0 0] 197)); rw [e]; exact ⟨⟨⟨⟨(Blk.new w0 275 #[.slice A0 252 c0, .int .i64 0, .int .i64 0]).alloc _, (hd.alloc _).alloc _⟩, Nat.zero_le _, .inl rfl, hc0, by omega⟩, hn, (hq.alloc _).alloc _, (hbb.alloc hbb.size _).alloc (by have := hbb.size; simp; omega) _, hq.lt, Nat.lt_succ_self _, by omega, by simp, hd.und⟩, by simp⟩
 have HX := kept hx; clear hd hc0 hb hx; go_wp2_with fail
 obtain ⟨W0, hW0⟩ : ∃ W, W = (w0.alloc (.cells #[.slice A0 252 c0, .int .i64 0, .int .i64 0] 275)).alloc (.cells #[.int .i64 0, .int .u64 0, .int .i64 0, .slice none 0 0, .slice none 0 0, .slice none 0 0, .slice none 0 0] 197) := ⟨_, rfl⟩
 rw [← hW0]; obtain ⟨hk0, hsz⟩ := HX.out W0 hW0; have HK0 := kept hk0; have HZ0 := kept hsz; clear hW0 HX hk0 hsz; generalize w0.heap.size = r at HK0 HZ0 ⊢; with_reducible refine (H1.out _ r A0 c0 HK0.out.rf).mono ?_
 rintro e w1 ⟨rfl, hR, hO⟩; have hk1 := HK0.out.call hR hO; clear hR hO; have e0 := hk1.box.cell 0; have f0 := hk1.box.frozen 0; simp only [List.getElem?_cons_zero, List.getElem?_cons_succ] at e0; have hs := hk1.setq 0 (.int .i64 (v1 : Int)); simp only [List.set_cons_zero, List.set_cons_succ] at hs; have HS := kept hs; clear hk1 hs; go_wp2_with fail
 clear e0 f0; generalize (w1.setCell ⟨r + 1, 0, none⟩ (.int .i64 (v1 : Int))) = X1 at HS ⊢; have HK1 := HS; clear HS; with_reducible refine (H2.out _ r A0 c0 HK1.out.rf).mono ?_
 rintro e w2 ⟨rfl, hR, hO⟩; have hk2 := HK1.out.call hR hO; clear hR hO; have e0 := hk2.box.cell 1; have f0 := hk2.box.frozen 1; simp only [List.getElem?_cons_zero, List.getElem?_cons_succ] at e0; have hs := hk2.setq 1 (.int .u64 (v2 : Int)); simp only [List.set_cons_zero, List.set_cons_succ] at hs; have HS := kept hs; clear hk2 hs; go_wp2_with fail
 clear e0 f0; generalize (w2.setCell ⟨r + 1, 1, none⟩ (.int .u64 (v2 : Int))) = X2 at HS ⊢; have HK2 := HS; clear HS; with_reducible refine (H3.out _ r A0 c0 HK2.out.rf).mono ?_
 rintro e w3 ⟨rfl, hR, hO⟩; have hk3 := HK2.out.call hR hO; clear hR hO; have e0 := hk3.box.cell 2; have f0 := hk3.box.frozen 2; simp only [List.getElem?_cons_zero, List.getElem?_cons_succ] at e0; have hs := hk3.setq 2 (.int .i64 (v3 : Int)); simp only [List.set_cons_zero, List.set_cons_succ] at hs; have HS := kept hs; clear hk3 hs; go_wp2_with fail
 clear e0 f0; generalize (w3.setCell ⟨r + 1, 2, none⟩ (.int .i64 (v3 : Int))) = X3 at HS ⊢; have HK3 := HS; clear HS; with_reducible refine (H4.out _ r A0 c0 HK3.out.rf).mono ?_
 rintro e w4 ⟨rfl, hR, hO⟩; have hk4 := HK3.out.call hR hO; clear hR hO; have HK4 := kept hk4; clear hk4; obtain ⟨m, hm⟩ : ∃ m, min v4 240 = m := ⟨_, rfl⟩
 have hm1 : m ≤ 240 := by omega
 have hm2 : m ≤ v4 := by omega
 have hm3 : m < 240 → v4 ≤ m := by omega
 rw [hm] at HP; obtain rfl := HKD.out; clear HKD; have hst0 : DkR w w4 r (r + 1) (r + 2) A0 c0 ys (rmany (ritem ys) 0 s4).2 [.int .i64 1, .int .u64 (v2 : Int), .int .i64 (v3 : Int), .slice none 0 0, .slice none 0 0, .slice none 0 0, .slice none 0 0] ∧ Ow kItem w4 (r + 2) 277 (fun g => g < r + 2) none 0 0 (rmany (ritem ys) 0 s4).1 := ⟨by simpa [rmany] using HK4.out, Ow.nil_ _⟩
 have HST0 := kept hst0; have HN1 := fun W r A c s (k : RF W r A 252 c ys s) => kept (refNum1 r A 252 c ys s W k)
 have HN2 := fun W r A c s (k : RF W r A 252 c ys s) => kept (refNum2 r A 252 c ys s W k)
 have HN4 := fun W r A c s (k : RF W r A 252 c ys s) => kept (refNum4 r A 252 c ys s W k)
 have HNB := fun W r A c s m (k : RF W r A 252 c ys s) hm => kept (refBytes_any r A 252 c ys s m W k hm)
 have HBM := kept (And.intro hm1 (And.intro hm2 hm3)); clear hst0 hm hm1 hm2 hm3
 go_upto_block 0 with fail
 clear hw1 hw3 hw4
 go_cut [9] (fun s9 wx => ∃ W A1 c1, W = wx ∧ Hid (DkR w wx r (r + 1) (r + 2) A0 c0 ys (rmany (ritem ys) m s4).2 [.int .i64 1, .int .u64 (v2 : Int), .int .i64 (v3 : Int), .slice A1 m c1, .slice none 0 0, .slice none 0 0, .slice none 0 0] ∧ Ow kItem wx (r + 2) 277 (fun g => g < r + 2) A1 m c1 (rmany (ritem ys) m s4).1))
 case first =>
  go_wp2_with fail
  go_loopw [9] (fun i wr => ∃ (k : Nat) (A1 : Option Addr) (c1 : Nat), k ≤ m ∧ i = .int .i64 k ∧ Hid (DkR w wr r (r + 1) (r + 2) A0 c0 ys (rmany (ritem ys) k s4).2 [.int .i64 1, .int .u64 (v2 : Int), .int .i64 (v3 : Int), .slice A1 k c1, .slice none 0 0, .slice none 0 0, .slice none 0 0] ∧ Ow kItem wr (r + 2) 277 (fun g => g < r + 2) A1 k c1 (rmany (ritem ys) k s4).1)) (fun i _ => m - (intOf i).toNat)
  case atStart => exact ⟨0, none, 0, by omega, rfl, HST0⟩
  case round =>
   obtain ⟨k, A1, c1, hk2, rfl, HKL⟩ := hrel; by_cases hlt : k < m
   · obtain ⟨hdk, how⟩ := HKL.out; have hnx := rmany_snoc (ritem ys) k s4; obtain ⟨I, hI⟩ : ∃ I, (rmany (ritem ys) k s4).1 = I := ⟨_, rfl⟩
     obtain ⟨s, hs⟩ : ∃ s, (rmany (ritem ys) k s4).2 = s := ⟨_, rfl⟩
     rw [hI, hs] at hnx; rw [hs] at hdk; rw [hI] at how; have hN5 := fun W k => (HN1 W r A0 c0 s k).out
     have l5 := rnum_lt ys 1 s; obtain ⟨v5, hv5⟩ : ∃ v, (rnum ys 1 s).1 = v := ⟨_, rfl⟩
     obtain ⟨s5, hs5⟩ : ∃ v, (rnum ys 1 s).2 = v := ⟨_, rfl⟩
     rw [hv5, hs5] at hN5; rw [hv5] at l5; have hN6 := fun W k => (HN2 W r A0 c0 s5 k).out
     have l6 := rnum_lt ys 2 s5; obtain ⟨v6, hv6⟩ : ∃ v, (rnum ys 2 s5).1 = v := ⟨_, rfl⟩
     obtain ⟨s6, hs6⟩ : ∃ v, (rnum ys 2 s5).2 = v := ⟨_, rfl⟩
     rw [hv6, hs6] at hN6; rw [hv6] at l6; have hN7 := fun W k => (HNB W r A0 c0 s6 v5 k (by omega)).out
     obtain ⟨b7, hb7⟩ : ∃ v, (rbytes ys v5 s6).1 = v := ⟨_, rfl⟩
     obtain ⟨s7, hs7⟩ : ∃ v, (rbytes ys v5 s6).2 = v := ⟨_, rfl⟩
     rw [hb7, hs7] at hN7; have hlt1 : k < v4 := by have := HBM.out; omega
     have hlt2 : k < 240 := by have := HBM.out; omega
     have hq1 : decide (k < v4) = true := by simp [hlt1]
     have hq2 : decide (k < 240) = true := by simp [hlt2]
     have hw5 : IntKind.i64.wrap (v5 : Int) = (v5 : Int) := IntWalk.i64_in _ ⟨by omega, by omega⟩; have hw6 : IntKind.i64.wrap (v6 : Int) = (v6 : Int) := IntWalk.i64_in _ ⟨by omega, by omega⟩; have HN5 := kept hN5; have HN6 := kept hN6; have HN7 := kept hN7; have HV5 := kept (And.intro l5 l6); have HRB := kept (And.intro hdk.size (And.intro hdk.rq hdk.rf.lt)); have HLT := kept hlt; have HDK := kept hdk; have HOW := kept how; by_cases hin : v6 ≤ 64
     · have hN8 := fun W k => (HNB W r A0 c0 s7 v6 k (by omega)).out
       obtain ⟨b8, hb8⟩ : ∃ v, (rbytes ys v6 s7).1 = v := ⟨_, rfl⟩
       obtain ⟨s8, hs8⟩ : ∃ v, (rbytes ys v6 s7).2 = v := ⟨_, rfl⟩
       rw [hb8, hs8] at hN8; have hit : ritem ys s = (⟨b7, b8, (v6 : Int), 0⟩, s8) := by simp [ritem, hv5, hs5, hv6, hs6, hb7, hs7, hin, hb8, hs8]
       have hdi : decide (v6 ≤ 64) = true := by simp [hin]
       have hdi2 : decide ((v6 : Int) ≤ 64) = true := by simp; omega
       rw [hit] at hnx; have HN8 := kept hN8; have HNX := kept hnx; have HIN := kept hin; clear hnx hI hs hN5 hN6 hN7 hN8 hv5 hs5 hv6 hs6 hb7 hs7 hb8 hs8 hit hdk how HKL hlt l5 l6; have z0 : wr.cell? ⟨r + 1, 0, none⟩ = some (.int .i64 1) := HDK.out.box.cell 0; go_wp2_with fail
       with_reducible refine (HN5.out _ HDK.out.rf).mono ?_
       rintro e w5 ⟨rfl, hR, hO⟩; have HDK5 := kept (HDK.out.call hR hO); have HO5 := kept hO; clear hR hO z0; go_wp2_with fail
       with_reducible refine (HN6.out _ (HDK5.out.alloc _).rf).mono ?_
       rintro e w6 ⟨rfl, hR, hO⟩; have hdk6 := (HDK5.out.alloc (.cells #[.slice none 0 0, .slice none 0 0, .int .i64 0, .int .i64 0] 277)).call hR hO; have hbx6 : Bx wr w6 r w5.heap.size 277 [.slice none 0 0, .slice none 0 0, .int .i64 0, .int .i64 0] := (⟨Blk.new w5 277 #[.slice none 0 0, .slice none 0 0, .int .i64 0, .int .i64 0], HO5.out.alloc _, HRB.out.2.2, HO5.out.size⟩ : Bx wr (w5.alloc (.cells #[.slice none 0 0, .slice none 0 0, .int .i64 0, .int .i64 0] 277)) r w5.heap.size 277 [.slice none 0 0, .slice none 0 0, .int .i64 0, .int .i64 0]).call hO; have hg := HDK5.out.size; clear hR hO; obtain ⟨g, hge⟩ : ∃ g, w5.heap.size = g := ⟨_, rfl⟩
       rw [hge] at hbx6 hg ⊢; have HG := kept hg; have f2 := hbx6.blk.frozen 2; have e2 : w6.cell? ⟨g, 2, none⟩ = some (.int .i64 0) := hbx6.blk.cell 2; have hbx6 := hbx6.set_ 2 (.int .i64 (v6 : Int)); simp only [List.set_cons_zero, List.set_cons_succ] at hbx6; have HBX6 := kept hbx6; have HDK6 := kept (hdk6.setg HG.out 2 (.int .i64 (v6 : Int))); clear hbx6 hdk6 hg hge HDK5 HO5; go_wp2_with fail
       clear f2 e2; generalize w6.setCell ⟨g, 2, none⟩ (.int .i64 (v6 : Int)) = X6 at HBX6 HDK6 ⊢; with_reducible refine (HN7.out _ HDK6.out.rf).mono ?_
       rintro e w7 ⟨A7, n7, c7, rfl, hr7, hR, hO⟩; have hbx7 := HBX6.out.call hO; have hnt7 := HBX6.out.bytes hr7.1 hr7.2.1; have HM7 := kept hr7.2.2.2; have f0 := hbx7.blk.frozen 0; have e0 : w7.cell? ⟨g, 0, none⟩ = some (.slice none 0 0) := hbx7.blk.cell 0; have e2 : w7.cell? ⟨g, 2, none⟩ = some (.int .i64 (v6 : Int)) := hbx7.blk.cell 2; have HDK7 := kept ((HDK6.out.call hR hO).setg HG.out 0 (.slice A7 n7 c7)); have hbx7 := hbx7.set_ 0 (.slice A7 n7 c7); simp only [List.set_cons_zero, List.set_cons_succ] at hbx7; have HBX7 := kept hbx7; have HNT7 := kept (hnt7.set_ 0 (.slice A7 n7 c7)); clear hbx7 hnt7 hr7 hR hO HBX6 HDK6; go_wp2_with fail
       clear f0 e0 e2; generalize w7.setCell ⟨g, 0, none⟩ (.slice A7 n7 c7) = X7 at HBX7 HDK7 HNT7 ⊢; with_reducible refine (HN8.out _ HDK7.out.rf).mono ?_
       rintro e w8 ⟨A8, n8, c8, rfl, hr8, hR, hO⟩; have hnt8 := HBX7.out.bytes hr8.1 hr8.2.1; have HM8 := kept hr8.2.2.2; have hbx8 := HBX7.out.call hO; have f1 := hbx8.blk.frozen 1; have e1 : w8.cell? ⟨g, 1, none⟩ = some (.slice none 0 0) := hbx8.blk.cell 1; have HDK8 := kept ((HDK7.out.call hR hO).setg HG.out 1 (.slice A8 n8 c8)); have hbx8 := hbx8.set_ 1 (.slice A8 n8 c8); simp only [List.set_cons_zero, List.set_cons_succ] at hbx8; have HBX8 := kept hbx8; have HNT9 := kept ((HNT7.out.call hO).set_ 1 (.slice A8 n8 c8)); have HNT8 := kept (hnt8.set_ 1 (.slice A8 n8 c8)); clear hnt8 hr8; clear hbx8 hR hO HBX7 HDK7 HNT7; go_upto_region 23 with fail
       clear f1 e1; generalize w8.setCell ⟨g, 1, none⟩ (.slice A8 n8 c8) = X8 at HBX8 HDK8 HNT9 HNT8 ⊢; have p3 : X8.cell? ⟨r + 1, 3, none⟩ = some (.slice A1 k c1) := HDK8.out.box.cell 3; have g0 : X8.cell? ⟨g, 0, none⟩ = some (.slice A7 n7 c7) := HBX8.out.blk.cell 0; have g1 : X8.cell? ⟨g, 1, none⟩ = some (.slice A8 n8 c8) := HBX8.out.blk.cell 1; have g2 : X8.cell? ⟨g, 2, none⟩ = some (.int .i64 (v6 : Int)) := HBX8.out.blk.cell 2; have g3 : X8.cell? ⟨g, 3, none⟩ = some (.int .i64 0) := HBX8.out.blk.cell 3; have HY : Hid (RdIt X8 ⟨A7, n7, c7, A8, n8, c8, (v6 : Int), 0⟩ ⟨b7, b8, (v6 : Int), 0⟩) := kept ⟨HNT9.out.rd, HNT8.out.rd, rfl, rfl, by have := HM7.out; have := HV5.out; show n7 ≤ _; omega, by have := HM8.out; have := HIN.out; show n8 ≤ _; omega⟩; have HNW : Hid (∀ h, h < wr.heap.size → kItem.apart ⟨A7, n7, c7, A8, n8, c8, (v6 : Int), 0⟩ h) := kept (fun h hh => ⟨HNT9.out.new h hh, HNT8.out.new h hh⟩); have HOX : Hid (Ow kItem X8 (r + 2) 277 (fun g => g < r + 2) A1 k c1 I) := kept (HOW.out.turn (r := r) HBX8.out.only (.inl (by omega))); have HOS := kept HBX8.out.only.size; have HDKA := fun o => kept (HDK8.out.alloc o)
       go_wp2_with (first | (at_builtin; refine wpList_append_ow (K := kItem) (F := fun g => g < r + 2) rfl (.tmp 82) (.tmp 84) 194 rfl Tryz.underlying194 refItemInfo rfl rfl (HOX.out.below ((Below.refl _ X8).alloc (Nat.le_refl _) _)) ⟨X8.heap.size, 0, none⟩ 1 ⟨A7, n7, c7, A8, n8, c8, (v6 : Int), 0⟩ ⟨b7, b8, (v6 : Int), 0⟩ rfl (fun j u hu => new_cells4 X8 (.slice A7 n7 c7) (.slice A8 n8 c8) (.int .i64 (v6 : Int)) (.int .i64 0) 277 j u hu) (HY.out.below ((Below.refl _ X8).alloc (Nat.le_refl _) _)) (fun h e => HNW.out h (HOW.out.lt e).2) (fun h e => HNW.out h (Nat.lt_of_lt_of_le e HRB.out.1)) (fun h e => Nat.lt_of_lt_of_le e (HDKA _).out.size) (by unfold maxLen; omega) (by omega) (HDKA _).out.size ?_; intro A9 c9 w9 how9 hb9 hk9; have HDK9 := kept ((HDKA _).out.new hb9); have HOW9 := kept how9; have e3 : w9.cell? ⟨r + 1, 3, none⟩ = some (.slice A1 k c1) := HDK9.out.box.cell 3; have f3 := HDK9.out.box.frozen 3; have e0 : w9.cell? ⟨r + 1, 0, none⟩ = some (.int .i64 1) := HDK9.out.box.cell 0; clear how9 hb9 hk9 p3 g0 g1 g2 g3))
       have HFIN : Hid (DkR w (w9.setCell ⟨r + 1, 3, none⟩ (.slice A9 (k + 1) c9)) r (r + 1) (r + 2) A0 c0 ys (rmany (ritem ys) (k + 1) s4).2 [.int .i64 1, .int .u64 (v2 : Int), .int .i64 (v3 : Int), .slice A9 (k + 1) c9, .slice none 0 0, .slice none 0 0, .slice none 0 0] ∧ Ow kItem (w9.setCell ⟨r + 1, 3, none⟩ (.slice A9 (k + 1) c9)) (r + 2) 277 (fun g => g < r + 2) A9 (k + 1) c9 (rmany (ritem ys) (k + 1) s4).1) := kept (by rw [HNX.out]; exact ⟨HDK9.out.setq 3 (.slice A9 (k + 1) c9), HOW9.out.turn (r := r + 1) ((Only.refl w9 (r + 1)).setCell 3 _) (.inl (by omega))⟩); go_roundw
       case rel => exact ⟨k + 1, A9, c9, by have := HLT.out; omega, by go_num, HFIN⟩
       case measure => have := HLT.out; simp [intOf]; omega
     · have hN8 := fun W k => (HN4 W r A0 c0 s7 k).out
       have l8 := rnum_lt ys 4 s7; obtain ⟨v8, hv8⟩ : ∃ v, (rnum ys 4 s7).1 = v := ⟨_, rfl⟩
       obtain ⟨s8, hs8⟩ : ∃ v, (rnum ys 4 s7).2 = v := ⟨_, rfl⟩
       rw [hv8, hs8] at hN8; rw [hv8] at l8; have hit : ritem ys s = (⟨b7, [], (v6 : Int), (v8 : Int)⟩, s8) := by simp [ritem, hv5, hs5, hv6, hs6, hb7, hs7, hin, hv8, hs8]
       have hdi : decide (v6 ≤ 64) = false := by simp [hin]
       have hdi2 : decide ((v6 : Int) ≤ 64) = false := by simp; omega
       have hdi3 : 64 < v6 := by omega
       have hw8 : IntKind.i64.wrap (v8 : Int) = (v8 : Int) := IntWalk.i64_in _ ⟨by omega, by omega⟩; rw [hit] at hnx; have HN8 := kept hN8; have HNX := kept hnx; have HIN := kept hin; clear hnx hI hs hN5 hN6 hN7 hN8 hv5 hs5 hv6 hs6 hb7 hs7 hv8 l8 hs8 hit hdk how HKL hlt l5 l6; have z0 : wr.cell? ⟨r + 1, 0, none⟩ = some (.int .i64 1) := HDK.out.box.cell 0; go_wp2_with fail
       with_reducible refine (HN5.out _ HDK.out.rf).mono ?_
       rintro e w5 ⟨rfl, hR, hO⟩; have HDK5 := kept (HDK.out.call hR hO); have HO5 := kept hO; clear hR hO z0; go_wp2_with fail
       with_reducible refine (HN6.out _ (HDK5.out.alloc _).rf).mono ?_
       rintro e w6 ⟨rfl, hR, hO⟩; have hdk6 := (HDK5.out.alloc (.cells #[.slice none 0 0, .slice none 0 0, .int .i64 0, .int .i64 0] 277)).call hR hO; have hbx6 : Bx wr w6 r w5.heap.size 277 [.slice none 0 0, .slice none 0 0, .int .i64 0, .int .i64 0] := (⟨Blk.new w5 277 #[.slice none 0 0, .slice none 0 0, .int .i64 0, .int .i64 0], HO5.out.alloc _, HRB.out.2.2, HO5.out.size⟩ : Bx wr (w5.alloc (.cells #[.slice none 0 0, .slice none 0 0, .int .i64 0, .int .i64 0] 277)) r w5.heap.size 277 [.slice none 0 0, .slice none 0 0, .int .i64 0, .int .i64 0]).call hO; have hg := HDK5.out.size; clear hR hO; obtain ⟨g, hge⟩ : ∃ g, w5.heap.size = g := ⟨_, rfl⟩
       rw [hge] at hbx6 hg ⊢; have HG := kept hg; have f2 := hbx6.blk.frozen 2; have e2 : w6.cell? ⟨g, 2, none⟩ = some (.int .i64 0) := hbx6.blk.cell 2; have hbx6 := hbx6.set_ 2 (.int .i64 (v6 : Int)); simp only [List.set_cons_zero, List.set_cons_succ] at hbx6; have HBX6 := kept hbx6; have HDK6 := kept (hdk6.setg HG.out 2 (.int .i64 (v6 : Int))); clear hbx6 hdk6 hg hge HDK5 HO5; go_wp2_with fail
       clear f2 e2; generalize w6.setCell ⟨g, 2, none⟩ (.int .i64 (v6 : Int)) = X6 at HBX6 HDK6 ⊢; with_reducible refine (HN7.out _ HDK6.out.rf).mono ?_
       rintro e w7 ⟨A7, n7, c7, rfl, hr7, hR, hO⟩; have hbx7 := HBX6.out.call hO; have hnt7 := HBX6.out.bytes hr7.1 hr7.2.1; have HM7 := kept hr7.2.2.2; have f0 := hbx7.blk.frozen 0; have e0 : w7.cell? ⟨g, 0, none⟩ = some (.slice none 0 0) := hbx7.blk.cell 0; have e2 : w7.cell? ⟨g, 2, none⟩ = some (.int .i64 (v6 : Int)) := hbx7.blk.cell 2; have HDK7 := kept ((HDK6.out.call hR hO).setg HG.out 0 (.slice A7 n7 c7)); have hbx7 := hbx7.set_ 0 (.slice A7 n7 c7); simp only [List.set_cons_zero, List.set_cons_succ] at hbx7; have HBX7 := kept hbx7; have HNT7 := kept (hnt7.set_ 0 (.slice A7 n7 c7)); clear hbx7 hnt7 hr7 hR hO HBX6 HDK6; go_wp2_with fail
       clear f0 e0 e2; generalize w7.setCell ⟨g, 0, none⟩ (.slice A7 n7 c7) = X7 at HBX7 HDK7 HNT7 ⊢; with_reducible refine (HN8.out _ HDK7.out.rf).mono ?_
       rintro e w8 ⟨rfl, hR, hO⟩; have hbx8 := HBX7.out.call hO; have f1 := hbx8.blk.frozen 3; have e1 : w8.cell? ⟨g, 3, none⟩ = some (.int .i64 0) := hbx8.blk.cell 3; have HDK8 := kept ((HDK7.out.call hR hO).setg HG.out 3 (.int .i64 (v8 : Int))); have hbx8 := hbx8.set_ 3 (.int .i64 (v8 : Int)); simp only [List.set_cons_zero, List.set_cons_succ] at hbx8; have HBX8 := kept hbx8; have HNT9 := kept ((HNT7.out.call hO).set_ 3 (.int .i64 (v8 : Int))); clear hbx8 hR hO HBX7 HDK7 HNT7; go_upto_region 23 with fail
       clear f1 e1; generalize w8.setCell ⟨g, 3, none⟩ (.int .i64 (v8 : Int)) = X8 at HBX8 HDK8 HNT9 ⊢; have p3 : X8.cell? ⟨r + 1, 3, none⟩ = some (.slice A1 k c1) := HDK8.out.box.cell 3; have g0 : X8.cell? ⟨g, 0, none⟩ = some (.slice A7 n7 c7) := HBX8.out.blk.cell 0; have g1 : X8.cell? ⟨g, 1, none⟩ = some (.slice none 0 0) := HBX8.out.blk.cell 1; have g2 : X8.cell? ⟨g, 2, none⟩ = some (.int .i64 (v6 : Int)) := HBX8.out.blk.cell 2; have g3 : X8.cell? ⟨g, 3, none⟩ = some (.int .i64 (v8 : Int)) := HBX8.out.blk.cell 3; have HY : Hid (RdIt X8 ⟨A7, n7, c7, none, 0, 0, (v6 : Int), (v8 : Int)⟩ ⟨b7, [], (v6 : Int), (v8 : Int)⟩) := kept ⟨HNT9.out.rd, Rd.nil_ _ _, rfl, rfl, by have := HM7.out; have := HV5.out; show n7 ≤ _; omega, Nat.zero_le _⟩; have HNW : Hid (∀ h, h < wr.heap.size → kItem.apart ⟨A7, n7, c7, none, 0, 0, (v6 : Int), (v8 : Int)⟩ h) := kept (fun h hh => ⟨HNT9.out.new h hh, (New.nil_ wr.heap.size 0) h hh⟩); have HOX : Hid (Ow kItem X8 (r + 2) 277 (fun g => g < r + 2) A1 k c1 I) := kept (HOW.out.turn (r := r) HBX8.out.only (.inl (by omega))); have HOS := kept HBX8.out.only.size; have HDKA := fun o => kept (HDK8.out.alloc o)
       go_wp2_with (first | (at_builtin; refine wpList_append_ow (K := kItem) (F := fun g => g < r + 2) rfl (.tmp 82) (.tmp 84) 194 rfl Tryz.underlying194 refItemInfo rfl rfl (HOX.out.below ((Below.refl _ X8).alloc (Nat.le_refl _) _)) ⟨X8.heap.size, 0, none⟩ 1 ⟨A7, n7, c7, none, 0, 0, (v6 : Int), (v8 : Int)⟩ ⟨b7, [], (v6 : Int), (v8 : Int)⟩ rfl (fun j u hu => new_cells4 X8 (.slice A7 n7 c7) (.slice none 0 0) (.int .i64 (v6 : Int)) (.int .i64 (v8 : Int)) 277 j u hu) (HY.out.below ((Below.refl _ X8).alloc (Nat.le_refl _) _)) (fun h e => HNW.out h (HOW.out.lt e).2) (fun h e => HNW.out h (Nat.lt_of_lt_of_le e HRB.out.1)) (fun h e => Nat.lt_of_lt_of_le e (HDKA _).out.size) (by unfold maxLen; omega) (by omega) (HDKA _).out.size ?_; intro A9 c9 w9 how9 hb9 hk9; have HDK9 := kept ((HDKA _).out.new hb9); have HOW9 := kept how9; have e3 : w9.cell? ⟨r + 1, 3, none⟩ = some (.slice A1 k c1) := HDK9.out.box.cell 3; have f3 := HDK9.out.box.frozen 3; have e0 : w9.cell? ⟨r + 1, 0, none⟩ = some (.int .i64 1) := HDK9.out.box.cell 0; clear how9 hb9 hk9 p3 g0 g1 g2 g3))
       have HFIN : Hid (DkR w (w9.setCell ⟨r + 1, 3, none⟩ (.slice A9 (k + 1) c9)) r (r + 1) (r + 2) A0 c0 ys (rmany (ritem ys) (k + 1) s4).2 [.int .i64 1, .int .u64 (v2 : Int), .int .i64 (v3 : Int), .slice A9 (k + 1) c9, .slice none 0 0, .slice none 0 0, .slice none 0 0] ∧ Ow kItem (w9.setCell ⟨r + 1, 3, none⟩ (.slice A9 (k + 1) c9)) (r + 2) 277 (fun g => g < r + 2) A9 (k + 1) c9 (rmany (ritem ys) (k + 1) s4).1) := kept (by rw [HNX.out]; exact ⟨HDK9.out.setq 3 (.slice A9 (k + 1) c9), HOW9.out.turn (r := r + 1) ((Only.refl w9 (r + 1)).setCell 3 _) (.inl (by omega))⟩); go_roundw
       case rel => exact ⟨k + 1, A9, c9, by have := HLT.out; omega, by go_num, HFIN⟩
       case measure => have := HLT.out; simp [intOf]; omega
   · obtain rfl : k = m := by omega
     rcases (by have := HBM.out; omega : v4 ≤ k ∨ (k < v4 ∧ k = 240)) with hx | ⟨hx, hx2⟩
     · clear hlt; have hb1 : decide (k < v4) = false := by simp; omega
       go_wp2_with fail
       go_meet
       exact ⟨_, _, _, rfl, HKL⟩
     · have hx3 : 240 ≤ k := by omega
       clear hlt; have hb1 : decide (k < v4) = true := by simp; omega
       have hb2 : decide (k < 240) = false := by simp; omega
       go_wp2_with fail
       go_meet
       exact ⟨_, _, _, rfl, HKL⟩
 case rest =>
 obtain ⟨wx, A1, c1, rfl, HKO⟩ := hcut; have HKL := kept HKO.out.1; have HST : Hid (Sta (r + 2) wx (fun w2 => RdPg w2 ⟨1, (v2 : Int), (v3 : Int), A1, m, c1, none, 0, 0, none, 0, 0, none, 0, 0⟩ P)) := kept (fun w2 h2 => by
  have ho := (HKO.out.2.sta w2 h2).items; rw [HP.out]; exact ⟨rfl, rfl, rfl, ho, RdKids.nil_ _ _, Rd.nil_ _ _, RdNums.nil_ _ _, by show (0 : Int) ≤ (v2 : Int); omega, by have := HV.out.2.1; show (v2 : Int) < _; omega, by have := HBM.out; show m ≤ _; omega, Nat.zero_le _, Nat.zero_le _, Nat.zero_le _⟩)
 have HM : Hid (m ≤ 1000 ∧ (0 : Nat) ≤ 1000 ∧ (0 : Nat) ≤ 1000) := kept (by have := HBM.out; omega); clear HKO; obtain ⟨z0, z1, z2, z3, z4, z5, z6⟩ := sevC HKL.out.box; have hrt := refRight04_any ⟨1, (v2 : Int), (v3 : Int), A1, m, c1, none, 0, 0, none, 0, 0, none, 0, 0⟩ P wx HST.out.here HM.out.1 HM.out.2.1 HM.out.2.2; cases hrb : rightB P with
 | false =>
   rw [hrb] at hrt; have HRT := kept hrt; have HNO : Hid (¬ (rightB P = true ∧ bodyOf P = ys)) := kept (by rw [hrb]; exact fun h => Bool.false_ne_true h.1); clear hrt hrb; go_wp2_with fail
   with_reducible refine HRT.out.mono ?_
   rintro e w5 ⟨rfl, hb5⟩; have hk5 := HKL.out.new (hb5.mono HKL.out.size); obtain ⟨p0, p1, p2, p3, p4, p5, p6⟩ := sevC hk5.res; obtain ⟨t0, t1, t2, t3, t4, t5, t6⟩ := sevF hk5.res; have HK5 := kept hk5; clear hb5 hk5 z0 z1 z2 z3 z4 z5 z6; go_wp2; have hfin := HK5.out.fin (.int .i64 0) (.int .u64 0) (.int .i64 0) (.slice none 0 0) (.slice none 0 0) (.slice none 0 0) (.slice none 0 0); unfold set7 at hfin; generalize (((((((w5.setCell ⟨w.heap.size, 0, none⟩ (.int .i64 0)).setCell ⟨w.heap.size, 1, none⟩ (.int .u64 0)).setCell ⟨w.heap.size, 2, none⟩ (.int .i64 0)).setCell ⟨w.heap.size, 3, none⟩ (.slice none 0 0)).setCell ⟨w.heap.size, 4, none⟩ (.slice none 0 0)).setCell ⟨w.heap.size, 5, none⟩ (.slice none 0 0)).setCell ⟨w.heap.size, 6, none⟩ (.slice none 0 0)) = X at hfin ⊢; obtain ⟨x0, x1, x2, x3, x4, x5, x6⟩ := sevC hfin.2; exact bodyPost_ret (v := .tuple #[zeroV, .int .i64 4]) (by simp [results, Tryz.results94, go_sem, x0, x1, x2, x3, x4, x5, x6]) rfl ⟨hfin.1, .inr ⟨HNO.out, rfl⟩⟩
 | true =>
   rw [hrb] at hrt; have HRT := kept hrt; have HRB := kept hrb; clear hrt hrb; go_wp2_with fail
   with_reducible refine HRT.out.mono ?_
   rintro e w4 ⟨rfl, hb5⟩; have HE := kept (refEncode04_any ⟨1, (v2 : Int), (v3 : Int), A1, m, c1, none, 0, 0, none, 0, 0, none, 0, 0⟩ P w4 (HST.out.here.below hb5) HRB.out HM.out.1 HM.out.2.1 HM.out.2.2); have HB4 := kept hb5; have hk4 := HKL.out.new (hb5.mono HKL.out.size); clear z0 z1 z2 z3 z4 z5 z6; obtain ⟨z0, z1, z2, z3, z4, z5, z6⟩ := sevC hk4.box; have HK4' := kept hk4; clear hb5 hk4; go_wp2_with fail
   with_reducible refine HE.out.mono ?_
   rintro e w5 ⟨A5, c5, rfl, hown, hb5⟩; have HB5 := kept hb5; have hk5 := HK4'.out.new (hb5.mono HK4'.out.size); obtain ⟨p0, p1, p2, p3, p4, p5, p6⟩ := sevC hk5.res; obtain ⟨t0, t1, t2, t3, t4, t5, t6⟩ := sevF hk5.res; have HRX := kept (HR.out.below hk5.bel); have HRO := kept (Rd.of_own hown); have HK5 := kept hk5; clear z0 z1 z2 z3 z4 z5 z6; obtain ⟨z0, z1, z2, z3, z4, z5, z6⟩ := sevC hk5.box; have hgq : r + 1 ≠ w.heap.size := by have := hk5.wr_; omega
   clear hk5 hb5 hown; by_cases hbd : bodyOf P = ys
   · have HSM := kept (same_any A5 A 256 256 c5 c (sealed (bodyOf P)) xs w5 HRO.out HRX.out true (by rw [decide_eq_true_eq]; exact (HSI.out _).2 hbd)); have HYES := kept (And.intro HRB.out hbd); clear hbd; go_wp2_with (first | (go_at_call 21; (with_reducible refine (HSM.out).mono ?_); rintro e w9 ⟨rfl, rfl⟩))
     have hfin := HK5.out.fin (.int .i64 1) (.int .u64 (v2 : Int)) (.int .i64 (v3 : Int)) (.slice A1 m c1) (.slice none 0 0) (.slice none 0 0) (.slice none 0 0); have ho7 := only7 w5 w.heap.size (.int .i64 1) (.int .u64 (v2 : Int)) (.int .i64 (v3 : Int)) (.slice A1 m c1) (.slice none 0 0) (.slice none 0 0) (.slice none 0 0); unfold set7 at hfin ho7; generalize (((((((w5.setCell ⟨w.heap.size, 0, none⟩ (.int .i64 1)).setCell ⟨w.heap.size, 1, none⟩ (.int .u64 (v2 : Int))).setCell ⟨w.heap.size, 2, none⟩ (.int .i64 (v3 : Int))).setCell ⟨w.heap.size, 3, none⟩ (.slice A1 m c1)).setCell ⟨w.heap.size, 4, none⟩ (.slice none 0 0)).setCell ⟨w.heap.size, 5, none⟩ (.slice none 0 0)).setCell ⟨w.heap.size, 6, none⟩ (.slice none 0 0)) = X at hfin ho7 ⊢; obtain ⟨x0, x1, x2, x3, x4, x5, x6⟩ := sevC hfin.2; have hst := HST.out X (((Onl.refl.step (Only.of_below (r := r) HB4.out) (by omega)).step (Only.of_below (r := r) HB5.out) (by omega)).step ho7 (by have := HK5.out.wr_; omega)); exact bodyPost_ret (v := .tuple #[.agg #[.int .i64 1, .int .u64 (v2 : Int), .int .i64 (v3 : Int), .slice A1 m c1, .slice none 0 0, .slice none 0 0, .slice none 0 0], .int .i64 0]) (by simp [results, Tryz.results94, go_sem, x0, x1, x2, x3, x4, x5, x6]) rfl ⟨hfin.1, .inl ⟨HYES.out, ⟨1, (v2 : Int), (v3 : Int), A1, m, c1, none, 0, 0, none, 0, 0, none, 0, 0⟩, rfl, hst, HM.out⟩⟩
   · have HSM := kept (same_any A5 A 256 256 c5 c (sealed (bodyOf P)) xs w5 HRO.out HRX.out false (by rw [decide_eq_false_iff_not]; exact fun e => hbd ((HSI.out _).1 e))); have HNO : Hid (¬ (rightB P = true ∧ bodyOf P = ys)) := kept (fun h => hbd h.2); clear hbd; go_wp2_with (first | (go_at_call 21; (with_reducible refine (HSM.out).mono ?_); rintro e w9 ⟨rfl, rfl⟩))
     have hfin := HK5.out.fin (.int .i64 0) (.int .u64 0) (.int .i64 0) (.slice none 0 0) (.slice none 0 0) (.slice none 0 0) (.slice none 0 0); unfold set7 at hfin; generalize (((((((w5.setCell ⟨w.heap.size, 0, none⟩ (.int .i64 0)).setCell ⟨w.heap.size, 1, none⟩ (.int .u64 0)).setCell ⟨w.heap.size, 2, none⟩ (.int .i64 0)).setCell ⟨w.heap.size, 3, none⟩ (.slice none 0 0)).setCell ⟨w.heap.size, 4, none⟩ (.slice none 0 0)).setCell ⟨w.heap.size, 5, none⟩ (.slice none 0 0)).setCell ⟨w.heap.size, 6, none⟩ (.slice none 0 0)) = X at hfin ⊢; obtain ⟨x0, x1, x2, x3, x4, x5, x6⟩ := sevC hfin.2; exact bodyPost_ret (v := .tuple #[zeroV, .int .i64 4]) (by simp [results, Tryz.results94, go_sem, x0, x1, x2, x3, x4, x5, x6]) rfl ⟨hfin.1, .inr ⟨HNO.out, rfl⟩⟩
attribute [local go_sem ↓] Go.wp_at_zero Go.wp_at_succ
theorem refDecode_kids (A : Option Addr) (c : Nat) (xs : List UInt8) (w : World) (hr : Rd w A 256 xs) (hc : 256 ≤ c) (hw : num (xs.take 4) 0 = csum (xs.drop 4)) (hk : (rnum (xs.drop 4) 1 (0, 0)).1 = 2) :
 Calls Tryz.prog 94 #[.slice A 256 c] w (DecAns w xs) := by
 have HO := fun o => kept (open_good4 A c xs (w.alloc o) (hr.alloc o) hc hw)
 have hyl : (xs.drop 4).length = 252 := by rw [List.length_drop, hr.1]
 have HR := kept hr; have HSI : Hid (∀ zs, (sealed zs = xs) ↔ (zs = xs.drop 4)) := kept (fun zs => ⟨fun e => by rw [← e, sealed_drop], fun e => by rw [e]; exact (sealed_iff xs (by have := hr.1; omega)).2 hw⟩); have HPG : Hid (refpage (xs.drop 4) (0, 0) = refpage (xs.drop 4) (0, 0)) := rfl; obtain ⟨ys, hys⟩ : ∃ ys, xs.drop 4 = ys := ⟨_, rfl⟩
 rw [hys] at HO hyl HSI hk; unfold DecAns; rw [hys]; clear hr hw hys HPG; have h1 := fun W r A c (k : RF W r A 252 c ys (0, 0)) => refNum1 r A 252 c ys (0, 0) W k
 have l1 := rnum_lt ys 1 (0, 0); obtain ⟨v1, hv1⟩ : ∃ v, (rnum ys 1 (0, 0)).1 = v := ⟨_, rfl⟩
 obtain ⟨s1, hs1⟩ : ∃ v, (rnum ys 1 (0, 0)).2 = v := ⟨_, rfl⟩
 rw [hv1, hs1] at h1; rw [hv1] at l1 hk; have h2 := fun W r A c (k : RF W r A 252 c ys s1) => refNum8 r A 252 c ys s1 W k
 have l2 := rnum_lt ys 8 s1; obtain ⟨v2, hv2⟩ : ∃ v, (rnum ys 8 s1).1 = v := ⟨_, rfl⟩
 obtain ⟨s2, hs2⟩ : ∃ v, (rnum ys 8 s1).2 = v := ⟨_, rfl⟩
 rw [hv2, hs2] at h2; rw [hv2] at l2; have h3 := fun W r A c (k : RF W r A 252 c ys s2) => refNum4 r A 252 c ys s2 W k
 have l3 := rnum_lt ys 4 s2; obtain ⟨v3, hv3⟩ : ∃ v, (rnum ys 4 s2).1 = v := ⟨_, rfl⟩
 obtain ⟨s3, hs3⟩ : ∃ v, (rnum ys 4 s2).2 = v := ⟨_, rfl⟩
 rw [hv3, hs3] at h3; rw [hv3] at l3; have h4 := fun W r A c (k : RF W r A 252 c ys s3) => refNum2 r A 252 c ys s3 W k
 have l4 := rnum_lt ys 2 s3; obtain ⟨v4, hv4⟩ : ∃ v, (rnum ys 2 s3).1 = v := ⟨_, rfl⟩
 obtain ⟨s4, hs4⟩ : ∃ v, (rnum ys 2 s3).2 = v := ⟨_, rfl⟩
 rw [hv4, hs4] at h4; rw [hv4] at l4; have hrp : refpage ys (0, 0) = ⟨(v1 : Int), (v2 : Int), (v3 : Int), if v1 = 1 then (rmany (ritem ys) (min v4 240) s4).1 else [], if v1 = 2 then (rmany (rkid ys) (min v4 240) s4).1 else [], if v1 = 3 then (rmany (rbytes ys 1) (min v4 240) s4).1.flatten else [], if v1 = 4 then (rmany (rid ys) (min v4 240) s4).1 else []⟩ := by
  simp only [refpage, hv1, hs1, hv2, hs2, hv3, hs3, hv4, hs4]
 rw [if_neg (by omega), if_pos hk, if_neg (by omega), if_neg (by omega)] at hrp; have HKD := kept hk; clear hk; obtain ⟨P, hP⟩ : ∃ P, refpage ys (0, 0) = P := ⟨_, rfl⟩
 rw [hP]; rw [hP] at hrp; have HP := kept hrp; clear hrp hP hv1 hs1 hv2 hs2 hv3 hs3 hv4 hs4; have H1 := kept h1; have H2 := kept h2; have H3 := kept h3; have H4 := kept h4; have HV := kept (And.intro l1 (And.intro l2 (And.intro l3 l4))); have hw1 : IntKind.i64.wrap (v1 : Int) = (v1 : Int) := IntWalk.i64_in _ ⟨by omega, by omega⟩; have hw3 : IntKind.i64.wrap (v3 : Int) = (v3 : Int) := IntWalk.i64_in _ ⟨by omega, by omega⟩; have hw4 : IntKind.i64.wrap (v4 : Int) = (v4 : Int) := IntWalk.i64_in _ ⟨by omega, by omega⟩; clear l1 l2 l3 l4 h1 h2 h3 h4; go_enter Tryz.func94, Tryz.ntmps94; go_wp2_with fail
 with_reducible refine (HO _).out.mono ?_
 rintro e w0 ⟨A0, c0, rfl, hd, hc0, hb⟩; have hx : ∀ W : World, W = (w0.alloc (.cells #[.slice A0 252 c0, .int .i64 0, .int .i64 0] 275)).alloc (.cells #[.int .i64 0, .int .u64 0, .int .i64 0, .slice none 0 0, .slice none 0 0, .slice none 0 0, .slice none 0 0] 197) → DkR w W w0.heap.size (w0.heap.size + 1) (w0.heap.size + 2) A0 c0 ys (0, 0) rz7 ∧ W.heap.size = w0.heap.size + 2 := by
  intro W e; have hn := Blk.new (w0.alloc (.cells #[.slice A0 252 c0, .int .i64 0, .int .i64 0] 275)) 197 #[.int .i64 0, .int .u64 0, .int .i64 0, .slice none 0 0, .slice none 0 0, .slice none 0 0, .slice none 0 0]; rw [World.size_alloc] at hn; have hq := (Blk.new w 197 #[.int .i64 0, .int .u64 0, .int .i64 0, .slice none 0 0, .slice none 0 0, .slice none 0 0, .slice none 0 0]).below hb (by simp); have hbb := below_to hb ((Below.refl _ w).alloc (Nat.le_refl _) (.cells #[.int .i64 0, .int .u64 0, .int .i64 0, .slice none 0 0, .slice none 0 0, .slice none 0 0, .slice none 0 0] 197)); rw [e]; exact ⟨⟨⟨⟨(Blk.new w0 275 #[.slice A0 252 c0, .int .i64 0, .int .i64 0]).alloc _, (hd.alloc _).alloc _⟩, Nat.zero_le _, .inl rfl, hc0, by omega⟩, hn, (hq.alloc _).alloc _, (hbb.alloc hbb.size _).alloc (by have := hbb.size; simp; omega) _, hq.lt, Nat.lt_succ_self _, by omega, by simp, hd.und⟩, by simp⟩
 have HX := kept hx; clear hd hc0 hb hx; go_wp2_with fail
 obtain ⟨W0, hW0⟩ : ∃ W, W = (w0.alloc (.cells #[.slice A0 252 c0, .int .i64 0, .int .i64 0] 275)).alloc (.cells #[.int .i64 0, .int .u64 0, .int .i64 0, .slice none 0 0, .slice none 0 0, .slice none 0 0, .slice none 0 0] 197) := ⟨_, rfl⟩
 rw [← hW0]; obtain ⟨hk0, hsz⟩ := HX.out W0 hW0; have HK0 := kept hk0; have HZ0 := kept hsz; clear hW0 HX hk0 hsz; generalize w0.heap.size = r at HK0 HZ0 ⊢; with_reducible refine (H1.out _ r A0 c0 HK0.out.rf).mono ?_
 rintro e w1 ⟨rfl, hR, hO⟩; have hk1 := HK0.out.call hR hO; clear hR hO; have e0 := hk1.box.cell 0; have f0 := hk1.box.frozen 0; simp only [List.getElem?_cons_zero, List.getElem?_cons_succ] at e0; have hs := hk1.setq 0 (.int .i64 (v1 : Int)); simp only [List.set_cons_zero, List.set_cons_succ] at hs; have HS := kept hs; clear hk1 hs; go_wp2_with fail
 clear e0 f0; generalize (w1.setCell ⟨r + 1, 0, none⟩ (.int .i64 (v1 : Int))) = X1 at HS ⊢; have HK1 := HS; clear HS; with_reducible refine (H2.out _ r A0 c0 HK1.out.rf).mono ?_
 rintro e w2 ⟨rfl, hR, hO⟩; have hk2 := HK1.out.call hR hO; clear hR hO; have e0 := hk2.box.cell 1; have f0 := hk2.box.frozen 1; simp only [List.getElem?_cons_zero, List.getElem?_cons_succ] at e0; have hs := hk2.setq 1 (.int .u64 (v2 : Int)); simp only [List.set_cons_zero, List.set_cons_succ] at hs; have HS := kept hs; clear hk2 hs; go_wp2_with fail
 clear e0 f0; generalize (w2.setCell ⟨r + 1, 1, none⟩ (.int .u64 (v2 : Int))) = X2 at HS ⊢; have HK2 := HS; clear HS; with_reducible refine (H3.out _ r A0 c0 HK2.out.rf).mono ?_
 rintro e w3 ⟨rfl, hR, hO⟩; have hk3 := HK2.out.call hR hO; clear hR hO; have e0 := hk3.box.cell 2; have f0 := hk3.box.frozen 2; simp only [List.getElem?_cons_zero, List.getElem?_cons_succ] at e0; have hs := hk3.setq 2 (.int .i64 (v3 : Int)); simp only [List.set_cons_zero, List.set_cons_succ] at hs; have HS := kept hs; clear hk3 hs; go_wp2_with fail
 clear e0 f0; generalize (w3.setCell ⟨r + 1, 2, none⟩ (.int .i64 (v3 : Int))) = X3 at HS ⊢; have HK3 := HS; clear HS; with_reducible refine (H4.out _ r A0 c0 HK3.out.rf).mono ?_
 rintro e w4 ⟨rfl, hR, hO⟩; have hk4 := HK3.out.call hR hO; clear hR hO; have HK4 := kept hk4; clear hk4; obtain ⟨m, hm⟩ : ∃ m, min v4 240 = m := ⟨_, rfl⟩
 have hm1 : m ≤ 240 := by omega
 have hm2 : m ≤ v4 := by omega
 have hm3 : m < 240 → v4 ≤ m := by omega
 rw [hm] at HP; obtain rfl := HKD.out; clear HKD; have hst0 : DkR w w4 r (r + 1) (r + 2) A0 c0 ys (rmany (rkid ys) 0 s4).2 [.int .i64 2, .int .u64 (v2 : Int), .int .i64 (v3 : Int), .slice none 0 0, .slice none 0 0, .slice none 0 0, .slice none 0 0] ∧ Ow kKid w4 (r + 2) 279 (fun g => g < r + 2) none 0 0 (rmany (rkid ys) 0 s4).1 := ⟨by simpa [rmany] using HK4.out, Ow.nil_ _⟩
 have HST0 := kept hst0; have HN1 := fun W r A c s (k : RF W r A 252 c ys s) => kept (refNum1 r A 252 c ys s W k)
 have HN2 := fun W r A c s (k : RF W r A 252 c ys s) => kept (refNum2 r A 252 c ys s W k)
 have HN4 := fun W r A c s (k : RF W r A 252 c ys s) => kept (refNum4 r A 252 c ys s W k)
 have HNB := fun W r A c s m (k : RF W r A 252 c ys s) hm => kept (refBytes_any r A 252 c ys s m W k hm)
 have HBM := kept (And.intro hm1 (And.intro hm2 hm3)); clear hst0 hm hm1 hm2 hm3
 go_upto_block 0 with fail
 clear hw1 hw3 hw4
 go_cut [9] (fun s9 wx => ∃ W A1 c1, W = wx ∧ Hid (DkR w wx r (r + 1) (r + 2) A0 c0 ys (rmany (rkid ys) m s4).2 [.int .i64 2, .int .u64 (v2 : Int), .int .i64 (v3 : Int), .slice none 0 0, .slice A1 m c1, .slice none 0 0, .slice none 0 0] ∧ Ow kKid wx (r + 2) 279 (fun g => g < r + 2) A1 m c1 (rmany (rkid ys) m s4).1))
 case first =>
  go_wp2_with fail
  go_loopw [9] (fun i wr => ∃ (k : Nat) (A1 : Option Addr) (c1 : Nat), k ≤ m ∧ i = .int .i64 k ∧ Hid (DkR w wr r (r + 1) (r + 2) A0 c0 ys (rmany (rkid ys) k s4).2 [.int .i64 2, .int .u64 (v2 : Int), .int .i64 (v3 : Int), .slice none 0 0, .slice A1 k c1, .slice none 0 0, .slice none 0 0] ∧ Ow kKid wr (r + 2) 279 (fun g => g < r + 2) A1 k c1 (rmany (rkid ys) k s4).1)) (fun i _ => m - (intOf i).toNat)
  case atStart => exact ⟨0, none, 0, by omega, rfl, HST0⟩
  case round =>
   obtain ⟨k, A1, c1, hk2, rfl, HKL⟩ := hrel; by_cases hlt : k < m
   · obtain ⟨hdk, how⟩ := HKL.out; have hnx := rmany_snoc (rkid ys) k s4; obtain ⟨I, hI⟩ : ∃ I, (rmany (rkid ys) k s4).1 = I := ⟨_, rfl⟩
     obtain ⟨s, hs⟩ : ∃ s, (rmany (rkid ys) k s4).2 = s := ⟨_, rfl⟩
     rw [hI, hs] at hnx; rw [hs] at hdk; rw [hI] at how; have hN5 := fun W k => (HN1 W r A0 c0 s k).out
     have l5 := rnum_lt ys 1 s; obtain ⟨v5, hv5⟩ : ∃ v, (rnum ys 1 s).1 = v := ⟨_, rfl⟩
     obtain ⟨s5, hs5⟩ : ∃ v, (rnum ys 1 s).2 = v := ⟨_, rfl⟩
     rw [hv5, hs5] at hN5; rw [hv5] at l5; have hN7 := fun W k => (HNB W r A0 c0 s5 v5 k (by omega)).out
     obtain ⟨b7, hb7⟩ : ∃ v, (rbytes ys v5 s5).1 = v := ⟨_, rfl⟩
     obtain ⟨s7, hs7⟩ : ∃ v, (rbytes ys v5 s5).2 = v := ⟨_, rfl⟩
     rw [hb7, hs7] at hN7; have hN8 := fun W k => (HN4 W r A0 c0 s7 k).out
     have l8 := rnum_lt ys 4 s7; obtain ⟨v8, hv8⟩ : ∃ v, (rnum ys 4 s7).1 = v := ⟨_, rfl⟩
     obtain ⟨s8, hs8⟩ : ∃ v, (rnum ys 4 s7).2 = v := ⟨_, rfl⟩
     rw [hv8, hs8] at hN8; rw [hv8] at l8; have hit : rkid ys s = (⟨b7, (v8 : Int)⟩, s8) := by simp [rkid, hv5, hs5, hb7, hs7, hv8, hs8]
     rw [hit] at hnx; have hw5 : IntKind.i64.wrap (v5 : Int) = (v5 : Int) := IntWalk.i64_in _ ⟨by omega, by omega⟩; have hw8 : IntKind.i64.wrap (v8 : Int) = (v8 : Int) := IntWalk.i64_in _ ⟨by omega, by omega⟩; have HN5 := kept hN5; have HN7 := kept hN7; have HN8 := kept hN8; have HV5 := kept l5; have hlt1 : k < v4 := by have := HBM.out; omega
     have hlt2 : k < 240 := by have := HBM.out; omega
     have hq1 : decide (k < v4) = true := by simp [hlt1]
     have hq2 : decide (k < 240) = true := by simp [hlt2]
     have HRB := kept (And.intro hdk.size (And.intro hdk.rq hdk.rf.lt)); have HLT := kept hlt; have HDK := kept hdk; have HOW := kept how; have HNX := kept hnx; clear hnx hI hs hN5 hN7 hN8 hv5 hs5 hb7 hs7 hv8 hs8 hit hdk how HKL hlt l5 l8; have z0 : wr.cell? ⟨r + 1, 0, none⟩ = some (.int .i64 2) := HDK.out.box.cell 0; go_wp2_with fail
     with_reducible refine (HN5.out _ HDK.out.rf).mono ?_
     rintro e w5 ⟨rfl, hR, hO⟩; have HDK5 := kept (HDK.out.call hR hO); have HO5 := kept hO; clear hR hO z0; go_wp2_with fail
     with_reducible refine (HN7.out _ (HDK5.out.alloc _).rf).mono ?_
     rintro e w7 ⟨A7, n7, c7, rfl, hr7, hR, hO⟩; have hbx5 : Bx wr (w5.alloc (.cells #[.slice none 0 0, .int .i64 0] 279)) r w5.heap.size 279 [.slice none 0 0, .int .i64 0] := ⟨Blk.new w5 279 #[.slice none 0 0, .int .i64 0], HO5.out.alloc _, HRB.out.2.2, HO5.out.size⟩
     have hdk7 := (HDK5.out.alloc (.cells #[.slice none 0 0, .int .i64 0] 279)).call hR hO; have hbx7 := hbx5.call hO; have hnt7 := hbx5.bytes hr7.1 hr7.2.1; have HM7 := kept hr7.2.2.2; have hg := HDK5.out.size; clear hR hO hr7 hbx5; obtain ⟨g, hge⟩ : ∃ g, w5.heap.size = g := ⟨_, rfl⟩
     rw [hge] at hbx7 hnt7 hg ⊢; have HG := kept hg; have f0 := hbx7.blk.frozen 0; have e0 : w7.cell? ⟨g, 0, none⟩ = some (.slice none 0 0) := hbx7.blk.cell 0; have HDK7 := kept (hdk7.setg HG.out 0 (.slice A7 n7 c7)); have hbx7 := hbx7.set_ 0 (.slice A7 n7 c7); simp only [List.set_cons_zero, List.set_cons_succ] at hbx7; have HBX7 := kept hbx7; have HNT7 := kept (hnt7.set_ 0 (.slice A7 n7 c7)); clear hbx7 hnt7 hdk7 hg hge HDK5 HO5; go_wp2_with fail
     clear f0 e0; generalize w7.setCell ⟨g, 0, none⟩ (.slice A7 n7 c7) = X7 at HBX7 HDK7 HNT7 ⊢; with_reducible refine (HN8.out _ HDK7.out.rf).mono ?_
     rintro e w8 ⟨rfl, hR, hO⟩; have hbx8 := HBX7.out.call hO; have f1 := hbx8.blk.frozen 1; have e1 : w8.cell? ⟨g, 1, none⟩ = some (.int .i64 0) := hbx8.blk.cell 1; have HDK8 := kept ((HDK7.out.call hR hO).setg HG.out 1 (.int .i64 (v8 : Int))); have hbx8 := hbx8.set_ 1 (.int .i64 (v8 : Int)); simp only [List.set_cons_zero, List.set_cons_succ] at hbx8; have HBX8 := kept hbx8; have HNT9 := kept ((HNT7.out.call hO).set_ 1 (.int .i64 (v8 : Int))); clear hbx8 hR hO HBX7 HDK7 HNT7; go_upto_region 29 with fail
     clear f1 e1; generalize w8.setCell ⟨g, 1, none⟩ (.int .i64 (v8 : Int)) = X8 at HBX8 HDK8 HNT9 ⊢; have p3 : X8.cell? ⟨r + 1, 4, none⟩ = some (.slice A1 k c1) := HDK8.out.box.cell 4; have g0 : X8.cell? ⟨g, 0, none⟩ = some (.slice A7 n7 c7) := HBX8.out.blk.cell 0; have g1 : X8.cell? ⟨g, 1, none⟩ = some (.int .i64 (v8 : Int)) := HBX8.out.blk.cell 1; have HY : Hid (RdKd X8 ⟨A7, n7, c7, (v8 : Int)⟩ ⟨b7, (v8 : Int)⟩) := kept ⟨HNT9.out.rd, rfl, by have := HM7.out; have := HV5.out; show n7 ≤ _; omega⟩; have HNW : Hid (∀ h, h < wr.heap.size → kKid.apart ⟨A7, n7, c7, (v8 : Int)⟩ h) := kept (fun h hh => HNT9.out.new h hh); have HOX : Hid (Ow kKid X8 (r + 2) 279 (fun g => g < r + 2) A1 k c1 I) := kept (HOW.out.turn (r := r) HBX8.out.only (.inl (by omega))); have HDKA := fun o => kept (HDK8.out.alloc o)
     go_wp2_with (first | (at_builtin; refine wpList_append_ow (K := kKid) (F := fun g => g < r + 2) rfl (.tmp 103) (.tmp 105) 195 rfl Tryz.underlying195 refKidInfo rfl rfl (HOX.out.below ((Below.refl _ X8).alloc (Nat.le_refl _) _)) ⟨X8.heap.size, 0, none⟩ 1 ⟨A7, n7, c7, (v8 : Int)⟩ ⟨b7, (v8 : Int)⟩ rfl (fun j u hu => new_cells2 X8 (.slice A7 n7 c7) (.int .i64 (v8 : Int)) 279 j u hu) (HY.out.below ((Below.refl _ X8).alloc (Nat.le_refl _) _)) (fun h e => HNW.out h (HOW.out.lt e).2) (fun h e => HNW.out h (Nat.lt_of_lt_of_le e HRB.out.1)) (fun h e => Nat.lt_of_lt_of_le e (HDKA _).out.size) (by unfold maxLen; omega) (by omega) (HDKA _).out.size ?_; intro A9 c9 w9 how9 hb9 hk9; have HDK9 := kept ((HDKA _).out.new hb9); have HOW9 := kept how9; have e3 : w9.cell? ⟨r + 1, 4, none⟩ = some (.slice A1 k c1) := HDK9.out.box.cell 4; have f3 := HDK9.out.box.frozen 4; have e0 : w9.cell? ⟨r + 1, 0, none⟩ = some (.int .i64 2) := HDK9.out.box.cell 0; clear how9 hb9 hk9 p3 g0 g1))
     have HFIN : Hid (DkR w (w9.setCell ⟨r + 1, 4, none⟩ (.slice A9 (k + 1) c9)) r (r + 1) (r + 2) A0 c0 ys (rmany (rkid ys) (k + 1) s4).2 [.int .i64 2, .int .u64 (v2 : Int), .int .i64 (v3 : Int), .slice none 0 0, .slice A9 (k + 1) c9, .slice none 0 0, .slice none 0 0] ∧ Ow kKid (w9.setCell ⟨r + 1, 4, none⟩ (.slice A9 (k + 1) c9)) (r + 2) 279 (fun g => g < r + 2) A9 (k + 1) c9 (rmany (rkid ys) (k + 1) s4).1) := kept (by rw [HNX.out]; exact ⟨HDK9.out.setq 4 (.slice A9 (k + 1) c9), HOW9.out.turn (r := r + 1) ((Only.refl w9 (r + 1)).setCell 4 _) (.inl (by omega))⟩); go_roundw
     case rel => exact ⟨k + 1, A9, c9, by have := HLT.out; omega, by go_num, HFIN⟩
     case measure => have := HLT.out; simp [intOf]; omega
   · obtain rfl : k = m := by omega
     rcases (by have := HBM.out; omega : v4 ≤ k ∨ (k < v4 ∧ k = 240)) with hx | ⟨hx, hx2⟩
     · clear hlt; have hb1 : decide (k < v4) = false := by simp; omega
       go_wp2_with fail
       go_meet
       exact ⟨_, _, _, rfl, HKL⟩
     · have hx3 : 240 ≤ k := by omega
       clear hlt; have hb1 : decide (k < v4) = true := by simp; omega
       have hb2 : decide (k < 240) = false := by simp; omega
       go_wp2_with fail
       go_meet
       exact ⟨_, _, _, rfl, HKL⟩
 case rest =>
 obtain ⟨wx, A1, c1, rfl, HKO⟩ := hcut; have HKL := kept HKO.out.1; have HST : Hid (Sta (r + 2) wx (fun w2 => RdPg w2 ⟨2, (v2 : Int), (v3 : Int), none, 0, 0, A1, m, c1, none, 0, 0, none, 0, 0⟩ P)) := kept (fun w2 h2 => by
  have ho := (HKO.out.2.sta w2 h2).kids; rw [HP.out]; exact ⟨rfl, rfl, rfl, RdItems.nil_ _ _, ho, Rd.nil_ _ _, RdNums.nil_ _ _, by show (0 : Int) ≤ (v2 : Int); omega, by have := HV.out.2.1; show (v2 : Int) < _; omega, Nat.zero_le _, by have := HBM.out; show m ≤ _; omega, Nat.zero_le _, Nat.zero_le _⟩)
 have HM : Hid ((0 : Nat) ≤ 1000 ∧ m ≤ 1000 ∧ (0 : Nat) ≤ 1000) := kept (by have := HBM.out; omega); clear HKO; obtain ⟨z0, z1, z2, z3, z4, z5, z6⟩ := sevC HKL.out.box; have hrt := refRight04_any ⟨2, (v2 : Int), (v3 : Int), none, 0, 0, A1, m, c1, none, 0, 0, none, 0, 0⟩ P wx HST.out.here HM.out.1 HM.out.2.1 HM.out.2.2; cases hrb : rightB P with
 | false =>
   rw [hrb] at hrt; have HRT := kept hrt; have HNO : Hid (¬ (rightB P = true ∧ bodyOf P = ys)) := kept (by rw [hrb]; exact fun h => Bool.false_ne_true h.1); clear hrt hrb; go_wp2_with fail
   with_reducible refine HRT.out.mono ?_
   rintro e w5 ⟨rfl, hb5⟩; have hk5 := HKL.out.new (hb5.mono HKL.out.size); obtain ⟨p0, p1, p2, p3, p4, p5, p6⟩ := sevC hk5.res; obtain ⟨t0, t1, t2, t3, t4, t5, t6⟩ := sevF hk5.res; have HK5 := kept hk5; clear hb5 hk5 z0 z1 z2 z3 z4 z5 z6; go_wp2; have hfin := HK5.out.fin (.int .i64 0) (.int .u64 0) (.int .i64 0) (.slice none 0 0) (.slice none 0 0) (.slice none 0 0) (.slice none 0 0); unfold set7 at hfin; generalize (((((((w5.setCell ⟨w.heap.size, 0, none⟩ (.int .i64 0)).setCell ⟨w.heap.size, 1, none⟩ (.int .u64 0)).setCell ⟨w.heap.size, 2, none⟩ (.int .i64 0)).setCell ⟨w.heap.size, 3, none⟩ (.slice none 0 0)).setCell ⟨w.heap.size, 4, none⟩ (.slice none 0 0)).setCell ⟨w.heap.size, 5, none⟩ (.slice none 0 0)).setCell ⟨w.heap.size, 6, none⟩ (.slice none 0 0)) = X at hfin ⊢; obtain ⟨x0, x1, x2, x3, x4, x5, x6⟩ := sevC hfin.2; exact bodyPost_ret (v := .tuple #[zeroV, .int .i64 4]) (by simp [results, Tryz.results94, go_sem, x0, x1, x2, x3, x4, x5, x6]) rfl ⟨hfin.1, .inr ⟨HNO.out, rfl⟩⟩
 | true =>
   rw [hrb] at hrt; have HRT := kept hrt; have HRB := kept hrb; clear hrt hrb; go_wp2_with fail
   with_reducible refine HRT.out.mono ?_
   rintro e w4 ⟨rfl, hb5⟩; have HE := kept (refEncode04_any ⟨2, (v2 : Int), (v3 : Int), none, 0, 0, A1, m, c1, none, 0, 0, none, 0, 0⟩ P w4 (HST.out.here.below hb5) HRB.out HM.out.1 HM.out.2.1 HM.out.2.2); have HB4 := kept hb5; have hk4 := HKL.out.new (hb5.mono HKL.out.size); clear z0 z1 z2 z3 z4 z5 z6; obtain ⟨z0, z1, z2, z3, z4, z5, z6⟩ := sevC hk4.box; have HK4' := kept hk4; clear hb5 hk4; go_wp2_with fail
   with_reducible refine HE.out.mono ?_
   rintro e w5 ⟨A5, c5, rfl, hown, hb5⟩; have HB5 := kept hb5; have hk5 := HK4'.out.new (hb5.mono HK4'.out.size); obtain ⟨p0, p1, p2, p3, p4, p5, p6⟩ := sevC hk5.res; obtain ⟨t0, t1, t2, t3, t4, t5, t6⟩ := sevF hk5.res; have HRX := kept (HR.out.below hk5.bel); have HRO := kept (Rd.of_own hown); have HK5 := kept hk5; clear z0 z1 z2 z3 z4 z5 z6; obtain ⟨z0, z1, z2, z3, z4, z5, z6⟩ := sevC hk5.box; have hgq : r + 1 ≠ w.heap.size := by have := hk5.wr_; omega
   clear hk5 hb5 hown; by_cases hbd : bodyOf P = ys
   · have HSM := kept (same_any A5 A 256 256 c5 c (sealed (bodyOf P)) xs w5 HRO.out HRX.out true (by rw [decide_eq_true_eq]; exact (HSI.out _).2 hbd)); have HYES := kept (And.intro HRB.out hbd); clear hbd; go_wp2_with (first | (go_at_call 21; (with_reducible refine (HSM.out).mono ?_); rintro e w9 ⟨rfl, rfl⟩))
     have hfin := HK5.out.fin (.int .i64 2) (.int .u64 (v2 : Int)) (.int .i64 (v3 : Int)) (.slice none 0 0) (.slice A1 m c1) (.slice none 0 0) (.slice none 0 0); have ho7 := only7 w5 w.heap.size (.int .i64 2) (.int .u64 (v2 : Int)) (.int .i64 (v3 : Int)) (.slice none 0 0) (.slice A1 m c1) (.slice none 0 0) (.slice none 0 0); unfold set7 at hfin ho7; generalize (((((((w5.setCell ⟨w.heap.size, 0, none⟩ (.int .i64 2)).setCell ⟨w.heap.size, 1, none⟩ (.int .u64 (v2 : Int))).setCell ⟨w.heap.size, 2, none⟩ (.int .i64 (v3 : Int))).setCell ⟨w.heap.size, 3, none⟩ (.slice none 0 0)).setCell ⟨w.heap.size, 4, none⟩ (.slice A1 m c1)).setCell ⟨w.heap.size, 5, none⟩ (.slice none 0 0)).setCell ⟨w.heap.size, 6, none⟩ (.slice none 0 0)) = X at hfin ho7 ⊢; obtain ⟨x0, x1, x2, x3, x4, x5, x6⟩ := sevC hfin.2; have hst := HST.out X (((Onl.refl.step (Only.of_below (r := r) HB4.out) (by omega)).step (Only.of_below (r := r) HB5.out) (by omega)).step ho7 (by have := HK5.out.wr_; omega)); exact bodyPost_ret (v := .tuple #[.agg #[.int .i64 2, .int .u64 (v2 : Int), .int .i64 (v3 : Int), .slice none 0 0, .slice A1 m c1, .slice none 0 0, .slice none 0 0], .int .i64 0]) (by simp [results, Tryz.results94, go_sem, x0, x1, x2, x3, x4, x5, x6]) rfl ⟨hfin.1, .inl ⟨HYES.out, ⟨2, (v2 : Int), (v3 : Int), none, 0, 0, A1, m, c1, none, 0, 0, none, 0, 0⟩, rfl, hst, HM.out⟩⟩
   · have HSM := kept (same_any A5 A 256 256 c5 c (sealed (bodyOf P)) xs w5 HRO.out HRX.out false (by rw [decide_eq_false_iff_not]; exact fun e => hbd ((HSI.out _).1 e))); have HNO : Hid (¬ (rightB P = true ∧ bodyOf P = ys)) := kept (fun h => hbd h.2); clear hbd; go_wp2_with (first | (go_at_call 21; (with_reducible refine (HSM.out).mono ?_); rintro e w9 ⟨rfl, rfl⟩))
     have hfin := HK5.out.fin (.int .i64 0) (.int .u64 0) (.int .i64 0) (.slice none 0 0) (.slice none 0 0) (.slice none 0 0) (.slice none 0 0); unfold set7 at hfin; generalize (((((((w5.setCell ⟨w.heap.size, 0, none⟩ (.int .i64 0)).setCell ⟨w.heap.size, 1, none⟩ (.int .u64 0)).setCell ⟨w.heap.size, 2, none⟩ (.int .i64 0)).setCell ⟨w.heap.size, 3, none⟩ (.slice none 0 0)).setCell ⟨w.heap.size, 4, none⟩ (.slice none 0 0)).setCell ⟨w.heap.size, 5, none⟩ (.slice none 0 0)).setCell ⟨w.heap.size, 6, none⟩ (.slice none 0 0)) = X at hfin ⊢; obtain ⟨x0, x1, x2, x3, x4, x5, x6⟩ := sevC hfin.2; exact bodyPost_ret (v := .tuple #[zeroV, .int .i64 4]) (by simp [results, Tryz.results94, go_sem, x0, x1, x2, x3, x4, x5, x6]) rfl ⟨hfin.1, .inr ⟨HNO.out, rfl⟩⟩
attribute [local go_sem ↓] Go.wp_at_zero Go.wp_at_succ
theorem refBytes1 (r : Nat) (A : Option Addr) (n c : Nat) (xs : List UInt8) (s : Rst) (w : World) (h : RF w r A n c xs s) :
 Calls Tryz.prog 149 #[.pointer (some ⟨r, 0, none⟩), .int .i64 1] w fun e w' => ∃ A' n' c', e = .returned (.slice A' n' c') ∧ Hid (Rd w' A' n' (rbytes xs 1 s).1 ∧ New A' n' w.heap.size ∧ n' ≤ c' ∧ n' ≤ 1) ∧ Hid (RF w' r A n c xs (rbytes xs 1 s).2 ∧ Only w w' r) := refBytes_any r A n c xs s 1 w h (by omega)
theorem own_turn {w w' : World} {r base : Nat} {e : TypeId} {A : Option Addr} {n c : Nat} {xs : List Value} (h : w.ownsRow base e 1 (.slice A n c) n xs) (ho : w.grownBy w' (some r)) (hr : r < base) : w'.ownsRow base e 1 (.slice A n c) n xs := by
 refine h.kept (row := some r) ho ?_; cases hv : (Value.slice A n c).ownBlock with
 | none => exact .inl rfl
 | some g =>
   refine .inr fun e => ?_
   obtain rfl := Option.some.inj e; have := (h.lt _ hv).1; omega
theorem own_sta {w : World} {base : Nat} {e : TypeId} {A : Option Addr} {n c : Nat} {xs : List Value} (h : w.ownsRow base e 1 (.slice A n c) n xs) : Sta base w fun w2 => w2.ownsRow base e 1 (.slice A n c) n xs := by
 intro w2 k
 induction k with
 | refl => exact h
 | step _ h1 h2 ih => exact own_turn ih h1 h2
theorem refDecode_data (A : Option Addr) (c : Nat) (xs : List UInt8) (w : World) (hr : Rd w A 256 xs) (hc : 256 ≤ c) (hw : num (xs.take 4) 0 = csum (xs.drop 4)) (hk : (rnum (xs.drop 4) 1 (0, 0)).1 = 3) :
 Calls Tryz.prog 94 #[.slice A 256 c] w (DecAns w xs) := by
 have HO := fun o => kept (open_good4 A c xs (w.alloc o) (hr.alloc o) hc hw)
 have hyl : (xs.drop 4).length = 252 := by rw [List.length_drop, hr.1]
 have HR := kept hr; have HSI : Hid (∀ zs, (sealed zs = xs) ↔ (zs = xs.drop 4)) := kept (fun zs => ⟨fun e => by rw [← e, sealed_drop], fun e => by rw [e]; exact (sealed_iff xs (by have := hr.1; omega)).2 hw⟩); have HPG : Hid (refpage (xs.drop 4) (0, 0) = refpage (xs.drop 4) (0, 0)) := rfl; obtain ⟨ys, hys⟩ : ∃ ys, xs.drop 4 = ys := ⟨_, rfl⟩
 rw [hys] at HO hyl HSI hk; unfold DecAns; rw [hys]; clear hr hw hys HPG; have h1 := fun W r A c (k : RF W r A 252 c ys (0, 0)) => refNum1 r A 252 c ys (0, 0) W k
 have l1 := rnum_lt ys 1 (0, 0); obtain ⟨v1, hv1⟩ : ∃ v, (rnum ys 1 (0, 0)).1 = v := ⟨_, rfl⟩
 obtain ⟨s1, hs1⟩ : ∃ v, (rnum ys 1 (0, 0)).2 = v := ⟨_, rfl⟩
 rw [hv1, hs1] at h1; rw [hv1] at l1 hk; have h2 := fun W r A c (k : RF W r A 252 c ys s1) => refNum8 r A 252 c ys s1 W k
 have l2 := rnum_lt ys 8 s1; obtain ⟨v2, hv2⟩ : ∃ v, (rnum ys 8 s1).1 = v := ⟨_, rfl⟩
 obtain ⟨s2, hs2⟩ : ∃ v, (rnum ys 8 s1).2 = v := ⟨_, rfl⟩
 rw [hv2, hs2] at h2; rw [hv2] at l2; have h3 := fun W r A c (k : RF W r A 252 c ys s2) => refNum4 r A 252 c ys s2 W k
 have l3 := rnum_lt ys 4 s2; obtain ⟨v3, hv3⟩ : ∃ v, (rnum ys 4 s2).1 = v := ⟨_, rfl⟩
 obtain ⟨s3, hs3⟩ : ∃ v, (rnum ys 4 s2).2 = v := ⟨_, rfl⟩
 rw [hv3, hs3] at h3; rw [hv3] at l3; have h4 := fun W r A c (k : RF W r A 252 c ys s3) => refNum2 r A 252 c ys s3 W k
 have l4 := rnum_lt ys 2 s3; obtain ⟨v4, hv4⟩ : ∃ v, (rnum ys 2 s3).1 = v := ⟨_, rfl⟩
 obtain ⟨s4, hs4⟩ : ∃ v, (rnum ys 2 s3).2 = v := ⟨_, rfl⟩
 rw [hv4, hs4] at h4; rw [hv4] at l4; have hrp : refpage ys (0, 0) = ⟨(v1 : Int), (v2 : Int), (v3 : Int), if v1 = 1 then (rmany (ritem ys) (min v4 240) s4).1 else [], if v1 = 2 then (rmany (rkid ys) (min v4 240) s4).1 else [], if v1 = 3 then (rmany (rbytes ys 1) (min v4 240) s4).1.flatten else [], if v1 = 4 then (rmany (rid ys) (min v4 240) s4).1 else []⟩ := by
  simp only [refpage, hv1, hs1, hv2, hs2, hv3, hs3, hv4, hs4]
 rw [if_neg (by omega), if_neg (by omega), if_pos hk, if_neg (by omega)] at hrp; have HKD := kept hk; clear hk; obtain ⟨P, hP⟩ : ∃ P, refpage ys (0, 0) = P := ⟨_, rfl⟩
 rw [hP]; rw [hP] at hrp; have HP := kept hrp; clear hrp hP hv1 hs1 hv2 hs2 hv3 hs3 hv4 hs4; have H1 := kept h1; have H2 := kept h2; have H3 := kept h3; have H4 := kept h4; have HV := kept (And.intro l1 (And.intro l2 (And.intro l3 l4))); have hw1 : IntKind.i64.wrap (v1 : Int) = (v1 : Int) := IntWalk.i64_in _ ⟨by omega, by omega⟩; have hw3 : IntKind.i64.wrap (v3 : Int) = (v3 : Int) := IntWalk.i64_in _ ⟨by omega, by omega⟩; have hw4 : IntKind.i64.wrap (v4 : Int) = (v4 : Int) := IntWalk.i64_in _ ⟨by omega, by omega⟩; clear l1 l2 l3 l4 h1 h2 h3 h4; go_enter Tryz.func94, Tryz.ntmps94; go_wp2_with fail
 with_reducible refine (HO _).out.mono ?_
 rintro e w0 ⟨A0, c0, rfl, hd, hc0, hb⟩; have hx : ∀ W : World, W = (w0.alloc (.cells #[.slice A0 252 c0, .int .i64 0, .int .i64 0] 275)).alloc (.cells #[.int .i64 0, .int .u64 0, .int .i64 0, .slice none 0 0, .slice none 0 0, .slice none 0 0, .slice none 0 0] 197) → DkR w W w0.heap.size (w0.heap.size + 1) (w0.heap.size + 2) A0 c0 ys (0, 0) rz7 ∧ W.heap.size = w0.heap.size + 2 := by
  intro W e; have hn := Blk.new (w0.alloc (.cells #[.slice A0 252 c0, .int .i64 0, .int .i64 0] 275)) 197 #[.int .i64 0, .int .u64 0, .int .i64 0, .slice none 0 0, .slice none 0 0, .slice none 0 0, .slice none 0 0]; rw [World.size_alloc] at hn; have hq := (Blk.new w 197 #[.int .i64 0, .int .u64 0, .int .i64 0, .slice none 0 0, .slice none 0 0, .slice none 0 0, .slice none 0 0]).below hb (by simp); have hbb := below_to hb ((Below.refl _ w).alloc (Nat.le_refl _) (.cells #[.int .i64 0, .int .u64 0, .int .i64 0, .slice none 0 0, .slice none 0 0, .slice none 0 0, .slice none 0 0] 197)); rw [e]; exact ⟨⟨⟨⟨(Blk.new w0 275 #[.slice A0 252 c0, .int .i64 0, .int .i64 0]).alloc _, (hd.alloc _).alloc _⟩, Nat.zero_le _, .inl rfl, hc0, by omega⟩, hn, (hq.alloc _).alloc _, (hbb.alloc hbb.size _).alloc (by have := hbb.size; simp; omega) _, hq.lt, Nat.lt_succ_self _, by omega, by simp, hd.und⟩, by simp⟩
 have HX := kept hx; clear hd hc0 hb hx; go_wp2_with fail
 obtain ⟨W0, hW0⟩ : ∃ W, W = (w0.alloc (.cells #[.slice A0 252 c0, .int .i64 0, .int .i64 0] 275)).alloc (.cells #[.int .i64 0, .int .u64 0, .int .i64 0, .slice none 0 0, .slice none 0 0, .slice none 0 0, .slice none 0 0] 197) := ⟨_, rfl⟩
 rw [← hW0]; obtain ⟨hk0, hsz⟩ := HX.out W0 hW0; have HK0 := kept hk0; have HZ0 := kept hsz; clear hW0 HX hk0 hsz; generalize w0.heap.size = r at HK0 HZ0 ⊢; with_reducible refine (H1.out _ r A0 c0 HK0.out.rf).mono ?_
 rintro e w1 ⟨rfl, hR, hO⟩; have hk1 := HK0.out.call hR hO; clear hR hO; have e0 := hk1.box.cell 0; have f0 := hk1.box.frozen 0; simp only [List.getElem?_cons_zero, List.getElem?_cons_succ] at e0; have hs := hk1.setq 0 (.int .i64 (v1 : Int)); simp only [List.set_cons_zero, List.set_cons_succ] at hs; have HS := kept hs; clear hk1 hs; go_wp2_with fail
 clear e0 f0; generalize (w1.setCell ⟨r + 1, 0, none⟩ (.int .i64 (v1 : Int))) = X1 at HS ⊢; have HK1 := HS; clear HS; with_reducible refine (H2.out _ r A0 c0 HK1.out.rf).mono ?_
 rintro e w2 ⟨rfl, hR, hO⟩; have hk2 := HK1.out.call hR hO; clear hR hO; have e0 := hk2.box.cell 1; have f0 := hk2.box.frozen 1; simp only [List.getElem?_cons_zero, List.getElem?_cons_succ] at e0; have hs := hk2.setq 1 (.int .u64 (v2 : Int)); simp only [List.set_cons_zero, List.set_cons_succ] at hs; have HS := kept hs; clear hk2 hs; go_wp2_with fail
 clear e0 f0; generalize (w2.setCell ⟨r + 1, 1, none⟩ (.int .u64 (v2 : Int))) = X2 at HS ⊢; have HK2 := HS; clear HS; with_reducible refine (H3.out _ r A0 c0 HK2.out.rf).mono ?_
 rintro e w3 ⟨rfl, hR, hO⟩; have hk3 := HK2.out.call hR hO; clear hR hO; have e0 := hk3.box.cell 2; have f0 := hk3.box.frozen 2; simp only [List.getElem?_cons_zero, List.getElem?_cons_succ] at e0; have hs := hk3.setq 2 (.int .i64 (v3 : Int)); simp only [List.set_cons_zero, List.set_cons_succ] at hs; have HS := kept hs; clear hk3 hs; go_wp2_with fail
 clear e0 f0; generalize (w3.setCell ⟨r + 1, 2, none⟩ (.int .i64 (v3 : Int))) = X3 at HS ⊢; have HK3 := HS; clear HS; with_reducible refine (H4.out _ r A0 c0 HK3.out.rf).mono ?_
 rintro e w4 ⟨rfl, hR, hO⟩; have hk4 := HK3.out.call hR hO; clear hR hO; have HK4 := kept hk4; clear hk4; obtain ⟨m, hm⟩ : ∃ m, min v4 240 = m := ⟨_, rfl⟩
 have hm1 : m ≤ 240 := by omega
 have hm2 : m ≤ v4 := by omega
 have hm3 : m < 240 → v4 ≤ m := by omega
 rw [hm] at HP; obtain rfl := HKD.out; clear HKD; have hst0 : DkR w w4 r (r + 1) (r + 2) A0 c0 ys (rmany (rbytes ys 1) 0 s4).2 [.int .i64 3, .int .u64 (v2 : Int), .int .i64 (v3 : Int), .slice none 0 0, .slice none 0 0, .slice none 0 0, .slice none 0 0] ∧ World.ownsRow w4 (r + 2) 5 1 (.slice none 0 0) 0 (cellsOf (rmany (rbytes ys 1) 0 s4).1.flatten) := ⟨by simpa [rmany] using HK4.out, by simpa [rmany, cellsOf] using World.ownsRow_nil w4 (r + 2) 5 1⟩
 have HST0 := kept hst0; have HNB := fun W r A c s (k : RF W r A 252 c ys s) => kept (refBytes1 r A 252 c ys s W k)
 have HBM := kept (And.intro hm1 (And.intro hm2 hm3)); clear hst0 hm hm1 hm2 hm3
 go_upto_block 0 with fail
 clear hw1 hw3 hw4
 go_cut [9] (fun s9 wx => ∃ W A1 n1 c1, W = wx ∧ n1 ≤ m ∧ Hid (DkR w wx r (r + 1) (r + 2) A0 c0 ys (rmany (rbytes ys 1) m s4).2 [.int .i64 3, .int .u64 (v2 : Int), .int .i64 (v3 : Int), .slice none 0 0, .slice none 0 0, .slice A1 n1 c1, .slice none 0 0] ∧ World.ownsRow wx (r + 2) 5 1 (.slice A1 n1 c1) n1 (cellsOf (rmany (rbytes ys 1) m s4).1.flatten)))
 case first =>
  go_wp2_with fail
  go_loopw [9] (fun i wr => ∃ (k : Nat) (A1 : Option Addr) (n1 c1 : Nat), k ≤ m ∧ n1 ≤ k ∧ i = .int .i64 k ∧ Hid (DkR w wr r (r + 1) (r + 2) A0 c0 ys (rmany (rbytes ys 1) k s4).2 [.int .i64 3, .int .u64 (v2 : Int), .int .i64 (v3 : Int), .slice none 0 0, .slice none 0 0, .slice A1 n1 c1, .slice none 0 0] ∧ World.ownsRow wr (r + 2) 5 1 (.slice A1 n1 c1) n1 (cellsOf (rmany (rbytes ys 1) k s4).1.flatten))) (fun i _ => m - (intOf i).toNat)
  case atStart => exact ⟨0, none, 0, 0, by omega, by omega, rfl, HST0⟩
  case round =>
   obtain ⟨k, A1, n1, c1, hk2, hn1, rfl, HKL⟩ := hrel; by_cases hlt : k < m
   · obtain ⟨hdk, how⟩ := HKL.out; have hnx := rmany_snoc (rbytes ys 1) k s4; obtain ⟨I, hI⟩ : ∃ I, (rmany (rbytes ys 1) k s4).1 = I := ⟨_, rfl⟩
     obtain ⟨s, hs⟩ : ∃ s, (rmany (rbytes ys 1) k s4).2 = s := ⟨_, rfl⟩
     rw [hI, hs] at hnx; rw [hs] at hdk; rw [hI] at how; have hN8 := fun W k => (HNB W r A0 c0 s k).out
     obtain ⟨b8, hb8⟩ : ∃ v, (rbytes ys 1 s).1 = v := ⟨_, rfl⟩
     obtain ⟨s8, hs8⟩ : ∃ v, (rbytes ys 1 s).2 = v := ⟨_, rfl⟩
     rw [hb8, hs8] at hN8; rw [show rbytes ys 1 s = (b8, s8) from Prod.ext hb8 hs8] at hnx; have HN8 := kept hN8; have hlt1 : k < v4 := by have := HBM.out; omega
     have hlt2 : k < 240 := by have := HBM.out; omega
     have hq1 : decide (k < v4) = true := by simp [hlt1]
     have hq2 : decide (k < 240) = true := by simp [hlt2]
     have HRB := kept (And.intro hdk.size (And.intro hdk.rq hdk.rf.lt)); have HLT := kept hlt; have HDK := kept hdk; have HOW := kept how; have HNX := kept hnx; clear hnx hI hs hN8 hb8 hs8 hdk how HKL hlt; have z0 : wr.cell? ⟨r + 1, 0, none⟩ = some (.int .i64 3) := HDK.out.box.cell 0; have HDKD : Hid (DkR w wr.drew r (r + 1) (r + 2) A0 c0 ys s [.int .i64 3, .int .u64 (v2 : Int), .int .i64 (v3 : Int), .slice none 0 0, .slice none 0 0, .slice A1 n1 c1, .slice none 0 0]) := kept (HDK.out.new ((Below.refl _ wr).drew)); go_upto_region 31 with fail
     clear z0; refine wp_region_held_drew (S := fun _ => True) (by kernel_rfl) ?_ (fun hHeld => ?_)
     · trivial
     refine hT 0 (some 111) ?_; refine hT 2 (some 113) ?_; refine hV 1 3 (fun K hK => ?_) (fun K hK => ?_)
     · skip; have p6 : wr.drew.cell? ⟨r + 1, 5, none⟩ = some (.slice A1 n1 c1) := HDKD.out.box.cell 5; go_simp; refine hK.out _ _ ?_ (fun hHeld => ?_)
       · trivial
       clear hK K; (try simp only [Act.put, hA, h0, h1]); clear p6; refine hR 3 (fun K hK => ?_); go_simp; go_at_call 149; with_reducible refine (HN8.out _ HDKD.out.rf).mono ?_
       rintro e w8 ⟨A8, n8, c8, rfl, hr8, hR, hO⟩; have HDK8 := kept (HDKD.out.call hR hO); have HOW8 : Hid (w8.ownsRow (r + 2) 5 1 (.slice A1 n1 c1) n1 (cellsOf I.flatten)) := kept (own_turn HOW.out (((Only.refl wr r).drewN 1).trans hO) (by omega)); have HR8 := kept hr8.1; have hn8 : n8 ≤ 1 := hr8.2.2.2; clear hR hO hr8; (try go_wp2_with fail); refine hK.out _ _ ?_ (fun hHeld => ?_)
       · trivial
       clear hK K; (try simp only [Act.put, hA, h0, h1]); refine hR 4 (fun K hK => ?_); refine wp_append_is (.tmp 112) (.tmp 114) 46 rfl (r + 2) 5 rfl rfl Tryz.underlying46 u8info HOW8.out HR8.out (by omega) HDK8.out.size (n1 + n8) (I.flatten ++ b8) rfl rfl ?_; intro A9 c9 w9 how9 hb9; have HDK9 := kept (HDK8.out.new hb9); have HOW9 := kept how9; clear how9 hb9; refine hK.out _ _ ?_ (fun hHeld => ?_)
       · trivial
       clear hK K; (try simp only [Act.put, hA, h0, h1]); refine hT 5 (some 116) ?_; have e6 : w9.cell? ⟨r + 1, 5, none⟩ = some (.slice A1 n1 c1) := HDK9.out.box.cell 5; have f6 := HDK9.out.box.frozen 5; have e0 : w9.cell? ⟨r + 1, 0, none⟩ = some (.int .i64 3) := HDK9.out.box.cell 0; refine hR 6 (fun K hK => ?_); go_simp; refine hK.out _ _ ?_ (fun hHeld => ?_)
       · trivial
       clear hK K; (try simp only [Act.put, hA, h0, h1]); refine wpAnyH_done (by kernel_rfl) ?_ _; have HFIN : Hid (DkR w (w9.setCell ⟨r + 1, 5, none⟩ (.slice A9 (n1 + n8) c9)) r (r + 1) (r + 2) A0 c0 ys (rmany (rbytes ys 1) (k + 1) s4).2 [.int .i64 3, .int .u64 (v2 : Int), .int .i64 (v3 : Int), .slice none 0 0, .slice none 0 0, .slice A9 (n1 + n8) c9, .slice none 0 0] ∧ World.ownsRow (w9.setCell ⟨r + 1, 5, none⟩ (.slice A9 (n1 + n8) c9)) (r + 2) 5 1 (.slice A9 (n1 + n8) c9) (n1 + n8) (cellsOf (rmany (rbytes ys 1) (k + 1) s4).1.flatten)) := kept (by rw [HNX.out]; exact ⟨HDK9.out.setq 5 (.slice A9 (n1 + n8) c9), by rw [show (I ++ [b8]).flatten = I.flatten ++ b8 by simp]; exact own_turn HOW9.out ((Only.refl w9 (r + 1)).setCell 5 _) (by omega)⟩); go_wp2; go_roundw
       case rel => exact ⟨k + 1, A9, n1 + n8, c9, by have := HLT.out; omega, by omega, by go_num, HFIN⟩
       case measure => have := HLT.out; simp [intOf]; omega
     · skip; go_simp; go_at_call 149; with_reducible refine (HN8.out _ HDKD.out.rf).mono ?_
       rintro e w8 ⟨A8, n8, c8, rfl, hr8, hR, hO⟩; have HDK8 := kept (HDKD.out.call hR hO); have HOW8 : Hid (w8.ownsRow (r + 2) 5 1 (.slice A1 n1 c1) n1 (cellsOf I.flatten)) := kept (own_turn HOW.out (((Only.refl wr r).drewN 1).trans hO) (by omega)); have HR8 := kept hr8.1; have hn8 : n8 ≤ 1 := hr8.2.2.2; clear hR hO hr8; (try go_wp2_with fail); refine hK.out _ _ ?_ (fun hHeld => ?_)
       · trivial
       clear hK K; (try simp only [Act.put, hA, h0, h1]); refine hR 1 (fun K hK => ?_); have p6 : w8.cell? ⟨r + 1, 5, none⟩ = some (.slice A1 n1 c1) := HDK8.out.box.cell 5; go_simp; refine hK.out _ _ ?_ (fun hHeld => ?_)
       · trivial
       clear hK K; (try simp only [Act.put, hA, h0, h1]); clear p6; refine hR 4 (fun K hK => ?_); refine wp_append_is (.tmp 112) (.tmp 114) 46 rfl (r + 2) 5 rfl rfl Tryz.underlying46 u8info HOW8.out HR8.out (by omega) HDK8.out.size (n1 + n8) (I.flatten ++ b8) rfl rfl ?_; intro A9 c9 w9 how9 hb9; have HDK9 := kept (HDK8.out.new hb9); have HOW9 := kept how9; clear how9 hb9; refine hK.out _ _ ?_ (fun hHeld => ?_)
       · trivial
       clear hK K; (try simp only [Act.put, hA, h0, h1]); refine hT 5 (some 116) ?_; have e6 : w9.cell? ⟨r + 1, 5, none⟩ = some (.slice A1 n1 c1) := HDK9.out.box.cell 5; have f6 := HDK9.out.box.frozen 5; have e0 : w9.cell? ⟨r + 1, 0, none⟩ = some (.int .i64 3) := HDK9.out.box.cell 0; refine hR 6 (fun K hK => ?_); go_simp; refine hK.out _ _ ?_ (fun hHeld => ?_)
       · trivial
       clear hK K; (try simp only [Act.put, hA, h0, h1]); refine wpAnyH_done (by kernel_rfl) ?_ _; have HFIN : Hid (DkR w (w9.setCell ⟨r + 1, 5, none⟩ (.slice A9 (n1 + n8) c9)) r (r + 1) (r + 2) A0 c0 ys (rmany (rbytes ys 1) (k + 1) s4).2 [.int .i64 3, .int .u64 (v2 : Int), .int .i64 (v3 : Int), .slice none 0 0, .slice none 0 0, .slice A9 (n1 + n8) c9, .slice none 0 0] ∧ World.ownsRow (w9.setCell ⟨r + 1, 5, none⟩ (.slice A9 (n1 + n8) c9)) (r + 2) 5 1 (.slice A9 (n1 + n8) c9) (n1 + n8) (cellsOf (rmany (rbytes ys 1) (k + 1) s4).1.flatten)) := kept (by rw [HNX.out]; exact ⟨HDK9.out.setq 5 (.slice A9 (n1 + n8) c9), by rw [show (I ++ [b8]).flatten = I.flatten ++ b8 by simp]; exact own_turn HOW9.out ((Only.refl w9 (r + 1)).setCell 5 _) (by omega)⟩); go_wp2; go_roundw
       case rel => exact ⟨k + 1, A9, n1 + n8, c9, by have := HLT.out; omega, by omega, by go_num, HFIN⟩
       case measure => have := HLT.out; simp [intOf]; omega
   · obtain rfl : k = m := by omega
     rcases (by have := HBM.out; omega : v4 ≤ k ∨ (k < v4 ∧ k = 240)) with hx | ⟨hx, hx2⟩
     · clear hlt; have hb1 : decide (k < v4) = false := by simp; omega
       go_wp2_with fail
       go_meet
       exact ⟨_, _, _, _, rfl, hn1, HKL⟩
     · have hx3 : 240 ≤ k := by omega
       clear hlt; have hb1 : decide (k < v4) = true := by simp; omega
       have hb2 : decide (k < 240) = false := by simp; omega
       go_wp2_with fail
       go_meet
       exact ⟨_, _, _, _, rfl, hn1, HKL⟩
 case rest =>
 obtain ⟨wx, A1, n1, c1, rfl, hn1, HKO⟩ := hcut; have HKL := kept HKO.out.1; have HST : Hid (Sta (r + 2) wx (fun w2 => RdPg w2 ⟨3, (v2 : Int), (v3 : Int), none, 0, 0, none, 0, 0, A1, n1, c1, none, 0, 0⟩ P)) := kept (fun w2 h2 => by
  have ho := Rd.of_own (own_sta HKO.out.2 w2 h2); rw [HP.out]; exact ⟨rfl, rfl, rfl, RdItems.nil_ _ _, RdKids.nil_ _ _, ho, RdNums.nil_ _ _, by show (0 : Int) ≤ (v2 : Int); omega, by have := HV.out.2.1; show (v2 : Int) < _; omega, Nat.zero_le _, Nat.zero_le _, by have := HBM.out; show n1 ≤ _; omega, Nat.zero_le _⟩)
 have HM : Hid ((0 : Nat) ≤ 1000 ∧ (0 : Nat) ≤ 1000 ∧ (0 : Nat) ≤ 1000) := kept (by omega); clear HKO; obtain ⟨z0, z1, z2, z3, z4, z5, z6⟩ := sevC HKL.out.box; have hrt := refRight04_any ⟨3, (v2 : Int), (v3 : Int), none, 0, 0, none, 0, 0, A1, n1, c1, none, 0, 0⟩ P wx HST.out.here HM.out.1 HM.out.2.1 HM.out.2.2; cases hrb : rightB P with
 | false =>
   rw [hrb] at hrt; have HRT := kept hrt; have HNO : Hid (¬ (rightB P = true ∧ bodyOf P = ys)) := kept (by rw [hrb]; exact fun h => Bool.false_ne_true h.1); clear hrt hrb; go_wp2_with fail
   with_reducible refine HRT.out.mono ?_
   rintro e w5 ⟨rfl, hb5⟩; have hk5 := HKL.out.new (hb5.mono HKL.out.size); obtain ⟨p0, p1, p2, p3, p4, p5, p6⟩ := sevC hk5.res; obtain ⟨t0, t1, t2, t3, t4, t5, t6⟩ := sevF hk5.res; have HK5 := kept hk5; clear hb5 hk5 z0 z1 z2 z3 z4 z5 z6; go_wp2; have hfin := HK5.out.fin (.int .i64 0) (.int .u64 0) (.int .i64 0) (.slice none 0 0) (.slice none 0 0) (.slice none 0 0) (.slice none 0 0); unfold set7 at hfin; generalize (((((((w5.setCell ⟨w.heap.size, 0, none⟩ (.int .i64 0)).setCell ⟨w.heap.size, 1, none⟩ (.int .u64 0)).setCell ⟨w.heap.size, 2, none⟩ (.int .i64 0)).setCell ⟨w.heap.size, 3, none⟩ (.slice none 0 0)).setCell ⟨w.heap.size, 4, none⟩ (.slice none 0 0)).setCell ⟨w.heap.size, 5, none⟩ (.slice none 0 0)).setCell ⟨w.heap.size, 6, none⟩ (.slice none 0 0)) = X at hfin ⊢; obtain ⟨x0, x1, x2, x3, x4, x5, x6⟩ := sevC hfin.2; exact bodyPost_ret (v := .tuple #[zeroV, .int .i64 4]) (by simp [results, Tryz.results94, go_sem, x0, x1, x2, x3, x4, x5, x6]) rfl ⟨hfin.1, .inr ⟨HNO.out, rfl⟩⟩
 | true =>
   rw [hrb] at hrt; have HRT := kept hrt; have HRB := kept hrb; clear hrt hrb; go_wp2_with fail
   with_reducible refine HRT.out.mono ?_
   rintro e w4 ⟨rfl, hb5⟩; have HE := kept (refEncode04_any ⟨3, (v2 : Int), (v3 : Int), none, 0, 0, none, 0, 0, A1, n1, c1, none, 0, 0⟩ P w4 (HST.out.here.below hb5) HRB.out HM.out.1 HM.out.2.1 HM.out.2.2); have HB4 := kept hb5; have hk4 := HKL.out.new (hb5.mono HKL.out.size); clear z0 z1 z2 z3 z4 z5 z6; obtain ⟨z0, z1, z2, z3, z4, z5, z6⟩ := sevC hk4.box; have HK4' := kept hk4; clear hb5 hk4; go_wp2_with fail
   with_reducible refine HE.out.mono ?_
   rintro e w5 ⟨A5, c5, rfl, hown, hb5⟩; have HB5 := kept hb5; have hk5 := HK4'.out.new (hb5.mono HK4'.out.size); obtain ⟨p0, p1, p2, p3, p4, p5, p6⟩ := sevC hk5.res; obtain ⟨t0, t1, t2, t3, t4, t5, t6⟩ := sevF hk5.res; have HRX := kept (HR.out.below hk5.bel); have HRO := kept (Rd.of_own hown); have HK5 := kept hk5; clear z0 z1 z2 z3 z4 z5 z6; obtain ⟨z0, z1, z2, z3, z4, z5, z6⟩ := sevC hk5.box; have hgq : r + 1 ≠ w.heap.size := by have := hk5.wr_; omega
   clear hk5 hb5 hown; by_cases hbd : bodyOf P = ys
   · have HSM := kept (same_any A5 A 256 256 c5 c (sealed (bodyOf P)) xs w5 HRO.out HRX.out true (by rw [decide_eq_true_eq]; exact (HSI.out _).2 hbd)); have HYES := kept (And.intro HRB.out hbd); clear hbd; go_wp2_with (first | (go_at_call 21; (with_reducible refine (HSM.out).mono ?_); rintro e w9 ⟨rfl, rfl⟩))
     have hfin := HK5.out.fin (.int .i64 3) (.int .u64 (v2 : Int)) (.int .i64 (v3 : Int)) (.slice none 0 0) (.slice none 0 0) (.slice A1 n1 c1) (.slice none 0 0); have ho7 := only7 w5 w.heap.size (.int .i64 3) (.int .u64 (v2 : Int)) (.int .i64 (v3 : Int)) (.slice none 0 0) (.slice none 0 0) (.slice A1 n1 c1) (.slice none 0 0); unfold set7 at hfin ho7; generalize (((((((w5.setCell ⟨w.heap.size, 0, none⟩ (.int .i64 3)).setCell ⟨w.heap.size, 1, none⟩ (.int .u64 (v2 : Int))).setCell ⟨w.heap.size, 2, none⟩ (.int .i64 (v3 : Int))).setCell ⟨w.heap.size, 3, none⟩ (.slice none 0 0)).setCell ⟨w.heap.size, 4, none⟩ (.slice none 0 0)).setCell ⟨w.heap.size, 5, none⟩ (.slice A1 n1 c1)).setCell ⟨w.heap.size, 6, none⟩ (.slice none 0 0)) = X at hfin ho7 ⊢; obtain ⟨x0, x1, x2, x3, x4, x5, x6⟩ := sevC hfin.2; have hst := HST.out X (((Onl.refl.step (Only.of_below (r := r) HB4.out) (by omega)).step (Only.of_below (r := r) HB5.out) (by omega)).step ho7 (by have := HK5.out.wr_; omega)); exact bodyPost_ret (v := .tuple #[.agg #[.int .i64 3, .int .u64 (v2 : Int), .int .i64 (v3 : Int), .slice none 0 0, .slice none 0 0, .slice A1 n1 c1, .slice none 0 0], .int .i64 0]) (by simp [results, Tryz.results94, go_sem, x0, x1, x2, x3, x4, x5, x6]) rfl ⟨hfin.1, .inl ⟨HYES.out, ⟨3, (v2 : Int), (v3 : Int), none, 0, 0, none, 0, 0, A1, n1, c1, none, 0, 0⟩, rfl, hst, HM.out⟩⟩
   · have HSM := kept (same_any A5 A 256 256 c5 c (sealed (bodyOf P)) xs w5 HRO.out HRX.out false (by rw [decide_eq_false_iff_not]; exact fun e => hbd ((HSI.out _).1 e))); have HNO : Hid (¬ (rightB P = true ∧ bodyOf P = ys)) := kept (fun h => hbd h.2); clear hbd; go_wp2_with (first | (go_at_call 21; (with_reducible refine (HSM.out).mono ?_); rintro e w9 ⟨rfl, rfl⟩))
     have hfin := HK5.out.fin (.int .i64 0) (.int .u64 0) (.int .i64 0) (.slice none 0 0) (.slice none 0 0) (.slice none 0 0) (.slice none 0 0); unfold set7 at hfin; generalize (((((((w5.setCell ⟨w.heap.size, 0, none⟩ (.int .i64 0)).setCell ⟨w.heap.size, 1, none⟩ (.int .u64 0)).setCell ⟨w.heap.size, 2, none⟩ (.int .i64 0)).setCell ⟨w.heap.size, 3, none⟩ (.slice none 0 0)).setCell ⟨w.heap.size, 4, none⟩ (.slice none 0 0)).setCell ⟨w.heap.size, 5, none⟩ (.slice none 0 0)).setCell ⟨w.heap.size, 6, none⟩ (.slice none 0 0)) = X at hfin ⊢; obtain ⟨x0, x1, x2, x3, x4, x5, x6⟩ := sevC hfin.2; exact bodyPost_ret (v := .tuple #[zeroV, .int .i64 4]) (by simp [results, Tryz.results94, go_sem, x0, x1, x2, x3, x4, x5, x6]) rfl ⟨hfin.1, .inr ⟨HNO.out, rfl⟩⟩
attribute [local go_sem ↓] Go.wp_at_zero Go.wp_at_succ
def New4 (w : World) (e : Ending) : Prop := ∀ (l : Lay) (er : Int), e = .returned (.tuple #[l.val, .int .i64 er]) → ∀ a : Addr, l.a4 = some a → w.heap.size ≤ a.block
theorem New4.of {w : World} {v0 v1 v2 v3 v4 v5 : Value} {A : Option Addr} {n c : Nat} {er : Int} (h : ∀ a : Addr, A = some a → w.heap.size ≤ a.block) : New4 w (.returned (.tuple #[.agg #[v0, v1, v2, v3, v4, v5, .slice A n c], .int .i64 er])) := fun l er' e g hg => by
 have e1 : A = l.a4 := by
  simp only [Ending.returned.injEq, Value.tuple.injEq, Array.mk.injEq, List.cons.injEq, Value.agg.injEq, Value.slice.injEq, Lay.val] at e; exact e.1.2.2.2.2.2.2.1.1
 exact h g (by rw [e1]; exact hg)
theorem refDecode_ids (A : Option Addr) (c : Nat) (xs : List UInt8) (w : World) (hr : Rd w A 256 xs) (hc : 256 ≤ c) (hw : num (xs.take 4) 0 = csum (xs.drop 4)) (hk : (rnum (xs.drop 4) 1 (0, 0)).1 = 4) :
 Calls Tryz.prog 94 #[.slice A 256 c] w (fun e w' => DecAns w xs e w' ∧ New4 w e) := by
 have HO := fun o => kept (open_good4 A c xs (w.alloc o) (hr.alloc o) hc hw)
 have hyl : (xs.drop 4).length = 252 := by rw [List.length_drop, hr.1]
 have HR := kept hr; have HSI : Hid (∀ zs, (sealed zs = xs) ↔ (zs = xs.drop 4)) := kept (fun zs => ⟨fun e => by rw [← e, sealed_drop], fun e => by rw [e]; exact (sealed_iff xs (by have := hr.1; omega)).2 hw⟩); have HPG : Hid (refpage (xs.drop 4) (0, 0) = refpage (xs.drop 4) (0, 0)) := rfl; obtain ⟨ys, hys⟩ : ∃ ys, xs.drop 4 = ys := ⟨_, rfl⟩
 rw [hys] at HO hyl HSI hk; unfold DecAns; rw [hys]; clear hr hw hys HPG; have h1 := fun W r A c (k : RF W r A 252 c ys (0, 0)) => refNum1 r A 252 c ys (0, 0) W k
 have l1 := rnum_lt ys 1 (0, 0); obtain ⟨v1, hv1⟩ : ∃ v, (rnum ys 1 (0, 0)).1 = v := ⟨_, rfl⟩
 obtain ⟨s1, hs1⟩ : ∃ v, (rnum ys 1 (0, 0)).2 = v := ⟨_, rfl⟩
 rw [hv1, hs1] at h1; rw [hv1] at l1 hk; have h2 := fun W r A c (k : RF W r A 252 c ys s1) => refNum8 r A 252 c ys s1 W k
 have l2 := rnum_lt ys 8 s1; obtain ⟨v2, hv2⟩ : ∃ v, (rnum ys 8 s1).1 = v := ⟨_, rfl⟩
 obtain ⟨s2, hs2⟩ : ∃ v, (rnum ys 8 s1).2 = v := ⟨_, rfl⟩
 rw [hv2, hs2] at h2; rw [hv2] at l2; have h3 := fun W r A c (k : RF W r A 252 c ys s2) => refNum4 r A 252 c ys s2 W k
 have l3 := rnum_lt ys 4 s2; obtain ⟨v3, hv3⟩ : ∃ v, (rnum ys 4 s2).1 = v := ⟨_, rfl⟩
 obtain ⟨s3, hs3⟩ : ∃ v, (rnum ys 4 s2).2 = v := ⟨_, rfl⟩
 rw [hv3, hs3] at h3; rw [hv3] at l3; have h4 := fun W r A c (k : RF W r A 252 c ys s3) => refNum2 r A 252 c ys s3 W k
 have l4 := rnum_lt ys 2 s3; obtain ⟨v4, hv4⟩ : ∃ v, (rnum ys 2 s3).1 = v := ⟨_, rfl⟩
 obtain ⟨s4, hs4⟩ : ∃ v, (rnum ys 2 s3).2 = v := ⟨_, rfl⟩
 rw [hv4, hs4] at h4; rw [hv4] at l4; have hrp : refpage ys (0, 0) = ⟨(v1 : Int), (v2 : Int), (v3 : Int), if v1 = 1 then (rmany (ritem ys) (min v4 240) s4).1 else [], if v1 = 2 then (rmany (rkid ys) (min v4 240) s4).1 else [], if v1 = 3 then (rmany (rbytes ys 1) (min v4 240) s4).1.flatten else [], if v1 = 4 then (rmany (rid ys) (min v4 240) s4).1 else []⟩ := by
  simp only [refpage, hv1, hs1, hv2, hs2, hv3, hs3, hv4, hs4]
 rw [if_neg (by omega), if_neg (by omega), if_neg (by omega), if_pos hk] at hrp; have HKD := kept hk; clear hk; obtain ⟨P, hP⟩ : ∃ P, refpage ys (0, 0) = P := ⟨_, rfl⟩
 rw [hP]; rw [hP] at hrp; have HP := kept hrp; clear hrp hP hv1 hs1 hv2 hs2 hv3 hs3 hv4 hs4; have H1 := kept h1; have H2 := kept h2; have H3 := kept h3; have H4 := kept h4; have HV := kept (And.intro l1 (And.intro l2 (And.intro l3 l4))); have hw1 : IntKind.i64.wrap (v1 : Int) = (v1 : Int) := IntWalk.i64_in _ ⟨by omega, by omega⟩; have hw3 : IntKind.i64.wrap (v3 : Int) = (v3 : Int) := IntWalk.i64_in _ ⟨by omega, by omega⟩; have hw4 : IntKind.i64.wrap (v4 : Int) = (v4 : Int) := IntWalk.i64_in _ ⟨by omega, by omega⟩; clear l1 l2 l3 l4 h1 h2 h3 h4; go_enter Tryz.func94, Tryz.ntmps94; go_wp2_with fail
 with_reducible refine (HO _).out.mono ?_
 rintro e w0 ⟨A0, c0, rfl, hd, hc0, hb⟩; have hx : ∀ W : World, W = (w0.alloc (.cells #[.slice A0 252 c0, .int .i64 0, .int .i64 0] 275)).alloc (.cells #[.int .i64 0, .int .u64 0, .int .i64 0, .slice none 0 0, .slice none 0 0, .slice none 0 0, .slice none 0 0] 197) → DkR w W w0.heap.size (w0.heap.size + 1) (w0.heap.size + 2) A0 c0 ys (0, 0) rz7 ∧ W.heap.size = w0.heap.size + 2 := by
  intro W e; have hn := Blk.new (w0.alloc (.cells #[.slice A0 252 c0, .int .i64 0, .int .i64 0] 275)) 197 #[.int .i64 0, .int .u64 0, .int .i64 0, .slice none 0 0, .slice none 0 0, .slice none 0 0, .slice none 0 0]; rw [World.size_alloc] at hn; have hq := (Blk.new w 197 #[.int .i64 0, .int .u64 0, .int .i64 0, .slice none 0 0, .slice none 0 0, .slice none 0 0, .slice none 0 0]).below hb (by simp); have hbb := below_to hb ((Below.refl _ w).alloc (Nat.le_refl _) (.cells #[.int .i64 0, .int .u64 0, .int .i64 0, .slice none 0 0, .slice none 0 0, .slice none 0 0, .slice none 0 0] 197)); rw [e]; exact ⟨⟨⟨⟨(Blk.new w0 275 #[.slice A0 252 c0, .int .i64 0, .int .i64 0]).alloc _, (hd.alloc _).alloc _⟩, Nat.zero_le _, .inl rfl, hc0, by omega⟩, hn, (hq.alloc _).alloc _, (hbb.alloc hbb.size _).alloc (by have := hbb.size; simp; omega) _, hq.lt, Nat.lt_succ_self _, by omega, by simp, hd.und⟩, by simp⟩
 have HX := kept hx; clear hd hc0 hb hx; go_wp2_with fail
 obtain ⟨W0, hW0⟩ : ∃ W, W = (w0.alloc (.cells #[.slice A0 252 c0, .int .i64 0, .int .i64 0] 275)).alloc (.cells #[.int .i64 0, .int .u64 0, .int .i64 0, .slice none 0 0, .slice none 0 0, .slice none 0 0, .slice none 0 0] 197) := ⟨_, rfl⟩
 rw [← hW0]; obtain ⟨hk0, hsz⟩ := HX.out W0 hW0; have HK0 := kept hk0; have HZ0 := kept hsz; clear hW0 HX hk0 hsz; generalize w0.heap.size = r at HK0 HZ0 ⊢; with_reducible refine (H1.out _ r A0 c0 HK0.out.rf).mono ?_
 rintro e w1 ⟨rfl, hR, hO⟩; have hk1 := HK0.out.call hR hO; clear hR hO; have e0 := hk1.box.cell 0; have f0 := hk1.box.frozen 0; simp only [List.getElem?_cons_zero, List.getElem?_cons_succ] at e0; have hs := hk1.setq 0 (.int .i64 (v1 : Int)); simp only [List.set_cons_zero, List.set_cons_succ] at hs; have HS := kept hs; clear hk1 hs; go_wp2_with fail
 clear e0 f0; generalize (w1.setCell ⟨r + 1, 0, none⟩ (.int .i64 (v1 : Int))) = X1 at HS ⊢; have HK1 := HS; clear HS; with_reducible refine (H2.out _ r A0 c0 HK1.out.rf).mono ?_
 rintro e w2 ⟨rfl, hR, hO⟩; have hk2 := HK1.out.call hR hO; clear hR hO; have e0 := hk2.box.cell 1; have f0 := hk2.box.frozen 1; simp only [List.getElem?_cons_zero, List.getElem?_cons_succ] at e0; have hs := hk2.setq 1 (.int .u64 (v2 : Int)); simp only [List.set_cons_zero, List.set_cons_succ] at hs; have HS := kept hs; clear hk2 hs; go_wp2_with fail
 clear e0 f0; generalize (w2.setCell ⟨r + 1, 1, none⟩ (.int .u64 (v2 : Int))) = X2 at HS ⊢; have HK2 := HS; clear HS; with_reducible refine (H3.out _ r A0 c0 HK2.out.rf).mono ?_
 rintro e w3 ⟨rfl, hR, hO⟩; have hk3 := HK2.out.call hR hO; clear hR hO; have e0 := hk3.box.cell 2; have f0 := hk3.box.frozen 2; simp only [List.getElem?_cons_zero, List.getElem?_cons_succ] at e0; have hs := hk3.setq 2 (.int .i64 (v3 : Int)); simp only [List.set_cons_zero, List.set_cons_succ] at hs; have HS := kept hs; clear hk3 hs; go_wp2_with fail
 clear e0 f0; generalize (w3.setCell ⟨r + 1, 2, none⟩ (.int .i64 (v3 : Int))) = X3 at HS ⊢; have HK3 := HS; clear HS; with_reducible refine (H4.out _ r A0 c0 HK3.out.rf).mono ?_
 rintro e w4 ⟨rfl, hR, hO⟩; have hk4 := HK3.out.call hR hO; clear hR hO; have HK4 := kept hk4; clear hk4; obtain ⟨m, hm⟩ : ∃ m, min v4 240 = m := ⟨_, rfl⟩
 have hm1 : m ≤ 240 := by omega
 have hm2 : m ≤ v4 := by omega
 have hm3 : m < 240 → v4 ≤ m := by omega
 rw [hm] at HP; obtain rfl := HKD.out; clear HKD; have hst0 : DkR w w4 r (r + 1) (r + 2) A0 c0 ys (rmany (rid ys) 0 s4).2 [.int .i64 4, .int .u64 (v2 : Int), .int .i64 (v3 : Int), .slice none 0 0, .slice none 0 0, .slice none 0 0, .slice none 0 0] ∧ Ow kNum w4 (r + 2) 3 (fun g => g < r + 2) none 0 0 (rmany (rid ys) 0 s4).1 := ⟨by simpa [rmany] using HK4.out, Ow.nil_ _⟩
 have HST0 := kept hst0; have HN1 := fun W r A c s (k : RF W r A 252 c ys s) => kept (refNum1 r A 252 c ys s W k)
 have HN2 := fun W r A c s (k : RF W r A 252 c ys s) => kept (refNum2 r A 252 c ys s W k)
 have HN4 := fun W r A c s (k : RF W r A 252 c ys s) => kept (refNum4 r A 252 c ys s W k)
 have HNB := fun W r A c s m (k : RF W r A 252 c ys s) hm => kept (refBytes_any r A 252 c ys s m W k hm)
 have HBM := kept (And.intro hm1 (And.intro hm2 hm3)); clear hst0 hm hm1 hm2 hm3
 go_upto_block 0 with fail
 clear hw1 hw3 hw4
 go_cut [9] (fun s9 wx => ∃ W A1 c1, W = wx ∧ Hid (DkR w wx r (r + 1) (r + 2) A0 c0 ys (rmany (rid ys) m s4).2 [.int .i64 4, .int .u64 (v2 : Int), .int .i64 (v3 : Int), .slice none 0 0, .slice none 0 0, .slice none 0 0, .slice A1 m c1] ∧ Ow kNum wx (r + 2) 3 (fun g => g < r + 2) A1 m c1 (rmany (rid ys) m s4).1))
 case first =>
  go_wp2_with fail
  go_loopw [9] (fun i wr => ∃ (k : Nat) (A1 : Option Addr) (c1 : Nat), k ≤ m ∧ i = .int .i64 k ∧ Hid (DkR w wr r (r + 1) (r + 2) A0 c0 ys (rmany (rid ys) k s4).2 [.int .i64 4, .int .u64 (v2 : Int), .int .i64 (v3 : Int), .slice none 0 0, .slice none 0 0, .slice none 0 0, .slice A1 k c1] ∧ Ow kNum wr (r + 2) 3 (fun g => g < r + 2) A1 k c1 (rmany (rid ys) k s4).1)) (fun i _ => m - (intOf i).toNat)
  case atStart => exact ⟨0, none, 0, by omega, rfl, HST0⟩
  case round =>
   obtain ⟨k, A1, c1, hk2, rfl, HKL⟩ := hrel; by_cases hlt : k < m
   · obtain ⟨hdk, how⟩ := HKL.out; have hnx := rmany_snoc (rid ys) k s4; obtain ⟨I, hI⟩ : ∃ I, (rmany (rid ys) k s4).1 = I := ⟨_, rfl⟩
     obtain ⟨s, hs⟩ : ∃ s, (rmany (rid ys) k s4).2 = s := ⟨_, rfl⟩
     rw [hI, hs] at hnx; rw [hs] at hdk; rw [hI] at how; have hN8 := fun W k => (HN4 W r A0 c0 s k).out
     have l8 := rnum_lt ys 4 s; obtain ⟨v8, hv8⟩ : ∃ v, (rnum ys 4 s).1 = v := ⟨_, rfl⟩
     obtain ⟨s8, hs8⟩ : ∃ v, (rnum ys 4 s).2 = v := ⟨_, rfl⟩
     rw [hv8, hs8] at hN8; rw [hv8] at l8; have hit : rid ys s = ((v8 : Int), s8) := by simp [rid, hv8, hs8]
     rw [hit] at hnx; have hw8 : IntKind.i64.wrap (v8 : Int) = (v8 : Int) := IntWalk.i64_in _ ⟨by omega, by omega⟩; have HN8 := kept hN8; have hlt1 : k < v4 := by have := HBM.out; omega
     have hlt2 : k < 240 := by have := HBM.out; omega
     have hq1 : decide (k < v4) = true := by simp [hlt1]
     have hq2 : decide (k < 240) = true := by simp [hlt2]
     have HRB := kept (And.intro hdk.size (And.intro hdk.rq hdk.rf.lt)); have HLT := kept hlt; have HDK := kept hdk; have HOW := kept how; have HNX := kept hnx; clear hnx hI hs hN8 hv8 hs8 hit hdk how HKL hlt l8; have z0 : wr.cell? ⟨r + 1, 0, none⟩ = some (.int .i64 4) := HDK.out.box.cell 0; have HDKD : Hid (DkR w wr.drew r (r + 1) (r + 2) A0 c0 ys s [.int .i64 4, .int .u64 (v2 : Int), .int .i64 (v3 : Int), .slice none 0 0, .slice none 0 0, .slice none 0 0, .slice A1 k c1]) := kept (HDK.out.new ((Below.refl _ wr).drew)); go_upto_region 33 with fail
     clear z0; refine wp_region_held_drew (S := fun _ => True) (by kernel_rfl) ?_ (fun hHeld => ?_)
     · trivial
     refine hT 0 (some 120) ?_; refine hT 2 (some 122) ?_; refine hV 1 3 (fun K hK => ?_) (fun K hK => ?_)
     · skip; have p6 : wr.drew.cell? ⟨r + 1, 6, none⟩ = some (.slice A1 k c1) := HDKD.out.box.cell 6; go_simp; refine hK.out _ _ ?_ (fun hHeld => ?_)
       · trivial
       clear hK K; (try simp only [Act.put, hA, h0, h1]); clear p6; refine hR 3 (fun K hK => ?_); go_simp; go_at_call 148; with_reducible refine (HN8.out _ HDKD.out.rf).mono ?_
       rintro e w8 ⟨rfl, hR, hO⟩; have HDK8 := kept (HDKD.out.call hR hO); have HO8 : Hid (Only wr w8 r) := kept (((Only.refl wr r).drewN 1).trans hO); clear hR hO; (try go_wp2_with fail); refine hK.out _ _ ?_ (fun hHeld => ?_)
       · trivial
       clear hK K; (try simp only [Act.put, hA, h0, h1]); refine hT 4 (some 124) ?_; refine hR 5 (fun K hK => ?_); go_simp; refine world_named (fun W6 hW => ?_); have HDK6 : Hid (DkR w W6 r (r + 1) (r + 2) A0 c0 ys s8 [.int .i64 4, .int .u64 (v2 : Int), .int .i64 (v3 : Int), .slice none 0 0, .slice none 0 0, .slice none 0 0, .slice A1 k c1]) := kept (by rw [hW]; exact HDK8.out.alloc _); have HNC : Hid (∀ j u, (kNum.cells (v8 : Int))[j]? = some u → W6.cell? ((⟨w8.heap.size, 0, none⟩ : Addr).add j) = some u) := kept (by rw [hW]; exact fun j u hu => new_cells1 w8 (.int .i64 (v8 : Int)) 3 j u hu); have HOW6 : Hid (Ow kNum W6 (r + 2) 3 (fun g => g < r + 2) A1 k c1 I) := kept (by rw [hW]; exact (HOW.out.turn (r := r) HO8.out (.inl (by omega))).below ((Below.refl _ w8).alloc (Nat.le_refl _) _)); clear hW; refine hK.out _ _ ?_ (fun hHeld => ?_)
       · trivial
       clear hK K; (try simp only [Act.put, hA, h0, h1]); refine hR 6 (fun K hK => ?_); refine wp_append_ow (K := kNum) (F := fun g => g < r + 2) (.tmp 121) (.tmp 125) 60 rfl Tryz.underlying60 numInfo rfl rfl HOW6.out ⟨w8.heap.size, 0, none⟩ 1 (v8 : Int) (v8 : Int) rfl HNC.out rfl (fun _ _ => trivial) (fun _ _ => trivial) (fun h e => Nat.lt_of_lt_of_le e HDK6.out.size) (by unfold maxLen; omega) (by omega) HDK6.out.size ?_; intro A9 c9 w9 how9 hb9 hk9; have HDK9 := kept (HDK6.out.new hb9); have HOW9 := kept how9; clear how9 hb9 hk9; refine hK.out _ _ ?_ (fun hHeld => ?_)
       · trivial
       clear hK K; (try simp only [Act.put, hA, h0, h1]); refine hT 7 (some 127) ?_; have e6 : w9.cell? ⟨r + 1, 6, none⟩ = some (.slice A1 k c1) := HDK9.out.box.cell 6; have f6 := HDK9.out.box.frozen 6; refine hR 8 (fun K hK => ?_); go_simp; refine hK.out _ _ ?_ (fun hHeld => ?_)
       · trivial
       clear hK K; (try simp only [Act.put, hA, h0, h1]); refine wpAnyH_done (by kernel_rfl) ?_ _; have HFIN : Hid (DkR w (w9.setCell ⟨r + 1, 6, none⟩ (.slice A9 (k + 1) c9)) r (r + 1) (r + 2) A0 c0 ys (rmany (rid ys) (k + 1) s4).2 [.int .i64 4, .int .u64 (v2 : Int), .int .i64 (v3 : Int), .slice none 0 0, .slice none 0 0, .slice none 0 0, .slice A9 (k + 1) c9] ∧ Ow kNum (w9.setCell ⟨r + 1, 6, none⟩ (.slice A9 (k + 1) c9)) (r + 2) 3 (fun g => g < r + 2) A9 (k + 1) c9 (rmany (rid ys) (k + 1) s4).1) := kept (by rw [HNX.out]; exact ⟨HDK9.out.setq 6 (.slice A9 (k + 1) c9), HOW9.out.turn (r := r + 1) ((Only.refl w9 (r + 1)).setCell 6 _) (.inl (by omega))⟩); clear e6 f6; go_wp2; go_roundw
       case rel => exact ⟨k + 1, A9, c9, by have := HLT.out; omega, by go_num, HFIN⟩
       case measure => have := HLT.out; simp [intOf]; omega
     · skip; go_simp; go_at_call 148; with_reducible refine (HN8.out _ HDKD.out.rf).mono ?_
       rintro e w8 ⟨rfl, hR, hO⟩; have HDK8 := kept (HDKD.out.call hR hO); have HO8 : Hid (Only wr w8 r) := kept (((Only.refl wr r).drewN 1).trans hO); clear hR hO; (try go_wp2_with fail); refine hK.out _ _ ?_ (fun hHeld => ?_)
       · trivial
       clear hK K; (try simp only [Act.put, hA, h0, h1]); refine hT 4 (some 124) ?_; refine hV 1 5 (fun K hK => ?_) (fun K hK => ?_)
       · skip; have p6 : w8.cell? ⟨r + 1, 6, none⟩ = some (.slice A1 k c1) := HDK8.out.box.cell 6; go_simp; refine hK.out _ _ ?_ (fun hHeld => ?_)
         · trivial
         clear hK K; (try simp only [Act.put, hA, h0, h1]); clear p6; refine hR 5 (fun K hK => ?_); go_simp; refine world_named (fun W6 hW => ?_); have HDK6 : Hid (DkR w W6 r (r + 1) (r + 2) A0 c0 ys s8 [.int .i64 4, .int .u64 (v2 : Int), .int .i64 (v3 : Int), .slice none 0 0, .slice none 0 0, .slice none 0 0, .slice A1 k c1]) := kept (by rw [hW]; exact HDK8.out.alloc _); have HNC : Hid (∀ j u, (kNum.cells (v8 : Int))[j]? = some u → W6.cell? ((⟨w8.heap.size, 0, none⟩ : Addr).add j) = some u) := kept (by rw [hW]; exact fun j u hu => new_cells1 w8 (.int .i64 (v8 : Int)) 3 j u hu); have HOW6 : Hid (Ow kNum W6 (r + 2) 3 (fun g => g < r + 2) A1 k c1 I) := kept (by rw [hW]; exact (HOW.out.turn (r := r) HO8.out (.inl (by omega))).below ((Below.refl _ w8).alloc (Nat.le_refl _) _)); clear hW; refine hK.out _ _ ?_ (fun hHeld => ?_)
         · trivial
         clear hK K; (try simp only [Act.put, hA, h0, h1]); refine hR 6 (fun K hK => ?_); refine wp_append_ow (K := kNum) (F := fun g => g < r + 2) (.tmp 121) (.tmp 125) 60 rfl Tryz.underlying60 numInfo rfl rfl HOW6.out ⟨w8.heap.size, 0, none⟩ 1 (v8 : Int) (v8 : Int) rfl HNC.out rfl (fun _ _ => trivial) (fun _ _ => trivial) (fun h e => Nat.lt_of_lt_of_le e HDK6.out.size) (by unfold maxLen; omega) (by omega) HDK6.out.size ?_; intro A9 c9 w9 how9 hb9 hk9; have HDK9 := kept (HDK6.out.new hb9); have HOW9 := kept how9; clear how9 hb9 hk9; refine hK.out _ _ ?_ (fun hHeld => ?_)
         · trivial
         clear hK K; (try simp only [Act.put, hA, h0, h1]); refine hT 7 (some 127) ?_; have e6 : w9.cell? ⟨r + 1, 6, none⟩ = some (.slice A1 k c1) := HDK9.out.box.cell 6; have f6 := HDK9.out.box.frozen 6; refine hR 8 (fun K hK => ?_); go_simp; refine hK.out _ _ ?_ (fun hHeld => ?_)
         · trivial
         clear hK K; (try simp only [Act.put, hA, h0, h1]); refine wpAnyH_done (by kernel_rfl) ?_ _; have HFIN : Hid (DkR w (w9.setCell ⟨r + 1, 6, none⟩ (.slice A9 (k + 1) c9)) r (r + 1) (r + 2) A0 c0 ys (rmany (rid ys) (k + 1) s4).2 [.int .i64 4, .int .u64 (v2 : Int), .int .i64 (v3 : Int), .slice none 0 0, .slice none 0 0, .slice none 0 0, .slice A9 (k + 1) c9] ∧ Ow kNum (w9.setCell ⟨r + 1, 6, none⟩ (.slice A9 (k + 1) c9)) (r + 2) 3 (fun g => g < r + 2) A9 (k + 1) c9 (rmany (rid ys) (k + 1) s4).1) := kept (by rw [HNX.out]; exact ⟨HDK9.out.setq 6 (.slice A9 (k + 1) c9), HOW9.out.turn (r := r + 1) ((Only.refl w9 (r + 1)).setCell 6 _) (.inl (by omega))⟩); clear e6 f6; go_wp2; go_roundw
         case rel => exact ⟨k + 1, A9, c9, by have := HLT.out; omega, by go_num, HFIN⟩
         case measure => have := HLT.out; simp [intOf]; omega
       · skip; go_simp; refine world_named (fun W6 hW => ?_); have HDK6 : Hid (DkR w W6 r (r + 1) (r + 2) A0 c0 ys s8 [.int .i64 4, .int .u64 (v2 : Int), .int .i64 (v3 : Int), .slice none 0 0, .slice none 0 0, .slice none 0 0, .slice A1 k c1]) := kept (by rw [hW]; exact HDK8.out.alloc _); have HNC : Hid (∀ j u, (kNum.cells (v8 : Int))[j]? = some u → W6.cell? ((⟨w8.heap.size, 0, none⟩ : Addr).add j) = some u) := kept (by rw [hW]; exact fun j u hu => new_cells1 w8 (.int .i64 (v8 : Int)) 3 j u hu); have HOW6 : Hid (Ow kNum W6 (r + 2) 3 (fun g => g < r + 2) A1 k c1 I) := kept (by rw [hW]; exact (HOW.out.turn (r := r) HO8.out (.inl (by omega))).below ((Below.refl _ w8).alloc (Nat.le_refl _) _)); clear hW; refine hK.out _ _ ?_ (fun hHeld => ?_)
         · trivial
         clear hK K; (try simp only [Act.put, hA, h0, h1]); refine hR 1 (fun K hK => ?_); have p6 : W6.cell? ⟨r + 1, 6, none⟩ = some (.slice A1 k c1) := HDK6.out.box.cell 6; go_simp; refine hK.out _ _ ?_ (fun hHeld => ?_)
         · trivial
         clear hK K; (try simp only [Act.put, hA, h0, h1]); clear p6; refine hR 6 (fun K hK => ?_); refine wp_append_ow (K := kNum) (F := fun g => g < r + 2) (.tmp 121) (.tmp 125) 60 rfl Tryz.underlying60 numInfo rfl rfl HOW6.out ⟨w8.heap.size, 0, none⟩ 1 (v8 : Int) (v8 : Int) rfl HNC.out rfl (fun _ _ => trivial) (fun _ _ => trivial) (fun h e => Nat.lt_of_lt_of_le e HDK6.out.size) (by unfold maxLen; omega) (by omega) HDK6.out.size ?_; intro A9 c9 w9 how9 hb9 hk9; have HDK9 := kept (HDK6.out.new hb9); have HOW9 := kept how9; clear how9 hb9 hk9; refine hK.out _ _ ?_ (fun hHeld => ?_)
         · trivial
         clear hK K; (try simp only [Act.put, hA, h0, h1]); refine hT 7 (some 127) ?_; have e6 : w9.cell? ⟨r + 1, 6, none⟩ = some (.slice A1 k c1) := HDK9.out.box.cell 6; have f6 := HDK9.out.box.frozen 6; refine hR 8 (fun K hK => ?_); go_simp; refine hK.out _ _ ?_ (fun hHeld => ?_)
         · trivial
         clear hK K; (try simp only [Act.put, hA, h0, h1]); refine wpAnyH_done (by kernel_rfl) ?_ _; have HFIN : Hid (DkR w (w9.setCell ⟨r + 1, 6, none⟩ (.slice A9 (k + 1) c9)) r (r + 1) (r + 2) A0 c0 ys (rmany (rid ys) (k + 1) s4).2 [.int .i64 4, .int .u64 (v2 : Int), .int .i64 (v3 : Int), .slice none 0 0, .slice none 0 0, .slice none 0 0, .slice A9 (k + 1) c9] ∧ Ow kNum (w9.setCell ⟨r + 1, 6, none⟩ (.slice A9 (k + 1) c9)) (r + 2) 3 (fun g => g < r + 2) A9 (k + 1) c9 (rmany (rid ys) (k + 1) s4).1) := kept (by rw [HNX.out]; exact ⟨HDK9.out.setq 6 (.slice A9 (k + 1) c9), HOW9.out.turn (r := r + 1) ((Only.refl w9 (r + 1)).setCell 6 _) (.inl (by omega))⟩); clear e6 f6; go_wp2; go_roundw
         case rel => exact ⟨k + 1, A9, c9, by have := HLT.out; omega, by go_num, HFIN⟩
         case measure => have := HLT.out; simp [intOf]; omega
   · obtain rfl : k = m := by omega
     rcases (by have := HBM.out; omega : v4 ≤ k ∨ (k < v4 ∧ k = 240)) with hx | ⟨hx, hx2⟩
     · clear hlt; have hb1 : decide (k < v4) = false := by simp; omega
       go_wp2_with fail
       go_meet
       exact ⟨_, _, _, rfl, HKL⟩
     · have hx3 : 240 ≤ k := by omega
       clear hlt; have hb1 : decide (k < v4) = true := by simp; omega
       have hb2 : decide (k < 240) = false := by simp; omega
       go_wp2_with fail
       go_meet
       exact ⟨_, _, _, rfl, HKL⟩
 case rest =>
 obtain ⟨wx, A1, c1, rfl, HKO⟩ := hcut; have HKL := kept HKO.out.1; have HST : Hid (Sta (r + 2) wx (fun w2 => RdPg w2 ⟨4, (v2 : Int), (v3 : Int), none, 0, 0, none, 0, 0, none, 0, 0, A1, m, c1⟩ P)) := kept (fun w2 h2 => by
  have ho := (HKO.out.2.sta w2 h2).nums; rw [HP.out]; exact ⟨rfl, rfl, rfl, RdItems.nil_ _ _, RdKids.nil_ _ _, Rd.nil_ _ _, ho, by show (0 : Int) ≤ (v2 : Int); omega, by have := HV.out.2.1; show (v2 : Int) < _; omega, Nat.zero_le _, Nat.zero_le _, Nat.zero_le _, by have := HBM.out; show m ≤ _; omega⟩)
 have HM : Hid ((0 : Nat) ≤ 1000 ∧ (0 : Nat) ≤ 1000 ∧ m ≤ 1000) := kept (by have := HBM.out; omega); have HNEW : Hid (∀ a : Addr, A1 = some a → w.heap.size ≤ a.block) := kept (fun a ha => by
  have h1 := (HKO.out.2.lt (g := a.block) (by rw [ha]; rfl)).1; have h2 := HKO.out.1.wr_
  omega)
 clear HKO; obtain ⟨z0, z1, z2, z3, z4, z5, z6⟩ := sevC HKL.out.box; have hrt := refRight04_any ⟨4, (v2 : Int), (v3 : Int), none, 0, 0, none, 0, 0, none, 0, 0, A1, m, c1⟩ P wx HST.out.here HM.out.1 HM.out.2.1 HM.out.2.2; cases hrb : rightB P with
 | false =>
   rw [hrb] at hrt; have HRT := kept hrt; have HNO : Hid (¬ (rightB P = true ∧ bodyOf P = ys)) := kept (by rw [hrb]; exact fun h => Bool.false_ne_true h.1); clear hrt hrb; go_wp2_with fail
   with_reducible refine HRT.out.mono ?_
   rintro e w5 ⟨rfl, hb5⟩; have hk5 := HKL.out.new (hb5.mono HKL.out.size); obtain ⟨p0, p1, p2, p3, p4, p5, p6⟩ := sevC hk5.res; obtain ⟨t0, t1, t2, t3, t4, t5, t6⟩ := sevF hk5.res; have HK5 := kept hk5; clear hb5 hk5 z0 z1 z2 z3 z4 z5 z6; go_wp2; have hfin := HK5.out.fin (.int .i64 0) (.int .u64 0) (.int .i64 0) (.slice none 0 0) (.slice none 0 0) (.slice none 0 0) (.slice none 0 0); unfold set7 at hfin; generalize (((((((w5.setCell ⟨w.heap.size, 0, none⟩ (.int .i64 0)).setCell ⟨w.heap.size, 1, none⟩ (.int .u64 0)).setCell ⟨w.heap.size, 2, none⟩ (.int .i64 0)).setCell ⟨w.heap.size, 3, none⟩ (.slice none 0 0)).setCell ⟨w.heap.size, 4, none⟩ (.slice none 0 0)).setCell ⟨w.heap.size, 5, none⟩ (.slice none 0 0)).setCell ⟨w.heap.size, 6, none⟩ (.slice none 0 0)) = X at hfin ⊢; obtain ⟨x0, x1, x2, x3, x4, x5, x6⟩ := sevC hfin.2; exact bodyPost_ret (v := .tuple #[zeroV, .int .i64 4]) (by simp [results, Tryz.results94, go_sem, x0, x1, x2, x3, x4, x5, x6]) rfl ⟨⟨hfin.1, .inr ⟨HNO.out, rfl⟩⟩, New4.of (fun g h => by cases h)⟩
 | true =>
   rw [hrb] at hrt; have HRT := kept hrt; have HRB := kept hrb; clear hrt hrb; go_wp2_with fail
   with_reducible refine HRT.out.mono ?_
   rintro e w4 ⟨rfl, hb5⟩; have HE := kept (refEncode04_any ⟨4, (v2 : Int), (v3 : Int), none, 0, 0, none, 0, 0, none, 0, 0, A1, m, c1⟩ P w4 (HST.out.here.below hb5) HRB.out HM.out.1 HM.out.2.1 HM.out.2.2); have HB4 := kept hb5; have hk4 := HKL.out.new (hb5.mono HKL.out.size); clear z0 z1 z2 z3 z4 z5 z6; obtain ⟨z0, z1, z2, z3, z4, z5, z6⟩ := sevC hk4.box; have HK4' := kept hk4; clear hb5 hk4; go_wp2_with fail
   with_reducible refine HE.out.mono ?_
   rintro e w5 ⟨A5, c5, rfl, hown, hb5⟩; have HB5 := kept hb5; have hk5 := HK4'.out.new (hb5.mono HK4'.out.size); obtain ⟨p0, p1, p2, p3, p4, p5, p6⟩ := sevC hk5.res; obtain ⟨t0, t1, t2, t3, t4, t5, t6⟩ := sevF hk5.res; have HRX := kept (HR.out.below hk5.bel); have HRO := kept (Rd.of_own hown); have HK5 := kept hk5; clear z0 z1 z2 z3 z4 z5 z6; obtain ⟨z0, z1, z2, z3, z4, z5, z6⟩ := sevC hk5.box; have hgq : r + 1 ≠ w.heap.size := by have := hk5.wr_; omega
   clear hk5 hb5 hown; by_cases hbd : bodyOf P = ys
   · have HSM := kept (same_any A5 A 256 256 c5 c (sealed (bodyOf P)) xs w5 HRO.out HRX.out true (by rw [decide_eq_true_eq]; exact (HSI.out _).2 hbd)); have HYES := kept (And.intro HRB.out hbd); clear hbd; go_wp2_with (first | (go_at_call 21; (with_reducible refine (HSM.out).mono ?_); rintro e w9 ⟨rfl, rfl⟩))
     have hfin := HK5.out.fin (.int .i64 4) (.int .u64 (v2 : Int)) (.int .i64 (v3 : Int)) (.slice none 0 0) (.slice none 0 0) (.slice none 0 0) (.slice A1 m c1); have ho7 := only7 w5 w.heap.size (.int .i64 4) (.int .u64 (v2 : Int)) (.int .i64 (v3 : Int)) (.slice none 0 0) (.slice none 0 0) (.slice none 0 0) (.slice A1 m c1); unfold set7 at hfin ho7; generalize (((((((w5.setCell ⟨w.heap.size, 0, none⟩ (.int .i64 4)).setCell ⟨w.heap.size, 1, none⟩ (.int .u64 (v2 : Int))).setCell ⟨w.heap.size, 2, none⟩ (.int .i64 (v3 : Int))).setCell ⟨w.heap.size, 3, none⟩ (.slice none 0 0)).setCell ⟨w.heap.size, 4, none⟩ (.slice none 0 0)).setCell ⟨w.heap.size, 5, none⟩ (.slice none 0 0)).setCell ⟨w.heap.size, 6, none⟩ (.slice A1 m c1)) = X at hfin ho7 ⊢; obtain ⟨x0, x1, x2, x3, x4, x5, x6⟩ := sevC hfin.2; have hst := HST.out X (((Onl.refl.step (Only.of_below (r := r) HB4.out) (by omega)).step (Only.of_below (r := r) HB5.out) (by omega)).step ho7 (by have := HK5.out.wr_; omega)); exact bodyPost_ret (v := .tuple #[.agg #[.int .i64 4, .int .u64 (v2 : Int), .int .i64 (v3 : Int), .slice none 0 0, .slice none 0 0, .slice none 0 0, .slice A1 m c1], .int .i64 0]) (by simp [results, Tryz.results94, go_sem, x0, x1, x2, x3, x4, x5, x6]) rfl ⟨⟨hfin.1, .inl ⟨HYES.out, ⟨4, (v2 : Int), (v3 : Int), none, 0, 0, none, 0, 0, none, 0, 0, A1, m, c1⟩, rfl, hst, HM.out⟩⟩, New4.of HNEW.out⟩
   · have HSM := kept (same_any A5 A 256 256 c5 c (sealed (bodyOf P)) xs w5 HRO.out HRX.out false (by rw [decide_eq_false_iff_not]; exact fun e => hbd ((HSI.out _).1 e))); have HNO : Hid (¬ (rightB P = true ∧ bodyOf P = ys)) := kept (fun h => hbd h.2); clear hbd; go_wp2_with (first | (go_at_call 21; (with_reducible refine (HSM.out).mono ?_); rintro e w9 ⟨rfl, rfl⟩))
     have hfin := HK5.out.fin (.int .i64 0) (.int .u64 0) (.int .i64 0) (.slice none 0 0) (.slice none 0 0) (.slice none 0 0) (.slice none 0 0); unfold set7 at hfin; generalize (((((((w5.setCell ⟨w.heap.size, 0, none⟩ (.int .i64 0)).setCell ⟨w.heap.size, 1, none⟩ (.int .u64 0)).setCell ⟨w.heap.size, 2, none⟩ (.int .i64 0)).setCell ⟨w.heap.size, 3, none⟩ (.slice none 0 0)).setCell ⟨w.heap.size, 4, none⟩ (.slice none 0 0)).setCell ⟨w.heap.size, 5, none⟩ (.slice none 0 0)).setCell ⟨w.heap.size, 6, none⟩ (.slice none 0 0)) = X at hfin ⊢; obtain ⟨x0, x1, x2, x3, x4, x5, x6⟩ := sevC hfin.2; exact bodyPost_ret (v := .tuple #[zeroV, .int .i64 4]) (by simp [results, Tryz.results94, go_sem, x0, x1, x2, x3, x4, x5, x6]) rfl ⟨⟨hfin.1, .inr ⟨HNO.out, rfl⟩⟩, New4.of (fun g h => by cases h)⟩
end Go.Proofs.YtcapcobkildmcaaGreatDoor
end
