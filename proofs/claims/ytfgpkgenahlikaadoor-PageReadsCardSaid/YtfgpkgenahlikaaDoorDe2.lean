/-
  The document's Decode of a page: pages of kids.
-/
import Derived.Test.YtfgpkgenahlikaaDoorDe0
import Derived.Deep.CutBlock
namespace Go.Proofs.YtfgpkgenahlikaaDoor
open Go.ChangeShapes Go.WideShapes Go.ChangeAt Go.RowKit
set_option linter.unusedVariables false
set_option linter.unusedSimpArgs false
attribute [local go_sem ↓] Go.wp_at_zero Go.wp_at_succ

set_option maxRecDepth 100000 in
set_option maxHeartbeats 4000000 in
theorem refDecode_kids (A : Option Addr) (c : Nat) (xs : List UInt8) (w : World) (hr : Rd w A 256 xs) (hc : 256 ≤ c) (hw : num (xs.take 4) 0 = csum (xs.drop 4)) (hk : (rnum (xs.drop 4) 1 (0, 0)).1 = 2) :
    Calls Tryd.prog 23 #[.slice A 256 c] w (DecAns w xs) := by
  have HO := fun o => kept (open_good4 A c xs (w.alloc o) (hr.alloc o) hc hw)
  have hyl : (xs.drop 4).length = 252 := by rw [List.length_drop, hr.1]
  have HR := kept hr
  have HSI : Hid (∀ zs, (sealed zs = xs) ↔ (zs = xs.drop 4)) := kept (fun zs => ⟨fun e => by rw [← e, sealed_drop], fun e => by rw [e]; exact (sealed_iff xs (by have := hr.1; omega)).2 hw⟩)
  have HPG : Hid (refpage (xs.drop 4) (0, 0) = refpage (xs.drop 4) (0, 0)) := rfl
  obtain ⟨ys, hys⟩ : ∃ ys, xs.drop 4 = ys := ⟨_, rfl⟩
  rw [hys] at HO hyl HSI hk
  unfold DecAns
  rw [hys]
  clear hr hw hys HPG
  have h1 := fun W r A c (k : RF W r A 252 c ys (0, 0)) => refNum1 r A 252 c ys (0, 0) W k
  have l1 := rnum_lt ys 1 (0, 0)
  obtain ⟨v1, hv1⟩ : ∃ v, (rnum ys 1 (0, 0)).1 = v := ⟨_, rfl⟩
  obtain ⟨s1, hs1⟩ : ∃ v, (rnum ys 1 (0, 0)).2 = v := ⟨_, rfl⟩
  rw [hv1, hs1] at h1
  rw [hv1] at l1 hk
  have h2 := fun W r A c (k : RF W r A 252 c ys s1) => refNum8 r A 252 c ys s1 W k
  have l2 := rnum_lt ys 8 s1
  obtain ⟨v2, hv2⟩ : ∃ v, (rnum ys 8 s1).1 = v := ⟨_, rfl⟩
  obtain ⟨s2, hs2⟩ : ∃ v, (rnum ys 8 s1).2 = v := ⟨_, rfl⟩
  rw [hv2, hs2] at h2
  rw [hv2] at l2
  have h3 := fun W r A c (k : RF W r A 252 c ys s2) => refNum4 r A 252 c ys s2 W k
  have l3 := rnum_lt ys 4 s2
  obtain ⟨v3, hv3⟩ : ∃ v, (rnum ys 4 s2).1 = v := ⟨_, rfl⟩
  obtain ⟨s3, hs3⟩ : ∃ v, (rnum ys 4 s2).2 = v := ⟨_, rfl⟩
  rw [hv3, hs3] at h3
  rw [hv3] at l3
  have h4 := fun W r A c (k : RF W r A 252 c ys s3) => refNum2 r A 252 c ys s3 W k
  have l4 := rnum_lt ys 2 s3
  obtain ⟨v4, hv4⟩ : ∃ v, (rnum ys 2 s3).1 = v := ⟨_, rfl⟩
  obtain ⟨s4, hs4⟩ : ∃ v, (rnum ys 2 s3).2 = v := ⟨_, rfl⟩
  rw [hv4, hs4] at h4
  rw [hv4] at l4
  have hrp : refpage ys (0, 0) = ⟨(v1 : Int), (v2 : Int), (v3 : Int), if v1 = 1 then (rmany (ritem ys) (min v4 240) s4).1 else [], if v1 = 2 then (rmany (rkid ys) (min v4 240) s4).1 else [], if v1 = 3 then (rmany (rbytes ys 1) (min v4 240) s4).1.flatten else [], if v1 = 4 then (rmany (rid ys) (min v4 240) s4).1 else []⟩ := by
    simp only [refpage, hv1, hs1, hv2, hs2, hv3, hs3, hv4, hs4]
  rw [if_neg (by omega), if_pos hk, if_neg (by omega), if_neg (by omega)] at hrp
  have HKD := kept hk
  clear hk
  obtain ⟨P, hP⟩ : ∃ P, refpage ys (0, 0) = P := ⟨_, rfl⟩
  rw [hP]
  rw [hP] at hrp
  have HP := kept hrp
  clear hrp hP hv1 hs1 hv2 hs2 hv3 hs3 hv4 hs4
  have H1 := kept h1
  have H2 := kept h2
  have H3 := kept h3
  have H4 := kept h4
  have HV := kept (And.intro l1 (And.intro l2 (And.intro l3 l4)))
  have hw1 : IntKind.i64.wrap (v1 : Int) = (v1 : Int) := IntWalk.i64_in _ ⟨by omega, by omega⟩
  have hw3 : IntKind.i64.wrap (v3 : Int) = (v3 : Int) := IntWalk.i64_in _ ⟨by omega, by omega⟩
  have hw4 : IntKind.i64.wrap (v4 : Int) = (v4 : Int) := IntWalk.i64_in _ ⟨by omega, by omega⟩
  clear l1 l2 l3 l4 h1 h2 h3 h4
  go_enter Tryd.func23, Tryd.ntmps23
  go_wp2_with fail
  with_reducible refine (HO _).out.mono ?_
  rintro e w0 ⟨A0, c0, rfl, hd, hc0, hb⟩
  have hx : ∀ W : World, W = (w0.alloc (.cells #[.slice A0 252 c0, .int .i64 0, .int .i64 0] 96)).alloc (.cells #[.int .i64 0, .int .u64 0, .int .i64 0, .slice none 0 0, .slice none 0 0, .slice none 0 0, .slice none 0 0] 34) → Dk w W w0.heap.size (w0.heap.size + 1) (w0.heap.size + 2) A0 c0 ys (0, 0) rz7 ∧ W.heap.size = w0.heap.size + 2 := by
    intro W e
    have hn := Blk.new (w0.alloc (.cells #[.slice A0 252 c0, .int .i64 0, .int .i64 0] 96)) 34 #[.int .i64 0, .int .u64 0, .int .i64 0, .slice none 0 0, .slice none 0 0, .slice none 0 0, .slice none 0 0]
    rw [World.size_alloc] at hn
    have hq := (Blk.new w 34 #[.int .i64 0, .int .u64 0, .int .i64 0, .slice none 0 0, .slice none 0 0, .slice none 0 0, .slice none 0 0]).below hb (by simp)
    have hbb := below_to hb ((Below.refl _ w).alloc (Nat.le_refl _) (.cells #[.int .i64 0, .int .u64 0, .int .i64 0, .slice none 0 0, .slice none 0 0, .slice none 0 0, .slice none 0 0] 34))
    rw [e]
    exact ⟨⟨⟨⟨(Blk.new w0 96 #[.slice A0 252 c0, .int .i64 0, .int .i64 0]).alloc _, (hd.alloc _).alloc _⟩, Nat.zero_le _, .inl rfl, hc0, by omega⟩, hn, (hq.alloc _).alloc _, (hbb.alloc hbb.size _).alloc (by have := hbb.size; simp; omega) _, hq.lt, Nat.lt_succ_self _, by omega, by simp, hd.und⟩, by simp⟩
  have HX := kept hx
  clear hd hc0 hb hx
  go_wp2_with fail
  obtain ⟨W0, hW0⟩ : ∃ W, W = (w0.alloc (.cells #[.slice A0 252 c0, .int .i64 0, .int .i64 0] 96)).alloc (.cells #[.int .i64 0, .int .u64 0, .int .i64 0, .slice none 0 0, .slice none 0 0, .slice none 0 0, .slice none 0 0] 34) := ⟨_, rfl⟩
  rw [← hW0]
  obtain ⟨hk0, hsz⟩ := HX.out W0 hW0
  have HK0 := kept hk0
  have HZ0 := kept hsz
  clear hW0 HX hk0 hsz
  generalize w0.heap.size = r at HK0 HZ0 ⊢
  with_reducible refine (H1.out _ r A0 c0 HK0.out.rf).mono ?_
  rintro e w1 ⟨rfl, hR, hO⟩
  have hk1 := HK0.out.call hR hO
  clear hR hO
  have e0 := hk1.box.cell 0
  have f0 := hk1.box.frozen 0
  simp only [List.getElem?_cons_zero, List.getElem?_cons_succ] at e0
  have hs := hk1.setq 0 (.int .i64 (v1 : Int))
  simp only [List.set_cons_zero, List.set_cons_succ] at hs
  have HS := kept hs
  clear hk1 hs
  go_wp2_with fail
  clear e0 f0
  generalize (w1.setCell ⟨r + 1, 0, none⟩ (.int .i64 (v1 : Int))) = X1 at HS ⊢
  have HK1 := HS
  clear HS
  with_reducible refine (H2.out _ r A0 c0 HK1.out.rf).mono ?_
  rintro e w2 ⟨rfl, hR, hO⟩
  have hk2 := HK1.out.call hR hO
  clear hR hO
  have e0 := hk2.box.cell 1
  have f0 := hk2.box.frozen 1
  simp only [List.getElem?_cons_zero, List.getElem?_cons_succ] at e0
  have hs := hk2.setq 1 (.int .u64 (v2 : Int))
  simp only [List.set_cons_zero, List.set_cons_succ] at hs
  have HS := kept hs
  clear hk2 hs
  go_wp2_with fail
  clear e0 f0
  generalize (w2.setCell ⟨r + 1, 1, none⟩ (.int .u64 (v2 : Int))) = X2 at HS ⊢
  have HK2 := HS
  clear HS
  with_reducible refine (H3.out _ r A0 c0 HK2.out.rf).mono ?_
  rintro e w3 ⟨rfl, hR, hO⟩
  have hk3 := HK2.out.call hR hO
  clear hR hO
  have e0 := hk3.box.cell 2
  have f0 := hk3.box.frozen 2
  simp only [List.getElem?_cons_zero, List.getElem?_cons_succ] at e0
  have hs := hk3.setq 2 (.int .i64 (v3 : Int))
  simp only [List.set_cons_zero, List.set_cons_succ] at hs
  have HS := kept hs
  clear hk3 hs
  go_wp2_with fail
  clear e0 f0
  generalize (w3.setCell ⟨r + 1, 2, none⟩ (.int .i64 (v3 : Int))) = X3 at HS ⊢
  have HK3 := HS
  clear HS
  with_reducible refine (H4.out _ r A0 c0 HK3.out.rf).mono ?_
  rintro e w4 ⟨rfl, hR, hO⟩
  have hk4 := HK3.out.call hR hO
  clear hR hO
  have HK4 := kept hk4
  clear hk4
  obtain ⟨m, hm⟩ : ∃ m, min v4 240 = m := ⟨_, rfl⟩
  have hm1 : m ≤ 240 := by omega
  have hm2 : m ≤ v4 := by omega
  have hm3 : m < 240 → v4 ≤ m := by omega
  rw [hm] at HP
  obtain rfl := HKD.out
  clear HKD
  have hst0 : Dk w w4 r (r + 1) (r + 2) A0 c0 ys (rmany (rkid ys) 0 s4).2 [.int .i64 2, .int .u64 (v2 : Int), .int .i64 (v3 : Int), .slice none 0 0, .slice none 0 0, .slice none 0 0, .slice none 0 0] ∧ Ow kKid w4 (r + 2) 71 (fun g => g < r + 2) none 0 0 (rmany (rkid ys) 0 s4).1 := ⟨by simpa [rmany] using HK4.out, Ow.nil_ _⟩
  have HST0 := kept hst0
  have HN1 := fun W r A c s (k : RF W r A 252 c ys s) => kept (refNum1 r A 252 c ys s W k)
  have HN2 := fun W r A c s (k : RF W r A 252 c ys s) => kept (refNum2 r A 252 c ys s W k)
  have HN4 := fun W r A c s (k : RF W r A 252 c ys s) => kept (refNum4 r A 252 c ys s W k)
  have HNB := fun W r A c s m (k : RF W r A 252 c ys s) hm => kept (refBytes_any r A 252 c ys s m W k hm)
  have HBM := kept (And.intro hm1 (And.intro hm2 hm3))
  clear hst0 hm hm1 hm2 hm3
  go_upto_block 0 with fail
  clear hw1 hw3 hw4
  go_cut [9] (fun s9 wx => ∃ W A1 c1, W = wx ∧ Hid (Dk w wx r (r + 1) (r + 2) A0 c0 ys (rmany (rkid ys) m s4).2 [.int .i64 2, .int .u64 (v2 : Int), .int .i64 (v3 : Int), .slice none 0 0, .slice A1 m c1, .slice none 0 0, .slice none 0 0] ∧ Ow kKid wx (r + 2) 71 (fun g => g < r + 2) A1 m c1 (rmany (rkid ys) m s4).1))
  case first =>
    go_wp2_with fail
    go_loopw [9] (fun i wr => ∃ (k : Nat) (A1 : Option Addr) (c1 : Nat), k ≤ m ∧ i = .int .i64 k ∧ Hid (Dk w wr r (r + 1) (r + 2) A0 c0 ys (rmany (rkid ys) k s4).2 [.int .i64 2, .int .u64 (v2 : Int), .int .i64 (v3 : Int), .slice none 0 0, .slice A1 k c1, .slice none 0 0, .slice none 0 0] ∧ Ow kKid wr (r + 2) 71 (fun g => g < r + 2) A1 k c1 (rmany (rkid ys) k s4).1)) (fun i _ => m - (intOf i).toNat)
    case atStart => exact ⟨0, none, 0, by omega, rfl, HST0⟩
    case round =>
      obtain ⟨k, A1, c1, hk2, rfl, HKL⟩ := hrel
      by_cases hlt : k < m
      · obtain ⟨hdk, how⟩ := HKL.out
        have hnx := rmany_snoc (rkid ys) k s4
        obtain ⟨I, hI⟩ : ∃ I, (rmany (rkid ys) k s4).1 = I := ⟨_, rfl⟩
        obtain ⟨s, hs⟩ : ∃ s, (rmany (rkid ys) k s4).2 = s := ⟨_, rfl⟩
        rw [hI, hs] at hnx
        rw [hs] at hdk
        rw [hI] at how
        have hN5 := fun W k => (HN1 W r A0 c0 s k).out
        have l5 := rnum_lt ys 1 s
        obtain ⟨v5, hv5⟩ : ∃ v, (rnum ys 1 s).1 = v := ⟨_, rfl⟩
        obtain ⟨s5, hs5⟩ : ∃ v, (rnum ys 1 s).2 = v := ⟨_, rfl⟩
        rw [hv5, hs5] at hN5
        rw [hv5] at l5
        have hN7 := fun W k => (HNB W r A0 c0 s5 v5 k (by omega)).out
        obtain ⟨b7, hb7⟩ : ∃ v, (rbytes ys v5 s5).1 = v := ⟨_, rfl⟩
        obtain ⟨s7, hs7⟩ : ∃ v, (rbytes ys v5 s5).2 = v := ⟨_, rfl⟩
        rw [hb7, hs7] at hN7
        have hN8 := fun W k => (HN4 W r A0 c0 s7 k).out
        have l8 := rnum_lt ys 4 s7
        obtain ⟨v8, hv8⟩ : ∃ v, (rnum ys 4 s7).1 = v := ⟨_, rfl⟩
        obtain ⟨s8, hs8⟩ : ∃ v, (rnum ys 4 s7).2 = v := ⟨_, rfl⟩
        rw [hv8, hs8] at hN8
        rw [hv8] at l8
        have hit : rkid ys s = (⟨b7, (v8 : Int)⟩, s8) := by simp [rkid, hv5, hs5, hb7, hs7, hv8, hs8]
        rw [hit] at hnx
        have hw5 : IntKind.i64.wrap (v5 : Int) = (v5 : Int) := IntWalk.i64_in _ ⟨by omega, by omega⟩
        have hw8 : IntKind.i64.wrap (v8 : Int) = (v8 : Int) := IntWalk.i64_in _ ⟨by omega, by omega⟩
        have HN5 := kept hN5
        have HN7 := kept hN7
        have HN8 := kept hN8
        have HV5 := kept l5
        have hlt1 : k < v4 := by have := HBM.out; omega
        have hlt2 : k < 240 := by have := HBM.out; omega
        have hq1 : decide (k < v4) = true := by simp [hlt1]
        have hq2 : decide (k < 240) = true := by simp [hlt2]
        have HRB := kept (And.intro hdk.size (And.intro hdk.rq hdk.rf.lt))
        have HLT := kept hlt
        have HDK := kept hdk
        have HOW := kept how
        have HNX := kept hnx
        clear hnx hI hs hN5 hN7 hN8 hv5 hs5 hb7 hs7 hv8 hs8 hit hdk how HKL hlt l5 l8
        have z0 : wr.cell? ⟨r + 1, 0, none⟩ = some (.int .i64 2) := HDK.out.box.cell 0
        go_wp2_with fail
        with_reducible refine (HN5.out _ HDK.out.rf).mono ?_
        rintro e w5 ⟨rfl, hR, hO⟩
        have HDK5 := kept (HDK.out.call hR hO)
        have HO5 := kept hO
        clear hR hO z0
        go_wp2_with fail
        with_reducible refine (HN7.out _ (HDK5.out.alloc _).rf).mono ?_
        rintro e w7 ⟨A7, n7, c7, rfl, hr7, hR, hO⟩
        have hbx5 : Bx wr (w5.alloc (.cells #[.slice none 0 0, .int .i64 0] 71)) r w5.heap.size 71 [.slice none 0 0, .int .i64 0] := ⟨Blk.new w5 71 #[.slice none 0 0, .int .i64 0], HO5.out.alloc _, HRB.out.2.2, HO5.out.size⟩
        have hdk7 := (HDK5.out.alloc (.cells #[.slice none 0 0, .int .i64 0] 71)).call hR hO
        have hbx7 := hbx5.call hO
        have hnt7 := hbx5.bytes hr7.1 hr7.2.1
        have HM7 := kept hr7.2.2.2
        have hg := HDK5.out.size
        clear hR hO hr7 hbx5
        obtain ⟨g, hge⟩ : ∃ g, w5.heap.size = g := ⟨_, rfl⟩
        rw [hge] at hbx7 hnt7 hg ⊢
        have HG := kept hg
        have f0 := hbx7.blk.frozen 0
        have e0 : w7.cell? ⟨g, 0, none⟩ = some (.slice none 0 0) := hbx7.blk.cell 0
        have HDK7 := kept (hdk7.setg HG.out 0 (.slice A7 n7 c7))
        have hbx7 := hbx7.set_ 0 (.slice A7 n7 c7)
        simp only [List.set_cons_zero, List.set_cons_succ] at hbx7
        have HBX7 := kept hbx7
        have HNT7 := kept (hnt7.set_ 0 (.slice A7 n7 c7))
        clear hbx7 hnt7 hdk7 hg hge HDK5 HO5
        go_wp2_with fail
        clear f0 e0
        generalize w7.setCell ⟨g, 0, none⟩ (.slice A7 n7 c7) = X7 at HBX7 HDK7 HNT7 ⊢
        with_reducible refine (HN8.out _ HDK7.out.rf).mono ?_
        rintro e w8 ⟨rfl, hR, hO⟩
        have hbx8 := HBX7.out.call hO
        have f1 := hbx8.blk.frozen 1
        have e1 : w8.cell? ⟨g, 1, none⟩ = some (.int .i64 0) := hbx8.blk.cell 1
        have HDK8 := kept ((HDK7.out.call hR hO).setg HG.out 1 (.int .i64 (v8 : Int)))
        have hbx8 := hbx8.set_ 1 (.int .i64 (v8 : Int))
        simp only [List.set_cons_zero, List.set_cons_succ] at hbx8
        have HBX8 := kept hbx8
        have HNT9 := kept ((HNT7.out.call hO).set_ 1 (.int .i64 (v8 : Int)))
        clear hbx8 hR hO HBX7 HDK7 HNT7
        go_upto_region 29 with fail
        clear f1 e1
        generalize w8.setCell ⟨g, 1, none⟩ (.int .i64 (v8 : Int)) = X8 at HBX8 HDK8 HNT9 ⊢
        have p3 : X8.cell? ⟨r + 1, 4, none⟩ = some (.slice A1 k c1) := HDK8.out.box.cell 4
        have g0 : X8.cell? ⟨g, 0, none⟩ = some (.slice A7 n7 c7) := HBX8.out.blk.cell 0
        have g1 : X8.cell? ⟨g, 1, none⟩ = some (.int .i64 (v8 : Int)) := HBX8.out.blk.cell 1
        have HY : Hid (RdKd X8 ⟨A7, n7, c7, (v8 : Int)⟩ ⟨b7, (v8 : Int)⟩) := kept ⟨HNT9.out.rd, rfl, by have := HM7.out; have := HV5.out; show n7 ≤ _; omega⟩
        have HNW : Hid (∀ h, h < wr.heap.size → kKid.apart ⟨A7, n7, c7, (v8 : Int)⟩ h) := kept (fun h hh => HNT9.out.new h hh)
        have HOX : Hid (Ow kKid X8 (r + 2) 71 (fun g => g < r + 2) A1 k c1 I) := kept (HOW.out.turn (r := r) HBX8.out.only (.inl (by omega)))
        have HDKA := fun o => kept (HDK8.out.alloc o)
        go_wp2_with (first | (at_builtin; refine wpList_append_ow (K := kKid) (F := fun g => g < r + 2) rfl (.tmp 103) (.tmp 105) 32 rfl Tryd.underlying32 refKidInfo rfl rfl (HOX.out.below ((Below.refl _ X8).alloc (Nat.le_refl _) _)) ⟨X8.heap.size, 0, none⟩ 1 ⟨A7, n7, c7, (v8 : Int)⟩ ⟨b7, (v8 : Int)⟩ rfl (fun j u hu => new_cells2 X8 (.slice A7 n7 c7) (.int .i64 (v8 : Int)) 71 j u hu) (HY.out.below ((Below.refl _ X8).alloc (Nat.le_refl _) _)) (fun h e => HNW.out h (HOW.out.lt e).2) (fun h e => HNW.out h (Nat.lt_of_lt_of_le e HRB.out.1)) (fun h e => Nat.lt_of_lt_of_le e (HDKA _).out.size) (by unfold maxLen; omega) (by omega) (HDKA _).out.size ?_; intro A9 c9 w9 how9 hb9 hk9; have HDK9 := kept ((HDKA _).out.new hb9); have HOW9 := kept how9; have e3 : w9.cell? ⟨r + 1, 4, none⟩ = some (.slice A1 k c1) := HDK9.out.box.cell 4; have f3 := HDK9.out.box.frozen 4; have e0 : w9.cell? ⟨r + 1, 0, none⟩ = some (.int .i64 2) := HDK9.out.box.cell 0; clear how9 hb9 hk9 p3 g0 g1))
        have HFIN : Hid (Dk w (w9.setCell ⟨r + 1, 4, none⟩ (.slice A9 (k + 1) c9)) r (r + 1) (r + 2) A0 c0 ys (rmany (rkid ys) (k + 1) s4).2 [.int .i64 2, .int .u64 (v2 : Int), .int .i64 (v3 : Int), .slice none 0 0, .slice A9 (k + 1) c9, .slice none 0 0, .slice none 0 0] ∧ Ow kKid (w9.setCell ⟨r + 1, 4, none⟩ (.slice A9 (k + 1) c9)) (r + 2) 71 (fun g => g < r + 2) A9 (k + 1) c9 (rmany (rkid ys) (k + 1) s4).1) := kept (by rw [HNX.out]; exact ⟨HDK9.out.setq 4 (.slice A9 (k + 1) c9), HOW9.out.turn (r := r + 1) ((Only.refl w9 (r + 1)).setCell 4 _) (.inl (by omega))⟩)
        go_roundw
        case rel => exact ⟨k + 1, A9, c9, by have := HLT.out; omega, by go_num, HFIN⟩
        case measure => have := HLT.out; simp [intOf]; omega
      · obtain rfl : k = m := by omega
        rcases (by have := HBM.out; omega : v4 ≤ k ∨ (k < v4 ∧ k = 240)) with hx | ⟨hx, hx2⟩
        · clear hlt
          have hb1 : decide (k < v4) = false := by simp; omega
          go_wp2_with fail
          go_meet
          exact ⟨_, _, _, rfl, HKL⟩
        · have hx3 : 240 ≤ k := by omega
          clear hlt
          have hb1 : decide (k < v4) = true := by simp; omega
          have hb2 : decide (k < 240) = false := by simp; omega
          go_wp2_with fail
          go_meet
          exact ⟨_, _, _, rfl, HKL⟩
  case rest =>
  obtain ⟨wx, A1, c1, rfl, HKO⟩ := hcut
  have HKL := kept HKO.out.1
  have HST : Hid (Sta (r + 2) wx (fun w2 => RdPg w2 ⟨2, (v2 : Int), (v3 : Int), none, 0, 0, A1, m, c1, none, 0, 0, none, 0, 0⟩ P)) := kept (fun w2 h2 => by
    have ho := (HKO.out.2.sta w2 h2).kids
    rw [HP.out]
    exact ⟨rfl, rfl, rfl, RdItems.nil_ _ _, ho, Rd.nil_ _ _, RdNums.nil_ _ _, by show (0 : Int) ≤ (v2 : Int); omega, by have := HV.out.2.1; show (v2 : Int) < _; omega, Nat.zero_le _, by have := HBM.out; show m ≤ _; omega, Nat.zero_le _, Nat.zero_le _⟩)
  have HM : Hid ((0 : Nat) ≤ 1000 ∧ m ≤ 1000 ∧ (0 : Nat) ≤ 1000) := kept (by have := HBM.out; omega)
  clear HKO
  have z0 : wx.cell? ⟨r + 1, 0, none⟩ = some (.int .i64 2) := HKL.out.box.cell 0
  have z1 : wx.cell? ⟨r + 1, 1, none⟩ = some (.int .u64 (v2 : Int)) := HKL.out.box.cell 1
  have z2 : wx.cell? ⟨r + 1, 2, none⟩ = some (.int .i64 (v3 : Int)) := HKL.out.box.cell 2
  have z3 : wx.cell? ⟨r + 1, 3, none⟩ = some (.slice none 0 0) := HKL.out.box.cell 3
  have z4 : wx.cell? ⟨r + 1, 4, none⟩ = some (.slice A1 m c1) := HKL.out.box.cell 4
  have z5 : wx.cell? ⟨r + 1, 5, none⟩ = some (.slice none 0 0) := HKL.out.box.cell 5
  have z6 : wx.cell? ⟨r + 1, 6, none⟩ = some (.slice none 0 0) := HKL.out.box.cell 6
  have hrt := refRight04_any ⟨2, (v2 : Int), (v3 : Int), none, 0, 0, A1, m, c1, none, 0, 0, none, 0, 0⟩ P wx HST.out.here HM.out.1 HM.out.2.1 HM.out.2.2
  cases hrb : rightB P with
  | false =>
    rw [hrb] at hrt
    have HRT := kept hrt
    have HNO : Hid (¬ (rightB P = true ∧ bodyOf P = ys)) := kept (by rw [hrb]; exact fun h => Bool.false_ne_true h.1)
    clear hrt hrb
    go_wp2_with fail
    with_reducible refine HRT.out.mono ?_
    rintro e w5 ⟨rfl, hb5⟩
    have hk5 := HKL.out.new (hb5.mono HKL.out.size)
    have p0 : w5.cell? ⟨w.heap.size, 0, none⟩ = some (.int .i64 0) := hk5.res.cell 0
    have t0 := hk5.res.frozen 0
    have p1 : w5.cell? ⟨w.heap.size, 1, none⟩ = some (.int .u64 0) := hk5.res.cell 1
    have t1 := hk5.res.frozen 1
    have p2 : w5.cell? ⟨w.heap.size, 2, none⟩ = some (.int .i64 0) := hk5.res.cell 2
    have t2 := hk5.res.frozen 2
    have p3 : w5.cell? ⟨w.heap.size, 3, none⟩ = some (.slice none 0 0) := hk5.res.cell 3
    have t3 := hk5.res.frozen 3
    have p4 : w5.cell? ⟨w.heap.size, 4, none⟩ = some (.slice none 0 0) := hk5.res.cell 4
    have t4 := hk5.res.frozen 4
    have p5 : w5.cell? ⟨w.heap.size, 5, none⟩ = some (.slice none 0 0) := hk5.res.cell 5
    have t5 := hk5.res.frozen 5
    have p6 : w5.cell? ⟨w.heap.size, 6, none⟩ = some (.slice none 0 0) := hk5.res.cell 6
    have t6 := hk5.res.frozen 6
    have HK5 := kept hk5
    clear hb5 hk5 z0 z1 z2 z3 z4 z5 z6
    go_wp2
    have hfin := HK5.out.fin (.int .i64 0) (.int .u64 0) (.int .i64 0) (.slice none 0 0) (.slice none 0 0) (.slice none 0 0) (.slice none 0 0)
    unfold set7 at hfin
    generalize (((((((w5.setCell ⟨w.heap.size, 0, none⟩ (.int .i64 0)).setCell ⟨w.heap.size, 1, none⟩ (.int .u64 0)).setCell ⟨w.heap.size, 2, none⟩ (.int .i64 0)).setCell ⟨w.heap.size, 3, none⟩ (.slice none 0 0)).setCell ⟨w.heap.size, 4, none⟩ (.slice none 0 0)).setCell ⟨w.heap.size, 5, none⟩ (.slice none 0 0)).setCell ⟨w.heap.size, 6, none⟩ (.slice none 0 0)) = X at hfin ⊢
    have x0 : X.cell? ⟨w.heap.size, 0, none⟩ = some (.int .i64 0) := hfin.2.cell 0
    have x1 : X.cell? ⟨w.heap.size, 1, none⟩ = some (.int .u64 0) := hfin.2.cell 1
    have x2 : X.cell? ⟨w.heap.size, 2, none⟩ = some (.int .i64 0) := hfin.2.cell 2
    have x3 : X.cell? ⟨w.heap.size, 3, none⟩ = some (.slice none 0 0) := hfin.2.cell 3
    have x4 : X.cell? ⟨w.heap.size, 4, none⟩ = some (.slice none 0 0) := hfin.2.cell 4
    have x5 : X.cell? ⟨w.heap.size, 5, none⟩ = some (.slice none 0 0) := hfin.2.cell 5
    have x6 : X.cell? ⟨w.heap.size, 6, none⟩ = some (.slice none 0 0) := hfin.2.cell 6
    exact bodyPost_ret (v := .tuple #[zeroV, .int .i64 4]) (by simp [results, Tryd.results23, go_sem, x0, x1, x2, x3, x4, x5, x6]) rfl ⟨hfin.1, .inr ⟨HNO.out, rfl⟩⟩
  | true =>
    rw [hrb] at hrt
    have HRT := kept hrt
    have HRB := kept hrb
    clear hrt hrb
    go_wp2_with fail
    with_reducible refine HRT.out.mono ?_
    rintro e w4 ⟨rfl, hb5⟩
    have HE := kept (refEncode04_any ⟨2, (v2 : Int), (v3 : Int), none, 0, 0, A1, m, c1, none, 0, 0, none, 0, 0⟩ P w4 (HST.out.here.below hb5) HRB.out HM.out.1 HM.out.2.1 HM.out.2.2)
    have HB4 := kept hb5
    have hk4 := HKL.out.new (hb5.mono HKL.out.size)
    clear z0 z1 z2 z3 z4 z5 z6
    have z0 : w4.cell? ⟨r + 1, 0, none⟩ = some (.int .i64 2) := hk4.box.cell 0
    have z1 : w4.cell? ⟨r + 1, 1, none⟩ = some (.int .u64 (v2 : Int)) := hk4.box.cell 1
    have z2 : w4.cell? ⟨r + 1, 2, none⟩ = some (.int .i64 (v3 : Int)) := hk4.box.cell 2
    have z3 : w4.cell? ⟨r + 1, 3, none⟩ = some (.slice none 0 0) := hk4.box.cell 3
    have z4 : w4.cell? ⟨r + 1, 4, none⟩ = some (.slice A1 m c1) := hk4.box.cell 4
    have z5 : w4.cell? ⟨r + 1, 5, none⟩ = some (.slice none 0 0) := hk4.box.cell 5
    have z6 : w4.cell? ⟨r + 1, 6, none⟩ = some (.slice none 0 0) := hk4.box.cell 6
    have HK4' := kept hk4
    clear hb5 hk4
    go_wp2_with fail
    with_reducible refine HE.out.mono ?_
    rintro e w5 ⟨A5, c5, rfl, hown, hb5⟩
    have HB5 := kept hb5
    have hk5 := HK4'.out.new (hb5.mono HK4'.out.size)
    have p0 : w5.cell? ⟨w.heap.size, 0, none⟩ = some (.int .i64 0) := hk5.res.cell 0
    have t0 := hk5.res.frozen 0
    have p1 : w5.cell? ⟨w.heap.size, 1, none⟩ = some (.int .u64 0) := hk5.res.cell 1
    have t1 := hk5.res.frozen 1
    have p2 : w5.cell? ⟨w.heap.size, 2, none⟩ = some (.int .i64 0) := hk5.res.cell 2
    have t2 := hk5.res.frozen 2
    have p3 : w5.cell? ⟨w.heap.size, 3, none⟩ = some (.slice none 0 0) := hk5.res.cell 3
    have t3 := hk5.res.frozen 3
    have p4 : w5.cell? ⟨w.heap.size, 4, none⟩ = some (.slice none 0 0) := hk5.res.cell 4
    have t4 := hk5.res.frozen 4
    have p5 : w5.cell? ⟨w.heap.size, 5, none⟩ = some (.slice none 0 0) := hk5.res.cell 5
    have t5 := hk5.res.frozen 5
    have p6 : w5.cell? ⟨w.heap.size, 6, none⟩ = some (.slice none 0 0) := hk5.res.cell 6
    have t6 := hk5.res.frozen 6
    have HRX := kept (HR.out.below hk5.bel)
    have HRO := kept (Rd.of_own hown)
    have HK5 := kept hk5
    clear z0 z1 z2 z3 z4 z5 z6
    have z0 : w5.cell? ⟨r + 1, 0, none⟩ = some (.int .i64 2) := hk5.box.cell 0
    have z1 : w5.cell? ⟨r + 1, 1, none⟩ = some (.int .u64 (v2 : Int)) := hk5.box.cell 1
    have z2 : w5.cell? ⟨r + 1, 2, none⟩ = some (.int .i64 (v3 : Int)) := hk5.box.cell 2
    have z3 : w5.cell? ⟨r + 1, 3, none⟩ = some (.slice none 0 0) := hk5.box.cell 3
    have z4 : w5.cell? ⟨r + 1, 4, none⟩ = some (.slice A1 m c1) := hk5.box.cell 4
    have z5 : w5.cell? ⟨r + 1, 5, none⟩ = some (.slice none 0 0) := hk5.box.cell 5
    have z6 : w5.cell? ⟨r + 1, 6, none⟩ = some (.slice none 0 0) := hk5.box.cell 6
    have hgq : r + 1 ≠ w.heap.size := by have := hk5.wr_; omega
    clear hk5 hb5 hown
    by_cases hbd : bodyOf P = ys
    · have HSM := kept (same_any A5 A 256 256 c5 c (sealed (bodyOf P)) xs w5 HRO.out HRX.out true (by rw [decide_eq_true_eq]; exact (HSI.out _).2 hbd))
      have HYES := kept (And.intro HRB.out hbd)
      clear hbd
      go_wp2_with (first | (go_at_call 18; (with_reducible refine (HSM.out).mono ?_); rintro e w9 ⟨rfl, rfl⟩))
      have hfin := HK5.out.fin (.int .i64 2) (.int .u64 (v2 : Int)) (.int .i64 (v3 : Int)) (.slice none 0 0) (.slice A1 m c1) (.slice none 0 0) (.slice none 0 0)
      have ho7 := only7 w5 w.heap.size (.int .i64 2) (.int .u64 (v2 : Int)) (.int .i64 (v3 : Int)) (.slice none 0 0) (.slice A1 m c1) (.slice none 0 0) (.slice none 0 0)
      unfold set7 at hfin ho7
      generalize (((((((w5.setCell ⟨w.heap.size, 0, none⟩ (.int .i64 2)).setCell ⟨w.heap.size, 1, none⟩ (.int .u64 (v2 : Int))).setCell ⟨w.heap.size, 2, none⟩ (.int .i64 (v3 : Int))).setCell ⟨w.heap.size, 3, none⟩ (.slice none 0 0)).setCell ⟨w.heap.size, 4, none⟩ (.slice A1 m c1)).setCell ⟨w.heap.size, 5, none⟩ (.slice none 0 0)).setCell ⟨w.heap.size, 6, none⟩ (.slice none 0 0)) = X at hfin ho7 ⊢
      have x0 : X.cell? ⟨w.heap.size, 0, none⟩ = some (.int .i64 2) := hfin.2.cell 0
      have x1 : X.cell? ⟨w.heap.size, 1, none⟩ = some (.int .u64 (v2 : Int)) := hfin.2.cell 1
      have x2 : X.cell? ⟨w.heap.size, 2, none⟩ = some (.int .i64 (v3 : Int)) := hfin.2.cell 2
      have x3 : X.cell? ⟨w.heap.size, 3, none⟩ = some (.slice none 0 0) := hfin.2.cell 3
      have x4 : X.cell? ⟨w.heap.size, 4, none⟩ = some (.slice A1 m c1) := hfin.2.cell 4
      have x5 : X.cell? ⟨w.heap.size, 5, none⟩ = some (.slice none 0 0) := hfin.2.cell 5
      have x6 : X.cell? ⟨w.heap.size, 6, none⟩ = some (.slice none 0 0) := hfin.2.cell 6
      have hst := HST.out X (((Onl.refl.step (Only.of_below (r := r) HB4.out) (by omega)).step (Only.of_below (r := r) HB5.out) (by omega)).step ho7 (by have := HK5.out.wr_; omega))
      exact bodyPost_ret (v := .tuple #[.agg #[.int .i64 2, .int .u64 (v2 : Int), .int .i64 (v3 : Int), .slice none 0 0, .slice A1 m c1, .slice none 0 0, .slice none 0 0], .int .i64 0]) (by simp [results, Tryd.results23, go_sem, x0, x1, x2, x3, x4, x5, x6]) rfl ⟨hfin.1, .inl ⟨HYES.out, ⟨2, (v2 : Int), (v3 : Int), none, 0, 0, A1, m, c1, none, 0, 0, none, 0, 0⟩, rfl, hst, HM.out⟩⟩
    · have HSM := kept (same_any A5 A 256 256 c5 c (sealed (bodyOf P)) xs w5 HRO.out HRX.out false (by rw [decide_eq_false_iff_not]; exact fun e => hbd ((HSI.out _).1 e)))
      have HNO : Hid (¬ (rightB P = true ∧ bodyOf P = ys)) := kept (fun h => hbd h.2)
      clear hbd
      go_wp2_with (first | (go_at_call 18; (with_reducible refine (HSM.out).mono ?_); rintro e w9 ⟨rfl, rfl⟩))
      have hfin := HK5.out.fin (.int .i64 0) (.int .u64 0) (.int .i64 0) (.slice none 0 0) (.slice none 0 0) (.slice none 0 0) (.slice none 0 0)
      unfold set7 at hfin
      generalize (((((((w5.setCell ⟨w.heap.size, 0, none⟩ (.int .i64 0)).setCell ⟨w.heap.size, 1, none⟩ (.int .u64 0)).setCell ⟨w.heap.size, 2, none⟩ (.int .i64 0)).setCell ⟨w.heap.size, 3, none⟩ (.slice none 0 0)).setCell ⟨w.heap.size, 4, none⟩ (.slice none 0 0)).setCell ⟨w.heap.size, 5, none⟩ (.slice none 0 0)).setCell ⟨w.heap.size, 6, none⟩ (.slice none 0 0)) = X at hfin ⊢
      have x0 : X.cell? ⟨w.heap.size, 0, none⟩ = some (.int .i64 0) := hfin.2.cell 0
      have x1 : X.cell? ⟨w.heap.size, 1, none⟩ = some (.int .u64 0) := hfin.2.cell 1
      have x2 : X.cell? ⟨w.heap.size, 2, none⟩ = some (.int .i64 0) := hfin.2.cell 2
      have x3 : X.cell? ⟨w.heap.size, 3, none⟩ = some (.slice none 0 0) := hfin.2.cell 3
      have x4 : X.cell? ⟨w.heap.size, 4, none⟩ = some (.slice none 0 0) := hfin.2.cell 4
      have x5 : X.cell? ⟨w.heap.size, 5, none⟩ = some (.slice none 0 0) := hfin.2.cell 5
      have x6 : X.cell? ⟨w.heap.size, 6, none⟩ = some (.slice none 0 0) := hfin.2.cell 6
      exact bodyPost_ret (v := .tuple #[zeroV, .int .i64 4]) (by simp [results, Tryd.results23, go_sem, x0, x1, x2, x3, x4, x5, x6]) rfl ⟨hfin.1, .inr ⟨HNO.out, rfl⟩⟩
end Go.Proofs.YtfgpkgenahlikaaDoor
