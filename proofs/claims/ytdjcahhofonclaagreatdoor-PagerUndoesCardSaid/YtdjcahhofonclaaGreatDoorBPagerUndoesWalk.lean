/-
  Texts laid together: PagerUndoesWalk.
-/
import Derived.Test.YtdjcahhofonclaaGreatDoorBQw
import Derived.Test.YtdjcahhofonclaaGreatDoorBQl
import Derived.Test.YtdjcahhofonclaaGreatDoorBFm
section
/-
  The law PagerUndoes, walked.
-/
namespace Go.Proofs.YtdjcahhofonclaaGreatDoor.pagerUndoes
open Go.ChangeShapes Go.WideShapes Go.ChangeAt Go.RowKit
set_option linter.unusedVariables false
set_option linter.unusedSimpArgs false

set_option maxRecDepth 100000 in
set_option maxHeartbeats 4000000 in
theorem walk_out (w : World) (hF : Fours w) (a : Int) (A1 : Option Addr) (n1 c1 : Nat) (A2 : Option Addr) (n2 c2 : Nat) (A3 : Option Addr) (n3 c3 : Nat) (hs : 20 < n1 ∨ 20 < n2 ∨ 40 < n3) (h1 : n1 ≤ maxLen) (h2 : n2 ≤ maxLen) (h3 : n3 ≤ maxLen) :
    Calls Tryz.prog 4 #[.int .i64 a, .slice A1 n1 c1, .slice A2 n2 c2, .slice A3 n3 c3] w fun e w' => e = .returned (.bool true) ∧ Below w.heap.size w w' := by
  have HLV := kept (fun (W : World) (hb : Below w.heap.size w W) => lives_any W (hF.below hb))
  unfold maxLen at h1 h2 h3
  clear hF
  by_cases k1 : 20 < n1
  · have hb : decide ((20 : Int) < (n1 : Int)) = true := by simp; omega
    go_enter Tryz.func4, Tryz.ntmps4
    go_wp2_with (first | (go_at_call 8; first | ((with_reducible refine (HLV.out w (Below.refl _ _)).mono ?_); rintro e w1 ⟨rfl, hb1⟩; have HB1 := kept hb1; clear hb1) | ((with_reducible refine (HLV.out _ HB1.out).mono ?_); rintro e w2 ⟨rfl, hb2⟩; have HB2 := kept hb2; clear hb2)))
    go_ret
    exact ⟨rfl, HB1.out.trans (HB2.out.mono HB1.out.size)⟩
  · have hb : decide ((20 : Int) < (n1 : Int)) = false := by simp; omega
    by_cases k2 : 20 < n2
    · have hb2 : decide ((20 : Int) < (n2 : Int)) = true := by simp; omega
      go_enter Tryz.func4, Tryz.ntmps4
      go_wp2_with (first | (go_at_call 8; first | ((with_reducible refine (HLV.out w (Below.refl _ _)).mono ?_); rintro e w1 ⟨rfl, hb1⟩; have HB1 := kept hb1; clear hb1) | ((with_reducible refine (HLV.out _ HB1.out).mono ?_); rintro e w2 ⟨rfl, hb2⟩; have HB2 := kept hb2; clear hb2)))
      go_ret
      exact ⟨rfl, HB1.out.trans (HB2.out.mono HB1.out.size)⟩
    · have hb2 : decide ((20 : Int) < (n2 : Int)) = false := by simp; omega
      have hb3 : decide ((40 : Int) < (n3 : Int)) = true := by simp; omega
      have k3 : 40 < n3 := by omega
      go_enter Tryz.func4, Tryz.ntmps4
      go_wp2_with (first | (go_at_call 8; first | ((with_reducible refine (HLV.out w (Below.refl _ _)).mono ?_); rintro e w1 ⟨rfl, hb1⟩; have HB1 := kept hb1; clear hb1) | ((with_reducible refine (HLV.out _ HB1.out).mono ?_); rintro e w2 ⟨rfl, hb2⟩; have HB2 := kept hb2; clear hb2)))
      go_ret
      exact ⟨rfl, HB1.out.trans (HB2.out.mono HB1.out.size)⟩
set_option maxRecDepth 100000 in
set_option maxHeartbeats 8000000 in
theorem walked_law (w : World) (hF : Fours w) (a : Int) (A1 : Option Addr) (n1 c1 : Nat) (X1 : Nat → ByteArray) (r1 : RdVals w A1 n1 (fun i => .string (X1 i))) (x1 : ∀ i, i < n1 → (X1 i).size ≤ maxLen) (A2 : Option Addr) (n2 c2 : Nat) (X2 : Nat → ByteArray) (r2 : RdVals w A2 n2 (fun i => .string (X2 i))) (x2 : ∀ i, i < n2 → (X2 i).size ≤ maxLen)
    (A3 : Option Addr) (n3 c3 : Nat) (Z : Nat → Int) (r3 : RdVals w A3 n3 (fun i => .int .i64 (Z i))) (h1 : n1 ≤ 20) (h2 : n2 ≤ 20) (h3 : n3 ≤ 40) :
    Calls Tryz.prog 4 #[.int .i64 a, .slice A1 n1 c1, .slice A2 n2 c2, .slice A3 n3 c3] w fun e w' => e = .returned (.bool true) ∧ Below w.heap.size w w' := by
  have HF := kept hF
  have HLV := kept (lives_any w hF)
  have hb1 : decide ((20 : Int) < (n1 : Int)) = false := by simp; omega
  have hb2 : decide ((20 : Int) < (n2 : Int)) = false := by simp; omega
  have hb3 : decide ((40 : Int) < (n3 : Int)) = false := by simp; omega
  obtain ⟨r, hr, hat0⟩ := placed7 a 100 (by omega) (by omega)
  have hat : wrap64 ((IntKind.u64.wrap a).tmod 100) = (r : Int) := hat0
  obtain ⟨z, hz⟩ : ∃ z, 8 + r = z := ⟨_, rfl⟩
  have hatz : wrap64 (8 + (r : Int)) = (z : Int) := by rw [IntWalk.wrap64_in _ ⟨by omega, by omega⟩]; omega
  have hz8 : 8 ≤ z ∧ z ≤ 108 := by omega
  have HMD := kept (fun (W : World) (hb : Below w.heap.size w W) => made_any z W (by omega) (by omega) (hF.below hb))
  have HR3 := kept (fun (W : World) (hb : Below w.heap.size w W) => (show Fours W ∧ RdVals W A3 n3 (fun i => .int .i64 (Z i)) from ⟨hF.below hb, r3.below hb⟩))
  have HAK1 := kept (fun (W : World) (p : Pgl) (B P : PSt) (S : St) (el : Mt) (h : Rn w W p P S) (hs : Ses S B P el) (ht : P.M.txn + 1 < 18446744073709551616) => addk_any h hs ht hF A1 n1 c1 X1 r1 x1 (by omega))
  have HAK2 := kept (fun (W : World) (p : Pgl) (B P : PSt) (S : St) (el : Mt) (h : Rn w W p P S) (hs : Ses S B P el) (ht : P.M.txn + 1 < 18446744073709551616) => addk_any h hs ht hF A2 n2 c2 X2 r2 x2 (by omega))
  clear hF hat0 hz hr r1 r2 r3 x1 x2
  go_enter Tryz.func4, Tryz.ntmps4
  go_wp2_with (first | (go_at_call 8; (with_reducible refine (HLV.out).mono ?_); rintro e w1 ⟨rfl, hb1⟩; have HB1 := kept hb1 ; clear hb1) | (go_at_call 9; (with_reducible refine ((HMD.out _ HB1.out)).mono ?_); rintro e w2 ⟨p0, rfl, h2⟩))
  obtain ⟨f1, f2, f3, f4, f5⟩ := formatted_spec z hz8.1 (by omega)
  have HR2 : Hid (Rn w w2 p0 (baseP z) (formatted z)) := kept ⟨h2.out.1, fun j hj => Nat.le_trans HB1.out.size (h2.out.2.2 j hj), HB1.out.trans (h2.out.2.1.mono HB1.out.size)⟩
  have HSE0 := kept (base_ses z hz8.1 (by omega : z ≤ 1024))
  have HFU := kept f2
  have HLN := kept f3
  have HDN := kept f4
  have HTX : Hid ((baseP z).M.txn = 1) := kept rfl
  clear h2 f1 f2 f3 f4 f5 HLV HMD hat hatz
  generalize baseP z = B0 at HR2 HSE0 HTX
  generalize formatted z = S0 at HR2 HSE0 HFU HLN HDN
  generalize meta0 z = el0 at HSE0
  obtain ⟨q0, hq0⟩ : ∃ q, p0.r = q := ⟨_, rfl⟩
  obtain ⟨dq, hdq⟩ : ∃ q, p0.d.r = q := ⟨_, rfl⟩
  have HAD := kept (HAK1.out w2 p0 B0 B0 S0 el0 HR2.out HSE0.out (by rw [HTX.out]; decide))
  have HQ0 := kept hq0
  rw [hq0] at HAD
  rw [hq0, hdq]
  clear hq0 hdq
  go_wp2_with (first | (go_at_call 10; (with_reducible refine (HAD.out).mono ?_); rintro e w3 ⟨A4, n4, c4, l4, P1, rfl, h3⟩; obtain ⟨p1, e1, _, hrn⟩ := HR2.out.step h3.out.1; have HP1 : Hid (p1.r = q0) := kept (e1.trans HQ0.out); have HRN := kept hrn; have HSV := kept (save_any hrn.pg); rw [HP1.out] at HSV; have HAD1 := kept h3.out.2.1; have HKP3 := kept h3.out.2.2; clear hrn h3 e1) | (go_at_call 20; (with_reducible refine (HSV.out).mono ?_); rintro e w4 ⟨f5, m5, rfl, h4⟩))
  have HX4 := kept h4.out
  have HB5 : Hid (Blk (w4.alloc (.cells #[.pointer (some ⟨q0, 0, none⟩), .int .u64 (P1.M.txn : Int), .int .i64 P1.root, .pointer (some ⟨f5.r, 0, none⟩), .map (some m5)] 52)) w4.heap.size 52 [.pointer (some ⟨q0, 0, none⟩), .int .u64 (P1.M.txn : Int), .int .i64 P1.root, .pointer (some ⟨f5.r, 0, none⟩), .map (some m5)]) := kept (Blk.new w4 52 #[.pointer (some ⟨q0, 0, none⟩), .int .u64 (P1.M.txn : Int), .int .i64 P1.root, .pointer (some ⟨f5.r, 0, none⟩), .map (some m5)])
  have HB45 : Hid (Below w3.heap.size w3 (w4.alloc (.cells #[.pointer (some ⟨q0, 0, none⟩), .int .u64 (P1.M.txn : Int), .int .i64 P1.root, .pointer (some ⟨f5.r, 0, none⟩), .map (some m5)] 52))) := kept (h4.out.below.alloc h4.out.below.size _)
  have HB46 : Hid (Below w4.heap.size w4 (w4.alloc (.cells #[.pointer (some ⟨q0, 0, none⟩), .int .u64 (P1.M.txn : Int), .int .i64 P1.root, .pointer (some ⟨f5.r, 0, none⟩), .map (some m5)] 52))) := kept ((Below.refl _ w4).alloc (Nat.le_refl _) _)
  generalize (w4.alloc (.cells #[.pointer (some ⟨q0, 0, none⟩), .int .u64 (P1.M.txn : Int), .int .i64 P1.root, .pointer (some ⟨f5.r, 0, none⟩), .map (some m5)] 52)) = W5 at HB5 HB45 HB46 ⊢
  generalize w4.heap.size = b at HB5 ⊢
  have HRN5 := kept (HRN.out.on HB45.out)
  have HRT5 := kept (root_any HRN5.out.pg)
  have HSP5 := kept (pspare_any HRN5.out.pg)
  rw [HP1.out] at HRT5 HSP5
  clear h4
  go_wp2_with (first | (go_at_call 12; (with_reducible refine (HRT5.out).mono ?_); rintro e w6 ⟨rfl, rfl⟩) | (go_at_call 21; (with_reducible refine (HSP5.out).mono ?_); rintro e w6 ⟨D, d, rfl, h6⟩))
  have HU : Hid (Undo w w6 p1 P1 S0 b [.pointer (some ⟨q0, 0, none⟩), .int .u64 (P1.M.txn : Int), .int .i64 P1.root, .pointer (some ⟨f5.r, 0, none⟩), .map (some m5)] f5 m5 p1.V P1.L P1.add A4 n4 c4 l4 D P1.L.S.length d P1.L.S) := kept (by
    have hb6 := h6.out.2.1
    refine ⟨HRN5.out.on hb6, HB5.out.below hb6 HB5.out.lt, (HX4.out.lst.below HB46.out).below hb6, ?_, (HKP3.out.1.below HB45.out).below hb6, h6.out.1, fun j hj ha => ?_, fun ha => ?_, fun g hg ha => ?_⟩
    · have h1 := HX4.out.adm.1.keep (HB46.out.block _ HX4.out.adm.1.lt)
      exact ⟨h1.keep (hb6.block _ h1.lt), (HX4.out.adm.2.below HB46.out).below hb6⟩
    · have h1 := HX4.out.fn j hj
      have h2 := HRN.out.pg.lt_all ha
      omega
    · have h1 := HX4.out.mn
      have h2 := HRN.out.pg.lt_all ha
      omega
    · have h1 := h6.out.2.2 g hg
      have h2 := HRN5.out.pg.lt_all ha
      omega)
  have HOK1 := kept HRN.out.pg.ok
  have HSS : Hid (Ses S0 B0 P1 el0 ∧ P1.M = P1.M ∧ P1.chain = P1.chain) := kept ⟨HAD1.out.ses, rfl, rfl⟩
  have HT1 : Hid (P1.M.txn = 1) := kept (by rw [HAD1.out.M, HTX.out])
  have HKB := kept HAD1.out.new
  have HN4 : Hid (n4 ≤ 1000) := kept (by have := HKP3.out.2.2; omega)
  have HS1 := kept HAD1.out.ses
  clear h6 HX4 HB5 HB45 HB46 HRN5 HRT5 HSP5 HRN HSV HAD HAD1 HKP3 HQ0 HSE0 HTX HR2 HAK1 HB1
  generalize p1.V = V1 at HU
  generalize hsn : P1.L.S.length = sn at HU
  have HSN := kept hsn
  have hsn2 : sn ≤ 1000000 := by
    have := HU.out.nums.cap
    have := HU.out.rn.pg.lst.1.short.1
    omega
  clear hsn
  go_loopw [57] (fun i wr => ∃ (j : Nat) (P2 : PSt) (p2 : Pgl), j ≤ n3 ∧ i = .int .i64 (j : Int) ∧ p2.r = q0 ∧ Hid (Undo w wr p2 P2 S0 b [.pointer (some ⟨q0, 0, none⟩), .int .u64 (P1.M.txn : Int), .int .i64 P1.root, .pointer (some ⟨f5.r, 0, none⟩), .map (some m5)] f5 m5 V1 P1.L P1.add A4 n4 c4 l4 D sn d P1.L.S) ∧ Hid (Ses S0 B0 P2 el0 ∧ P2.M = P1.M ∧ P2.chain = P1.chain)) (fun i _ => n3 - (intOf i).toNat)
  case atStart => exact ⟨0, P1, p1, Nat.zero_le _, rfl, HP1.out, HU, HSS⟩
  case round =>
    obtain ⟨j, P2, p2, hj, rfl, hp2, HV, HS2⟩ := hrel
    clear HU HSS HP1
    by_cases hlt : j < n3
    · obtain ⟨bb, o, rfl, hc⟩ := (HR3.out wr HV.out.rn.below).2.there hlt
      have HDR := kept (drop_any HV.out.rn.pg (Z j))
      have HSD : Hid (Ses S0 B0 (dropP P2 (Z j)).1 el0 ∧ (dropP P2 (Z j)).1.M = P1.M ∧ (dropP P2 (Z j)).1.chain = P1.chain) := kept ⟨HS2.out.1.drop_ _, by rw [(dropP_same P2 (Z j)).1]; exact HS2.out.2.1, by rw [(dropP_same P2 (Z j)).2.1]; exact HS2.out.2.2⟩
      rw [hp2] at HDR
      generalize (dropP P2 (Z j)).1 = P3 at HDR HSD
      generalize (dropP P2 (Z j)).2 = er at HDR
      generalize Z j = x at hc HDR
      go_wp2_with (first | (go_at_call 15; (with_reducible refine (HDR.out).mono ?_); rintro e w7 ⟨rfl, h7⟩; obtain ⟨p7, e7, _, k7⟩ := HV.out.step h7.out; have HV7 := kept k7; clear h7 k7))
      go_roundw
      case rel => exact ⟨j + 1, P3, p7, by omega, by go_num, e7.trans hp2, HV7, HSD⟩
      case measure => simp [intOf]; omega
    · obtain rfl : j = n3 := by omega
      have HAD := kept (HAK2.out wr p2 B0 P2 S0 el0 HV.out.rn HS2.out.1 (by rw [HS2.out.2.1, HT1.out]; decide))
      rw [hp2] at HAD
      go_wp2_with (first | (go_at_call 10; (with_reducible refine (HAD.out).mono ?_); rintro e w7 ⟨A7, n7, c7, l7, P3, rfl, h7⟩; obtain ⟨p7, e7, _, k7⟩ := HV.out.step h7.out.1; have HV7 := kept k7; have HP7 : Hid (p7.r = q0) := kept (e7.trans hp2); have HE7 : Hid (P3.M = P1.M ∧ P3.chain = P1.chain) := kept ⟨h7.out.2.1.M.trans HS2.out.2.1, h7.out.2.1.ch.trans HS2.out.2.2⟩; have HSR := kept (setRoot_any HV7.out.rn.pg 5); obtain ⟨P4, hP4⟩ : ∃ P4 : PSt, ({ P3 with root := 5 } : PSt) = P4 := ⟨_, rfl⟩; rw [HP7.out, hP4] at HSR; have HE4 : Hid (P4.M = P1.M ∧ P4.chain = P1.chain) := kept ⟨by rw [← hP4]; exact HE7.out.1, by rw [← hP4]; exact HE7.out.2⟩; clear h7 k7 e7 hP4) | (go_at_call 11; (with_reducible refine (HSR.out).mono ?_); rintro e w8 ⟨rfl, h8⟩; obtain ⟨p8, e8, _, k8⟩ := HV7.out.step h8.out; have HV8 := kept k8; have HP8 : Hid (p8.r = q0) := kept (e8.trans HP7.out); have y0 : w8.cell? ⟨b, 0, none⟩ = some (.pointer (some ⟨q0, 0, none⟩)) := k8.box.cell 0; have y1 : w8.cell? ⟨b, 1, none⟩ = some (.int .u64 (P1.M.txn : Int)) := k8.box.cell 1; have y2 : w8.cell? ⟨b, 2, none⟩ = some (.int .i64 P1.root) := k8.box.cell 2; have y3 : w8.cell? ⟨b, 3, none⟩ = some (.pointer (some ⟨f5.r, 0, none⟩)) := k8.box.cell 3; have y4 : w8.cell? ⟨b, 4, none⟩ = some (.map (some m5)) := k8.box.cell 4; have HBK := kept (back_any k8.rn.pg P1.root f5 m5 V1 P1.L P1.add k8.lst k8.adm (by rw [back_eq HE4.out.1 HE4.out.2]; exact HOK1.out)); rw [back_eq HE4.out.1 HE4.out.2, HP8.out, HE4.out.1] at HBK; clear h8 k8 e8) | (go_at_call 22; (with_reducible refine (HBK.out).mono ?_); rintro e w9 ⟨rfl, h9⟩; obtain ⟨p9, e9, _, k9⟩ := HV8.out.step h9.out; have HV9 := kept k9; have HP9 : Hid (p9.r = q0) := kept (e9.trans HP8.out); have HRT9 := kept (root_any k9.rn.pg); have HSP9 := kept (pspare_any k9.rn.pg); rw [HP9.out] at HRT9 HSP9; rw [HSN.out] at HSP9; clear h9 k9 e9 y0 y1 y2 y3 y4) | (go_at_call 12; (with_reducible refine (HRT9.out).mono ?_); rintro e w10 ⟨rfl, rfl⟩) | (go_at_call 21; (with_reducible refine (HSP9.out).mono ?_); rintro e w10 ⟨E, ec, rfl, h10⟩; have HV10 := kept (HV9.out.on h10.out.2.1); have h10r := h10.out.1.reads; rw [HSN.out] at h10r; have HSM := kept (same_true E D sn ec d P1.L.S w10 h10r HV10.out.nums.reads hsn2); clear h10 h10r) | (go_at_call 23; (with_reducible refine (HSM.out).mono ?_); rintro e w11 ⟨rfl, h11⟩; obtain ⟨nq, rfl⟩ := h11.out; have HV11 := kept (HV10.out.on (below_dn (Below.refl _ w10) nq)); have HSH := kept (showsk_any HV11.out.rn.pg (by rw [HFU.out]; decide) (HR3.out _ HV11.out.rn.below).1 A4 n4 c4 l4 HV11.out.kpt.reads HN4.out HKB.out); rw [HP9.out] at HSH; clear h11) | (go_at_call 19; first | ((with_reducible refine HSH.out.mono ?_); rintro e w12 ⟨rfl, hb12⟩; have HV12 := kept (HV11.out.on hb12); have HCM := kept (commit_ses HV12.out.rn.pg HS1.out HFU.out (by rw [HT1.out]; decide) (by have := HDN.out; omega) (HR3.out _ HV12.out.rn.below).1); rw [HP9.out] at HCM; clear hb12) | ((with_reducible refine HSH2.out.mono ?_); rintro e w14 ⟨rfl, hb14⟩; have HB14 := kept (HV13.out.rn.below.trans (hb14.mono HV13.out.rn.below.size)); clear hb14)) | (go_at_call 13; (with_reducible refine (HCM.out).mono ?_); rintro e w13 ⟨rfl, h13⟩; obtain ⟨p13, e13, _, k13⟩ := HV12.out.step h13.out; have HV13 := kept k13; obtain ⟨c1, c2, c3, c4', c5, c6⟩ := HS1.out.commit HV12.out.rn.pg.ok HV12.out.rn.pg.lst.1 (by rw [HT1.out]; decide) HFU.out; have HSH2 := kept (showsk_any k13.rn.pg (by rw [c2]; decide) (HR3.out _ k13.rn.below).1 A4 n4 c4 l4 k13.kpt.reads HN4.out (fun x hx => (HKB.out x hx).commit HV12.out.rn.pg.ok (by rw [HLN.out]; omega) c4' c5)); rw [e13, HP9.out] at HSH2; clear h13 k13 c1 c2 c3 c4' c5 c6))
      go_ret
      exact ⟨rfl, HB14.out⟩
theorem walk (w : World) (hF : Fours w) (a : Int) (ha : (Lit.int .i64 a).wf = true) (A1 : Option Addr) (n1 c1 : Nat) (nc1 : n1 ≤ c1) (cm1 : c1 ≤ maxLen) (X1 : Nat → ByteArray) (r1 : RdVals w A1 n1 (fun i => .string (X1 i)) ∧ ∀ i, i < n1 → (X1 i).size ≤ maxLen) (A2 : Option Addr) (n2 c2 : Nat) (nc2 : n2 ≤ c2) (cm2 : c2 ≤ maxLen) (X2 : Nat → ByteArray) (r2 : RdVals w A2 n2 (fun i => .string (X2 i)) ∧ ∀ i, i < n2 → (X2 i).size ≤ maxLen)
    (A3 : Option Addr) (n3 c3 : Nat) (nc3 : n3 ≤ c3) (cm3 : c3 ≤ maxLen) (Z : Nat → Int) (r3 : RdVals w A3 n3 (fun i => .int .i64 (Z i))) (w3 : ∀ i, i < n3 → (Lit.int .i64 (Z i)).wf = true) :
    Calls Tryz.prog 4 #[.int .i64 a, .slice A1 n1 c1, .slice A2 n2 c2, .slice A3 n3 c3] w fun e w' => e = .returned (.bool true) ∧ Below w.heap.size w w' := by
  by_cases h : n1 ≤ 20 ∧ n2 ≤ 20 ∧ n3 ≤ 40
  · exact walked_law w hF a A1 n1 c1 X1 r1.1 r1.2 A2 n2 c2 X2 r2.1 r2.2 A3 n3 c3 Z r3 h.1 h.2.1 h.2.2
  · exact walk_out w hF a A1 n1 c1 A2 n2 c2 A3 n3 c3 (by omega) (by omega) (by omega) (by omega)
end Go.Proofs.YtdjcahhofonclaaGreatDoor.pagerUndoes
end
