/-
  The document's own text, Tomb and Encode of a record.
-/
import Derived.Test.YtcmjgkgdeaiifaaNe
namespace Go.Proofs.Ytcmjgkgdeaiifaa
open Go.ChangeShapes Go.WideShapes Go.ChangeAt Go.RowKit
set_option linter.unusedVariables false
set_option linter.unusedSimpArgs false

theorem refPut_8k (m : Nat) (w : World) (hm : m ≤ 4611686018427387904) :
    Calls Try.prog 30 #[.int .u64 (m : Int), .int .i64 8] w fun e w' => ∃ A c, e = .returned (.slice A 8 c) ∧ w'.ownsRow w.heap.size 5 1 (.slice A 8 c) 8 (cellsOf (be m 8)) ∧ Below w.heap.size w w' := refPut_own m 8 w (by omega) (by omega)
theorem refPut_2k (m : Nat) (w : World) (hm : m < 65536) :
    Calls Try.prog 30 #[.int .u64 (m : Int), .int .i64 2] w fun e w' => ∃ A c, e = .returned (.slice A 2 c) ∧ w'.ownsRow w.heap.size 5 1 (.slice A 2 c) 2 (cellsOf (be m 2)) ∧ Below w.heap.size w w' := refPut_own m 2 w (by omega) (by omega)
theorem own_lit1 (W : World) (b : UInt8) (C : Array Value) (hC : C = #[byteV b]) : (W.alloc (.cells C 5)).ownsRow W.heap.size 5 1 (.slice (some ⟨W.heap.size, 0, none⟩) 1 1) 1 (cellsOf [b]) := by
  subst hC
  have hb := Blk.new W 5 #[byteV b]
  exact Blk.own (xs := [b]) hb (Nat.le_refl _) rfl (by unfold maxLen; omega)
theorem refText_k (A : Option Addr) (n c : Nat) (xs : List UInt8) (w : World) (h : Rd w A n xs) (hn : n < 65536) :
    Calls Try.prog 29 #[.slice A n c] w fun e w' => ∃ A' c', e = .returned (.slice A' (2 + n) c') ∧ w'.ownsRow w.heap.size 5 1 (.slice A' (2 + n) c') (2 + n) (cellsOf (textB xs)) ∧ Below w.heap.size w w' := by
  have HP := kept (refPut_2k n w hn)
  have HH := kept h
  have HL : Hid (be n 2 ++ xs = textB xs) := by show _ = _; rw [← h.1]; rfl
  have hw : IntKind.u64.wrap (n : Int) = (n : Int) := IntWalk.u64_in _ ⟨by omega, by omega⟩
  have HN := kept hn
  clear h hn
  go_enter Try.func29, Try.ntmps29
  go_wp2_with (first | (go_at_call 30; (with_reducible refine (HP.out).mono ?_); rintro e w1 ⟨A1, c1, rfl, hown, hb⟩; have HO := kept hown; have HX := kept (HH.out.below hb); have HB := kept hb; clear hown hb) | (at_builtin; refine wpList_append_to rfl _ _ 22 rfl w.heap.size 5 rfl rfl Try.underlying22 u8info HO.out HX.out (by have := HN.out; omega) HB.out.size (2 + n) (textB xs) rfl HL.out ?_; intro A3 c3 w3 hown3 hb3; have HO3 := kept hown3; have HB3 := kept (HB.out.trans hb3); clear hown3 hb3))
  go_ret
  exact ⟨A3, c3, rfl, HO3.out, HB3.out⟩
theorem refTomb_k (A : Option Addr) (n c : Nat) (xs : List UInt8) (w : World) (h : Rd w A n xs) (hn : n < 65536) :
    Calls Try.prog 17 #[.slice A n c] w fun e w' => ∃ A' c', e = .returned (.slice A' (3 + n) c') ∧ w'.ownsRow w.heap.size 5 1 (.slice A' (3 + n) c') (3 + n) (cellsOf (headB 2 xs)) ∧ Below w.heap.size w w' := by
  have HA := kept ((Below.refl w.heap.size w).alloc (Nat.le_refl _) (.cells #[.int .u8 2] 5))
  have HO0 := kept (own_lit1 w 2 #[.int .u8 2] rfl)
  have HP := kept (refText_k A n c xs _ (h.below HA.out) hn)
  have HN := kept hn
  clear h hn
  go_enter Try.func17, Try.ntmps17
  go_wp2_with (first | (go_at_call 29; (with_reducible refine (HP.out).mono ?_); rintro e w1 ⟨A1, c1, rfl, hown, hb⟩; have HO := kept (own_stays HO0.out hb); have HX := kept (Rd.of_own hown); have HB := kept (bel_to hb HA.out); clear hown hb) | (at_builtin; refine wpList_append_to rfl _ _ 22 rfl w.heap.size 5 rfl rfl Try.underlying22 u8info HO.out HX.out (by have := HN.out; omega) HB.out.size (3 + n) (headB 2 xs) (by omega) rfl ?_; intro A3 c3 w3 hown3 hb3; have HO3 := kept hown3; have HB3 := kept (HB.out.trans hb3); clear hown3 hb3))
  go_ret
  exact ⟨A3, c3, rfl, HO3.out, HB3.out⟩
theorem Six.below_ {B : Nat} {w w' : World} {g : Nat} {L : LayV} {x : Kv} (h : Six w g L x) (hb : Below B w w') (hg : g < B) : Six w' g L x := Blk.below h hb hg
set_option maxRecDepth 100000 in
set_option maxHeartbeats 2000000 in
theorem refEncode_kv_nat (ka : Option Addr) (kn kc : Nat) (va : Option Addr) (vn vc : Nat) (xk xv : List UInt8) (c m v l : Nat) (w : World) (h : RdV w ⟨ka, kn, kc, va, vn, vc⟩ ⟨xk, xv, c, m, v, l⟩)
    (hc : c ≤ 4611686018427387904) (hm : m ≤ 4611686018427387904) (hv : v ≤ 4611686018427387904) (hl : l ≤ 4611686018427387904) (hkn : kn ≤ 64) (hvn : vn ≤ 1024) :
    Calls Try.prog 16 #[.agg #[.slice ka kn kc, .slice va vn vc, .int .i64 (c : Int), .int .i64 (m : Int), .int .i64 (v : Int), .int .i64 (l : Int)]] w fun e w' => ∃ A' c', e = .returned (.slice A' (37 + (kn + vn)) c') ∧ w'.ownsRow w.heap.size 5 1 (.slice A' (37 + (kn + vn)) c') (37 + (kn + vn)) (cellsOf (kvB ⟨xk, xv, c, m, v, l⟩)) ∧ Below w.heap.size w w' := by
  have HE : Hid ((((((headB 1 xk ++ be c 8) ++ be m 8) ++ be v 8) ++ be l 8) ++ textB xv) = kvB ⟨xk, xv, c, m, v, l⟩) := by show _ = _; rw [kvB_nat]; simp [numsB, List.append_assoc]
  have HP1 := fun W => kept (refPut_8k c W hc)
  have HP2 := fun W => kept (refPut_8k m W hm)
  have HP3 := fun W => kept (refPut_8k v W hv)
  have HP4 := fun W => kept (refPut_8k l W hl)
  have hw1 : IntKind.u64.wrap (c : Int) = (c : Int) := IntWalk.u64_in _ ⟨by omega, by omega⟩
  have hw2 : IntKind.u64.wrap (m : Int) = (m : Int) := IntWalk.u64_in _ ⟨by omega, by omega⟩
  have hw3 : IntKind.u64.wrap (v : Int) = (v : Int) := IntWalk.u64_in _ ⟨by omega, by omega⟩
  have hw4 : IntKind.u64.wrap (l : Int) = (l : Int) := IntWalk.u64_in _ ⟨by omega, by omega⟩
  have HS0 := Six.new w ⟨ka, kn, kc, va, vn, vc⟩ ⟨xk, xv, c, m, v, l⟩
  have HA0 := boxV_below w ⟨ka, kn, kc, va, vn, vc⟩ ⟨xk, xv, c, m, v, l⟩
  have hsz := boxV_size w ⟨ka, kn, kc, va, vn, vc⟩ ⟨xk, xv, c, m, v, l⟩
  obtain ⟨w1, hw⟩ : ∃ w1, w1 = boxV w ⟨ka, kn, kc, va, vn, vc⟩ ⟨xk, xv, c, m, v, l⟩ := ⟨_, rfl⟩
  have hS1 : Six w1 w.heap.size ⟨ka, kn, kc, va, vn, vc⟩ ⟨xk, xv, c, m, v, l⟩ := by rw [hw]; exact HS0
  have hB1 : Below w.heap.size w w1 := by rw [hw]; exact HA0
  rw [← hw] at hsz
  have hlit := (Below.refl w1.heap.size w1).alloc (Nat.le_refl _) (.cells #[.int .u8 1] 5)
  have hB2 : Below (w.heap.size + 1) w1 (w1.alloc (.cells #[.int .u8 1] 5)) := by rw [← hsz]; exact hlit
  have ho2 := own_lit1 w1 1 #[.int .u8 1] rfl
  rw [hsz] at ho2
  have hs2 : (w1.alloc (.cells #[.int .u8 1] 5)).heap.size = w.heap.size + 1 + 1 := by rw [World.size_alloc, hsz]
  have HW := kept hw
  have HS1 := kept hS1
  have HRD := kept (And.intro (h.below hB1) hB1)
  have HB := kept hB2
  have HO := kept ho2
  have HSZ := kept (show w.heap.size + 1 ≤ (w1.alloc (.cells #[.int .u8 1] 5)).heap.size by omega)
  have HX := fun W hr => kept (refText_k ka kn kc xk W hr (by omega))
  have HY := fun W hr => kept (refText_k va vn vc xv W hr (by omega))
  have HKN := kept hkn
  have HVN := kept hvn
  have HLT := kept (show w.heap.size < w.heap.size + 1 by omega)
  have HB1 := kept (show Below (w.heap.size + 1) w1 w1 from Below.refl _ _)
  have hkk := (hS1.below_ HB.out HLT.out).cells
  rw [hw] at hkk
  unfold boxV at hkk
  obtain ⟨k1, k2, k3, k4, k5, k6⟩ := hkk
  dsimp only at k1 k2 k3 k4 k5 k6
  have HR1 := fun (W : World) (hb : Below (w.heap.size + 1) w1 W) => kept (HRD.out.1.below (hb.mono (by rw [hsz]; exact Nat.le_refl _)))
  clear h hc hm hv hl hkn hvn HS0 HA0 hS1 hB1 hlit hB2 ho2 hs2
  have HSS := kept hsz
  clear hsz
  go_enter Try.func16, Try.ntmps16
  go_wp2_with fail
  rw [show w.alloc (.cells #[.slice ka kn kc, .slice va vn vc, .int .i64 (c : Int), .int .i64 (m : Int), .int .i64 (v : Int), .int .i64 (l : Int)] 24) = w1 from hw.symm]
  with_reducible refine (HX _ (HR1 _ HB.out).out.key).out.mono ?_
  clear k1 k2 k3 k4 k5 k6
  rintro e w2 ⟨A2, c2, rfl, hown, hb⟩
  have HO := kept (own_stays HO.out hb)
  have HT := kept (Rd.of_own hown)
  have HB := kept (HB.out.trans (hb.mono HSZ.out))
  clear hown hb
  have HSZ := kept (show w.heap.size + 1 ≤ w2.heap.size by have := HB.out.size; have := HSS.out; omega)
  go_wp2_with (first | (at_builtin; refine wpList_append_to rfl _ _ 22 rfl (w.heap.size + 1) 5 rfl rfl Try.underlying22 u8info HO.out HT.out (by have := HKN.out; omega) HSZ.out (3 + kn) (headB 1 xk) (by omega) rfl ?_; intro A3 c3 w3 hown hb; replace HO := kept hown; replace HSZ := kept (Nat.le_trans HSZ.out hb.size); replace HB := kept (HB.out.trans hb); obtain ⟨k1, k2, k3, k4, k5, k6⟩ := (HS1.out.below_ HB.out HLT.out).cells; dsimp only at k1 k2 k3 k4 k5 k6; clear hown hb HT; go_wp2_with fail))
  with_reducible refine (HP1 _).out.mono ?_
  clear k1 k2 k3 k4 k5 k6
  rintro e w4 ⟨A4, c4, rfl, hown, hb⟩
  replace HO := kept (own_stays HO.out hb)
  have HT := kept (Rd.of_own hown)
  replace HB := kept (HB.out.trans (hb.mono HSZ.out))
  replace HSZ := kept (Nat.le_trans HSZ.out hb.size)
  clear hown hb
  go_wp2_with (first | (at_builtin; refine wpList_append_to rfl _ _ 22 rfl (w.heap.size + 1) 5 rfl rfl Try.underlying22 u8info HO.out HT.out (by have := HKN.out; omega) HSZ.out (3 + kn + 8) (headB 1 xk ++ be c 8) rfl rfl ?_; intro A5 c5 w5 hown hb; replace HO := kept hown; replace HSZ := kept (Nat.le_trans HSZ.out hb.size); replace HB := kept (HB.out.trans hb); obtain ⟨k1, k2, k3, k4, k5, k6⟩ := (HS1.out.below_ HB.out HLT.out).cells; dsimp only at k1 k2 k3 k4 k5 k6; clear hown hb HT; go_wp2_with fail))
  with_reducible refine (HP2 _).out.mono ?_
  clear k1 k2 k3 k4 k5 k6
  rintro e w6 ⟨A6, c6, rfl, hown, hb⟩
  replace HO := kept (own_stays HO.out hb)
  have HT := kept (Rd.of_own hown)
  replace HB := kept (HB.out.trans (hb.mono HSZ.out))
  replace HSZ := kept (Nat.le_trans HSZ.out hb.size)
  clear hown hb
  go_wp2_with (first | (at_builtin; refine wpList_append_to rfl _ _ 22 rfl (w.heap.size + 1) 5 rfl rfl Try.underlying22 u8info HO.out HT.out (by have := HKN.out; omega) HSZ.out (3 + kn + 8 + 8) ((headB 1 xk ++ be c 8) ++ be m 8) rfl rfl ?_; intro A7 c7 w7 hown hb; replace HO := kept hown; replace HSZ := kept (Nat.le_trans HSZ.out hb.size); replace HB := kept (HB.out.trans hb); obtain ⟨k1, k2, k3, k4, k5, k6⟩ := (HS1.out.below_ HB.out HLT.out).cells; dsimp only at k1 k2 k3 k4 k5 k6; clear hown hb HT; go_wp2_with fail))
  with_reducible refine (HP3 _).out.mono ?_
  clear k1 k2 k3 k4 k5 k6
  rintro e w8 ⟨A8, c8, rfl, hown, hb⟩
  replace HO := kept (own_stays HO.out hb)
  have HT := kept (Rd.of_own hown)
  replace HB := kept (HB.out.trans (hb.mono HSZ.out))
  replace HSZ := kept (Nat.le_trans HSZ.out hb.size)
  clear hown hb
  go_wp2_with (first | (at_builtin; refine wpList_append_to rfl _ _ 22 rfl (w.heap.size + 1) 5 rfl rfl Try.underlying22 u8info HO.out HT.out (by have := HKN.out; omega) HSZ.out (3 + kn + 8 + 8 + 8) (((headB 1 xk ++ be c 8) ++ be m 8) ++ be v 8) rfl rfl ?_; intro A9 c9 w9 hown hb; replace HO := kept hown; replace HSZ := kept (Nat.le_trans HSZ.out hb.size); replace HB := kept (HB.out.trans hb); obtain ⟨k1, k2, k3, k4, k5, k6⟩ := (HS1.out.below_ HB.out HLT.out).cells; dsimp only at k1 k2 k3 k4 k5 k6; clear hown hb HT; go_wp2_with fail))
  with_reducible refine (HP4 _).out.mono ?_
  clear k1 k2 k3 k4 k5 k6
  rintro e w10 ⟨A10, c10, rfl, hown, hb⟩
  replace HO := kept (own_stays HO.out hb)
  have HT := kept (Rd.of_own hown)
  replace HB := kept (HB.out.trans (hb.mono HSZ.out))
  replace HSZ := kept (Nat.le_trans HSZ.out hb.size)
  clear hown hb
  go_wp2_with (first | (at_builtin; refine wpList_append_to rfl _ _ 22 rfl (w.heap.size + 1) 5 rfl rfl Try.underlying22 u8info HO.out HT.out (by have := HKN.out; omega) HSZ.out (3 + kn + 8 + 8 + 8 + 8) ((((headB 1 xk ++ be c 8) ++ be m 8) ++ be v 8) ++ be l 8) rfl rfl ?_; intro A11 c11 w11 hown hb; replace HO := kept hown; replace HSZ := kept (Nat.le_trans HSZ.out hb.size); replace HB := kept (HB.out.trans hb); obtain ⟨k1, k2, k3, k4, k5, k6⟩ := (HS1.out.below_ HB.out HLT.out).cells; dsimp only at k1 k2 k3 k4 k5 k6; clear hown hb HT; go_wp2_with fail))
  with_reducible refine (HY _ (HR1 _ HB.out).out.val).out.mono ?_
  clear k1 k2 k3 k4 k5 k6
  rintro e w12 ⟨A12, c12, rfl, hown, hb⟩
  replace HO := kept (own_stays HO.out hb)
  have HT := kept (Rd.of_own hown)
  replace HB := kept (HB.out.trans (hb.mono HSZ.out))
  replace HSZ := kept (Nat.le_trans HSZ.out hb.size)
  clear hown hb
  go_wp2_with (first | (at_builtin; refine wpList_append_to rfl _ _ 22 rfl (w.heap.size + 1) 5 rfl rfl Try.underlying22 u8info HO.out HT.out (by have := HKN.out; have := HVN.out; omega) HSZ.out (37 + (kn + vn)) (kvB ⟨xk, xv, c, m, v, l⟩) (by omega) HE.out ?_; intro A13 c13 w13 hown hb; replace HO := kept hown; replace HSZ := kept (Nat.le_trans HSZ.out hb.size); replace HB := kept (HB.out.trans hb); obtain ⟨k1, k2, k3, k4, k5, k6⟩ := (HS1.out.below_ HB.out HLT.out).cells; dsimp only at k1 k2 k3 k4 k5 k6; clear hown hb HT))
  go_ret
  exact ⟨A13, c13, rfl, own_mono HO.out (Nat.le_succ _), HRD.out.2.trans (HB.out.mono (Nat.le_succ _))⟩
end Go.Proofs.Ytcmjgkgdeaiifaa
