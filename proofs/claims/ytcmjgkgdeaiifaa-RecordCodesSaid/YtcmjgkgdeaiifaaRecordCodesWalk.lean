/-
  The law RecordCodes walked: for any record it returns true and writes nothing that was there.
-/
import Derived.Test.YtcmjgkgdeaiifaaNn
import Derived.Test.YtcmjgkgdeaiifaaNh
namespace Go.Proofs.Ytcmjgkgdeaiifaa.recordCodes
open Go.ChangeShapes Go.WideShapes Go.ChangeAt Go.RowKit
set_option linter.unusedVariables false
set_option linter.unusedSimpArgs false

/-- Two records in their blocks, and two rows of bytes. -/
structure Bag (w : World) (g : Nat) (L : LayV) (x : Kv) (h : Nat) (M : LayV) (y : Kv) (A : Option Addr) (n : Nat) (xs : List UInt8) (B : Option Addr) (m : Nat) (ys : List UInt8) : Prop where
  s1 : Six w g L x
  r1 : RdV w L x
  s2 : Six w h M y
  r2 : RdV w M y
  b1 : Rd w A n xs
  b2 : Rd w B m ys
theorem Bag.below {w w' : World} {g h n m : Nat} {L M : LayV} {x y : Kv} {A B : Option Addr} {xs ys : List UInt8} (q : Bag w g L x h M y A n xs B m ys) (hb : Below w.heap.size w w') : Bag w' g L x h M y A n xs B m ys :=
  ⟨q.s1.below hb, q.r1.below hb, q.s2.below hb, q.r2.below hb, q.b1.below hb, q.b2.below hb⟩
set_option maxRecDepth 100000 in
set_option maxHeartbeats 1000000 in
theorem walk_ok (w : World) (L : LayV) (x : Kv) (rv : RdV w L x) (hf1 : L.kn ≤ 200) (hf2 : L.vn ≤ 2000) (hok : rightV x = true) (hn1 : 1 ≤ L.kn) (hn2 : L.kn ≤ 64) :
    Calls Try.prog 3 #[vkv L x] w fun e w' => e = .returned (.bool true) ∧ Below w.heap.size w w' := by
  have HL := fun w => kept (lives_kv w)
  have HF := fun W r => kept (few_kv L x W r true (by simp [hf1, hf2]))
  have HT := fun W r => kept (refTwin_kv L x W r)
  have HKL := kept (show L.kn = x.key.length from rv.key.1.symm)
  have HK6 := kept hf1
  have G0 : Hid (Bag (boxV w L x) w.heap.size L x w.heap.size L x none 0 [] none 0 []) := kept ⟨Six.new w L x, rv.below (boxV_below w L x), Six.new w L x, rv.below (boxV_below w L x), Rd.nil_ _ _, Rd.nil_ _ _⟩
  have B0 := kept (boxV_below w L x)
  have HOK := kept hok
  have HEN := fun W M r => kept (encode_kv M x W hok r)
  have HR1 := fun W r => kept (refRight_kv L x W _ hok r)
  have HR2 := fun W M r => kept (right_kv M x W _ hok r)
  have HSS := fun W M r r' => kept (refSame_kv M L x x W true (by simp) r r')
  have HE2 := fun W r => kept (refEncode_kv L x W hok r)
  have hkb : keyB L.kn = true := by simp [keyB]; omega
  have d1 : decide ((1 : Int) ≤ (L.kn : Int)) = true := by simp; omega
  have d2 : decide ((L.kn : Int) ≤ 64) = true := by simp; omega
  have HKB := kept hkb
  clear hkb hf1 hf2 hok rv hn1 hn2
  obtain ⟨a0, a1, a2, a3, a4, a5⟩ := G0.out.s1.cells
  unfold boxV at a0 a1 a2 a3 a4 a5
  go_enter Try.func3, Try.ntmps3
  go_wp2_with fail
  clear a0 a1 a2 a3 a4 a5
  with_reducible refine ((HL _).out).mono ?_
  rintro e w1 ⟨rfl, hb⟩
  have G1 := kept (G0.out.below hb)
  have B1 := kept (bel_to hb B0.out)
  clear hb
  obtain ⟨a0, a1, a2, a3, a4, a5⟩ := G1.out.s1.cells
  go_wp2_with fail
  clear a0 a1 a2 a3 a4 a5
  with_reducible refine ((HF _ G1.out.r1).out).mono ?_
  rintro e w2 ⟨rfl, hb⟩
  have G2 := kept (G1.out.below hb)
  have B2 := kept (bel_to hb B1.out)
  clear hb
  obtain ⟨a0, a1, a2, a3, a4, a5⟩ := G2.out.s1.cells
  go_wp2_with fail
  clear a0 a1 a2 a3 a4 a5
  with_reducible refine (HT _ G2.out.r1).out.mono ?_
  rintro e w3 ⟨M, rfl, how, hb⟩
  have HMK : Hid (M.kn = L.kn) := kept (by rw [HKL.out]; exact how.rd.key.1.symm)
  have G3 : Hid (Bag (boxV w3 M x) w.heap.size L x w3.heap.size M x none 0 [] none 0 []) := kept ⟨(G2.out.s1.below hb).below (boxV_below w3 M x), (G2.out.r1.below hb).below (boxV_below w3 M x), Six.new w3 M x, how.rd.below (boxV_below w3 M x), Rd.nil_ _ _, Rd.nil_ _ _⟩
  have B3 := kept (bel_to (boxV_below w3 M x) (bel_to hb B2.out))
  clear hb how
  obtain ⟨a0, a1, a2, a3, a4, a5⟩ := G3.out.s2.cells
  go_wp2_with fail
  clear a0 a1 a2 a3 a4 a5
  with_reducible refine (HEN _ M G3.out.r2).out.mono ?_
  rintro e w4 ⟨A4, c4, rfl, hown, hb⟩
  have G4 : Hid (Bag w4 w.heap.size L x w3.heap.size M x A4 (37 + (M.kn + M.vn)) (kvB x) none 0 []) := kept ⟨G3.out.s1.below hb, G3.out.r1.below hb, G3.out.s2.below hb, G3.out.r2.below hb, Rd.of_own hown, Rd.nil_ _ _⟩
  have B4 := kept (bel_to hb B3.out)
  clear hb hown
  obtain ⟨a0, a1, a2, a3, a4, a5⟩ := G4.out.s2.cells
  have HTM := kept (tomb_yes M.ka M.kn M.kc x.key w4 G4.out.r2.has_key (by rw [HMK.out]; exact HKB.out))
  go_wp2_with fail
  clear a0 a1 a2 a3 a4 a5
  with_reducible refine HTM.out.mono ?_
  rintro e w5 ⟨A5, c5, rfl, hown, hb⟩
  have G5 : Hid (Bag w5 w.heap.size L x w3.heap.size M x A4 (37 + (M.kn + M.vn)) (kvB x) A5 (3 + M.kn) (headB 2 x.key)) := kept ⟨G4.out.s1.below hb, G4.out.r1.below hb, G4.out.s2.below hb, G4.out.r2.below hb, G4.out.b1.below hb, Rd.of_own hown⟩
  have B5 := kept (bel_to hb B4.out)
  clear hb hown HTM
  obtain ⟨a0, a1, a2, a3, a4, a5⟩ := G5.out.s1.cells
  go_wp2_with fail
  clear a0 a1 a2 a3 a4 a5
  with_reducible refine ((HR1 _ G5.out.r1).out).mono ?_
  rintro e w6 ⟨rfl, hb⟩
  have G6 := kept (G5.out.below hb)
  have B6 := kept (bel_to hb B5.out)
  clear hb
  obtain ⟨a0, a1, a2, a3, a4, a5⟩ := G6.out.s1.cells
  obtain ⟨b0, b1, b2, b3, b4, b5⟩ := G6.out.s2.cells
  go_wp2_with fail
  clear a0 a1 a2 a3 a4 a5
  clear b0 b1 b2 b3 b4 b5
  with_reducible refine ((HR2 _ M G6.out.r2).out).mono ?_
  rintro e w7 ⟨rfl, hb⟩
  have G7 := kept (G6.out.below hb)
  have B7 := kept (bel_to hb B6.out)
  clear hb
  obtain ⟨a0, a1, a2, a3, a4, a5⟩ := G7.out.s1.cells
  obtain ⟨b0, b1, b2, b3, b4, b5⟩ := G7.out.s2.cells
  go_wp2_with fail
  clear a0 a1 a2 a3 a4 a5
  clear b0 b1 b2 b3 b4 b5
  with_reducible refine ((HSS _ M G7.out.r2 G7.out.r1).out).mono ?_
  rintro e w8 ⟨rfl, hb⟩
  have G8 := kept (G7.out.below hb)
  have B8 := kept (bel_to hb B7.out)
  clear hb
  obtain ⟨a0, a1, a2, a3, a4, a5⟩ := G8.out.s1.cells
  go_wp2_with fail
  clear a0 a1 a2 a3 a4 a5
  with_reducible refine (HE2 _ G8.out.r1).out.mono ?_
  rintro e w9 ⟨A9, c9, rfl, hown, hb⟩
  have G9 := kept (G8.out.below hb)
  have B9 := kept (bel_to hb B8.out)
  have HSM := kept (same_any A4 A9 _ _ c4 c9 _ _ w9 G9.out.b1 (Rd.of_own hown) true (by simp))
  clear hb hown
  go_wp2_with fail
  with_reducible refine HSM.out.mono ?_
  rintro e w10 ⟨rfl, rfl⟩
  clear HSM
  obtain ⟨a0, a1, a2, a3, a4, a5⟩ := G9.out.s1.cells
  have HT2 := kept (refTomb_k L.ka L.kn L.kc x.key _ G9.out.r1.key (by have := HK6.out; omega))
  go_wp2_with fail
  clear a0 a1 a2 a3 a4 a5
  with_reducible refine HT2.out.mono ?_
  rintro e w11 ⟨A11, c11, rfl, hown, hb⟩
  have G11 := kept (G9.out.below hb)
  have B11 := kept (bel_to hb B9.out)
  have HSM := kept (same_any A5 A11 _ _ c5 c11 _ _ w11 G11.out.b2 (Rd.of_own hown) true (by simp))
  clear hb hown
  go_wp2_with (first | (go_at_call 15; (with_reducible refine (HSM.out).mono ?_); rintro e w12 ⟨rfl, rfl⟩))
  go_ret
  exact ⟨by first | rfl | simp, B11.out⟩
set_option maxRecDepth 100000 in
set_option maxHeartbeats 1000000 in
theorem walk_no (w : World) (L : LayV) (x : Kv) (rv : RdV w L x) (hf1 : L.kn ≤ 200) (hf2 : L.vn ≤ 2000) (hok : rightV x = false) (hn1 : 1 ≤ L.kn) (hn2 : L.kn ≤ 64) :
    Calls Try.prog 3 #[vkv L x] w fun e w' => e = .returned (.bool true) ∧ Below w.heap.size w w' := by
  have HL := fun w => kept (lives_kv w)
  have HF := fun W r => kept (few_kv L x W r true (by simp [hf1, hf2]))
  have HT := fun W r => kept (refTwin_kv L x W r)
  have HKL := kept (show L.kn = x.key.length from rv.key.1.symm)
  have HK6 := kept hf1
  have G0 : Hid (Bag (boxV w L x) w.heap.size L x w.heap.size L x none 0 [] none 0 []) := kept ⟨Six.new w L x, rv.below (boxV_below w L x), Six.new w L x, rv.below (boxV_below w L x), Rd.nil_ _ _, Rd.nil_ _ _⟩
  have B0 := kept (boxV_below w L x)
  have HOK := kept hok
  have HEN := fun W M r => kept (encode_kv_no M x W hok r)
  have HR1 := fun W r => kept (refRight_kv L x W _ hok r)
  have HR2 := fun W M r => kept (right_kv M x W _ hok r)
  have HSS := fun W M r r' => kept (refSame_kv M L x x W true (by simp) r r')
  have hkb : keyB L.kn = true := by simp [keyB]; omega
  have d1 : decide ((1 : Int) ≤ (L.kn : Int)) = true := by simp; omega
  have d2 : decide ((L.kn : Int) ≤ 64) = true := by simp; omega
  have HKB := kept hkb
  clear hkb hf1 hf2 hok rv hn1 hn2
  obtain ⟨a0, a1, a2, a3, a4, a5⟩ := G0.out.s1.cells
  unfold boxV at a0 a1 a2 a3 a4 a5
  go_enter Try.func3, Try.ntmps3
  go_wp2_with fail
  clear a0 a1 a2 a3 a4 a5
  with_reducible refine ((HL _).out).mono ?_
  rintro e w1 ⟨rfl, hb⟩
  have G1 := kept (G0.out.below hb)
  have B1 := kept (bel_to hb B0.out)
  clear hb
  obtain ⟨a0, a1, a2, a3, a4, a5⟩ := G1.out.s1.cells
  go_wp2_with fail
  clear a0 a1 a2 a3 a4 a5
  with_reducible refine ((HF _ G1.out.r1).out).mono ?_
  rintro e w2 ⟨rfl, hb⟩
  have G2 := kept (G1.out.below hb)
  have B2 := kept (bel_to hb B1.out)
  clear hb
  obtain ⟨a0, a1, a2, a3, a4, a5⟩ := G2.out.s1.cells
  go_wp2_with fail
  clear a0 a1 a2 a3 a4 a5
  with_reducible refine (HT _ G2.out.r1).out.mono ?_
  rintro e w3 ⟨M, rfl, how, hb⟩
  have HMK : Hid (M.kn = L.kn) := kept (by rw [HKL.out]; exact how.rd.key.1.symm)
  have G3 : Hid (Bag (boxV w3 M x) w.heap.size L x w3.heap.size M x none 0 [] none 0 []) := kept ⟨(G2.out.s1.below hb).below (boxV_below w3 M x), (G2.out.r1.below hb).below (boxV_below w3 M x), Six.new w3 M x, how.rd.below (boxV_below w3 M x), Rd.nil_ _ _, Rd.nil_ _ _⟩
  have B3 := kept (bel_to (boxV_below w3 M x) (bel_to hb B2.out))
  clear hb how
  obtain ⟨a0, a1, a2, a3, a4, a5⟩ := G3.out.s2.cells
  go_wp2_with fail
  clear a0 a1 a2 a3 a4 a5
  with_reducible refine ((HEN _ M G3.out.r2).out).mono ?_
  rintro e w4 ⟨rfl, hb⟩
  have G4 := kept (G3.out.below hb)
  have B4 := kept (bel_to hb B3.out)
  clear hb
  obtain ⟨a0, a1, a2, a3, a4, a5⟩ := G4.out.s2.cells
  have HTM := kept (tomb_yes M.ka M.kn M.kc x.key w4 G4.out.r2.has_key (by rw [HMK.out]; exact HKB.out))
  go_wp2_with fail
  clear a0 a1 a2 a3 a4 a5
  with_reducible refine HTM.out.mono ?_
  rintro e w5 ⟨A5, c5, rfl, hown, hb⟩
  have G5 : Hid (Bag w5 w.heap.size L x w3.heap.size M x none 0 [] A5 (3 + M.kn) (headB 2 x.key)) := kept ⟨G4.out.s1.below hb, G4.out.r1.below hb, G4.out.s2.below hb, G4.out.r2.below hb, G4.out.b1.below hb, Rd.of_own hown⟩
  have B5 := kept (bel_to hb B4.out)
  clear hb hown HTM
  obtain ⟨a0, a1, a2, a3, a4, a5⟩ := G5.out.s1.cells
  go_wp2_with fail
  clear a0 a1 a2 a3 a4 a5
  with_reducible refine ((HR1 _ G5.out.r1).out).mono ?_
  rintro e w6 ⟨rfl, hb⟩
  have G6 := kept (G5.out.below hb)
  have B6 := kept (bel_to hb B5.out)
  clear hb
  obtain ⟨a0, a1, a2, a3, a4, a5⟩ := G6.out.s1.cells
  obtain ⟨b0, b1, b2, b3, b4, b5⟩ := G6.out.s2.cells
  go_wp2_with fail
  clear a0 a1 a2 a3 a4 a5
  clear b0 b1 b2 b3 b4 b5
  with_reducible refine ((HR2 _ M G6.out.r2).out).mono ?_
  rintro e w7 ⟨rfl, hb⟩
  have G7 := kept (G6.out.below hb)
  have B7 := kept (bel_to hb B6.out)
  clear hb
  obtain ⟨a0, a1, a2, a3, a4, a5⟩ := G7.out.s1.cells
  obtain ⟨b0, b1, b2, b3, b4, b5⟩ := G7.out.s2.cells
  go_wp2_with fail
  clear a0 a1 a2 a3 a4 a5
  clear b0 b1 b2 b3 b4 b5
  with_reducible refine ((HSS _ M G7.out.r2 G7.out.r1).out).mono ?_
  rintro e w8 ⟨rfl, hb⟩
  have G8 := kept (G7.out.below hb)
  have B8 := kept (bel_to hb B7.out)
  clear hb
  obtain ⟨a0, a1, a2, a3, a4, a5⟩ := G8.out.s1.cells
  have HT2 := kept (refTomb_k L.ka L.kn L.kc x.key _ G8.out.r1.key (by have := HK6.out; omega))
  go_wp2_with fail
  clear a0 a1 a2 a3 a4 a5
  with_reducible refine HT2.out.mono ?_
  rintro e w11 ⟨A11, c11, rfl, hown, hb⟩
  have G11 := kept (G8.out.below hb)
  have B11 := kept (bel_to hb B8.out)
  have HSM := kept (same_any A5 A11 _ _ c5 c11 _ _ w11 G11.out.b2 (Rd.of_own hown) true (by simp))
  clear hb hown
  go_wp2_with (first | (go_at_call 15; (with_reducible refine (HSM.out).mono ?_); rintro e w12 ⟨rfl, rfl⟩))
  go_ret
  exact ⟨by first | rfl | simp, B11.out⟩
set_option maxRecDepth 100000 in
set_option maxHeartbeats 1000000 in
theorem walk_long (w : World) (L : LayV) (x : Kv) (rv : RdV w L x) (hf1 : L.kn ≤ 200) (hf2 : L.vn ≤ 2000) (hok : rightV x = false) (hn1 : 1 ≤ L.kn) (hn2 : ¬ L.kn ≤ 64) :
    Calls Try.prog 3 #[vkv L x] w fun e w' => e = .returned (.bool true) ∧ Below w.heap.size w w' := by
  have HL := fun w => kept (lives_kv w)
  have HF := fun W r => kept (few_kv L x W r true (by simp [hf1, hf2]))
  have HT := fun W r => kept (refTwin_kv L x W r)
  have HKL := kept (show L.kn = x.key.length from rv.key.1.symm)
  have HK6 := kept hf1
  have G0 : Hid (Bag (boxV w L x) w.heap.size L x w.heap.size L x none 0 [] none 0 []) := kept ⟨Six.new w L x, rv.below (boxV_below w L x), Six.new w L x, rv.below (boxV_below w L x), Rd.nil_ _ _, Rd.nil_ _ _⟩
  have B0 := kept (boxV_below w L x)
  have HOK := kept hok
  have HEN := fun W M r => kept (encode_kv_no M x W hok r)
  have HR1 := fun W r => kept (refRight_kv L x W _ hok r)
  have HR2 := fun W M r => kept (right_kv M x W _ hok r)
  have HSS := fun W M r r' => kept (refSame_kv M L x x W true (by simp) r r')
  have hkb : keyB L.kn = false := by simp [keyB]; omega
  have d1 : decide ((1 : Int) ≤ (L.kn : Int)) = true := by simp; omega
  have d2 : decide ((L.kn : Int) ≤ 64) = false := by simp; omega
  have HKB := kept hkb
  clear hkb hf1 hf2 hok rv hn1 hn2
  obtain ⟨a0, a1, a2, a3, a4, a5⟩ := G0.out.s1.cells
  unfold boxV at a0 a1 a2 a3 a4 a5
  go_enter Try.func3, Try.ntmps3
  go_wp2_with fail
  clear a0 a1 a2 a3 a4 a5
  with_reducible refine ((HL _).out).mono ?_
  rintro e w1 ⟨rfl, hb⟩
  have G1 := kept (G0.out.below hb)
  have B1 := kept (bel_to hb B0.out)
  clear hb
  obtain ⟨a0, a1, a2, a3, a4, a5⟩ := G1.out.s1.cells
  go_wp2_with fail
  clear a0 a1 a2 a3 a4 a5
  with_reducible refine ((HF _ G1.out.r1).out).mono ?_
  rintro e w2 ⟨rfl, hb⟩
  have G2 := kept (G1.out.below hb)
  have B2 := kept (bel_to hb B1.out)
  clear hb
  obtain ⟨a0, a1, a2, a3, a4, a5⟩ := G2.out.s1.cells
  go_wp2_with fail
  clear a0 a1 a2 a3 a4 a5
  with_reducible refine (HT _ G2.out.r1).out.mono ?_
  rintro e w3 ⟨M, rfl, how, hb⟩
  have HMK : Hid (M.kn = L.kn) := kept (by rw [HKL.out]; exact how.rd.key.1.symm)
  have G3 : Hid (Bag (boxV w3 M x) w.heap.size L x w3.heap.size M x none 0 [] none 0 []) := kept ⟨(G2.out.s1.below hb).below (boxV_below w3 M x), (G2.out.r1.below hb).below (boxV_below w3 M x), Six.new w3 M x, how.rd.below (boxV_below w3 M x), Rd.nil_ _ _, Rd.nil_ _ _⟩
  have B3 := kept (bel_to (boxV_below w3 M x) (bel_to hb B2.out))
  clear hb how
  obtain ⟨a0, a1, a2, a3, a4, a5⟩ := G3.out.s2.cells
  go_wp2_with fail
  clear a0 a1 a2 a3 a4 a5
  with_reducible refine ((HEN _ M G3.out.r2).out).mono ?_
  rintro e w4 ⟨rfl, hb⟩
  have G4 := kept (G3.out.below hb)
  have B4 := kept (bel_to hb B3.out)
  clear hb
  obtain ⟨a0, a1, a2, a3, a4, a5⟩ := G4.out.s2.cells
  have HTM := kept (tomb_no M.ka M.kn M.kc w4 (by rw [HMK.out]; exact HKB.out))
  go_wp2_with fail
  clear a0 a1 a2 a3 a4 a5
  with_reducible refine HTM.out.mono ?_
  rintro e w5 ⟨rfl, rfl⟩
  have G5 := G4
  have B5 := B4
  clear HTM
  obtain ⟨a0, a1, a2, a3, a4, a5⟩ := G5.out.s1.cells
  go_wp2_with fail
  clear a0 a1 a2 a3 a4 a5
  with_reducible refine ((HR1 _ G5.out.r1).out).mono ?_
  rintro e w6 ⟨rfl, hb⟩
  have G6 := kept (G5.out.below hb)
  have B6 := kept (bel_to hb B5.out)
  clear hb
  obtain ⟨a0, a1, a2, a3, a4, a5⟩ := G6.out.s1.cells
  obtain ⟨b0, b1, b2, b3, b4, b5⟩ := G6.out.s2.cells
  go_wp2_with fail
  clear a0 a1 a2 a3 a4 a5
  clear b0 b1 b2 b3 b4 b5
  with_reducible refine ((HR2 _ M G6.out.r2).out).mono ?_
  rintro e w7 ⟨rfl, hb⟩
  have G7 := kept (G6.out.below hb)
  have B7 := kept (bel_to hb B6.out)
  clear hb
  obtain ⟨a0, a1, a2, a3, a4, a5⟩ := G7.out.s1.cells
  obtain ⟨b0, b1, b2, b3, b4, b5⟩ := G7.out.s2.cells
  go_wp2_with fail
  clear a0 a1 a2 a3 a4 a5
  clear b0 b1 b2 b3 b4 b5
  with_reducible refine ((HSS _ M G7.out.r2 G7.out.r1).out).mono ?_
  rintro e w8 ⟨rfl, hb⟩
  have G8 := kept (G7.out.below hb)
  have B8 := kept (bel_to hb B7.out)
  clear hb
  obtain ⟨a0, a1, a2, a3, a4, a5⟩ := G8.out.s1.cells
  go_wp2
  go_ret
  exact ⟨by first | rfl | simp, B8.out⟩
set_option maxRecDepth 100000 in
set_option maxHeartbeats 1000000 in
theorem walk_none (w : World) (L : LayV) (x : Kv) (rv : RdV w L x) (hf1 : L.kn ≤ 200) (hf2 : L.vn ≤ 2000) (hok : rightV x = false) (hn1 : ¬ 1 ≤ L.kn) :
    Calls Try.prog 3 #[vkv L x] w fun e w' => e = .returned (.bool true) ∧ Below w.heap.size w w' := by
  have HL := fun w => kept (lives_kv w)
  have HF := fun W r => kept (few_kv L x W r true (by simp [hf1, hf2]))
  have HT := fun W r => kept (refTwin_kv L x W r)
  have HKL := kept (show L.kn = x.key.length from rv.key.1.symm)
  have HK6 := kept hf1
  have G0 : Hid (Bag (boxV w L x) w.heap.size L x w.heap.size L x none 0 [] none 0 []) := kept ⟨Six.new w L x, rv.below (boxV_below w L x), Six.new w L x, rv.below (boxV_below w L x), Rd.nil_ _ _, Rd.nil_ _ _⟩
  have B0 := kept (boxV_below w L x)
  have HOK := kept hok
  have HEN := fun W M r => kept (encode_kv_no M x W hok r)
  have HR1 := fun W r => kept (refRight_kv L x W _ hok r)
  have HR2 := fun W M r => kept (right_kv M x W _ hok r)
  have HSS := fun W M r r' => kept (refSame_kv M L x x W true (by simp) r r')
  have hkb : keyB L.kn = false := by simp [keyB]; omega
  have d1 : decide ((1 : Int) ≤ (L.kn : Int)) = false := by simp; omega
  have HKB := kept hkb
  clear hkb hf1 hf2 hok rv hn1
  obtain ⟨a0, a1, a2, a3, a4, a5⟩ := G0.out.s1.cells
  unfold boxV at a0 a1 a2 a3 a4 a5
  go_enter Try.func3, Try.ntmps3
  go_wp2_with fail
  clear a0 a1 a2 a3 a4 a5
  with_reducible refine ((HL _).out).mono ?_
  rintro e w1 ⟨rfl, hb⟩
  have G1 := kept (G0.out.below hb)
  have B1 := kept (bel_to hb B0.out)
  clear hb
  obtain ⟨a0, a1, a2, a3, a4, a5⟩ := G1.out.s1.cells
  go_wp2_with fail
  clear a0 a1 a2 a3 a4 a5
  with_reducible refine ((HF _ G1.out.r1).out).mono ?_
  rintro e w2 ⟨rfl, hb⟩
  have G2 := kept (G1.out.below hb)
  have B2 := kept (bel_to hb B1.out)
  clear hb
  obtain ⟨a0, a1, a2, a3, a4, a5⟩ := G2.out.s1.cells
  go_wp2_with fail
  clear a0 a1 a2 a3 a4 a5
  with_reducible refine (HT _ G2.out.r1).out.mono ?_
  rintro e w3 ⟨M, rfl, how, hb⟩
  have HMK : Hid (M.kn = L.kn) := kept (by rw [HKL.out]; exact how.rd.key.1.symm)
  have G3 : Hid (Bag (boxV w3 M x) w.heap.size L x w3.heap.size M x none 0 [] none 0 []) := kept ⟨(G2.out.s1.below hb).below (boxV_below w3 M x), (G2.out.r1.below hb).below (boxV_below w3 M x), Six.new w3 M x, how.rd.below (boxV_below w3 M x), Rd.nil_ _ _, Rd.nil_ _ _⟩
  have B3 := kept (bel_to (boxV_below w3 M x) (bel_to hb B2.out))
  clear hb how
  obtain ⟨a0, a1, a2, a3, a4, a5⟩ := G3.out.s2.cells
  go_wp2_with fail
  clear a0 a1 a2 a3 a4 a5
  with_reducible refine ((HEN _ M G3.out.r2).out).mono ?_
  rintro e w4 ⟨rfl, hb⟩
  have G4 := kept (G3.out.below hb)
  have B4 := kept (bel_to hb B3.out)
  clear hb
  obtain ⟨a0, a1, a2, a3, a4, a5⟩ := G4.out.s2.cells
  have HTM := kept (tomb_no M.ka M.kn M.kc w4 (by rw [HMK.out]; exact HKB.out))
  go_wp2_with fail
  clear a0 a1 a2 a3 a4 a5
  with_reducible refine HTM.out.mono ?_
  rintro e w5 ⟨rfl, rfl⟩
  have G5 := G4
  have B5 := B4
  clear HTM
  obtain ⟨a0, a1, a2, a3, a4, a5⟩ := G5.out.s1.cells
  go_wp2_with fail
  clear a0 a1 a2 a3 a4 a5
  with_reducible refine ((HR1 _ G5.out.r1).out).mono ?_
  rintro e w6 ⟨rfl, hb⟩
  have G6 := kept (G5.out.below hb)
  have B6 := kept (bel_to hb B5.out)
  clear hb
  obtain ⟨a0, a1, a2, a3, a4, a5⟩ := G6.out.s1.cells
  obtain ⟨b0, b1, b2, b3, b4, b5⟩ := G6.out.s2.cells
  go_wp2_with fail
  clear a0 a1 a2 a3 a4 a5
  clear b0 b1 b2 b3 b4 b5
  with_reducible refine ((HR2 _ M G6.out.r2).out).mono ?_
  rintro e w7 ⟨rfl, hb⟩
  have G7 := kept (G6.out.below hb)
  have B7 := kept (bel_to hb B6.out)
  clear hb
  obtain ⟨a0, a1, a2, a3, a4, a5⟩ := G7.out.s1.cells
  obtain ⟨b0, b1, b2, b3, b4, b5⟩ := G7.out.s2.cells
  go_wp2_with fail
  clear a0 a1 a2 a3 a4 a5
  clear b0 b1 b2 b3 b4 b5
  with_reducible refine ((HSS _ M G7.out.r2 G7.out.r1).out).mono ?_
  rintro e w8 ⟨rfl, hb⟩
  have G8 := kept (G7.out.below hb)
  have B8 := kept (bel_to hb B7.out)
  clear hb
  obtain ⟨a0, a1, a2, a3, a4, a5⟩ := G8.out.s1.cells
  go_wp2
  go_ret
  exact ⟨by first | rfl | simp, B8.out⟩
set_option maxRecDepth 100000 in
theorem walk_big (w : World) (L : LayV) (x : Kv) (rv : RdV w L x) (hf : ¬ (L.kn ≤ 200 ∧ L.vn ≤ 2000)) :
    Calls Try.prog 3 #[vkv L x] w fun e w' => e = .returned (.bool true) ∧ Below w.heap.size w w' := by
  have HL := fun w => kept (lives_kv w)
  have HF := fun W r => kept (few_kv L x W r false (by rw [Bool.eq_false_iff]; intro h; simp at h; exact hf h))
  have G0 := kept (And.intro (Six.new w L x) (rv.below (boxV_below w L x)))
  have B0 := kept (boxV_below w L x)
  clear rv hf
  obtain ⟨a0, a1, a2, a3, a4, a5⟩ := G0.out.1.cells
  go_enter Try.func3, Try.ntmps3
  go_wp2_with fail
  clear a0 a1 a2 a3 a4 a5
  with_reducible refine (HL _).out.mono ?_
  rintro e w1 ⟨rfl, hb⟩
  have G1 := kept (And.intro (G0.out.1.below hb) (G0.out.2.below hb))
  have B1 := kept (bel_to hb B0.out)
  obtain ⟨a0, a1, a2, a3, a4, a5⟩ := G1.out.1.cells
  clear hb
  go_wp2_with fail
  clear a0 a1 a2 a3 a4 a5
  with_reducible refine (HF _ G1.out.2).out.mono ?_
  rintro e w2 ⟨rfl, hb⟩
  have B2 := kept (bel_to hb B1.out)
  clear hb
  go_wp2_with fail
  with_reducible refine (HL _).out.mono ?_
  rintro e w3 ⟨rfl, hb⟩
  have B3 := kept (bel_to hb B2.out)
  clear hb
  go_wp2
  go_ret
  exact ⟨rfl, B3.out⟩
theorem walk (w : World) (L : LayV) (x : Kv) (rv : RdV w L x) :
    Calls Try.prog 3 #[vkv L x] w fun e w' => e = .returned (.bool true) ∧ Below w.heap.size w w' := by
  by_cases hf : L.kn ≤ 200 ∧ L.vn ≤ 2000
  · have hk := rv.key.1
    by_cases h1 : 1 ≤ L.kn
    · by_cases h2 : L.kn ≤ 64
      · cases ho : rightV x
        · exact walk_no w L x rv hf.1 hf.2 ho h1 h2
        · exact walk_ok w L x rv hf.1 hf.2 ho h1 h2
      · cases ho : rightV x
        · exact walk_long w L x rv hf.1 hf.2 ho h1 h2
        · have := (rightV_nat ho).choose_spec.choose_spec.choose_spec.choose_spec
          omega
    · cases ho : rightV x
      · exact walk_none w L x rv hf.1 hf.2 ho h1
      · have := (rightV_nat ho).choose_spec.choose_spec.choose_spec.choose_spec
        omega
  · exact walk_big w L x rv hf
end Go.Proofs.Ytcmjgkgdeaiifaa.recordCodes
