/-
  The law RecordBack walked: for any two records it returns true and writes nothing that was there.
-/
import Derived.Test.YtcmjgkgdeaiifaaNn
import Derived.Test.YtcmjgkgdeaiifaaNh
namespace Go.Proofs.Ytcmjgkgdeaiifaa.recordBack
open Go.ChangeShapes Go.WideShapes Go.ChangeAt Go.RowKit
set_option linter.unusedVariables false
set_option linter.unusedSimpArgs false

/-- Three records in their blocks, and two rows of bytes. -/
structure Bag (w : World) (g : Nat) (L : LayV) (x : Kv) (h : Nat) (M : LayV) (y : Kv) (k : Nat) (K : LayV) (z : Kv) (A : Option Addr) (n : Nat) (xs : List UInt8) (B : Option Addr) (m : Nat) (ys : List UInt8) : Prop where
  s1 : Six w g L x
  r1 : RdV w L x
  s2 : Six w h M y
  r2 : RdV w M y
  s3 : Six w k K z
  r3 : RdV w K z
  b1 : Rd w A n xs
  b2 : Rd w B m ys
theorem Bag.below {w w' : World} {g h k n m : Nat} {L M K : LayV} {x y z : Kv} {A B : Option Addr} {xs ys : List UInt8} (q : Bag w g L x h M y k K z A n xs B m ys) (hb : Below w.heap.size w w') : Bag w' g L x h M y k K z A n xs B m ys :=
  ⟨q.s1.below hb, q.r1.below hb, q.s2.below hb, q.r2.below hb, q.s3.below hb, q.r3.below hb, q.b1.below hb, q.b2.below hb⟩
theorem Bag.third {w : World} {g h k n m : Nat} {L M K : LayV} {x y z : Kv} {A B : Option Addr} {xs ys : List UInt8} (q : Bag w g L x h M y k K z A n xs B m ys) {k' : Nat} {K' : LayV} {z' : Kv} (h1 : Six w k' K' z') (h2 : RdV w K' z') : Bag w g L x h M y k' K' z' A n xs B m ys :=
  ⟨q.s1, q.r1, q.s2, q.r2, h1, h2, q.b1, q.b2⟩
theorem dec_of {A : Option Addr} {n c : Nat} {xs : List UInt8} {w : World} (hr : Rd w A n xs) (hn : n ≤ 140737488355328) {x : Kv} {t : Bool} (h : IsDec xs x t true) :
    Calls Try.prog 19 #[.slice A n c] w fun e w' => ∃ L, e = .returned (.tuple #[vkv L x, .bool t, .int .i64 0]) ∧ RdV w' L x ∧ Below w.heap.size w w' := by
  obtain ⟨x', t', ok, er, hD, he, hc⟩ := decode_any A n c xs w hr hn
  obtain ⟨rfl, rfl, rfl⟩ := hD.only h
  rcases he with ⟨_, rfl⟩ | ⟨h', _⟩
  · exact hc
  · cases h'
/-- Two boxes at the beginning. -/
theorem bag0 (w : World) (L M : LayV) (x y : Kv) (h : RdV w L x) (k : RdV w M y) : Bag (boxV (boxV w L x) M y) w.heap.size L x (w.heap.size + 1) M y w.heap.size L x none 0 [] none 0 [] := by
  obtain ⟨h1, h2, hb⟩ := two_boxes w L M x y
  exact ⟨h1, h.below hb, h2, k.below hb, h1, h.below hb, Rd.nil_ _ _, Rd.nil_ _ _⟩
theorem cells18 {w w' : World} {g h k : Nat} {a b c d e f a1 b1 c1 d1 e1 f1 a2 b2 c2 d2 e2 f2 : Value}
    (q : (w.cell? ⟨g, 0, none⟩ = some a ∧ w.cell? ⟨g, 1, none⟩ = some b ∧ w.cell? ⟨g, 2, none⟩ = some c ∧ w.cell? ⟨g, 3, none⟩ = some d ∧ w.cell? ⟨g, 4, none⟩ = some e ∧ w.cell? ⟨g, 5, none⟩ = some f) ∧ (w.cell? ⟨h, 0, none⟩ = some a1 ∧ w.cell? ⟨h, 1, none⟩ = some b1 ∧ w.cell? ⟨h, 2, none⟩ = some c1 ∧ w.cell? ⟨h, 3, none⟩ = some d1 ∧ w.cell? ⟨h, 4, none⟩ = some e1 ∧ w.cell? ⟨h, 5, none⟩ = some f1) ∧ (w.cell? ⟨k, 0, none⟩ = some a2 ∧ w.cell? ⟨k, 1, none⟩ = some b2 ∧ w.cell? ⟨k, 2, none⟩ = some c2 ∧ w.cell? ⟨k, 3, none⟩ = some d2 ∧ w.cell? ⟨k, 4, none⟩ = some e2 ∧ w.cell? ⟨k, 5, none⟩ = some f2)) (hk : Keeps w w') :
    (w'.cell? ⟨g, 0, none⟩ = some a ∧ w'.cell? ⟨g, 1, none⟩ = some b ∧ w'.cell? ⟨g, 2, none⟩ = some c ∧ w'.cell? ⟨g, 3, none⟩ = some d ∧ w'.cell? ⟨g, 4, none⟩ = some e ∧ w'.cell? ⟨g, 5, none⟩ = some f) ∧ (w'.cell? ⟨h, 0, none⟩ = some a1 ∧ w'.cell? ⟨h, 1, none⟩ = some b1 ∧ w'.cell? ⟨h, 2, none⟩ = some c1 ∧ w'.cell? ⟨h, 3, none⟩ = some d1 ∧ w'.cell? ⟨h, 4, none⟩ = some e1 ∧ w'.cell? ⟨h, 5, none⟩ = some f1) ∧ (w'.cell? ⟨k, 0, none⟩ = some a2 ∧ w'.cell? ⟨k, 1, none⟩ = some b2 ∧ w'.cell? ⟨k, 2, none⟩ = some c2 ∧ w'.cell? ⟨k, 3, none⟩ = some d2 ∧ w'.cell? ⟨k, 4, none⟩ = some e2 ∧ w'.cell? ⟨k, 5, none⟩ = some f2) :=
  ⟨six_keeps q.1 hk, six_keeps q.2.1 hk, six_keeps q.2.2 hk⟩
set_option maxRecDepth 100000 in
set_option maxHeartbeats 2000000 in
theorem walk_rr (w : World) (L M : LayV) (x y : Kv) (rv : RdV w L x) (ry : RdV w M y) (hf1 : L.kn ≤ 200) (hf2 : L.vn ≤ 2000) (hf3 : M.kn ≤ 200) (hf4 : M.vn ≤ 2000) (hok : rightV x = true) (hkb : keyB L.kn = true) (hoo : rightV y = true) (bb : Bool) (hq1 : decide (kvB x = kvB y) = bb) (hq2 : decide (x = y) = bb) :
    Calls Try.prog 5 #[vkv L x, vkv M y] w fun e w' => e = .returned (.bool true) ∧ Below w.heap.size w w' := by
  have HL := fun w => kept (lives_kv w)
  have HF1 := fun W r => kept (few_kv L x W r true (by simp [hf1, hf2]))
  have HF2 := fun W r => kept (few_kv M y W r true (by simp [hf3, hf4]))
  have HKL := kept (show x.key.length = L.kn from rv.key.1)
  have HVL := kept (show x.val.length = L.vn from rv.val.1)
  have HK6 := kept (And.intro hf1 hf2)
  have G0 := kept (bag0 w L M x y rv ry)
  have B0 := kept (two_boxes w L M x y).2.2
  have HOK := kept hok
  have HEN := fun W r => kept (encode_kv L x W hok r)
  have HEO := fun W r => kept (encode_kv M y W hoo r)
  have HKB := kept hkb
  have HQ1 := fun A1 A2 n1 n2 c1 c2 W h1 h2 => kept (same_any A1 A2 n1 n2 c1 c2 (kvB x) (kvB y) W h1 h2 bb hq1)
  have HQ2 := fun W r r' => kept (same_kv L M x y W bb hq2 r r')
  clear hq1 hq2
  clear hf1 hf2 hf3 hf4 hok rv ry hkb hoo
  cases bb
  all_goals
    obtain ⟨a0, a1, a2, a3, a4, a5⟩ := G0.out.s1.cells
    obtain ⟨b0, b1, b2, b3, b4, b5⟩ := G0.out.s2.cells
    unfold boxV at a0 a1 a2 a3 a4 a5
    go_enter Try.func5, Try.ntmps5
    go_wp2_with fail
    clear a0 a1 a2 a3 a4 a5
    clear b0 b1 b2 b3 b4 b5
    with_reducible refine ((HL _).out).mono ?_
    rintro e w1 ⟨rfl, hb⟩
    have G1 := kept (G0.out.below hb)
    have B1 := kept (bel_to hb B0.out)
    clear hb
    obtain ⟨a0, a1, a2, a3, a4, a5⟩ := G1.out.s1.cells
    go_wp2_with fail
    clear a0 a1 a2 a3 a4 a5
    with_reducible refine ((HF1 _ G1.out.r1).out).mono ?_
    rintro e w2 ⟨rfl, hb⟩
    have G2 := kept (G1.out.below hb)
    have B2 := kept (bel_to hb B1.out)
    clear hb
    obtain ⟨a0, a1, a2, a3, a4, a5⟩ := G2.out.s2.cells
    go_wp2_with fail
    clear a0 a1 a2 a3 a4 a5
    with_reducible refine ((HF2 _ G2.out.r2).out).mono ?_
    rintro e w3 ⟨rfl, hb⟩
    have G3 := kept (G2.out.below hb)
    have B3 := kept (bel_to hb B2.out)
    clear hb
    obtain ⟨a0, a1, a2, a3, a4, a5⟩ := G3.out.s1.cells
    go_wp2_with fail
    clear a0 a1 a2 a3 a4 a5
    with_reducible refine (HEN _ G3.out.r1).out.mono ?_
    rintro e w4 ⟨A4, c4, rfl, hown, hb⟩
    have G4 : Hid (Bag w4 w.heap.size L x (w.heap.size + 1) M y w.heap.size L x A4 (37 + (L.kn + L.vn)) (kvB x) none 0 []) := kept ⟨G3.out.s1.below hb, G3.out.r1.below hb, G3.out.s2.below hb, G3.out.r2.below hb, G3.out.s3.below hb, G3.out.r3.below hb, Rd.of_own hown, Rd.nil_ _ _⟩
    have B4 := kept (bel_to hb B3.out)
    clear hb hown
    obtain ⟨a0, a1, a2, a3, a4, a5⟩ := G4.out.s1.cells
    have HTM := kept (tomb_yes L.ka L.kn L.kc x.key w4 G4.out.r1.has_key HKB.out)
    go_wp2_with fail
    clear a0 a1 a2 a3 a4 a5
    with_reducible refine HTM.out.mono ?_
    rintro e w5 ⟨A5, c5, rfl, hown, hb⟩
    have G5 : Hid (Bag w5 w.heap.size L x (w.heap.size + 1) M y w.heap.size L x A4 (37 + (L.kn + L.vn)) (kvB x) A5 (3 + L.kn) (headB 2 x.key)) := kept ⟨G4.out.s1.below hb, G4.out.r1.below hb, G4.out.s2.below hb, G4.out.r2.below hb, G4.out.s3.below hb, G4.out.r3.below hb, G4.out.b1.below hb, Rd.of_own hown⟩
    have B5 := kept (bel_to hb B4.out)
    clear hb hown HTM
    have HDT := kept (dec_of (c := c5) G5.out.b2 (by have := HK6.out.1; omega) (x := ⟨x.key, [], 0, 0, 0, 0⟩) (t := true) (.inr (.inl ⟨rfl, rfl, by show keyB x.key.length = true; rw [HKL.out]; exact HKB.out, rfl, rfl⟩)))
    go_wp2_with fail
    with_reducible refine HDT.out.mono ?_
    rintro e w6 ⟨K, rfl, hV, hb⟩
    have G6 := kept (((G5.out.below hb).below (boxV_below w6 K ⟨x.key, [], 0, 0, 0, 0⟩)).third (Six.new w6 K ⟨x.key, [], 0, 0, 0, 0⟩) (hV.below (boxV_below w6 K ⟨x.key, [], 0, 0, 0, 0⟩)))
    have B6 := kept (bel_to (boxV_below w6 K ⟨x.key, [], 0, 0, 0, 0⟩) (bel_to hb B5.out))
    clear hb hV HDT
    obtain ⟨a0, a1, a2, a3, a4, a5⟩ := G6.out.s1.cells
    obtain ⟨b0, b1, b2, b3, b4, b5⟩ := G6.out.s3.cells
    have HSM := kept (same_any K.ka L.ka K.kn L.kn K.kc L.kc x.key x.key _ G6.out.r3.key G6.out.r1.key true (by simp))
    have HSN := kept (same_any A5 A4 (3 + L.kn) (37 + (L.kn + L.vn)) c5 c4 (headB 2 x.key) (kvB x) _ G6.out.b2 G6.out.b1 false (by rw [decide_eq_false_iff_not]; exact fun e => kv_no_tomb e.symm))
    go_wp2_with fail
    with_reducible refine HSM.out.mono ?_
    rintro e w7 ⟨rfl, rfl⟩
    go_wp2_with fail
    with_reducible refine HSN.out.mono ?_
    rintro e w7 ⟨rfl, rfl⟩
    clear HSM HSN
    clear a0 a1 a2 a3 a4 a5
    clear b0 b1 b2 b3 b4 b5
    have HDK := kept (dec_of (c := c4) G6.out.b1 (by have := HK6.out; omega) (x := x) (t := false) (.inl ⟨rfl, rfl, HOK.out, rfl⟩))
    go_wp2_with fail
    with_reducible refine HDK.out.mono ?_
    rintro e w8 ⟨K2, rfl, hV, hb⟩
    have G8 := kept (((G6.out.below hb).below (boxV_below w8 K2 x)).third (Six.new w8 K2 x) (hV.below (boxV_below w8 K2 x)))
    have B8 := kept (bel_to (boxV_below w8 K2 x) (bel_to hb B6.out))
    clear hb hV HDK
    obtain ⟨a0, a1, a2, a3, a4, a5⟩ := G8.out.s2.cells
    go_wp2_with fail
    clear a0 a1 a2 a3 a4 a5
    with_reducible refine (HEO _ G8.out.r2).out.mono ?_
    rintro e W ⟨A9, c9, rfl, hown, hb⟩
    have HC := kept (Rd.of_own hown)
    have G9 := kept (G8.out.below hb)
    have B9 := kept (bel_to hb B8.out)
    have hS : (W.cell? ⟨w.heap.size, 0, none⟩ = some (.slice L.ka L.kn L.kc) ∧ W.cell? ⟨w.heap.size, 1, none⟩ = some (.slice L.va L.vn L.vc) ∧ W.cell? ⟨w.heap.size, 2, none⟩ = some (.int .i64 x.c) ∧ W.cell? ⟨w.heap.size, 3, none⟩ = some (.int .i64 x.m) ∧ W.cell? ⟨w.heap.size, 4, none⟩ = some (.int .i64 x.v) ∧ W.cell? ⟨w.heap.size, 5, none⟩ = some (.int .i64 x.l)) ∧ (W.cell? ⟨w.heap.size + 1, 0, none⟩ = some (.slice M.ka M.kn M.kc) ∧ W.cell? ⟨w.heap.size + 1, 1, none⟩ = some (.slice M.va M.vn M.vc) ∧ W.cell? ⟨w.heap.size + 1, 2, none⟩ = some (.int .i64 y.c) ∧ W.cell? ⟨w.heap.size + 1, 3, none⟩ = some (.int .i64 y.m) ∧ W.cell? ⟨w.heap.size + 1, 4, none⟩ = some (.int .i64 y.v) ∧ W.cell? ⟨w.heap.size + 1, 5, none⟩ = some (.int .i64 y.l)) ∧ (W.cell? ⟨w8.heap.size, 0, none⟩ = some (.slice K2.ka K2.kn K2.kc) ∧ W.cell? ⟨w8.heap.size, 1, none⟩ = some (.slice K2.va K2.vn K2.vc) ∧ W.cell? ⟨w8.heap.size, 2, none⟩ = some (.int .i64 x.c) ∧ W.cell? ⟨w8.heap.size, 3, none⟩ = some (.int .i64 x.m) ∧ W.cell? ⟨w8.heap.size, 4, none⟩ = some (.int .i64 x.v) ∧ W.cell? ⟨w8.heap.size, 5, none⟩ = some (.int .i64 x.l)) := ⟨G9.out.s1.cells, G9.out.s2.cells, G9.out.s3.cells⟩
    have HS := kept hS
    clear hb hown hS G0 G1 G2 G3 G4 G5 G6 G8 B0 B1 B2 B3 B4 B5 B6 B8
    go_wp2_with fail
    refine wp_region_held_drew (S := (fun W' => (W'.cell? ⟨w.heap.size, 0, none⟩ = some (.slice L.ka L.kn L.kc) ∧ W'.cell? ⟨w.heap.size, 1, none⟩ = some (.slice L.va L.vn L.vc) ∧ W'.cell? ⟨w.heap.size, 2, none⟩ = some (.int .i64 x.c) ∧ W'.cell? ⟨w.heap.size, 3, none⟩ = some (.int .i64 x.m) ∧ W'.cell? ⟨w.heap.size, 4, none⟩ = some (.int .i64 x.v) ∧ W'.cell? ⟨w.heap.size, 5, none⟩ = some (.int .i64 x.l)) ∧ (W'.cell? ⟨w.heap.size + 1, 0, none⟩ = some (.slice M.ka M.kn M.kc) ∧ W'.cell? ⟨w.heap.size + 1, 1, none⟩ = some (.slice M.va M.vn M.vc) ∧ W'.cell? ⟨w.heap.size + 1, 2, none⟩ = some (.int .i64 y.c) ∧ W'.cell? ⟨w.heap.size + 1, 3, none⟩ = some (.int .i64 y.m) ∧ W'.cell? ⟨w.heap.size + 1, 4, none⟩ = some (.int .i64 y.v) ∧ W'.cell? ⟨w.heap.size + 1, 5, none⟩ = some (.int .i64 y.l)) ∧ (W'.cell? ⟨w8.heap.size, 0, none⟩ = some (.slice K2.ka K2.kn K2.kc) ∧ W'.cell? ⟨w8.heap.size, 1, none⟩ = some (.slice K2.va K2.vn K2.vc) ∧ W'.cell? ⟨w8.heap.size, 2, none⟩ = some (.int .i64 x.c) ∧ W'.cell? ⟨w8.heap.size, 3, none⟩ = some (.int .i64 x.m) ∧ W'.cell? ⟨w8.heap.size, 4, none⟩ = some (.int .i64 x.v) ∧ W'.cell? ⟨w8.heap.size, 5, none⟩ = some (.int .i64 x.l)))) (by kernel_rfl) ?_ (fun hHeld => ?_)
    · ((try dsimp only); (first | with_reducible exact HS.out | exact cells18 HS.out (Keeps.drew _)))
    (have HR1 := kept (G9.out.r1.keeps (Keeps.drew _)); have HR2 := kept (G9.out.r2.keeps (Keeps.drew _)); have HR3 := kept (G9.out.r3.keeps (Keeps.drew _)); have HB1 := kept (G9.out.b1.keeps (Keeps.drew _)); replace HC := kept (HC.out.keeps (Keeps.drew _)); have HBX := kept B9.out.drew; replace HS := kept (cells18 HS.out (Keeps.drew _)); clear G9 B9; generalize W.drew = W0 at HR1 HR2 HR3 HB1 HC HBX HS hHeld ⊢)
    refine hand_take 0 (some 89) ?_ (by kernel_rfl) (by kernel_rfl) (by kernel_rfl) (by kernel_rfl) (by kernel_rfl) (fun _ _ _ h => h) ?_ (by assumption) ?_
    rotate_left
    · (intro o ho w hSw; (simp only [List.getElem?_toArray, List.getElem?_cons_succ, List.getElem?_cons_zero, Option.some.injEq] at ho); subst ho; (try dsimp only at hSw); go_simp; (first | done | with_reducible rfl))
    (try simp only [Act.put, List.setIfInBounds_toArray, List.set_cons_zero, List.set_cons_succ])
    refine hand_take 1 (some 90) ?_ (by kernel_rfl) (by kernel_rfl) (by kernel_rfl) (by kernel_rfl) (by kernel_rfl) (fun _ _ _ h => h) ?_ (by assumption) ?_
    rotate_left
    · (intro o ho w hSw; (simp only [List.getElem?_toArray, List.getElem?_cons_succ, List.getElem?_cons_zero, Option.some.injEq] at ho); subst ho; (try dsimp only at hSw); go_simp; (first | done | with_reducible rfl))
    (try simp only [Act.put, List.setIfInBounds_toArray, List.set_cons_zero, List.set_cons_succ])
    refine hand_take 2 (some 91) ?_ (by kernel_rfl) (by kernel_rfl) (by kernel_rfl) (by kernel_rfl) (by kernel_rfl) (fun _ _ _ h => h) ?_ (by assumption) ?_
    rotate_left
    · (intro o ho w hSw; (simp only [List.getElem?_toArray, List.getElem?_cons_succ, List.getElem?_cons_zero, Option.some.injEq] at ho); subst ho; (try dsimp only at hSw); go_simp; (first | done | with_reducible rfl))
    (try simp only [Act.put, List.setIfInBounds_toArray, List.set_cons_zero, List.set_cons_succ])
    refine hand_take 3 (some 92) ?_ (by kernel_rfl) (by kernel_rfl) (by kernel_rfl) (by kernel_rfl) (by kernel_rfl) (fun _ _ _ h => h) ?_ (by assumption) ?_
    rotate_left
    · (intro o ho w hSw; (simp only [List.getElem?_toArray, List.getElem?_cons_succ, List.getElem?_cons_zero, Option.some.injEq] at ho); subst ho; (try dsimp only at hSw); go_simp; (first | done | with_reducible rfl))
    (try simp only [Act.put, List.setIfInBounds_toArray, List.set_cons_zero, List.set_cons_succ])
    refine hand_take 4 (some 93) ?_ (by kernel_rfl) (by kernel_rfl) (by kernel_rfl) (by kernel_rfl) (by kernel_rfl) (fun _ _ _ h => h) ?_ (by assumption) ?_
    rotate_left
    · (intro o ho w hSw; (simp only [List.getElem?_toArray, List.getElem?_cons_succ, List.getElem?_cons_zero, Option.some.injEq] at ho); subst ho; (try dsimp only at hSw); go_simp; (first | done | with_reducible rfl))
    (try simp only [Act.put, List.setIfInBounds_toArray, List.set_cons_zero, List.set_cons_succ])
    refine hand_take 5 (some 94) ?_ (by kernel_rfl) (by kernel_rfl) (by kernel_rfl) (by kernel_rfl) (by kernel_rfl) (fun _ _ _ h => h) ?_ (by assumption) ?_
    rotate_left
    · (intro o ho w hSw; (simp only [List.getElem?_toArray, List.getElem?_cons_succ, List.getElem?_cons_zero, Option.some.injEq] at ho); subst ho; (try dsimp only at hSw); go_simp; (first | done | with_reducible rfl))
    (try simp only [Act.put, List.setIfInBounds_toArray, List.set_cons_zero, List.set_cons_succ])
    refine hand_take 6 (some 95) ?_ (by kernel_rfl) (by kernel_rfl) (by kernel_rfl) (by kernel_rfl) (by kernel_rfl) (fun _ _ _ h => h) ?_ (by assumption) ?_
    rotate_left
    · (intro o ho w hSw; (simp only [List.getElem?_toArray, List.getElem?_cons_succ, List.getElem?_cons_zero, Option.some.injEq] at ho); subst ho; (try dsimp only at hSw); go_simp; (first | done | with_reducible rfl))
    (try simp only [Act.put, List.setIfInBounds_toArray, List.set_cons_zero, List.set_cons_succ])
    refine hand_take 7 (some 96) ?_ (by kernel_rfl) (by kernel_rfl) (by kernel_rfl) (by kernel_rfl) (by kernel_rfl) (fun _ _ _ h => h) ?_ (by assumption) ?_
    rotate_left
    · (intro o ho w hSw; (simp only [List.getElem?_toArray, List.getElem?_cons_succ, List.getElem?_cons_zero, Option.some.injEq] at ho); subst ho; (try dsimp only at hSw); go_simp; (first | done | with_reducible rfl))
    (try simp only [Act.put, List.setIfInBounds_toArray, List.set_cons_zero, List.set_cons_succ])
    refine hand_take 8 (some 97) ?_ (by kernel_rfl) (by kernel_rfl) (by kernel_rfl) (by kernel_rfl) (by kernel_rfl) (fun _ _ _ h => h) ?_ (by assumption) ?_
    rotate_left
    · (intro o ho w hSw; (simp only [List.getElem?_toArray, List.getElem?_cons_succ, List.getElem?_cons_zero, Option.some.injEq] at ho); subst ho; (try dsimp only at hSw); go_simp; (first | done | with_reducible rfl))
    (try simp only [Act.put, List.setIfInBounds_toArray, List.set_cons_zero, List.set_cons_succ])
    refine hand_ready 9 (by kernel_rfl) (by kernel_rfl) (fun o ho K hK => ?_)
    (simp only [List.getElem?_toArray, List.getElem?_cons_succ, List.getElem?_cons_zero, Option.some.injEq] at ho)
    subst ho
    go_simp
    (go_at_call 21; (with_reducible refine (same_kv L K2 x x _ true (by simp) HR1.out HR3.out).mono ?_); rintro e W1 ⟨rfl, hb⟩; have hk := Keeps.of_below hb; have HS := kept (cells18 HS.out hk); have HR1 := kept (HR1.out.keeps hk); have HR2 := kept (HR2.out.keeps hk); have HB1 := kept (HB1.out.keeps hk); have HC := kept (HC.out.keeps hk); have HBX := kept (bel_to hb HBX.out); clear hb hk)
    (try go_wp2_with fail)
    refine hK.out _ _ ?_ (fun hHeld => ?_)
    · ((try dsimp only); (first | with_reducible exact HS.out | exact cells18 HS.out (Keeps.drew _)))
    clear hK K
    (try simp only [Act.put, List.setIfInBounds_toArray, List.set_cons_zero, List.set_cons_succ])
    refine hand_take 10 (some 99) ?_ (by kernel_rfl) (by kernel_rfl) (by kernel_rfl) (by kernel_rfl) (by kernel_rfl) (fun _ _ _ h => h) ?_ (by assumption) ?_
    rotate_left
    · (intro o ho w hSw; (simp only [List.getElem?_toArray, List.getElem?_cons_succ, List.getElem?_cons_zero, Option.some.injEq] at ho); subst ho; (try dsimp only at hSw); go_simp; (first | done | with_reducible rfl))
    (try simp only [Act.put, List.setIfInBounds_toArray, List.set_cons_zero, List.set_cons_succ])
    refine hand_take 11 (some 100) ?_ (by kernel_rfl) (by kernel_rfl) (by kernel_rfl) (by kernel_rfl) (by kernel_rfl) (fun _ _ _ h => h) ?_ (by assumption) ?_
    rotate_left
    · (intro o ho w hSw; (simp only [List.getElem?_toArray, List.getElem?_cons_succ, List.getElem?_cons_zero, Option.some.injEq] at ho); subst ho; (try dsimp only at hSw); go_simp; (first | done | with_reducible rfl))
    (try simp only [Act.put, List.setIfInBounds_toArray, List.set_cons_zero, List.set_cons_succ])
    refine hand_take 12 (some 101) ?_ (by kernel_rfl) (by kernel_rfl) (by kernel_rfl) (by kernel_rfl) (by kernel_rfl) (fun _ _ _ h => h) ?_ (by assumption) ?_
    rotate_left
    · (intro o ho w hSw; (simp only [List.getElem?_toArray, List.getElem?_cons_succ, List.getElem?_cons_zero, Option.some.injEq] at ho); subst ho; (try dsimp only at hSw); go_simp; (first | done | with_reducible rfl))
    (try simp only [Act.put, List.setIfInBounds_toArray, List.set_cons_zero, List.set_cons_succ])
    refine hand_take 13 (some 102) ?_ (by kernel_rfl) (by kernel_rfl) (by kernel_rfl) (by kernel_rfl) (by kernel_rfl) (fun _ _ _ h => h) ?_ (by assumption) ?_
    rotate_left
    · (intro o ho w hSw; (simp only [List.getElem?_toArray, List.getElem?_cons_succ, List.getElem?_cons_zero, Option.some.injEq] at ho); subst ho; (try dsimp only at hSw); go_simp; (first | done | with_reducible rfl))
    (try simp only [Act.put, List.setIfInBounds_toArray, List.set_cons_zero, List.set_cons_succ])
    refine hand_take 14 (some 103) ?_ (by kernel_rfl) (by kernel_rfl) (by kernel_rfl) (by kernel_rfl) (by kernel_rfl) (fun _ _ _ h => h) ?_ (by assumption) ?_
    rotate_left
    · (intro o ho w hSw; (simp only [List.getElem?_toArray, List.getElem?_cons_succ, List.getElem?_cons_zero, Option.some.injEq] at ho); subst ho; (try dsimp only at hSw); go_simp; (first | done | with_reducible rfl))
    (try simp only [Act.put, List.setIfInBounds_toArray, List.set_cons_zero, List.set_cons_succ])
    refine hand_take 15 (some 104) ?_ (by kernel_rfl) (by kernel_rfl) (by kernel_rfl) (by kernel_rfl) (by kernel_rfl) (fun _ _ _ h => h) ?_ (by assumption) ?_
    rotate_left
    · (intro o ho w hSw; (simp only [List.getElem?_toArray, List.getElem?_cons_succ, List.getElem?_cons_zero, Option.some.injEq] at ho); subst ho; (try dsimp only at hSw); go_simp; (first | done | with_reducible rfl))
    (try simp only [Act.put, List.setIfInBounds_toArray, List.set_cons_zero, List.set_cons_succ])
    refine hand_take 16 (some 105) ?_ (by kernel_rfl) (by kernel_rfl) (by kernel_rfl) (by kernel_rfl) (by kernel_rfl) (fun _ _ _ h => h) ?_ (by assumption) ?_
    rotate_left
    · (intro o ho w hSw; (simp only [List.getElem?_toArray, List.getElem?_cons_succ, List.getElem?_cons_zero, Option.some.injEq] at ho); subst ho; (try dsimp only at hSw); go_simp; (first | done | with_reducible rfl))
    (try simp only [Act.put, List.setIfInBounds_toArray, List.set_cons_zero, List.set_cons_succ])
    refine hand_take 18 (some 107) ?_ (by kernel_rfl) (by kernel_rfl) (by kernel_rfl) (by kernel_rfl) (by kernel_rfl) (fun _ _ _ h => h) ?_ (by assumption) ?_
    rotate_left
    · (intro o ho w hSw; (simp only [List.getElem?_toArray, List.getElem?_cons_succ, List.getElem?_cons_zero, Option.some.injEq] at ho); subst ho; (try dsimp only at hSw); go_simp; (first | done | with_reducible rfl))
    (try simp only [Act.put, List.setIfInBounds_toArray, List.set_cons_zero, List.set_cons_succ])
    refine hand_take 19 (some 108) ?_ (by kernel_rfl) (by kernel_rfl) (by kernel_rfl) (by kernel_rfl) (by kernel_rfl) (fun _ _ _ h => h) ?_ (by assumption) ?_
    rotate_left
    · (intro o ho w hSw; (simp only [List.getElem?_toArray, List.getElem?_cons_succ, List.getElem?_cons_zero, Option.some.injEq] at ho); subst ho; (try dsimp only at hSw); go_simp; (first | done | with_reducible rfl))
    (try simp only [Act.put, List.setIfInBounds_toArray, List.set_cons_zero, List.set_cons_succ])
    refine hand_ready 17 (by kernel_rfl) (by kernel_rfl) (fun o ho K hK => ?_)
    (simp only [List.getElem?_toArray, List.getElem?_cons_succ, List.getElem?_cons_zero, Option.some.injEq] at ho)
    subst ho
    go_simp
    (go_at_call 15; (with_reducible refine (HQ1 _ _ _ _ _ _ _ HB1.out HC.out).out.mono ?_); rintro e W2 ⟨rfl, rfl⟩)
    (try go_wp2_with fail)
    refine hK.out _ _ ?_ (fun hHeld => ?_)
    · ((try dsimp only); (first | with_reducible exact HS.out | exact cells18 HS.out (Keeps.drew _)))
    clear hK K
    (try simp only [Act.put, List.setIfInBounds_toArray, List.set_cons_zero, List.set_cons_succ])
    refine hand_ready 20 (by kernel_rfl) (by kernel_rfl) (fun o ho K hK => ?_)
    (simp only [List.getElem?_toArray, List.getElem?_cons_succ, List.getElem?_cons_zero, Option.some.injEq] at ho)
    subst ho
    go_simp
    (go_at_call 21; (with_reducible refine (HQ2 _ HR1.out HR2.out).out.mono ?_); rintro e W3 ⟨rfl, hb⟩; have hk := Keeps.of_below hb; have HS := kept (cells18 HS.out hk); have HBX := kept (bel_to hb HBX.out); clear hb hk)
    (try go_wp2_with fail)
    refine hK.out _ _ ?_ (fun hHeld => ?_)
    · ((try dsimp only); (first | with_reducible exact HS.out | exact cells18 HS.out (Keeps.drew _)))
    clear hK K
    (try simp only [Act.put, List.setIfInBounds_toArray, List.set_cons_zero, List.set_cons_succ])
    refine hand_take 21 (some 110) ?_ (by kernel_rfl) (by kernel_rfl) (by kernel_rfl) (by kernel_rfl) (by kernel_rfl) (fun _ _ _ h => h) ?_ (by assumption) ?_
    rotate_left
    · (intro o ho w hSw; (simp only [List.getElem?_toArray, List.getElem?_cons_succ, List.getElem?_cons_zero, Option.some.injEq] at ho); subst ho; (try dsimp only at hSw); go_simp; (first | done | with_reducible rfl))
    (try simp only [Act.put, List.setIfInBounds_toArray, List.set_cons_zero, List.set_cons_succ])
    refine hand_take 22 (some 111) ?_ (by kernel_rfl) (by kernel_rfl) (by kernel_rfl) (by kernel_rfl) (by kernel_rfl) (fun _ _ _ h => h) ?_ (by assumption) ?_
    rotate_left
    · (intro o ho w hSw; (simp only [List.getElem?_toArray, List.getElem?_cons_succ, List.getElem?_cons_zero, Option.some.injEq] at ho); subst ho; (try dsimp only at hSw); go_simp; (first | done | with_reducible rfl))
    (try simp only [Act.put, List.setIfInBounds_toArray, List.set_cons_zero, List.set_cons_succ])
    refine hand_take 23 (some 112) ?_ (by kernel_rfl) (by kernel_rfl) (by kernel_rfl) (by kernel_rfl) (by kernel_rfl) (fun _ _ _ h => h) ?_ (by assumption) ?_
    rotate_left
    · (intro o ho w hSw; (simp only [List.getElem?_toArray, List.getElem?_cons_succ, List.getElem?_cons_zero, Option.some.injEq] at ho); subst ho; (try dsimp only at hSw); go_simp; (first | done | with_reducible rfl))
    (try simp only [Act.put, List.setIfInBounds_toArray, List.set_cons_zero, List.set_cons_succ])
    refine hand_take 24 (some 4) ?_ (by kernel_rfl) (by kernel_rfl) (by kernel_rfl) (by kernel_rfl) (by kernel_rfl) (fun _ _ _ h => h) ?_ (by assumption) ?_
    rotate_left
    · (intro o ho w hSw; (simp only [List.getElem?_toArray, List.getElem?_cons_succ, List.getElem?_cons_zero, Option.some.injEq] at ho); subst ho; (try dsimp only at hSw); go_simp; (first | done | with_reducible rfl))
    (try simp only [Act.put, List.setIfInBounds_toArray, List.set_cons_zero, List.set_cons_succ])
    refine wpAnyH_done (by kernel_rfl) ?_ _
    go_wp2
    go_ret
    exact ⟨by first | rfl | simp, HBX.out⟩
set_option maxRecDepth 100000 in
set_option maxHeartbeats 2000000 in
theorem walk_rn (w : World) (L M : LayV) (x y : Kv) (rv : RdV w L x) (ry : RdV w M y) (hf1 : L.kn ≤ 200) (hf2 : L.vn ≤ 2000) (hf3 : M.kn ≤ 200) (hf4 : M.vn ≤ 2000) (hok : rightV x = true) (hkb : keyB L.kn = true) (hoo : rightV y = false) :
    Calls Try.prog 5 #[vkv L x, vkv M y] w fun e w' => e = .returned (.bool true) ∧ Below w.heap.size w w' := by
  have HL := fun w => kept (lives_kv w)
  have HF1 := fun W r => kept (few_kv L x W r true (by simp [hf1, hf2]))
  have HF2 := fun W r => kept (few_kv M y W r true (by simp [hf3, hf4]))
  have HKL := kept (show x.key.length = L.kn from rv.key.1)
  have HVL := kept (show x.val.length = L.vn from rv.val.1)
  have HK6 := kept (And.intro hf1 hf2)
  have G0 := kept (bag0 w L M x y rv ry)
  have B0 := kept (two_boxes w L M x y).2.2
  have HOK := kept hok
  have HEN := fun W r => kept (encode_kv L x W hok r)
  have HEO := fun W r => kept (encode_kv_no M y W hoo r)
  have HKB := kept hkb
  clear hf1 hf2 hf3 hf4 hok rv ry hkb hoo
  obtain ⟨a0, a1, a2, a3, a4, a5⟩ := G0.out.s1.cells
  obtain ⟨b0, b1, b2, b3, b4, b5⟩ := G0.out.s2.cells
  unfold boxV at a0 a1 a2 a3 a4 a5
  go_enter Try.func5, Try.ntmps5
  go_wp2_with fail
  clear a0 a1 a2 a3 a4 a5
  clear b0 b1 b2 b3 b4 b5
  with_reducible refine ((HL _).out).mono ?_
  rintro e w1 ⟨rfl, hb⟩
  have G1 := kept (G0.out.below hb)
  have B1 := kept (bel_to hb B0.out)
  clear hb
  obtain ⟨a0, a1, a2, a3, a4, a5⟩ := G1.out.s1.cells
  go_wp2_with fail
  clear a0 a1 a2 a3 a4 a5
  with_reducible refine ((HF1 _ G1.out.r1).out).mono ?_
  rintro e w2 ⟨rfl, hb⟩
  have G2 := kept (G1.out.below hb)
  have B2 := kept (bel_to hb B1.out)
  clear hb
  obtain ⟨a0, a1, a2, a3, a4, a5⟩ := G2.out.s2.cells
  go_wp2_with fail
  clear a0 a1 a2 a3 a4 a5
  with_reducible refine ((HF2 _ G2.out.r2).out).mono ?_
  rintro e w3 ⟨rfl, hb⟩
  have G3 := kept (G2.out.below hb)
  have B3 := kept (bel_to hb B2.out)
  clear hb
  obtain ⟨a0, a1, a2, a3, a4, a5⟩ := G3.out.s1.cells
  go_wp2_with fail
  clear a0 a1 a2 a3 a4 a5
  with_reducible refine (HEN _ G3.out.r1).out.mono ?_
  rintro e w4 ⟨A4, c4, rfl, hown, hb⟩
  have G4 : Hid (Bag w4 w.heap.size L x (w.heap.size + 1) M y w.heap.size L x A4 (37 + (L.kn + L.vn)) (kvB x) none 0 []) := kept ⟨G3.out.s1.below hb, G3.out.r1.below hb, G3.out.s2.below hb, G3.out.r2.below hb, G3.out.s3.below hb, G3.out.r3.below hb, Rd.of_own hown, Rd.nil_ _ _⟩
  have B4 := kept (bel_to hb B3.out)
  clear hb hown
  obtain ⟨a0, a1, a2, a3, a4, a5⟩ := G4.out.s1.cells
  have HTM := kept (tomb_yes L.ka L.kn L.kc x.key w4 G4.out.r1.has_key HKB.out)
  go_wp2_with fail
  clear a0 a1 a2 a3 a4 a5
  with_reducible refine HTM.out.mono ?_
  rintro e w5 ⟨A5, c5, rfl, hown, hb⟩
  have G5 : Hid (Bag w5 w.heap.size L x (w.heap.size + 1) M y w.heap.size L x A4 (37 + (L.kn + L.vn)) (kvB x) A5 (3 + L.kn) (headB 2 x.key)) := kept ⟨G4.out.s1.below hb, G4.out.r1.below hb, G4.out.s2.below hb, G4.out.r2.below hb, G4.out.s3.below hb, G4.out.r3.below hb, G4.out.b1.below hb, Rd.of_own hown⟩
  have B5 := kept (bel_to hb B4.out)
  clear hb hown HTM
  have HDT := kept (dec_of (c := c5) G5.out.b2 (by have := HK6.out.1; omega) (x := ⟨x.key, [], 0, 0, 0, 0⟩) (t := true) (.inr (.inl ⟨rfl, rfl, by show keyB x.key.length = true; rw [HKL.out]; exact HKB.out, rfl, rfl⟩)))
  go_wp2_with fail
  with_reducible refine HDT.out.mono ?_
  rintro e w6 ⟨K, rfl, hV, hb⟩
  have G6 := kept (((G5.out.below hb).below (boxV_below w6 K ⟨x.key, [], 0, 0, 0, 0⟩)).third (Six.new w6 K ⟨x.key, [], 0, 0, 0, 0⟩) (hV.below (boxV_below w6 K ⟨x.key, [], 0, 0, 0, 0⟩)))
  have B6 := kept (bel_to (boxV_below w6 K ⟨x.key, [], 0, 0, 0, 0⟩) (bel_to hb B5.out))
  clear hb hV HDT
  obtain ⟨a0, a1, a2, a3, a4, a5⟩ := G6.out.s1.cells
  obtain ⟨b0, b1, b2, b3, b4, b5⟩ := G6.out.s3.cells
  have HSM := kept (same_any K.ka L.ka K.kn L.kn K.kc L.kc x.key x.key _ G6.out.r3.key G6.out.r1.key true (by simp))
  have HSN := kept (same_any A5 A4 (3 + L.kn) (37 + (L.kn + L.vn)) c5 c4 (headB 2 x.key) (kvB x) _ G6.out.b2 G6.out.b1 false (by rw [decide_eq_false_iff_not]; exact fun e => kv_no_tomb e.symm))
  go_wp2_with fail
  with_reducible refine HSM.out.mono ?_
  rintro e w7 ⟨rfl, rfl⟩
  go_wp2_with fail
  with_reducible refine HSN.out.mono ?_
  rintro e w7 ⟨rfl, rfl⟩
  clear HSM HSN
  clear a0 a1 a2 a3 a4 a5
  clear b0 b1 b2 b3 b4 b5
  have HDK := kept (dec_of (c := c4) G6.out.b1 (by have := HK6.out; omega) (x := x) (t := false) (.inl ⟨rfl, rfl, HOK.out, rfl⟩))
  go_wp2_with fail
  with_reducible refine HDK.out.mono ?_
  rintro e w8 ⟨K2, rfl, hV, hb⟩
  have G8 := kept (((G6.out.below hb).below (boxV_below w8 K2 x)).third (Six.new w8 K2 x) (hV.below (boxV_below w8 K2 x)))
  have B8 := kept (bel_to (boxV_below w8 K2 x) (bel_to hb B6.out))
  clear hb hV HDK
  obtain ⟨a0, a1, a2, a3, a4, a5⟩ := G8.out.s2.cells
  go_wp2_with fail
  clear a0 a1 a2 a3 a4 a5
  with_reducible refine (HEO _ G8.out.r2).out.mono ?_
  rintro e W ⟨rfl, hb⟩
  have G9 := kept (G8.out.below hb)
  have B9 := kept (bel_to hb B8.out)
  have hS : (W.cell? ⟨w.heap.size, 0, none⟩ = some (.slice L.ka L.kn L.kc) ∧ W.cell? ⟨w.heap.size, 1, none⟩ = some (.slice L.va L.vn L.vc) ∧ W.cell? ⟨w.heap.size, 2, none⟩ = some (.int .i64 x.c) ∧ W.cell? ⟨w.heap.size, 3, none⟩ = some (.int .i64 x.m) ∧ W.cell? ⟨w.heap.size, 4, none⟩ = some (.int .i64 x.v) ∧ W.cell? ⟨w.heap.size, 5, none⟩ = some (.int .i64 x.l)) ∧ (W.cell? ⟨w.heap.size + 1, 0, none⟩ = some (.slice M.ka M.kn M.kc) ∧ W.cell? ⟨w.heap.size + 1, 1, none⟩ = some (.slice M.va M.vn M.vc) ∧ W.cell? ⟨w.heap.size + 1, 2, none⟩ = some (.int .i64 y.c) ∧ W.cell? ⟨w.heap.size + 1, 3, none⟩ = some (.int .i64 y.m) ∧ W.cell? ⟨w.heap.size + 1, 4, none⟩ = some (.int .i64 y.v) ∧ W.cell? ⟨w.heap.size + 1, 5, none⟩ = some (.int .i64 y.l)) ∧ (W.cell? ⟨w8.heap.size, 0, none⟩ = some (.slice K2.ka K2.kn K2.kc) ∧ W.cell? ⟨w8.heap.size, 1, none⟩ = some (.slice K2.va K2.vn K2.vc) ∧ W.cell? ⟨w8.heap.size, 2, none⟩ = some (.int .i64 x.c) ∧ W.cell? ⟨w8.heap.size, 3, none⟩ = some (.int .i64 x.m) ∧ W.cell? ⟨w8.heap.size, 4, none⟩ = some (.int .i64 x.v) ∧ W.cell? ⟨w8.heap.size, 5, none⟩ = some (.int .i64 x.l)) := ⟨G9.out.s1.cells, G9.out.s2.cells, G9.out.s3.cells⟩
  have HS := kept hS
  clear hb hS G0 G1 G2 G3 G4 G5 G6 G8 B0 B1 B2 B3 B4 B5 B6 B8
  go_wp2_with fail
  refine wp_region_held_drew (S := (fun W' => (W'.cell? ⟨w.heap.size, 0, none⟩ = some (.slice L.ka L.kn L.kc) ∧ W'.cell? ⟨w.heap.size, 1, none⟩ = some (.slice L.va L.vn L.vc) ∧ W'.cell? ⟨w.heap.size, 2, none⟩ = some (.int .i64 x.c) ∧ W'.cell? ⟨w.heap.size, 3, none⟩ = some (.int .i64 x.m) ∧ W'.cell? ⟨w.heap.size, 4, none⟩ = some (.int .i64 x.v) ∧ W'.cell? ⟨w.heap.size, 5, none⟩ = some (.int .i64 x.l)) ∧ (W'.cell? ⟨w.heap.size + 1, 0, none⟩ = some (.slice M.ka M.kn M.kc) ∧ W'.cell? ⟨w.heap.size + 1, 1, none⟩ = some (.slice M.va M.vn M.vc) ∧ W'.cell? ⟨w.heap.size + 1, 2, none⟩ = some (.int .i64 y.c) ∧ W'.cell? ⟨w.heap.size + 1, 3, none⟩ = some (.int .i64 y.m) ∧ W'.cell? ⟨w.heap.size + 1, 4, none⟩ = some (.int .i64 y.v) ∧ W'.cell? ⟨w.heap.size + 1, 5, none⟩ = some (.int .i64 y.l)) ∧ (W'.cell? ⟨w8.heap.size, 0, none⟩ = some (.slice K2.ka K2.kn K2.kc) ∧ W'.cell? ⟨w8.heap.size, 1, none⟩ = some (.slice K2.va K2.vn K2.vc) ∧ W'.cell? ⟨w8.heap.size, 2, none⟩ = some (.int .i64 x.c) ∧ W'.cell? ⟨w8.heap.size, 3, none⟩ = some (.int .i64 x.m) ∧ W'.cell? ⟨w8.heap.size, 4, none⟩ = some (.int .i64 x.v) ∧ W'.cell? ⟨w8.heap.size, 5, none⟩ = some (.int .i64 x.l)))) (by kernel_rfl) ?_ (fun hHeld => ?_)
  · ((try dsimp only); (first | with_reducible exact HS.out | exact cells18 HS.out (Keeps.drew _)))
  (have HR1 := kept (G9.out.r1.keeps (Keeps.drew _)); have HR3 := kept (G9.out.r3.keeps (Keeps.drew _)); have HBX := kept B9.out.drew; replace HS := kept (cells18 HS.out (Keeps.drew _)); clear G9 B9; generalize W.drew = W0 at HR1 HR3 HBX HS hHeld ⊢)
  refine hand_take 0 (some 89) ?_ (by kernel_rfl) (by kernel_rfl) (by kernel_rfl) (by kernel_rfl) (by kernel_rfl) (fun _ _ _ h => h) ?_ (by assumption) ?_
  rotate_left
  · (intro o ho w hSw; (simp only [List.getElem?_toArray, List.getElem?_cons_succ, List.getElem?_cons_zero, Option.some.injEq] at ho); subst ho; (try dsimp only at hSw); go_simp; (first | done | with_reducible rfl))
  (try simp only [Act.put, List.setIfInBounds_toArray, List.set_cons_zero, List.set_cons_succ])
  refine hand_take 1 (some 90) ?_ (by kernel_rfl) (by kernel_rfl) (by kernel_rfl) (by kernel_rfl) (by kernel_rfl) (fun _ _ _ h => h) ?_ (by assumption) ?_
  rotate_left
  · (intro o ho w hSw; (simp only [List.getElem?_toArray, List.getElem?_cons_succ, List.getElem?_cons_zero, Option.some.injEq] at ho); subst ho; (try dsimp only at hSw); go_simp; (first | done | with_reducible rfl))
  (try simp only [Act.put, List.setIfInBounds_toArray, List.set_cons_zero, List.set_cons_succ])
  refine hand_take 2 (some 91) ?_ (by kernel_rfl) (by kernel_rfl) (by kernel_rfl) (by kernel_rfl) (by kernel_rfl) (fun _ _ _ h => h) ?_ (by assumption) ?_
  rotate_left
  · (intro o ho w hSw; (simp only [List.getElem?_toArray, List.getElem?_cons_succ, List.getElem?_cons_zero, Option.some.injEq] at ho); subst ho; (try dsimp only at hSw); go_simp; (first | done | with_reducible rfl))
  (try simp only [Act.put, List.setIfInBounds_toArray, List.set_cons_zero, List.set_cons_succ])
  refine hand_take 3 (some 92) ?_ (by kernel_rfl) (by kernel_rfl) (by kernel_rfl) (by kernel_rfl) (by kernel_rfl) (fun _ _ _ h => h) ?_ (by assumption) ?_
  rotate_left
  · (intro o ho w hSw; (simp only [List.getElem?_toArray, List.getElem?_cons_succ, List.getElem?_cons_zero, Option.some.injEq] at ho); subst ho; (try dsimp only at hSw); go_simp; (first | done | with_reducible rfl))
  (try simp only [Act.put, List.setIfInBounds_toArray, List.set_cons_zero, List.set_cons_succ])
  refine hand_take 4 (some 93) ?_ (by kernel_rfl) (by kernel_rfl) (by kernel_rfl) (by kernel_rfl) (by kernel_rfl) (fun _ _ _ h => h) ?_ (by assumption) ?_
  rotate_left
  · (intro o ho w hSw; (simp only [List.getElem?_toArray, List.getElem?_cons_succ, List.getElem?_cons_zero, Option.some.injEq] at ho); subst ho; (try dsimp only at hSw); go_simp; (first | done | with_reducible rfl))
  (try simp only [Act.put, List.setIfInBounds_toArray, List.set_cons_zero, List.set_cons_succ])
  refine hand_take 5 (some 94) ?_ (by kernel_rfl) (by kernel_rfl) (by kernel_rfl) (by kernel_rfl) (by kernel_rfl) (fun _ _ _ h => h) ?_ (by assumption) ?_
  rotate_left
  · (intro o ho w hSw; (simp only [List.getElem?_toArray, List.getElem?_cons_succ, List.getElem?_cons_zero, Option.some.injEq] at ho); subst ho; (try dsimp only at hSw); go_simp; (first | done | with_reducible rfl))
  (try simp only [Act.put, List.setIfInBounds_toArray, List.set_cons_zero, List.set_cons_succ])
  refine hand_take 6 (some 95) ?_ (by kernel_rfl) (by kernel_rfl) (by kernel_rfl) (by kernel_rfl) (by kernel_rfl) (fun _ _ _ h => h) ?_ (by assumption) ?_
  rotate_left
  · (intro o ho w hSw; (simp only [List.getElem?_toArray, List.getElem?_cons_succ, List.getElem?_cons_zero, Option.some.injEq] at ho); subst ho; (try dsimp only at hSw); go_simp; (first | done | with_reducible rfl))
  (try simp only [Act.put, List.setIfInBounds_toArray, List.set_cons_zero, List.set_cons_succ])
  refine hand_take 7 (some 96) ?_ (by kernel_rfl) (by kernel_rfl) (by kernel_rfl) (by kernel_rfl) (by kernel_rfl) (fun _ _ _ h => h) ?_ (by assumption) ?_
  rotate_left
  · (intro o ho w hSw; (simp only [List.getElem?_toArray, List.getElem?_cons_succ, List.getElem?_cons_zero, Option.some.injEq] at ho); subst ho; (try dsimp only at hSw); go_simp; (first | done | with_reducible rfl))
  (try simp only [Act.put, List.setIfInBounds_toArray, List.set_cons_zero, List.set_cons_succ])
  refine hand_take 8 (some 97) ?_ (by kernel_rfl) (by kernel_rfl) (by kernel_rfl) (by kernel_rfl) (by kernel_rfl) (fun _ _ _ h => h) ?_ (by assumption) ?_
  rotate_left
  · (intro o ho w hSw; (simp only [List.getElem?_toArray, List.getElem?_cons_succ, List.getElem?_cons_zero, Option.some.injEq] at ho); subst ho; (try dsimp only at hSw); go_simp; (first | done | with_reducible rfl))
  (try simp only [Act.put, List.setIfInBounds_toArray, List.set_cons_zero, List.set_cons_succ])
  refine hand_ready 9 (by kernel_rfl) (by kernel_rfl) (fun o ho K hK => ?_)
  (simp only [List.getElem?_toArray, List.getElem?_cons_succ, List.getElem?_cons_zero, Option.some.injEq] at ho)
  subst ho
  go_simp
  (go_at_call 21; (with_reducible refine (same_kv L K2 x x _ true (by simp) HR1.out HR3.out).mono ?_); rintro e W1 ⟨rfl, hb⟩; have hk := Keeps.of_below hb; have HS := kept (cells18 HS.out hk); have HBX := kept (bel_to hb HBX.out); clear hb hk)
  (try go_wp2_with fail)
  refine hK.out _ _ ?_ (fun hHeld => ?_)
  · ((try dsimp only); (first | with_reducible exact HS.out | exact cells18 HS.out (Keeps.drew _)))
  clear hK K
  (try simp only [Act.put, List.setIfInBounds_toArray, List.set_cons_zero, List.set_cons_succ])
  refine hand_take 10 (some 99) ?_ (by kernel_rfl) (by kernel_rfl) (by kernel_rfl) (by kernel_rfl) (by kernel_rfl) (fun _ _ _ h => h) ?_ (by assumption) ?_
  rotate_left
  · (intro o ho w hSw; (simp only [List.getElem?_toArray, List.getElem?_cons_succ, List.getElem?_cons_zero, Option.some.injEq] at ho); subst ho; (try dsimp only at hSw); go_simp; (first | done | with_reducible rfl))
  (try simp only [Act.put, List.setIfInBounds_toArray, List.set_cons_zero, List.set_cons_succ])
  refine hand_take 11 (some 100) ?_ (by kernel_rfl) (by kernel_rfl) (by kernel_rfl) (by kernel_rfl) (by kernel_rfl) (fun _ _ _ h => h) ?_ (by assumption) ?_
  rotate_left
  · (intro o ho w hSw; (simp only [List.getElem?_toArray, List.getElem?_cons_succ, List.getElem?_cons_zero, Option.some.injEq] at ho); subst ho; (try dsimp only at hSw); go_simp; (first | done | with_reducible rfl))
  (try simp only [Act.put, List.setIfInBounds_toArray, List.set_cons_zero, List.set_cons_succ])
  refine hand_take 12 (some 101) ?_ (by kernel_rfl) (by kernel_rfl) (by kernel_rfl) (by kernel_rfl) (by kernel_rfl) (fun _ _ _ h => h) ?_ (by assumption) ?_
  rotate_left
  · (intro o ho w hSw; (simp only [List.getElem?_toArray, List.getElem?_cons_succ, List.getElem?_cons_zero, Option.some.injEq] at ho); subst ho; (try dsimp only at hSw); go_simp; (first | done | with_reducible rfl))
  (try simp only [Act.put, List.setIfInBounds_toArray, List.set_cons_zero, List.set_cons_succ])
  refine hand_take 13 (some 102) ?_ (by kernel_rfl) (by kernel_rfl) (by kernel_rfl) (by kernel_rfl) (by kernel_rfl) (fun _ _ _ h => h) ?_ (by assumption) ?_
  rotate_left
  · (intro o ho w hSw; (simp only [List.getElem?_toArray, List.getElem?_cons_succ, List.getElem?_cons_zero, Option.some.injEq] at ho); subst ho; (try dsimp only at hSw); go_simp; (first | done | with_reducible rfl))
  (try simp only [Act.put, List.setIfInBounds_toArray, List.set_cons_zero, List.set_cons_succ])
  refine hand_take 14 (some 103) ?_ (by kernel_rfl) (by kernel_rfl) (by kernel_rfl) (by kernel_rfl) (by kernel_rfl) (fun _ _ _ h => h) ?_ (by assumption) ?_
  rotate_left
  · (intro o ho w hSw; (simp only [List.getElem?_toArray, List.getElem?_cons_succ, List.getElem?_cons_zero, Option.some.injEq] at ho); subst ho; (try dsimp only at hSw); go_simp; (first | done | with_reducible rfl))
  (try simp only [Act.put, List.setIfInBounds_toArray, List.set_cons_zero, List.set_cons_succ])
  refine hand_skip 15 (some 104) (by kernel_rfl) (by kernel_rfl) (by kernel_rfl) (by kernel_rfl) (by kernel_rfl) (fun _ _ _ h => h) (by assumption) ?_
  (try simp only [Act.put, List.setIfInBounds_toArray, List.set_cons_zero, List.set_cons_succ])
  refine hand_skip 16 (some 105) (by kernel_rfl) (by kernel_rfl) (by kernel_rfl) (by kernel_rfl) (by kernel_rfl) (fun _ _ _ h => h) (by assumption) ?_
  (try simp only [Act.put, List.setIfInBounds_toArray, List.set_cons_zero, List.set_cons_succ])
  refine hand_skip 17 (some 106) (by kernel_rfl) (by kernel_rfl) (by kernel_rfl) (by kernel_rfl) (by kernel_rfl) (fun _ _ _ h => h) (by assumption) ?_
  (try simp only [Act.put, List.setIfInBounds_toArray, List.set_cons_zero, List.set_cons_succ])
  refine hand_skip 18 (some 107) (by kernel_rfl) (by kernel_rfl) (by kernel_rfl) (by kernel_rfl) (by kernel_rfl) (fun _ _ _ h => h) (by assumption) ?_
  (try simp only [Act.put, List.setIfInBounds_toArray, List.set_cons_zero, List.set_cons_succ])
  refine hand_skip 19 (some 108) (by kernel_rfl) (by kernel_rfl) (by kernel_rfl) (by kernel_rfl) (by kernel_rfl) (fun _ _ _ h => h) (by assumption) ?_
  (try simp only [Act.put, List.setIfInBounds_toArray, List.set_cons_zero, List.set_cons_succ])
  refine hand_skip 20 (some 109) (by kernel_rfl) (by kernel_rfl) (by kernel_rfl) (by kernel_rfl) (by kernel_rfl) (fun _ _ _ h => h) (by assumption) ?_
  (try simp only [Act.put, List.setIfInBounds_toArray, List.set_cons_zero, List.set_cons_succ])
  refine hand_skip 21 (some 110) (by kernel_rfl) (by kernel_rfl) (by kernel_rfl) (by kernel_rfl) (by kernel_rfl) (fun _ _ _ h => h) (by assumption) ?_
  (try simp only [Act.put, List.setIfInBounds_toArray, List.set_cons_zero, List.set_cons_succ])
  refine hand_take 22 (some 111) ?_ (by kernel_rfl) (by kernel_rfl) (by kernel_rfl) (by kernel_rfl) (by kernel_rfl) (fun _ _ _ h => h) ?_ (by assumption) ?_
  rotate_left
  · (intro o ho w hSw; (simp only [List.getElem?_toArray, List.getElem?_cons_succ, List.getElem?_cons_zero, Option.some.injEq] at ho); subst ho; (try dsimp only at hSw); go_simp; (first | done | with_reducible rfl))
  (try simp only [Act.put, List.setIfInBounds_toArray, List.set_cons_zero, List.set_cons_succ])
  refine hand_take 23 (some 112) ?_ (by kernel_rfl) (by kernel_rfl) (by kernel_rfl) (by kernel_rfl) (by kernel_rfl) (fun _ _ _ h => h) ?_ (by assumption) ?_
  rotate_left
  · (intro o ho w hSw; (simp only [List.getElem?_toArray, List.getElem?_cons_succ, List.getElem?_cons_zero, Option.some.injEq] at ho); subst ho; (try dsimp only at hSw); go_simp; (first | done | with_reducible rfl))
  (try simp only [Act.put, List.setIfInBounds_toArray, List.set_cons_zero, List.set_cons_succ])
  refine hand_take 24 (some 4) ?_ (by kernel_rfl) (by kernel_rfl) (by kernel_rfl) (by kernel_rfl) (by kernel_rfl) (fun _ _ _ h => h) ?_ (by assumption) ?_
  rotate_left
  · (intro o ho w hSw; (simp only [List.getElem?_toArray, List.getElem?_cons_succ, List.getElem?_cons_zero, Option.some.injEq] at ho); subst ho; (try dsimp only at hSw); go_simp; (first | done | with_reducible rfl))
  (try simp only [Act.put, List.setIfInBounds_toArray, List.set_cons_zero, List.set_cons_succ])
  refine wpAnyH_done (by kernel_rfl) ?_ _
  go_wp2
  go_ret
  exact ⟨by first | rfl | simp, HBX.out⟩
set_option maxRecDepth 100000 in
set_option maxHeartbeats 2000000 in
theorem walk_nk (w : World) (L M : LayV) (x y : Kv) (rv : RdV w L x) (ry : RdV w M y) (hf1 : L.kn ≤ 200) (hf2 : L.vn ≤ 2000) (hf3 : M.kn ≤ 200) (hf4 : M.vn ≤ 2000) (hok : rightV x = false) (hkb : keyB L.kn = true) :
    Calls Try.prog 5 #[vkv L x, vkv M y] w fun e w' => e = .returned (.bool true) ∧ Below w.heap.size w w' := by
  have HL := fun w => kept (lives_kv w)
  have HF1 := fun W r => kept (few_kv L x W r true (by simp [hf1, hf2]))
  have HF2 := fun W r => kept (few_kv M y W r true (by simp [hf3, hf4]))
  have HKL := kept (show x.key.length = L.kn from rv.key.1)
  have HVL := kept (show x.val.length = L.vn from rv.val.1)
  have HK6 := kept (And.intro hf1 hf2)
  have G0 := kept (bag0 w L M x y rv ry)
  have B0 := kept (two_boxes w L M x y).2.2
  have HOK := kept hok
  have HEN := fun W r => kept (encode_kv_no L x W hok r)
  have HR2 := fun W r => kept (right_kv L x W false hok r)
  have HKB := kept hkb
  clear hf1 hf2 hf3 hf4 hok rv ry hkb
  obtain ⟨a0, a1, a2, a3, a4, a5⟩ := G0.out.s1.cells
  obtain ⟨b0, b1, b2, b3, b4, b5⟩ := G0.out.s2.cells
  unfold boxV at a0 a1 a2 a3 a4 a5
  go_enter Try.func5, Try.ntmps5
  go_wp2_with fail
  clear a0 a1 a2 a3 a4 a5
  clear b0 b1 b2 b3 b4 b5
  with_reducible refine ((HL _).out).mono ?_
  rintro e w1 ⟨rfl, hb⟩
  have G1 := kept (G0.out.below hb)
  have B1 := kept (bel_to hb B0.out)
  clear hb
  obtain ⟨a0, a1, a2, a3, a4, a5⟩ := G1.out.s1.cells
  go_wp2_with fail
  clear a0 a1 a2 a3 a4 a5
  with_reducible refine ((HF1 _ G1.out.r1).out).mono ?_
  rintro e w2 ⟨rfl, hb⟩
  have G2 := kept (G1.out.below hb)
  have B2 := kept (bel_to hb B1.out)
  clear hb
  obtain ⟨a0, a1, a2, a3, a4, a5⟩ := G2.out.s2.cells
  go_wp2_with fail
  clear a0 a1 a2 a3 a4 a5
  with_reducible refine ((HF2 _ G2.out.r2).out).mono ?_
  rintro e w3 ⟨rfl, hb⟩
  have G3 := kept (G2.out.below hb)
  have B3 := kept (bel_to hb B2.out)
  clear hb
  obtain ⟨a0, a1, a2, a3, a4, a5⟩ := G3.out.s1.cells
  go_wp2_with fail
  clear a0 a1 a2 a3 a4 a5
  with_reducible refine ((HEN _ G3.out.r1).out).mono ?_
  rintro e w4 ⟨rfl, hb⟩
  have G4 := kept (G3.out.below hb)
  have B4 := kept (bel_to hb B3.out)
  clear hb
  obtain ⟨a0, a1, a2, a3, a4, a5⟩ := G4.out.s1.cells
  have HTM := kept (tomb_yes L.ka L.kn L.kc x.key w4 G4.out.r1.has_key HKB.out)
  go_wp2_with fail
  clear a0 a1 a2 a3 a4 a5
  with_reducible refine HTM.out.mono ?_
  rintro e w5 ⟨A5, c5, rfl, hown, hb⟩
  have G5 : Hid (Bag w5 w.heap.size L x (w.heap.size + 1) M y w.heap.size L x none 0 [] A5 (3 + L.kn) (headB 2 x.key)) := kept ⟨G4.out.s1.below hb, G4.out.r1.below hb, G4.out.s2.below hb, G4.out.r2.below hb, G4.out.s3.below hb, G4.out.r3.below hb, G4.out.b1.below hb, Rd.of_own hown⟩
  have B5 := kept (bel_to hb B4.out)
  clear hb hown HTM
  have HDT := kept (dec_of (c := c5) G5.out.b2 (by have := HK6.out.1; omega) (x := ⟨x.key, [], 0, 0, 0, 0⟩) (t := true) (.inr (.inl ⟨rfl, rfl, by show keyB x.key.length = true; rw [HKL.out]; exact HKB.out, rfl, rfl⟩)))
  go_wp2_with fail
  with_reducible refine HDT.out.mono ?_
  rintro e w6 ⟨K, rfl, hV, hb⟩
  have G6 := kept (((G5.out.below hb).below (boxV_below w6 K ⟨x.key, [], 0, 0, 0, 0⟩)).third (Six.new w6 K ⟨x.key, [], 0, 0, 0, 0⟩) (hV.below (boxV_below w6 K ⟨x.key, [], 0, 0, 0, 0⟩)))
  have B6 := kept (bel_to (boxV_below w6 K ⟨x.key, [], 0, 0, 0, 0⟩) (bel_to hb B5.out))
  clear hb hV HDT
  obtain ⟨a0, a1, a2, a3, a4, a5⟩ := G6.out.s1.cells
  obtain ⟨b0, b1, b2, b3, b4, b5⟩ := G6.out.s3.cells
  have HSM := kept (same_any K.ka L.ka K.kn L.kn K.kc L.kc x.key x.key _ G6.out.r3.key G6.out.r1.key true (by simp))
  have HSN := kept (same_any A5 none (3 + L.kn) 0 c5 0 (headB 2 x.key) [] _ G6.out.b2 G6.out.b1 false (by rw [decide_eq_false_iff_not]; intro e; have := congrArg List.length e; rw [headB_length] at this; simp at this))
  go_wp2_with fail
  with_reducible refine HSM.out.mono ?_
  rintro e w7 ⟨rfl, rfl⟩
  go_wp2_with fail
  with_reducible refine HSN.out.mono ?_
  rintro e w7 ⟨rfl, rfl⟩
  clear HSM HSN
  go_wp2_with fail
  with_reducible refine (HR2 _ G6.out.r1).out.mono ?_
  rintro e w8 ⟨rfl, hb⟩
  have B8 := kept (bel_to hb B6.out)
  clear hb
  go_wp2
  go_ret
  exact ⟨by first | rfl | simp, B8.out⟩
set_option maxRecDepth 100000 in
set_option maxHeartbeats 2000000 in
theorem walk_nn (w : World) (L M : LayV) (x y : Kv) (rv : RdV w L x) (ry : RdV w M y) (hf1 : L.kn ≤ 200) (hf2 : L.vn ≤ 2000) (hf3 : M.kn ≤ 200) (hf4 : M.vn ≤ 2000) (hok : rightV x = false) (hkb : keyB L.kn = false) :
    Calls Try.prog 5 #[vkv L x, vkv M y] w fun e w' => e = .returned (.bool true) ∧ Below w.heap.size w w' := by
  have HL := fun w => kept (lives_kv w)
  have HF1 := fun W r => kept (few_kv L x W r true (by simp [hf1, hf2]))
  have HF2 := fun W r => kept (few_kv M y W r true (by simp [hf3, hf4]))
  have HKL := kept (show x.key.length = L.kn from rv.key.1)
  have HVL := kept (show x.val.length = L.vn from rv.val.1)
  have HK6 := kept (And.intro hf1 hf2)
  have G0 := kept (bag0 w L M x y rv ry)
  have B0 := kept (two_boxes w L M x y).2.2
  have HOK := kept hok
  have HEN := fun W r => kept (encode_kv_no L x W hok r)
  have HR2 := fun W r => kept (right_kv L x W false hok r)
  have HKB := kept hkb
  clear hf1 hf2 hf3 hf4 hok rv ry hkb
  obtain ⟨a0, a1, a2, a3, a4, a5⟩ := G0.out.s1.cells
  obtain ⟨b0, b1, b2, b3, b4, b5⟩ := G0.out.s2.cells
  unfold boxV at a0 a1 a2 a3 a4 a5
  go_enter Try.func5, Try.ntmps5
  go_wp2_with fail
  clear a0 a1 a2 a3 a4 a5
  clear b0 b1 b2 b3 b4 b5
  with_reducible refine ((HL _).out).mono ?_
  rintro e w1 ⟨rfl, hb⟩
  have G1 := kept (G0.out.below hb)
  have B1 := kept (bel_to hb B0.out)
  clear hb
  obtain ⟨a0, a1, a2, a3, a4, a5⟩ := G1.out.s1.cells
  go_wp2_with fail
  clear a0 a1 a2 a3 a4 a5
  with_reducible refine ((HF1 _ G1.out.r1).out).mono ?_
  rintro e w2 ⟨rfl, hb⟩
  have G2 := kept (G1.out.below hb)
  have B2 := kept (bel_to hb B1.out)
  clear hb
  obtain ⟨a0, a1, a2, a3, a4, a5⟩ := G2.out.s2.cells
  go_wp2_with fail
  clear a0 a1 a2 a3 a4 a5
  with_reducible refine ((HF2 _ G2.out.r2).out).mono ?_
  rintro e w3 ⟨rfl, hb⟩
  have G3 := kept (G2.out.below hb)
  have B3 := kept (bel_to hb B2.out)
  clear hb
  obtain ⟨a0, a1, a2, a3, a4, a5⟩ := G3.out.s1.cells
  go_wp2_with fail
  clear a0 a1 a2 a3 a4 a5
  with_reducible refine ((HEN _ G3.out.r1).out).mono ?_
  rintro e w4 ⟨rfl, hb⟩
  have G4 := kept (G3.out.below hb)
  have B4 := kept (bel_to hb B3.out)
  clear hb
  obtain ⟨a0, a1, a2, a3, a4, a5⟩ := G4.out.s1.cells
  have HTM := kept (tomb_no L.ka L.kn L.kc w4 HKB.out)
  go_wp2_with fail
  clear a0 a1 a2 a3 a4 a5
  with_reducible refine HTM.out.mono ?_
  rintro e w5 ⟨rfl, rfl⟩
  clear HTM
  obtain ⟨a0, a1, a2, a3, a4, a5⟩ := G4.out.s1.cells
  go_wp2_with fail
  with_reducible refine (HR2 _ G4.out.r1).out.mono ?_
  rintro e w8 ⟨rfl, hb⟩
  have B8 := kept (bel_to hb B4.out)
  clear hb
  go_wp2
  go_ret
  exact ⟨by first | rfl | simp, B8.out⟩
set_option maxRecDepth 100000 in
theorem walk_big1 (w : World) (L M : LayV) (x y : Kv) (rv : RdV w L x) (ry : RdV w M y) (hf : ¬ (L.kn ≤ 200 ∧ L.vn ≤ 2000)) :
    Calls Try.prog 5 #[vkv L x, vkv M y] w fun e w' => e = .returned (.bool true) ∧ Below w.heap.size w w' := by
  have HL := fun w => kept (lives_kv w)
  have G0 := kept (bag0 w L M x y rv ry)
  have B0 := kept (two_boxes w L M x y).2.2
  have HF1 := fun W r => kept (few_kv L x W r false (by rw [Bool.eq_false_iff]; intro h; simp at h; exact hf h))
  clear rv ry hf
  obtain ⟨a0, a1, a2, a3, a4, a5⟩ := G0.out.s1.cells
  obtain ⟨b0, b1, b2, b3, b4, b5⟩ := G0.out.s2.cells
  unfold boxV at a0 a1 a2 a3 a4 a5
  go_enter Try.func5, Try.ntmps5
  go_wp2_with fail
  clear a0 a1 a2 a3 a4 a5
  clear b0 b1 b2 b3 b4 b5
  with_reducible refine ((HL _).out).mono ?_
  rintro e w1 ⟨rfl, hb⟩
  have G1 := kept (G0.out.below hb)
  have B1 := kept (bel_to hb B0.out)
  clear hb
  obtain ⟨a0, a1, a2, a3, a4, a5⟩ := G1.out.s1.cells
  go_wp2_with fail
  clear a0 a1 a2 a3 a4 a5
  with_reducible refine ((HF1 _ G1.out.r1).out).mono ?_
  rintro e w2 ⟨rfl, hb⟩
  have G2 := kept (G1.out.below hb)
  have B2 := kept (bel_to hb B1.out)
  clear hb
  go_wp2_with fail
  with_reducible refine ((HL _).out).mono ?_
  rintro e w4 ⟨rfl, hb⟩
  have G4 := kept (G2.out.below hb)
  have B4 := kept (bel_to hb B2.out)
  clear hb
  go_wp2
  go_ret
  exact ⟨by first | rfl | simp, B4.out⟩
set_option maxRecDepth 100000 in
theorem walk_big2 (w : World) (L M : LayV) (x y : Kv) (rv : RdV w L x) (ry : RdV w M y) (hg : L.kn ≤ 200 ∧ L.vn ≤ 2000) (hf : ¬ (M.kn ≤ 200 ∧ M.vn ≤ 2000)) :
    Calls Try.prog 5 #[vkv L x, vkv M y] w fun e w' => e = .returned (.bool true) ∧ Below w.heap.size w w' := by
  have HL := fun w => kept (lives_kv w)
  have G0 := kept (bag0 w L M x y rv ry)
  have B0 := kept (two_boxes w L M x y).2.2
  have HF1 := fun W r => kept (few_kv L x W r true (by simp [hg]))
  have HF2 := fun W r => kept (few_kv M y W r false (by rw [Bool.eq_false_iff]; intro h; simp at h; exact hf h))
  clear rv ry hf hg
  obtain ⟨a0, a1, a2, a3, a4, a5⟩ := G0.out.s1.cells
  obtain ⟨b0, b1, b2, b3, b4, b5⟩ := G0.out.s2.cells
  unfold boxV at a0 a1 a2 a3 a4 a5
  go_enter Try.func5, Try.ntmps5
  go_wp2_with fail
  clear a0 a1 a2 a3 a4 a5
  clear b0 b1 b2 b3 b4 b5
  with_reducible refine ((HL _).out).mono ?_
  rintro e w1 ⟨rfl, hb⟩
  have G1 := kept (G0.out.below hb)
  have B1 := kept (bel_to hb B0.out)
  clear hb
  obtain ⟨a0, a1, a2, a3, a4, a5⟩ := G1.out.s1.cells
  go_wp2_with fail
  clear a0 a1 a2 a3 a4 a5
  with_reducible refine ((HF1 _ G1.out.r1).out).mono ?_
  rintro e w2 ⟨rfl, hb⟩
  have G2 := kept (G1.out.below hb)
  have B2 := kept (bel_to hb B1.out)
  clear hb
  obtain ⟨a0, a1, a2, a3, a4, a5⟩ := G2.out.s2.cells
  go_wp2_with fail
  clear a0 a1 a2 a3 a4 a5
  with_reducible refine ((HF2 _ G2.out.r2).out).mono ?_
  rintro e w3 ⟨rfl, hb⟩
  have G3 := kept (G2.out.below hb)
  have B3 := kept (bel_to hb B2.out)
  clear hb
  go_wp2_with fail
  with_reducible refine ((HL _).out).mono ?_
  rintro e w4 ⟨rfl, hb⟩
  have G4 := kept (G3.out.below hb)
  have B4 := kept (bel_to hb B3.out)
  clear hb
  go_wp2
  go_ret
  exact ⟨by first | rfl | simp, B4.out⟩
theorem walk (w : World) (L : LayV) (x : Kv) (rv : RdV w L x) (M : LayV) (y : Kv) (ry : RdV w M y) :
    Calls Try.prog 5 #[vkv L x, vkv M y] w fun e w' => e = .returned (.bool true) ∧ Below w.heap.size w w' := by
  by_cases hf : L.kn ≤ 200 ∧ L.vn ≤ 2000
  · by_cases hg : M.kn ≤ 200 ∧ M.vn ≤ 2000
    · cases ho : rightV x
      · cases hk : keyB L.kn
        · exact walk_nn w L M x y rv ry hf.1 hf.2 hg.1 hg.2 ho hk
        · exact walk_nk w L M x y rv ry hf.1 hf.2 hg.1 hg.2 ho hk
      · have hk : keyB L.kn = true := by
          have := (rightV_nat ho).choose_spec.choose_spec.choose_spec.choose_spec
          rw [← rv.key.1]
          simp [keyB]
          omega
        cases hy : rightV y
        · exact walk_rn w L M x y rv ry hf.1 hf.2 hg.1 hg.2 ho hk hy
        · by_cases he : x = y
          · exact walk_rr w L M x y rv ry hf.1 hf.2 hg.1 hg.2 ho hk hy true (by simp [he]) (by simp [he])
          · exact walk_rr w L M x y rv ry hf.1 hf.2 hg.1 hg.2 ho hk hy false (by simp; exact fun e => he (kvB_inj ho hy e)) (by simp [he])
    · exact walk_big2 w L M x y rv ry hf hg
  · exact walk_big1 w L M x y rv ry hf
end Go.Proofs.Ytcmjgkgdeaiifaa.recordBack
