/-
  The law RecordTwins walked: for any two records it returns true and writes nothing that was there.
-/
import Derived.Test.YtcmjgkgdeaiifaaNn
import Derived.Test.YtcmjgkgdeaiifaaNh
import Derived.OneCell
namespace Go.Proofs.Ytcmjgkgdeaiifaa.recordTwins
open Go.ChangeShapes Go.WideShapes Go.ChangeAt Go.RowKit
set_option linter.unusedVariables false
set_option linter.unusedSimpArgs false

theorem bits_byte3 (y : UInt8) : Value.int .u8 (Go.bits .xor .u8 (y.toNat : Int) 255) = byteV (y ^^^ 255) := by
  have := Go.u8_xor_nat y.toNat 255 y.toNat_lt (by decide)
  rw [show ((255 : Nat) : Int) = 255 from rfl] at this
  rw [this]
  unfold byteV
  rw [UInt8.toNat_xor]
  rfl
/-- One byte of a row of the call's own. -/
theorem own_poke {w : World} {base n c : Nat} {A : Option Addr} {xs : List UInt8} (h : w.ownsRow base 5 1 (.slice A n c) n (cellsOf xs)) {j : Nat} (hj : j < n) :
    ∃ (g : Nat) (hx : j < xs.length), A = some ⟨g, 0, none⟩ ∧ base ≤ g ∧ g < w.heap.size ∧ w.cell? ⟨g, j, none⟩ = some (.int .u8 (xs[j].toNat : Int)) ∧ w.frozen? ⟨g, j, none⟩ = false ∧ (∃ cs, Blk w g 5 cs) ∧ ∀ v : UInt8, (w.setCell ⟨g, j, none⟩ (byteV v)).ownsRow base 5 1 (.slice A n c) n (cellsOf (xs.set j v)) := by
  have hl : xs.length = n := by have := h.1; rw [cellsOf_length] at this; omega
  rcases h.2 with ⟨h0, _⟩ | ⟨g, cap, cur, hv, hbg, hg, hnc, hcm, hcs, htake⟩
  · simp at h0; omega
  · simp only [Value.slice.injEq, true_and] at hv
    obtain ⟨rfl, rfl⟩ := hv
    have hB : Blk w g 5 cur.toList := by simpa [Blk] using hg
    have hx : j < xs.length := by omega
    refine ⟨g, hx, rfl, hbg, hB.lt, ?_, hB.frozen j, ⟨_, hB⟩, fun v => ?_⟩
    · rw [hB.cell j]
      have h1 : (cellsOf xs)[j]? = some (byteV xs[j]) := cellsOf_get xs j hx
      rw [← htake, List.getElem?_take] at h1
      rw [if_pos (by omega)] at h1
      exact h1
    · have h2 := hB.set_ j (byteV v)
      refine ⟨by simp [cellsOf_length, hl], .inr ⟨g, c, (cur.toList.set j (byteV v)).toArray, rfl, hbg, by simpa [Blk] using h2, hnc, hcm, by simpa using hcs, ?_⟩⟩
      rw [show ((cur.toList.set j (byteV v)).toArray).toList = cur.toList.set j (byteV v) from rfl, List.take_set, htake]
      simp [cellsOf, List.map_set]
def flipTo (j : Nat) (xs : List UInt8) : List UInt8 := (xs.take j).map (· ^^^ 255) ++ xs.drop j
theorem flipTo_zero (xs : List UInt8) : flipTo 0 xs = xs := by simp [flipTo]
theorem flipTo_length (j : Nat) (xs : List UInt8) : (flipTo j xs).length = xs.length := by simp [flipTo]; omega
theorem flipTo_get (j : Nat) (xs : List UInt8) (h : j < xs.length) (h' : j < (flipTo j xs).length) : (flipTo j xs)[j] = xs[j] := by
  have e : (flipTo j xs)[j]? = xs[j]? := by
    unfold flipTo
    rw [List.getElem?_append_right (by simp; omega), List.getElem?_drop]
    congr 1
    simp
    omega
  rw [List.getElem?_eq_getElem h', List.getElem?_eq_getElem h] at e
  exact Option.some.inj e
theorem flipTo_step (j : Nat) (xs : List UInt8) (h : j < xs.length) : (flipTo j xs).set j (xs[j] ^^^ 255) = flipTo (j + 1) xs := by
  have hl : (List.map (· ^^^ 255) (xs.take j)).length = j := by simp; omega
  unfold flipTo
  rw [List.set_append_right _ _ (by omega), hl, Nat.sub_self, List.take_succ_eq_append_getElem h, List.drop_eq_getElem_cons h, List.set_cons_zero, List.map_append, List.append_assoc]
  rfl
theorem flip_ne (xs : List UInt8) (h : xs ≠ []) : xs ≠ flipTo xs.length xs := by
  cases xs with
  | nil => exact absurd rfl h
  | cons x l =>
    simp [flipTo]
    intro e _
    have h := congrArg (fun u => x ^^^ u) e
    rw [← UInt8.xor_assoc, UInt8.xor_self, UInt8.zero_xor] at h
    exact absurd h (by decide)
theorem measZ {j c : Nat} (h : j < c) (z : Int) (hw : z = (j : Int) + 1) : c - (intOf (.int .i64 z)).toNat < c - (intOf (.int .i64 (j : Int))).toNat := by
  subst hw
  simp [intOf]
  omega
theorem kv_eta (x : Kv) : (⟨flipTo 0 x.key, x.val, x.c, x.m, x.v, x.l⟩ : Kv) = x := by rw [flipTo_zero]
/-- Two records in their boxes, and a third of the call's own. -/
structure Tst (w0 w : World) (L M : LayV) (x y : Kv) (B k : Nat) (K : LayV) (z : Kv) : Prop where
  s1 : Six w w0.heap.size L x
  r1 : RdV w L x
  s2 : Six w (w0.heap.size + 1) M y
  r2 : RdV w M y
  s3 : Six w k K z
  own : OwV w B K z
  bel : Below w0.heap.size w0 w
  in1 : RdV w0 L x
  in2 : RdV w0 M y
  low : w0.heap.size + 2 ≤ B
section
variable {w0 w w' : World} {L M K : LayV} {x y z : Kv} {B k : Nat}
theorem Tst.below (h : Tst w0 w L M x y B k K z) (hb : Below w.heap.size w w') : Tst w0 w' L M x y B k K z :=
  ⟨h.s1.below hb, h.r1.below hb, h.s2.below hb, h.r2.below hb, h.s3.below hb, h.own.below hb, h.bel.trans (hb.mono h.bel.size), h.in1, h.in2, h.low⟩
theorem Blk.no_byte {g j : Nat} {cs ds : List Value} {t u : TypeId} (h : Blk w g t cs) (hj : Blk w j u ds) (hne : t ≠ u) : g ≠ j := by
  rintro rfl
  unfold Blk at h hj
  rw [h] at hj
  injection hj with hj
  injection hj with _ hj _
  exact hne hj
theorem Tst.poke_key (h : Tst w0 w L M x y B k K z) {j : Nat} (hj : j < K.kn) : ∃ (g : Nat) (hx : j < z.key.length), K.ka = some ⟨g, 0, none⟩ ∧ w.cell? ⟨g, j, none⟩ = some (.int .u8 (z.key[j].toNat : Int)) ∧ w.frozen? ⟨g, j, none⟩ = false ∧ ∀ v : UInt8, Tst w0 (w.setCell ⟨g, j, none⟩ (byteV v)) L M x y B k K ⟨z.key.set j v, z.val, z.c, z.m, z.v, z.l⟩ := by
  obtain ⟨B2, hB, o1, o2, hk, b1, b2⟩ := h.own
  obtain ⟨g, hx, e, hgb, hgl, hc, hf, ⟨cs, hb8⟩, hw⟩ := own_poke o1 hj
  have hlow := h.low
  refine ⟨g, hx, e, hc, hf, fun v => ?_⟩
  have hbel := h.bel.setCell (p := ⟨g, j, none⟩) (show w0.heap.size ≤ g by omega) (byteV v)
  refine ⟨Blk.far h.s1 (show w0.heap.size ≠ g by omega) _, h.in1.below hbel, Blk.far h.s2 (show w0.heap.size + 1 ≠ g by omega) _, h.in2.below hbel, Blk.far h.s3 (Blk.no_byte h.s3 hb8 (by decide)) _, ⟨B2, hB, hw v, ownsRow_setCell_below o2 (a := ⟨g, j, none⟩) (hk g (by rw [e]; rfl)) _, hk, b1, b2⟩, hbel, h.in1, h.in2, h.low⟩
theorem Tst.poke_val (h : Tst w0 w L M x y B k K z) {j : Nat} (hj : j < K.vn) : ∃ (g : Nat) (hx : j < z.val.length), K.va = some ⟨g, 0, none⟩ ∧ w.cell? ⟨g, j, none⟩ = some (.int .u8 (z.val[j].toNat : Int)) ∧ w.frozen? ⟨g, j, none⟩ = false ∧ ∀ v : UInt8, Tst w0 (w.setCell ⟨g, j, none⟩ (byteV v)) L M x y B k K ⟨z.key, z.val.set j v, z.c, z.m, z.v, z.l⟩ := by
  obtain ⟨B2, hB, o1, o2, hk, b1, b2⟩ := h.own
  obtain ⟨g, hx, e, hgb, hgl, hc, hf, ⟨cs, hb8⟩, hw⟩ := own_poke o2 hj
  have hlow := h.low
  refine ⟨g, hx, e, hc, hf, fun v => ?_⟩
  have hbel := h.bel.setCell (p := ⟨g, j, none⟩) (show w0.heap.size ≤ g by omega) (byteV v)
  refine ⟨Blk.far h.s1 (show w0.heap.size ≠ g by omega) _, h.in1.below hbel, Blk.far h.s2 (show w0.heap.size + 1 ≠ g by omega) _, h.in2.below hbel, Blk.far h.s3 (Blk.no_byte h.s3 hb8 (by decide)) _, ⟨B2, hB, ownsRow_setCell_other o1 (a := ⟨g, j, none⟩) (fun e' => by have := hk g e'; omega) _, hw v, hk, b1, b2⟩, hbel, h.in1, h.in2, h.low⟩
end
theorem cells18 {w w' : World} {g h k : Nat} {a b c d e f a1 b1 c1 d1 e1 f1 a2 b2 c2 d2 e2 f2 : Value}
    (q : (w.cell? ⟨g, 0, none⟩ = some a ∧ w.cell? ⟨g, 1, none⟩ = some b ∧ w.cell? ⟨g, 2, none⟩ = some c ∧ w.cell? ⟨g, 3, none⟩ = some d ∧ w.cell? ⟨g, 4, none⟩ = some e ∧ w.cell? ⟨g, 5, none⟩ = some f) ∧ (w.cell? ⟨h, 0, none⟩ = some a1 ∧ w.cell? ⟨h, 1, none⟩ = some b1 ∧ w.cell? ⟨h, 2, none⟩ = some c1 ∧ w.cell? ⟨h, 3, none⟩ = some d1 ∧ w.cell? ⟨h, 4, none⟩ = some e1 ∧ w.cell? ⟨h, 5, none⟩ = some f1) ∧ (w.cell? ⟨k, 0, none⟩ = some a2 ∧ w.cell? ⟨k, 1, none⟩ = some b2 ∧ w.cell? ⟨k, 2, none⟩ = some c2 ∧ w.cell? ⟨k, 3, none⟩ = some d2 ∧ w.cell? ⟨k, 4, none⟩ = some e2 ∧ w.cell? ⟨k, 5, none⟩ = some f2)) (hk : Keeps w w') :
    (w'.cell? ⟨g, 0, none⟩ = some a ∧ w'.cell? ⟨g, 1, none⟩ = some b ∧ w'.cell? ⟨g, 2, none⟩ = some c ∧ w'.cell? ⟨g, 3, none⟩ = some d ∧ w'.cell? ⟨g, 4, none⟩ = some e ∧ w'.cell? ⟨g, 5, none⟩ = some f) ∧ (w'.cell? ⟨h, 0, none⟩ = some a1 ∧ w'.cell? ⟨h, 1, none⟩ = some b1 ∧ w'.cell? ⟨h, 2, none⟩ = some c1 ∧ w'.cell? ⟨h, 3, none⟩ = some d1 ∧ w'.cell? ⟨h, 4, none⟩ = some e1 ∧ w'.cell? ⟨h, 5, none⟩ = some f1) ∧ (w'.cell? ⟨k, 0, none⟩ = some a2 ∧ w'.cell? ⟨k, 1, none⟩ = some b2 ∧ w'.cell? ⟨k, 2, none⟩ = some c2 ∧ w'.cell? ⟨k, 3, none⟩ = some d2 ∧ w'.cell? ⟨k, 4, none⟩ = some e2 ∧ w'.cell? ⟨k, 5, none⟩ = some f2) :=
  ⟨six_keeps q.1 hk, six_keeps q.2.1 hk, six_keeps q.2.2 hk⟩
set_option maxRecDepth 100000 in
set_option maxHeartbeats 4000000 in
theorem walk_few (w : World) (L M : LayV) (x y : Kv) (rv : RdV w L x) (ry : RdV w M y) (hf1 : L.kn ≤ 200) (hf2 : L.vn ≤ 2000) (hf3 : M.kn ≤ 200) (hf4 : M.vn ≤ 2000) (bb : Bool) (hq : decide (x = y) = bb) :
    Calls Try.prog 6 #[vkv L x, vkv M y] w fun e w' => e = .returned (.bool true) ∧ Below w.heap.size w w' := by
  have HL := fun w => kept (lives_kv w)
  have HF1 := fun W r => kept (few_kv L x W r true (by simp [hf1, hf2]))
  have HF2 := fun W r => kept (few_kv M y W r true (by simp [hf3, hf4]))
  have HTW := fun W r => kept (twin_kv L x W r)
  have HQ1 := fun W r r' => kept (refSame_kv L M x y W bb hq r r')
  have HQ2 := fun W r r' => kept (same_kv L M x y W bb hq r r')
  have HIN := kept (And.intro rv ry)
  have HKL := kept (show x.key.length = L.kn from rv.key.1)
  have HVL := kept (show x.val.length = L.vn from rv.val.1)
  have HFEW := kept (And.intro hf1 hf2)
  obtain ⟨t1, t2, hbb⟩ := two_boxes w L M x y
  have G0 := kept (And.intro t1 (And.intro t2 (And.intro (rv.below hbb) (ry.below hbb))))
  have B0 := kept hbb
  clear rv ry hf1 hf2 hf3 hf4 t1 t2 hbb hq
  obtain ⟨a0, a1, a2, a3, a4, a5⟩ := G0.out.1.cells
  obtain ⟨b0, b1, b2, b3, b4, b5⟩ := G0.out.2.1.cells
  unfold boxV at a0 a1 a2 a3 a4 a5
  go_enter Try.func6, Try.ntmps6
  go_wp2_with fail
  clear a0 a1 a2 a3 a4 a5
  clear b0 b1 b2 b3 b4 b5
  with_reducible refine ((HL _).out).mono ?_
  rintro e w1 ⟨rfl, hb⟩
  have G1 := kept (And.intro (G0.out.1.below hb) (And.intro (G0.out.2.1.below hb) (And.intro (G0.out.2.2.1.below hb) (G0.out.2.2.2.below hb))))
  have B1 := kept (bel_to hb B0.out)
  clear hb
  obtain ⟨a0, a1, a2, a3, a4, a5⟩ := G1.out.1.cells
  go_wp2_with fail
  clear a0 a1 a2 a3 a4 a5
  with_reducible refine ((HF1 _ G1.out.2.2.1).out).mono ?_
  rintro e w2 ⟨rfl, hb⟩
  have G2 := kept (And.intro (G1.out.1.below hb) (And.intro (G1.out.2.1.below hb) (And.intro (G1.out.2.2.1.below hb) (G1.out.2.2.2.below hb))))
  have B2 := kept (bel_to hb B1.out)
  clear hb
  obtain ⟨a0, a1, a2, a3, a4, a5⟩ := G2.out.2.1.cells
  go_wp2_with fail
  clear a0 a1 a2 a3 a4 a5
  with_reducible refine ((HF2 _ G2.out.2.2.2).out).mono ?_
  rintro e w3 ⟨rfl, hb⟩
  have G3 := kept (And.intro (G2.out.1.below hb) (And.intro (G2.out.2.1.below hb) (And.intro (G2.out.2.2.1.below hb) (G2.out.2.2.2.below hb))))
  have B3 := kept (bel_to hb B2.out)
  clear hb
  obtain ⟨a0, a1, a2, a3, a4, a5⟩ := G3.out.1.cells
  go_wp2_with fail
  clear a0 a1 a2 a3 a4 a5
  with_reducible refine (HTW _ G3.out.2.2.1).out.mono ?_
  rintro e w4 ⟨V, rfl, how, hb⟩
  have hlow : w.heap.size + 2 ≤ w3.heap.size := by have := G3.out.2.1.lt; omega
  have HT : Hid (Tst w (boxV w4 V x) L M x y w3.heap.size w4.heap.size V x) := kept ⟨(G3.out.1.below hb).below (boxV_below w4 V x), (G3.out.2.2.1.below hb).below (boxV_below w4 V x), (G3.out.2.1.below hb).below (boxV_below w4 V x), (G3.out.2.2.2.below hb).below (boxV_below w4 V x), Six.new w4 V x, how.below (boxV_below w4 V x), bel_to (boxV_below w4 V x) (bel_to hb B3.out), HIN.out.1, HIN.out.2, hlow⟩
  have HKK : Hid (V.kn = L.kn ∧ V.vn = L.vn) := kept ⟨by rw [← HKL.out]; exact how.rd.key.1.symm, by rw [← HVL.out]; exact how.rd.val.1.symm⟩
  have HSX := And.intro HT.out.s1.cells (And.intro HT.out.s2.cells HT.out.s3.cells)
  have HS := kept HSX
  obtain ⟨B, hB⟩ : ∃ B, w3.heap.size = B := ⟨_, rfl⟩
  obtain ⟨k, hk⟩ : ∃ k, w4.heap.size = k := ⟨_, rfl⟩
  rw [hB, hk] at HT
  rw [hk] at HS
  clear hb how hlow G0 G1 G2 G3 B0 B1 B2 B3 HSX hB
  go_wp2_with fail
  try rw [hk]
  obtain ⟨WW, hWW⟩ : ∃ WW, WW = boxV w4 V x := ⟨_, rfl⟩
  rw [← hWW] at HT HS
  unfold boxV at hWW
  rw [← hWW]
  clear hWW hk
  refine wp_region_held_drew (S := (fun W' => (W'.cell? ⟨w.heap.size, 0, none⟩ = some (.slice L.ka L.kn L.kc) ∧ W'.cell? ⟨w.heap.size, 1, none⟩ = some (.slice L.va L.vn L.vc) ∧ W'.cell? ⟨w.heap.size, 2, none⟩ = some (.int .i64 x.c) ∧ W'.cell? ⟨w.heap.size, 3, none⟩ = some (.int .i64 x.m) ∧ W'.cell? ⟨w.heap.size, 4, none⟩ = some (.int .i64 x.v) ∧ W'.cell? ⟨w.heap.size, 5, none⟩ = some (.int .i64 x.l)) ∧ (W'.cell? ⟨w.heap.size + 1, 0, none⟩ = some (.slice M.ka M.kn M.kc) ∧ W'.cell? ⟨w.heap.size + 1, 1, none⟩ = some (.slice M.va M.vn M.vc) ∧ W'.cell? ⟨w.heap.size + 1, 2, none⟩ = some (.int .i64 y.c) ∧ W'.cell? ⟨w.heap.size + 1, 3, none⟩ = some (.int .i64 y.m) ∧ W'.cell? ⟨w.heap.size + 1, 4, none⟩ = some (.int .i64 y.v) ∧ W'.cell? ⟨w.heap.size + 1, 5, none⟩ = some (.int .i64 y.l)) ∧ (W'.cell? ⟨k, 0, none⟩ = some (.slice V.ka V.kn V.kc) ∧ W'.cell? ⟨k, 1, none⟩ = some (.slice V.va V.vn V.vc) ∧ W'.cell? ⟨k, 2, none⟩ = some (.int .i64 x.c) ∧ W'.cell? ⟨k, 3, none⟩ = some (.int .i64 x.m) ∧ W'.cell? ⟨k, 4, none⟩ = some (.int .i64 x.v) ∧ W'.cell? ⟨k, 5, none⟩ = some (.int .i64 x.l)))) (by kernel_rfl) ?_ (fun hHeld => ?_)
  · ((try dsimp only); (first | with_reducible exact HS.out | exact cells18 HS.out (Keeps.drew _)))
  (replace HT := kept (HT.out.below (Below.refl _ _).drew); replace HS := kept (cells18 HS.out (Keeps.drew _)); generalize WW.drew = W0 at HT HS hHeld ⊢)
  refine hand_take 0 (some 23) ?_ (by kernel_rfl) (by kernel_rfl) (by kernel_rfl) (by kernel_rfl) (by kernel_rfl) (fun _ _ _ h => h) ?_ (by assumption) ?_
  rotate_left
  · (intro o ho w hSw; (simp only [List.getElem?_toArray, List.getElem?_cons_succ, List.getElem?_cons_zero, Option.some.injEq] at ho); subst ho; (try dsimp only at hSw); go_simp; (first | done | with_reducible rfl))
  (try simp only [Act.put, List.setIfInBounds_toArray, List.set_cons_zero, List.set_cons_succ])
  refine hand_take 1 (some 24) ?_ (by kernel_rfl) (by kernel_rfl) (by kernel_rfl) (by kernel_rfl) (by kernel_rfl) (fun _ _ _ h => h) ?_ (by assumption) ?_
  rotate_left
  · (intro o ho w hSw; (simp only [List.getElem?_toArray, List.getElem?_cons_succ, List.getElem?_cons_zero, Option.some.injEq] at ho); subst ho; (try dsimp only at hSw); go_simp; (first | done | with_reducible rfl))
  (try simp only [Act.put, List.setIfInBounds_toArray, List.set_cons_zero, List.set_cons_succ])
  refine hand_ready 2 (by kernel_rfl) (by kernel_rfl) (fun o ho K hK => ?_)
  (simp only [List.getElem?_toArray, List.getElem?_cons_succ, List.getElem?_cons_zero, Option.some.injEq] at ho)
  subst ho
  go_simp
  (go_at_call 14; (with_reducible refine (refSame_kv L V x x _ true (by simp) HT.out.r1 HT.out.own.rd).mono ?_); rintro e W1 ⟨rfl, hb⟩; have hk := Keeps.of_below hb; have HS := kept (cells18 HS.out hk); have HT := kept (HT.out.below hb); clear hb hk)
  (try go_wp2_with fail)
  refine hK.out _ _ ?_ (fun hHeld => ?_)
  · ((try dsimp only); (first | with_reducible exact HS.out | exact cells18 HS.out (Keeps.drew _)))
  clear hK K
  (try simp only [Act.put, List.setIfInBounds_toArray, List.set_cons_zero, List.set_cons_succ])
  refine hand_take 3 (some 26) ?_ (by kernel_rfl) (by kernel_rfl) (by kernel_rfl) (by kernel_rfl) (by kernel_rfl) (fun _ _ _ h => h) ?_ (by assumption) ?_
  rotate_left
  · (intro o ho w hSw; (simp only [List.getElem?_toArray, List.getElem?_cons_succ, List.getElem?_cons_zero, Option.some.injEq] at ho); subst ho; (try dsimp only at hSw); go_simp; (first | done | with_reducible rfl))
  (try simp only [Act.put, List.setIfInBounds_toArray, List.set_cons_zero, List.set_cons_succ])
  refine hand_take 4 (some 27) ?_ (by kernel_rfl) (by kernel_rfl) (by kernel_rfl) (by kernel_rfl) (by kernel_rfl) (fun _ _ _ h => h) ?_ (by assumption) ?_
  rotate_left
  · (intro o ho w hSw; (simp only [List.getElem?_toArray, List.getElem?_cons_succ, List.getElem?_cons_zero, Option.some.injEq] at ho); subst ho; (try dsimp only at hSw); go_simp; (first | done | with_reducible rfl))
  (try simp only [Act.put, List.setIfInBounds_toArray, List.set_cons_zero, List.set_cons_succ])
  refine hand_take 5 (some 28) ?_ (by kernel_rfl) (by kernel_rfl) (by kernel_rfl) (by kernel_rfl) (by kernel_rfl) (fun _ _ _ h => h) ?_ (by assumption) ?_
  rotate_left
  · (intro o ho w hSw; (simp only [List.getElem?_toArray, List.getElem?_cons_succ, List.getElem?_cons_zero, Option.some.injEq] at ho); subst ho; (try dsimp only at hSw); go_simp; (first | done | with_reducible rfl))
  (try simp only [Act.put, List.setIfInBounds_toArray, List.set_cons_zero, List.set_cons_succ])
  refine hand_take 6 (some 29) ?_ (by kernel_rfl) (by kernel_rfl) (by kernel_rfl) (by kernel_rfl) (by kernel_rfl) (fun _ _ _ h => h) ?_ (by assumption) ?_
  rotate_left
  · (intro o ho w hSw; (simp only [List.getElem?_toArray, List.getElem?_cons_succ, List.getElem?_cons_zero, Option.some.injEq] at ho); subst ho; (try dsimp only at hSw); go_simp; (first | done | with_reducible rfl))
  (try simp only [Act.put, List.setIfInBounds_toArray, List.set_cons_zero, List.set_cons_succ])
  refine hand_take 8 (some 31) ?_ (by kernel_rfl) (by kernel_rfl) (by kernel_rfl) (by kernel_rfl) (by kernel_rfl) (fun _ _ _ h => h) ?_ (by assumption) ?_
  rotate_left
  · (intro o ho w hSw; (simp only [List.getElem?_toArray, List.getElem?_cons_succ, List.getElem?_cons_zero, Option.some.injEq] at ho); subst ho; (try dsimp only at hSw); go_simp; (first | done | with_reducible rfl))
  (try simp only [Act.put, List.setIfInBounds_toArray, List.set_cons_zero, List.set_cons_succ])
  refine hand_take 9 (some 32) ?_ (by kernel_rfl) (by kernel_rfl) (by kernel_rfl) (by kernel_rfl) (by kernel_rfl) (fun _ _ _ h => h) ?_ (by assumption) ?_
  rotate_left
  · (intro o ho w hSw; (simp only [List.getElem?_toArray, List.getElem?_cons_succ, List.getElem?_cons_zero, Option.some.injEq] at ho); subst ho; (try dsimp only at hSw); go_simp; (first | done | with_reducible rfl))
  (try simp only [Act.put, List.setIfInBounds_toArray, List.set_cons_zero, List.set_cons_succ])
  refine hand_ready 7 (by kernel_rfl) (by kernel_rfl) (fun o ho K hK => ?_)
  (simp only [List.getElem?_toArray, List.getElem?_cons_succ, List.getElem?_cons_zero, Option.some.injEq] at ho)
  subst ho
  go_simp
  (go_at_call 21; (with_reducible refine ((HQ2 _ HT.out.r1 HT.out.r2).out).mono ?_); rintro e W1 ⟨rfl, hb⟩; have hk := Keeps.of_below hb; have HS := kept (cells18 HS.out hk); have HT := kept (HT.out.below hb); clear hb hk)
  (try go_wp2_with fail)
  refine hK.out _ _ ?_ (fun hHeld => ?_)
  · ((try dsimp only); (first | with_reducible exact HS.out | exact cells18 HS.out (Keeps.drew _)))
  clear hK K
  (try simp only [Act.put, List.setIfInBounds_toArray, List.set_cons_zero, List.set_cons_succ])
  refine hand_ready 10 (by kernel_rfl) (by kernel_rfl) (fun o ho K hK => ?_)
  (simp only [List.getElem?_toArray, List.getElem?_cons_succ, List.getElem?_cons_zero, Option.some.injEq] at ho)
  subst ho
  go_simp
  (go_at_call 14; (with_reducible refine ((HQ1 _ HT.out.r1 HT.out.r2).out).mono ?_); rintro e W1 ⟨rfl, hb⟩; have hk := Keeps.of_below hb; have HS := kept (cells18 HS.out hk); have HT := kept (HT.out.below hb); clear hb hk)
  (try go_wp2_with fail)
  refine hK.out _ _ ?_ (fun hHeld => ?_)
  · ((try dsimp only); (first | with_reducible exact HS.out | exact cells18 HS.out (Keeps.drew _)))
  clear hK K
  (try simp only [Act.put, List.setIfInBounds_toArray, List.set_cons_zero, List.set_cons_succ])
  refine hand_take 11 (some 34) ?_ (by kernel_rfl) (by kernel_rfl) (by kernel_rfl) (by kernel_rfl) (by kernel_rfl) (fun _ _ _ h => h) ?_ (by assumption) ?_
  rotate_left
  · (intro o ho w hSw; (simp only [List.getElem?_toArray, List.getElem?_cons_succ, List.getElem?_cons_zero, Option.some.injEq] at ho); subst ho; (try dsimp only at hSw); go_simp; (first | done | with_reducible rfl))
  (try simp only [Act.put, List.setIfInBounds_toArray, List.set_cons_zero, List.set_cons_succ])
  refine hand_take 12 (some 35) ?_ (by kernel_rfl) (by kernel_rfl) (by kernel_rfl) (by kernel_rfl) (by kernel_rfl) (fun _ _ _ h => h) ?_ (by assumption) ?_
  rotate_left
  · (intro o ho w hSw; (simp only [List.getElem?_toArray, List.getElem?_cons_succ, List.getElem?_cons_zero, Option.some.injEq] at ho); subst ho; (try dsimp only at hSw); go_simp; (first | done | with_reducible rfl))
  (try simp only [Act.put, List.setIfInBounds_toArray, List.set_cons_zero, List.set_cons_succ])
  refine wpAnyH_done (by kernel_rfl) ?_ _
  clear hHeld HS
  obtain ⟨ka, kn, kc, va, vn, vc⟩ := V
  have hkk := HKK.out
  dsimp only at hkk
  obtain ⟨hk1, hk2⟩ := hkk
  have HBN : Hid (kn ≤ 200 ∧ vn ≤ 2000 ∧ x.key.length = kn ∧ x.val.length = vn) := kept ⟨by rw [hk1]; exact HFEW.out.1, by rw [hk2]; exact HFEW.out.2, by rw [hk1]; exact HKL.out, by rw [hk2]; exact HVL.out⟩
  have HLN : Hid (L.kn = x.key.length ∧ L.vn = x.val.length ∧ L.kn ≤ 200 ∧ L.vn ≤ 2000) := kept ⟨HKL.out.symm, HVL.out.symm, HFEW.out.1, HFEW.out.2⟩
  clear hk1 hk2 HKK HKL HVL HFEW
  have a0 : W1.cell? ⟨k, 0, none⟩ = some (.slice ka kn kc) := Blk.cell HT.out.s3 0
  go_wp2
  clear a0
  go_loopw [39] (fun i wr => ∃ (j : Nat), j ≤ kn ∧ i = .int .i64 (j : Int) ∧ Hid (Tst w wr L M x y B k ⟨ka, kn, kc, va, vn, vc⟩ ⟨flipTo j x.key, x.val, x.c, x.m, x.v, x.l⟩)) (fun i _ => kn - (intOf i).toNat)
  case atStart => exact ⟨0, Nat.zero_le _, rfl, by rw [kv_eta]; exact HT⟩
  case round =>
    obtain ⟨j, hj, rfl, HI⟩ := hrel
    have hj0 : (0 : Int) ≤ (j : Int) := by omega
    have c0 : wr.cell? ⟨k, 0, none⟩ = some (.slice ka kn kc) := Blk.cell HI.out.s3 0
    by_cases hjn : j < kn
    · obtain ⟨g, hx, hB, cz0, fz, hpk⟩ := HI.out.poke_key hjn
      dsimp only at hx hB
      subst hB
      have hxx : j < x.key.length := by rw [flipTo_length] at hx; exact hx
      have hjn' : (j : Int) < (kn : Int) := by omega
      have hbn := HBN.out
      have hwj : wrap64 ((j : Int) + 1) = (j : Int) + 1 := IntWalk.wrap64_in _ ⟨by omega, by omega⟩
      have HJN := kept hjn
      have HWJ := kept hwj
      have cz : wr.cell? ⟨g, j, none⟩ = some (.int .u8 ((x.key[j]).toNat : Int)) := by rw [← flipTo_get j x.key hxx hx]; exact cz0
      have HBY := kept (bits_byte3 x.key[j])
      have HPK : Hid (Tst w (wr.setCell ⟨g, j, none⟩ (byteV (x.key[j] ^^^ 255))) L M x y B k ⟨some ⟨g, 0, none⟩, kn, kc, va, vn, vc⟩ ⟨flipTo (j + 1) x.key, x.val, x.c, x.m, x.v, x.l⟩) := kept (by have := hpk (x.key[j] ^^^ 255); dsimp only at this; rw [flipTo_step j _ hxx] at this; exact this)
      generalize x.key[j] = u at cz HBY HPK
      clear hpk hjn cz0 hx hxx hbn
      go_wp2
      go_roundw
      case rel => exact ⟨j + 1, HJN.out, by first | rfl | (rw [HWJ.out]; rfl), by rw [HBY.out]; exact HPK⟩
      case measure => first | exact measZ HJN.out _ HWJ.out | exact measZ HJN.out _ rfl
    · obtain rfl : kn = j := by omega
      have hjn' : ¬ (kn : Int) < (kn : Int) := by omega
      have HT := HI
      clear HI c0 hjn hjn' hj hj0
      have a1 : wr.cell? ⟨k, 1, none⟩ = some (.slice va vn vc) := Blk.cell HT.out.s3 1
      go_wp2
      clear a1
      go_loopw [53] (fun i wr => ∃ (j : Nat), j ≤ vn ∧ i = .int .i64 (j : Int) ∧ Hid (Tst w wr L M x y B k ⟨ka, kn, kc, va, vn, vc⟩ ⟨flipTo kn x.key, flipTo j x.val, x.c, x.m, x.v, x.l⟩)) (fun i _ => vn - (intOf i).toNat)
      case atStart => exact ⟨0, Nat.zero_le _, rfl, by rw [flipTo_zero]; exact HT⟩
      case round =>
        obtain ⟨j, hj, rfl, HI⟩ := hrel
        have hj0 : (0 : Int) ≤ (j : Int) := by omega
        have c0 : wr.cell? ⟨k, 1, none⟩ = some (.slice va vn vc) := Blk.cell HI.out.s3 1
        by_cases hjn : j < vn
        · obtain ⟨g, hx, hB, cz0, fz, hpk⟩ := HI.out.poke_val hjn
          dsimp only at hx hB
          subst hB
          have hxx : j < x.val.length := by rw [flipTo_length] at hx; exact hx
          have hjn' : (j : Int) < (vn : Int) := by omega
          have hbn := HBN.out
          have hwj : wrap64 ((j : Int) + 1) = (j : Int) + 1 := IntWalk.wrap64_in _ ⟨by omega, by omega⟩
          have HJN := kept hjn
          have HWJ := kept hwj
          have cz : wr.cell? ⟨g, j, none⟩ = some (.int .u8 ((x.val[j]).toNat : Int)) := by rw [← flipTo_get j x.val hxx hx]; exact cz0
          have HBY := kept (bits_byte3 x.val[j])
          have HPK : Hid (Tst w (wr.setCell ⟨g, j, none⟩ (byteV (x.val[j] ^^^ 255))) L M x y B k ⟨ka, kn, kc, some ⟨g, 0, none⟩, vn, vc⟩ ⟨flipTo kn x.key, flipTo (j + 1) x.val, x.c, x.m, x.v, x.l⟩) := kept (by have := hpk (x.val[j] ^^^ 255); dsimp only at this; rw [flipTo_step j _ hxx] at this; exact this)
          generalize x.val[j] = u at cz HBY HPK
          clear hpk hjn cz0 hx hxx hbn
          go_wp2
          go_roundw
          case rel => exact ⟨j + 1, HJN.out, by first | rfl | (rw [HWJ.out]; rfl), by rw [HBY.out]; exact HPK⟩
          case measure => first | exact measZ HJN.out _ HWJ.out | exact measZ HJN.out _ rfl
        · obtain rfl : vn = j := by omega
          have hjn' : ¬ (vn : Int) < (vn : Int) := by omega
          have HT := HI
          clear HI c0 hjn hjn' hj hj0
          have hS : (wr.cell? ⟨w.heap.size, 0, none⟩ = some (.slice L.ka L.kn L.kc) ∧ wr.cell? ⟨w.heap.size, 1, none⟩ = some (.slice L.va L.vn L.vc) ∧ wr.cell? ⟨w.heap.size, 2, none⟩ = some (.int .i64 x.c) ∧ wr.cell? ⟨w.heap.size, 3, none⟩ = some (.int .i64 x.m) ∧ wr.cell? ⟨w.heap.size, 4, none⟩ = some (.int .i64 x.v) ∧ wr.cell? ⟨w.heap.size, 5, none⟩ = some (.int .i64 x.l)) ∧ (wr.cell? ⟨w.heap.size + 1, 0, none⟩ = some (.slice M.ka M.kn M.kc) ∧ wr.cell? ⟨w.heap.size + 1, 1, none⟩ = some (.slice M.va M.vn M.vc) ∧ wr.cell? ⟨w.heap.size + 1, 2, none⟩ = some (.int .i64 y.c) ∧ wr.cell? ⟨w.heap.size + 1, 3, none⟩ = some (.int .i64 y.m) ∧ wr.cell? ⟨w.heap.size + 1, 4, none⟩ = some (.int .i64 y.v) ∧ wr.cell? ⟨w.heap.size + 1, 5, none⟩ = some (.int .i64 y.l)) ∧ (wr.cell? ⟨k, 0, none⟩ = some (.slice ka kn kc) ∧ wr.cell? ⟨k, 1, none⟩ = some (.slice va vn vc) ∧ wr.cell? ⟨k, 2, none⟩ = some (.int .i64 x.c) ∧ wr.cell? ⟨k, 3, none⟩ = some (.int .i64 x.m) ∧ wr.cell? ⟨k, 4, none⟩ = some (.int .i64 x.v) ∧ wr.cell? ⟨k, 5, none⟩ = some (.int .i64 x.l)) := ⟨HT.out.s1.cells, HT.out.s2.cells, HT.out.s3.cells⟩
          have HS := kept hS
          clear hS
          go_wp2_with fail
          by_cases htot : L.kn + L.vn = 0
          · have hz : (((L.kn : Int) + (L.vn : Int)) == 0) = true := by simp; omega
            have hl := HLN.out
            have hwk : IntKind.i64.wrap ((L.kn : Int) + (L.vn : Int)) = (L.kn : Int) + (L.vn : Int) := IntWalk.i64_in _ ⟨by omega, by omega⟩
            clear hl htot
            refine wp_region_held_drew (S := (fun W' => (W'.cell? ⟨w.heap.size, 0, none⟩ = some (.slice L.ka L.kn L.kc) ∧ W'.cell? ⟨w.heap.size, 1, none⟩ = some (.slice L.va L.vn L.vc) ∧ W'.cell? ⟨w.heap.size, 2, none⟩ = some (.int .i64 x.c) ∧ W'.cell? ⟨w.heap.size, 3, none⟩ = some (.int .i64 x.m) ∧ W'.cell? ⟨w.heap.size, 4, none⟩ = some (.int .i64 x.v) ∧ W'.cell? ⟨w.heap.size, 5, none⟩ = some (.int .i64 x.l)) ∧ (W'.cell? ⟨w.heap.size + 1, 0, none⟩ = some (.slice M.ka M.kn M.kc) ∧ W'.cell? ⟨w.heap.size + 1, 1, none⟩ = some (.slice M.va M.vn M.vc) ∧ W'.cell? ⟨w.heap.size + 1, 2, none⟩ = some (.int .i64 y.c) ∧ W'.cell? ⟨w.heap.size + 1, 3, none⟩ = some (.int .i64 y.m) ∧ W'.cell? ⟨w.heap.size + 1, 4, none⟩ = some (.int .i64 y.v) ∧ W'.cell? ⟨w.heap.size + 1, 5, none⟩ = some (.int .i64 y.l)) ∧ (W'.cell? ⟨k, 0, none⟩ = some (.slice ka kn kc) ∧ W'.cell? ⟨k, 1, none⟩ = some (.slice va vn vc) ∧ W'.cell? ⟨k, 2, none⟩ = some (.int .i64 x.c) ∧ W'.cell? ⟨k, 3, none⟩ = some (.int .i64 x.m) ∧ W'.cell? ⟨k, 4, none⟩ = some (.int .i64 x.v) ∧ W'.cell? ⟨k, 5, none⟩ = some (.int .i64 x.l)))) (by kernel_rfl) ?_ (fun hHeld => ?_)
            · ((try dsimp only); (first | with_reducible exact HS.out | exact cells18 HS.out (Keeps.drew _)))
            (replace HT := kept (HT.out.below (Below.refl _ _).drew); replace HS := kept (cells18 HS.out (Keeps.drew _)); generalize wr.drew = W0 at HT HS hHeld ⊢)
            refine hand_take 0 (some 64) ?_ (by kernel_rfl) (by kernel_rfl) (by kernel_rfl) (by kernel_rfl) (by kernel_rfl) (fun _ _ _ h => h) ?_ (by assumption) ?_
            rotate_left
            · (intro o ho w hSw; (simp only [List.getElem?_toArray, List.getElem?_cons_succ, List.getElem?_cons_zero, Option.some.injEq] at ho); subst ho; (try dsimp only at hSw); go_simp; (first | done | with_reducible rfl))
            (try simp only [Act.put, List.setIfInBounds_toArray, List.set_cons_zero, List.set_cons_succ])
            refine hand_take 1 (some 65) ?_ (by kernel_rfl) (by kernel_rfl) (by kernel_rfl) (by kernel_rfl) (by kernel_rfl) (fun _ _ _ h => h) ?_ (by assumption) ?_
            rotate_left
            · (intro o ho w hSw; (simp only [List.getElem?_toArray, List.getElem?_cons_succ, List.getElem?_cons_zero, Option.some.injEq] at ho); subst ho; (try dsimp only at hSw); go_simp; (first | done | with_reducible rfl))
            (try simp only [Act.put, List.setIfInBounds_toArray, List.set_cons_zero, List.set_cons_succ])
            refine hand_ready 2 (by kernel_rfl) (by kernel_rfl) (fun o ho K hK => ?_)
            (simp only [List.getElem?_toArray, List.getElem?_cons_succ, List.getElem?_cons_zero, Option.some.injEq] at ho)
            subst ho
            go_simp
            (go_at_call 22; (with_reducible refine (HTW _ HT.out.r1).out.mono ?_); rintro e W4 ⟨V2, rfl, how, hb⟩; have HR4 := kept how.rd; have hk := Keeps.of_below hb; have HS := kept (cells18 HS.out hk); have HT := kept (HT.out.below hb); clear hb hk how)
            (try go_wp2_with fail)
            refine hK.out _ _ ?_ (fun hHeld => ?_)
            · ((try dsimp only); (first | with_reducible exact HS.out | exact cells18 HS.out (Keeps.drew _)))
            clear hK K
            (try simp only [Act.put, List.setIfInBounds_toArray, List.set_cons_zero, List.set_cons_succ])
            refine hand_ready 3 (by kernel_rfl) (by kernel_rfl) (fun o ho K hK => ?_)
            (simp only [List.getElem?_toArray, List.getElem?_cons_succ, List.getElem?_cons_zero, Option.some.injEq] at ho)
            subst ho
            go_simp
            (go_at_call 14; (with_reducible refine (refSame_kv L V2 x x _ true (by simp) HT.out.r1 HR4.out).mono ?_); rintro e W5 ⟨rfl, hb⟩; have hk := Keeps.of_below hb; have HS := kept (cells18 HS.out hk); have HT := kept (HT.out.below hb); clear hb hk)
            (try go_wp2_with fail)
            refine hK.out _ _ ?_ (fun hHeld => ?_)
            · ((try dsimp only); (first | with_reducible exact HS.out | exact cells18 HS.out (Keeps.drew _)))
            clear hK K
            (try simp only [Act.put, List.setIfInBounds_toArray, List.set_cons_zero, List.set_cons_succ])
            refine hand_take 4 (some 68) ?_ (by kernel_rfl) (by kernel_rfl) (by kernel_rfl) (by kernel_rfl) (by kernel_rfl) (fun _ _ _ h => h) ?_ (by assumption) ?_
            rotate_left
            · (intro o ho w hSw; (simp only [List.getElem?_toArray, List.getElem?_cons_succ, List.getElem?_cons_zero, Option.some.injEq] at ho); subst ho; (try dsimp only at hSw); go_simp; (first | done | with_reducible rfl))
            (try simp only [Act.put, List.setIfInBounds_toArray, List.set_cons_zero, List.set_cons_succ])
            refine hand_take 5 (some 69) ?_ (by kernel_rfl) (by kernel_rfl) (by kernel_rfl) (by kernel_rfl) (by kernel_rfl) (fun _ _ _ h => h) ?_ (by assumption) ?_
            rotate_left
            · (intro o ho w hSw; (simp only [List.getElem?_toArray, List.getElem?_cons_succ, List.getElem?_cons_zero, Option.some.injEq] at ho); subst ho; (try dsimp only at hSw); go_simp; (first | done | with_reducible rfl))
            (try simp only [Act.put, List.setIfInBounds_toArray, List.set_cons_zero, List.set_cons_succ])
            refine hand_take 6 (some 70) ?_ (by kernel_rfl) (by kernel_rfl) (by kernel_rfl) (by kernel_rfl) (by kernel_rfl) (fun _ _ _ h => h) ?_ (by assumption) ?_
            rotate_left
            · (intro o ho w hSw; (simp only [List.getElem?_toArray, List.getElem?_cons_succ, List.getElem?_cons_zero, Option.some.injEq] at ho); subst ho; (try dsimp only at hSw); go_simp; (first | done | with_reducible rfl))
            (try simp only [Act.put, List.setIfInBounds_toArray, List.set_cons_zero, List.set_cons_succ])
            refine hand_take 7 (some 71) ?_ (by kernel_rfl) (by kernel_rfl) (by kernel_rfl) (by kernel_rfl) (by kernel_rfl) (fun _ _ _ h => h) ?_ (by assumption) ?_
            rotate_left
            · (intro o ho w hSw; (simp only [List.getElem?_toArray, List.getElem?_cons_succ, List.getElem?_cons_zero, Option.some.injEq] at ho); subst ho; (try dsimp only at hSw); go_simp; (first | done | with_reducible rfl))
            (try simp only [Act.put, List.setIfInBounds_toArray, List.set_cons_zero, List.set_cons_succ])
            refine hand_take 8 (some 72) ?_ (by kernel_rfl) (by kernel_rfl) (by kernel_rfl) (by kernel_rfl) (by kernel_rfl) (fun _ _ _ h => h) ?_ (by assumption) ?_
            rotate_left
            · (intro o ho w hSw; (simp only [List.getElem?_toArray, List.getElem?_cons_succ, List.getElem?_cons_zero, Option.some.injEq] at ho); subst ho; (try dsimp only at hSw); go_simp; (first | done | with_reducible rfl))
            (try simp only [Act.put, List.setIfInBounds_toArray, List.set_cons_zero, List.set_cons_succ])
            refine hand_take 9 (some 73) ?_ (by kernel_rfl) (by kernel_rfl) (by kernel_rfl) (by kernel_rfl) (by kernel_rfl) (fun _ _ _ h => h) ?_ (by assumption) ?_
            rotate_left
            · (intro o ho w hSw; (simp only [List.getElem?_toArray, List.getElem?_cons_succ, List.getElem?_cons_zero, Option.some.injEq] at ho); subst ho; (try dsimp only at hSw); go_simp; (first | done | with_reducible rfl))
            (try simp only [Act.put, List.setIfInBounds_toArray, List.set_cons_zero, List.set_cons_succ])
            refine hand_take 10 (some 74) ?_ (by kernel_rfl) (by kernel_rfl) (by kernel_rfl) (by kernel_rfl) (by kernel_rfl) (fun _ _ _ h => h) ?_ (by assumption) ?_
            rotate_left
            · (intro o ho w hSw; (simp only [List.getElem?_toArray, List.getElem?_cons_succ, List.getElem?_cons_zero, Option.some.injEq] at ho); subst ho; (try dsimp only at hSw); go_simp; (first | done | with_reducible rfl))
            (try simp only [Act.put, List.setIfInBounds_toArray, List.set_cons_zero, List.set_cons_succ])
            refine hand_take 11 (some 75) ?_ (by kernel_rfl) (by kernel_rfl) (by kernel_rfl) (by kernel_rfl) (by kernel_rfl) (fun _ _ _ h => h) ?_ (by assumption) ?_
            rotate_left
            · (intro o ho w hSw; (simp only [List.getElem?_toArray, List.getElem?_cons_succ, List.getElem?_cons_zero, Option.some.injEq] at ho); subst ho; (try dsimp only at hSw); go_simp; (first | done | with_reducible rfl))
            (try simp only [Act.put, List.setIfInBounds_toArray, List.set_cons_zero, List.set_cons_succ])
            refine hand_take 12 (some 76) ?_ (by kernel_rfl) (by kernel_rfl) (by kernel_rfl) (by kernel_rfl) (by kernel_rfl) (fun _ _ _ h => h) ?_ (by assumption) ?_
            rotate_left
            · (intro o ho w hSw; (simp only [List.getElem?_toArray, List.getElem?_cons_succ, List.getElem?_cons_zero, Option.some.injEq] at ho); subst ho; (try dsimp only at hSw); go_simp; (first | done | with_reducible rfl))
            (try simp only [Act.put, List.setIfInBounds_toArray, List.set_cons_zero, List.set_cons_succ])
            refine hand_take 13 (some 77) ?_ (by kernel_rfl) (by kernel_rfl) (by kernel_rfl) (by kernel_rfl) (by kernel_rfl) (fun _ _ _ h => h) ?_ (by assumption) ?_
            rotate_left
            · (intro o ho w hSw; (simp only [List.getElem?_toArray, List.getElem?_cons_succ, List.getElem?_cons_zero, Option.some.injEq] at ho); subst ho; (try dsimp only at hSw); go_simp; (first | done | with_reducible rfl))
            (try simp only [Act.put, List.setIfInBounds_toArray, List.set_cons_zero, List.set_cons_succ])
            refine hand_skip 14 (some 78) (by kernel_rfl) (by kernel_rfl) (by kernel_rfl) (by kernel_rfl) (by kernel_rfl) (fun _ _ _ h => h) (by assumption) ?_
            (try simp only [Act.put, List.setIfInBounds_toArray, List.set_cons_zero, List.set_cons_succ])
            refine hand_skip 15 (some 79) (by kernel_rfl) (by kernel_rfl) (by kernel_rfl) (by kernel_rfl) (by kernel_rfl) (fun _ _ _ h => h) (by assumption) ?_
            (try simp only [Act.put, List.setIfInBounds_toArray, List.set_cons_zero, List.set_cons_succ])
            refine hand_skip 16 (some 80) (by kernel_rfl) (by kernel_rfl) (by kernel_rfl) (by kernel_rfl) (by kernel_rfl) (fun _ _ _ h => h) (by assumption) ?_
            (try simp only [Act.put, List.setIfInBounds_toArray, List.set_cons_zero, List.set_cons_succ])
            refine hand_skip 17 (some 81) (by kernel_rfl) (by kernel_rfl) (by kernel_rfl) (by kernel_rfl) (by kernel_rfl) (fun _ _ _ h => h) (by assumption) ?_
            (try simp only [Act.put, List.setIfInBounds_toArray, List.set_cons_zero, List.set_cons_succ])
            refine hand_take 18 (some 82) ?_ (by kernel_rfl) (by kernel_rfl) (by kernel_rfl) (by kernel_rfl) (by kernel_rfl) (fun _ _ _ h => h) ?_ (by assumption) ?_
            rotate_left
            · (intro o ho w hSw; (simp only [List.getElem?_toArray, List.getElem?_cons_succ, List.getElem?_cons_zero, Option.some.injEq] at ho); subst ho; (try dsimp only at hSw); go_simp; (first | done | with_reducible rfl))
            (try simp only [Act.put, List.setIfInBounds_toArray, List.set_cons_zero, List.set_cons_succ])
            refine hand_take 19 (some 83) ?_ (by kernel_rfl) (by kernel_rfl) (by kernel_rfl) (by kernel_rfl) (by kernel_rfl) (fun _ _ _ h => h) ?_ (by assumption) ?_
            rotate_left
            · (intro o ho w hSw; (simp only [List.getElem?_toArray, List.getElem?_cons_succ, List.getElem?_cons_zero, Option.some.injEq] at ho); subst ho; (try dsimp only at hSw); go_simp; (first | done | with_reducible rfl))
            (try simp only [Act.put, List.setIfInBounds_toArray, List.set_cons_zero, List.set_cons_succ])
            refine hand_take 20 (some 4) ?_ (by kernel_rfl) (by kernel_rfl) (by kernel_rfl) (by kernel_rfl) (by kernel_rfl) (fun _ _ _ h => h) ?_ (by assumption) ?_
            rotate_left
            · (intro o ho w hSw; (simp only [List.getElem?_toArray, List.getElem?_cons_succ, List.getElem?_cons_zero, Option.some.injEq] at ho); subst ho; (try dsimp only at hSw); go_simp; (first | done | with_reducible rfl))
            (try simp only [Act.put, List.setIfInBounds_toArray, List.set_cons_zero, List.set_cons_succ])
            refine wpAnyH_done (by kernel_rfl) ?_ _
            go_wp2
            go_ret
            exact ⟨by first | rfl | simp, HT.out.bel⟩
          · have hz : (((L.kn : Int) + (L.vn : Int)) == 0) = false := by simp; omega
            have hl := HLN.out
            have HNE : Hid (decide (x = ⟨flipTo kn x.key, flipTo vn x.val, x.c, x.m, x.v, x.l⟩) = false) := kept (by
              rw [decide_eq_false_iff_not]
              intro e
              have e1 : x.key = flipTo kn x.key := congrArg Kv.key e
              have e2 : x.val = flipTo vn x.val := congrArg Kv.val e
              have hb := HBN.out
              by_cases h0 : x.key = []
              · have h1 : x.val ≠ [] := fun h => htot (by rw [hl.1, hl.2.1, h0, h]; rfl)
                rw [← hb.2.2.2] at e2
                exact flip_ne _ h1 e2
              · rw [← hb.2.2.1] at e1
                exact flip_ne _ h0 e1)
            have hwk : IntKind.i64.wrap ((L.kn : Int) + (L.vn : Int)) = (L.kn : Int) + (L.vn : Int) := IntWalk.i64_in _ ⟨by omega, by omega⟩
            clear hl htot
            refine wp_region_held_drew (S := (fun W' => (W'.cell? ⟨w.heap.size, 0, none⟩ = some (.slice L.ka L.kn L.kc) ∧ W'.cell? ⟨w.heap.size, 1, none⟩ = some (.slice L.va L.vn L.vc) ∧ W'.cell? ⟨w.heap.size, 2, none⟩ = some (.int .i64 x.c) ∧ W'.cell? ⟨w.heap.size, 3, none⟩ = some (.int .i64 x.m) ∧ W'.cell? ⟨w.heap.size, 4, none⟩ = some (.int .i64 x.v) ∧ W'.cell? ⟨w.heap.size, 5, none⟩ = some (.int .i64 x.l)) ∧ (W'.cell? ⟨w.heap.size + 1, 0, none⟩ = some (.slice M.ka M.kn M.kc) ∧ W'.cell? ⟨w.heap.size + 1, 1, none⟩ = some (.slice M.va M.vn M.vc) ∧ W'.cell? ⟨w.heap.size + 1, 2, none⟩ = some (.int .i64 y.c) ∧ W'.cell? ⟨w.heap.size + 1, 3, none⟩ = some (.int .i64 y.m) ∧ W'.cell? ⟨w.heap.size + 1, 4, none⟩ = some (.int .i64 y.v) ∧ W'.cell? ⟨w.heap.size + 1, 5, none⟩ = some (.int .i64 y.l)) ∧ (W'.cell? ⟨k, 0, none⟩ = some (.slice ka kn kc) ∧ W'.cell? ⟨k, 1, none⟩ = some (.slice va vn vc) ∧ W'.cell? ⟨k, 2, none⟩ = some (.int .i64 x.c) ∧ W'.cell? ⟨k, 3, none⟩ = some (.int .i64 x.m) ∧ W'.cell? ⟨k, 4, none⟩ = some (.int .i64 x.v) ∧ W'.cell? ⟨k, 5, none⟩ = some (.int .i64 x.l)))) (by kernel_rfl) ?_ (fun hHeld => ?_)
            · ((try dsimp only); (first | with_reducible exact HS.out | exact cells18 HS.out (Keeps.drew _)))
            (replace HT := kept (HT.out.below (Below.refl _ _).drew); replace HS := kept (cells18 HS.out (Keeps.drew _)); generalize wr.drew = W0 at HT HS hHeld ⊢)
            refine hand_take 0 (some 64) ?_ (by kernel_rfl) (by kernel_rfl) (by kernel_rfl) (by kernel_rfl) (by kernel_rfl) (fun _ _ _ h => h) ?_ (by assumption) ?_
            rotate_left
            · (intro o ho w hSw; (simp only [List.getElem?_toArray, List.getElem?_cons_succ, List.getElem?_cons_zero, Option.some.injEq] at ho); subst ho; (try dsimp only at hSw); go_simp; (first | done | with_reducible rfl))
            (try simp only [Act.put, List.setIfInBounds_toArray, List.set_cons_zero, List.set_cons_succ])
            refine hand_take 1 (some 65) ?_ (by kernel_rfl) (by kernel_rfl) (by kernel_rfl) (by kernel_rfl) (by kernel_rfl) (fun _ _ _ h => h) ?_ (by assumption) ?_
            rotate_left
            · (intro o ho w hSw; (simp only [List.getElem?_toArray, List.getElem?_cons_succ, List.getElem?_cons_zero, Option.some.injEq] at ho); subst ho; (try dsimp only at hSw); go_simp; (first | done | with_reducible rfl))
            (try simp only [Act.put, List.setIfInBounds_toArray, List.set_cons_zero, List.set_cons_succ])
            refine hand_ready 2 (by kernel_rfl) (by kernel_rfl) (fun o ho K hK => ?_)
            (simp only [List.getElem?_toArray, List.getElem?_cons_succ, List.getElem?_cons_zero, Option.some.injEq] at ho)
            subst ho
            go_simp
            (go_at_call 22; (with_reducible refine (HTW _ HT.out.r1).out.mono ?_); rintro e W4 ⟨V2, rfl, how, hb⟩; have HR4 := kept how.rd; have hk := Keeps.of_below hb; have HS := kept (cells18 HS.out hk); have HT := kept (HT.out.below hb); clear hb hk how)
            (try go_wp2_with fail)
            refine hK.out _ _ ?_ (fun hHeld => ?_)
            · ((try dsimp only); (first | with_reducible exact HS.out | exact cells18 HS.out (Keeps.drew _)))
            clear hK K
            (try simp only [Act.put, List.setIfInBounds_toArray, List.set_cons_zero, List.set_cons_succ])
            refine hand_ready 3 (by kernel_rfl) (by kernel_rfl) (fun o ho K hK => ?_)
            (simp only [List.getElem?_toArray, List.getElem?_cons_succ, List.getElem?_cons_zero, Option.some.injEq] at ho)
            subst ho
            go_simp
            (go_at_call 14; (with_reducible refine (refSame_kv L V2 x x _ true (by simp) HT.out.r1 HR4.out).mono ?_); rintro e W5 ⟨rfl, hb⟩; have hk := Keeps.of_below hb; have HS := kept (cells18 HS.out hk); have HT := kept (HT.out.below hb); clear hb hk)
            (try go_wp2_with fail)
            refine hK.out _ _ ?_ (fun hHeld => ?_)
            · ((try dsimp only); (first | with_reducible exact HS.out | exact cells18 HS.out (Keeps.drew _)))
            clear hK K
            (try simp only [Act.put, List.setIfInBounds_toArray, List.set_cons_zero, List.set_cons_succ])
            refine hand_take 4 (some 68) ?_ (by kernel_rfl) (by kernel_rfl) (by kernel_rfl) (by kernel_rfl) (by kernel_rfl) (fun _ _ _ h => h) ?_ (by assumption) ?_
            rotate_left
            · (intro o ho w hSw; (simp only [List.getElem?_toArray, List.getElem?_cons_succ, List.getElem?_cons_zero, Option.some.injEq] at ho); subst ho; (try dsimp only at hSw); go_simp; (first | done | with_reducible rfl))
            (try simp only [Act.put, List.setIfInBounds_toArray, List.set_cons_zero, List.set_cons_succ])
            refine hand_take 5 (some 69) ?_ (by kernel_rfl) (by kernel_rfl) (by kernel_rfl) (by kernel_rfl) (by kernel_rfl) (fun _ _ _ h => h) ?_ (by assumption) ?_
            rotate_left
            · (intro o ho w hSw; (simp only [List.getElem?_toArray, List.getElem?_cons_succ, List.getElem?_cons_zero, Option.some.injEq] at ho); subst ho; (try dsimp only at hSw); go_simp; (first | done | with_reducible rfl))
            (try simp only [Act.put, List.setIfInBounds_toArray, List.set_cons_zero, List.set_cons_succ])
            refine hand_take 6 (some 70) ?_ (by kernel_rfl) (by kernel_rfl) (by kernel_rfl) (by kernel_rfl) (by kernel_rfl) (fun _ _ _ h => h) ?_ (by assumption) ?_
            rotate_left
            · (intro o ho w hSw; (simp only [List.getElem?_toArray, List.getElem?_cons_succ, List.getElem?_cons_zero, Option.some.injEq] at ho); subst ho; (try dsimp only at hSw); go_simp; (first | done | with_reducible rfl))
            (try simp only [Act.put, List.setIfInBounds_toArray, List.set_cons_zero, List.set_cons_succ])
            refine hand_take 7 (some 71) ?_ (by kernel_rfl) (by kernel_rfl) (by kernel_rfl) (by kernel_rfl) (by kernel_rfl) (fun _ _ _ h => h) ?_ (by assumption) ?_
            rotate_left
            · (intro o ho w hSw; (simp only [List.getElem?_toArray, List.getElem?_cons_succ, List.getElem?_cons_zero, Option.some.injEq] at ho); subst ho; (try dsimp only at hSw); go_simp; (first | done | with_reducible rfl))
            (try simp only [Act.put, List.setIfInBounds_toArray, List.set_cons_zero, List.set_cons_succ])
            refine hand_take 8 (some 72) ?_ (by kernel_rfl) (by kernel_rfl) (by kernel_rfl) (by kernel_rfl) (by kernel_rfl) (fun _ _ _ h => h) ?_ (by assumption) ?_
            rotate_left
            · (intro o ho w hSw; (simp only [List.getElem?_toArray, List.getElem?_cons_succ, List.getElem?_cons_zero, Option.some.injEq] at ho); subst ho; (try dsimp only at hSw); go_simp; (first | done | with_reducible rfl))
            (try simp only [Act.put, List.setIfInBounds_toArray, List.set_cons_zero, List.set_cons_succ])
            refine hand_take 9 (some 73) ?_ (by kernel_rfl) (by kernel_rfl) (by kernel_rfl) (by kernel_rfl) (by kernel_rfl) (fun _ _ _ h => h) ?_ (by assumption) ?_
            rotate_left
            · (intro o ho w hSw; (simp only [List.getElem?_toArray, List.getElem?_cons_succ, List.getElem?_cons_zero, Option.some.injEq] at ho); subst ho; (try dsimp only at hSw); go_simp; (first | done | with_reducible rfl))
            (try simp only [Act.put, List.setIfInBounds_toArray, List.set_cons_zero, List.set_cons_succ])
            refine hand_take 10 (some 74) ?_ (by kernel_rfl) (by kernel_rfl) (by kernel_rfl) (by kernel_rfl) (by kernel_rfl) (fun _ _ _ h => h) ?_ (by assumption) ?_
            rotate_left
            · (intro o ho w hSw; (simp only [List.getElem?_toArray, List.getElem?_cons_succ, List.getElem?_cons_zero, Option.some.injEq] at ho); subst ho; (try dsimp only at hSw); go_simp; (first | done | with_reducible rfl))
            (try simp only [Act.put, List.setIfInBounds_toArray, List.set_cons_zero, List.set_cons_succ])
            refine hand_take 11 (some 75) ?_ (by kernel_rfl) (by kernel_rfl) (by kernel_rfl) (by kernel_rfl) (by kernel_rfl) (fun _ _ _ h => h) ?_ (by assumption) ?_
            rotate_left
            · (intro o ho w hSw; (simp only [List.getElem?_toArray, List.getElem?_cons_succ, List.getElem?_cons_zero, Option.some.injEq] at ho); subst ho; (try dsimp only at hSw); go_simp; (first | done | with_reducible rfl))
            (try simp only [Act.put, List.setIfInBounds_toArray, List.set_cons_zero, List.set_cons_succ])
            refine hand_take 12 (some 76) ?_ (by kernel_rfl) (by kernel_rfl) (by kernel_rfl) (by kernel_rfl) (by kernel_rfl) (fun _ _ _ h => h) ?_ (by assumption) ?_
            rotate_left
            · (intro o ho w hSw; (simp only [List.getElem?_toArray, List.getElem?_cons_succ, List.getElem?_cons_zero, Option.some.injEq] at ho); subst ho; (try dsimp only at hSw); go_simp; (first | done | with_reducible rfl))
            (try simp only [Act.put, List.setIfInBounds_toArray, List.set_cons_zero, List.set_cons_succ])
            refine hand_take 13 (some 77) ?_ (by kernel_rfl) (by kernel_rfl) (by kernel_rfl) (by kernel_rfl) (by kernel_rfl) (fun _ _ _ h => h) ?_ (by assumption) ?_
            rotate_left
            · (intro o ho w hSw; (simp only [List.getElem?_toArray, List.getElem?_cons_succ, List.getElem?_cons_zero, Option.some.injEq] at ho); subst ho; (try dsimp only at hSw); go_simp; (first | done | with_reducible rfl))
            (try simp only [Act.put, List.setIfInBounds_toArray, List.set_cons_zero, List.set_cons_succ])
            refine hand_take 14 (some 78) ?_ (by kernel_rfl) (by kernel_rfl) (by kernel_rfl) (by kernel_rfl) (by kernel_rfl) (fun _ _ _ h => h) ?_ (by assumption) ?_
            rotate_left
            · (intro o ho w hSw; (simp only [List.getElem?_toArray, List.getElem?_cons_succ, List.getElem?_cons_zero, Option.some.injEq] at ho); subst ho; (try dsimp only at hSw); go_simp; (first | done | with_reducible rfl))
            (try simp only [Act.put, List.setIfInBounds_toArray, List.set_cons_zero, List.set_cons_succ])
            refine hand_take 15 (some 79) ?_ (by kernel_rfl) (by kernel_rfl) (by kernel_rfl) (by kernel_rfl) (by kernel_rfl) (fun _ _ _ h => h) ?_ (by assumption) ?_
            rotate_left
            · (intro o ho w hSw; (simp only [List.getElem?_toArray, List.getElem?_cons_succ, List.getElem?_cons_zero, Option.some.injEq] at ho); subst ho; (try dsimp only at hSw); go_simp; (first | done | with_reducible rfl))
            (try simp only [Act.put, List.setIfInBounds_toArray, List.set_cons_zero, List.set_cons_succ])
            refine hand_ready 16 (by kernel_rfl) (by kernel_rfl) (fun o ho K hK => ?_)
            (simp only [List.getElem?_toArray, List.getElem?_cons_succ, List.getElem?_cons_zero, Option.some.injEq] at ho)
            subst ho
            go_simp
            (go_at_call 14; (with_reducible refine (refSame_kv L ⟨ka, kn, kc, va, vn, vc⟩ x ⟨flipTo kn x.key, flipTo vn x.val, x.c, x.m, x.v, x.l⟩ _ false HNE.out HT.out.r1 HT.out.own.rd).mono ?_); rintro e W5 ⟨rfl, hb⟩; have hk := Keeps.of_below hb; have HS := kept (cells18 HS.out hk); have HT := kept (HT.out.below hb); clear hb hk)
            (try go_wp2_with fail)
            refine hK.out _ _ ?_ (fun hHeld => ?_)
            · ((try dsimp only); (first | with_reducible exact HS.out | exact cells18 HS.out (Keeps.drew _)))
            clear hK K
            (try simp only [Act.put, List.setIfInBounds_toArray, List.set_cons_zero, List.set_cons_succ])
            refine hand_take 17 (some 81) ?_ (by kernel_rfl) (by kernel_rfl) (by kernel_rfl) (by kernel_rfl) (by kernel_rfl) (fun _ _ _ h => h) ?_ (by assumption) ?_
            rotate_left
            · (intro o ho w hSw; (simp only [List.getElem?_toArray, List.getElem?_cons_succ, List.getElem?_cons_zero, Option.some.injEq] at ho); subst ho; (try dsimp only at hSw); go_simp; (first | done | with_reducible rfl))
            (try simp only [Act.put, List.setIfInBounds_toArray, List.set_cons_zero, List.set_cons_succ])
            refine hand_take 18 (some 82) ?_ (by kernel_rfl) (by kernel_rfl) (by kernel_rfl) (by kernel_rfl) (by kernel_rfl) (fun _ _ _ h => h) ?_ (by assumption) ?_
            rotate_left
            · (intro o ho w hSw; (simp only [List.getElem?_toArray, List.getElem?_cons_succ, List.getElem?_cons_zero, Option.some.injEq] at ho); subst ho; (try dsimp only at hSw); go_simp; (first | done | with_reducible rfl))
            (try simp only [Act.put, List.setIfInBounds_toArray, List.set_cons_zero, List.set_cons_succ])
            refine hand_take 19 (some 83) ?_ (by kernel_rfl) (by kernel_rfl) (by kernel_rfl) (by kernel_rfl) (by kernel_rfl) (fun _ _ _ h => h) ?_ (by assumption) ?_
            rotate_left
            · (intro o ho w hSw; (simp only [List.getElem?_toArray, List.getElem?_cons_succ, List.getElem?_cons_zero, Option.some.injEq] at ho); subst ho; (try dsimp only at hSw); go_simp; (first | done | with_reducible rfl))
            (try simp only [Act.put, List.setIfInBounds_toArray, List.set_cons_zero, List.set_cons_succ])
            refine hand_take 20 (some 4) ?_ (by kernel_rfl) (by kernel_rfl) (by kernel_rfl) (by kernel_rfl) (by kernel_rfl) (fun _ _ _ h => h) ?_ (by assumption) ?_
            rotate_left
            · (intro o ho w hSw; (simp only [List.getElem?_toArray, List.getElem?_cons_succ, List.getElem?_cons_zero, Option.some.injEq] at ho); subst ho; (try dsimp only at hSw); go_simp; (first | done | with_reducible rfl))
            (try simp only [Act.put, List.setIfInBounds_toArray, List.set_cons_zero, List.set_cons_succ])
            refine wpAnyH_done (by kernel_rfl) ?_ _
            go_wp2
            go_ret
            exact ⟨by first | rfl | simp, HT.out.bel⟩
  
/-- Three records in their blocks, and two rows of bytes. -/
structure Bag (w : World) (g : Nat) (L : LayV) (x : Kv) (h : Nat) (M : LayV) (y : Kv) (k : Nat) (K : LayV) (z : Kv) (A : Option Addr) (n : Nat) (xs : List UInt8) (B : Option Addr) (m : Nat) (ys : List UInt8) : Prop where
  s1 : Six w g L x
  r1 : RdV w L x
  s2 : Six w h M y
  r2 : RdV w M y
  s3 : Six w k K z
  r3 : RdV w K z
  b1 : Rd w A n xs
  b2 : Rd w B m ys
theorem Bag.below {w w' : World} {g h k n m : Nat} {L M K : LayV} {x y z : Kv} {A B : Option Addr} {xs ys : List UInt8} (q : Bag w g L x h M y k K z A n xs B m ys) (hb : Below w.heap.size w w') : Bag w' g L x h M y k K z A n xs B m ys :=
  ⟨q.s1.below hb, q.r1.below hb, q.s2.below hb, q.r2.below hb, q.s3.below hb, q.r3.below hb, q.b1.below hb, q.b2.below hb⟩
theorem Bag.third {w : World} {g h k n m : Nat} {L M K : LayV} {x y z : Kv} {A B : Option Addr} {xs ys : List UInt8} (q : Bag w g L x h M y k K z A n xs B m ys) {k' : Nat} {K' : LayV} {z' : Kv} (h1 : Six w k' K' z') (h2 : RdV w K' z') : Bag w g L x h M y k' K' z' A n xs B m ys :=
  ⟨q.s1, q.r1, q.s2, q.r2, h1, h2, q.b1, q.b2⟩
/-- Two boxes at the beginning. -/
theorem bag0 (w : World) (L M : LayV) (x y : Kv) (h : RdV w L x) (k : RdV w M y) : Bag (boxV (boxV w L x) M y) w.heap.size L x (w.heap.size + 1) M y w.heap.size L x none 0 [] none 0 [] := by
  obtain ⟨h1, h2, hb⟩ := two_boxes w L M x y
  exact ⟨h1, h.below hb, h2, k.below hb, h1, h.below hb, Rd.nil_ _ _, Rd.nil_ _ _⟩
set_option maxRecDepth 100000 in
theorem walk_big1 (w : World) (L M : LayV) (x y : Kv) (rv : RdV w L x) (ry : RdV w M y) (hf : ¬ (L.kn ≤ 200 ∧ L.vn ≤ 2000)) :
    Calls Try.prog 6 #[vkv L x, vkv M y] w fun e w' => e = .returned (.bool true) ∧ Below w.heap.size w w' := by
  have HL := fun w => kept (lives_kv w)
  have G0 := kept (bag0 w L M x y rv ry)
  have B0 := kept (two_boxes w L M x y).2.2
  have HF1 := fun W r => kept (few_kv L x W r false (by rw [Bool.eq_false_iff]; intro h; simp at h; exact hf h))
  clear rv ry hf
  obtain ⟨a0, a1, a2, a3, a4, a5⟩ := G0.out.s1.cells
  obtain ⟨b0, b1, b2, b3, b4, b5⟩ := G0.out.s2.cells
  unfold boxV at a0 a1 a2 a3 a4 a5
  go_enter Try.func6, Try.ntmps6
  go_wp2_with fail
  clear a0 a1 a2 a3 a4 a5
  clear b0 b1 b2 b3 b4 b5
  with_reducible refine ((HL _).out).mono ?_
  rintro e w1 ⟨rfl, hb⟩
  have G1 := kept (G0.out.below hb)
  have B1 := kept (bel_to hb B0.out)
  clear hb
  obtain ⟨a0, a1, a2, a3, a4, a5⟩ := G1.out.s1.cells
  go_wp2_with fail
  clear a0 a1 a2 a3 a4 a5
  with_reducible refine ((HF1 _ G1.out.r1).out).mono ?_
  rintro e w2 ⟨rfl, hb⟩
  have G2 := kept (G1.out.below hb)
  have B2 := kept (bel_to hb B1.out)
  clear hb
  go_wp2_with fail
  with_reducible refine ((HL _).out).mono ?_
  rintro e w4 ⟨rfl, hb⟩
  have G4 := kept (G2.out.below hb)
  have B4 := kept (bel_to hb B2.out)
  clear hb
  go_wp2
  go_ret
  exact ⟨by first | rfl | simp, B4.out⟩
set_option maxRecDepth 100000 in
theorem walk_big2 (w : World) (L M : LayV) (x y : Kv) (rv : RdV w L x) (ry : RdV w M y) (hg : L.kn ≤ 200 ∧ L.vn ≤ 2000) (hf : ¬ (M.kn ≤ 200 ∧ M.vn ≤ 2000)) :
    Calls Try.prog 6 #[vkv L x, vkv M y] w fun e w' => e = .returned (.bool true) ∧ Below w.heap.size w w' := by
  have HL := fun w => kept (lives_kv w)
  have G0 := kept (bag0 w L M x y rv ry)
  have B0 := kept (two_boxes w L M x y).2.2
  have HF1 := fun W r => kept (few_kv L x W r true (by simp [hg]))
  have HF2 := fun W r => kept (few_kv M y W r false (by rw [Bool.eq_false_iff]; intro h; simp at h; exact hf h))
  clear rv ry hf hg
  obtain ⟨a0, a1, a2, a3, a4, a5⟩ := G0.out.s1.cells
  obtain ⟨b0, b1, b2, b3, b4, b5⟩ := G0.out.s2.cells
  unfold boxV at a0 a1 a2 a3 a4 a5
  go_enter Try.func6, Try.ntmps6
  go_wp2_with fail
  clear a0 a1 a2 a3 a4 a5
  clear b0 b1 b2 b3 b4 b5
  with_reducible refine ((HL _).out).mono ?_
  rintro e w1 ⟨rfl, hb⟩
  have G1 := kept (G0.out.below hb)
  have B1 := kept (bel_to hb B0.out)
  clear hb
  obtain ⟨a0, a1, a2, a3, a4, a5⟩ := G1.out.s1.cells
  go_wp2_with fail
  clear a0 a1 a2 a3 a4 a5
  with_reducible refine ((HF1 _ G1.out.r1).out).mono ?_
  rintro e w2 ⟨rfl, hb⟩
  have G2 := kept (G1.out.below hb)
  have B2 := kept (bel_to hb B1.out)
  clear hb
  obtain ⟨a0, a1, a2, a3, a4, a5⟩ := G2.out.s2.cells
  go_wp2_with fail
  clear a0 a1 a2 a3 a4 a5
  with_reducible refine ((HF2 _ G2.out.r2).out).mono ?_
  rintro e w3 ⟨rfl, hb⟩
  have G3 := kept (G2.out.below hb)
  have B3 := kept (bel_to hb B2.out)
  clear hb
  go_wp2_with fail
  with_reducible refine ((HL _).out).mono ?_
  rintro e w4 ⟨rfl, hb⟩
  have G4 := kept (G3.out.below hb)
  have B4 := kept (bel_to hb B3.out)
  clear hb
  go_wp2
  go_ret
  exact ⟨by first | rfl | simp, B4.out⟩
theorem walk (w : World) (L : LayV) (x : Kv) (rv : RdV w L x) (M : LayV) (y : Kv) (ry : RdV w M y) :
    Calls Try.prog 6 #[vkv L x, vkv M y] w fun e w' => e = .returned (.bool true) ∧ Below w.heap.size w w' := by
  by_cases hf : L.kn ≤ 200 ∧ L.vn ≤ 2000
  · by_cases hg : M.kn ≤ 200 ∧ M.vn ≤ 2000
    · exact walk_few w L M x y rv ry hf.1 hf.2 hg.1 hg.2 _ rfl
    · exact walk_big2 w L M x y rv ry hf hg
  · exact walk_big1 w L M x y rv ry hf
end Go.Proofs.Ytcmjgkgdeaiifaa.recordTwins
