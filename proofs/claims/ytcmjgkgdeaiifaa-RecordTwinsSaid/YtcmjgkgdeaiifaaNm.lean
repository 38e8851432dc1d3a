/-
  What the document's Decode of a record answers of any bytes.
-/
import Derived.Test.YtcmjgkgdeaiifaaNk
import Derived.Test.YtcmjgkgdeaiifaaNl
import Derived.Deep.Cut
namespace Go.Proofs.Ytcmjgkgdeaiifaa
open Go.ChangeShapes Go.WideShapes Go.ChangeAt Go.RowKit
set_option linter.unusedVariables false
set_option linter.unusedSimpArgs false
attribute [local go_sem ↓] Go.wp_at_zero Go.wp_at_succ

theorem Turned.keep_rd {w w' : World} {g : Nat} {A : Option Addr} {n : Nat} {xs : List UInt8} (h : Rd w A n xs) (i : Nat) (u : Value) (ha : apartA A n g) : Rd (w.setCell ⟨g, i, none⟩ u) A n xs := h.grown ha ((Only.refl w g).setCell i u)
theorem encode_kv (L : LayV) (x : Kv) (w : World) (hR : rightV x = true) (h : RdV w L x) :
    Calls Try.prog 10 #[vkv L x] w fun e w' => ∃ A' c', e = .returned (.tuple #[.slice A' (37 + (L.kn + L.vn)) c', .int .i64 0]) ∧ w'.ownsRow w.heap.size 5 1 (.slice A' (37 + (L.kn + L.vn)) c') (37 + (L.kn + L.vn)) (cellsOf (kvB x)) ∧ Below w.heap.size w w' := by
  obtain ⟨c, m, v, l, e, h1, h2, h3, h4, h5, h6, h7⟩ := rightV_nat hR
  obtain ⟨xk, xv, c0, m0, v0, l0⟩ := x
  simp only [Kv.mk.injEq, true_and] at e
  obtain ⟨rfl, rfl, rfl, rfl⟩ := e
  have hk := h.key.1
  have hv := h.val.1
  exact encode_kv_nat L.ka L.kn L.kc L.va L.vn L.vc xk xv c m v l w hR h h1 h2 h3 h4 (by rw [← hk]; exact h6) (by rw [← hv]; exact h7)
theorem refEncode_kv (L : LayV) (x : Kv) (w : World) (hR : rightV x = true) (h : RdV w L x) :
    Calls Try.prog 16 #[vkv L x] w fun e w' => ∃ A' c', e = .returned (.slice A' (37 + (L.kn + L.vn)) c') ∧ w'.ownsRow w.heap.size 5 1 (.slice A' (37 + (L.kn + L.vn)) c') (37 + (L.kn + L.vn)) (cellsOf (kvB x)) ∧ Below w.heap.size w w' := by
  obtain ⟨c, m, v, l, e, h1, h2, h3, h4, h5, h6, h7⟩ := rightV_nat hR
  obtain ⟨xk, xv, c0, m0, v0, l0⟩ := x
  simp only [Kv.mk.injEq, true_and] at e
  obtain ⟨rfl, rfl, rfl, rfl⟩ := e
  have hk := h.key.1
  have hv := h.val.1
  exact refEncode_kv_nat L.ka L.kn L.kc L.va L.vn L.vc xk xv c m v l w h h1 h2 h3 h4 (by rw [← hk]; exact h6) (by rw [← hv]; exact h7)
set_option maxRecDepth 100000 in
set_option maxHeartbeats 2000000 in
theorem refDec_t1 (a : Addr) (n c : Nat) (xs : List UInt8) (w : World) (hr : Rd w (some a) n xs) (hnc : n ≤ c) (hn : n ≤ 140737488351232) (x0 : Nat) (h0 : w.cell? (a.add 0) = some (.int .u8 (x0 : Int))) (hpos : 0 < n) (p2 : Nat) (er : Int) (key : List UInt8)
    (hT : rtextX xs 64 (1, 0) = (key, (p2, er))) (hx : ((x0 : Int) == 2) = true) (he : (er == 0) = false) :
    Calls Try.prog 20 #[.slice (some a) n c] w fun e w' => ∃ L, e = .returned (.tuple #[vkv L zeroKv, .bool false, .bool false]) ∧ RdV w' L zeroKv ∧ Below w.heap.size w w' := by
  have hb1 := (Below.refl w.heap.size w).alloc (Nat.le_refl _) (.cells #[.slice none 0 0, .slice none 0 0, .int .i64 0, .int .i64 0, .int .i64 0, .int .i64 0] 24)
  have hz1 := Blk.new w 24 #[.slice none 0 0, .slice none 0 0, .int .i64 0, .int .i64 0, .int .i64 0, .int .i64 0]
  have hs1 : (w.alloc (.cells #[.slice none 0 0, .slice none 0 0, .int .i64 0, .int .i64 0, .int .i64 0, .int .i64 0] 24)).heap.size = w.heap.size + 1 := World.size_alloc ..
  have hb2 := (Below.refl (w.alloc (.cells #[.slice none 0 0, .slice none 0 0, .int .i64 0, .int .i64 0, .int .i64 0, .int .i64 0] 24)).heap.size (w.alloc (.cells #[.slice none 0 0, .slice none 0 0, .int .i64 0, .int .i64 0, .int .i64 0, .int .i64 0] 24))).alloc (Nat.le_refl _) (.cells #[.slice (some a) n c, .int .i64 1, .int .i64 0] 56)
  have hr2 := Blk.new (w.alloc (.cells #[.slice none 0 0, .slice none 0 0, .int .i64 0, .int .i64 0, .int .i64 0, .int .i64 0] 24)) 56 #[.slice (some a) n c, .int .i64 1, .int .i64 0]
  have hs2 : ((w.alloc (.cells #[.slice none 0 0, .slice none 0 0, .int .i64 0, .int .i64 0, .int .i64 0, .int .i64 0] 24)).alloc (.cells #[.slice (some a) n c, .int .i64 1, .int .i64 0] 56)).heap.size = w.heap.size + 1 + 1 := by rw [World.size_alloc, hs1]
  have hb3 := (Below.refl ((w.alloc (.cells #[.slice none 0 0, .slice none 0 0, .int .i64 0, .int .i64 0, .int .i64 0, .int .i64 0] 24)).alloc (.cells #[.slice (some a) n c, .int .i64 1, .int .i64 0] 56)).heap.size ((w.alloc (.cells #[.slice none 0 0, .slice none 0 0, .int .i64 0, .int .i64 0, .int .i64 0, .int .i64 0] 24)).alloc (.cells #[.slice (some a) n c, .int .i64 1, .int .i64 0] 56))).alloc (Nat.le_refl _) (.cells #[.slice none 0 0, .slice none 0 0, .int .i64 0, .int .i64 0, .int .i64 0, .int .i64 0] 24)
  have hg3 := Blk.new ((w.alloc (.cells #[.slice none 0 0, .slice none 0 0, .int .i64 0, .int .i64 0, .int .i64 0, .int .i64 0] 24)).alloc (.cells #[.slice (some a) n c, .int .i64 1, .int .i64 0] 56)) 24 #[.slice none 0 0, .slice none 0 0, .int .i64 0, .int .i64 0, .int .i64 0, .int .i64 0]
  have hs3 : (((w.alloc (.cells #[.slice none 0 0, .slice none 0 0, .int .i64 0, .int .i64 0, .int .i64 0, .int .i64 0] 24)).alloc (.cells #[.slice (some a) n c, .int .i64 1, .int .i64 0] 56)).alloc (.cells #[.slice none 0 0, .slice none 0 0, .int .i64 0, .int .i64 0, .int .i64 0, .int .i64 0] 24)).heap.size = w.heap.size + 1 + 1 + 1 := by rw [World.size_alloc, hs2]
  have hB3 := bel_to hb3 (bel_to hb2 hb1)
  have hR3 := hr.below hB3
  have hz3 := (hz1.below hb2 (Blk.lt hz1)).below hb3 (Blk.lt (hz1.below hb2 (Blk.lt hz1)))
  have hr3 := hr2.below hb3 (Blk.lt hr2)
  rw [hs1] at hr3
  rw [hs2] at hg3
  have hX3 : RY (((w.alloc (.cells #[.slice none 0 0, .slice none 0 0, .int .i64 0, .int .i64 0, .int .i64 0, .int .i64 0] 24)).alloc (.cells #[.slice (some a) n c, .int .i64 1, .int .i64 0] 56)).alloc (.cells #[.slice none 0 0, .slice none 0 0, .int .i64 0, .int .i64 0, .int .i64 0, .int .i64 0] 24)) (w.heap.size + 1) (some a) n c xs (1, 0) := ⟨⟨hr3, hR3⟩, hpos, hnc, by show n ≤ _; omega⟩
  have hlt := World.block_lt_of_cell? w _ h0
  rw [add_block] at hlt
  have h03 := (hB3.cell (p := a.add 0) (by rw [add_block]; exact hlt)).trans h0
  have N1 := fun W r A c (q : RY W r A n c xs (1, 0)) => refTextX64 r A n c xs (1, 0) W q
  simp only [hT] at N1
  have N1 := kept N1
  have HLK : Hid (key.length ≤ 64) := kept (by have := rtextX_len (xs := xs) (most := 64) (s := (1, 0)); rw [hT] at this; exact this)
  obtain ⟨W3, hW⟩ : ∃ W3, W3 = (((w.alloc (.cells #[.slice none 0 0, .slice none 0 0, .int .i64 0, .int .i64 0, .int .i64 0, .int .i64 0] 24)).alloc (.cells #[.slice (some a) n c, .int .i64 1, .int .i64 0] 56)).alloc (.cells #[.slice none 0 0, .slice none 0 0, .int .i64 0, .int .i64 0, .int .i64 0, .int .i64 0] 24)) := ⟨_, rfl⟩
  have HW := kept hW
  rw [← hW] at hB3 hR3 hz3 hg3 hX3 h03 hs3
  have HB3 := kept hB3
  have HZ3 := kept hz3
  have HG3 := kept hg3
  have HX3 := kept hX3
  have HC3 := kept h03
  have HS3 := kept hs3
  have HLT := kept hlt
  have HR0 := kept hr
  have HN := kept hn
  have HNP := kept hpos
  have HAP : ∀ g, w.heap.size ≤ g → apartA (some a) n g := fun g hg => hr.fresh hg
  have HAP := kept HAP
  have hnn : ((n : Int) == 0) = false := by simp; omega
  clear hb1 hz1 hs1 hb2 hr2 hs2 hb3 hg3 hB3 hR3 hz3 hr3 hX3 hlt h03 hr hn hpos hT hW hs3
  go_enter Try.func20, Try.ntmps20
  go_wp2_with fail
  rw [← HW.out]
  with_reducible refine (N1.out _ _ _ _ HX3.out).mono ?_
  rintro e w4 ⟨A1, n1, c1, rfl, hrd, hq⟩
  have hs4 : w.heap.size + 1 + 1 + 1 ≤ w4.heap.size := by have := hq.out.2.size; rw [HS3.out] at this; exact this
  have hz4 := Only.far_blk HZ3.out hq.out.2 (by omega)
  have hg4 := Only.far_blk HG3.out hq.out.2 (by omega)
  have hb4 := Only.below HB3.out hq.out.2 HB3.out.size (by omega)
  have hc4 : w4.cell? (a.add 0) = some (.int .u8 (x0 : Int)) := (hb4.cell (p := a.add 0) (by rw [add_block]; exact HLT.out)).trans h0
  have z0 : w4.cell? ⟨w.heap.size + 1 + 1, 0, none⟩ = some (.slice none 0 0) := hg4.cell 0
  have f0 := hg4.frozen 0
  have HNW : Hid (∀ g, g < w.heap.size + 1 + 1 + 1 → apartA A1 n1 g) := kept (fun g hg => hrd.out.2.1 g (by rw [HS3.out]; exact hg))
  have HL1 := kept hrd.out.2.2
  have HX4 := kept (hq.out.1.set_ (g := w.heap.size + 1 + 1) (by omega) (HAP.out _ (by omega)) 0 (.slice A1 n1 c1))
  have HR4 := kept (hrd.out.1.grown (HNW.out _ (by omega)) ((Only.refl w4 (w.heap.size + 1 + 1)).setCell 0 (.slice A1 n1 c1)))
  have HZ4 := kept (hz4.far (p := ⟨w.heap.size + 1 + 1, 0, none⟩) (by simp <;> omega) (.slice A1 n1 c1))
  have HG4 : Hid (Blk (w4.setCell ⟨w.heap.size + 1 + 1, 0, none⟩ (.slice A1 n1 c1)) (w.heap.size + 1 + 1) 24 [.slice A1 n1 c1, .slice none 0 0, .int .i64 0, .int .i64 0, .int .i64 0, .int .i64 0]) := kept (hg4.set_ 0 (.slice A1 n1 c1))
  have HB4 := kept (hb4.setCell (p := ⟨w.heap.size + 1 + 1, 0, none⟩) (show w.heap.size ≤ w.heap.size + 1 + 1 by omega) (.slice A1 n1 c1))
  have hc5 : (w4.setCell ⟨w.heap.size + 1 + 1, 0, none⟩ (.slice A1 n1 c1)).cell? (a.add 0) = some (.int .u8 (x0 : Int)) := (HB4.out.cell (p := a.add 0) (by rw [add_block]; exact HLT.out)).trans h0
  have ha0 : a.add 0 = a := by unfold Addr.add; simp
  rw [ha0] at hc5
  have HRX4 := kept (HR0.out.below HB4.out)
  have HS4 : Hid (w.heap.size + 1 + 1 + 1 ≤ (w4.setCell ⟨w.heap.size + 1 + 1, 0, none⟩ (.slice A1 n1 c1)).heap.size) := kept (by simpa [World.setCell] using hs4)
  have e2 : (w4.setCell ⟨w.heap.size + 1 + 1, 0, none⟩ (.slice A1 n1 c1)).cell? ⟨w.heap.size + 1, 2, none⟩ = some (.int .i64 er) := HX4.out.1.error
  have q0 : (w4.setCell ⟨w.heap.size + 1 + 1, 0, none⟩ (.slice A1 n1 c1)).cell? ⟨w.heap.size + 1 + 1, 0, none⟩ = some (.slice A1 n1 c1) := HG4.out.cell 0
  clear hrd hq hz4 hg4 hb4 hs4 HX3 HZ3 HG3 HB3
  go_upto_region 9 with fail
  clear f0 z0 hc5 e2 q0 HX4 hc4
  have HG : Hid (Blk (w4.setCell ⟨w.heap.size + 1 + 1, 0, none⟩ (.slice A1 n1 c1)) (w.heap.size + 1 + 1) 24 [.slice A1 n1 c1, .slice none 0 0, .int .i64 0, .int .i64 0, .int .i64 0, .int .i64 0]) := kept (HG4.out)
  have HZ : Hid (Blk (w4.setCell ⟨w.heap.size + 1 + 1, 0, none⟩ (.slice A1 n1 c1)) w.heap.size 24 [.slice none 0 0, .slice none 0 0, .int .i64 0, .int .i64 0, .int .i64 0, .int .i64 0]) := kept (HZ4.out)
  have HB : Hid (Below w.heap.size w (w4.setCell ⟨w.heap.size + 1 + 1, 0, none⟩ (.slice A1 n1 c1))) := kept (HB4.out)
  have HR : Hid (Rd (w4.setCell ⟨w.heap.size + 1 + 1, 0, none⟩ (.slice A1 n1 c1)) A1 n1 key ∧ Rd (w4.setCell ⟨w.heap.size + 1 + 1, 0, none⟩ (.slice A1 n1 c1)) none 0 [] ∧ apartA A1 n1 w.heap.size ∧ apartA none 0 w.heap.size) := kept (⟨HR4.out, Rd.nil_ _ _, HNW.out _ (by omega), fun a e => by cases e⟩)
  have HL : Hid (n1 ≤ c1 ∧ 0 ≤ 0 ∧ n1 ≤ 140737488351232 ∧ 0 ≤ 140737488351232) := kept (⟨HL1.out.1, Nat.le_refl _, by have := HL1.out.2; omega, Nat.zero_le _⟩)
  generalize (w4.setCell ⟨w.heap.size + 1 + 1, 0, none⟩ (.slice A1 n1 c1)) = W7 at HG HZ HB HR ⊢
  have z0 : W7.cell? ⟨w.heap.size, 0, none⟩ = some (.slice none 0 0) := HZ.out.cell 0
  have z1 : W7.cell? ⟨w.heap.size, 1, none⟩ = some (.slice none 0 0) := HZ.out.cell 1
  have z2 : W7.cell? ⟨w.heap.size, 2, none⟩ = some (.int .i64 0) := HZ.out.cell 2
  have z3 : W7.cell? ⟨w.heap.size, 3, none⟩ = some (.int .i64 0) := HZ.out.cell 3
  have z4 : W7.cell? ⟨w.heap.size, 4, none⟩ = some (.int .i64 0) := HZ.out.cell 4
  have z5 : W7.cell? ⟨w.heap.size, 5, none⟩ = some (.int .i64 0) := HZ.out.cell 5
  have f0 := HZ.out.frozen 0
  have f1 := HZ.out.frozen 1
  have f2 := HZ.out.frozen 2
  have f3 := HZ.out.frozen 3
  have f4 := HZ.out.frozen 4
  have f5 := HZ.out.frozen 5
  have HQ := kept (And.intro (set6_blk HZ.out (.slice none 0 0) (.slice none 0 0) (.int .i64 0) (.int .i64 0) (.int .i64 0) (.int .i64 0)) (set6_below (q := w.heap.size) HB.out (Nat.le_refl _) (.slice none 0 0) (.slice none 0 0) (.int .i64 0) (.int .i64 0) (.int .i64 0) (.int .i64 0)))
  go_wp2
  obtain ⟨hq, hB⟩ := HQ.out
  unfold set6 at hq hB
  generalize ((((((W7.setCell ⟨w.heap.size, 0, none⟩ (.slice none 0 0)).setCell ⟨w.heap.size, 1, none⟩ (.slice none 0 0)).setCell ⟨w.heap.size, 2, none⟩ (.int .i64 0)).setCell ⟨w.heap.size, 3, none⟩ (.int .i64 0)).setCell ⟨w.heap.size, 4, none⟩ (.int .i64 0)).setCell ⟨w.heap.size, 5, none⟩ (.int .i64 0)) = Y at hq hB ⊢
  have y0 : Y.cell? ⟨w.heap.size, 0, none⟩ = some (.slice none 0 0) := hq.cell 0
  have y1 : Y.cell? ⟨w.heap.size, 1, none⟩ = some (.slice none 0 0) := hq.cell 1
  have y2 : Y.cell? ⟨w.heap.size, 2, none⟩ = some (.int .i64 0) := hq.cell 2
  have y3 : Y.cell? ⟨w.heap.size, 3, none⟩ = some (.int .i64 0) := hq.cell 3
  have y4 : Y.cell? ⟨w.heap.size, 4, none⟩ = some (.int .i64 0) := hq.cell 4
  have y5 : Y.cell? ⟨w.heap.size, 5, none⟩ = some (.int .i64 0) := hq.cell 5
  refine bodyPost_ret (v := .tuple #[.agg #[.slice none 0 0, .slice none 0 0, .int .i64 0, .int .i64 0, .int .i64 0, .int .i64 0], .bool false, .bool false]) ?_ rfl ?_
  · simp [results, Try.results20, go_sem, y0, y1, y2, y3, y4, y5]
  · exact ⟨⟨none, 0, 0, none, 0, 0⟩, rfl, ⟨Rd.nil_ _ _, Rd.nil_ _ _, Nat.le_refl _, Nat.le_refl _, Nat.zero_le _, Nat.zero_le _⟩, hB⟩
set_option maxRecDepth 100000 in
set_option maxHeartbeats 2000000 in
theorem refDec_t2 (a : Addr) (n c : Nat) (xs : List UInt8) (w : World) (hr : Rd w (some a) n xs) (hnc : n ≤ c) (hn : n ≤ 140737488351232) (x0 : Nat) (h0 : w.cell? (a.add 0) = some (.int .u8 (x0 : Int))) (hpos : 0 < n) (p2 : Nat) (er : Int) (key : List UInt8)
    (hT : rtextX xs 64 (1, 0) = (key, (p2, er))) (hx : ((x0 : Int) == 2) = true) (he : er = 0) (hk : key = []) :
    Calls Try.prog 20 #[.slice (some a) n c] w fun e w' => ∃ L, e = .returned (.tuple #[vkv L zeroKv, .bool false, .bool false]) ∧ RdV w' L zeroKv ∧ Below w.heap.size w w' := by
  subst he
  have hb1 := (Below.refl w.heap.size w).alloc (Nat.le_refl _) (.cells #[.slice none 0 0, .slice none 0 0, .int .i64 0, .int .i64 0, .int .i64 0, .int .i64 0] 24)
  have hz1 := Blk.new w 24 #[.slice none 0 0, .slice none 0 0, .int .i64 0, .int .i64 0, .int .i64 0, .int .i64 0]
  have hs1 : (w.alloc (.cells #[.slice none 0 0, .slice none 0 0, .int .i64 0, .int .i64 0, .int .i64 0, .int .i64 0] 24)).heap.size = w.heap.size + 1 := World.size_alloc ..
  have hb2 := (Below.refl (w.alloc (.cells #[.slice none 0 0, .slice none 0 0, .int .i64 0, .int .i64 0, .int .i64 0, .int .i64 0] 24)).heap.size (w.alloc (.cells #[.slice none 0 0, .slice none 0 0, .int .i64 0, .int .i64 0, .int .i64 0, .int .i64 0] 24))).alloc (Nat.le_refl _) (.cells #[.slice (some a) n c, .int .i64 1, .int .i64 0] 56)
  have hr2 := Blk.new (w.alloc (.cells #[.slice none 0 0, .slice none 0 0, .int .i64 0, .int .i64 0, .int .i64 0, .int .i64 0] 24)) 56 #[.slice (some a) n c, .int .i64 1, .int .i64 0]
  have hs2 : ((w.alloc (.cells #[.slice none 0 0, .slice none 0 0, .int .i64 0, .int .i64 0, .int .i64 0, .int .i64 0] 24)).alloc (.cells #[.slice (some a) n c, .int .i64 1, .int .i64 0] 56)).heap.size = w.heap.size + 1 + 1 := by rw [World.size_alloc, hs1]
  have hb3 := (Below.refl ((w.alloc (.cells #[.slice none 0 0, .slice none 0 0, .int .i64 0, .int .i64 0, .int .i64 0, .int .i64 0] 24)).alloc (.cells #[.slice (some a) n c, .int .i64 1, .int .i64 0] 56)).heap.size ((w.alloc (.cells #[.slice none 0 0, .slice none 0 0, .int .i64 0, .int .i64 0, .int .i64 0, .int .i64 0] 24)).alloc (.cells #[.slice (some a) n c, .int .i64 1, .int .i64 0] 56))).alloc (Nat.le_refl _) (.cells #[.slice none 0 0, .slice none 0 0, .int .i64 0, .int .i64 0, .int .i64 0, .int .i64 0] 24)
  have hg3 := Blk.new ((w.alloc (.cells #[.slice none 0 0, .slice none 0 0, .int .i64 0, .int .i64 0, .int .i64 0, .int .i64 0] 24)).alloc (.cells #[.slice (some a) n c, .int .i64 1, .int .i64 0] 56)) 24 #[.slice none 0 0, .slice none 0 0, .int .i64 0, .int .i64 0, .int .i64 0, .int .i64 0]
  have hs3 : (((w.alloc (.cells #[.slice none 0 0, .slice none 0 0, .int .i64 0, .int .i64 0, .int .i64 0, .int .i64 0] 24)).alloc (.cells #[.slice (some a) n c, .int .i64 1, .int .i64 0] 56)).alloc (.cells #[.slice none 0 0, .slice none 0 0, .int .i64 0, .int .i64 0, .int .i64 0, .int .i64 0] 24)).heap.size = w.heap.size + 1 + 1 + 1 := by rw [World.size_alloc, hs2]
  have hB3 := bel_to hb3 (bel_to hb2 hb1)
  have hR3 := hr.below hB3
  have hz3 := (hz1.below hb2 (Blk.lt hz1)).below hb3 (Blk.lt (hz1.below hb2 (Blk.lt hz1)))
  have hr3 := hr2.below hb3 (Blk.lt hr2)
  rw [hs1] at hr3
  rw [hs2] at hg3
  have hX3 : RY (((w.alloc (.cells #[.slice none 0 0, .slice none 0 0, .int .i64 0, .int .i64 0, .int .i64 0, .int .i64 0] 24)).alloc (.cells #[.slice (some a) n c, .int .i64 1, .int .i64 0] 56)).alloc (.cells #[.slice none 0 0, .slice none 0 0, .int .i64 0, .int .i64 0, .int .i64 0, .int .i64 0] 24)) (w.heap.size + 1) (some a) n c xs (1, 0) := ⟨⟨hr3, hR3⟩, hpos, hnc, by show n ≤ _; omega⟩
  have hlt := World.block_lt_of_cell? w _ h0
  rw [add_block] at hlt
  have h03 := (hB3.cell (p := a.add 0) (by rw [add_block]; exact hlt)).trans h0
  have N1 := fun W r A c (q : RY W r A n c xs (1, 0)) => refTextX64 r A n c xs (1, 0) W q
  simp only [hT] at N1
  have N1 := kept N1
  have HLK : Hid (key.length ≤ 64) := kept (by have := rtextX_len (xs := xs) (most := 64) (s := (1, 0)); rw [hT] at this; exact this)
  obtain ⟨W3, hW⟩ : ∃ W3, W3 = (((w.alloc (.cells #[.slice none 0 0, .slice none 0 0, .int .i64 0, .int .i64 0, .int .i64 0, .int .i64 0] 24)).alloc (.cells #[.slice (some a) n c, .int .i64 1, .int .i64 0] 56)).alloc (.cells #[.slice none 0 0, .slice none 0 0, .int .i64 0, .int .i64 0, .int .i64 0, .int .i64 0] 24)) := ⟨_, rfl⟩
  have HW := kept hW
  rw [← hW] at hB3 hR3 hz3 hg3 hX3 h03 hs3
  have HB3 := kept hB3
  have HZ3 := kept hz3
  have HG3 := kept hg3
  have HX3 := kept hX3
  have HC3 := kept h03
  have HS3 := kept hs3
  have HLT := kept hlt
  have HR0 := kept hr
  have HN := kept hn
  have HNP := kept hpos
  have HAP : ∀ g, w.heap.size ≤ g → apartA (some a) n g := fun g hg => hr.fresh hg
  have HAP := kept HAP
  have hnn : ((n : Int) == 0) = false := by simp; omega
  clear hb1 hz1 hs1 hb2 hr2 hs2 hb3 hg3 hB3 hR3 hz3 hr3 hX3 hlt h03 hr hn hpos hT hW hs3
  go_enter Try.func20, Try.ntmps20
  go_wp2_with fail
  rw [← HW.out]
  with_reducible refine (N1.out _ _ _ _ HX3.out).mono ?_
  rintro e w4 ⟨A1, n1, c1, rfl, hrd, hq⟩
  have hs4 : w.heap.size + 1 + 1 + 1 ≤ w4.heap.size := by have := hq.out.2.size; rw [HS3.out] at this; exact this
  have hz4 := Only.far_blk HZ3.out hq.out.2 (by omega)
  have hg4 := Only.far_blk HG3.out hq.out.2 (by omega)
  have hb4 := Only.below HB3.out hq.out.2 HB3.out.size (by omega)
  have hc4 : w4.cell? (a.add 0) = some (.int .u8 (x0 : Int)) := (hb4.cell (p := a.add 0) (by rw [add_block]; exact HLT.out)).trans h0
  have z0 : w4.cell? ⟨w.heap.size + 1 + 1, 0, none⟩ = some (.slice none 0 0) := hg4.cell 0
  have f0 := hg4.frozen 0
  have HNW : Hid (∀ g, g < w.heap.size + 1 + 1 + 1 → apartA A1 n1 g) := kept (fun g hg => hrd.out.2.1 g (by rw [HS3.out]; exact hg))
  have HL1 := kept hrd.out.2.2
  have HX4 := kept (hq.out.1.set_ (g := w.heap.size + 1 + 1) (by omega) (HAP.out _ (by omega)) 0 (.slice A1 n1 c1))
  have HR4 := kept (hrd.out.1.grown (HNW.out _ (by omega)) ((Only.refl w4 (w.heap.size + 1 + 1)).setCell 0 (.slice A1 n1 c1)))
  have HZ4 := kept (hz4.far (p := ⟨w.heap.size + 1 + 1, 0, none⟩) (by simp <;> omega) (.slice A1 n1 c1))
  have HG4 : Hid (Blk (w4.setCell ⟨w.heap.size + 1 + 1, 0, none⟩ (.slice A1 n1 c1)) (w.heap.size + 1 + 1) 24 [.slice A1 n1 c1, .slice none 0 0, .int .i64 0, .int .i64 0, .int .i64 0, .int .i64 0]) := kept (hg4.set_ 0 (.slice A1 n1 c1))
  have HB4 := kept (hb4.setCell (p := ⟨w.heap.size + 1 + 1, 0, none⟩) (show w.heap.size ≤ w.heap.size + 1 + 1 by omega) (.slice A1 n1 c1))
  have hc5 : (w4.setCell ⟨w.heap.size + 1 + 1, 0, none⟩ (.slice A1 n1 c1)).cell? (a.add 0) = some (.int .u8 (x0 : Int)) := (HB4.out.cell (p := a.add 0) (by rw [add_block]; exact HLT.out)).trans h0
  have ha0 : a.add 0 = a := by unfold Addr.add; simp
  rw [ha0] at hc5
  have HRX4 := kept (HR0.out.below HB4.out)
  have HS4 : Hid (w.heap.size + 1 + 1 + 1 ≤ (w4.setCell ⟨w.heap.size + 1 + 1, 0, none⟩ (.slice A1 n1 c1)).heap.size) := kept (by simpa [World.setCell] using hs4)
  have e2 : (w4.setCell ⟨w.heap.size + 1 + 1, 0, none⟩ (.slice A1 n1 c1)).cell? ⟨w.heap.size + 1, 2, none⟩ = some (.int .i64 0) := HX4.out.1.error
  have q0 : (w4.setCell ⟨w.heap.size + 1 + 1, 0, none⟩ (.slice A1 n1 c1)).cell? ⟨w.heap.size + 1 + 1, 0, none⟩ = some (.slice A1 n1 c1) := HG4.out.cell 0
  clear hrd hq hz4 hg4 hb4 hs4 HX3 HZ3 HG3 HB3
  have hn0 : n1 = 0 := by have := HR4.out.1; rw [hk] at this; simpa using this.symm
  subst hn0
  clear hk
  go_upto_region 9 with fail
  clear f0 z0 hc5 e2 q0 HX4 hc4
  have HG : Hid (Blk (w4.setCell ⟨w.heap.size + 1 + 1, 0, none⟩ (.slice A1 0 c1)) (w.heap.size + 1 + 1) 24 [.slice A1 0 c1, .slice none 0 0, .int .i64 0, .int .i64 0, .int .i64 0, .int .i64 0]) := kept (HG4.out)
  have HZ : Hid (Blk (w4.setCell ⟨w.heap.size + 1 + 1, 0, none⟩ (.slice A1 0 c1)) w.heap.size 24 [.slice none 0 0, .slice none 0 0, .int .i64 0, .int .i64 0, .int .i64 0, .int .i64 0]) := kept (HZ4.out)
  have HB : Hid (Below w.heap.size w (w4.setCell ⟨w.heap.size + 1 + 1, 0, none⟩ (.slice A1 0 c1))) := kept (HB4.out)
  have HR : Hid (Rd (w4.setCell ⟨w.heap.size + 1 + 1, 0, none⟩ (.slice A1 0 c1)) A1 0 key ∧ Rd (w4.setCell ⟨w.heap.size + 1 + 1, 0, none⟩ (.slice A1 0 c1)) none 0 [] ∧ apartA A1 0 w.heap.size ∧ apartA none 0 w.heap.size) := kept (⟨HR4.out, Rd.nil_ _ _, HNW.out _ (by omega), fun a e => by cases e⟩)
  have HL : Hid (0 ≤ c1 ∧ 0 ≤ 0 ∧ 0 ≤ 140737488351232 ∧ 0 ≤ 140737488351232) := kept (⟨HL1.out.1, Nat.le_refl _, by have := HL1.out.2; omega, Nat.zero_le _⟩)
  generalize (w4.setCell ⟨w.heap.size + 1 + 1, 0, none⟩ (.slice A1 0 c1)) = W7 at HG HZ HB HR ⊢
  have z0 : W7.cell? ⟨w.heap.size, 0, none⟩ = some (.slice none 0 0) := HZ.out.cell 0
  have z1 : W7.cell? ⟨w.heap.size, 1, none⟩ = some (.slice none 0 0) := HZ.out.cell 1
  have z2 : W7.cell? ⟨w.heap.size, 2, none⟩ = some (.int .i64 0) := HZ.out.cell 2
  have z3 : W7.cell? ⟨w.heap.size, 3, none⟩ = some (.int .i64 0) := HZ.out.cell 3
  have z4 : W7.cell? ⟨w.heap.size, 4, none⟩ = some (.int .i64 0) := HZ.out.cell 4
  have z5 : W7.cell? ⟨w.heap.size, 5, none⟩ = some (.int .i64 0) := HZ.out.cell 5
  have f0 := HZ.out.frozen 0
  have f1 := HZ.out.frozen 1
  have f2 := HZ.out.frozen 2
  have f3 := HZ.out.frozen 3
  have f4 := HZ.out.frozen 4
  have f5 := HZ.out.frozen 5
  have HQ := kept (And.intro (set6_blk HZ.out (.slice none 0 0) (.slice none 0 0) (.int .i64 0) (.int .i64 0) (.int .i64 0) (.int .i64 0)) (set6_below (q := w.heap.size) HB.out (Nat.le_refl _) (.slice none 0 0) (.slice none 0 0) (.int .i64 0) (.int .i64 0) (.int .i64 0) (.int .i64 0)))
  go_wp2
  obtain ⟨hq, hB⟩ := HQ.out
  unfold set6 at hq hB
  generalize ((((((W7.setCell ⟨w.heap.size, 0, none⟩ (.slice none 0 0)).setCell ⟨w.heap.size, 1, none⟩ (.slice none 0 0)).setCell ⟨w.heap.size, 2, none⟩ (.int .i64 0)).setCell ⟨w.heap.size, 3, none⟩ (.int .i64 0)).setCell ⟨w.heap.size, 4, none⟩ (.int .i64 0)).setCell ⟨w.heap.size, 5, none⟩ (.int .i64 0)) = Y at hq hB ⊢
  have y0 : Y.cell? ⟨w.heap.size, 0, none⟩ = some (.slice none 0 0) := hq.cell 0
  have y1 : Y.cell? ⟨w.heap.size, 1, none⟩ = some (.slice none 0 0) := hq.cell 1
  have y2 : Y.cell? ⟨w.heap.size, 2, none⟩ = some (.int .i64 0) := hq.cell 2
  have y3 : Y.cell? ⟨w.heap.size, 3, none⟩ = some (.int .i64 0) := hq.cell 3
  have y4 : Y.cell? ⟨w.heap.size, 4, none⟩ = some (.int .i64 0) := hq.cell 4
  have y5 : Y.cell? ⟨w.heap.size, 5, none⟩ = some (.int .i64 0) := hq.cell 5
  refine bodyPost_ret (v := .tuple #[.agg #[.slice none 0 0, .slice none 0 0, .int .i64 0, .int .i64 0, .int .i64 0, .int .i64 0], .bool false, .bool false]) ?_ rfl ?_
  · simp [results, Try.results20, go_sem, y0, y1, y2, y3, y4, y5]
  · exact ⟨⟨none, 0, 0, none, 0, 0⟩, rfl, ⟨Rd.nil_ _ _, Rd.nil_ _ _, Nat.le_refl _, Nat.le_refl _, Nat.zero_le _, Nat.zero_le _⟩, hB⟩
set_option maxRecDepth 100000 in
set_option maxHeartbeats 2000000 in
theorem refDec_t3 (a : Addr) (n c : Nat) (xs : List UInt8) (w : World) (hr : Rd w (some a) n xs) (hnc : n ≤ c) (hn : n ≤ 140737488351232) (x0 : Nat) (h0 : w.cell? (a.add 0) = some (.int .u8 (x0 : Int))) (hpos : 0 < n) (p2 : Nat) (er : Int) (key : List UInt8)
    (hT : rtextX xs 64 (1, 0) = (key, (p2, er))) (hx : ((x0 : Int) == 2) = true) (he : er = 0) (hk : key ≠ []) (hs : decide (headB 2 key = xs) = false) :
    Calls Try.prog 20 #[.slice (some a) n c] w fun e w' => ∃ L, e = .returned (.tuple #[vkv L zeroKv, .bool false, .bool false]) ∧ RdV w' L zeroKv ∧ Below w.heap.size w w' := by
  subst he
  have hb1 := (Below.refl w.heap.size w).alloc (Nat.le_refl _) (.cells #[.slice none 0 0, .slice none 0 0, .int .i64 0, .int .i64 0, .int .i64 0, .int .i64 0] 24)
  have hz1 := Blk.new w 24 #[.slice none 0 0, .slice none 0 0, .int .i64 0, .int .i64 0, .int .i64 0, .int .i64 0]
  have hs1 : (w.alloc (.cells #[.slice none 0 0, .slice none 0 0, .int .i64 0, .int .i64 0, .int .i64 0, .int .i64 0] 24)).heap.size = w.heap.size + 1 := World.size_alloc ..
  have hb2 := (Below.refl (w.alloc (.cells #[.slice none 0 0, .slice none 0 0, .int .i64 0, .int .i64 0, .int .i64 0, .int .i64 0] 24)).heap.size (w.alloc (.cells #[.slice none 0 0, .slice none 0 0, .int .i64 0, .int .i64 0, .int .i64 0, .int .i64 0] 24))).alloc (Nat.le_refl _) (.cells #[.slice (some a) n c, .int .i64 1, .int .i64 0] 56)
  have hr2 := Blk.new (w.alloc (.cells #[.slice none 0 0, .slice none 0 0, .int .i64 0, .int .i64 0, .int .i64 0, .int .i64 0] 24)) 56 #[.slice (some a) n c, .int .i64 1, .int .i64 0]
  have hs2 : ((w.alloc (.cells #[.slice none 0 0, .slice none 0 0, .int .i64 0, .int .i64 0, .int .i64 0, .int .i64 0] 24)).alloc (.cells #[.slice (some a) n c, .int .i64 1, .int .i64 0] 56)).heap.size = w.heap.size + 1 + 1 := by rw [World.size_alloc, hs1]
  have hb3 := (Below.refl ((w.alloc (.cells #[.slice none 0 0, .slice none 0 0, .int .i64 0, .int .i64 0, .int .i64 0, .int .i64 0] 24)).alloc (.cells #[.slice (some a) n c, .int .i64 1, .int .i64 0] 56)).heap.size ((w.alloc (.cells #[.slice none 0 0, .slice none 0 0, .int .i64 0, .int .i64 0, .int .i64 0, .int .i64 0] 24)).alloc (.cells #[.slice (some a) n c, .int .i64 1, .int .i64 0] 56))).alloc (Nat.le_refl _) (.cells #[.slice none 0 0, .slice none 0 0, .int .i64 0, .int .i64 0, .int .i64 0, .int .i64 0] 24)
  have hg3 := Blk.new ((w.alloc (.cells #[.slice none 0 0, .slice none 0 0, .int .i64 0, .int .i64 0, .int .i64 0, .int .i64 0] 24)).alloc (.cells #[.slice (some a) n c, .int .i64 1, .int .i64 0] 56)) 24 #[.slice none 0 0, .slice none 0 0, .int .i64 0, .int .i64 0, .int .i64 0, .int .i64 0]
  have hs3 : (((w.alloc (.cells #[.slice none 0 0, .slice none 0 0, .int .i64 0, .int .i64 0, .int .i64 0, .int .i64 0] 24)).alloc (.cells #[.slice (some a) n c, .int .i64 1, .int .i64 0] 56)).alloc (.cells #[.slice none 0 0, .slice none 0 0, .int .i64 0, .int .i64 0, .int .i64 0, .int .i64 0] 24)).heap.size = w.heap.size + 1 + 1 + 1 := by rw [World.size_alloc, hs2]
  have hB3 := bel_to hb3 (bel_to hb2 hb1)
  have hR3 := hr.below hB3
  have hz3 := (hz1.below hb2 (Blk.lt hz1)).below hb3 (Blk.lt (hz1.below hb2 (Blk.lt hz1)))
  have hr3 := hr2.below hb3 (Blk.lt hr2)
  rw [hs1] at hr3
  rw [hs2] at hg3
  have hX3 : RY (((w.alloc (.cells #[.slice none 0 0, .slice none 0 0, .int .i64 0, .int .i64 0, .int .i64 0, .int .i64 0] 24)).alloc (.cells #[.slice (some a) n c, .int .i64 1, .int .i64 0] 56)).alloc (.cells #[.slice none 0 0, .slice none 0 0, .int .i64 0, .int .i64 0, .int .i64 0, .int .i64 0] 24)) (w.heap.size + 1) (some a) n c xs (1, 0) := ⟨⟨hr3, hR3⟩, hpos, hnc, by show n ≤ _; omega⟩
  have hlt := World.block_lt_of_cell? w _ h0
  rw [add_block] at hlt
  have h03 := (hB3.cell (p := a.add 0) (by rw [add_block]; exact hlt)).trans h0
  have N1 := fun W r A c (q : RY W r A n c xs (1, 0)) => refTextX64 r A n c xs (1, 0) W q
  simp only [hT] at N1
  have N1 := kept N1
  have HLK : Hid (key.length ≤ 64) := kept (by have := rtextX_len (xs := xs) (most := 64) (s := (1, 0)); rw [hT] at this; exact this)
  obtain ⟨W3, hW⟩ : ∃ W3, W3 = (((w.alloc (.cells #[.slice none 0 0, .slice none 0 0, .int .i64 0, .int .i64 0, .int .i64 0, .int .i64 0] 24)).alloc (.cells #[.slice (some a) n c, .int .i64 1, .int .i64 0] 56)).alloc (.cells #[.slice none 0 0, .slice none 0 0, .int .i64 0, .int .i64 0, .int .i64 0, .int .i64 0] 24)) := ⟨_, rfl⟩
  have HW := kept hW
  rw [← hW] at hB3 hR3 hz3 hg3 hX3 h03 hs3
  have HB3 := kept hB3
  have HZ3 := kept hz3
  have HG3 := kept hg3
  have HX3 := kept hX3
  have HC3 := kept h03
  have HS3 := kept hs3
  have HLT := kept hlt
  have HR0 := kept hr
  have HN := kept hn
  have HNP := kept hpos
  have HAP : ∀ g, w.heap.size ≤ g → apartA (some a) n g := fun g hg => hr.fresh hg
  have HAP := kept HAP
  have hnn : ((n : Int) == 0) = false := by simp; omega
  clear hb1 hz1 hs1 hb2 hr2 hs2 hb3 hg3 hB3 hR3 hz3 hr3 hX3 hlt h03 hr hn hpos hT hW hs3
  go_enter Try.func20, Try.ntmps20
  go_wp2_with fail
  rw [← HW.out]
  with_reducible refine (N1.out _ _ _ _ HX3.out).mono ?_
  rintro e w4 ⟨A1, n1, c1, rfl, hrd, hq⟩
  have hs4 : w.heap.size + 1 + 1 + 1 ≤ w4.heap.size := by have := hq.out.2.size; rw [HS3.out] at this; exact this
  have hz4 := Only.far_blk HZ3.out hq.out.2 (by omega)
  have hg4 := Only.far_blk HG3.out hq.out.2 (by omega)
  have hb4 := Only.below HB3.out hq.out.2 HB3.out.size (by omega)
  have hc4 : w4.cell? (a.add 0) = some (.int .u8 (x0 : Int)) := (hb4.cell (p := a.add 0) (by rw [add_block]; exact HLT.out)).trans h0
  have z0 : w4.cell? ⟨w.heap.size + 1 + 1, 0, none⟩ = some (.slice none 0 0) := hg4.cell 0
  have f0 := hg4.frozen 0
  have HNW : Hid (∀ g, g < w.heap.size + 1 + 1 + 1 → apartA A1 n1 g) := kept (fun g hg => hrd.out.2.1 g (by rw [HS3.out]; exact hg))
  have HL1 := kept hrd.out.2.2
  have HX4 := kept (hq.out.1.set_ (g := w.heap.size + 1 + 1) (by omega) (HAP.out _ (by omega)) 0 (.slice A1 n1 c1))
  have HR4 := kept (hrd.out.1.grown (HNW.out _ (by omega)) ((Only.refl w4 (w.heap.size + 1 + 1)).setCell 0 (.slice A1 n1 c1)))
  have HZ4 := kept (hz4.far (p := ⟨w.heap.size + 1 + 1, 0, none⟩) (by simp <;> omega) (.slice A1 n1 c1))
  have HG4 : Hid (Blk (w4.setCell ⟨w.heap.size + 1 + 1, 0, none⟩ (.slice A1 n1 c1)) (w.heap.size + 1 + 1) 24 [.slice A1 n1 c1, .slice none 0 0, .int .i64 0, .int .i64 0, .int .i64 0, .int .i64 0]) := kept (hg4.set_ 0 (.slice A1 n1 c1))
  have HB4 := kept (hb4.setCell (p := ⟨w.heap.size + 1 + 1, 0, none⟩) (show w.heap.size ≤ w.heap.size + 1 + 1 by omega) (.slice A1 n1 c1))
  have hc5 : (w4.setCell ⟨w.heap.size + 1 + 1, 0, none⟩ (.slice A1 n1 c1)).cell? (a.add 0) = some (.int .u8 (x0 : Int)) := (HB4.out.cell (p := a.add 0) (by rw [add_block]; exact HLT.out)).trans h0
  have ha0 : a.add 0 = a := by unfold Addr.add; simp
  rw [ha0] at hc5
  have HRX4 := kept (HR0.out.below HB4.out)
  have HS4 : Hid (w.heap.size + 1 + 1 + 1 ≤ (w4.setCell ⟨w.heap.size + 1 + 1, 0, none⟩ (.slice A1 n1 c1)).heap.size) := kept (by simpa [World.setCell] using hs4)
  have e2 : (w4.setCell ⟨w.heap.size + 1 + 1, 0, none⟩ (.slice A1 n1 c1)).cell? ⟨w.heap.size + 1, 2, none⟩ = some (.int .i64 0) := HX4.out.1.error
  have q0 : (w4.setCell ⟨w.heap.size + 1 + 1, 0, none⟩ (.slice A1 n1 c1)).cell? ⟨w.heap.size + 1 + 1, 0, none⟩ = some (.slice A1 n1 c1) := HG4.out.cell 0
  clear hrd hq hz4 hg4 hb4 hs4 HX3 HZ3 HG3 HB3
  have hn0 : 0 < n1 := by have := HR4.out.1; cases key with | nil => exact absurd rfl hk | cons a l => rw [← this]; simp
  have hd0 : decide (0 < n1) = true := by simp [hn0]
  have hd1 : decide ((0 : Int) < (n1 : Int)) = true := by simp; omega
  have HTB := kept (refTomb_k A1 n1 c1 key _ HR4.out (by have := HL1.out.2; omega))
  clear hk
  go_wp2_with fail
  with_reducible refine HTB.out.mono ?_
  rintro e w5 ⟨A5, c5, rfl, hown, hb⟩
  have HSM := kept (same_any A5 (some a) (3 + n1) n c5 c _ xs w5 (Rd.of_own hown) (HRX4.out.below hb) _ hs)
  have HZ5 := kept (HZ4.out.below hb HZ4.out.lt)
  have HG5 := kept (HG4.out.below hb HG4.out.lt)
  have HB5 := kept (HB4.out.trans (hb.mono HB4.out.size))
  have HR5 := kept (HR4.out.below hb)
  clear hown hb f0 z0 hc5 e2 q0 HX4 hc4 HTB
  go_wp2_with fail
  with_reducible refine HSM.out.mono ?_
  rintro e w6 ⟨rfl, rfl⟩
  clear HSM hn0 hd0 hd1
  go_upto_region 9 with fail
  have HG : Hid (Blk w5 (w.heap.size + 1 + 1) 24 [.slice A1 n1 c1, .slice none 0 0, .int .i64 0, .int .i64 0, .int .i64 0, .int .i64 0]) := kept (HG5.out)
  have HZ : Hid (Blk w5 w.heap.size 24 [.slice none 0 0, .slice none 0 0, .int .i64 0, .int .i64 0, .int .i64 0, .int .i64 0]) := kept (HZ5.out)
  have HB : Hid (Below w.heap.size w w5) := kept (HB5.out)
  have HR : Hid (Rd w5 A1 n1 key ∧ Rd w5 none 0 [] ∧ apartA A1 n1 w.heap.size ∧ apartA none 0 w.heap.size) := kept (⟨HR5.out, Rd.nil_ _ _, HNW.out _ (by omega), fun a e => by cases e⟩)
  have HL : Hid (n1 ≤ c1 ∧ 0 ≤ 0 ∧ n1 ≤ 140737488351232 ∧ 0 ≤ 140737488351232) := kept (⟨HL1.out.1, Nat.le_refl _, by have := HL1.out.2; omega, Nat.zero_le _⟩)
  obtain ⟨W7, hW7⟩ : ∃ W7, W7 = w5 := ⟨_, rfl⟩
  rw [← hW7] at HG HZ HB HR ⊢
  clear hW7
  have z0 : W7.cell? ⟨w.heap.size, 0, none⟩ = some (.slice none 0 0) := HZ.out.cell 0
  have z1 : W7.cell? ⟨w.heap.size, 1, none⟩ = some (.slice none 0 0) := HZ.out.cell 1
  have z2 : W7.cell? ⟨w.heap.size, 2, none⟩ = some (.int .i64 0) := HZ.out.cell 2
  have z3 : W7.cell? ⟨w.heap.size, 3, none⟩ = some (.int .i64 0) := HZ.out.cell 3
  have z4 : W7.cell? ⟨w.heap.size, 4, none⟩ = some (.int .i64 0) := HZ.out.cell 4
  have z5 : W7.cell? ⟨w.heap.size, 5, none⟩ = some (.int .i64 0) := HZ.out.cell 5
  have f0 := HZ.out.frozen 0
  have f1 := HZ.out.frozen 1
  have f2 := HZ.out.frozen 2
  have f3 := HZ.out.frozen 3
  have f4 := HZ.out.frozen 4
  have f5 := HZ.out.frozen 5
  have HQ := kept (And.intro (set6_blk HZ.out (.slice none 0 0) (.slice none 0 0) (.int .i64 0) (.int .i64 0) (.int .i64 0) (.int .i64 0)) (set6_below (q := w.heap.size) HB.out (Nat.le_refl _) (.slice none 0 0) (.slice none 0 0) (.int .i64 0) (.int .i64 0) (.int .i64 0) (.int .i64 0)))
  go_wp2
  obtain ⟨hq, hB⟩ := HQ.out
  unfold set6 at hq hB
  generalize ((((((W7.setCell ⟨w.heap.size, 0, none⟩ (.slice none 0 0)).setCell ⟨w.heap.size, 1, none⟩ (.slice none 0 0)).setCell ⟨w.heap.size, 2, none⟩ (.int .i64 0)).setCell ⟨w.heap.size, 3, none⟩ (.int .i64 0)).setCell ⟨w.heap.size, 4, none⟩ (.int .i64 0)).setCell ⟨w.heap.size, 5, none⟩ (.int .i64 0)) = Y at hq hB ⊢
  have y0 : Y.cell? ⟨w.heap.size, 0, none⟩ = some (.slice none 0 0) := hq.cell 0
  have y1 : Y.cell? ⟨w.heap.size, 1, none⟩ = some (.slice none 0 0) := hq.cell 1
  have y2 : Y.cell? ⟨w.heap.size, 2, none⟩ = some (.int .i64 0) := hq.cell 2
  have y3 : Y.cell? ⟨w.heap.size, 3, none⟩ = some (.int .i64 0) := hq.cell 3
  have y4 : Y.cell? ⟨w.heap.size, 4, none⟩ = some (.int .i64 0) := hq.cell 4
  have y5 : Y.cell? ⟨w.heap.size, 5, none⟩ = some (.int .i64 0) := hq.cell 5
  refine bodyPost_ret (v := .tuple #[.agg #[.slice none 0 0, .slice none 0 0, .int .i64 0, .int .i64 0, .int .i64 0, .int .i64 0], .bool false, .bool false]) ?_ rfl ?_
  · simp [results, Try.results20, go_sem, y0, y1, y2, y3, y4, y5]
  · exact ⟨⟨none, 0, 0, none, 0, 0⟩, rfl, ⟨Rd.nil_ _ _, Rd.nil_ _ _, Nat.le_refl _, Nat.le_refl _, Nat.zero_le _, Nat.zero_le _⟩, hB⟩
set_option maxRecDepth 100000 in
set_option maxHeartbeats 2000000 in
theorem refDec_t4 (a : Addr) (n c : Nat) (xs : List UInt8) (w : World) (hr : Rd w (some a) n xs) (hnc : n ≤ c) (hn : n ≤ 140737488351232) (x0 : Nat) (h0 : w.cell? (a.add 0) = some (.int .u8 (x0 : Int))) (hpos : 0 < n) (p2 : Nat) (er : Int) (key : List UInt8)
    (hT : rtextX xs 64 (1, 0) = (key, (p2, er))) (hx : ((x0 : Int) == 2) = true) (he : er = 0) (hk : key ≠ []) (hs : decide (headB 2 key = xs) = true) :
    Calls Try.prog 20 #[.slice (some a) n c] w fun e w' => ∃ L, e = .returned (.tuple #[vkv L ⟨key, [], 0, 0, 0, 0⟩, .bool true, .bool true]) ∧ RdV w' L ⟨key, [], 0, 0, 0, 0⟩ ∧ Below w.heap.size w w' := by
  subst he
  have hb1 := (Below.refl w.heap.size w).alloc (Nat.le_refl _) (.cells #[.slice none 0 0, .slice none 0 0, .int .i64 0, .int .i64 0, .int .i64 0, .int .i64 0] 24)
  have hz1 := Blk.new w 24 #[.slice none 0 0, .slice none 0 0, .int .i64 0, .int .i64 0, .int .i64 0, .int .i64 0]
  have hs1 : (w.alloc (.cells #[.slice none 0 0, .slice none 0 0, .int .i64 0, .int .i64 0, .int .i64 0, .int .i64 0] 24)).heap.size = w.heap.size + 1 := World.size_alloc ..
  have hb2 := (Below.refl (w.alloc (.cells #[.slice none 0 0, .slice none 0 0, .int .i64 0, .int .i64 0, .int .i64 0, .int .i64 0] 24)).heap.size (w.alloc (.cells #[.slice none 0 0, .slice none 0 0, .int .i64 0, .int .i64 0, .int .i64 0, .int .i64 0] 24))).alloc (Nat.le_refl _) (.cells #[.slice (some a) n c, .int .i64 1, .int .i64 0] 56)
  have hr2 := Blk.new (w.alloc (.cells #[.slice none 0 0, .slice none 0 0, .int .i64 0, .int .i64 0, .int .i64 0, .int .i64 0] 24)) 56 #[.slice (some a) n c, .int .i64 1, .int .i64 0]
  have hs2 : ((w.alloc (.cells #[.slice none 0 0, .slice none 0 0, .int .i64 0, .int .i64 0, .int .i64 0, .int .i64 0] 24)).alloc (.cells #[.slice (some a) n c, .int .i64 1, .int .i64 0] 56)).heap.size = w.heap.size + 1 + 1 := by rw [World.size_alloc, hs1]
  have hb3 := (Below.refl ((w.alloc (.cells #[.slice none 0 0, .slice none 0 0, .int .i64 0, .int .i64 0, .int .i64 0, .int .i64 0] 24)).alloc (.cells #[.slice (some a) n c, .int .i64 1, .int .i64 0] 56)).heap.size ((w.alloc (.cells #[.slice none 0 0, .slice none 0 0, .int .i64 0, .int .i64 0, .int .i64 0, .int .i64 0] 24)).alloc (.cells #[.slice (some a) n c, .int .i64 1, .int .i64 0] 56))).alloc (Nat.le_refl _) (.cells #[.slice none 0 0, .slice none 0 0, .int .i64 0, .int .i64 0, .int .i64 0, .int .i64 0] 24)
  have hg3 := Blk.new ((w.alloc (.cells #[.slice none 0 0, .slice none 0 0, .int .i64 0, .int .i64 0, .int .i64 0, .int .i64 0] 24)).alloc (.cells #[.slice (some a) n c, .int .i64 1, .int .i64 0] 56)) 24 #[.slice none 0 0, .slice none 0 0, .int .i64 0, .int .i64 0, .int .i64 0, .int .i64 0]
  have hs3 : (((w.alloc (.cells #[.slice none 0 0, .slice none 0 0, .int .i64 0, .int .i64 0, .int .i64 0, .int .i64 0] 24)).alloc (.cells #[.slice (some a) n c, .int .i64 1, .int .i64 0] 56)).alloc (.cells #[.slice none 0 0, .slice none 0 0, .int .i64 0, .int .i64 0, .int .i64 0, .int .i64 0] 24)).heap.size = w.heap.size + 1 + 1 + 1 := by rw [World.size_alloc, hs2]
  have hB3 := bel_to hb3 (bel_to hb2 hb1)
  have hR3 := hr.below hB3
  have hz3 := (hz1.below hb2 (Blk.lt hz1)).below hb3 (Blk.lt (hz1.below hb2 (Blk.lt hz1)))
  have hr3 := hr2.below hb3 (Blk.lt hr2)
  rw [hs1] at hr3
  rw [hs2] at hg3
  have hX3 : RY (((w.alloc (.cells #[.slice none 0 0, .slice none 0 0, .int .i64 0, .int .i64 0, .int .i64 0, .int .i64 0] 24)).alloc (.cells #[.slice (some a) n c, .int .i64 1, .int .i64 0] 56)).alloc (.cells #[.slice none 0 0, .slice none 0 0, .int .i64 0, .int .i64 0, .int .i64 0, .int .i64 0] 24)) (w.heap.size + 1) (some a) n c xs (1, 0) := ⟨⟨hr3, hR3⟩, hpos, hnc, by show n ≤ _; omega⟩
  have hlt := World.block_lt_of_cell? w _ h0
  rw [add_block] at hlt
  have h03 := (hB3.cell (p := a.add 0) (by rw [add_block]; exact hlt)).trans h0
  have N1 := fun W r A c (q : RY W r A n c xs (1, 0)) => refTextX64 r A n c xs (1, 0) W q
  simp only [hT] at N1
  have N1 := kept N1
  have HLK : Hid (key.length ≤ 64) := kept (by have := rtextX_len (xs := xs) (most := 64) (s := (1, 0)); rw [hT] at this; exact this)
  obtain ⟨W3, hW⟩ : ∃ W3, W3 = (((w.alloc (.cells #[.slice none 0 0, .slice none 0 0, .int .i64 0, .int .i64 0, .int .i64 0, .int .i64 0] 24)).alloc (.cells #[.slice (some a) n c, .int .i64 1, .int .i64 0] 56)).alloc (.cells #[.slice none 0 0, .slice none 0 0, .int .i64 0, .int .i64 0, .int .i64 0, .int .i64 0] 24)) := ⟨_, rfl⟩
  have HW := kept hW
  rw [← hW] at hB3 hR3 hz3 hg3 hX3 h03 hs3
  have HB3 := kept hB3
  have HZ3 := kept hz3
  have HG3 := kept hg3
  have HX3 := kept hX3
  have HC3 := kept h03
  have HS3 := kept hs3
  have HLT := kept hlt
  have HR0 := kept hr
  have HN := kept hn
  have HNP := kept hpos
  have HAP : ∀ g, w.heap.size ≤ g → apartA (some a) n g := fun g hg => hr.fresh hg
  have HAP := kept HAP
  have hnn : ((n : Int) == 0) = false := by simp; omega
  clear hb1 hz1 hs1 hb2 hr2 hs2 hb3 hg3 hB3 hR3 hz3 hr3 hX3 hlt h03 hr hn hpos hT hW hs3
  go_enter Try.func20, Try.ntmps20
  go_wp2_with fail
  rw [← HW.out]
  with_reducible refine (N1.out _ _ _ _ HX3.out).mono ?_
  rintro e w4 ⟨A1, n1, c1, rfl, hrd, hq⟩
  have hs4 : w.heap.size + 1 + 1 + 1 ≤ w4.heap.size := by have := hq.out.2.size; rw [HS3.out] at this; exact this
  have hz4 := Only.far_blk HZ3.out hq.out.2 (by omega)
  have hg4 := Only.far_blk HG3.out hq.out.2 (by omega)
  have hb4 := Only.below HB3.out hq.out.2 HB3.out.size (by omega)
  have hc4 : w4.cell? (a.add 0) = some (.int .u8 (x0 : Int)) := (hb4.cell (p := a.add 0) (by rw [add_block]; exact HLT.out)).trans h0
  have z0 : w4.cell? ⟨w.heap.size + 1 + 1, 0, none⟩ = some (.slice none 0 0) := hg4.cell 0
  have f0 := hg4.frozen 0
  have HNW : Hid (∀ g, g < w.heap.size + 1 + 1 + 1 → apartA A1 n1 g) := kept (fun g hg => hrd.out.2.1 g (by rw [HS3.out]; exact hg))
  have HL1 := kept hrd.out.2.2
  have HX4 := kept (hq.out.1.set_ (g := w.heap.size + 1 + 1) (by omega) (HAP.out _ (by omega)) 0 (.slice A1 n1 c1))
  have HR4 := kept (hrd.out.1.grown (HNW.out _ (by omega)) ((Only.refl w4 (w.heap.size + 1 + 1)).setCell 0 (.slice A1 n1 c1)))
  have HZ4 := kept (hz4.far (p := ⟨w.heap.size + 1 + 1, 0, none⟩) (by simp <;> omega) (.slice A1 n1 c1))
  have HG4 : Hid (Blk (w4.setCell ⟨w.heap.size + 1 + 1, 0, none⟩ (.slice A1 n1 c1)) (w.heap.size + 1 + 1) 24 [.slice A1 n1 c1, .slice none 0 0, .int .i64 0, .int .i64 0, .int .i64 0, .int .i64 0]) := kept (hg4.set_ 0 (.slice A1 n1 c1))
  have HB4 := kept (hb4.setCell (p := ⟨w.heap.size + 1 + 1, 0, none⟩) (show w.heap.size ≤ w.heap.size + 1 + 1 by omega) (.slice A1 n1 c1))
  have hc5 : (w4.setCell ⟨w.heap.size + 1 + 1, 0, none⟩ (.slice A1 n1 c1)).cell? (a.add 0) = some (.int .u8 (x0 : Int)) := (HB4.out.cell (p := a.add 0) (by rw [add_block]; exact HLT.out)).trans h0
  have ha0 : a.add 0 = a := by unfold Addr.add; simp
  rw [ha0] at hc5
  have HRX4 := kept (HR0.out.below HB4.out)
  have HS4 : Hid (w.heap.size + 1 + 1 + 1 ≤ (w4.setCell ⟨w.heap.size + 1 + 1, 0, none⟩ (.slice A1 n1 c1)).heap.size) := kept (by simpa [World.setCell] using hs4)
  have e2 : (w4.setCell ⟨w.heap.size + 1 + 1, 0, none⟩ (.slice A1 n1 c1)).cell? ⟨w.heap.size + 1, 2, none⟩ = some (.int .i64 0) := HX4.out.1.error
  have q0 : (w4.setCell ⟨w.heap.size + 1 + 1, 0, none⟩ (.slice A1 n1 c1)).cell? ⟨w.heap.size + 1 + 1, 0, none⟩ = some (.slice A1 n1 c1) := HG4.out.cell 0
  clear hrd hq hz4 hg4 hb4 hs4 HX3 HZ3 HG3 HB3
  have hn0 : 0 < n1 := by have := HR4.out.1; cases key with | nil => exact absurd rfl hk | cons a l => rw [← this]; simp
  have hd0 : decide (0 < n1) = true := by simp [hn0]
  have hd1 : decide ((0 : Int) < (n1 : Int)) = true := by simp; omega
  have HTB := kept (refTomb_k A1 n1 c1 key _ HR4.out (by have := HL1.out.2; omega))
  clear hk
  go_wp2_with fail
  with_reducible refine HTB.out.mono ?_
  rintro e w5 ⟨A5, c5, rfl, hown, hb⟩
  have HSM := kept (same_any A5 (some a) (3 + n1) n c5 c _ xs w5 (Rd.of_own hown) (HRX4.out.below hb) _ hs)
  have HZ5 := kept (HZ4.out.below hb HZ4.out.lt)
  have HG5 := kept (HG4.out.below hb HG4.out.lt)
  have HB5 := kept (HB4.out.trans (hb.mono HB4.out.size))
  have HR5 := kept (HR4.out.below hb)
  clear hown hb f0 z0 hc5 e2 q0 HX4 hc4 HTB
  go_wp2_with fail
  with_reducible refine HSM.out.mono ?_
  rintro e w6 ⟨rfl, rfl⟩
  clear HSM hn0 hd0 hd1
  go_upto_region 8 with fail
  have HG : Hid (Blk w5 (w.heap.size + 1 + 1) 24 [.slice A1 n1 c1, .slice none 0 0, .int .i64 0, .int .i64 0, .int .i64 0, .int .i64 0]) := kept (HG5.out)
  have HZ : Hid (Blk w5 w.heap.size 24 [.slice none 0 0, .slice none 0 0, .int .i64 0, .int .i64 0, .int .i64 0, .int .i64 0]) := kept (HZ5.out)
  have HB : Hid (Below w.heap.size w w5) := kept (HB5.out)
  have HR : Hid (Rd w5 A1 n1 key ∧ Rd w5 none 0 [] ∧ apartA A1 n1 w.heap.size ∧ apartA none 0 w.heap.size) := kept (⟨HR5.out, Rd.nil_ _ _, HNW.out _ (by omega), fun a e => by cases e⟩)
  have HL : Hid (n1 ≤ c1 ∧ 0 ≤ 0 ∧ n1 ≤ 140737488351232 ∧ 0 ≤ 140737488351232) := kept (⟨HL1.out.1, Nat.le_refl _, by have := HL1.out.2; omega, Nat.zero_le _⟩)
  obtain ⟨W7, hW7⟩ : ∃ W7, W7 = w5 := ⟨_, rfl⟩
  rw [← hW7] at HG HZ HB HR ⊢
  clear hW7
  have z0 : W7.cell? ⟨w.heap.size, 0, none⟩ = some (.slice none 0 0) := HZ.out.cell 0
  have z1 : W7.cell? ⟨w.heap.size, 1, none⟩ = some (.slice none 0 0) := HZ.out.cell 1
  have z2 : W7.cell? ⟨w.heap.size, 2, none⟩ = some (.int .i64 0) := HZ.out.cell 2
  have z3 : W7.cell? ⟨w.heap.size, 3, none⟩ = some (.int .i64 0) := HZ.out.cell 3
  have z4 : W7.cell? ⟨w.heap.size, 4, none⟩ = some (.int .i64 0) := HZ.out.cell 4
  have z5 : W7.cell? ⟨w.heap.size, 5, none⟩ = some (.int .i64 0) := HZ.out.cell 5
  have f0 := HZ.out.frozen 0
  have f1 := HZ.out.frozen 1
  have f2 := HZ.out.frozen 2
  have f3 := HZ.out.frozen 3
  have f4 := HZ.out.frozen 4
  have f5 := HZ.out.frozen 5
  have k0 : W7.cell? ⟨w.heap.size + 1 + 1, 0, none⟩ = some (.slice A1 n1 c1) := HG.out.cell 0
  have k1 : W7.cell? ⟨w.heap.size + 1 + 1, 1, none⟩ = some (.slice none 0 0) := HG.out.cell 1
  have k2 : W7.cell? ⟨w.heap.size + 1 + 1, 2, none⟩ = some (.int .i64 0) := HG.out.cell 2
  have k3 : W7.cell? ⟨w.heap.size + 1 + 1, 3, none⟩ = some (.int .i64 0) := HG.out.cell 3
  have k4 : W7.cell? ⟨w.heap.size + 1 + 1, 4, none⟩ = some (.int .i64 0) := HG.out.cell 4
  have k5 : W7.cell? ⟨w.heap.size + 1 + 1, 5, none⟩ = some (.int .i64 0) := HG.out.cell 5
  have HQ := kept (And.intro (set6_blk HZ.out (.slice A1 n1 c1) (.slice none 0 0) (.int .i64 0) (.int .i64 0) (.int .i64 0) (.int .i64 0)) (set6_below (q := w.heap.size) HB.out (Nat.le_refl _) (.slice A1 n1 c1) (.slice none 0 0) (.int .i64 0) (.int .i64 0) (.int .i64 0) (.int .i64 0)))
  have HRV : Hid (RdV (set6 W7 w.heap.size (.slice A1 n1 c1) (.slice none 0 0) (.int .i64 0) (.int .i64 0) (.int .i64 0) (.int .i64 0)) ⟨A1, n1, c1, none, 0, 0⟩ ⟨key, [], 0, 0, 0, 0⟩) := kept ⟨Rd.grown HR.out.1 HR.out.2.2.1 (set6_only W7 w.heap.size (.slice A1 n1 c1) (.slice none 0 0) (.int .i64 0) (.int .i64 0) (.int .i64 0) (.int .i64 0)), Rd.grown HR.out.2.1 HR.out.2.2.2 (set6_only W7 w.heap.size (.slice A1 n1 c1) (.slice none 0 0) (.int .i64 0) (.int .i64 0) (.int .i64 0) (.int .i64 0)), HL.out.1, HL.out.2.1, HL.out.2.2.1, HL.out.2.2.2⟩
  go_wp2
  obtain ⟨hq, hB⟩ := HQ.out
  have hV := HRV.out
  unfold set6 at hV
  unfold set6 at hq hB
  generalize ((((((W7.setCell ⟨w.heap.size, 0, none⟩ (.slice A1 n1 c1)).setCell ⟨w.heap.size, 1, none⟩ (.slice none 0 0)).setCell ⟨w.heap.size, 2, none⟩ (.int .i64 0)).setCell ⟨w.heap.size, 3, none⟩ (.int .i64 0)).setCell ⟨w.heap.size, 4, none⟩ (.int .i64 0)).setCell ⟨w.heap.size, 5, none⟩ (.int .i64 0)) = Y at hq hB hV ⊢
  have y0 : Y.cell? ⟨w.heap.size, 0, none⟩ = some (.slice A1 n1 c1) := hq.cell 0
  have y1 : Y.cell? ⟨w.heap.size, 1, none⟩ = some (.slice none 0 0) := hq.cell 1
  have y2 : Y.cell? ⟨w.heap.size, 2, none⟩ = some (.int .i64 0) := hq.cell 2
  have y3 : Y.cell? ⟨w.heap.size, 3, none⟩ = some (.int .i64 0) := hq.cell 3
  have y4 : Y.cell? ⟨w.heap.size, 4, none⟩ = some (.int .i64 0) := hq.cell 4
  have y5 : Y.cell? ⟨w.heap.size, 5, none⟩ = some (.int .i64 0) := hq.cell 5
  refine bodyPost_ret (v := .tuple #[.agg #[.slice A1 n1 c1, .slice none 0 0, .int .i64 0, .int .i64 0, .int .i64 0, .int .i64 0], .bool true, .bool true]) ?_ rfl ?_
  · simp [results, Try.results20, go_sem, y0, y1, y2, y3, y4, y5]
  · exact ⟨⟨A1, n1, c1, none, 0, 0⟩, rfl, hV, hB⟩
set_option maxRecDepth 100000 in
set_option maxHeartbeats 2000000 in
theorem refDec_k1 (a : Addr) (n c : Nat) (xs : List UInt8) (w : World) (hr : Rd w (some a) n xs) (hnc : n ≤ c) (hn : n ≤ 140737488351232) (x0 : Nat) (h0 : w.cell? (a.add 0) = some (.int .u8 (x0 : Int))) (hpos : 0 < n) (s2 : Nat × Int) (key : List UInt8)
    (hT : rtextX xs 64 (1, 0) = (key, s2)) (hx : ((x0 : Int) == 2) = false)
    (s3 s4 s5 s6 : Nat × Int) (p7 : Nat) (er : Int) (v1 v2 v3 v4 : Nat) (t : List UInt8) (h1 : rnumX xs 8 s2 = (v1, s3)) (h2 : rnumX xs 8 s3 = (v2, s4)) (h3 : rnumX xs 8 s4 = (v3, s5)) (h4 : rnumX xs 8 s5 = (v4, s6)) (h5 : rtextX xs 1024 s6 = (t, (p7, er))) (he : (er != 0) = true) :
    Calls Try.prog 20 #[.slice (some a) n c] w fun e w' => ∃ L, e = .returned (.tuple #[vkv L zeroKv, .bool false, .bool false]) ∧ RdV w' L zeroKv ∧ Below w.heap.size w w' := by
  have hb1 := (Below.refl w.heap.size w).alloc (Nat.le_refl _) (.cells #[.slice none 0 0, .slice none 0 0, .int .i64 0, .int .i64 0, .int .i64 0, .int .i64 0] 24)
  have hz1 := Blk.new w 24 #[.slice none 0 0, .slice none 0 0, .int .i64 0, .int .i64 0, .int .i64 0, .int .i64 0]
  have hs1 : (w.alloc (.cells #[.slice none 0 0, .slice none 0 0, .int .i64 0, .int .i64 0, .int .i64 0, .int .i64 0] 24)).heap.size = w.heap.size + 1 := World.size_alloc ..
  have hb2 := (Below.refl (w.alloc (.cells #[.slice none 0 0, .slice none 0 0, .int .i64 0, .int .i64 0, .int .i64 0, .int .i64 0] 24)).heap.size (w.alloc (.cells #[.slice none 0 0, .slice none 0 0, .int .i64 0, .int .i64 0, .int .i64 0, .int .i64 0] 24))).alloc (Nat.le_refl _) (.cells #[.slice (some a) n c, .int .i64 1, .int .i64 0] 56)
  have hr2 := Blk.new (w.alloc (.cells #[.slice none 0 0, .slice none 0 0, .int .i64 0, .int .i64 0, .int .i64 0, .int .i64 0] 24)) 56 #[.slice (some a) n c, .int .i64 1, .int .i64 0]
  have hs2 : ((w.alloc (.cells #[.slice none 0 0, .slice none 0 0, .int .i64 0, .int .i64 0, .int .i64 0, .int .i64 0] 24)).alloc (.cells #[.slice (some a) n c, .int .i64 1, .int .i64 0] 56)).heap.size = w.heap.size + 1 + 1 := by rw [World.size_alloc, hs1]
  have hb3 := (Below.refl ((w.alloc (.cells #[.slice none 0 0, .slice none 0 0, .int .i64 0, .int .i64 0, .int .i64 0, .int .i64 0] 24)).alloc (.cells #[.slice (some a) n c, .int .i64 1, .int .i64 0] 56)).heap.size ((w.alloc (.cells #[.slice none 0 0, .slice none 0 0, .int .i64 0, .int .i64 0, .int .i64 0, .int .i64 0] 24)).alloc (.cells #[.slice (some a) n c, .int .i64 1, .int .i64 0] 56))).alloc (Nat.le_refl _) (.cells #[.slice none 0 0, .slice none 0 0, .int .i64 0, .int .i64 0, .int .i64 0, .int .i64 0] 24)
  have hg3 := Blk.new ((w.alloc (.cells #[.slice none 0 0, .slice none 0 0, .int .i64 0, .int .i64 0, .int .i64 0, .int .i64 0] 24)).alloc (.cells #[.slice (some a) n c, .int .i64 1, .int .i64 0] 56)) 24 #[.slice none 0 0, .slice none 0 0, .int .i64 0, .int .i64 0, .int .i64 0, .int .i64 0]
  have hs3 : (((w.alloc (.cells #[.slice none 0 0, .slice none 0 0, .int .i64 0, .int .i64 0, .int .i64 0, .int .i64 0] 24)).alloc (.cells #[.slice (some a) n c, .int .i64 1, .int .i64 0] 56)).alloc (.cells #[.slice none 0 0, .slice none 0 0, .int .i64 0, .int .i64 0, .int .i64 0, .int .i64 0] 24)).heap.size = w.heap.size + 1 + 1 + 1 := by rw [World.size_alloc, hs2]
  have hB3 := bel_to hb3 (bel_to hb2 hb1)
  have hR3 := hr.below hB3
  have hz3 := (hz1.below hb2 (Blk.lt hz1)).below hb3 (Blk.lt (hz1.below hb2 (Blk.lt hz1)))
  have hr3 := hr2.below hb3 (Blk.lt hr2)
  rw [hs1] at hr3
  rw [hs2] at hg3
  have hX3 : RY (((w.alloc (.cells #[.slice none 0 0, .slice none 0 0, .int .i64 0, .int .i64 0, .int .i64 0, .int .i64 0] 24)).alloc (.cells #[.slice (some a) n c, .int .i64 1, .int .i64 0] 56)).alloc (.cells #[.slice none 0 0, .slice none 0 0, .int .i64 0, .int .i64 0, .int .i64 0, .int .i64 0] 24)) (w.heap.size + 1) (some a) n c xs (1, 0) := ⟨⟨hr3, hR3⟩, hpos, hnc, by show n ≤ _; omega⟩
  have hlt := World.block_lt_of_cell? w _ h0
  rw [add_block] at hlt
  have h03 := (hB3.cell (p := a.add 0) (by rw [add_block]; exact hlt)).trans h0
  have N1 := fun W r A c (q : RY W r A n c xs (1, 0)) => refTextX64 r A n c xs (1, 0) W q
  simp only [hT] at N1
  have N1 := kept N1
  have HLK : Hid (key.length ≤ 64) := kept (by have := rtextX_len (xs := xs) (most := 64) (s := (1, 0)); rw [hT] at this; exact this)
  obtain ⟨W3, hW⟩ : ∃ W3, W3 = (((w.alloc (.cells #[.slice none 0 0, .slice none 0 0, .int .i64 0, .int .i64 0, .int .i64 0, .int .i64 0] 24)).alloc (.cells #[.slice (some a) n c, .int .i64 1, .int .i64 0] 56)).alloc (.cells #[.slice none 0 0, .slice none 0 0, .int .i64 0, .int .i64 0, .int .i64 0, .int .i64 0] 24)) := ⟨_, rfl⟩
  have HW := kept hW
  rw [← hW] at hB3 hR3 hz3 hg3 hX3 h03 hs3
  have HB3 := kept hB3
  have HZ3 := kept hz3
  have HG3 := kept hg3
  have HX3 := kept hX3
  have HC3 := kept h03
  have HS3 := kept hs3
  have HLT := kept hlt
  have HR0 := kept hr
  have HN := kept hn
  have HNP := kept hpos
  have HAP : ∀ g, w.heap.size ≤ g → apartA (some a) n g := fun g hg => hr.fresh hg
  have HAP := kept HAP
  have hnn : ((n : Int) == 0) = false := by simp; omega
  clear hb1 hz1 hs1 hb2 hr2 hs2 hb3 hg3 hB3 hR3 hz3 hr3 hX3 hlt h03 hr hn hpos hT hW hs3
  have M1 := fun W r A c (q : RY W r A n c xs s2) => refNumX8 r A n c xs s2 W q
  have M2 := fun W r A c (q : RY W r A n c xs s3) => refNumX8 r A n c xs s3 W q
  have M3 := fun W r A c (q : RY W r A n c xs s4) => refNumX8 r A n c xs s4 W q
  have M4 := fun W r A c (q : RY W r A n c xs s5) => refNumX8 r A n c xs s5 W q
  have M5 := fun W r A c (q : RY W r A n c xs s6) => refTextX1024 r A n c xs s6 W q
  simp only [h1] at M1
  simp only [h2] at M2
  simp only [h3] at M3
  simp only [h4] at M4
  simp only [h5] at M5
  have M1 := kept M1
  have M2 := kept M2
  have M3 := kept M3
  have M4 := kept M4
  have M5 := kept M5
  clear h1 h2 h3 h4 h5
  go_enter Try.func20, Try.ntmps20
  go_wp2_with fail
  rw [← HW.out]
  with_reducible refine (N1.out _ _ _ _ HX3.out).mono ?_
  rintro e w4 ⟨A1, n1, c1, rfl, hrd, hq⟩
  have hs4 : w.heap.size + 1 + 1 + 1 ≤ w4.heap.size := by have := hq.out.2.size; rw [HS3.out] at this; exact this
  have hz4 := Only.far_blk HZ3.out hq.out.2 (by omega)
  have hg4 := Only.far_blk HG3.out hq.out.2 (by omega)
  have hb4 := Only.below HB3.out hq.out.2 HB3.out.size (by omega)
  have hc4 : w4.cell? (a.add 0) = some (.int .u8 (x0 : Int)) := (hb4.cell (p := a.add 0) (by rw [add_block]; exact HLT.out)).trans h0
  have z0 : w4.cell? ⟨w.heap.size + 1 + 1, 0, none⟩ = some (.slice none 0 0) := hg4.cell 0
  have f0 := hg4.frozen 0
  have HNW : Hid (∀ g, g < w.heap.size + 1 + 1 + 1 → apartA A1 n1 g) := kept (fun g hg => hrd.out.2.1 g (by rw [HS3.out]; exact hg))
  have HL1 := kept hrd.out.2.2
  have HX4 := kept (hq.out.1.set_ (g := w.heap.size + 1 + 1) (by omega) (HAP.out _ (by omega)) 0 (.slice A1 n1 c1))
  have HR4 := kept (hrd.out.1.grown (HNW.out _ (by omega)) ((Only.refl w4 (w.heap.size + 1 + 1)).setCell 0 (.slice A1 n1 c1)))
  have HZ4 := kept (hz4.far (p := ⟨w.heap.size + 1 + 1, 0, none⟩) (by simp <;> omega) (.slice A1 n1 c1))
  have HG4 : Hid (Blk (w4.setCell ⟨w.heap.size + 1 + 1, 0, none⟩ (.slice A1 n1 c1)) (w.heap.size + 1 + 1) 24 [.slice A1 n1 c1, .slice none 0 0, .int .i64 0, .int .i64 0, .int .i64 0, .int .i64 0]) := kept (hg4.set_ 0 (.slice A1 n1 c1))
  have HB4 := kept (hb4.setCell (p := ⟨w.heap.size + 1 + 1, 0, none⟩) (show w.heap.size ≤ w.heap.size + 1 + 1 by omega) (.slice A1 n1 c1))
  have hc5 : (w4.setCell ⟨w.heap.size + 1 + 1, 0, none⟩ (.slice A1 n1 c1)).cell? (a.add 0) = some (.int .u8 (x0 : Int)) := (HB4.out.cell (p := a.add 0) (by rw [add_block]; exact HLT.out)).trans h0
  have ha0 : a.add 0 = a := by unfold Addr.add; simp
  rw [ha0] at hc5
  have HRX4 := kept (HR0.out.below HB4.out)
  have HS4 : Hid (w.heap.size + 1 + 1 + 1 ≤ (w4.setCell ⟨w.heap.size + 1 + 1, 0, none⟩ (.slice A1 n1 c1)).heap.size) := kept (by simpa [World.setCell] using hs4)
  have e2 : (w4.setCell ⟨w.heap.size + 1 + 1, 0, none⟩ (.slice A1 n1 c1)).cell? ⟨w.heap.size + 1, 2, none⟩ = some (.int .i64 s2.2) := HX4.out.1.error
  have q0 : (w4.setCell ⟨w.heap.size + 1 + 1, 0, none⟩ (.slice A1 n1 c1)).cell? ⟨w.heap.size + 1 + 1, 0, none⟩ = some (.slice A1 n1 c1) := HG4.out.cell 0
  clear hrd hq hz4 hg4 hb4 hs4 HX3 HZ3 HG3 HB3
  have HQ1 := kept q0
  have HK0 : Hid (Rd (w4.setCell ⟨w.heap.size + 1 + 1, 0, none⟩ (.slice A1 n1 c1)) A1 n1 key) := HR4
  clear q0
  go_wp2_with fail
  with_reducible refine (M1.out _ _ _ _ HX4.out).mono ?_
  rintro e u1 ⟨rfl, hq⟩
  clear f0 z0 hc5 e2 hc4
  have hz := Only.far_blk HZ4.out hq.out.2 (by omega)
  have hg := Only.far_blk HG4.out hq.out.2 (by omega)
  have hb := Only.below HB4.out hq.out.2 HB4.out.size (by omega)
  have hk := HK0.out.grown (HNW.out _ (by omega)) hq.out.2
  have hs : w.heap.size + 1 + 1 + 1 ≤ u1.heap.size := Nat.le_trans HS4.out hq.out.2.size
  have g1 : u1.cell? ⟨w.heap.size + 1 + 1, 2, none⟩ = some (.int .i64 0) := hg.cell 2
  have l1 := hg.frozen 2
  have HX5 := kept (hq.out.1.set_ (g := w.heap.size + 1 + 1) (by omega) (HAP.out _ (by omega)) 2 (.int .i64 (wrap64 (v1 : Int))))
  have HZ5 := kept (hz.far (p := ⟨w.heap.size + 1 + 1, 2, none⟩) (by simp <;> omega) (.int .i64 (wrap64 (v1 : Int))))
  have HG5 : Hid (Blk (u1.setCell ⟨w.heap.size + 1 + 1, 2, none⟩ (.int .i64 (wrap64 (v1 : Int)))) (w.heap.size + 1 + 1) 24 [.slice A1 n1 c1, .slice none 0 0, .int .i64 (wrap64 (v1 : Int)), .int .i64 0, .int .i64 0, .int .i64 0]) := kept (hg.set_ 2 (.int .i64 (wrap64 (v1 : Int))))
  have HB5 := kept (hb.setCell (p := ⟨w.heap.size + 1 + 1, 2, none⟩) (show w.heap.size ≤ w.heap.size + 1 + 1 by omega) (.int .i64 (wrap64 (v1 : Int))))
  have HK5 := kept (hk.grown (HNW.out _ (by omega)) ((Only.refl u1 (w.heap.size + 1 + 1)).setCell 2 (.int .i64 (wrap64 (v1 : Int)))))
  have HS5 : Hid (w.heap.size + 1 + 1 + 1 ≤ (u1.setCell ⟨w.heap.size + 1 + 1, 2, none⟩ (.int .i64 (wrap64 (v1 : Int)))).heap.size) := kept (by simpa [World.setCell] using hs)
  clear hz hg hb hk hs hq HX4 HZ4 HG4 HB4 HK0 HS4 HR4 HRX4 HQ1
  go_wp2_with fail
  with_reducible refine (M2.out _ _ _ _ HX5.out).mono ?_
  rintro e u2 ⟨rfl, hq⟩
  clear g1 l1
  have hz := Only.far_blk HZ5.out hq.out.2 (by omega)
  have hg := Only.far_blk HG5.out hq.out.2 (by omega)
  have hb := Only.below HB5.out hq.out.2 HB5.out.size (by omega)
  have hk := HK5.out.grown (HNW.out _ (by omega)) hq.out.2
  have hs : w.heap.size + 1 + 1 + 1 ≤ u2.heap.size := Nat.le_trans HS5.out hq.out.2.size
  have g2 : u2.cell? ⟨w.heap.size + 1 + 1, 3, none⟩ = some (.int .i64 0) := hg.cell 3
  have l2 := hg.frozen 3
  have HX6 := kept (hq.out.1.set_ (g := w.heap.size + 1 + 1) (by omega) (HAP.out _ (by omega)) 3 (.int .i64 (wrap64 (v2 : Int))))
  have HZ6 := kept (hz.far (p := ⟨w.heap.size + 1 + 1, 3, none⟩) (by simp <;> omega) (.int .i64 (wrap64 (v2 : Int))))
  have HG6 : Hid (Blk (u2.setCell ⟨w.heap.size + 1 + 1, 3, none⟩ (.int .i64 (wrap64 (v2 : Int)))) (w.heap.size + 1 + 1) 24 [.slice A1 n1 c1, .slice none 0 0, .int .i64 (wrap64 (v1 : Int)), .int .i64 (wrap64 (v2 : Int)), .int .i64 0, .int .i64 0]) := kept (hg.set_ 3 (.int .i64 (wrap64 (v2 : Int))))
  have HB6 := kept (hb.setCell (p := ⟨w.heap.size + 1 + 1, 3, none⟩) (show w.heap.size ≤ w.heap.size + 1 + 1 by omega) (.int .i64 (wrap64 (v2 : Int))))
  have HK6 := kept (hk.grown (HNW.out _ (by omega)) ((Only.refl u2 (w.heap.size + 1 + 1)).setCell 3 (.int .i64 (wrap64 (v2 : Int)))))
  have HS6 : Hid (w.heap.size + 1 + 1 + 1 ≤ (u2.setCell ⟨w.heap.size + 1 + 1, 3, none⟩ (.int .i64 (wrap64 (v2 : Int)))).heap.size) := kept (by simpa [World.setCell] using hs)
  clear hz hg hb hk hs hq HX5 HZ5 HG5 HB5 HK5 HS5
  go_wp2_with fail
  with_reducible refine (M3.out _ _ _ _ HX6.out).mono ?_
  rintro e u3 ⟨rfl, hq⟩
  clear g2 l2
  have hz := Only.far_blk HZ6.out hq.out.2 (by omega)
  have hg := Only.far_blk HG6.out hq.out.2 (by omega)
  have hb := Only.below HB6.out hq.out.2 HB6.out.size (by omega)
  have hk := HK6.out.grown (HNW.out _ (by omega)) hq.out.2
  have hs : w.heap.size + 1 + 1 + 1 ≤ u3.heap.size := Nat.le_trans HS6.out hq.out.2.size
  have g3 : u3.cell? ⟨w.heap.size + 1 + 1, 4, none⟩ = some (.int .i64 0) := hg.cell 4
  have l3 := hg.frozen 4
  have HX7 := kept (hq.out.1.set_ (g := w.heap.size + 1 + 1) (by omega) (HAP.out _ (by omega)) 4 (.int .i64 (wrap64 (v3 : Int))))
  have HZ7 := kept (hz.far (p := ⟨w.heap.size + 1 + 1, 4, none⟩) (by simp <;> omega) (.int .i64 (wrap64 (v3 : Int))))
  have HG7 : Hid (Blk (u3.setCell ⟨w.heap.size + 1 + 1, 4, none⟩ (.int .i64 (wrap64 (v3 : Int)))) (w.heap.size + 1 + 1) 24 [.slice A1 n1 c1, .slice none 0 0, .int .i64 (wrap64 (v1 : Int)), .int .i64 (wrap64 (v2 : Int)), .int .i64 (wrap64 (v3 : Int)), .int .i64 0]) := kept (hg.set_ 4 (.int .i64 (wrap64 (v3 : Int))))
  have HB7 := kept (hb.setCell (p := ⟨w.heap.size + 1 + 1, 4, none⟩) (show w.heap.size ≤ w.heap.size + 1 + 1 by omega) (.int .i64 (wrap64 (v3 : Int))))
  have HK7 := kept (hk.grown (HNW.out _ (by omega)) ((Only.refl u3 (w.heap.size + 1 + 1)).setCell 4 (.int .i64 (wrap64 (v3 : Int)))))
  have HS7 : Hid (w.heap.size + 1 + 1 + 1 ≤ (u3.setCell ⟨w.heap.size + 1 + 1, 4, none⟩ (.int .i64 (wrap64 (v3 : Int)))).heap.size) := kept (by simpa [World.setCell] using hs)
  clear hz hg hb hk hs hq HX6 HZ6 HG6 HB6 HK6 HS6
  go_wp2_with fail
  with_reducible refine (M4.out _ _ _ _ HX7.out).mono ?_
  rintro e u4 ⟨rfl, hq⟩
  clear g3 l3
  have hz := Only.far_blk HZ7.out hq.out.2 (by omega)
  have hg := Only.far_blk HG7.out hq.out.2 (by omega)
  have hb := Only.below HB7.out hq.out.2 HB7.out.size (by omega)
  have hk := HK7.out.grown (HNW.out _ (by omega)) hq.out.2
  have hs : w.heap.size + 1 + 1 + 1 ≤ u4.heap.size := Nat.le_trans HS7.out hq.out.2.size
  have g4 : u4.cell? ⟨w.heap.size + 1 + 1, 5, none⟩ = some (.int .i64 0) := hg.cell 5
  have l4 := hg.frozen 5
  have HX8 := kept (hq.out.1.set_ (g := w.heap.size + 1 + 1) (by omega) (HAP.out _ (by omega)) 5 (.int .i64 (wrap64 (v4 : Int))))
  have HZ8 := kept (hz.far (p := ⟨w.heap.size + 1 + 1, 5, none⟩) (by simp <;> omega) (.int .i64 (wrap64 (v4 : Int))))
  have HG8 : Hid (Blk (u4.setCell ⟨w.heap.size + 1 + 1, 5, none⟩ (.int .i64 (wrap64 (v4 : Int)))) (w.heap.size + 1 + 1) 24 [.slice A1 n1 c1, .slice none 0 0, .int .i64 (wrap64 (v1 : Int)), .int .i64 (wrap64 (v2 : Int)), .int .i64 (wrap64 (v3 : Int)), .int .i64 (wrap64 (v4 : Int))]) := kept (hg.set_ 5 (.int .i64 (wrap64 (v4 : Int))))
  have HB8 := kept (hb.setCell (p := ⟨w.heap.size + 1 + 1, 5, none⟩) (show w.heap.size ≤ w.heap.size + 1 + 1 by omega) (.int .i64 (wrap64 (v4 : Int))))
  have HK8 := kept (hk.grown (HNW.out _ (by omega)) ((Only.refl u4 (w.heap.size + 1 + 1)).setCell 5 (.int .i64 (wrap64 (v4 : Int)))))
  have HS8 : Hid (w.heap.size + 1 + 1 + 1 ≤ (u4.setCell ⟨w.heap.size + 1 + 1, 5, none⟩ (.int .i64 (wrap64 (v4 : Int)))).heap.size) := kept (by simpa [World.setCell] using hs)
  clear hz hg hb hk hs hq HX7 HZ7 HG7 HB7 HK7 HS7
  go_wp2_with fail
  with_reducible refine (M5.out _ _ _ _ HX8.out).mono ?_
  rintro e u5 ⟨A2, n2, c2, rfl, hrd, hq⟩
  clear g4 l4
  have hz := Only.far_blk HZ8.out hq.out.2 (by omega)
  have hg := Only.far_blk HG8.out hq.out.2 (by omega)
  have hb := Only.below HB8.out hq.out.2 HB8.out.size (by omega)
  have hk := HK8.out.grown (HNW.out _ (by omega)) hq.out.2
  have hs : w.heap.size + 1 + 1 + 1 ≤ u5.heap.size := Nat.le_trans HS8.out hq.out.2.size
  have g5 : u5.cell? ⟨w.heap.size + 1 + 1, 1, none⟩ = some (.slice none 0 0) := hg.cell 1
  have l5 := hg.frozen 1
  have HX9 := kept (hq.out.1.set_ (g := w.heap.size + 1 + 1) (by omega) (HAP.out _ (by omega)) 1 (.slice A2 n2 c2))
  have HZ9 := kept (hz.far (p := ⟨w.heap.size + 1 + 1, 1, none⟩) (by simp <;> omega) (.slice A2 n2 c2))
  have HG9 : Hid (Blk (u5.setCell ⟨w.heap.size + 1 + 1, 1, none⟩ (.slice A2 n2 c2)) (w.heap.size + 1 + 1) 24 [.slice A1 n1 c1, .slice A2 n2 c2, .int .i64 (wrap64 (v1 : Int)), .int .i64 (wrap64 (v2 : Int)), .int .i64 (wrap64 (v3 : Int)), .int .i64 (wrap64 (v4 : Int))]) := kept (hg.set_ 1 (.slice A2 n2 c2))
  have HB9 := kept (hb.setCell (p := ⟨w.heap.size + 1 + 1, 1, none⟩) (show w.heap.size ≤ w.heap.size + 1 + 1 by omega) (.slice A2 n2 c2))
  have HK9 := kept (hk.grown (HNW.out _ (by omega)) ((Only.refl u5 (w.heap.size + 1 + 1)).setCell 1 (.slice A2 n2 c2)))
  have HS9 : Hid (w.heap.size + 1 + 1 + 1 ≤ (u5.setCell ⟨w.heap.size + 1 + 1, 1, none⟩ (.slice A2 n2 c2)).heap.size) := kept (by simpa [World.setCell] using hs)
  have HNW2 : Hid (∀ g, g < w.heap.size + 1 + 1 + 1 → apartA A2 n2 g) := kept (fun g hg => hrd.out.2.1 g (Nat.lt_of_lt_of_le hg HS8.out))
  have HL2 := kept hrd.out.2.2
  have HV9 := kept (hrd.out.1.grown (HNW2.out _ (by omega)) ((Only.refl u5 (w.heap.size + 1 + 1)).setCell 1 (.slice A2 n2 c2)))
  clear hrd
  clear hz hg hb hk hs hq HX8 HZ8 HG8 HB8 HK8 HS8
  have HRV : Hid (RdV (u5.setCell ⟨w.heap.size + 1 + 1, 1, none⟩ (.slice A2 n2 c2)) ⟨A1, n1, c1, A2, n2, c2⟩ ⟨key, t, wrap64 (v1 : Int), wrap64 (v2 : Int), wrap64 (v3 : Int), wrap64 (v4 : Int)⟩) := kept ⟨HK9.out, HV9.out, HL1.out.1, HL2.out.1, by show n1 ≤ _; have := HL1.out.2; omega, by show n2 ≤ _; have := HL2.out.2; omega⟩
  have e2 : (u5.setCell ⟨w.heap.size + 1 + 1, 1, none⟩ (.slice A2 n2 c2)).cell? ⟨w.heap.size + 1, 2, none⟩ = some (.int .i64 er) := HX9.out.1.error
  have k0 : (u5.setCell ⟨w.heap.size + 1 + 1, 1, none⟩ (.slice A2 n2 c2)).cell? ⟨w.heap.size + 1 + 1, 0, none⟩ = some (.slice A1 n1 c1) := HG9.out.cell 0
  have k1 : (u5.setCell ⟨w.heap.size + 1 + 1, 1, none⟩ (.slice A2 n2 c2)).cell? ⟨w.heap.size + 1 + 1, 1, none⟩ = some (.slice A2 n2 c2) := HG9.out.cell 1
  have k2 : (u5.setCell ⟨w.heap.size + 1 + 1, 1, none⟩ (.slice A2 n2 c2)).cell? ⟨w.heap.size + 1 + 1, 2, none⟩ = some (.int .i64 (wrap64 (v1 : Int))) := HG9.out.cell 2
  have k3 : (u5.setCell ⟨w.heap.size + 1 + 1, 1, none⟩ (.slice A2 n2 c2)).cell? ⟨w.heap.size + 1 + 1, 3, none⟩ = some (.int .i64 (wrap64 (v2 : Int))) := HG9.out.cell 3
  have k4 : (u5.setCell ⟨w.heap.size + 1 + 1, 1, none⟩ (.slice A2 n2 c2)).cell? ⟨w.heap.size + 1 + 1, 4, none⟩ = some (.int .i64 (wrap64 (v3 : Int))) := HG9.out.cell 4
  have k5 : (u5.setCell ⟨w.heap.size + 1 + 1, 1, none⟩ (.slice A2 n2 c2)).cell? ⟨w.heap.size + 1 + 1, 5, none⟩ = some (.int .i64 (wrap64 (v4 : Int))) := HG9.out.cell 5
  go_upto_region 16 with fail
  clear k0 k1 k2 k3 k4 k5 e2 g5 l5
  have HG : Hid (Blk (u5.setCell ⟨w.heap.size + 1 + 1, 1, none⟩ (.slice A2 n2 c2)) (w.heap.size + 1 + 1) 24 [.slice A1 n1 c1, .slice A2 n2 c2, .int .i64 (wrap64 (v1 : Int)), .int .i64 (wrap64 (v2 : Int)), .int .i64 (wrap64 (v3 : Int)), .int .i64 (wrap64 (v4 : Int))]) := kept (HG9.out)
  have HZ : Hid (Blk (u5.setCell ⟨w.heap.size + 1 + 1, 1, none⟩ (.slice A2 n2 c2)) w.heap.size 24 [.slice none 0 0, .slice none 0 0, .int .i64 0, .int .i64 0, .int .i64 0, .int .i64 0]) := kept (HZ9.out)
  have HB : Hid (Below w.heap.size w (u5.setCell ⟨w.heap.size + 1 + 1, 1, none⟩ (.slice A2 n2 c2))) := kept (HB9.out)
  have HR : Hid (Rd (u5.setCell ⟨w.heap.size + 1 + 1, 1, none⟩ (.slice A2 n2 c2)) A1 n1 key ∧ Rd (u5.setCell ⟨w.heap.size + 1 + 1, 1, none⟩ (.slice A2 n2 c2)) A2 n2 t ∧ apartA A1 n1 w.heap.size ∧ apartA A2 n2 w.heap.size) := kept (⟨HK9.out, HV9.out, HNW.out _ (by omega), HNW2.out _ (by omega)⟩)
  have HL : Hid (n1 ≤ c1 ∧ n2 ≤ c2 ∧ n1 ≤ 140737488351232 ∧ n2 ≤ 140737488351232) := kept (⟨HL1.out.1, HL2.out.1, by have := HL1.out.2; omega, by have := HL2.out.2; omega⟩)
  generalize (u5.setCell ⟨w.heap.size + 1 + 1, 1, none⟩ (.slice A2 n2 c2)) = W7 at HG HZ HB HR ⊢
  have z0 : W7.cell? ⟨w.heap.size, 0, none⟩ = some (.slice none 0 0) := HZ.out.cell 0
  have z1 : W7.cell? ⟨w.heap.size, 1, none⟩ = some (.slice none 0 0) := HZ.out.cell 1
  have z2 : W7.cell? ⟨w.heap.size, 2, none⟩ = some (.int .i64 0) := HZ.out.cell 2
  have z3 : W7.cell? ⟨w.heap.size, 3, none⟩ = some (.int .i64 0) := HZ.out.cell 3
  have z4 : W7.cell? ⟨w.heap.size, 4, none⟩ = some (.int .i64 0) := HZ.out.cell 4
  have z5 : W7.cell? ⟨w.heap.size, 5, none⟩ = some (.int .i64 0) := HZ.out.cell 5
  have f0 := HZ.out.frozen 0
  have f1 := HZ.out.frozen 1
  have f2 := HZ.out.frozen 2
  have f3 := HZ.out.frozen 3
  have f4 := HZ.out.frozen 4
  have f5 := HZ.out.frozen 5
  have HQ := kept (And.intro (set6_blk HZ.out (.slice none 0 0) (.slice none 0 0) (.int .i64 0) (.int .i64 0) (.int .i64 0) (.int .i64 0)) (set6_below (q := w.heap.size) HB.out (Nat.le_refl _) (.slice none 0 0) (.slice none 0 0) (.int .i64 0) (.int .i64 0) (.int .i64 0) (.int .i64 0)))
  go_wp2
  obtain ⟨hq, hB⟩ := HQ.out
  unfold set6 at hq hB
  generalize ((((((W7.setCell ⟨w.heap.size, 0, none⟩ (.slice none 0 0)).setCell ⟨w.heap.size, 1, none⟩ (.slice none 0 0)).setCell ⟨w.heap.size, 2, none⟩ (.int .i64 0)).setCell ⟨w.heap.size, 3, none⟩ (.int .i64 0)).setCell ⟨w.heap.size, 4, none⟩ (.int .i64 0)).setCell ⟨w.heap.size, 5, none⟩ (.int .i64 0)) = Y at hq hB ⊢
  have y0 : Y.cell? ⟨w.heap.size, 0, none⟩ = some (.slice none 0 0) := hq.cell 0
  have y1 : Y.cell? ⟨w.heap.size, 1, none⟩ = some (.slice none 0 0) := hq.cell 1
  have y2 : Y.cell? ⟨w.heap.size, 2, none⟩ = some (.int .i64 0) := hq.cell 2
  have y3 : Y.cell? ⟨w.heap.size, 3, none⟩ = some (.int .i64 0) := hq.cell 3
  have y4 : Y.cell? ⟨w.heap.size, 4, none⟩ = some (.int .i64 0) := hq.cell 4
  have y5 : Y.cell? ⟨w.heap.size, 5, none⟩ = some (.int .i64 0) := hq.cell 5
  refine bodyPost_ret (v := .tuple #[.agg #[.slice none 0 0, .slice none 0 0, .int .i64 0, .int .i64 0, .int .i64 0, .int .i64 0], .bool false, .bool false]) ?_ rfl ?_
  · simp [results, Try.results20, go_sem, y0, y1, y2, y3, y4, y5]
  · exact ⟨⟨none, 0, 0, none, 0, 0⟩, rfl, ⟨Rd.nil_ _ _, Rd.nil_ _ _, Nat.le_refl _, Nat.le_refl _, Nat.zero_le _, Nat.zero_le _⟩, hB⟩
set_option maxRecDepth 100000 in
set_option maxHeartbeats 2000000 in
theorem refDec_k2 (a : Addr) (n c : Nat) (xs : List UInt8) (w : World) (hr : Rd w (some a) n xs) (hnc : n ≤ c) (hn : n ≤ 140737488351232) (x0 : Nat) (h0 : w.cell? (a.add 0) = some (.int .u8 (x0 : Int))) (hpos : 0 < n) (s2 : Nat × Int) (key : List UInt8)
    (hT : rtextX xs 64 (1, 0) = (key, s2)) (hx : ((x0 : Int) == 2) = false)
    (s3 s4 s5 s6 : Nat × Int) (p7 : Nat) (er : Int) (v1 v2 v3 v4 : Nat) (t : List UInt8) (h1 : rnumX xs 8 s2 = (v1, s3)) (h2 : rnumX xs 8 s3 = (v2, s4)) (h3 : rnumX xs 8 s4 = (v3, s5)) (h4 : rnumX xs 8 s5 = (v4, s6)) (h5 : rtextX xs 1024 s6 = (t, (p7, er))) (he : er = 0) (b : Bool) (hb : rightV ⟨key, t, wrap64 (v1 : Int), wrap64 (v2 : Int), wrap64 (v3 : Int), wrap64 (v4 : Int)⟩ = b) (hbt : b = false) :
    Calls Try.prog 20 #[.slice (some a) n c] w fun e w' => ∃ L, e = .returned (.tuple #[vkv L zeroKv, .bool false, .bool false]) ∧ RdV w' L zeroKv ∧ Below w.heap.size w w' := by
  subst he hbt
  have hb1 := (Below.refl w.heap.size w).alloc (Nat.le_refl _) (.cells #[.slice none 0 0, .slice none 0 0, .int .i64 0, .int .i64 0, .int .i64 0, .int .i64 0] 24)
  have hz1 := Blk.new w 24 #[.slice none 0 0, .slice none 0 0, .int .i64 0, .int .i64 0, .int .i64 0, .int .i64 0]
  have hs1 : (w.alloc (.cells #[.slice none 0 0, .slice none 0 0, .int .i64 0, .int .i64 0, .int .i64 0, .int .i64 0] 24)).heap.size = w.heap.size + 1 := World.size_alloc ..
  have hb2 := (Below.refl (w.alloc (.cells #[.slice none 0 0, .slice none 0 0, .int .i64 0, .int .i64 0, .int .i64 0, .int .i64 0] 24)).heap.size (w.alloc (.cells #[.slice none 0 0, .slice none 0 0, .int .i64 0, .int .i64 0, .int .i64 0, .int .i64 0] 24))).alloc (Nat.le_refl _) (.cells #[.slice (some a) n c, .int .i64 1, .int .i64 0] 56)
  have hr2 := Blk.new (w.alloc (.cells #[.slice none 0 0, .slice none 0 0, .int .i64 0, .int .i64 0, .int .i64 0, .int .i64 0] 24)) 56 #[.slice (some a) n c, .int .i64 1, .int .i64 0]
  have hs2 : ((w.alloc (.cells #[.slice none 0 0, .slice none 0 0, .int .i64 0, .int .i64 0, .int .i64 0, .int .i64 0] 24)).alloc (.cells #[.slice (some a) n c, .int .i64 1, .int .i64 0] 56)).heap.size = w.heap.size + 1 + 1 := by rw [World.size_alloc, hs1]
  have hb3 := (Below.refl ((w.alloc (.cells #[.slice none 0 0, .slice none 0 0, .int .i64 0, .int .i64 0, .int .i64 0, .int .i64 0] 24)).alloc (.cells #[.slice (some a) n c, .int .i64 1, .int .i64 0] 56)).heap.size ((w.alloc (.cells #[.slice none 0 0, .slice none 0 0, .int .i64 0, .int .i64 0, .int .i64 0, .int .i64 0] 24)).alloc (.cells #[.slice (some a) n c, .int .i64 1, .int .i64 0] 56))).alloc (Nat.le_refl _) (.cells #[.slice none 0 0, .slice none 0 0, .int .i64 0, .int .i64 0, .int .i64 0, .int .i64 0] 24)
  have hg3 := Blk.new ((w.alloc (.cells #[.slice none 0 0, .slice none 0 0, .int .i64 0, .int .i64 0, .int .i64 0, .int .i64 0] 24)).alloc (.cells #[.slice (some a) n c, .int .i64 1, .int .i64 0] 56)) 24 #[.slice none 0 0, .slice none 0 0, .int .i64 0, .int .i64 0, .int .i64 0, .int .i64 0]
  have hs3 : (((w.alloc (.cells #[.slice none 0 0, .slice none 0 0, .int .i64 0, .int .i64 0, .int .i64 0, .int .i64 0] 24)).alloc (.cells #[.slice (some a) n c, .int .i64 1, .int .i64 0] 56)).alloc (.cells #[.slice none 0 0, .slice none 0 0, .int .i64 0, .int .i64 0, .int .i64 0, .int .i64 0] 24)).heap.size = w.heap.size + 1 + 1 + 1 := by rw [World.size_alloc, hs2]
  have hB3 := bel_to hb3 (bel_to hb2 hb1)
  have hR3 := hr.below hB3
  have hz3 := (hz1.below hb2 (Blk.lt hz1)).below hb3 (Blk.lt (hz1.below hb2 (Blk.lt hz1)))
  have hr3 := hr2.below hb3 (Blk.lt hr2)
  rw [hs1] at hr3
  rw [hs2] at hg3
  have hX3 : RY (((w.alloc (.cells #[.slice none 0 0, .slice none 0 0, .int .i64 0, .int .i64 0, .int .i64 0, .int .i64 0] 24)).alloc (.cells #[.slice (some a) n c, .int .i64 1, .int .i64 0] 56)).alloc (.cells #[.slice none 0 0, .slice none 0 0, .int .i64 0, .int .i64 0, .int .i64 0, .int .i64 0] 24)) (w.heap.size + 1) (some a) n c xs (1, 0) := ⟨⟨hr3, hR3⟩, hpos, hnc, by show n ≤ _; omega⟩
  have hlt := World.block_lt_of_cell? w _ h0
  rw [add_block] at hlt
  have h03 := (hB3.cell (p := a.add 0) (by rw [add_block]; exact hlt)).trans h0
  have N1 := fun W r A c (q : RY W r A n c xs (1, 0)) => refTextX64 r A n c xs (1, 0) W q
  simp only [hT] at N1
  have N1 := kept N1
  have HLK : Hid (key.length ≤ 64) := kept (by have := rtextX_len (xs := xs) (most := 64) (s := (1, 0)); rw [hT] at this; exact this)
  obtain ⟨W3, hW⟩ : ∃ W3, W3 = (((w.alloc (.cells #[.slice none 0 0, .slice none 0 0, .int .i64 0, .int .i64 0, .int .i64 0, .int .i64 0] 24)).alloc (.cells #[.slice (some a) n c, .int .i64 1, .int .i64 0] 56)).alloc (.cells #[.slice none 0 0, .slice none 0 0, .int .i64 0, .int .i64 0, .int .i64 0, .int .i64 0] 24)) := ⟨_, rfl⟩
  have HW := kept hW
  rw [← hW] at hB3 hR3 hz3 hg3 hX3 h03 hs3
  have HB3 := kept hB3
  have HZ3 := kept hz3
  have HG3 := kept hg3
  have HX3 := kept hX3
  have HC3 := kept h03
  have HS3 := kept hs3
  have HLT := kept hlt
  have HR0 := kept hr
  have HN := kept hn
  have HNP := kept hpos
  have HAP : ∀ g, w.heap.size ≤ g → apartA (some a) n g := fun g hg => hr.fresh hg
  have HAP := kept HAP
  have hnn : ((n : Int) == 0) = false := by simp; omega
  clear hb1 hz1 hs1 hb2 hr2 hs2 hb3 hg3 hB3 hR3 hz3 hr3 hX3 hlt h03 hr hn hpos hT hW hs3
  have M1 := fun W r A c (q : RY W r A n c xs s2) => refNumX8 r A n c xs s2 W q
  have M2 := fun W r A c (q : RY W r A n c xs s3) => refNumX8 r A n c xs s3 W q
  have M3 := fun W r A c (q : RY W r A n c xs s4) => refNumX8 r A n c xs s4 W q
  have M4 := fun W r A c (q : RY W r A n c xs s5) => refNumX8 r A n c xs s5 W q
  have M5 := fun W r A c (q : RY W r A n c xs s6) => refTextX1024 r A n c xs s6 W q
  simp only [h1] at M1
  simp only [h2] at M2
  simp only [h3] at M3
  simp only [h4] at M4
  simp only [h5] at M5
  have M1 := kept M1
  have M2 := kept M2
  have M3 := kept M3
  have M4 := kept M4
  have M5 := kept M5
  clear h1 h2 h3 h4 h5
  go_enter Try.func20, Try.ntmps20
  go_wp2_with fail
  rw [← HW.out]
  with_reducible refine (N1.out _ _ _ _ HX3.out).mono ?_
  rintro e w4 ⟨A1, n1, c1, rfl, hrd, hq⟩
  have hs4 : w.heap.size + 1 + 1 + 1 ≤ w4.heap.size := by have := hq.out.2.size; rw [HS3.out] at this; exact this
  have hz4 := Only.far_blk HZ3.out hq.out.2 (by omega)
  have hg4 := Only.far_blk HG3.out hq.out.2 (by omega)
  have hb4 := Only.below HB3.out hq.out.2 HB3.out.size (by omega)
  have hc4 : w4.cell? (a.add 0) = some (.int .u8 (x0 : Int)) := (hb4.cell (p := a.add 0) (by rw [add_block]; exact HLT.out)).trans h0
  have z0 : w4.cell? ⟨w.heap.size + 1 + 1, 0, none⟩ = some (.slice none 0 0) := hg4.cell 0
  have f0 := hg4.frozen 0
  have HNW : Hid (∀ g, g < w.heap.size + 1 + 1 + 1 → apartA A1 n1 g) := kept (fun g hg => hrd.out.2.1 g (by rw [HS3.out]; exact hg))
  have HL1 := kept hrd.out.2.2
  have HX4 := kept (hq.out.1.set_ (g := w.heap.size + 1 + 1) (by omega) (HAP.out _ (by omega)) 0 (.slice A1 n1 c1))
  have HR4 := kept (hrd.out.1.grown (HNW.out _ (by omega)) ((Only.refl w4 (w.heap.size + 1 + 1)).setCell 0 (.slice A1 n1 c1)))
  have HZ4 := kept (hz4.far (p := ⟨w.heap.size + 1 + 1, 0, none⟩) (by simp <;> omega) (.slice A1 n1 c1))
  have HG4 : Hid (Blk (w4.setCell ⟨w.heap.size + 1 + 1, 0, none⟩ (.slice A1 n1 c1)) (w.heap.size + 1 + 1) 24 [.slice A1 n1 c1, .slice none 0 0, .int .i64 0, .int .i64 0, .int .i64 0, .int .i64 0]) := kept (hg4.set_ 0 (.slice A1 n1 c1))
  have HB4 := kept (hb4.setCell (p := ⟨w.heap.size + 1 + 1, 0, none⟩) (show w.heap.size ≤ w.heap.size + 1 + 1 by omega) (.slice A1 n1 c1))
  have hc5 : (w4.setCell ⟨w.heap.size + 1 + 1, 0, none⟩ (.slice A1 n1 c1)).cell? (a.add 0) = some (.int .u8 (x0 : Int)) := (HB4.out.cell (p := a.add 0) (by rw [add_block]; exact HLT.out)).trans h0
  have ha0 : a.add 0 = a := by unfold Addr.add; simp
  rw [ha0] at hc5
  have HRX4 := kept (HR0.out.below HB4.out)
  have HS4 : Hid (w.heap.size + 1 + 1 + 1 ≤ (w4.setCell ⟨w.heap.size + 1 + 1, 0, none⟩ (.slice A1 n1 c1)).heap.size) := kept (by simpa [World.setCell] using hs4)
  have e2 : (w4.setCell ⟨w.heap.size + 1 + 1, 0, none⟩ (.slice A1 n1 c1)).cell? ⟨w.heap.size + 1, 2, none⟩ = some (.int .i64 s2.2) := HX4.out.1.error
  have q0 : (w4.setCell ⟨w.heap.size + 1 + 1, 0, none⟩ (.slice A1 n1 c1)).cell? ⟨w.heap.size + 1 + 1, 0, none⟩ = some (.slice A1 n1 c1) := HG4.out.cell 0
  clear hrd hq hz4 hg4 hb4 hs4 HX3 HZ3 HG3 HB3
  have HQ1 := kept q0
  have HK0 : Hid (Rd (w4.setCell ⟨w.heap.size + 1 + 1, 0, none⟩ (.slice A1 n1 c1)) A1 n1 key) := HR4
  clear q0
  go_wp2_with fail
  with_reducible refine (M1.out _ _ _ _ HX4.out).mono ?_
  rintro e u1 ⟨rfl, hq⟩
  clear f0 z0 hc5 e2 hc4
  have hz := Only.far_blk HZ4.out hq.out.2 (by omega)
  have hg := Only.far_blk HG4.out hq.out.2 (by omega)
  have hb := Only.below HB4.out hq.out.2 HB4.out.size (by omega)
  have hk := HK0.out.grown (HNW.out _ (by omega)) hq.out.2
  have hs : w.heap.size + 1 + 1 + 1 ≤ u1.heap.size := Nat.le_trans HS4.out hq.out.2.size
  have g1 : u1.cell? ⟨w.heap.size + 1 + 1, 2, none⟩ = some (.int .i64 0) := hg.cell 2
  have l1 := hg.frozen 2
  have HX5 := kept (hq.out.1.set_ (g := w.heap.size + 1 + 1) (by omega) (HAP.out _ (by omega)) 2 (.int .i64 (wrap64 (v1 : Int))))
  have HZ5 := kept (hz.far (p := ⟨w.heap.size + 1 + 1, 2, none⟩) (by simp <;> omega) (.int .i64 (wrap64 (v1 : Int))))
  have HG5 : Hid (Blk (u1.setCell ⟨w.heap.size + 1 + 1, 2, none⟩ (.int .i64 (wrap64 (v1 : Int)))) (w.heap.size + 1 + 1) 24 [.slice A1 n1 c1, .slice none 0 0, .int .i64 (wrap64 (v1 : Int)), .int .i64 0, .int .i64 0, .int .i64 0]) := kept (hg.set_ 2 (.int .i64 (wrap64 (v1 : Int))))
  have HB5 := kept (hb.setCell (p := ⟨w.heap.size + 1 + 1, 2, none⟩) (show w.heap.size ≤ w.heap.size + 1 + 1 by omega) (.int .i64 (wrap64 (v1 : Int))))
  have HK5 := kept (hk.grown (HNW.out _ (by omega)) ((Only.refl u1 (w.heap.size + 1 + 1)).setCell 2 (.int .i64 (wrap64 (v1 : Int)))))
  have HS5 : Hid (w.heap.size + 1 + 1 + 1 ≤ (u1.setCell ⟨w.heap.size + 1 + 1, 2, none⟩ (.int .i64 (wrap64 (v1 : Int)))).heap.size) := kept (by simpa [World.setCell] using hs)
  clear hz hg hb hk hs hq HX4 HZ4 HG4 HB4 HK0 HS4 HR4 HRX4 HQ1
  go_wp2_with fail
  with_reducible refine (M2.out _ _ _ _ HX5.out).mono ?_
  rintro e u2 ⟨rfl, hq⟩
  clear g1 l1
  have hz := Only.far_blk HZ5.out hq.out.2 (by omega)
  have hg := Only.far_blk HG5.out hq.out.2 (by omega)
  have hb := Only.below HB5.out hq.out.2 HB5.out.size (by omega)
  have hk := HK5.out.grown (HNW.out _ (by omega)) hq.out.2
  have hs : w.heap.size + 1 + 1 + 1 ≤ u2.heap.size := Nat.le_trans HS5.out hq.out.2.size
  have g2 : u2.cell? ⟨w.heap.size + 1 + 1, 3, none⟩ = some (.int .i64 0) := hg.cell 3
  have l2 := hg.frozen 3
  have HX6 := kept (hq.out.1.set_ (g := w.heap.size + 1 + 1) (by omega) (HAP.out _ (by omega)) 3 (.int .i64 (wrap64 (v2 : Int))))
  have HZ6 := kept (hz.far (p := ⟨w.heap.size + 1 + 1, 3, none⟩) (by simp <;> omega) (.int .i64 (wrap64 (v2 : Int))))
  have HG6 : Hid (Blk (u2.setCell ⟨w.heap.size + 1 + 1, 3, none⟩ (.int .i64 (wrap64 (v2 : Int)))) (w.heap.size + 1 + 1) 24 [.slice A1 n1 c1, .slice none 0 0, .int .i64 (wrap64 (v1 : Int)), .int .i64 (wrap64 (v2 : Int)), .int .i64 0, .int .i64 0]) := kept (hg.set_ 3 (.int .i64 (wrap64 (v2 : Int))))
  have HB6 := kept (hb.setCell (p := ⟨w.heap.size + 1 + 1, 3, none⟩) (show w.heap.size ≤ w.heap.size + 1 + 1 by omega) (.int .i64 (wrap64 (v2 : Int))))
  have HK6 := kept (hk.grown (HNW.out _ (by omega)) ((Only.refl u2 (w.heap.size + 1 + 1)).setCell 3 (.int .i64 (wrap64 (v2 : Int)))))
  have HS6 : Hid (w.heap.size + 1 + 1 + 1 ≤ (u2.setCell ⟨w.heap.size + 1 + 1, 3, none⟩ (.int .i64 (wrap64 (v2 : Int)))).heap.size) := kept (by simpa [World.setCell] using hs)
  clear hz hg hb hk hs hq HX5 HZ5 HG5 HB5 HK5 HS5
  go_wp2_with fail
  with_reducible refine (M3.out _ _ _ _ HX6.out).mono ?_
  rintro e u3 ⟨rfl, hq⟩
  clear g2 l2
  have hz := Only.far_blk HZ6.out hq.out.2 (by omega)
  have hg := Only.far_blk HG6.out hq.out.2 (by omega)
  have hb := Only.below HB6.out hq.out.2 HB6.out.size (by omega)
  have hk := HK6.out.grown (HNW.out _ (by omega)) hq.out.2
  have hs : w.heap.size + 1 + 1 + 1 ≤ u3.heap.size := Nat.le_trans HS6.out hq.out.2.size
  have g3 : u3.cell? ⟨w.heap.size + 1 + 1, 4, none⟩ = some (.int .i64 0) := hg.cell 4
  have l3 := hg.frozen 4
  have HX7 := kept (hq.out.1.set_ (g := w.heap.size + 1 + 1) (by omega) (HAP.out _ (by omega)) 4 (.int .i64 (wrap64 (v3 : Int))))
  have HZ7 := kept (hz.far (p := ⟨w.heap.size + 1 + 1, 4, none⟩) (by simp <;> omega) (.int .i64 (wrap64 (v3 : Int))))
  have HG7 : Hid (Blk (u3.setCell ⟨w.heap.size + 1 + 1, 4, none⟩ (.int .i64 (wrap64 (v3 : Int)))) (w.heap.size + 1 + 1) 24 [.slice A1 n1 c1, .slice none 0 0, .int .i64 (wrap64 (v1 : Int)), .int .i64 (wrap64 (v2 : Int)), .int .i64 (wrap64 (v3 : Int)), .int .i64 0]) := kept (hg.set_ 4 (.int .i64 (wrap64 (v3 : Int))))
  have HB7 := kept (hb.setCell (p := ⟨w.heap.size + 1 + 1, 4, none⟩) (show w.heap.size ≤ w.heap.size + 1 + 1 by omega) (.int .i64 (wrap64 (v3 : Int))))
  have HK7 := kept (hk.grown (HNW.out _ (by omega)) ((Only.refl u3 (w.heap.size + 1 + 1)).setCell 4 (.int .i64 (wrap64 (v3 : Int)))))
  have HS7 : Hid (w.heap.size + 1 + 1 + 1 ≤ (u3.setCell ⟨w.heap.size + 1 + 1, 4, none⟩ (.int .i64 (wrap64 (v3 : Int)))).heap.size) := kept (by simpa [World.setCell] using hs)
  clear hz hg hb hk hs hq HX6 HZ6 HG6 HB6 HK6 HS6
  go_wp2_with fail
  with_reducible refine (M4.out _ _ _ _ HX7.out).mono ?_
  rintro e u4 ⟨rfl, hq⟩
  clear g3 l3
  have hz := Only.far_blk HZ7.out hq.out.2 (by omega)
  have hg := Only.far_blk HG7.out hq.out.2 (by omega)
  have hb := Only.below HB7.out hq.out.2 HB7.out.size (by omega)
  have hk := HK7.out.grown (HNW.out _ (by omega)) hq.out.2
  have hs : w.heap.size + 1 + 1 + 1 ≤ u4.heap.size := Nat.le_trans HS7.out hq.out.2.size
  have g4 : u4.cell? ⟨w.heap.size + 1 + 1, 5, none⟩ = some (.int .i64 0) := hg.cell 5
  have l4 := hg.frozen 5
  have HX8 := kept (hq.out.1.set_ (g := w.heap.size + 1 + 1) (by omega) (HAP.out _ (by omega)) 5 (.int .i64 (wrap64 (v4 : Int))))
  have HZ8 := kept (hz.far (p := ⟨w.heap.size + 1 + 1, 5, none⟩) (by simp <;> omega) (.int .i64 (wrap64 (v4 : Int))))
  have HG8 : Hid (Blk (u4.setCell ⟨w.heap.size + 1 + 1, 5, none⟩ (.int .i64 (wrap64 (v4 : Int)))) (w.heap.size + 1 + 1) 24 [.slice A1 n1 c1, .slice none 0 0, .int .i64 (wrap64 (v1 : Int)), .int .i64 (wrap64 (v2 : Int)), .int .i64 (wrap64 (v3 : Int)), .int .i64 (wrap64 (v4 : Int))]) := kept (hg.set_ 5 (.int .i64 (wrap64 (v4 : Int))))
  have HB8 := kept (hb.setCell (p := ⟨w.heap.size + 1 + 1, 5, none⟩) (show w.heap.size ≤ w.heap.size + 1 + 1 by omega) (.int .i64 (wrap64 (v4 : Int))))
  have HK8 := kept (hk.grown (HNW.out _ (by omega)) ((Only.refl u4 (w.heap.size + 1 + 1)).setCell 5 (.int .i64 (wrap64 (v4 : Int)))))
  have HS8 : Hid (w.heap.size + 1 + 1 + 1 ≤ (u4.setCell ⟨w.heap.size + 1 + 1, 5, none⟩ (.int .i64 (wrap64 (v4 : Int)))).heap.size) := kept (by simpa [World.setCell] using hs)
  clear hz hg hb hk hs hq HX7 HZ7 HG7 HB7 HK7 HS7
  go_wp2_with fail
  with_reducible refine (M5.out _ _ _ _ HX8.out).mono ?_
  rintro e u5 ⟨A2, n2, c2, rfl, hrd, hq⟩
  clear g4 l4
  have hz := Only.far_blk HZ8.out hq.out.2 (by omega)
  have hg := Only.far_blk HG8.out hq.out.2 (by omega)
  have hb := Only.below HB8.out hq.out.2 HB8.out.size (by omega)
  have hk := HK8.out.grown (HNW.out _ (by omega)) hq.out.2
  have hs : w.heap.size + 1 + 1 + 1 ≤ u5.heap.size := Nat.le_trans HS8.out hq.out.2.size
  have g5 : u5.cell? ⟨w.heap.size + 1 + 1, 1, none⟩ = some (.slice none 0 0) := hg.cell 1
  have l5 := hg.frozen 1
  have HX9 := kept (hq.out.1.set_ (g := w.heap.size + 1 + 1) (by omega) (HAP.out _ (by omega)) 1 (.slice A2 n2 c2))
  have HZ9 := kept (hz.far (p := ⟨w.heap.size + 1 + 1, 1, none⟩) (by simp <;> omega) (.slice A2 n2 c2))
  have HG9 : Hid (Blk (u5.setCell ⟨w.heap.size + 1 + 1, 1, none⟩ (.slice A2 n2 c2)) (w.heap.size + 1 + 1) 24 [.slice A1 n1 c1, .slice A2 n2 c2, .int .i64 (wrap64 (v1 : Int)), .int .i64 (wrap64 (v2 : Int)), .int .i64 (wrap64 (v3 : Int)), .int .i64 (wrap64 (v4 : Int))]) := kept (hg.set_ 1 (.slice A2 n2 c2))
  have HB9 := kept (hb.setCell (p := ⟨w.heap.size + 1 + 1, 1, none⟩) (show w.heap.size ≤ w.heap.size + 1 + 1 by omega) (.slice A2 n2 c2))
  have HK9 := kept (hk.grown (HNW.out _ (by omega)) ((Only.refl u5 (w.heap.size + 1 + 1)).setCell 1 (.slice A2 n2 c2)))
  have HS9 : Hid (w.heap.size + 1 + 1 + 1 ≤ (u5.setCell ⟨w.heap.size + 1 + 1, 1, none⟩ (.slice A2 n2 c2)).heap.size) := kept (by simpa [World.setCell] using hs)
  have HNW2 : Hid (∀ g, g < w.heap.size + 1 + 1 + 1 → apartA A2 n2 g) := kept (fun g hg => hrd.out.2.1 g (Nat.lt_of_lt_of_le hg HS8.out))
  have HL2 := kept hrd.out.2.2
  have HV9 := kept (hrd.out.1.grown (HNW2.out _ (by omega)) ((Only.refl u5 (w.heap.size + 1 + 1)).setCell 1 (.slice A2 n2 c2)))
  clear hrd
  clear hz hg hb hk hs hq HX8 HZ8 HG8 HB8 HK8 HS8
  have HRV : Hid (RdV (u5.setCell ⟨w.heap.size + 1 + 1, 1, none⟩ (.slice A2 n2 c2)) ⟨A1, n1, c1, A2, n2, c2⟩ ⟨key, t, wrap64 (v1 : Int), wrap64 (v2 : Int), wrap64 (v3 : Int), wrap64 (v4 : Int)⟩) := kept ⟨HK9.out, HV9.out, HL1.out.1, HL2.out.1, by show n1 ≤ _; have := HL1.out.2; omega, by show n2 ≤ _; have := HL2.out.2; omega⟩
  have e2 : (u5.setCell ⟨w.heap.size + 1 + 1, 1, none⟩ (.slice A2 n2 c2)).cell? ⟨w.heap.size + 1, 2, none⟩ = some (.int .i64 0) := HX9.out.1.error
  have k0 : (u5.setCell ⟨w.heap.size + 1 + 1, 1, none⟩ (.slice A2 n2 c2)).cell? ⟨w.heap.size + 1 + 1, 0, none⟩ = some (.slice A1 n1 c1) := HG9.out.cell 0
  have k1 : (u5.setCell ⟨w.heap.size + 1 + 1, 1, none⟩ (.slice A2 n2 c2)).cell? ⟨w.heap.size + 1 + 1, 1, none⟩ = some (.slice A2 n2 c2) := HG9.out.cell 1
  have k2 : (u5.setCell ⟨w.heap.size + 1 + 1, 1, none⟩ (.slice A2 n2 c2)).cell? ⟨w.heap.size + 1 + 1, 2, none⟩ = some (.int .i64 (wrap64 (v1 : Int))) := HG9.out.cell 2
  have k3 : (u5.setCell ⟨w.heap.size + 1 + 1, 1, none⟩ (.slice A2 n2 c2)).cell? ⟨w.heap.size + 1 + 1, 3, none⟩ = some (.int .i64 (wrap64 (v2 : Int))) := HG9.out.cell 3
  have k4 : (u5.setCell ⟨w.heap.size + 1 + 1, 1, none⟩ (.slice A2 n2 c2)).cell? ⟨w.heap.size + 1 + 1, 4, none⟩ = some (.int .i64 (wrap64 (v3 : Int))) := HG9.out.cell 4
  have k5 : (u5.setCell ⟨w.heap.size + 1 + 1, 1, none⟩ (.slice A2 n2 c2)).cell? ⟨w.heap.size + 1 + 1, 5, none⟩ = some (.int .i64 (wrap64 (v4 : Int))) := HG9.out.cell 5
  have HRT := kept (refRight_kv ⟨A1, n1, c1, A2, n2, c2⟩ ⟨key, t, wrap64 (v1 : Int), wrap64 (v2 : Int), wrap64 (v3 : Int), wrap64 (v4 : Int)⟩ _ _ hb HRV.out)
  clear hb
  go_wp2_with fail
  with_reducible refine HRT.out.mono ?_
  rintro e w6 ⟨rfl, hbb⟩
  clear k0 k1 k2 k3 k4 k5 e2 g5 l5 HRT
  have HG10 := kept (HG9.out.below hbb HG9.out.lt)
  have HZ10 := kept (HZ9.out.below hbb HZ9.out.lt)
  have HB10 := kept (HB9.out.trans (hbb.mono HB9.out.size))
  have HV10 := kept (HRV.out.below hbb)
  clear hbb HG9 HZ9 HB9 HRV HX9 HK9 HV9
  go_upto_region 16 with fail
  have HG : Hid (Blk w6 (w.heap.size + 1 + 1) 24 [.slice A1 n1 c1, .slice A2 n2 c2, .int .i64 (wrap64 (v1 : Int)), .int .i64 (wrap64 (v2 : Int)), .int .i64 (wrap64 (v3 : Int)), .int .i64 (wrap64 (v4 : Int))]) := kept (HG10.out)
  have HZ : Hid (Blk w6 w.heap.size 24 [.slice none 0 0, .slice none 0 0, .int .i64 0, .int .i64 0, .int .i64 0, .int .i64 0]) := kept (HZ10.out)
  have HB : Hid (Below w.heap.size w w6) := kept (HB10.out)
  have HR : Hid (Rd w6 A1 n1 key ∧ Rd w6 A2 n2 t ∧ apartA A1 n1 w.heap.size ∧ apartA A2 n2 w.heap.size) := kept (⟨HV10.out.key, HV10.out.val, HNW.out _ (by omega), HNW2.out _ (by omega)⟩)
  have HL : Hid (n1 ≤ c1 ∧ n2 ≤ c2 ∧ n1 ≤ 140737488351232 ∧ n2 ≤ 140737488351232) := kept (⟨HL1.out.1, HL2.out.1, by have := HL1.out.2; omega, by have := HL2.out.2; omega⟩)
  obtain ⟨W7, hW7⟩ : ∃ W7, W7 = w6 := ⟨_, rfl⟩
  rw [← hW7] at HG HZ HB HR ⊢
  clear hW7
  have z0 : W7.cell? ⟨w.heap.size, 0, none⟩ = some (.slice none 0 0) := HZ.out.cell 0
  have z1 : W7.cell? ⟨w.heap.size, 1, none⟩ = some (.slice none 0 0) := HZ.out.cell 1
  have z2 : W7.cell? ⟨w.heap.size, 2, none⟩ = some (.int .i64 0) := HZ.out.cell 2
  have z3 : W7.cell? ⟨w.heap.size, 3, none⟩ = some (.int .i64 0) := HZ.out.cell 3
  have z4 : W7.cell? ⟨w.heap.size, 4, none⟩ = some (.int .i64 0) := HZ.out.cell 4
  have z5 : W7.cell? ⟨w.heap.size, 5, none⟩ = some (.int .i64 0) := HZ.out.cell 5
  have f0 := HZ.out.frozen 0
  have f1 := HZ.out.frozen 1
  have f2 := HZ.out.frozen 2
  have f3 := HZ.out.frozen 3
  have f4 := HZ.out.frozen 4
  have f5 := HZ.out.frozen 5
  have HQ := kept (And.intro (set6_blk HZ.out (.slice none 0 0) (.slice none 0 0) (.int .i64 0) (.int .i64 0) (.int .i64 0) (.int .i64 0)) (set6_below (q := w.heap.size) HB.out (Nat.le_refl _) (.slice none 0 0) (.slice none 0 0) (.int .i64 0) (.int .i64 0) (.int .i64 0) (.int .i64 0)))
  go_wp2
  obtain ⟨hq, hB⟩ := HQ.out
  unfold set6 at hq hB
  generalize ((((((W7.setCell ⟨w.heap.size, 0, none⟩ (.slice none 0 0)).setCell ⟨w.heap.size, 1, none⟩ (.slice none 0 0)).setCell ⟨w.heap.size, 2, none⟩ (.int .i64 0)).setCell ⟨w.heap.size, 3, none⟩ (.int .i64 0)).setCell ⟨w.heap.size, 4, none⟩ (.int .i64 0)).setCell ⟨w.heap.size, 5, none⟩ (.int .i64 0)) = Y at hq hB ⊢
  have y0 : Y.cell? ⟨w.heap.size, 0, none⟩ = some (.slice none 0 0) := hq.cell 0
  have y1 : Y.cell? ⟨w.heap.size, 1, none⟩ = some (.slice none 0 0) := hq.cell 1
  have y2 : Y.cell? ⟨w.heap.size, 2, none⟩ = some (.int .i64 0) := hq.cell 2
  have y3 : Y.cell? ⟨w.heap.size, 3, none⟩ = some (.int .i64 0) := hq.cell 3
  have y4 : Y.cell? ⟨w.heap.size, 4, none⟩ = some (.int .i64 0) := hq.cell 4
  have y5 : Y.cell? ⟨w.heap.size, 5, none⟩ = some (.int .i64 0) := hq.cell 5
  refine bodyPost_ret (v := .tuple #[.agg #[.slice none 0 0, .slice none 0 0, .int .i64 0, .int .i64 0, .int .i64 0, .int .i64 0], .bool false, .bool false]) ?_ rfl ?_
  · simp [results, Try.results20, go_sem, y0, y1, y2, y3, y4, y5]
  · exact ⟨⟨none, 0, 0, none, 0, 0⟩, rfl, ⟨Rd.nil_ _ _, Rd.nil_ _ _, Nat.le_refl _, Nat.le_refl _, Nat.zero_le _, Nat.zero_le _⟩, hB⟩
set_option maxRecDepth 100000 in
set_option maxHeartbeats 2000000 in
theorem refDec_k3 (a : Addr) (n c : Nat) (xs : List UInt8) (w : World) (hr : Rd w (some a) n xs) (hnc : n ≤ c) (hn : n ≤ 140737488351232) (x0 : Nat) (h0 : w.cell? (a.add 0) = some (.int .u8 (x0 : Int))) (hpos : 0 < n) (s2 : Nat × Int) (key : List UInt8)
    (hT : rtextX xs 64 (1, 0) = (key, s2)) (hx : ((x0 : Int) == 2) = false)
    (s3 s4 s5 s6 : Nat × Int) (p7 : Nat) (er : Int) (v1 v2 v3 v4 : Nat) (t : List UInt8) (h1 : rnumX xs 8 s2 = (v1, s3)) (h2 : rnumX xs 8 s3 = (v2, s4)) (h3 : rnumX xs 8 s4 = (v3, s5)) (h4 : rnumX xs 8 s5 = (v4, s6)) (h5 : rtextX xs 1024 s6 = (t, (p7, er))) (he : er = 0) (hb : rightV ⟨key, t, wrap64 (v1 : Int), wrap64 (v2 : Int), wrap64 (v3 : Int), wrap64 (v4 : Int)⟩ = true) (hs : decide (kvB ⟨key, t, wrap64 (v1 : Int), wrap64 (v2 : Int), wrap64 (v3 : Int), wrap64 (v4 : Int)⟩ = xs) = false) :
    Calls Try.prog 20 #[.slice (some a) n c] w fun e w' => ∃ L, e = .returned (.tuple #[vkv L zeroKv, .bool false, .bool false]) ∧ RdV w' L zeroKv ∧ Below w.heap.size w w' := by
  subst he
  have hb1 := (Below.refl w.heap.size w).alloc (Nat.le_refl _) (.cells #[.slice none 0 0, .slice none 0 0, .int .i64 0, .int .i64 0, .int .i64 0, .int .i64 0] 24)
  have hz1 := Blk.new w 24 #[.slice none 0 0, .slice none 0 0, .int .i64 0, .int .i64 0, .int .i64 0, .int .i64 0]
  have hs1 : (w.alloc (.cells #[.slice none 0 0, .slice none 0 0, .int .i64 0, .int .i64 0, .int .i64 0, .int .i64 0] 24)).heap.size = w.heap.size + 1 := World.size_alloc ..
  have hb2 := (Below.refl (w.alloc (.cells #[.slice none 0 0, .slice none 0 0, .int .i64 0, .int .i64 0, .int .i64 0, .int .i64 0] 24)).heap.size (w.alloc (.cells #[.slice none 0 0, .slice none 0 0, .int .i64 0, .int .i64 0, .int .i64 0, .int .i64 0] 24))).alloc (Nat.le_refl _) (.cells #[.slice (some a) n c, .int .i64 1, .int .i64 0] 56)
  have hr2 := Blk.new (w.alloc (.cells #[.slice none 0 0, .slice none 0 0, .int .i64 0, .int .i64 0, .int .i64 0, .int .i64 0] 24)) 56 #[.slice (some a) n c, .int .i64 1, .int .i64 0]
  have hs2 : ((w.alloc (.cells #[.slice none 0 0, .slice none 0 0, .int .i64 0, .int .i64 0, .int .i64 0, .int .i64 0] 24)).alloc (.cells #[.slice (some a) n c, .int .i64 1, .int .i64 0] 56)).heap.size = w.heap.size + 1 + 1 := by rw [World.size_alloc, hs1]
  have hb3 := (Below.refl ((w.alloc (.cells #[.slice none 0 0, .slice none 0 0, .int .i64 0, .int .i64 0, .int .i64 0, .int .i64 0] 24)).alloc (.cells #[.slice (some a) n c, .int .i64 1, .int .i64 0] 56)).heap.size ((w.alloc (.cells #[.slice none 0 0, .slice none 0 0, .int .i64 0, .int .i64 0, .int .i64 0, .int .i64 0] 24)).alloc (.cells #[.slice (some a) n c, .int .i64 1, .int .i64 0] 56))).alloc (Nat.le_refl _) (.cells #[.slice none 0 0, .slice none 0 0, .int .i64 0, .int .i64 0, .int .i64 0, .int .i64 0] 24)
  have hg3 := Blk.new ((w.alloc (.cells #[.slice none 0 0, .slice none 0 0, .int .i64 0, .int .i64 0, .int .i64 0, .int .i64 0] 24)).alloc (.cells #[.slice (some a) n c, .int .i64 1, .int .i64 0] 56)) 24 #[.slice none 0 0, .slice none 0 0, .int .i64 0, .int .i64 0, .int .i64 0, .int .i64 0]
  have hs3 : (((w.alloc (.cells #[.slice none 0 0, .slice none 0 0, .int .i64 0, .int .i64 0, .int .i64 0, .int .i64 0] 24)).alloc (.cells #[.slice (some a) n c, .int .i64 1, .int .i64 0] 56)).alloc (.cells #[.slice none 0 0, .slice none 0 0, .int .i64 0, .int .i64 0, .int .i64 0, .int .i64 0] 24)).heap.size = w.heap.size + 1 + 1 + 1 := by rw [World.size_alloc, hs2]
  have hB3 := bel_to hb3 (bel_to hb2 hb1)
  have hR3 := hr.below hB3
  have hz3 := (hz1.below hb2 (Blk.lt hz1)).below hb3 (Blk.lt (hz1.below hb2 (Blk.lt hz1)))
  have hr3 := hr2.below hb3 (Blk.lt hr2)
  rw [hs1] at hr3
  rw [hs2] at hg3
  have hX3 : RY (((w.alloc (.cells #[.slice none 0 0, .slice none 0 0, .int .i64 0, .int .i64 0, .int .i64 0, .int .i64 0] 24)).alloc (.cells #[.slice (some a) n c, .int .i64 1, .int .i64 0] 56)).alloc (.cells #[.slice none 0 0, .slice none 0 0, .int .i64 0, .int .i64 0, .int .i64 0, .int .i64 0] 24)) (w.heap.size + 1) (some a) n c xs (1, 0) := ⟨⟨hr3, hR3⟩, hpos, hnc, by show n ≤ _; omega⟩
  have hlt := World.block_lt_of_cell? w _ h0
  rw [add_block] at hlt
  have h03 := (hB3.cell (p := a.add 0) (by rw [add_block]; exact hlt)).trans h0
  have N1 := fun W r A c (q : RY W r A n c xs (1, 0)) => refTextX64 r A n c xs (1, 0) W q
  simp only [hT] at N1
  have N1 := kept N1
  have HLK : Hid (key.length ≤ 64) := kept (by have := rtextX_len (xs := xs) (most := 64) (s := (1, 0)); rw [hT] at this; exact this)
  obtain ⟨W3, hW⟩ : ∃ W3, W3 = (((w.alloc (.cells #[.slice none 0 0, .slice none 0 0, .int .i64 0, .int .i64 0, .int .i64 0, .int .i64 0] 24)).alloc (.cells #[.slice (some a) n c, .int .i64 1, .int .i64 0] 56)).alloc (.cells #[.slice none 0 0, .slice none 0 0, .int .i64 0, .int .i64 0, .int .i64 0, .int .i64 0] 24)) := ⟨_, rfl⟩
  have HW := kept hW
  rw [← hW] at hB3 hR3 hz3 hg3 hX3 h03 hs3
  have HB3 := kept hB3
  have HZ3 := kept hz3
  have HG3 := kept hg3
  have HX3 := kept hX3
  have HC3 := kept h03
  have HS3 := kept hs3
  have HLT := kept hlt
  have HR0 := kept hr
  have HN := kept hn
  have HNP := kept hpos
  have HAP : ∀ g, w.heap.size ≤ g → apartA (some a) n g := fun g hg => hr.fresh hg
  have HAP := kept HAP
  have hnn : ((n : Int) == 0) = false := by simp; omega
  clear hb1 hz1 hs1 hb2 hr2 hs2 hb3 hg3 hB3 hR3 hz3 hr3 hX3 hlt h03 hr hn hpos hT hW hs3
  have M1 := fun W r A c (q : RY W r A n c xs s2) => refNumX8 r A n c xs s2 W q
  have M2 := fun W r A c (q : RY W r A n c xs s3) => refNumX8 r A n c xs s3 W q
  have M3 := fun W r A c (q : RY W r A n c xs s4) => refNumX8 r A n c xs s4 W q
  have M4 := fun W r A c (q : RY W r A n c xs s5) => refNumX8 r A n c xs s5 W q
  have M5 := fun W r A c (q : RY W r A n c xs s6) => refTextX1024 r A n c xs s6 W q
  simp only [h1] at M1
  simp only [h2] at M2
  simp only [h3] at M3
  simp only [h4] at M4
  simp only [h5] at M5
  have M1 := kept M1
  have M2 := kept M2
  have M3 := kept M3
  have M4 := kept M4
  have M5 := kept M5
  clear h1 h2 h3 h4 h5
  go_enter Try.func20, Try.ntmps20
  go_wp2_with fail
  rw [← HW.out]
  with_reducible refine (N1.out _ _ _ _ HX3.out).mono ?_
  rintro e w4 ⟨A1, n1, c1, rfl, hrd, hq⟩
  have hs4 : w.heap.size + 1 + 1 + 1 ≤ w4.heap.size := by have := hq.out.2.size; rw [HS3.out] at this; exact this
  have hz4 := Only.far_blk HZ3.out hq.out.2 (by omega)
  have hg4 := Only.far_blk HG3.out hq.out.2 (by omega)
  have hb4 := Only.below HB3.out hq.out.2 HB3.out.size (by omega)
  have hc4 : w4.cell? (a.add 0) = some (.int .u8 (x0 : Int)) := (hb4.cell (p := a.add 0) (by rw [add_block]; exact HLT.out)).trans h0
  have z0 : w4.cell? ⟨w.heap.size + 1 + 1, 0, none⟩ = some (.slice none 0 0) := hg4.cell 0
  have f0 := hg4.frozen 0
  have HNW : Hid (∀ g, g < w.heap.size + 1 + 1 + 1 → apartA A1 n1 g) := kept (fun g hg => hrd.out.2.1 g (by rw [HS3.out]; exact hg))
  have HL1 := kept hrd.out.2.2
  have HX4 := kept (hq.out.1.set_ (g := w.heap.size + 1 + 1) (by omega) (HAP.out _ (by omega)) 0 (.slice A1 n1 c1))
  have HR4 := kept (hrd.out.1.grown (HNW.out _ (by omega)) ((Only.refl w4 (w.heap.size + 1 + 1)).setCell 0 (.slice A1 n1 c1)))
  have HZ4 := kept (hz4.far (p := ⟨w.heap.size + 1 + 1, 0, none⟩) (by simp <;> omega) (.slice A1 n1 c1))
  have HG4 : Hid (Blk (w4.setCell ⟨w.heap.size + 1 + 1, 0, none⟩ (.slice A1 n1 c1)) (w.heap.size + 1 + 1) 24 [.slice A1 n1 c1, .slice none 0 0, .int .i64 0, .int .i64 0, .int .i64 0, .int .i64 0]) := kept (hg4.set_ 0 (.slice A1 n1 c1))
  have HB4 := kept (hb4.setCell (p := ⟨w.heap.size + 1 + 1, 0, none⟩) (show w.heap.size ≤ w.heap.size + 1 + 1 by omega) (.slice A1 n1 c1))
  have hc5 : (w4.setCell ⟨w.heap.size + 1 + 1, 0, none⟩ (.slice A1 n1 c1)).cell? (a.add 0) = some (.int .u8 (x0 : Int)) := (HB4.out.cell (p := a.add 0) (by rw [add_block]; exact HLT.out)).trans h0
  have ha0 : a.add 0 = a := by unfold Addr.add; simp
  rw [ha0] at hc5
  have HRX4 := kept (HR0.out.below HB4.out)
  have HS4 : Hid (w.heap.size + 1 + 1 + 1 ≤ (w4.setCell ⟨w.heap.size + 1 + 1, 0, none⟩ (.slice A1 n1 c1)).heap.size) := kept (by simpa [World.setCell] using hs4)
  have e2 : (w4.setCell ⟨w.heap.size + 1 + 1, 0, none⟩ (.slice A1 n1 c1)).cell? ⟨w.heap.size + 1, 2, none⟩ = some (.int .i64 s2.2) := HX4.out.1.error
  have q0 : (w4.setCell ⟨w.heap.size + 1 + 1, 0, none⟩ (.slice A1 n1 c1)).cell? ⟨w.heap.size + 1 + 1, 0, none⟩ = some (.slice A1 n1 c1) := HG4.out.cell 0
  clear hrd hq hz4 hg4 hb4 hs4 HX3 HZ3 HG3 HB3
  have HQ1 := kept q0
  have HK0 : Hid (Rd (w4.setCell ⟨w.heap.size + 1 + 1, 0, none⟩ (.slice A1 n1 c1)) A1 n1 key) := HR4
  clear q0
  go_wp2_with fail
  with_reducible refine (M1.out _ _ _ _ HX4.out).mono ?_
  rintro e u1 ⟨rfl, hq⟩
  clear f0 z0 hc5 e2 hc4
  have hz := Only.far_blk HZ4.out hq.out.2 (by omega)
  have hg := Only.far_blk HG4.out hq.out.2 (by omega)
  have hb := Only.below HB4.out hq.out.2 HB4.out.size (by omega)
  have hk := HK0.out.grown (HNW.out _ (by omega)) hq.out.2
  have hs : w.heap.size + 1 + 1 + 1 ≤ u1.heap.size := Nat.le_trans HS4.out hq.out.2.size
  have g1 : u1.cell? ⟨w.heap.size + 1 + 1, 2, none⟩ = some (.int .i64 0) := hg.cell 2
  have l1 := hg.frozen 2
  have HX5 := kept (hq.out.1.set_ (g := w.heap.size + 1 + 1) (by omega) (HAP.out _ (by omega)) 2 (.int .i64 (wrap64 (v1 : Int))))
  have HZ5 := kept (hz.far (p := ⟨w.heap.size + 1 + 1, 2, none⟩) (by simp <;> omega) (.int .i64 (wrap64 (v1 : Int))))
  have HG5 : Hid (Blk (u1.setCell ⟨w.heap.size + 1 + 1, 2, none⟩ (.int .i64 (wrap64 (v1 : Int)))) (w.heap.size + 1 + 1) 24 [.slice A1 n1 c1, .slice none 0 0, .int .i64 (wrap64 (v1 : Int)), .int .i64 0, .int .i64 0, .int .i64 0]) := kept (hg.set_ 2 (.int .i64 (wrap64 (v1 : Int))))
  have HB5 := kept (hb.setCell (p := ⟨w.heap.size + 1 + 1, 2, none⟩) (show w.heap.size ≤ w.heap.size + 1 + 1 by omega) (.int .i64 (wrap64 (v1 : Int))))
  have HK5 := kept (hk.grown (HNW.out _ (by omega)) ((Only.refl u1 (w.heap.size + 1 + 1)).setCell 2 (.int .i64 (wrap64 (v1 : Int)))))
  have HS5 : Hid (w.heap.size + 1 + 1 + 1 ≤ (u1.setCell ⟨w.heap.size + 1 + 1, 2, none⟩ (.int .i64 (wrap64 (v1 : Int)))).heap.size) := kept (by simpa [World.setCell] using hs)
  clear hz hg hb hk hs hq HX4 HZ4 HG4 HB4 HK0 HS4 HR4 HRX4 HQ1
  go_wp2_with fail
  with_reducible refine (M2.out _ _ _ _ HX5.out).mono ?_
  rintro e u2 ⟨rfl, hq⟩
  clear g1 l1
  have hz := Only.far_blk HZ5.out hq.out.2 (by omega)
  have hg := Only.far_blk HG5.out hq.out.2 (by omega)
  have hb := Only.below HB5.out hq.out.2 HB5.out.size (by omega)
  have hk := HK5.out.grown (HNW.out _ (by omega)) hq.out.2
  have hs : w.heap.size + 1 + 1 + 1 ≤ u2.heap.size := Nat.le_trans HS5.out hq.out.2.size
  have g2 : u2.cell? ⟨w.heap.size + 1 + 1, 3, none⟩ = some (.int .i64 0) := hg.cell 3
  have l2 := hg.frozen 3
  have HX6 := kept (hq.out.1.set_ (g := w.heap.size + 1 + 1) (by omega) (HAP.out _ (by omega)) 3 (.int .i64 (wrap64 (v2 : Int))))
  have HZ6 := kept (hz.far (p := ⟨w.heap.size + 1 + 1, 3, none⟩) (by simp <;> omega) (.int .i64 (wrap64 (v2 : Int))))
  have HG6 : Hid (Blk (u2.setCell ⟨w.heap.size + 1 + 1, 3, none⟩ (.int .i64 (wrap64 (v2 : Int)))) (w.heap.size + 1 + 1) 24 [.slice A1 n1 c1, .slice none 0 0, .int .i64 (wrap64 (v1 : Int)), .int .i64 (wrap64 (v2 : Int)), .int .i64 0, .int .i64 0]) := kept (hg.set_ 3 (.int .i64 (wrap64 (v2 : Int))))
  have HB6 := kept (hb.setCell (p := ⟨w.heap.size + 1 + 1, 3, none⟩) (show w.heap.size ≤ w.heap.size + 1 + 1 by omega) (.int .i64 (wrap64 (v2 : Int))))
  have HK6 := kept (hk.grown (HNW.out _ (by omega)) ((Only.refl u2 (w.heap.size + 1 + 1)).setCell 3 (.int .i64 (wrap64 (v2 : Int)))))
  have HS6 : Hid (w.heap.size + 1 + 1 + 1 ≤ (u2.setCell ⟨w.heap.size + 1 + 1, 3, none⟩ (.int .i64 (wrap64 (v2 : Int)))).heap.size) := kept (by simpa [World.setCell] using hs)
  clear hz hg hb hk hs hq HX5 HZ5 HG5 HB5 HK5 HS5
  go_wp2_with fail
  with_reducible refine (M3.out _ _ _ _ HX6.out).mono ?_
  rintro e u3 ⟨rfl, hq⟩
  clear g2 l2
  have hz := Only.far_blk HZ6.out hq.out.2 (by omega)
  have hg := Only.far_blk HG6.out hq.out.2 (by omega)
  have hb := Only.below HB6.out hq.out.2 HB6.out.size (by omega)
  have hk := HK6.out.grown (HNW.out _ (by omega)) hq.out.2
  have hs : w.heap.size + 1 + 1 + 1 ≤ u3.heap.size := Nat.le_trans HS6.out hq.out.2.size
  have g3 : u3.cell? ⟨w.heap.size + 1 + 1, 4, none⟩ = some (.int .i64 0) := hg.cell 4
  have l3 := hg.frozen 4
  have HX7 := kept (hq.out.1.set_ (g := w.heap.size + 1 + 1) (by omega) (HAP.out _ (by omega)) 4 (.int .i64 (wrap64 (v3 : Int))))
  have HZ7 := kept (hz.far (p := ⟨w.heap.size + 1 + 1, 4, none⟩) (by simp <;> omega) (.int .i64 (wrap64 (v3 : Int))))
  have HG7 : Hid (Blk (u3.setCell ⟨w.heap.size + 1 + 1, 4, none⟩ (.int .i64 (wrap64 (v3 : Int)))) (w.heap.size + 1 + 1) 24 [.slice A1 n1 c1, .slice none 0 0, .int .i64 (wrap64 (v1 : Int)), .int .i64 (wrap64 (v2 : Int)), .int .i64 (wrap64 (v3 : Int)), .int .i64 0]) := kept (hg.set_ 4 (.int .i64 (wrap64 (v3 : Int))))
  have HB7 := kept (hb.setCell (p := ⟨w.heap.size + 1 + 1, 4, none⟩) (show w.heap.size ≤ w.heap.size + 1 + 1 by omega) (.int .i64 (wrap64 (v3 : Int))))
  have HK7 := kept (hk.grown (HNW.out _ (by omega)) ((Only.refl u3 (w.heap.size + 1 + 1)).setCell 4 (.int .i64 (wrap64 (v3 : Int)))))
  have HS7 : Hid (w.heap.size + 1 + 1 + 1 ≤ (u3.setCell ⟨w.heap.size + 1 + 1, 4, none⟩ (.int .i64 (wrap64 (v3 : Int)))).heap.size) := kept (by simpa [World.setCell] using hs)
  clear hz hg hb hk hs hq HX6 HZ6 HG6 HB6 HK6 HS6
  go_wp2_with fail
  with_reducible refine (M4.out _ _ _ _ HX7.out).mono ?_
  rintro e u4 ⟨rfl, hq⟩
  clear g3 l3
  have hz := Only.far_blk HZ7.out hq.out.2 (by omega)
  have hg := Only.far_blk HG7.out hq.out.2 (by omega)
  have hb := Only.below HB7.out hq.out.2 HB7.out.size (by omega)
  have hk := HK7.out.grown (HNW.out _ (by omega)) hq.out.2
  have hs : w.heap.size + 1 + 1 + 1 ≤ u4.heap.size := Nat.le_trans HS7.out hq.out.2.size
  have g4 : u4.cell? ⟨w.heap.size + 1 + 1, 5, none⟩ = some (.int .i64 0) := hg.cell 5
  have l4 := hg.frozen 5
  have HX8 := kept (hq.out.1.set_ (g := w.heap.size + 1 + 1) (by omega) (HAP.out _ (by omega)) 5 (.int .i64 (wrap64 (v4 : Int))))
  have HZ8 := kept (hz.far (p := ⟨w.heap.size + 1 + 1, 5, none⟩) (by simp <;> omega) (.int .i64 (wrap64 (v4 : Int))))
  have HG8 : Hid (Blk (u4.setCell ⟨w.heap.size + 1 + 1, 5, none⟩ (.int .i64 (wrap64 (v4 : Int)))) (w.heap.size + 1 + 1) 24 [.slice A1 n1 c1, .slice none 0 0, .int .i64 (wrap64 (v1 : Int)), .int .i64 (wrap64 (v2 : Int)), .int .i64 (wrap64 (v3 : Int)), .int .i64 (wrap64 (v4 : Int))]) := kept (hg.set_ 5 (.int .i64 (wrap64 (v4 : Int))))
  have HB8 := kept (hb.setCell (p := ⟨w.heap.size + 1 + 1, 5, none⟩) (show w.heap.size ≤ w.heap.size + 1 + 1 by omega) (.int .i64 (wrap64 (v4 : Int))))
  have HK8 := kept (hk.grown (HNW.out _ (by omega)) ((Only.refl u4 (w.heap.size + 1 + 1)).setCell 5 (.int .i64 (wrap64 (v4 : Int)))))
  have HS8 : Hid (w.heap.size + 1 + 1 + 1 ≤ (u4.setCell ⟨w.heap.size + 1 + 1, 5, none⟩ (.int .i64 (wrap64 (v4 : Int)))).heap.size) := kept (by simpa [World.setCell] using hs)
  clear hz hg hb hk hs hq HX7 HZ7 HG7 HB7 HK7 HS7
  go_wp2_with fail
  with_reducible refine (M5.out _ _ _ _ HX8.out).mono ?_
  rintro e u5 ⟨A2, n2, c2, rfl, hrd, hq⟩
  clear g4 l4
  have hz := Only.far_blk HZ8.out hq.out.2 (by omega)
  have hg := Only.far_blk HG8.out hq.out.2 (by omega)
  have hb := Only.below HB8.out hq.out.2 HB8.out.size (by omega)
  have hk := HK8.out.grown (HNW.out _ (by omega)) hq.out.2
  have hs : w.heap.size + 1 + 1 + 1 ≤ u5.heap.size := Nat.le_trans HS8.out hq.out.2.size
  have g5 : u5.cell? ⟨w.heap.size + 1 + 1, 1, none⟩ = some (.slice none 0 0) := hg.cell 1
  have l5 := hg.frozen 1
  have HX9 := kept (hq.out.1.set_ (g := w.heap.size + 1 + 1) (by omega) (HAP.out _ (by omega)) 1 (.slice A2 n2 c2))
  have HZ9 := kept (hz.far (p := ⟨w.heap.size + 1 + 1, 1, none⟩) (by simp <;> omega) (.slice A2 n2 c2))
  have HG9 : Hid (Blk (u5.setCell ⟨w.heap.size + 1 + 1, 1, none⟩ (.slice A2 n2 c2)) (w.heap.size + 1 + 1) 24 [.slice A1 n1 c1, .slice A2 n2 c2, .int .i64 (wrap64 (v1 : Int)), .int .i64 (wrap64 (v2 : Int)), .int .i64 (wrap64 (v3 : Int)), .int .i64 (wrap64 (v4 : Int))]) := kept (hg.set_ 1 (.slice A2 n2 c2))
  have HB9 := kept (hb.setCell (p := ⟨w.heap.size + 1 + 1, 1, none⟩) (show w.heap.size ≤ w.heap.size + 1 + 1 by omega) (.slice A2 n2 c2))
  have HK9 := kept (hk.grown (HNW.out _ (by omega)) ((Only.refl u5 (w.heap.size + 1 + 1)).setCell 1 (.slice A2 n2 c2)))
  have HS9 : Hid (w.heap.size + 1 + 1 + 1 ≤ (u5.setCell ⟨w.heap.size + 1 + 1, 1, none⟩ (.slice A2 n2 c2)).heap.size) := kept (by simpa [World.setCell] using hs)
  have HNW2 : Hid (∀ g, g < w.heap.size + 1 + 1 + 1 → apartA A2 n2 g) := kept (fun g hg => hrd.out.2.1 g (Nat.lt_of_lt_of_le hg HS8.out))
  have HL2 := kept hrd.out.2.2
  have HV9 := kept (hrd.out.1.grown (HNW2.out _ (by omega)) ((Only.refl u5 (w.heap.size + 1 + 1)).setCell 1 (.slice A2 n2 c2)))
  clear hrd
  clear hz hg hb hk hs hq HX8 HZ8 HG8 HB8 HK8 HS8
  have HRV : Hid (RdV (u5.setCell ⟨w.heap.size + 1 + 1, 1, none⟩ (.slice A2 n2 c2)) ⟨A1, n1, c1, A2, n2, c2⟩ ⟨key, t, wrap64 (v1 : Int), wrap64 (v2 : Int), wrap64 (v3 : Int), wrap64 (v4 : Int)⟩) := kept ⟨HK9.out, HV9.out, HL1.out.1, HL2.out.1, by show n1 ≤ _; have := HL1.out.2; omega, by show n2 ≤ _; have := HL2.out.2; omega⟩
  have e2 : (u5.setCell ⟨w.heap.size + 1 + 1, 1, none⟩ (.slice A2 n2 c2)).cell? ⟨w.heap.size + 1, 2, none⟩ = some (.int .i64 0) := HX9.out.1.error
  have k0 : (u5.setCell ⟨w.heap.size + 1 + 1, 1, none⟩ (.slice A2 n2 c2)).cell? ⟨w.heap.size + 1 + 1, 0, none⟩ = some (.slice A1 n1 c1) := HG9.out.cell 0
  have k1 : (u5.setCell ⟨w.heap.size + 1 + 1, 1, none⟩ (.slice A2 n2 c2)).cell? ⟨w.heap.size + 1 + 1, 1, none⟩ = some (.slice A2 n2 c2) := HG9.out.cell 1
  have k2 : (u5.setCell ⟨w.heap.size + 1 + 1, 1, none⟩ (.slice A2 n2 c2)).cell? ⟨w.heap.size + 1 + 1, 2, none⟩ = some (.int .i64 (wrap64 (v1 : Int))) := HG9.out.cell 2
  have k3 : (u5.setCell ⟨w.heap.size + 1 + 1, 1, none⟩ (.slice A2 n2 c2)).cell? ⟨w.heap.size + 1 + 1, 3, none⟩ = some (.int .i64 (wrap64 (v2 : Int))) := HG9.out.cell 3
  have k4 : (u5.setCell ⟨w.heap.size + 1 + 1, 1, none⟩ (.slice A2 n2 c2)).cell? ⟨w.heap.size + 1 + 1, 4, none⟩ = some (.int .i64 (wrap64 (v3 : Int))) := HG9.out.cell 4
  have k5 : (u5.setCell ⟨w.heap.size + 1 + 1, 1, none⟩ (.slice A2 n2 c2)).cell? ⟨w.heap.size + 1 + 1, 5, none⟩ = some (.int .i64 (wrap64 (v4 : Int))) := HG9.out.cell 5
  have HRT := kept (refRight_kv ⟨A1, n1, c1, A2, n2, c2⟩ ⟨key, t, wrap64 (v1 : Int), wrap64 (v2 : Int), wrap64 (v3 : Int), wrap64 (v4 : Int)⟩ _ true hb HRV.out)
  go_wp2_with fail
  with_reducible refine HRT.out.mono ?_
  rintro e w6 ⟨rfl, hbb⟩
  clear k0 k1 k2 k3 k4 k5 e2 g5 l5 HRT
  have HG10 := kept (HG9.out.below hbb HG9.out.lt)
  have HZ10 := kept (HZ9.out.below hbb HZ9.out.lt)
  have HB10 := kept (HB9.out.trans (hbb.mono HB9.out.size))
  have HV10 := kept (HRV.out.below hbb)
  clear hbb HG9 HZ9 HB9 HRV HX9 HK9 HV9
  have HEC := kept (refEncode_kv ⟨A1, n1, c1, A2, n2, c2⟩ ⟨key, t, wrap64 (v1 : Int), wrap64 (v2 : Int), wrap64 (v3 : Int), wrap64 (v4 : Int)⟩ w6 hb HV10.out)
  have k0 : w6.cell? ⟨w.heap.size + 1 + 1, 0, none⟩ = some (.slice A1 n1 c1) := HG10.out.cell 0
  have k1 : w6.cell? ⟨w.heap.size + 1 + 1, 1, none⟩ = some (.slice A2 n2 c2) := HG10.out.cell 1
  have k2 : w6.cell? ⟨w.heap.size + 1 + 1, 2, none⟩ = some (.int .i64 (wrap64 (v1 : Int))) := HG10.out.cell 2
  have k3 : w6.cell? ⟨w.heap.size + 1 + 1, 3, none⟩ = some (.int .i64 (wrap64 (v2 : Int))) := HG10.out.cell 3
  have k4 : w6.cell? ⟨w.heap.size + 1 + 1, 4, none⟩ = some (.int .i64 (wrap64 (v3 : Int))) := HG10.out.cell 4
  have k5 : w6.cell? ⟨w.heap.size + 1 + 1, 5, none⟩ = some (.int .i64 (wrap64 (v4 : Int))) := HG10.out.cell 5
  go_wp2_with fail
  with_reducible refine HEC.out.mono ?_
  rintro e w8 ⟨A5, c5, rfl, hown, hbb⟩
  clear k0 k1 k2 k3 k4 k5 HEC
  have HSM := kept (same_any A5 (some a) _ n c5 c _ xs w8 (Rd.of_own hown) ((HR0.out.below HB10.out).below hbb) _ hs)
  have HG11 := kept (HG10.out.below hbb HG10.out.lt)
  have HZ11 := kept (HZ10.out.below hbb HZ10.out.lt)
  have HB11 := kept (HB10.out.trans (hbb.mono HB10.out.size))
  have HV11 := kept (HV10.out.below hbb)
  clear hown hbb HG10 HZ10 HB10 HV10
  go_wp2_with fail
  with_reducible refine HSM.out.mono ?_
  rintro e w9 ⟨rfl, rfl⟩
  clear HSM
  go_upto_region 16 with fail
  have HG : Hid (Blk w8 (w.heap.size + 1 + 1) 24 [.slice A1 n1 c1, .slice A2 n2 c2, .int .i64 (wrap64 (v1 : Int)), .int .i64 (wrap64 (v2 : Int)), .int .i64 (wrap64 (v3 : Int)), .int .i64 (wrap64 (v4 : Int))]) := kept (HG11.out)
  have HZ : Hid (Blk w8 w.heap.size 24 [.slice none 0 0, .slice none 0 0, .int .i64 0, .int .i64 0, .int .i64 0, .int .i64 0]) := kept (HZ11.out)
  have HB : Hid (Below w.heap.size w w8) := kept (HB11.out)
  have HR : Hid (Rd w8 A1 n1 key ∧ Rd w8 A2 n2 t ∧ apartA A1 n1 w.heap.size ∧ apartA A2 n2 w.heap.size) := kept (⟨HV11.out.key, HV11.out.val, HNW.out _ (by omega), HNW2.out _ (by omega)⟩)
  have HL : Hid (n1 ≤ c1 ∧ n2 ≤ c2 ∧ n1 ≤ 140737488351232 ∧ n2 ≤ 140737488351232) := kept (⟨HL1.out.1, HL2.out.1, by have := HL1.out.2; omega, by have := HL2.out.2; omega⟩)
  obtain ⟨W7, hW7⟩ : ∃ W7, W7 = w8 := ⟨_, rfl⟩
  rw [← hW7] at HG HZ HB HR ⊢
  clear hW7
  have z0 : W7.cell? ⟨w.heap.size, 0, none⟩ = some (.slice none 0 0) := HZ.out.cell 0
  have z1 : W7.cell? ⟨w.heap.size, 1, none⟩ = some (.slice none 0 0) := HZ.out.cell 1
  have z2 : W7.cell? ⟨w.heap.size, 2, none⟩ = some (.int .i64 0) := HZ.out.cell 2
  have z3 : W7.cell? ⟨w.heap.size, 3, none⟩ = some (.int .i64 0) := HZ.out.cell 3
  have z4 : W7.cell? ⟨w.heap.size, 4, none⟩ = some (.int .i64 0) := HZ.out.cell 4
  have z5 : W7.cell? ⟨w.heap.size, 5, none⟩ = some (.int .i64 0) := HZ.out.cell 5
  have f0 := HZ.out.frozen 0
  have f1 := HZ.out.frozen 1
  have f2 := HZ.out.frozen 2
  have f3 := HZ.out.frozen 3
  have f4 := HZ.out.frozen 4
  have f5 := HZ.out.frozen 5
  have HQ := kept (And.intro (set6_blk HZ.out (.slice none 0 0) (.slice none 0 0) (.int .i64 0) (.int .i64 0) (.int .i64 0) (.int .i64 0)) (set6_below (q := w.heap.size) HB.out (Nat.le_refl _) (.slice none 0 0) (.slice none 0 0) (.int .i64 0) (.int .i64 0) (.int .i64 0) (.int .i64 0)))
  go_wp2
  obtain ⟨hq, hB⟩ := HQ.out
  unfold set6 at hq hB
  generalize ((((((W7.setCell ⟨w.heap.size, 0, none⟩ (.slice none 0 0)).setCell ⟨w.heap.size, 1, none⟩ (.slice none 0 0)).setCell ⟨w.heap.size, 2, none⟩ (.int .i64 0)).setCell ⟨w.heap.size, 3, none⟩ (.int .i64 0)).setCell ⟨w.heap.size, 4, none⟩ (.int .i64 0)).setCell ⟨w.heap.size, 5, none⟩ (.int .i64 0)) = Y at hq hB ⊢
  have y0 : Y.cell? ⟨w.heap.size, 0, none⟩ = some (.slice none 0 0) := hq.cell 0
  have y1 : Y.cell? ⟨w.heap.size, 1, none⟩ = some (.slice none 0 0) := hq.cell 1
  have y2 : Y.cell? ⟨w.heap.size, 2, none⟩ = some (.int .i64 0) := hq.cell 2
  have y3 : Y.cell? ⟨w.heap.size, 3, none⟩ = some (.int .i64 0) := hq.cell 3
  have y4 : Y.cell? ⟨w.heap.size, 4, none⟩ = some (.int .i64 0) := hq.cell 4
  have y5 : Y.cell? ⟨w.heap.size, 5, none⟩ = some (.int .i64 0) := hq.cell 5
  refine bodyPost_ret (v := .tuple #[.agg #[.slice none 0 0, .slice none 0 0, .int .i64 0, .int .i64 0, .int .i64 0, .int .i64 0], .bool false, .bool false]) ?_ rfl ?_
  · simp [results, Try.results20, go_sem, y0, y1, y2, y3, y4, y5]
  · exact ⟨⟨none, 0, 0, none, 0, 0⟩, rfl, ⟨Rd.nil_ _ _, Rd.nil_ _ _, Nat.le_refl _, Nat.le_refl _, Nat.zero_le _, Nat.zero_le _⟩, hB⟩
set_option maxRecDepth 100000 in
set_option maxHeartbeats 2000000 in
theorem refDec_k4 (a : Addr) (n c : Nat) (xs : List UInt8) (w : World) (hr : Rd w (some a) n xs) (hnc : n ≤ c) (hn : n ≤ 140737488351232) (x0 : Nat) (h0 : w.cell? (a.add 0) = some (.int .u8 (x0 : Int))) (hpos : 0 < n) (s2 : Nat × Int) (key : List UInt8)
    (hT : rtextX xs 64 (1, 0) = (key, s2)) (hx : ((x0 : Int) == 2) = false)
    (s3 s4 s5 s6 : Nat × Int) (p7 : Nat) (er : Int) (v1 v2 v3 v4 : Nat) (t : List UInt8) (h1 : rnumX xs 8 s2 = (v1, s3)) (h2 : rnumX xs 8 s3 = (v2, s4)) (h3 : rnumX xs 8 s4 = (v3, s5)) (h4 : rnumX xs 8 s5 = (v4, s6)) (h5 : rtextX xs 1024 s6 = (t, (p7, er))) (he : er = 0) (hb : rightV ⟨key, t, wrap64 (v1 : Int), wrap64 (v2 : Int), wrap64 (v3 : Int), wrap64 (v4 : Int)⟩ = true) (hs : decide (kvB ⟨key, t, wrap64 (v1 : Int), wrap64 (v2 : Int), wrap64 (v3 : Int), wrap64 (v4 : Int)⟩ = xs) = true) :
    Calls Try.prog 20 #[.slice (some a) n c] w fun e w' => ∃ L, e = .returned (.tuple #[vkv L ⟨key, t, wrap64 (v1 : Int), wrap64 (v2 : Int), wrap64 (v3 : Int), wrap64 (v4 : Int)⟩, .bool false, .bool true]) ∧ RdV w' L ⟨key, t, wrap64 (v1 : Int), wrap64 (v2 : Int), wrap64 (v3 : Int), wrap64 (v4 : Int)⟩ ∧ Below w.heap.size w w' := by
  subst he
  have hb1 := (Below.refl w.heap.size w).alloc (Nat.le_refl _) (.cells #[.slice none 0 0, .slice none 0 0, .int .i64 0, .int .i64 0, .int .i64 0, .int .i64 0] 24)
  have hz1 := Blk.new w 24 #[.slice none 0 0, .slice none 0 0, .int .i64 0, .int .i64 0, .int .i64 0, .int .i64 0]
  have hs1 : (w.alloc (.cells #[.slice none 0 0, .slice none 0 0, .int .i64 0, .int .i64 0, .int .i64 0, .int .i64 0] 24)).heap.size = w.heap.size + 1 := World.size_alloc ..
  have hb2 := (Below.refl (w.alloc (.cells #[.slice none 0 0, .slice none 0 0, .int .i64 0, .int .i64 0, .int .i64 0, .int .i64 0] 24)).heap.size (w.alloc (.cells #[.slice none 0 0, .slice none 0 0, .int .i64 0, .int .i64 0, .int .i64 0, .int .i64 0] 24))).alloc (Nat.le_refl _) (.cells #[.slice (some a) n c, .int .i64 1, .int .i64 0] 56)
  have hr2 := Blk.new (w.alloc (.cells #[.slice none 0 0, .slice none 0 0, .int .i64 0, .int .i64 0, .int .i64 0, .int .i64 0] 24)) 56 #[.slice (some a) n c, .int .i64 1, .int .i64 0]
  have hs2 : ((w.alloc (.cells #[.slice none 0 0, .slice none 0 0, .int .i64 0, .int .i64 0, .int .i64 0, .int .i64 0] 24)).alloc (.cells #[.slice (some a) n c, .int .i64 1, .int .i64 0] 56)).heap.size = w.heap.size + 1 + 1 := by rw [World.size_alloc, hs1]
  have hb3 := (Below.refl ((w.alloc (.cells #[.slice none 0 0, .slice none 0 0, .int .i64 0, .int .i64 0, .int .i64 0, .int .i64 0] 24)).alloc (.cells #[.slice (some a) n c, .int .i64 1, .int .i64 0] 56)).heap.size ((w.alloc (.cells #[.slice none 0 0, .slice none 0 0, .int .i64 0, .int .i64 0, .int .i64 0, .int .i64 0] 24)).alloc (.cells #[.slice (some a) n c, .int .i64 1, .int .i64 0] 56))).alloc (Nat.le_refl _) (.cells #[.slice none 0 0, .slice none 0 0, .int .i64 0, .int .i64 0, .int .i64 0, .int .i64 0] 24)
  have hg3 := Blk.new ((w.alloc (.cells #[.slice none 0 0, .slice none 0 0, .int .i64 0, .int .i64 0, .int .i64 0, .int .i64 0] 24)).alloc (.cells #[.slice (some a) n c, .int .i64 1, .int .i64 0] 56)) 24 #[.slice none 0 0, .slice none 0 0, .int .i64 0, .int .i64 0, .int .i64 0, .int .i64 0]
  have hs3 : (((w.alloc (.cells #[.slice none 0 0, .slice none 0 0, .int .i64 0, .int .i64 0, .int .i64 0, .int .i64 0] 24)).alloc (.cells #[.slice (some a) n c, .int .i64 1, .int .i64 0] 56)).alloc (.cells #[.slice none 0 0, .slice none 0 0, .int .i64 0, .int .i64 0, .int .i64 0, .int .i64 0] 24)).heap.size = w.heap.size + 1 + 1 + 1 := by rw [World.size_alloc, hs2]
  have hB3 := bel_to hb3 (bel_to hb2 hb1)
  have hR3 := hr.below hB3
  have hz3 := (hz1.below hb2 (Blk.lt hz1)).below hb3 (Blk.lt (hz1.below hb2 (Blk.lt hz1)))
  have hr3 := hr2.below hb3 (Blk.lt hr2)
  rw [hs1] at hr3
  rw [hs2] at hg3
  have hX3 : RY (((w.alloc (.cells #[.slice none 0 0, .slice none 0 0, .int .i64 0, .int .i64 0, .int .i64 0, .int .i64 0] 24)).alloc (.cells #[.slice (some a) n c, .int .i64 1, .int .i64 0] 56)).alloc (.cells #[.slice none 0 0, .slice none 0 0, .int .i64 0, .int .i64 0, .int .i64 0, .int .i64 0] 24)) (w.heap.size + 1) (some a) n c xs (1, 0) := ⟨⟨hr3, hR3⟩, hpos, hnc, by show n ≤ _; omega⟩
  have hlt := World.block_lt_of_cell? w _ h0
  rw [add_block] at hlt
  have h03 := (hB3.cell (p := a.add 0) (by rw [add_block]; exact hlt)).trans h0
  have N1 := fun W r A c (q : RY W r A n c xs (1, 0)) => refTextX64 r A n c xs (1, 0) W q
  simp only [hT] at N1
  have N1 := kept N1
  have HLK : Hid (key.length ≤ 64) := kept (by have := rtextX_len (xs := xs) (most := 64) (s := (1, 0)); rw [hT] at this; exact this)
  obtain ⟨W3, hW⟩ : ∃ W3, W3 = (((w.alloc (.cells #[.slice none 0 0, .slice none 0 0, .int .i64 0, .int .i64 0, .int .i64 0, .int .i64 0] 24)).alloc (.cells #[.slice (some a) n c, .int .i64 1, .int .i64 0] 56)).alloc (.cells #[.slice none 0 0, .slice none 0 0, .int .i64 0, .int .i64 0, .int .i64 0, .int .i64 0] 24)) := ⟨_, rfl⟩
  have HW := kept hW
  rw [← hW] at hB3 hR3 hz3 hg3 hX3 h03 hs3
  have HB3 := kept hB3
  have HZ3 := kept hz3
  have HG3 := kept hg3
  have HX3 := kept hX3
  have HC3 := kept h03
  have HS3 := kept hs3
  have HLT := kept hlt
  have HR0 := kept hr
  have HN := kept hn
  have HNP := kept hpos
  have HAP : ∀ g, w.heap.size ≤ g → apartA (some a) n g := fun g hg => hr.fresh hg
  have HAP := kept HAP
  have hnn : ((n : Int) == 0) = false := by simp; omega
  clear hb1 hz1 hs1 hb2 hr2 hs2 hb3 hg3 hB3 hR3 hz3 hr3 hX3 hlt h03 hr hn hpos hT hW hs3
  have M1 := fun W r A c (q : RY W r A n c xs s2) => refNumX8 r A n c xs s2 W q
  have M2 := fun W r A c (q : RY W r A n c xs s3) => refNumX8 r A n c xs s3 W q
  have M3 := fun W r A c (q : RY W r A n c xs s4) => refNumX8 r A n c xs s4 W q
  have M4 := fun W r A c (q : RY W r A n c xs s5) => refNumX8 r A n c xs s5 W q
  have M5 := fun W r A c (q : RY W r A n c xs s6) => refTextX1024 r A n c xs s6 W q
  simp only [h1] at M1
  simp only [h2] at M2
  simp only [h3] at M3
  simp only [h4] at M4
  simp only [h5] at M5
  have M1 := kept M1
  have M2 := kept M2
  have M3 := kept M3
  have M4 := kept M4
  have M5 := kept M5
  clear h1 h2 h3 h4 h5
  go_enter Try.func20, Try.ntmps20
  go_wp2_with fail
  rw [← HW.out]
  with_reducible refine (N1.out _ _ _ _ HX3.out).mono ?_
  rintro e w4 ⟨A1, n1, c1, rfl, hrd, hq⟩
  have hs4 : w.heap.size + 1 + 1 + 1 ≤ w4.heap.size := by have := hq.out.2.size; rw [HS3.out] at this; exact this
  have hz4 := Only.far_blk HZ3.out hq.out.2 (by omega)
  have hg4 := Only.far_blk HG3.out hq.out.2 (by omega)
  have hb4 := Only.below HB3.out hq.out.2 HB3.out.size (by omega)
  have hc4 : w4.cell? (a.add 0) = some (.int .u8 (x0 : Int)) := (hb4.cell (p := a.add 0) (by rw [add_block]; exact HLT.out)).trans h0
  have z0 : w4.cell? ⟨w.heap.size + 1 + 1, 0, none⟩ = some (.slice none 0 0) := hg4.cell 0
  have f0 := hg4.frozen 0
  have HNW : Hid (∀ g, g < w.heap.size + 1 + 1 + 1 → apartA A1 n1 g) := kept (fun g hg => hrd.out.2.1 g (by rw [HS3.out]; exact hg))
  have HL1 := kept hrd.out.2.2
  have HX4 := kept (hq.out.1.set_ (g := w.heap.size + 1 + 1) (by omega) (HAP.out _ (by omega)) 0 (.slice A1 n1 c1))
  have HR4 := kept (hrd.out.1.grown (HNW.out _ (by omega)) ((Only.refl w4 (w.heap.size + 1 + 1)).setCell 0 (.slice A1 n1 c1)))
  have HZ4 := kept (hz4.far (p := ⟨w.heap.size + 1 + 1, 0, none⟩) (by simp <;> omega) (.slice A1 n1 c1))
  have HG4 : Hid (Blk (w4.setCell ⟨w.heap.size + 1 + 1, 0, none⟩ (.slice A1 n1 c1)) (w.heap.size + 1 + 1) 24 [.slice A1 n1 c1, .slice none 0 0, .int .i64 0, .int .i64 0, .int .i64 0, .int .i64 0]) := kept (hg4.set_ 0 (.slice A1 n1 c1))
  have HB4 := kept (hb4.setCell (p := ⟨w.heap.size + 1 + 1, 0, none⟩) (show w.heap.size ≤ w.heap.size + 1 + 1 by omega) (.slice A1 n1 c1))
  have hc5 : (w4.setCell ⟨w.heap.size + 1 + 1, 0, none⟩ (.slice A1 n1 c1)).cell? (a.add 0) = some (.int .u8 (x0 : Int)) := (HB4.out.cell (p := a.add 0) (by rw [add_block]; exact HLT.out)).trans h0
  have ha0 : a.add 0 = a := by unfold Addr.add; simp
  rw [ha0] at hc5
  have HRX4 := kept (HR0.out.below HB4.out)
  have HS4 : Hid (w.heap.size + 1 + 1 + 1 ≤ (w4.setCell ⟨w.heap.size + 1 + 1, 0, none⟩ (.slice A1 n1 c1)).heap.size) := kept (by simpa [World.setCell] using hs4)
  have e2 : (w4.setCell ⟨w.heap.size + 1 + 1, 0, none⟩ (.slice A1 n1 c1)).cell? ⟨w.heap.size + 1, 2, none⟩ = some (.int .i64 s2.2) := HX4.out.1.error
  have q0 : (w4.setCell ⟨w.heap.size + 1 + 1, 0, none⟩ (.slice A1 n1 c1)).cell? ⟨w.heap.size + 1 + 1, 0, none⟩ = some (.slice A1 n1 c1) := HG4.out.cell 0
  clear hrd hq hz4 hg4 hb4 hs4 HX3 HZ3 HG3 HB3
  have HQ1 := kept q0
  have HK0 : Hid (Rd (w4.setCell ⟨w.heap.size + 1 + 1, 0, none⟩ (.slice A1 n1 c1)) A1 n1 key) := HR4
  clear q0
  go_wp2_with fail
  with_reducible refine (M1.out _ _ _ _ HX4.out).mono ?_
  rintro e u1 ⟨rfl, hq⟩
  clear f0 z0 hc5 e2 hc4
  have hz := Only.far_blk HZ4.out hq.out.2 (by omega)
  have hg := Only.far_blk HG4.out hq.out.2 (by omega)
  have hb := Only.below HB4.out hq.out.2 HB4.out.size (by omega)
  have hk := HK0.out.grown (HNW.out _ (by omega)) hq.out.2
  have hs : w.heap.size + 1 + 1 + 1 ≤ u1.heap.size := Nat.le_trans HS4.out hq.out.2.size
  have g1 : u1.cell? ⟨w.heap.size + 1 + 1, 2, none⟩ = some (.int .i64 0) := hg.cell 2
  have l1 := hg.frozen 2
  have HX5 := kept (hq.out.1.set_ (g := w.heap.size + 1 + 1) (by omega) (HAP.out _ (by omega)) 2 (.int .i64 (wrap64 (v1 : Int))))
  have HZ5 := kept (hz.far (p := ⟨w.heap.size + 1 + 1, 2, none⟩) (by simp <;> omega) (.int .i64 (wrap64 (v1 : Int))))
  have HG5 : Hid (Blk (u1.setCell ⟨w.heap.size + 1 + 1, 2, none⟩ (.int .i64 (wrap64 (v1 : Int)))) (w.heap.size + 1 + 1) 24 [.slice A1 n1 c1, .slice none 0 0, .int .i64 (wrap64 (v1 : Int)), .int .i64 0, .int .i64 0, .int .i64 0]) := kept (hg.set_ 2 (.int .i64 (wrap64 (v1 : Int))))
  have HB5 := kept (hb.setCell (p := ⟨w.heap.size + 1 + 1, 2, none⟩) (show w.heap.size ≤ w.heap.size + 1 + 1 by omega) (.int .i64 (wrap64 (v1 : Int))))
  have HK5 := kept (hk.grown (HNW.out _ (by omega)) ((Only.refl u1 (w.heap.size + 1 + 1)).setCell 2 (.int .i64 (wrap64 (v1 : Int)))))
  have HS5 : Hid (w.heap.size + 1 + 1 + 1 ≤ (u1.setCell ⟨w.heap.size + 1 + 1, 2, none⟩ (.int .i64 (wrap64 (v1 : Int)))).heap.size) := kept (by simpa [World.setCell] using hs)
  clear hz hg hb hk hs hq HX4 HZ4 HG4 HB4 HK0 HS4 HR4 HRX4 HQ1
  go_wp2_with fail
  with_reducible refine (M2.out _ _ _ _ HX5.out).mono ?_
  rintro e u2 ⟨rfl, hq⟩
  clear g1 l1
  have hz := Only.far_blk HZ5.out hq.out.2 (by omega)
  have hg := Only.far_blk HG5.out hq.out.2 (by omega)
  have hb := Only.below HB5.out hq.out.2 HB5.out.size (by omega)
  have hk := HK5.out.grown (HNW.out _ (by omega)) hq.out.2
  have hs : w.heap.size + 1 + 1 + 1 ≤ u2.heap.size := Nat.le_trans HS5.out hq.out.2.size
  have g2 : u2.cell? ⟨w.heap.size + 1 + 1, 3, none⟩ = some (.int .i64 0) := hg.cell 3
  have l2 := hg.frozen 3
  have HX6 := kept (hq.out.1.set_ (g := w.heap.size + 1 + 1) (by omega) (HAP.out _ (by omega)) 3 (.int .i64 (wrap64 (v2 : Int))))
  have HZ6 := kept (hz.far (p := ⟨w.heap.size + 1 + 1, 3, none⟩) (by simp <;> omega) (.int .i64 (wrap64 (v2 : Int))))
  have HG6 : Hid (Blk (u2.setCell ⟨w.heap.size + 1 + 1, 3, none⟩ (.int .i64 (wrap64 (v2 : Int)))) (w.heap.size + 1 + 1) 24 [.slice A1 n1 c1, .slice none 0 0, .int .i64 (wrap64 (v1 : Int)), .int .i64 (wrap64 (v2 : Int)), .int .i64 0, .int .i64 0]) := kept (hg.set_ 3 (.int .i64 (wrap64 (v2 : Int))))
  have HB6 := kept (hb.setCell (p := ⟨w.heap.size + 1 + 1, 3, none⟩) (show w.heap.size ≤ w.heap.size + 1 + 1 by omega) (.int .i64 (wrap64 (v2 : Int))))
  have HK6 := kept (hk.grown (HNW.out _ (by omega)) ((Only.refl u2 (w.heap.size + 1 + 1)).setCell 3 (.int .i64 (wrap64 (v2 : Int)))))
  have HS6 : Hid (w.heap.size + 1 + 1 + 1 ≤ (u2.setCell ⟨w.heap.size + 1 + 1, 3, none⟩ (.int .i64 (wrap64 (v2 : Int)))).heap.size) := kept (by simpa [World.setCell] using hs)
  clear hz hg hb hk hs hq HX5 HZ5 HG5 HB5 HK5 HS5
  go_wp2_with fail
  with_reducible refine (M3.out _ _ _ _ HX6.out).mono ?_
  rintro e u3 ⟨rfl, hq⟩
  clear g2 l2
  have hz := Only.far_blk HZ6.out hq.out.2 (by omega)
  have hg := Only.far_blk HG6.out hq.out.2 (by omega)
  have hb := Only.below HB6.out hq.out.2 HB6.out.size (by omega)
  have hk := HK6.out.grown (HNW.out _ (by omega)) hq.out.2
  have hs : w.heap.size + 1 + 1 + 1 ≤ u3.heap.size := Nat.le_trans HS6.out hq.out.2.size
  have g3 : u3.cell? ⟨w.heap.size + 1 + 1, 4, none⟩ = some (.int .i64 0) := hg.cell 4
  have l3 := hg.frozen 4
  have HX7 := kept (hq.out.1.set_ (g := w.heap.size + 1 + 1) (by omega) (HAP.out _ (by omega)) 4 (.int .i64 (wrap64 (v3 : Int))))
  have HZ7 := kept (hz.far (p := ⟨w.heap.size + 1 + 1, 4, none⟩) (by simp <;> omega) (.int .i64 (wrap64 (v3 : Int))))
  have HG7 : Hid (Blk (u3.setCell ⟨w.heap.size + 1 + 1, 4, none⟩ (.int .i64 (wrap64 (v3 : Int)))) (w.heap.size + 1 + 1) 24 [.slice A1 n1 c1, .slice none 0 0, .int .i64 (wrap64 (v1 : Int)), .int .i64 (wrap64 (v2 : Int)), .int .i64 (wrap64 (v3 : Int)), .int .i64 0]) := kept (hg.set_ 4 (.int .i64 (wrap64 (v3 : Int))))
  have HB7 := kept (hb.setCell (p := ⟨w.heap.size + 1 + 1, 4, none⟩) (show w.heap.size ≤ w.heap.size + 1 + 1 by omega) (.int .i64 (wrap64 (v3 : Int))))
  have HK7 := kept (hk.grown (HNW.out _ (by omega)) ((Only.refl u3 (w.heap.size + 1 + 1)).setCell 4 (.int .i64 (wrap64 (v3 : Int)))))
  have HS7 : Hid (w.heap.size + 1 + 1 + 1 ≤ (u3.setCell ⟨w.heap.size + 1 + 1, 4, none⟩ (.int .i64 (wrap64 (v3 : Int)))).heap.size) := kept (by simpa [World.setCell] using hs)
  clear hz hg hb hk hs hq HX6 HZ6 HG6 HB6 HK6 HS6
  go_wp2_with fail
  with_reducible refine (M4.out _ _ _ _ HX7.out).mono ?_
  rintro e u4 ⟨rfl, hq⟩
  clear g3 l3
  have hz := Only.far_blk HZ7.out hq.out.2 (by omega)
  have hg := Only.far_blk HG7.out hq.out.2 (by omega)
  have hb := Only.below HB7.out hq.out.2 HB7.out.size (by omega)
  have hk := HK7.out.grown (HNW.out _ (by omega)) hq.out.2
  have hs : w.heap.size + 1 + 1 + 1 ≤ u4.heap.size := Nat.le_trans HS7.out hq.out.2.size
  have g4 : u4.cell? ⟨w.heap.size + 1 + 1, 5, none⟩ = some (.int .i64 0) := hg.cell 5
  have l4 := hg.frozen 5
  have HX8 := kept (hq.out.1.set_ (g := w.heap.size + 1 + 1) (by omega) (HAP.out _ (by omega)) 5 (.int .i64 (wrap64 (v4 : Int))))
  have HZ8 := kept (hz.far (p := ⟨w.heap.size + 1 + 1, 5, none⟩) (by simp <;> omega) (.int .i64 (wrap64 (v4 : Int))))
  have HG8 : Hid (Blk (u4.setCell ⟨w.heap.size + 1 + 1, 5, none⟩ (.int .i64 (wrap64 (v4 : Int)))) (w.heap.size + 1 + 1) 24 [.slice A1 n1 c1, .slice none 0 0, .int .i64 (wrap64 (v1 : Int)), .int .i64 (wrap64 (v2 : Int)), .int .i64 (wrap64 (v3 : Int)), .int .i64 (wrap64 (v4 : Int))]) := kept (hg.set_ 5 (.int .i64 (wrap64 (v4 : Int))))
  have HB8 := kept (hb.setCell (p := ⟨w.heap.size + 1 + 1, 5, none⟩) (show w.heap.size ≤ w.heap.size + 1 + 1 by omega) (.int .i64 (wrap64 (v4 : Int))))
  have HK8 := kept (hk.grown (HNW.out _ (by omega)) ((Only.refl u4 (w.heap.size + 1 + 1)).setCell 5 (.int .i64 (wrap64 (v4 : Int)))))
  have HS8 : Hid (w.heap.size + 1 + 1 + 1 ≤ (u4.setCell ⟨w.heap.size + 1 + 1, 5, none⟩ (.int .i64 (wrap64 (v4 : Int)))).heap.size) := kept (by simpa [World.setCell] using hs)
  clear hz hg hb hk hs hq HX7 HZ7 HG7 HB7 HK7 HS7
  go_wp2_with fail
  with_reducible refine (M5.out _ _ _ _ HX8.out).mono ?_
  rintro e u5 ⟨A2, n2, c2, rfl, hrd, hq⟩
  clear g4 l4
  have hz := Only.far_blk HZ8.out hq.out.2 (by omega)
  have hg := Only.far_blk HG8.out hq.out.2 (by omega)
  have hb := Only.below HB8.out hq.out.2 HB8.out.size (by omega)
  have hk := HK8.out.grown (HNW.out _ (by omega)) hq.out.2
  have hs : w.heap.size + 1 + 1 + 1 ≤ u5.heap.size := Nat.le_trans HS8.out hq.out.2.size
  have g5 : u5.cell? ⟨w.heap.size + 1 + 1, 1, none⟩ = some (.slice none 0 0) := hg.cell 1
  have l5 := hg.frozen 1
  have HX9 := kept (hq.out.1.set_ (g := w.heap.size + 1 + 1) (by omega) (HAP.out _ (by omega)) 1 (.slice A2 n2 c2))
  have HZ9 := kept (hz.far (p := ⟨w.heap.size + 1 + 1, 1, none⟩) (by simp <;> omega) (.slice A2 n2 c2))
  have HG9 : Hid (Blk (u5.setCell ⟨w.heap.size + 1 + 1, 1, none⟩ (.slice A2 n2 c2)) (w.heap.size + 1 + 1) 24 [.slice A1 n1 c1, .slice A2 n2 c2, .int .i64 (wrap64 (v1 : Int)), .int .i64 (wrap64 (v2 : Int)), .int .i64 (wrap64 (v3 : Int)), .int .i64 (wrap64 (v4 : Int))]) := kept (hg.set_ 1 (.slice A2 n2 c2))
  have HB9 := kept (hb.setCell (p := ⟨w.heap.size + 1 + 1, 1, none⟩) (show w.heap.size ≤ w.heap.size + 1 + 1 by omega) (.slice A2 n2 c2))
  have HK9 := kept (hk.grown (HNW.out _ (by omega)) ((Only.refl u5 (w.heap.size + 1 + 1)).setCell 1 (.slice A2 n2 c2)))
  have HS9 : Hid (w.heap.size + 1 + 1 + 1 ≤ (u5.setCell ⟨w.heap.size + 1 + 1, 1, none⟩ (.slice A2 n2 c2)).heap.size) := kept (by simpa [World.setCell] using hs)
  have HNW2 : Hid (∀ g, g < w.heap.size + 1 + 1 + 1 → apartA A2 n2 g) := kept (fun g hg => hrd.out.2.1 g (Nat.lt_of_lt_of_le hg HS8.out))
  have HL2 := kept hrd.out.2.2
  have HV9 := kept (hrd.out.1.grown (HNW2.out _ (by omega)) ((Only.refl u5 (w.heap.size + 1 + 1)).setCell 1 (.slice A2 n2 c2)))
  clear hrd
  clear hz hg hb hk hs hq HX8 HZ8 HG8 HB8 HK8 HS8
  have HRV : Hid (RdV (u5.setCell ⟨w.heap.size + 1 + 1, 1, none⟩ (.slice A2 n2 c2)) ⟨A1, n1, c1, A2, n2, c2⟩ ⟨key, t, wrap64 (v1 : Int), wrap64 (v2 : Int), wrap64 (v3 : Int), wrap64 (v4 : Int)⟩) := kept ⟨HK9.out, HV9.out, HL1.out.1, HL2.out.1, by show n1 ≤ _; have := HL1.out.2; omega, by show n2 ≤ _; have := HL2.out.2; omega⟩
  have e2 : (u5.setCell ⟨w.heap.size + 1 + 1, 1, none⟩ (.slice A2 n2 c2)).cell? ⟨w.heap.size + 1, 2, none⟩ = some (.int .i64 0) := HX9.out.1.error
  have k0 : (u5.setCell ⟨w.heap.size + 1 + 1, 1, none⟩ (.slice A2 n2 c2)).cell? ⟨w.heap.size + 1 + 1, 0, none⟩ = some (.slice A1 n1 c1) := HG9.out.cell 0
  have k1 : (u5.setCell ⟨w.heap.size + 1 + 1, 1, none⟩ (.slice A2 n2 c2)).cell? ⟨w.heap.size + 1 + 1, 1, none⟩ = some (.slice A2 n2 c2) := HG9.out.cell 1
  have k2 : (u5.setCell ⟨w.heap.size + 1 + 1, 1, none⟩ (.slice A2 n2 c2)).cell? ⟨w.heap.size + 1 + 1, 2, none⟩ = some (.int .i64 (wrap64 (v1 : Int))) := HG9.out.cell 2
  have k3 : (u5.setCell ⟨w.heap.size + 1 + 1, 1, none⟩ (.slice A2 n2 c2)).cell? ⟨w.heap.size + 1 + 1, 3, none⟩ = some (.int .i64 (wrap64 (v2 : Int))) := HG9.out.cell 3
  have k4 : (u5.setCell ⟨w.heap.size + 1 + 1, 1, none⟩ (.slice A2 n2 c2)).cell? ⟨w.heap.size + 1 + 1, 4, none⟩ = some (.int .i64 (wrap64 (v3 : Int))) := HG9.out.cell 4
  have k5 : (u5.setCell ⟨w.heap.size + 1 + 1, 1, none⟩ (.slice A2 n2 c2)).cell? ⟨w.heap.size + 1 + 1, 5, none⟩ = some (.int .i64 (wrap64 (v4 : Int))) := HG9.out.cell 5
  have HRT := kept (refRight_kv ⟨A1, n1, c1, A2, n2, c2⟩ ⟨key, t, wrap64 (v1 : Int), wrap64 (v2 : Int), wrap64 (v3 : Int), wrap64 (v4 : Int)⟩ _ true hb HRV.out)
  go_wp2_with fail
  with_reducible refine HRT.out.mono ?_
  rintro e w6 ⟨rfl, hbb⟩
  clear k0 k1 k2 k3 k4 k5 e2 g5 l5 HRT
  have HG10 := kept (HG9.out.below hbb HG9.out.lt)
  have HZ10 := kept (HZ9.out.below hbb HZ9.out.lt)
  have HB10 := kept (HB9.out.trans (hbb.mono HB9.out.size))
  have HV10 := kept (HRV.out.below hbb)
  clear hbb HG9 HZ9 HB9 HRV HX9 HK9 HV9
  have HEC := kept (refEncode_kv ⟨A1, n1, c1, A2, n2, c2⟩ ⟨key, t, wrap64 (v1 : Int), wrap64 (v2 : Int), wrap64 (v3 : Int), wrap64 (v4 : Int)⟩ w6 hb HV10.out)
  have k0 : w6.cell? ⟨w.heap.size + 1 + 1, 0, none⟩ = some (.slice A1 n1 c1) := HG10.out.cell 0
  have k1 : w6.cell? ⟨w.heap.size + 1 + 1, 1, none⟩ = some (.slice A2 n2 c2) := HG10.out.cell 1
  have k2 : w6.cell? ⟨w.heap.size + 1 + 1, 2, none⟩ = some (.int .i64 (wrap64 (v1 : Int))) := HG10.out.cell 2
  have k3 : w6.cell? ⟨w.heap.size + 1 + 1, 3, none⟩ = some (.int .i64 (wrap64 (v2 : Int))) := HG10.out.cell 3
  have k4 : w6.cell? ⟨w.heap.size + 1 + 1, 4, none⟩ = some (.int .i64 (wrap64 (v3 : Int))) := HG10.out.cell 4
  have k5 : w6.cell? ⟨w.heap.size + 1 + 1, 5, none⟩ = some (.int .i64 (wrap64 (v4 : Int))) := HG10.out.cell 5
  go_wp2_with fail
  with_reducible refine HEC.out.mono ?_
  rintro e w8 ⟨A5, c5, rfl, hown, hbb⟩
  clear k0 k1 k2 k3 k4 k5 HEC
  have HSM := kept (same_any A5 (some a) _ n c5 c _ xs w8 (Rd.of_own hown) ((HR0.out.below HB10.out).below hbb) _ hs)
  have HG11 := kept (HG10.out.below hbb HG10.out.lt)
  have HZ11 := kept (HZ10.out.below hbb HZ10.out.lt)
  have HB11 := kept (HB10.out.trans (hbb.mono HB10.out.size))
  have HV11 := kept (HV10.out.below hbb)
  clear hown hbb HG10 HZ10 HB10 HV10
  go_wp2_with fail
  with_reducible refine HSM.out.mono ?_
  rintro e w9 ⟨rfl, rfl⟩
  clear HSM
  go_upto_region 17 with fail
  have HG : Hid (Blk w8 (w.heap.size + 1 + 1) 24 [.slice A1 n1 c1, .slice A2 n2 c2, .int .i64 (wrap64 (v1 : Int)), .int .i64 (wrap64 (v2 : Int)), .int .i64 (wrap64 (v3 : Int)), .int .i64 (wrap64 (v4 : Int))]) := kept (HG11.out)
  have HZ : Hid (Blk w8 w.heap.size 24 [.slice none 0 0, .slice none 0 0, .int .i64 0, .int .i64 0, .int .i64 0, .int .i64 0]) := kept (HZ11.out)
  have HB : Hid (Below w.heap.size w w8) := kept (HB11.out)
  have HR : Hid (Rd w8 A1 n1 key ∧ Rd w8 A2 n2 t ∧ apartA A1 n1 w.heap.size ∧ apartA A2 n2 w.heap.size) := kept (⟨HV11.out.key, HV11.out.val, HNW.out _ (by omega), HNW2.out _ (by omega)⟩)
  have HL : Hid (n1 ≤ c1 ∧ n2 ≤ c2 ∧ n1 ≤ 140737488351232 ∧ n2 ≤ 140737488351232) := kept (⟨HL1.out.1, HL2.out.1, by have := HL1.out.2; omega, by have := HL2.out.2; omega⟩)
  obtain ⟨W7, hW7⟩ : ∃ W7, W7 = w8 := ⟨_, rfl⟩
  rw [← hW7] at HG HZ HB HR ⊢
  clear hW7
  have z0 : W7.cell? ⟨w.heap.size, 0, none⟩ = some (.slice none 0 0) := HZ.out.cell 0
  have z1 : W7.cell? ⟨w.heap.size, 1, none⟩ = some (.slice none 0 0) := HZ.out.cell 1
  have z2 : W7.cell? ⟨w.heap.size, 2, none⟩ = some (.int .i64 0) := HZ.out.cell 2
  have z3 : W7.cell? ⟨w.heap.size, 3, none⟩ = some (.int .i64 0) := HZ.out.cell 3
  have z4 : W7.cell? ⟨w.heap.size, 4, none⟩ = some (.int .i64 0) := HZ.out.cell 4
  have z5 : W7.cell? ⟨w.heap.size, 5, none⟩ = some (.int .i64 0) := HZ.out.cell 5
  have f0 := HZ.out.frozen 0
  have f1 := HZ.out.frozen 1
  have f2 := HZ.out.frozen 2
  have f3 := HZ.out.frozen 3
  have f4 := HZ.out.frozen 4
  have f5 := HZ.out.frozen 5
  have k0 : W7.cell? ⟨w.heap.size + 1 + 1, 0, none⟩ = some (.slice A1 n1 c1) := HG.out.cell 0
  have k1 : W7.cell? ⟨w.heap.size + 1 + 1, 1, none⟩ = some (.slice A2 n2 c2) := HG.out.cell 1
  have k2 : W7.cell? ⟨w.heap.size + 1 + 1, 2, none⟩ = some (.int .i64 (wrap64 (v1 : Int))) := HG.out.cell 2
  have k3 : W7.cell? ⟨w.heap.size + 1 + 1, 3, none⟩ = some (.int .i64 (wrap64 (v2 : Int))) := HG.out.cell 3
  have k4 : W7.cell? ⟨w.heap.size + 1 + 1, 4, none⟩ = some (.int .i64 (wrap64 (v3 : Int))) := HG.out.cell 4
  have k5 : W7.cell? ⟨w.heap.size + 1 + 1, 5, none⟩ = some (.int .i64 (wrap64 (v4 : Int))) := HG.out.cell 5
  have HQ := kept (And.intro (set6_blk HZ.out (.slice A1 n1 c1) (.slice A2 n2 c2) (.int .i64 (wrap64 (v1 : Int))) (.int .i64 (wrap64 (v2 : Int))) (.int .i64 (wrap64 (v3 : Int))) (.int .i64 (wrap64 (v4 : Int)))) (set6_below (q := w.heap.size) HB.out (Nat.le_refl _) (.slice A1 n1 c1) (.slice A2 n2 c2) (.int .i64 (wrap64 (v1 : Int))) (.int .i64 (wrap64 (v2 : Int))) (.int .i64 (wrap64 (v3 : Int))) (.int .i64 (wrap64 (v4 : Int)))))
  have HRV : Hid (RdV (set6 W7 w.heap.size (.slice A1 n1 c1) (.slice A2 n2 c2) (.int .i64 (wrap64 (v1 : Int))) (.int .i64 (wrap64 (v2 : Int))) (.int .i64 (wrap64 (v3 : Int))) (.int .i64 (wrap64 (v4 : Int)))) ⟨A1, n1, c1, A2, n2, c2⟩ ⟨key, t, wrap64 (v1 : Int), wrap64 (v2 : Int), wrap64 (v3 : Int), wrap64 (v4 : Int)⟩) := kept ⟨Rd.grown HR.out.1 HR.out.2.2.1 (set6_only W7 w.heap.size (.slice A1 n1 c1) (.slice A2 n2 c2) (.int .i64 (wrap64 (v1 : Int))) (.int .i64 (wrap64 (v2 : Int))) (.int .i64 (wrap64 (v3 : Int))) (.int .i64 (wrap64 (v4 : Int)))), Rd.grown HR.out.2.1 HR.out.2.2.2 (set6_only W7 w.heap.size (.slice A1 n1 c1) (.slice A2 n2 c2) (.int .i64 (wrap64 (v1 : Int))) (.int .i64 (wrap64 (v2 : Int))) (.int .i64 (wrap64 (v3 : Int))) (.int .i64 (wrap64 (v4 : Int)))), HL.out.1, HL.out.2.1, HL.out.2.2.1, HL.out.2.2.2⟩
  go_wp2
  obtain ⟨hq, hB⟩ := HQ.out
  have hV := HRV.out
  unfold set6 at hV
  unfold set6 at hq hB
  generalize ((((((W7.setCell ⟨w.heap.size, 0, none⟩ (.slice A1 n1 c1)).setCell ⟨w.heap.size, 1, none⟩ (.slice A2 n2 c2)).setCell ⟨w.heap.size, 2, none⟩ (.int .i64 (wrap64 (v1 : Int)))).setCell ⟨w.heap.size, 3, none⟩ (.int .i64 (wrap64 (v2 : Int)))).setCell ⟨w.heap.size, 4, none⟩ (.int .i64 (wrap64 (v3 : Int)))).setCell ⟨w.heap.size, 5, none⟩ (.int .i64 (wrap64 (v4 : Int)))) = Y at hq hB hV ⊢
  have y0 : Y.cell? ⟨w.heap.size, 0, none⟩ = some (.slice A1 n1 c1) := hq.cell 0
  have y1 : Y.cell? ⟨w.heap.size, 1, none⟩ = some (.slice A2 n2 c2) := hq.cell 1
  have y2 : Y.cell? ⟨w.heap.size, 2, none⟩ = some (.int .i64 (wrap64 (v1 : Int))) := hq.cell 2
  have y3 : Y.cell? ⟨w.heap.size, 3, none⟩ = some (.int .i64 (wrap64 (v2 : Int))) := hq.cell 3
  have y4 : Y.cell? ⟨w.heap.size, 4, none⟩ = some (.int .i64 (wrap64 (v3 : Int))) := hq.cell 4
  have y5 : Y.cell? ⟨w.heap.size, 5, none⟩ = some (.int .i64 (wrap64 (v4 : Int))) := hq.cell 5
  refine bodyPost_ret (v := .tuple #[.agg #[.slice A1 n1 c1, .slice A2 n2 c2, .int .i64 (wrap64 (v1 : Int)), .int .i64 (wrap64 (v2 : Int)), .int .i64 (wrap64 (v3 : Int)), .int .i64 (wrap64 (v4 : Int))], .bool false, .bool true]) ?_ rfl ?_
  · simp [results, Try.results20, go_sem, y0, y1, y2, y3, y4, y5]
  · exact ⟨⟨A1, n1, c1, A2, n2, c2⟩, rfl, hV, hB⟩
end Go.Proofs.Ytcmjgkgdeaiifaa
