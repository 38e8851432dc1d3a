/-
  What record's readRest and Decode answer.
-/
import Derived.Test.YtcmjgkgdeaiifaaNi
import Derived.Test.YtcmjgkgdeaiifaaNh
import Derived.Test.YtcmjgkgdeaiifaaTu
namespace Go.Proofs.Ytcmjgkgdeaiifaa
open Go.ChangeShapes Go.WideShapes Go.ChangeAt Go.RowKit
set_option linter.unusedVariables false
set_option linter.unusedSimpArgs false
attribute [local go_sem ↓] Go.wp_at_zero Go.wp_at_succ

theorem RX.rd_len {w : World} {r : Nat} {A : Option Addr} {n c : Nat} {xs : List UInt8} {s : Nat × Int} (h : RX w r A n c xs s) : xs.length = n := h.1.2.1
set_option maxRecDepth 100000 in
set_option maxHeartbeats 1000000 in
theorem readRest_any (r g : Nat) (A : Option Addr) (n c : Nat) (xs : List UInt8) (s s1 s2 s3 s4 s5 : Nat × Int) (v1 v2 v3 v4 : Nat) (t : List UInt8) (a b d e f h : Value) (w : World) (hX : RX w r A n c xs s) (hB : Blk w g 24 [a, b, d, e, f, h]) (hne : r ≠ g) (hap : apartA A n g)
    (h1 : rnumX xs 8 s = (v1, s1)) (h2 : rnumX xs 8 s1 = (v2, s2)) (h3 : rnumX xs 8 s2 = (v3, s3)) (h4 : rnumX xs 8 s3 = (v4, s4)) (h5 : rtextX xs 1024 s4 = (t, s5)) :
    Calls Try.prog 34 #[.pointer (some ⟨r, 0, none⟩), .pointer (some ⟨g, 0, none⟩)] w fun e w' => ∃ A2 n2 c2, e = .returned (.tuple #[]) ∧ Hid (Blk w' g 24 [a, .slice A2 n2 c2, .int .i64 (wrap64 (v1 : Int)), .int .i64 (wrap64 (v2 : Int)), .int .i64 (wrap64 (v3 : Int)), .int .i64 (wrap64 (v4 : Int))]) ∧ Hid (Rd w' A2 n2 t ∧ New A2 n2 w.heap.size ∧ n2 ≤ c2 ∧ n2 ≤ 65535) ∧ Hid (RX w' r A n c xs s5) ∧ Hid (Turned w w' (fun k => k = r ∨ k = g)) := by
  have HX0 := kept hX
  have HB0 := kept hB
  have HT0 : Hid (Turned w w (fun k => k = r ∨ k = g)) := kept (Turned.refl _ _)
  have HNE := kept hne
  have HAP := kept hap
  have N1 := fun W (q : RX W r A n c xs s) => readNumber_any r A n c xs s W q
  have N2 := fun W (q : RX W r A n c xs s1) => readNumber_any r A n c xs s1 W q
  have N3 := fun W (q : RX W r A n c xs s2) => readNumber_any r A n c xs s2 W q
  have N4 := fun W (q : RX W r A n c xs s3) => readNumber_any r A n c xs s3 W q
  have N5 := fun W (q : RX W r A n c xs s4) => textX1024 r A n c xs s4 W q
  simp only [h1] at N1
  simp only [h2] at N2
  simp only [h3] at N3
  simp only [h4] at N4
  simp only [h5] at N5
  have N1 := kept N1
  have N2 := kept N2
  have N3 := kept N3
  have N4 := kept N4
  have N5 := kept N5
  clear hX hB hne hap h1 h2 h3 h4 h5
  go_enter Try.func34, Try.ntmps34
  go_wp2_with fail
  with_reducible refine (N1.out _ HX0.out).mono ?_
  rintro e w1 ⟨rfl, hq⟩
  have hb := Only.far_blk HB0.out hq.out.2 (Ne.symm HNE.out)
  have p1 : w1.cell? ⟨g, 2, none⟩ = some (d) := hb.cell 2
  have f1 := hb.frozen 2
  have HB1 : Hid (Blk (w1.setCell ⟨g, 2, none⟩ (.int .i64 (wrap64 (v1 : Int)))) g 24 [a, b, .int .i64 (wrap64 (v1 : Int)), e, f, h]) := kept (hb.set_ 2 (.int .i64 (wrap64 (v1 : Int))))
  have HX1 := kept (hq.out.1.set_ HNE.out HAP.out 2 (.int .i64 (wrap64 (v1 : Int))))
  have HT1 := kept ((HT0.out.grown hq.out.2 (fun j _ e => .inl (Option.some.inj e).symm)).setCell (p := ⟨g, 2, none⟩) (fun _ => .inr rfl) (.int .i64 (wrap64 (v1 : Int))))
  clear hb hq
  go_wp2_with fail
  with_reducible refine (N2.out _ HX1.out).mono ?_
  rintro e w2 ⟨rfl, hq⟩
  clear p1 f1
  have hb := Only.far_blk HB1.out hq.out.2 (Ne.symm HNE.out)
  have p2 : w2.cell? ⟨g, 3, none⟩ = some (e) := hb.cell 3
  have f2 := hb.frozen 3
  have HB2 : Hid (Blk (w2.setCell ⟨g, 3, none⟩ (.int .i64 (wrap64 (v2 : Int)))) g 24 [a, b, .int .i64 (wrap64 (v1 : Int)), .int .i64 (wrap64 (v2 : Int)), f, h]) := kept (hb.set_ 3 (.int .i64 (wrap64 (v2 : Int))))
  have HX2 := kept (hq.out.1.set_ HNE.out HAP.out 3 (.int .i64 (wrap64 (v2 : Int))))
  have HT2 := kept ((HT1.out.grown hq.out.2 (fun j _ e => .inl (Option.some.inj e).symm)).setCell (p := ⟨g, 3, none⟩) (fun _ => .inr rfl) (.int .i64 (wrap64 (v2 : Int))))
  clear hb hq
  go_wp2_with fail
  with_reducible refine (N3.out _ HX2.out).mono ?_
  rintro e w3 ⟨rfl, hq⟩
  clear p2 f2
  have hb := Only.far_blk HB2.out hq.out.2 (Ne.symm HNE.out)
  have p3 : w3.cell? ⟨g, 4, none⟩ = some (f) := hb.cell 4
  have f3 := hb.frozen 4
  have HB3 : Hid (Blk (w3.setCell ⟨g, 4, none⟩ (.int .i64 (wrap64 (v3 : Int)))) g 24 [a, b, .int .i64 (wrap64 (v1 : Int)), .int .i64 (wrap64 (v2 : Int)), .int .i64 (wrap64 (v3 : Int)), h]) := kept (hb.set_ 4 (.int .i64 (wrap64 (v3 : Int))))
  have HX3 := kept (hq.out.1.set_ HNE.out HAP.out 4 (.int .i64 (wrap64 (v3 : Int))))
  have HT3 := kept ((HT2.out.grown hq.out.2 (fun j _ e => .inl (Option.some.inj e).symm)).setCell (p := ⟨g, 4, none⟩) (fun _ => .inr rfl) (.int .i64 (wrap64 (v3 : Int))))
  clear hb hq
  go_wp2_with fail
  with_reducible refine (N4.out _ HX3.out).mono ?_
  rintro e w4 ⟨rfl, hq⟩
  clear p3 f3
  have hb := Only.far_blk HB3.out hq.out.2 (Ne.symm HNE.out)
  have p4 : w4.cell? ⟨g, 5, none⟩ = some (h) := hb.cell 5
  have f4 := hb.frozen 5
  have HB4 : Hid (Blk (w4.setCell ⟨g, 5, none⟩ (.int .i64 (wrap64 (v4 : Int)))) g 24 [a, b, .int .i64 (wrap64 (v1 : Int)), .int .i64 (wrap64 (v2 : Int)), .int .i64 (wrap64 (v3 : Int)), .int .i64 (wrap64 (v4 : Int))]) := kept (hb.set_ 5 (.int .i64 (wrap64 (v4 : Int))))
  have HX4 := kept (hq.out.1.set_ HNE.out HAP.out 5 (.int .i64 (wrap64 (v4 : Int))))
  have HT4 := kept ((HT3.out.grown hq.out.2 (fun j _ e => .inl (Option.some.inj e).symm)).setCell (p := ⟨g, 5, none⟩) (fun _ => .inr rfl) (.int .i64 (wrap64 (v4 : Int))))
  clear hb hq
  go_wp2_with fail
  with_reducible refine (N5.out _ HX4.out).mono ?_
  rintro e w5 ⟨A2, n2, c2, rfl, hrd, hq⟩
  clear p4 f4
  have hb := Only.far_blk HB4.out hq.out.2 (Ne.symm HNE.out)
  have p5 : w5.cell? ⟨g, 1, none⟩ = some (b) := hb.cell 1
  have f5 := hb.frozen 1
  have HB5 : Hid (Blk (w5.setCell ⟨g, 1, none⟩ (.slice A2 n2 c2)) g 24 [a, .slice A2 n2 c2, .int .i64 (wrap64 (v1 : Int)), .int .i64 (wrap64 (v2 : Int)), .int .i64 (wrap64 (v3 : Int)), .int .i64 (wrap64 (v4 : Int))]) := kept (hb.set_ 1 (.slice A2 n2 c2))
  have HX5 := kept (hq.out.1.set_ HNE.out HAP.out 1 (.slice A2 n2 c2))
  have HT5 := kept ((HT4.out.grown hq.out.2 (fun j _ e => .inl (Option.some.inj e).symm)).setCell (p := ⟨g, 1, none⟩) (fun _ => .inr rfl) (.slice A2 n2 c2))
  have HR := kept (hrd.out.1.grown (hrd.out.2.1 g (by have := HB4.out.lt; simpa [World.setCell] using this)) ((Only.refl w5 g).setCell 1 (.slice A2 n2 c2)))
  have HR2 := kept (And.intro (show New A2 n2 w.heap.size from fun j hj => hrd.out.2.1 j (Nat.lt_of_lt_of_le hj HT4.out.size)) hrd.out.2.2)
  clear hb hq
  go_wp2
  go_end0
  exact ⟨A2, n2, c2, rfl, HB5, ⟨HR.out, HR2.out.1, HR2.out.2.1, HR2.out.2.2⟩, HX5, HT5⟩
theorem endX (r : Nat) (A : Option Addr) (n c : Nat) (xs : List UInt8) (s : Nat × Int) (er : Int) (he : endE n s.1 s.2 = er) (w : World) (h : RX w r A n c xs s) :
    Calls Try.prog 35 #[.pointer (some ⟨r, 0, none⟩)] w fun e w' => e = .returned (.int .i64 er) ∧ ∃ q, w' = w.drewN q := by
  subst he
  exact (endR_any r A n c xs s.1 s.2 w h.1 h.2.2.2 h.2.1).mono fun e w' hh => ⟨hh.1, hh.2.out⟩
theorem Turned.rd_apart {w w' : World} {r g : Nat} {A : Option Addr} {n : Nat} {xs : List UInt8} (t : Turned w w' (fun k => k = r ∨ k = g)) (h : Rd w A n xs) (h1 : apartA A n r) (h2 : apartA A n g) : Rd w' A n xs := by
  refine ⟨h.1, fun h0 => ?_⟩
  obtain ⟨a, e, hc⟩ := h.2 h0
  refine ⟨a, e, fun j hj => ?_⟩
  have hb : (a.add j).block < w.heap.size := World.block_lt_of_cell? w _ (hc j hj)
  rw [World.cell?_of_block (w := w) (t.block _ hb (by rw [add_block]; rintro (e' | e'); exact h1 a e h0 e'; exact h2 a e h0 e'))]
  exact hc j hj
theorem below_drewN {B : Nat} {w w' : World} (h : Below B w w') (q : Nat) : Below B w (w'.drewN q) := ⟨h.os, h.tape, h.output, h.size, h.block⟩
theorem Blk.far_blk_ {w w' : World} {r g : Nat} {t : TypeId} {cs : List Value} (h : Blk w g t cs) (k : Only w w' r) (hne : g ≠ r) : Blk w' g t cs := Only.far_blk h k hne
/-- The zero record at q, and the record under way at g. -/
abbrev Z6 : List Value := [.slice none 0 0, .slice none 0 0, .int .i64 0, .int .i64 0, .int .i64 0, .int .i64 0]
set_option maxRecDepth 100000 in
set_option maxHeartbeats 2000000 in
theorem decode_kv (A : Option Addr) (n c : Nat) (xs : List UInt8) (w : World) (hr : Rd w A n xs) (hn : n ≤ 140737488355328) (s1 s2 : Nat × Int) (key : List UInt8)
    (hK : rnumX xs 1 (0, 0) = (1, s1)) (hT : rtextX xs 64 s1 = (key, s2))
    (s3 s4 s5 s6 s7 : Nat × Int) (v1 v2 v3 v4 : Nat) (t : List UInt8) (h1 : rnumX xs 8 s2 = (v1, s3)) (h2 : rnumX xs 8 s3 = (v2, s4)) (h3 : rnumX xs 8 s4 = (v3, s5)) (h4 : rnumX xs 8 s5 = (v4, s6)) (h5 : rtextX xs 1024 s6 = (t, s7)) (b : Bool) (hb : rightV ⟨key, t, wrap64 (v1 : Int), wrap64 (v2 : Int), wrap64 (v3 : Int), wrap64 (v4 : Int)⟩ = b) (er : Int) (he : endE n s7.1 s7.2 = er) (hbt : b = true) (het : er = 0) :
    Calls Try.prog 19 #[.slice A n c] w fun e w' => ∃ L, e = .returned (.tuple #[vkv L ⟨key, t, wrap64 (v1 : Int), wrap64 (v2 : Int), wrap64 (v3 : Int), wrap64 (v4 : Int)⟩, .bool false, .int .i64 0]) ∧ RdV w' L ⟨key, t, wrap64 (v1 : Int), wrap64 (v2 : Int), wrap64 (v3 : Int), wrap64 (v4 : Int)⟩ ∧ Below w.heap.size w w' := by
  have hb0 := (Below.refl w.heap.size w).alloc (Nat.le_refl _) (.cells #[.slice none 0 0, .slice none 0 0, .int .i64 0, .int .i64 0, .int .i64 0, .int .i64 0] 24)
  have HZ0 := kept (Blk.new w 24 #[.slice none 0 0, .slice none 0 0, .int .i64 0, .int .i64 0, .int .i64 0, .int .i64 0])
  have HB0 := kept hb0
  have HR0 := kept (hr.below hb0)
  have HN := kept hn
  have HSZ : Hid ((zeroes w).heap.size = w.heap.size + 1) := kept (by simp [zeroes])
  have N0 : ∀ W r A c, RX W r A n c xs (0, 0) → Calls Try.prog 32 #[.pointer (some ⟨r, 0, none⟩), .int .i64 1] W fun e w' => e = .returned (.int .u64 (1 : Int)) ∧ Hid (RX w' r A n c xs s1 ∧ Only W w' r) := fun W r A c q => by
    have := numX1 r A n c xs (0, 0) W q
    rw [hK] at this
    exact this
  have N1 := fun W r A c (q : RX W r A n c xs s1) => textX64 r A n c xs s1 W q
  simp only [hT] at N1
  have N0 := kept N0
  have N1 := kept N1
  have HLK : Hid (key.length ≤ 64) := kept (by have := rtextX_len (xs := xs) (most := 64) (s := s1); rw [hT] at this; exact this)
  clear hb0 hr hn hK hT
  have HRR := fun W r g A c a' b' d' e' f' h' hX hB hne hap => kept (readRest_any r g A n c xs s2 s3 s4 s5 s6 s7 v1 v2 v3 v4 t a' b' d' e' f' h' W hX hB hne hap h1 h2 h3 h4 h5)
  have HRT := fun W L hr => kept (right_kv L ⟨key, t, wrap64 (v1 : Int), wrap64 (v2 : Int), wrap64 (v3 : Int), wrap64 (v4 : Int)⟩ W b hb hr)
  have HEN := fun W r A c h => kept (endX r A n c xs s7 er he W h)
  clear hb he h1 h2 h3 h4 h5
  subst hbt het
  go_enter Try.func19, Try.ntmps19
  go_wp2_with fail
  with_reducible refine (newReader_any A n c xs _ HR0.out HN.out).mono ?_
  rintro e w1 ⟨r, A', c', rfl, hrdr, hc, hrr, hb⟩
  have HX1 : Hid (RX w1 r A' n c' xs (0, 0)) := kept ⟨hrdr, Nat.zero_le _, hc, HN.out⟩
  have HZ1 := kept (HZ0.out.below hb HZ0.out.lt)
  have HB1 := kept (bel_to hb HB0.out)
  have HQR := kept (show w.heap.size < r by rw [HSZ.out] at hrr; omega)
  clear hrdr hc hrr hb HZ0 HB0 HR0
  go_wp2_with fail
  with_reducible refine (N0.out _ _ _ _ HX1.out).mono ?_
  rintro e w2 ⟨rfl, hq⟩
  have HX2 := kept hq.out.1
  have HZ2 := kept (HZ1.out.far_blk_ hq.out.2 (by have := HQR.out; omega))
  have HB2 := kept (Only.below HB1.out hq.out.2 HB1.out.size (Nat.le_of_lt HQR.out))
  clear hq HX1 HZ1 HB1
  go_wp2_with fail
  with_reducible refine (N1.out _ _ _ _ HX2.out).mono ?_
  rintro e w3 ⟨A1, n1, c1, rfl, hrd, hq⟩
  have HX3 := kept hq.out.1
  have HZ3 := kept (HZ2.out.far_blk_ hq.out.2 (by have := HQR.out; omega))
  have HB3 := kept (Only.below HB2.out hq.out.2 HB2.out.size (Nat.le_of_lt HQR.out))
  have HR3 := kept hrd.out.1
  have HA3 := kept (hrd.out.2.1 r HX2.out.lt)
  have HL3 := kept hrd.out.2.2
  have HAq := kept (hrd.out.2.1 w.heap.size (Nat.lt_trans HQR.out HX2.out.lt))
  clear hq hrd HX2 HZ2 HB2
  obtain ⟨g, hg⟩ : ∃ g, w3.heap.size = g := ⟨_, rfl⟩
  have hbn := (Below.refl w3.heap.size w3).alloc (Nat.le_refl _) (.cells #[.slice A1 n1 c1, .slice none 0 0, .int .i64 0, .int .i64 0, .int .i64 0, .int .i64 0] 24)
  have HG4 : Hid (Blk (w3.alloc (.cells #[.slice A1 n1 c1, .slice none 0 0, .int .i64 0, .int .i64 0, .int .i64 0, .int .i64 0] 24)) g 24 [.slice A1 n1 c1, .slice none 0 0, .int .i64 0, .int .i64 0, .int .i64 0, .int .i64 0]) := kept (by rw [← hg]; exact Blk.new w3 24 _)
  have HX4 := kept (HX3.out.below hbn)
  have HZ4 := kept (HZ3.out.below hbn HZ3.out.lt)
  have HB4 := kept (bel_to hbn HB3.out)
  have HR4 := kept (HR3.out.below hbn)
  have HG3 := kept (show r < g by rw [← hg]; exact HX3.out.lt)
  have HA4 := kept (show apartA A1 n1 g from HR3.out.fresh (Nat.le_of_eq hg))
  have HA5 := kept (show apartA A' n g from HX3.out.apart (Nat.le_of_eq hg))
  have HGG := kept hg
  have HQ3 := kept (show w.heap.size < w3.heap.size from Nat.lt_trans HQR.out HX3.out.lt)
  clear hbn HX3 HZ3 HB3 HR3 hg
  go_wp2_with fail
  rw [HGG.out]
  with_reducible refine (HRR _ r g A' c' _ _ _ _ _ _ HX4.out HG4.out (Nat.ne_of_lt HG3.out) HA5.out).out.mono ?_
  rintro e w5 ⟨A2, n2, c2, rfl, HG5, HR5, HX5, HT5⟩
  have HZ5 := kept (HT5.out.blk HZ4.out (by have := HQR.out; have := HG3.out; rintro (h | h) <;> omega))
  have HK5 := kept (HT5.out.rd_apart HR4.out HA3.out HA4.out)
  have HB5 := kept (HT5.out.only_new HB4.out HB4.out.size (by have := HQR.out; have := HG3.out; rintro i (h | h) <;> omega))
  have HL : Hid (n1 ≤ c1 ∧ n2 ≤ c2 ∧ n1 ≤ 140737488351232 ∧ n2 ≤ 140737488351232) := kept ⟨HL3.out.1, HR5.out.2.2.1, by have := HL3.out.2; omega, by have := HR5.out.2.2.2; omega⟩
  have HV5 : Hid (RdV w5 ⟨A1, n1, c1, A2, n2, c2⟩ ⟨key, t, wrap64 (v1 : Int), wrap64 (v2 : Int), wrap64 (v3 : Int), wrap64 (v4 : Int)⟩) := kept ⟨HK5.out, HR5.out.1, HL.out.1, HL.out.2.1, HL.out.2.2.1, HL.out.2.2.2⟩
  have HA6 : Hid (apartA A1 n1 w.heap.size ∧ apartA A2 n2 w.heap.size) := kept ⟨HAq.out, HR5.out.2.1 _ (by rw [World.size_alloc]; have := HQ3.out; omega)⟩
  have k0 : w5.cell? ⟨g, 0, none⟩ = some (.slice A1 n1 c1) := HG5.out.cell 0
  have k1 : w5.cell? ⟨g, 1, none⟩ = some (.slice A2 n2 c2) := HG5.out.cell 1
  have k2 : w5.cell? ⟨g, 2, none⟩ = some (.int .i64 (wrap64 (v1 : Int))) := HG5.out.cell 2
  have k3 : w5.cell? ⟨g, 3, none⟩ = some (.int .i64 (wrap64 (v2 : Int))) := HG5.out.cell 3
  have k4 : w5.cell? ⟨g, 4, none⟩ = some (.int .i64 (wrap64 (v3 : Int))) := HG5.out.cell 4
  have k5 : w5.cell? ⟨g, 5, none⟩ = some (.int .i64 (wrap64 (v4 : Int))) := HG5.out.cell 5
  clear HX4 HG4 HZ4 HB4 HR4 HK5 HR5 HT5
  go_wp2_with fail
  with_reducible refine (HRT _ ⟨A1, n1, c1, A2, n2, c2⟩ HV5.out).out.mono ?_
  clear k0 k1 k2 k3 k4 k5
  rintro e w6 ⟨rfl, hb⟩
  have HG6 := kept (HG5.out.below hb HG5.out.lt)
  have HZ6 := kept (HZ5.out.below hb HZ5.out.lt)
  have HB6 := kept (bel_to hb HB5.out)
  have HX6 := kept (HX5.out.below hb)
  have HV6 := kept (HV5.out.below hb)
  clear hb HG5 HZ5 HB5 HX5 HV5
  go_wp2_with fail
  with_reducible refine (HEN _ _ _ _ HX6.out).out.mono ?_
  rintro e w7 ⟨rfl, q, hq⟩
  obtain ⟨W7, hW⟩ : ∃ W7, W7 = w7 := ⟨_, rfl⟩
  rw [← hW]
  rw [← hW] at hq
  have HG : Hid (Blk W7 g 24 [.slice A1 n1 c1, .slice A2 n2 c2, .int .i64 (wrap64 (v1 : Int)), .int .i64 (wrap64 (v2 : Int)), .int .i64 (wrap64 (v3 : Int)), .int .i64 (wrap64 (v4 : Int))]) := kept (by rw [hq]; exact HG6.out)
  have HZ : Hid (Blk W7 w.heap.size 24 [.slice none 0 0, .slice none 0 0, .int .i64 0, .int .i64 0, .int .i64 0, .int .i64 0]) := kept (by rw [hq]; exact HZ6.out)
  have HB : Hid (Below w.heap.size w W7) := kept (by rw [hq]; exact below_drewN HB6.out q)
  have HR : Hid (Rd W7 A1 n1 key ∧ Rd W7 A2 n2 t ∧ apartA A1 n1 w.heap.size ∧ apartA A2 n2 w.heap.size) := kept (by rw [hq]; exact ⟨HV6.out.key, HV6.out.val, HA6.out.1, HA6.out.2⟩)
  clear hq hW HG6 HZ6 HB6 HX6 HV6 HA6
  have z0 : W7.cell? ⟨w.heap.size, 0, none⟩ = some (.slice none 0 0) := HZ.out.cell 0
  have z1 : W7.cell? ⟨w.heap.size, 1, none⟩ = some (.slice none 0 0) := HZ.out.cell 1
  have z2 : W7.cell? ⟨w.heap.size, 2, none⟩ = some (.int .i64 0) := HZ.out.cell 2
  have z3 : W7.cell? ⟨w.heap.size, 3, none⟩ = some (.int .i64 0) := HZ.out.cell 3
  have z4 : W7.cell? ⟨w.heap.size, 4, none⟩ = some (.int .i64 0) := HZ.out.cell 4
  have z5 : W7.cell? ⟨w.heap.size, 5, none⟩ = some (.int .i64 0) := HZ.out.cell 5
  have f0 := HZ.out.frozen 0
  have f1 := HZ.out.frozen 1
  have f2 := HZ.out.frozen 2
  have f3 := HZ.out.frozen 3
  have f4 := HZ.out.frozen 4
  have f5 := HZ.out.frozen 5
  have k0 : W7.cell? ⟨g, 0, none⟩ = some (.slice A1 n1 c1) := HG.out.cell 0
  have k1 : W7.cell? ⟨g, 1, none⟩ = some (.slice A2 n2 c2) := HG.out.cell 1
  have k2 : W7.cell? ⟨g, 2, none⟩ = some (.int .i64 (wrap64 (v1 : Int))) := HG.out.cell 2
  have k3 : W7.cell? ⟨g, 3, none⟩ = some (.int .i64 (wrap64 (v2 : Int))) := HG.out.cell 3
  have k4 : W7.cell? ⟨g, 4, none⟩ = some (.int .i64 (wrap64 (v3 : Int))) := HG.out.cell 4
  have k5 : W7.cell? ⟨g, 5, none⟩ = some (.int .i64 (wrap64 (v4 : Int))) := HG.out.cell 5
  have HQ := kept (And.intro (set6_blk HZ.out (.slice A1 n1 c1) (.slice A2 n2 c2) (.int .i64 (wrap64 (v1 : Int))) (.int .i64 (wrap64 (v2 : Int))) (.int .i64 (wrap64 (v3 : Int))) (.int .i64 (wrap64 (v4 : Int)))) (set6_below (q := w.heap.size) HB.out (Nat.le_refl _) (.slice A1 n1 c1) (.slice A2 n2 c2) (.int .i64 (wrap64 (v1 : Int))) (.int .i64 (wrap64 (v2 : Int))) (.int .i64 (wrap64 (v3 : Int))) (.int .i64 (wrap64 (v4 : Int)))))
  have HRV : Hid (RdV (set6 W7 w.heap.size (.slice A1 n1 c1) (.slice A2 n2 c2) (.int .i64 (wrap64 (v1 : Int))) (.int .i64 (wrap64 (v2 : Int))) (.int .i64 (wrap64 (v3 : Int))) (.int .i64 (wrap64 (v4 : Int)))) ⟨A1, n1, c1, A2, n2, c2⟩ ⟨key, t, wrap64 (v1 : Int), wrap64 (v2 : Int), wrap64 (v3 : Int), wrap64 (v4 : Int)⟩) := kept ⟨Rd.grown HR.out.1 HR.out.2.2.1 (set6_only W7 w.heap.size (.slice A1 n1 c1) (.slice A2 n2 c2) (.int .i64 (wrap64 (v1 : Int))) (.int .i64 (wrap64 (v2 : Int))) (.int .i64 (wrap64 (v3 : Int))) (.int .i64 (wrap64 (v4 : Int)))), Rd.grown HR.out.2.1 HR.out.2.2.2 (set6_only W7 w.heap.size (.slice A1 n1 c1) (.slice A2 n2 c2) (.int .i64 (wrap64 (v1 : Int))) (.int .i64 (wrap64 (v2 : Int))) (.int .i64 (wrap64 (v3 : Int))) (.int .i64 (wrap64 (v4 : Int)))), HL.out.1, HL.out.2.1, HL.out.2.2.1, HL.out.2.2.2⟩
  go_wp2
  obtain ⟨hq, hB⟩ := HQ.out
  have hV := HRV.out
  unfold set6 at hV
  unfold set6 at hq hB
  generalize ((((((W7.setCell ⟨w.heap.size, 0, none⟩ (.slice A1 n1 c1)).setCell ⟨w.heap.size, 1, none⟩ (.slice A2 n2 c2)).setCell ⟨w.heap.size, 2, none⟩ (.int .i64 (wrap64 (v1 : Int)))).setCell ⟨w.heap.size, 3, none⟩ (.int .i64 (wrap64 (v2 : Int)))).setCell ⟨w.heap.size, 4, none⟩ (.int .i64 (wrap64 (v3 : Int)))).setCell ⟨w.heap.size, 5, none⟩ (.int .i64 (wrap64 (v4 : Int)))) = Y at hq hB hV ⊢
  have y0 : Y.cell? ⟨w.heap.size, 0, none⟩ = some (.slice A1 n1 c1) := hq.cell 0
  have y1 : Y.cell? ⟨w.heap.size, 1, none⟩ = some (.slice A2 n2 c2) := hq.cell 1
  have y2 : Y.cell? ⟨w.heap.size, 2, none⟩ = some (.int .i64 (wrap64 (v1 : Int))) := hq.cell 2
  have y3 : Y.cell? ⟨w.heap.size, 3, none⟩ = some (.int .i64 (wrap64 (v2 : Int))) := hq.cell 3
  have y4 : Y.cell? ⟨w.heap.size, 4, none⟩ = some (.int .i64 (wrap64 (v3 : Int))) := hq.cell 4
  have y5 : Y.cell? ⟨w.heap.size, 5, none⟩ = some (.int .i64 (wrap64 (v4 : Int))) := hq.cell 5
  refine bodyPost_ret (v := .tuple #[.agg #[.slice A1 n1 c1, .slice A2 n2 c2, .int .i64 (wrap64 (v1 : Int)), .int .i64 (wrap64 (v2 : Int)), .int .i64 (wrap64 (v3 : Int)), .int .i64 (wrap64 (v4 : Int))], .bool false, .int .i64 0]) ?_ rfl ?_
  · simp [results, Try.results19, go_sem, y0, y1, y2, y3, y4, y5]
  · exact ⟨⟨A1, n1, c1, A2, n2, c2⟩, rfl, hV, hB⟩
set_option maxRecDepth 100000 in
set_option maxHeartbeats 2000000 in
theorem decode_kv_end (A : Option Addr) (n c : Nat) (xs : List UInt8) (w : World) (hr : Rd w A n xs) (hn : n ≤ 140737488355328) (s1 s2 : Nat × Int) (key : List UInt8)
    (hK : rnumX xs 1 (0, 0) = (1, s1)) (hT : rtextX xs 64 s1 = (key, s2))
    (s3 s4 s5 s6 s7 : Nat × Int) (v1 v2 v3 v4 : Nat) (t : List UInt8) (h1 : rnumX xs 8 s2 = (v1, s3)) (h2 : rnumX xs 8 s3 = (v2, s4)) (h3 : rnumX xs 8 s4 = (v3, s5)) (h4 : rnumX xs 8 s5 = (v4, s6)) (h5 : rtextX xs 1024 s6 = (t, s7)) (b : Bool) (hb : rightV ⟨key, t, wrap64 (v1 : Int), wrap64 (v2 : Int), wrap64 (v3 : Int), wrap64 (v4 : Int)⟩ = b) (er : Int) (he : endE n s7.1 s7.2 = er) (het : (er != 0) = true) :
    Calls Try.prog 19 #[.slice A n c] w fun e w' => ∃ L, e = .returned (.tuple #[vkv L zeroKv, .bool false, .int .i64 4]) ∧ RdV w' L zeroKv ∧ Below w.heap.size w w' := by
  have hb0 := (Below.refl w.heap.size w).alloc (Nat.le_refl _) (.cells #[.slice none 0 0, .slice none 0 0, .int .i64 0, .int .i64 0, .int .i64 0, .int .i64 0] 24)
  have HZ0 := kept (Blk.new w 24 #[.slice none 0 0, .slice none 0 0, .int .i64 0, .int .i64 0, .int .i64 0, .int .i64 0])
  have HB0 := kept hb0
  have HR0 := kept (hr.below hb0)
  have HN := kept hn
  have HSZ : Hid ((zeroes w).heap.size = w.heap.size + 1) := kept (by simp [zeroes])
  have N0 : ∀ W r A c, RX W r A n c xs (0, 0) → Calls Try.prog 32 #[.pointer (some ⟨r, 0, none⟩), .int .i64 1] W fun e w' => e = .returned (.int .u64 (1 : Int)) ∧ Hid (RX w' r A n c xs s1 ∧ Only W w' r) := fun W r A c q => by
    have := numX1 r A n c xs (0, 0) W q
    rw [hK] at this
    exact this
  have N1 := fun W r A c (q : RX W r A n c xs s1) => textX64 r A n c xs s1 W q
  simp only [hT] at N1
  have N0 := kept N0
  have N1 := kept N1
  have HLK : Hid (key.length ≤ 64) := kept (by have := rtextX_len (xs := xs) (most := 64) (s := s1); rw [hT] at this; exact this)
  clear hb0 hr hn hK hT
  have HRR := fun W r g A c a' b' d' e' f' h' hX hB hne hap => kept (readRest_any r g A n c xs s2 s3 s4 s5 s6 s7 v1 v2 v3 v4 t a' b' d' e' f' h' W hX hB hne hap h1 h2 h3 h4 h5)
  have HRT := fun W L hr => kept (right_kv L ⟨key, t, wrap64 (v1 : Int), wrap64 (v2 : Int), wrap64 (v3 : Int), wrap64 (v4 : Int)⟩ W b hb hr)
  have HEN := fun W r A c h => kept (endX r A n c xs s7 er he W h)
  clear hb he h1 h2 h3 h4 h5
  go_enter Try.func19, Try.ntmps19
  go_wp2_with fail
  with_reducible refine (newReader_any A n c xs _ HR0.out HN.out).mono ?_
  rintro e w1 ⟨r, A', c', rfl, hrdr, hc, hrr, hb⟩
  have HX1 : Hid (RX w1 r A' n c' xs (0, 0)) := kept ⟨hrdr, Nat.zero_le _, hc, HN.out⟩
  have HZ1 := kept (HZ0.out.below hb HZ0.out.lt)
  have HB1 := kept (bel_to hb HB0.out)
  have HQR := kept (show w.heap.size < r by rw [HSZ.out] at hrr; omega)
  clear hrdr hc hrr hb HZ0 HB0 HR0
  go_wp2_with fail
  with_reducible refine (N0.out _ _ _ _ HX1.out).mono ?_
  rintro e w2 ⟨rfl, hq⟩
  have HX2 := kept hq.out.1
  have HZ2 := kept (HZ1.out.far_blk_ hq.out.2 (by have := HQR.out; omega))
  have HB2 := kept (Only.below HB1.out hq.out.2 HB1.out.size (Nat.le_of_lt HQR.out))
  clear hq HX1 HZ1 HB1
  go_wp2_with fail
  with_reducible refine (N1.out _ _ _ _ HX2.out).mono ?_
  rintro e w3 ⟨A1, n1, c1, rfl, hrd, hq⟩
  have HX3 := kept hq.out.1
  have HZ3 := kept (HZ2.out.far_blk_ hq.out.2 (by have := HQR.out; omega))
  have HB3 := kept (Only.below HB2.out hq.out.2 HB2.out.size (Nat.le_of_lt HQR.out))
  have HR3 := kept hrd.out.1
  have HA3 := kept (hrd.out.2.1 r HX2.out.lt)
  have HL3 := kept hrd.out.2.2
  have HAq := kept (hrd.out.2.1 w.heap.size (Nat.lt_trans HQR.out HX2.out.lt))
  clear hq hrd HX2 HZ2 HB2
  obtain ⟨g, hg⟩ : ∃ g, w3.heap.size = g := ⟨_, rfl⟩
  have hbn := (Below.refl w3.heap.size w3).alloc (Nat.le_refl _) (.cells #[.slice A1 n1 c1, .slice none 0 0, .int .i64 0, .int .i64 0, .int .i64 0, .int .i64 0] 24)
  have HG4 : Hid (Blk (w3.alloc (.cells #[.slice A1 n1 c1, .slice none 0 0, .int .i64 0, .int .i64 0, .int .i64 0, .int .i64 0] 24)) g 24 [.slice A1 n1 c1, .slice none 0 0, .int .i64 0, .int .i64 0, .int .i64 0, .int .i64 0]) := kept (by rw [← hg]; exact Blk.new w3 24 _)
  have HX4 := kept (HX3.out.below hbn)
  have HZ4 := kept (HZ3.out.below hbn HZ3.out.lt)
  have HB4 := kept (bel_to hbn HB3.out)
  have HR4 := kept (HR3.out.below hbn)
  have HG3 := kept (show r < g by rw [← hg]; exact HX3.out.lt)
  have HA4 := kept (show apartA A1 n1 g from HR3.out.fresh (Nat.le_of_eq hg))
  have HA5 := kept (show apartA A' n g from HX3.out.apart (Nat.le_of_eq hg))
  have HGG := kept hg
  have HQ3 := kept (show w.heap.size < w3.heap.size from Nat.lt_trans HQR.out HX3.out.lt)
  clear hbn HX3 HZ3 HB3 HR3 hg
  go_wp2_with fail
  rw [HGG.out]
  with_reducible refine (HRR _ r g A' c' _ _ _ _ _ _ HX4.out HG4.out (Nat.ne_of_lt HG3.out) HA5.out).out.mono ?_
  rintro e w5 ⟨A2, n2, c2, rfl, HG5, HR5, HX5, HT5⟩
  have HZ5 := kept (HT5.out.blk HZ4.out (by have := HQR.out; have := HG3.out; rintro (h | h) <;> omega))
  have HK5 := kept (HT5.out.rd_apart HR4.out HA3.out HA4.out)
  have HB5 := kept (HT5.out.only_new HB4.out HB4.out.size (by have := HQR.out; have := HG3.out; rintro i (h | h) <;> omega))
  have HL : Hid (n1 ≤ c1 ∧ n2 ≤ c2 ∧ n1 ≤ 140737488351232 ∧ n2 ≤ 140737488351232) := kept ⟨HL3.out.1, HR5.out.2.2.1, by have := HL3.out.2; omega, by have := HR5.out.2.2.2; omega⟩
  have HV5 : Hid (RdV w5 ⟨A1, n1, c1, A2, n2, c2⟩ ⟨key, t, wrap64 (v1 : Int), wrap64 (v2 : Int), wrap64 (v3 : Int), wrap64 (v4 : Int)⟩) := kept ⟨HK5.out, HR5.out.1, HL.out.1, HL.out.2.1, HL.out.2.2.1, HL.out.2.2.2⟩
  have HA6 : Hid (apartA A1 n1 w.heap.size ∧ apartA A2 n2 w.heap.size) := kept ⟨HAq.out, HR5.out.2.1 _ (by rw [World.size_alloc]; have := HQ3.out; omega)⟩
  have k0 : w5.cell? ⟨g, 0, none⟩ = some (.slice A1 n1 c1) := HG5.out.cell 0
  have k1 : w5.cell? ⟨g, 1, none⟩ = some (.slice A2 n2 c2) := HG5.out.cell 1
  have k2 : w5.cell? ⟨g, 2, none⟩ = some (.int .i64 (wrap64 (v1 : Int))) := HG5.out.cell 2
  have k3 : w5.cell? ⟨g, 3, none⟩ = some (.int .i64 (wrap64 (v2 : Int))) := HG5.out.cell 3
  have k4 : w5.cell? ⟨g, 4, none⟩ = some (.int .i64 (wrap64 (v3 : Int))) := HG5.out.cell 4
  have k5 : w5.cell? ⟨g, 5, none⟩ = some (.int .i64 (wrap64 (v4 : Int))) := HG5.out.cell 5
  clear HX4 HG4 HZ4 HB4 HR4 HK5 HR5 HT5
  go_wp2_with fail
  with_reducible refine (HRT _ ⟨A1, n1, c1, A2, n2, c2⟩ HV5.out).out.mono ?_
  clear k0 k1 k2 k3 k4 k5
  rintro e w6 ⟨rfl, hb⟩
  have HG6 := kept (HG5.out.below hb HG5.out.lt)
  have HZ6 := kept (HZ5.out.below hb HZ5.out.lt)
  have HB6 := kept (bel_to hb HB5.out)
  have HX6 := kept (HX5.out.below hb)
  have HV6 := kept (HV5.out.below hb)
  clear hb HG5 HZ5 HB5 HX5 HV5
  go_wp2_with fail
  with_reducible refine (HEN _ _ _ _ HX6.out).out.mono ?_
  rintro e w7 ⟨rfl, q, hq⟩
  obtain ⟨W7, hW⟩ : ∃ W7, W7 = w7 := ⟨_, rfl⟩
  rw [← hW]
  rw [← hW] at hq
  have HG : Hid (Blk W7 g 24 [.slice A1 n1 c1, .slice A2 n2 c2, .int .i64 (wrap64 (v1 : Int)), .int .i64 (wrap64 (v2 : Int)), .int .i64 (wrap64 (v3 : Int)), .int .i64 (wrap64 (v4 : Int))]) := kept (by rw [hq]; exact HG6.out)
  have HZ : Hid (Blk W7 w.heap.size 24 [.slice none 0 0, .slice none 0 0, .int .i64 0, .int .i64 0, .int .i64 0, .int .i64 0]) := kept (by rw [hq]; exact HZ6.out)
  have HB : Hid (Below w.heap.size w W7) := kept (by rw [hq]; exact below_drewN HB6.out q)
  have HR : Hid (Rd W7 A1 n1 key ∧ Rd W7 A2 n2 t ∧ apartA A1 n1 w.heap.size ∧ apartA A2 n2 w.heap.size) := kept (by rw [hq]; exact ⟨HV6.out.key, HV6.out.val, HA6.out.1, HA6.out.2⟩)
  clear hq hW HG6 HZ6 HB6 HX6 HV6 HA6
  have z0 : W7.cell? ⟨w.heap.size, 0, none⟩ = some (.slice none 0 0) := HZ.out.cell 0
  have z1 : W7.cell? ⟨w.heap.size, 1, none⟩ = some (.slice none 0 0) := HZ.out.cell 1
  have z2 : W7.cell? ⟨w.heap.size, 2, none⟩ = some (.int .i64 0) := HZ.out.cell 2
  have z3 : W7.cell? ⟨w.heap.size, 3, none⟩ = some (.int .i64 0) := HZ.out.cell 3
  have z4 : W7.cell? ⟨w.heap.size, 4, none⟩ = some (.int .i64 0) := HZ.out.cell 4
  have z5 : W7.cell? ⟨w.heap.size, 5, none⟩ = some (.int .i64 0) := HZ.out.cell 5
  have f0 := HZ.out.frozen 0
  have f1 := HZ.out.frozen 1
  have f2 := HZ.out.frozen 2
  have f3 := HZ.out.frozen 3
  have f4 := HZ.out.frozen 4
  have f5 := HZ.out.frozen 5
  have HQ := kept (And.intro (set6_blk HZ.out (.slice none 0 0) (.slice none 0 0) (.int .i64 0) (.int .i64 0) (.int .i64 0) (.int .i64 0)) (set6_below (q := w.heap.size) HB.out (Nat.le_refl _) (.slice none 0 0) (.slice none 0 0) (.int .i64 0) (.int .i64 0) (.int .i64 0) (.int .i64 0)))
  go_wp2
  obtain ⟨hq, hB⟩ := HQ.out
  unfold set6 at hq hB
  generalize ((((((W7.setCell ⟨w.heap.size, 0, none⟩ (.slice none 0 0)).setCell ⟨w.heap.size, 1, none⟩ (.slice none 0 0)).setCell ⟨w.heap.size, 2, none⟩ (.int .i64 0)).setCell ⟨w.heap.size, 3, none⟩ (.int .i64 0)).setCell ⟨w.heap.size, 4, none⟩ (.int .i64 0)).setCell ⟨w.heap.size, 5, none⟩ (.int .i64 0)) = Y at hq hB ⊢
  have y0 : Y.cell? ⟨w.heap.size, 0, none⟩ = some (.slice none 0 0) := hq.cell 0
  have y1 : Y.cell? ⟨w.heap.size, 1, none⟩ = some (.slice none 0 0) := hq.cell 1
  have y2 : Y.cell? ⟨w.heap.size, 2, none⟩ = some (.int .i64 0) := hq.cell 2
  have y3 : Y.cell? ⟨w.heap.size, 3, none⟩ = some (.int .i64 0) := hq.cell 3
  have y4 : Y.cell? ⟨w.heap.size, 4, none⟩ = some (.int .i64 0) := hq.cell 4
  have y5 : Y.cell? ⟨w.heap.size, 5, none⟩ = some (.int .i64 0) := hq.cell 5
  refine bodyPost_ret (v := .tuple #[.agg #[.slice none 0 0, .slice none 0 0, .int .i64 0, .int .i64 0, .int .i64 0, .int .i64 0], .bool false, .int .i64 4]) ?_ rfl ?_
  · simp [results, Try.results19, go_sem, y0, y1, y2, y3, y4, y5]
  · exact ⟨⟨none, 0, 0, none, 0, 0⟩, rfl, ⟨Rd.nil_ _ _, Rd.nil_ _ _, Nat.le_refl _, Nat.le_refl _, Nat.zero_le _, Nat.zero_le _⟩, hB⟩
set_option maxRecDepth 100000 in
set_option maxHeartbeats 2000000 in
theorem decode_kv_bad (A : Option Addr) (n c : Nat) (xs : List UInt8) (w : World) (hr : Rd w A n xs) (hn : n ≤ 140737488355328) (s1 s2 : Nat × Int) (key : List UInt8)
    (hK : rnumX xs 1 (0, 0) = (1, s1)) (hT : rtextX xs 64 s1 = (key, s2))
    (s3 s4 s5 s6 s7 : Nat × Int) (v1 v2 v3 v4 : Nat) (t : List UInt8) (h1 : rnumX xs 8 s2 = (v1, s3)) (h2 : rnumX xs 8 s3 = (v2, s4)) (h3 : rnumX xs 8 s4 = (v3, s5)) (h4 : rnumX xs 8 s5 = (v4, s6)) (h5 : rtextX xs 1024 s6 = (t, s7)) (b : Bool) (hb : rightV ⟨key, t, wrap64 (v1 : Int), wrap64 (v2 : Int), wrap64 (v3 : Int), wrap64 (v4 : Int)⟩ = b) (er : Int) (he : endE n s7.1 s7.2 = er) (hbt : b = false) (het : er = 0) :
    Calls Try.prog 19 #[.slice A n c] w fun e w' => ∃ L, e = .returned (.tuple #[vkv L zeroKv, .bool false, .int .i64 4]) ∧ RdV w' L zeroKv ∧ Below w.heap.size w w' := by
  have hb0 := (Below.refl w.heap.size w).alloc (Nat.le_refl _) (.cells #[.slice none 0 0, .slice none 0 0, .int .i64 0, .int .i64 0, .int .i64 0, .int .i64 0] 24)
  have HZ0 := kept (Blk.new w 24 #[.slice none 0 0, .slice none 0 0, .int .i64 0, .int .i64 0, .int .i64 0, .int .i64 0])
  have HB0 := kept hb0
  have HR0 := kept (hr.below hb0)
  have HN := kept hn
  have HSZ : Hid ((zeroes w).heap.size = w.heap.size + 1) := kept (by simp [zeroes])
  have N0 : ∀ W r A c, RX W r A n c xs (0, 0) → Calls Try.prog 32 #[.pointer (some ⟨r, 0, none⟩), .int .i64 1] W fun e w' => e = .returned (.int .u64 (1 : Int)) ∧ Hid (RX w' r A n c xs s1 ∧ Only W w' r) := fun W r A c q => by
    have := numX1 r A n c xs (0, 0) W q
    rw [hK] at this
    exact this
  have N1 := fun W r A c (q : RX W r A n c xs s1) => textX64 r A n c xs s1 W q
  simp only [hT] at N1
  have N0 := kept N0
  have N1 := kept N1
  have HLK : Hid (key.length ≤ 64) := kept (by have := rtextX_len (xs := xs) (most := 64) (s := s1); rw [hT] at this; exact this)
  clear hb0 hr hn hK hT
  have HRR := fun W r g A c a' b' d' e' f' h' hX hB hne hap => kept (readRest_any r g A n c xs s2 s3 s4 s5 s6 s7 v1 v2 v3 v4 t a' b' d' e' f' h' W hX hB hne hap h1 h2 h3 h4 h5)
  have HRT := fun W L hr => kept (right_kv L ⟨key, t, wrap64 (v1 : Int), wrap64 (v2 : Int), wrap64 (v3 : Int), wrap64 (v4 : Int)⟩ W b hb hr)
  have HEN := fun W r A c h => kept (endX r A n c xs s7 er he W h)
  clear hb he h1 h2 h3 h4 h5
  subst hbt het
  go_enter Try.func19, Try.ntmps19
  go_wp2_with fail
  with_reducible refine (newReader_any A n c xs _ HR0.out HN.out).mono ?_
  rintro e w1 ⟨r, A', c', rfl, hrdr, hc, hrr, hb⟩
  have HX1 : Hid (RX w1 r A' n c' xs (0, 0)) := kept ⟨hrdr, Nat.zero_le _, hc, HN.out⟩
  have HZ1 := kept (HZ0.out.below hb HZ0.out.lt)
  have HB1 := kept (bel_to hb HB0.out)
  have HQR := kept (show w.heap.size < r by rw [HSZ.out] at hrr; omega)
  clear hrdr hc hrr hb HZ0 HB0 HR0
  go_wp2_with fail
  with_reducible refine (N0.out _ _ _ _ HX1.out).mono ?_
  rintro e w2 ⟨rfl, hq⟩
  have HX2 := kept hq.out.1
  have HZ2 := kept (HZ1.out.far_blk_ hq.out.2 (by have := HQR.out; omega))
  have HB2 := kept (Only.below HB1.out hq.out.2 HB1.out.size (Nat.le_of_lt HQR.out))
  clear hq HX1 HZ1 HB1
  go_wp2_with fail
  with_reducible refine (N1.out _ _ _ _ HX2.out).mono ?_
  rintro e w3 ⟨A1, n1, c1, rfl, hrd, hq⟩
  have HX3 := kept hq.out.1
  have HZ3 := kept (HZ2.out.far_blk_ hq.out.2 (by have := HQR.out; omega))
  have HB3 := kept (Only.below HB2.out hq.out.2 HB2.out.size (Nat.le_of_lt HQR.out))
  have HR3 := kept hrd.out.1
  have HA3 := kept (hrd.out.2.1 r HX2.out.lt)
  have HL3 := kept hrd.out.2.2
  have HAq := kept (hrd.out.2.1 w.heap.size (Nat.lt_trans HQR.out HX2.out.lt))
  clear hq hrd HX2 HZ2 HB2
  obtain ⟨g, hg⟩ : ∃ g, w3.heap.size = g := ⟨_, rfl⟩
  have hbn := (Below.refl w3.heap.size w3).alloc (Nat.le_refl _) (.cells #[.slice A1 n1 c1, .slice none 0 0, .int .i64 0, .int .i64 0, .int .i64 0, .int .i64 0] 24)
  have HG4 : Hid (Blk (w3.alloc (.cells #[.slice A1 n1 c1, .slice none 0 0, .int .i64 0, .int .i64 0, .int .i64 0, .int .i64 0] 24)) g 24 [.slice A1 n1 c1, .slice none 0 0, .int .i64 0, .int .i64 0, .int .i64 0, .int .i64 0]) := kept (by rw [← hg]; exact Blk.new w3 24 _)
  have HX4 := kept (HX3.out.below hbn)
  have HZ4 := kept (HZ3.out.below hbn HZ3.out.lt)
  have HB4 := kept (bel_to hbn HB3.out)
  have HR4 := kept (HR3.out.below hbn)
  have HG3 := kept (show r < g by rw [← hg]; exact HX3.out.lt)
  have HA4 := kept (show apartA A1 n1 g from HR3.out.fresh (Nat.le_of_eq hg))
  have HA5 := kept (show apartA A' n g from HX3.out.apart (Nat.le_of_eq hg))
  have HGG := kept hg
  have HQ3 := kept (show w.heap.size < w3.heap.size from Nat.lt_trans HQR.out HX3.out.lt)
  clear hbn HX3 HZ3 HB3 HR3 hg
  go_wp2_with fail
  rw [HGG.out]
  with_reducible refine (HRR _ r g A' c' _ _ _ _ _ _ HX4.out HG4.out (Nat.ne_of_lt HG3.out) HA5.out).out.mono ?_
  rintro e w5 ⟨A2, n2, c2, rfl, HG5, HR5, HX5, HT5⟩
  have HZ5 := kept (HT5.out.blk HZ4.out (by have := HQR.out; have := HG3.out; rintro (h | h) <;> omega))
  have HK5 := kept (HT5.out.rd_apart HR4.out HA3.out HA4.out)
  have HB5 := kept (HT5.out.only_new HB4.out HB4.out.size (by have := HQR.out; have := HG3.out; rintro i (h | h) <;> omega))
  have HL : Hid (n1 ≤ c1 ∧ n2 ≤ c2 ∧ n1 ≤ 140737488351232 ∧ n2 ≤ 140737488351232) := kept ⟨HL3.out.1, HR5.out.2.2.1, by have := HL3.out.2; omega, by have := HR5.out.2.2.2; omega⟩
  have HV5 : Hid (RdV w5 ⟨A1, n1, c1, A2, n2, c2⟩ ⟨key, t, wrap64 (v1 : Int), wrap64 (v2 : Int), wrap64 (v3 : Int), wrap64 (v4 : Int)⟩) := kept ⟨HK5.out, HR5.out.1, HL.out.1, HL.out.2.1, HL.out.2.2.1, HL.out.2.2.2⟩
  have HA6 : Hid (apartA A1 n1 w.heap.size ∧ apartA A2 n2 w.heap.size) := kept ⟨HAq.out, HR5.out.2.1 _ (by rw [World.size_alloc]; have := HQ3.out; omega)⟩
  have k0 : w5.cell? ⟨g, 0, none⟩ = some (.slice A1 n1 c1) := HG5.out.cell 0
  have k1 : w5.cell? ⟨g, 1, none⟩ = some (.slice A2 n2 c2) := HG5.out.cell 1
  have k2 : w5.cell? ⟨g, 2, none⟩ = some (.int .i64 (wrap64 (v1 : Int))) := HG5.out.cell 2
  have k3 : w5.cell? ⟨g, 3, none⟩ = some (.int .i64 (wrap64 (v2 : Int))) := HG5.out.cell 3
  have k4 : w5.cell? ⟨g, 4, none⟩ = some (.int .i64 (wrap64 (v3 : Int))) := HG5.out.cell 4
  have k5 : w5.cell? ⟨g, 5, none⟩ = some (.int .i64 (wrap64 (v4 : Int))) := HG5.out.cell 5
  clear HX4 HG4 HZ4 HB4 HR4 HK5 HR5 HT5
  go_wp2_with fail
  with_reducible refine (HRT _ ⟨A1, n1, c1, A2, n2, c2⟩ HV5.out).out.mono ?_
  clear k0 k1 k2 k3 k4 k5
  rintro e w6 ⟨rfl, hb⟩
  have HG6 := kept (HG5.out.below hb HG5.out.lt)
  have HZ6 := kept (HZ5.out.below hb HZ5.out.lt)
  have HB6 := kept (bel_to hb HB5.out)
  have HX6 := kept (HX5.out.below hb)
  have HV6 := kept (HV5.out.below hb)
  clear hb HG5 HZ5 HB5 HX5 HV5
  go_wp2_with fail
  with_reducible refine (HEN _ _ _ _ HX6.out).out.mono ?_
  rintro e w7 ⟨rfl, q, hq⟩
  obtain ⟨W7, hW⟩ : ∃ W7, W7 = w7 := ⟨_, rfl⟩
  rw [← hW]
  rw [← hW] at hq
  have HG : Hid (Blk W7 g 24 [.slice A1 n1 c1, .slice A2 n2 c2, .int .i64 (wrap64 (v1 : Int)), .int .i64 (wrap64 (v2 : Int)), .int .i64 (wrap64 (v3 : Int)), .int .i64 (wrap64 (v4 : Int))]) := kept (by rw [hq]; exact HG6.out)
  have HZ : Hid (Blk W7 w.heap.size 24 [.slice none 0 0, .slice none 0 0, .int .i64 0, .int .i64 0, .int .i64 0, .int .i64 0]) := kept (by rw [hq]; exact HZ6.out)
  have HB : Hid (Below w.heap.size w W7) := kept (by rw [hq]; exact below_drewN HB6.out q)
  have HR : Hid (Rd W7 A1 n1 key ∧ Rd W7 A2 n2 t ∧ apartA A1 n1 w.heap.size ∧ apartA A2 n2 w.heap.size) := kept (by rw [hq]; exact ⟨HV6.out.key, HV6.out.val, HA6.out.1, HA6.out.2⟩)
  clear hq hW HG6 HZ6 HB6 HX6 HV6 HA6
  have z0 : W7.cell? ⟨w.heap.size, 0, none⟩ = some (.slice none 0 0) := HZ.out.cell 0
  have z1 : W7.cell? ⟨w.heap.size, 1, none⟩ = some (.slice none 0 0) := HZ.out.cell 1
  have z2 : W7.cell? ⟨w.heap.size, 2, none⟩ = some (.int .i64 0) := HZ.out.cell 2
  have z3 : W7.cell? ⟨w.heap.size, 3, none⟩ = some (.int .i64 0) := HZ.out.cell 3
  have z4 : W7.cell? ⟨w.heap.size, 4, none⟩ = some (.int .i64 0) := HZ.out.cell 4
  have z5 : W7.cell? ⟨w.heap.size, 5, none⟩ = some (.int .i64 0) := HZ.out.cell 5
  have f0 := HZ.out.frozen 0
  have f1 := HZ.out.frozen 1
  have f2 := HZ.out.frozen 2
  have f3 := HZ.out.frozen 3
  have f4 := HZ.out.frozen 4
  have f5 := HZ.out.frozen 5
  have HQ := kept (And.intro (set6_blk HZ.out (.slice none 0 0) (.slice none 0 0) (.int .i64 0) (.int .i64 0) (.int .i64 0) (.int .i64 0)) (set6_below (q := w.heap.size) HB.out (Nat.le_refl _) (.slice none 0 0) (.slice none 0 0) (.int .i64 0) (.int .i64 0) (.int .i64 0) (.int .i64 0)))
  go_wp2
  obtain ⟨hq, hB⟩ := HQ.out
  unfold set6 at hq hB
  generalize ((((((W7.setCell ⟨w.heap.size, 0, none⟩ (.slice none 0 0)).setCell ⟨w.heap.size, 1, none⟩ (.slice none 0 0)).setCell ⟨w.heap.size, 2, none⟩ (.int .i64 0)).setCell ⟨w.heap.size, 3, none⟩ (.int .i64 0)).setCell ⟨w.heap.size, 4, none⟩ (.int .i64 0)).setCell ⟨w.heap.size, 5, none⟩ (.int .i64 0)) = Y at hq hB ⊢
  have y0 : Y.cell? ⟨w.heap.size, 0, none⟩ = some (.slice none 0 0) := hq.cell 0
  have y1 : Y.cell? ⟨w.heap.size, 1, none⟩ = some (.slice none 0 0) := hq.cell 1
  have y2 : Y.cell? ⟨w.heap.size, 2, none⟩ = some (.int .i64 0) := hq.cell 2
  have y3 : Y.cell? ⟨w.heap.size, 3, none⟩ = some (.int .i64 0) := hq.cell 3
  have y4 : Y.cell? ⟨w.heap.size, 4, none⟩ = some (.int .i64 0) := hq.cell 4
  have y5 : Y.cell? ⟨w.heap.size, 5, none⟩ = some (.int .i64 0) := hq.cell 5
  refine bodyPost_ret (v := .tuple #[.agg #[.slice none 0 0, .slice none 0 0, .int .i64 0, .int .i64 0, .int .i64 0, .int .i64 0], .bool false, .int .i64 4]) ?_ rfl ?_
  · simp [results, Try.results19, go_sem, y0, y1, y2, y3, y4, y5]
  · exact ⟨⟨none, 0, 0, none, 0, 0⟩, rfl, ⟨Rd.nil_ _ _, Rd.nil_ _ _, Nat.le_refl _, Nat.le_refl _, Nat.zero_le _, Nat.zero_le _⟩, hB⟩
set_option maxRecDepth 100000 in
set_option maxHeartbeats 2000000 in
theorem decode_tomb (A : Option Addr) (n c : Nat) (xs : List UInt8) (w : World) (hr : Rd w A n xs) (hn : n ≤ 140737488355328) (s1 s2 : Nat × Int) (key : List UInt8)
    (hK : rnumX xs 1 (0, 0) = (2, s1)) (hT : rtextX xs 64 s1 = (key, s2)) (b : Bool) (hb : keyB key.length = b) (er : Int) (he : endE n s2.1 s2.2 = er) (hbt : b = true) (het : er = 0) :
    Calls Try.prog 19 #[.slice A n c] w fun e w' => ∃ L, e = .returned (.tuple #[vkv L ⟨key, [], 0, 0, 0, 0⟩, .bool true, .int .i64 0]) ∧ RdV w' L ⟨key, [], 0, 0, 0, 0⟩ ∧ Below w.heap.size w w' := by
  have hb0 := (Below.refl w.heap.size w).alloc (Nat.le_refl _) (.cells #[.slice none 0 0, .slice none 0 0, .int .i64 0, .int .i64 0, .int .i64 0, .int .i64 0] 24)
  have HZ0 := kept (Blk.new w 24 #[.slice none 0 0, .slice none 0 0, .int .i64 0, .int .i64 0, .int .i64 0, .int .i64 0])
  have HB0 := kept hb0
  have HR0 := kept (hr.below hb0)
  have HN := kept hn
  have HSZ : Hid ((zeroes w).heap.size = w.heap.size + 1) := kept (by simp [zeroes])
  have N0 : ∀ W r A c, RX W r A n c xs (0, 0) → Calls Try.prog 32 #[.pointer (some ⟨r, 0, none⟩), .int .i64 1] W fun e w' => e = .returned (.int .u64 (2 : Int)) ∧ Hid (RX w' r A n c xs s1 ∧ Only W w' r) := fun W r A c q => by
    have := numX1 r A n c xs (0, 0) W q
    rw [hK] at this
    exact this
  have N1 := fun W r A c (q : RX W r A n c xs s1) => textX64 r A n c xs s1 W q
  simp only [hT] at N1
  have N0 := kept N0
  have N1 := kept N1
  have HLK : Hid (key.length ≤ 64) := kept (by have := rtextX_len (xs := xs) (most := 64) (s := s1); rw [hT] at this; exact this)
  clear hb0 hr hn hK hT
  have HEN := fun W r A c h => kept (endX r A n c xs s2 er he W h)
  clear he
  subst hbt het
  go_enter Try.func19, Try.ntmps19
  go_wp2_with fail
  with_reducible refine (newReader_any A n c xs _ HR0.out HN.out).mono ?_
  rintro e w1 ⟨r, A', c', rfl, hrdr, hc, hrr, hb⟩
  have HX1 : Hid (RX w1 r A' n c' xs (0, 0)) := kept ⟨hrdr, Nat.zero_le _, hc, HN.out⟩
  have HZ1 := kept (HZ0.out.below hb HZ0.out.lt)
  have HB1 := kept (bel_to hb HB0.out)
  have HQR := kept (show w.heap.size < r by rw [HSZ.out] at hrr; omega)
  clear hrdr hc hrr hb HZ0 HB0 HR0
  go_wp2_with fail
  with_reducible refine (N0.out _ _ _ _ HX1.out).mono ?_
  rintro e w2 ⟨rfl, hq⟩
  have HX2 := kept hq.out.1
  have HZ2 := kept (HZ1.out.far_blk_ hq.out.2 (by have := HQR.out; omega))
  have HB2 := kept (Only.below HB1.out hq.out.2 HB1.out.size (Nat.le_of_lt HQR.out))
  clear hq HX1 HZ1 HB1
  go_wp2_with fail
  with_reducible refine (N1.out _ _ _ _ HX2.out).mono ?_
  rintro e w3 ⟨A1, n1, c1, rfl, hrd, hq⟩
  have HX3 := kept hq.out.1
  have HZ3 := kept (HZ2.out.far_blk_ hq.out.2 (by have := HQR.out; omega))
  have HB3 := kept (Only.below HB2.out hq.out.2 HB2.out.size (Nat.le_of_lt HQR.out))
  have HR3 := kept hrd.out.1
  have HA3 := kept (hrd.out.2.1 r HX2.out.lt)
  have HL3 := kept hrd.out.2.2
  have HAq := kept (hrd.out.2.1 w.heap.size (Nat.lt_trans HQR.out HX2.out.lt))
  clear hq hrd HX2 HZ2 HB2
  obtain ⟨g, hg⟩ : ∃ g, w3.heap.size = g := ⟨_, rfl⟩
  have hbn := (Below.refl w3.heap.size w3).alloc (Nat.le_refl _) (.cells #[.slice A1 n1 c1, .slice none 0 0, .int .i64 0, .int .i64 0, .int .i64 0, .int .i64 0] 24)
  have HG4 : Hid (Blk (w3.alloc (.cells #[.slice A1 n1 c1, .slice none 0 0, .int .i64 0, .int .i64 0, .int .i64 0, .int .i64 0] 24)) g 24 [.slice A1 n1 c1, .slice none 0 0, .int .i64 0, .int .i64 0, .int .i64 0, .int .i64 0]) := kept (by rw [← hg]; exact Blk.new w3 24 _)
  have HX4 := kept (HX3.out.below hbn)
  have HZ4 := kept (HZ3.out.below hbn HZ3.out.lt)
  have HB4 := kept (bel_to hbn HB3.out)
  have HR4 := kept (HR3.out.below hbn)
  have HG3 := kept (show r < g by rw [← hg]; exact HX3.out.lt)
  have HA4 := kept (show apartA A1 n1 g from HR3.out.fresh (Nat.le_of_eq hg))
  have HA5 := kept (show apartA A' n g from HX3.out.apart (Nat.le_of_eq hg))
  have HGG := kept hg
  have HQ3 := kept (show w.heap.size < w3.heap.size from Nat.lt_trans HQR.out HX3.out.lt)
  clear hbn HX3 HZ3 HB3 HR3 hg
  obtain ⟨w4, hw4⟩ : ∃ w4, w4 = (w3.alloc (.cells #[.slice A1 n1 c1, .slice none 0 0, .int .i64 0, .int .i64 0, .int .i64 0, .int .i64 0] 24)) := ⟨_, rfl⟩
  have HW4 := kept hw4
  rw [← hw4] at HG4 HX4 HZ4 HB4 HR4
  have hkb := hb
  rw [HR4.out.1] at hkb
  have HK4 := kept (rightKey_any A1 n1 c1 _ hkb w4)
  clear hkb
  have k0 : (w3.alloc (.cells #[.slice A1 n1 c1, .slice none 0 0, .int .i64 0, .int .i64 0, .int .i64 0, .int .i64 0] 24)).cell? ⟨g, 0, none⟩ = some (.slice A1 n1 c1) := by rw [← hw4]; exact HG4.out.cell 0
  rw [HGG.out.symm] at k0
  clear hw4
  go_wp2_with fail
  rw [← HW4.out, HGG.out]
  with_reducible refine HK4.out.mono ?_
  rintro e w5 ⟨rfl, rfl⟩
  clear k0
  go_wp2_with fail
  with_reducible refine (HEN _ _ _ _ HX4.out).out.mono ?_
  rintro e w7 ⟨rfl, q, hq⟩
  obtain ⟨W7, hW⟩ : ∃ W7, W7 = w7 := ⟨_, rfl⟩
  rw [← hW]
  rw [← hW] at hq
  have HG : Hid (Blk W7 g 24 [.slice A1 n1 c1, .slice none 0 0, .int .i64 0, .int .i64 0, .int .i64 0, .int .i64 0]) := kept (by rw [hq]; exact HG4.out)
  have HZ : Hid (Blk W7 w.heap.size 24 [.slice none 0 0, .slice none 0 0, .int .i64 0, .int .i64 0, .int .i64 0, .int .i64 0]) := kept (by rw [hq]; exact HZ4.out)
  have HB : Hid (Below w.heap.size w W7) := kept (by rw [hq]; exact below_drewN HB4.out q)
  have HR : Hid (Rd W7 A1 n1 key ∧ Rd W7 none 0 [] ∧ apartA A1 n1 w.heap.size ∧ apartA none 0 w.heap.size) := kept (by rw [hq]; exact ⟨HR4.out, Rd.nil_ _ _, HAq.out, fun a e => by cases e⟩)
  have HL : Hid (n1 ≤ c1 ∧ 0 ≤ 0 ∧ n1 ≤ 140737488351232 ∧ 0 ≤ 140737488351232) := kept ⟨HL3.out.1, Nat.le_refl _, by have := HL3.out.2; omega, Nat.zero_le _⟩
  clear hq hW HG4 HZ4 HB4 HX4 HR4
  have HGE := kept HGG.out
  have z0 : W7.cell? ⟨w.heap.size, 0, none⟩ = some (.slice none 0 0) := HZ.out.cell 0
  have z1 : W7.cell? ⟨w.heap.size, 1, none⟩ = some (.slice none 0 0) := HZ.out.cell 1
  have z2 : W7.cell? ⟨w.heap.size, 2, none⟩ = some (.int .i64 0) := HZ.out.cell 2
  have z3 : W7.cell? ⟨w.heap.size, 3, none⟩ = some (.int .i64 0) := HZ.out.cell 3
  have z4 : W7.cell? ⟨w.heap.size, 4, none⟩ = some (.int .i64 0) := HZ.out.cell 4
  have z5 : W7.cell? ⟨w.heap.size, 5, none⟩ = some (.int .i64 0) := HZ.out.cell 5
  have f0 := HZ.out.frozen 0
  have f1 := HZ.out.frozen 1
  have f2 := HZ.out.frozen 2
  have f3 := HZ.out.frozen 3
  have f4 := HZ.out.frozen 4
  have f5 := HZ.out.frozen 5
  have k0 : W7.cell? ⟨g, 0, none⟩ = some (.slice A1 n1 c1) := HG.out.cell 0
  have k1 : W7.cell? ⟨g, 1, none⟩ = some (.slice none 0 0) := HG.out.cell 1
  have k2 : W7.cell? ⟨g, 2, none⟩ = some (.int .i64 0) := HG.out.cell 2
  have k3 : W7.cell? ⟨g, 3, none⟩ = some (.int .i64 0) := HG.out.cell 3
  have k4 : W7.cell? ⟨g, 4, none⟩ = some (.int .i64 0) := HG.out.cell 4
  have k5 : W7.cell? ⟨g, 5, none⟩ = some (.int .i64 0) := HG.out.cell 5
  have HQ := kept (And.intro (set6_blk HZ.out (.slice A1 n1 c1) (.slice none 0 0) (.int .i64 0) (.int .i64 0) (.int .i64 0) (.int .i64 0)) (set6_below (q := w.heap.size) HB.out (Nat.le_refl _) (.slice A1 n1 c1) (.slice none 0 0) (.int .i64 0) (.int .i64 0) (.int .i64 0) (.int .i64 0)))
  have HRV : Hid (RdV (set6 W7 w.heap.size (.slice A1 n1 c1) (.slice none 0 0) (.int .i64 0) (.int .i64 0) (.int .i64 0) (.int .i64 0)) ⟨A1, n1, c1, none, 0, 0⟩ ⟨key, [], 0, 0, 0, 0⟩) := kept ⟨Rd.grown HR.out.1 HR.out.2.2.1 (set6_only W7 w.heap.size (.slice A1 n1 c1) (.slice none 0 0) (.int .i64 0) (.int .i64 0) (.int .i64 0) (.int .i64 0)), Rd.grown HR.out.2.1 HR.out.2.2.2 (set6_only W7 w.heap.size (.slice A1 n1 c1) (.slice none 0 0) (.int .i64 0) (.int .i64 0) (.int .i64 0) (.int .i64 0)), HL.out.1, HL.out.2.1, HL.out.2.2.1, HL.out.2.2.2⟩
  go_wp2
  obtain ⟨hq, hB⟩ := HQ.out
  have hV := HRV.out
  unfold set6 at hV
  unfold set6 at hq hB
  generalize ((((((W7.setCell ⟨w.heap.size, 0, none⟩ (.slice A1 n1 c1)).setCell ⟨w.heap.size, 1, none⟩ (.slice none 0 0)).setCell ⟨w.heap.size, 2, none⟩ (.int .i64 0)).setCell ⟨w.heap.size, 3, none⟩ (.int .i64 0)).setCell ⟨w.heap.size, 4, none⟩ (.int .i64 0)).setCell ⟨w.heap.size, 5, none⟩ (.int .i64 0)) = Y at hq hB hV ⊢
  have y0 : Y.cell? ⟨w.heap.size, 0, none⟩ = some (.slice A1 n1 c1) := hq.cell 0
  have y1 : Y.cell? ⟨w.heap.size, 1, none⟩ = some (.slice none 0 0) := hq.cell 1
  have y2 : Y.cell? ⟨w.heap.size, 2, none⟩ = some (.int .i64 0) := hq.cell 2
  have y3 : Y.cell? ⟨w.heap.size, 3, none⟩ = some (.int .i64 0) := hq.cell 3
  have y4 : Y.cell? ⟨w.heap.size, 4, none⟩ = some (.int .i64 0) := hq.cell 4
  have y5 : Y.cell? ⟨w.heap.size, 5, none⟩ = some (.int .i64 0) := hq.cell 5
  refine bodyPost_ret (v := .tuple #[.agg #[.slice A1 n1 c1, .slice none 0 0, .int .i64 0, .int .i64 0, .int .i64 0, .int .i64 0], .bool true, .int .i64 0]) ?_ rfl ?_
  · simp [results, Try.results19, go_sem, y0, y1, y2, y3, y4, y5]
  · exact ⟨⟨A1, n1, c1, none, 0, 0⟩, rfl, hV, hB⟩
set_option maxRecDepth 100000 in
set_option maxHeartbeats 2000000 in
theorem decode_tomb_end (A : Option Addr) (n c : Nat) (xs : List UInt8) (w : World) (hr : Rd w A n xs) (hn : n ≤ 140737488355328) (s1 s2 : Nat × Int) (key : List UInt8)
    (hK : rnumX xs 1 (0, 0) = (2, s1)) (hT : rtextX xs 64 s1 = (key, s2)) (b : Bool) (hb : keyB key.length = b) (er : Int) (he : endE n s2.1 s2.2 = er) (het : (er != 0) = true) :
    Calls Try.prog 19 #[.slice A n c] w fun e w' => ∃ L, e = .returned (.tuple #[vkv L zeroKv, .bool false, .int .i64 4]) ∧ RdV w' L zeroKv ∧ Below w.heap.size w w' := by
  have hb0 := (Below.refl w.heap.size w).alloc (Nat.le_refl _) (.cells #[.slice none 0 0, .slice none 0 0, .int .i64 0, .int .i64 0, .int .i64 0, .int .i64 0] 24)
  have HZ0 := kept (Blk.new w 24 #[.slice none 0 0, .slice none 0 0, .int .i64 0, .int .i64 0, .int .i64 0, .int .i64 0])
  have HB0 := kept hb0
  have HR0 := kept (hr.below hb0)
  have HN := kept hn
  have HSZ : Hid ((zeroes w).heap.size = w.heap.size + 1) := kept (by simp [zeroes])
  have N0 : ∀ W r A c, RX W r A n c xs (0, 0) → Calls Try.prog 32 #[.pointer (some ⟨r, 0, none⟩), .int .i64 1] W fun e w' => e = .returned (.int .u64 (2 : Int)) ∧ Hid (RX w' r A n c xs s1 ∧ Only W w' r) := fun W r A c q => by
    have := numX1 r A n c xs (0, 0) W q
    rw [hK] at this
    exact this
  have N1 := fun W r A c (q : RX W r A n c xs s1) => textX64 r A n c xs s1 W q
  simp only [hT] at N1
  have N0 := kept N0
  have N1 := kept N1
  have HLK : Hid (key.length ≤ 64) := kept (by have := rtextX_len (xs := xs) (most := 64) (s := s1); rw [hT] at this; exact this)
  clear hb0 hr hn hK hT
  have HEN := fun W r A c h => kept (endX r A n c xs s2 er he W h)
  clear he
  go_enter Try.func19, Try.ntmps19
  go_wp2_with fail
  with_reducible refine (newReader_any A n c xs _ HR0.out HN.out).mono ?_
  rintro e w1 ⟨r, A', c', rfl, hrdr, hc, hrr, hb⟩
  have HX1 : Hid (RX w1 r A' n c' xs (0, 0)) := kept ⟨hrdr, Nat.zero_le _, hc, HN.out⟩
  have HZ1 := kept (HZ0.out.below hb HZ0.out.lt)
  have HB1 := kept (bel_to hb HB0.out)
  have HQR := kept (show w.heap.size < r by rw [HSZ.out] at hrr; omega)
  clear hrdr hc hrr hb HZ0 HB0 HR0
  go_wp2_with fail
  with_reducible refine (N0.out _ _ _ _ HX1.out).mono ?_
  rintro e w2 ⟨rfl, hq⟩
  have HX2 := kept hq.out.1
  have HZ2 := kept (HZ1.out.far_blk_ hq.out.2 (by have := HQR.out; omega))
  have HB2 := kept (Only.below HB1.out hq.out.2 HB1.out.size (Nat.le_of_lt HQR.out))
  clear hq HX1 HZ1 HB1
  go_wp2_with fail
  with_reducible refine (N1.out _ _ _ _ HX2.out).mono ?_
  rintro e w3 ⟨A1, n1, c1, rfl, hrd, hq⟩
  have HX3 := kept hq.out.1
  have HZ3 := kept (HZ2.out.far_blk_ hq.out.2 (by have := HQR.out; omega))
  have HB3 := kept (Only.below HB2.out hq.out.2 HB2.out.size (Nat.le_of_lt HQR.out))
  have HR3 := kept hrd.out.1
  have HA3 := kept (hrd.out.2.1 r HX2.out.lt)
  have HL3 := kept hrd.out.2.2
  have HAq := kept (hrd.out.2.1 w.heap.size (Nat.lt_trans HQR.out HX2.out.lt))
  clear hq hrd HX2 HZ2 HB2
  obtain ⟨g, hg⟩ : ∃ g, w3.heap.size = g := ⟨_, rfl⟩
  have hbn := (Below.refl w3.heap.size w3).alloc (Nat.le_refl _) (.cells #[.slice A1 n1 c1, .slice none 0 0, .int .i64 0, .int .i64 0, .int .i64 0, .int .i64 0] 24)
  have HG4 : Hid (Blk (w3.alloc (.cells #[.slice A1 n1 c1, .slice none 0 0, .int .i64 0, .int .i64 0, .int .i64 0, .int .i64 0] 24)) g 24 [.slice A1 n1 c1, .slice none 0 0, .int .i64 0, .int .i64 0, .int .i64 0, .int .i64 0]) := kept (by rw [← hg]; exact Blk.new w3 24 _)
  have HX4 := kept (HX3.out.below hbn)
  have HZ4 := kept (HZ3.out.below hbn HZ3.out.lt)
  have HB4 := kept (bel_to hbn HB3.out)
  have HR4 := kept (HR3.out.below hbn)
  have HG3 := kept (show r < g by rw [← hg]; exact HX3.out.lt)
  have HA4 := kept (show apartA A1 n1 g from HR3.out.fresh (Nat.le_of_eq hg))
  have HA5 := kept (show apartA A' n g from HX3.out.apart (Nat.le_of_eq hg))
  have HGG := kept hg
  have HQ3 := kept (show w.heap.size < w3.heap.size from Nat.lt_trans HQR.out HX3.out.lt)
  clear hbn HX3 HZ3 HB3 HR3 hg
  obtain ⟨w4, hw4⟩ : ∃ w4, w4 = (w3.alloc (.cells #[.slice A1 n1 c1, .slice none 0 0, .int .i64 0, .int .i64 0, .int .i64 0, .int .i64 0] 24)) := ⟨_, rfl⟩
  have HW4 := kept hw4
  rw [← hw4] at HG4 HX4 HZ4 HB4 HR4
  have hkb := hb
  rw [HR4.out.1] at hkb
  have HK4 := kept (rightKey_any A1 n1 c1 _ hkb w4)
  clear hkb
  have k0 : (w3.alloc (.cells #[.slice A1 n1 c1, .slice none 0 0, .int .i64 0, .int .i64 0, .int .i64 0, .int .i64 0] 24)).cell? ⟨g, 0, none⟩ = some (.slice A1 n1 c1) := by rw [← hw4]; exact HG4.out.cell 0
  rw [HGG.out.symm] at k0
  clear hw4
  go_wp2_with fail
  rw [← HW4.out, HGG.out]
  with_reducible refine HK4.out.mono ?_
  rintro e w5 ⟨rfl, rfl⟩
  clear k0
  go_wp2_with fail
  with_reducible refine (HEN _ _ _ _ HX4.out).out.mono ?_
  rintro e w7 ⟨rfl, q, hq⟩
  obtain ⟨W7, hW⟩ : ∃ W7, W7 = w7 := ⟨_, rfl⟩
  rw [← hW]
  rw [← hW] at hq
  have HG : Hid (Blk W7 g 24 [.slice A1 n1 c1, .slice none 0 0, .int .i64 0, .int .i64 0, .int .i64 0, .int .i64 0]) := kept (by rw [hq]; exact HG4.out)
  have HZ : Hid (Blk W7 w.heap.size 24 [.slice none 0 0, .slice none 0 0, .int .i64 0, .int .i64 0, .int .i64 0, .int .i64 0]) := kept (by rw [hq]; exact HZ4.out)
  have HB : Hid (Below w.heap.size w W7) := kept (by rw [hq]; exact below_drewN HB4.out q)
  have HR : Hid (Rd W7 A1 n1 key ∧ Rd W7 none 0 [] ∧ apartA A1 n1 w.heap.size ∧ apartA none 0 w.heap.size) := kept (by rw [hq]; exact ⟨HR4.out, Rd.nil_ _ _, HAq.out, fun a e => by cases e⟩)
  have HL : Hid (n1 ≤ c1 ∧ 0 ≤ 0 ∧ n1 ≤ 140737488351232 ∧ 0 ≤ 140737488351232) := kept ⟨HL3.out.1, Nat.le_refl _, by have := HL3.out.2; omega, Nat.zero_le _⟩
  clear hq hW HG4 HZ4 HB4 HX4 HR4
  have HGE := kept HGG.out
  have z0 : W7.cell? ⟨w.heap.size, 0, none⟩ = some (.slice none 0 0) := HZ.out.cell 0
  have z1 : W7.cell? ⟨w.heap.size, 1, none⟩ = some (.slice none 0 0) := HZ.out.cell 1
  have z2 : W7.cell? ⟨w.heap.size, 2, none⟩ = some (.int .i64 0) := HZ.out.cell 2
  have z3 : W7.cell? ⟨w.heap.size, 3, none⟩ = some (.int .i64 0) := HZ.out.cell 3
  have z4 : W7.cell? ⟨w.heap.size, 4, none⟩ = some (.int .i64 0) := HZ.out.cell 4
  have z5 : W7.cell? ⟨w.heap.size, 5, none⟩ = some (.int .i64 0) := HZ.out.cell 5
  have f0 := HZ.out.frozen 0
  have f1 := HZ.out.frozen 1
  have f2 := HZ.out.frozen 2
  have f3 := HZ.out.frozen 3
  have f4 := HZ.out.frozen 4
  have f5 := HZ.out.frozen 5
  have HQ := kept (And.intro (set6_blk HZ.out (.slice none 0 0) (.slice none 0 0) (.int .i64 0) (.int .i64 0) (.int .i64 0) (.int .i64 0)) (set6_below (q := w.heap.size) HB.out (Nat.le_refl _) (.slice none 0 0) (.slice none 0 0) (.int .i64 0) (.int .i64 0) (.int .i64 0) (.int .i64 0)))
  go_wp2
  obtain ⟨hq, hB⟩ := HQ.out
  unfold set6 at hq hB
  generalize ((((((W7.setCell ⟨w.heap.size, 0, none⟩ (.slice none 0 0)).setCell ⟨w.heap.size, 1, none⟩ (.slice none 0 0)).setCell ⟨w.heap.size, 2, none⟩ (.int .i64 0)).setCell ⟨w.heap.size, 3, none⟩ (.int .i64 0)).setCell ⟨w.heap.size, 4, none⟩ (.int .i64 0)).setCell ⟨w.heap.size, 5, none⟩ (.int .i64 0)) = Y at hq hB ⊢
  have y0 : Y.cell? ⟨w.heap.size, 0, none⟩ = some (.slice none 0 0) := hq.cell 0
  have y1 : Y.cell? ⟨w.heap.size, 1, none⟩ = some (.slice none 0 0) := hq.cell 1
  have y2 : Y.cell? ⟨w.heap.size, 2, none⟩ = some (.int .i64 0) := hq.cell 2
  have y3 : Y.cell? ⟨w.heap.size, 3, none⟩ = some (.int .i64 0) := hq.cell 3
  have y4 : Y.cell? ⟨w.heap.size, 4, none⟩ = some (.int .i64 0) := hq.cell 4
  have y5 : Y.cell? ⟨w.heap.size, 5, none⟩ = some (.int .i64 0) := hq.cell 5
  refine bodyPost_ret (v := .tuple #[.agg #[.slice none 0 0, .slice none 0 0, .int .i64 0, .int .i64 0, .int .i64 0, .int .i64 0], .bool false, .int .i64 4]) ?_ rfl ?_
  · simp [results, Try.results19, go_sem, y0, y1, y2, y3, y4, y5]
  · exact ⟨⟨none, 0, 0, none, 0, 0⟩, rfl, ⟨Rd.nil_ _ _, Rd.nil_ _ _, Nat.le_refl _, Nat.le_refl _, Nat.zero_le _, Nat.zero_le _⟩, hB⟩
set_option maxRecDepth 100000 in
set_option maxHeartbeats 2000000 in
theorem decode_tomb_bad (A : Option Addr) (n c : Nat) (xs : List UInt8) (w : World) (hr : Rd w A n xs) (hn : n ≤ 140737488355328) (s1 s2 : Nat × Int) (key : List UInt8)
    (hK : rnumX xs 1 (0, 0) = (2, s1)) (hT : rtextX xs 64 s1 = (key, s2)) (b : Bool) (hb : keyB key.length = b) (er : Int) (he : endE n s2.1 s2.2 = er) (hbt : b = false) (het : er = 0) :
    Calls Try.prog 19 #[.slice A n c] w fun e w' => ∃ L, e = .returned (.tuple #[vkv L zeroKv, .bool false, .int .i64 4]) ∧ RdV w' L zeroKv ∧ Below w.heap.size w w' := by
  have hb0 := (Below.refl w.heap.size w).alloc (Nat.le_refl _) (.cells #[.slice none 0 0, .slice none 0 0, .int .i64 0, .int .i64 0, .int .i64 0, .int .i64 0] 24)
  have HZ0 := kept (Blk.new w 24 #[.slice none 0 0, .slice none 0 0, .int .i64 0, .int .i64 0, .int .i64 0, .int .i64 0])
  have HB0 := kept hb0
  have HR0 := kept (hr.below hb0)
  have HN := kept hn
  have HSZ : Hid ((zeroes w).heap.size = w.heap.size + 1) := kept (by simp [zeroes])
  have N0 : ∀ W r A c, RX W r A n c xs (0, 0) → Calls Try.prog 32 #[.pointer (some ⟨r, 0, none⟩), .int .i64 1] W fun e w' => e = .returned (.int .u64 (2 : Int)) ∧ Hid (RX w' r A n c xs s1 ∧ Only W w' r) := fun W r A c q => by
    have := numX1 r A n c xs (0, 0) W q
    rw [hK] at this
    exact this
  have N1 := fun W r A c (q : RX W r A n c xs s1) => textX64 r A n c xs s1 W q
  simp only [hT] at N1
  have N0 := kept N0
  have N1 := kept N1
  have HLK : Hid (key.length ≤ 64) := kept (by have := rtextX_len (xs := xs) (most := 64) (s := s1); rw [hT] at this; exact this)
  clear hb0 hr hn hK hT
  have HEN := fun W r A c h => kept (endX r A n c xs s2 er he W h)
  clear he
  subst hbt het
  go_enter Try.func19, Try.ntmps19
  go_wp2_with fail
  with_reducible refine (newReader_any A n c xs _ HR0.out HN.out).mono ?_
  rintro e w1 ⟨r, A', c', rfl, hrdr, hc, hrr, hb⟩
  have HX1 : Hid (RX w1 r A' n c' xs (0, 0)) := kept ⟨hrdr, Nat.zero_le _, hc, HN.out⟩
  have HZ1 := kept (HZ0.out.below hb HZ0.out.lt)
  have HB1 := kept (bel_to hb HB0.out)
  have HQR := kept (show w.heap.size < r by rw [HSZ.out] at hrr; omega)
  clear hrdr hc hrr hb HZ0 HB0 HR0
  go_wp2_with fail
  with_reducible refine (N0.out _ _ _ _ HX1.out).mono ?_
  rintro e w2 ⟨rfl, hq⟩
  have HX2 := kept hq.out.1
  have HZ2 := kept (HZ1.out.far_blk_ hq.out.2 (by have := HQR.out; omega))
  have HB2 := kept (Only.below HB1.out hq.out.2 HB1.out.size (Nat.le_of_lt HQR.out))
  clear hq HX1 HZ1 HB1
  go_wp2_with fail
  with_reducible refine (N1.out _ _ _ _ HX2.out).mono ?_
  rintro e w3 ⟨A1, n1, c1, rfl, hrd, hq⟩
  have HX3 := kept hq.out.1
  have HZ3 := kept (HZ2.out.far_blk_ hq.out.2 (by have := HQR.out; omega))
  have HB3 := kept (Only.below HB2.out hq.out.2 HB2.out.size (Nat.le_of_lt HQR.out))
  have HR3 := kept hrd.out.1
  have HA3 := kept (hrd.out.2.1 r HX2.out.lt)
  have HL3 := kept hrd.out.2.2
  have HAq := kept (hrd.out.2.1 w.heap.size (Nat.lt_trans HQR.out HX2.out.lt))
  clear hq hrd HX2 HZ2 HB2
  obtain ⟨g, hg⟩ : ∃ g, w3.heap.size = g := ⟨_, rfl⟩
  have hbn := (Below.refl w3.heap.size w3).alloc (Nat.le_refl _) (.cells #[.slice A1 n1 c1, .slice none 0 0, .int .i64 0, .int .i64 0, .int .i64 0, .int .i64 0] 24)
  have HG4 : Hid (Blk (w3.alloc (.cells #[.slice A1 n1 c1, .slice none 0 0, .int .i64 0, .int .i64 0, .int .i64 0, .int .i64 0] 24)) g 24 [.slice A1 n1 c1, .slice none 0 0, .int .i64 0, .int .i64 0, .int .i64 0, .int .i64 0]) := kept (by rw [← hg]; exact Blk.new w3 24 _)
  have HX4 := kept (HX3.out.below hbn)
  have HZ4 := kept (HZ3.out.below hbn HZ3.out.lt)
  have HB4 := kept (bel_to hbn HB3.out)
  have HR4 := kept (HR3.out.below hbn)
  have HG3 := kept (show r < g by rw [← hg]; exact HX3.out.lt)
  have HA4 := kept (show apartA A1 n1 g from HR3.out.fresh (Nat.le_of_eq hg))
  have HA5 := kept (show apartA A' n g from HX3.out.apart (Nat.le_of_eq hg))
  have HGG := kept hg
  have HQ3 := kept (show w.heap.size < w3.heap.size from Nat.lt_trans HQR.out HX3.out.lt)
  clear hbn HX3 HZ3 HB3 HR3 hg
  obtain ⟨w4, hw4⟩ : ∃ w4, w4 = (w3.alloc (.cells #[.slice A1 n1 c1, .slice none 0 0, .int .i64 0, .int .i64 0, .int .i64 0, .int .i64 0] 24)) := ⟨_, rfl⟩
  have HW4 := kept hw4
  rw [← hw4] at HG4 HX4 HZ4 HB4 HR4
  have hkb := hb
  rw [HR4.out.1] at hkb
  have HK4 := kept (rightKey_any A1 n1 c1 _ hkb w4)
  clear hkb
  have k0 : (w3.alloc (.cells #[.slice A1 n1 c1, .slice none 0 0, .int .i64 0, .int .i64 0, .int .i64 0, .int .i64 0] 24)).cell? ⟨g, 0, none⟩ = some (.slice A1 n1 c1) := by rw [← hw4]; exact HG4.out.cell 0
  rw [HGG.out.symm] at k0
  clear hw4
  go_wp2_with fail
  rw [← HW4.out, HGG.out]
  with_reducible refine HK4.out.mono ?_
  rintro e w5 ⟨rfl, rfl⟩
  clear k0
  go_wp2_with fail
  with_reducible refine (HEN _ _ _ _ HX4.out).out.mono ?_
  rintro e w7 ⟨rfl, q, hq⟩
  obtain ⟨W7, hW⟩ : ∃ W7, W7 = w7 := ⟨_, rfl⟩
  rw [← hW]
  rw [← hW] at hq
  have HG : Hid (Blk W7 g 24 [.slice A1 n1 c1, .slice none 0 0, .int .i64 0, .int .i64 0, .int .i64 0, .int .i64 0]) := kept (by rw [hq]; exact HG4.out)
  have HZ : Hid (Blk W7 w.heap.size 24 [.slice none 0 0, .slice none 0 0, .int .i64 0, .int .i64 0, .int .i64 0, .int .i64 0]) := kept (by rw [hq]; exact HZ4.out)
  have HB : Hid (Below w.heap.size w W7) := kept (by rw [hq]; exact below_drewN HB4.out q)
  have HR : Hid (Rd W7 A1 n1 key ∧ Rd W7 none 0 [] ∧ apartA A1 n1 w.heap.size ∧ apartA none 0 w.heap.size) := kept (by rw [hq]; exact ⟨HR4.out, Rd.nil_ _ _, HAq.out, fun a e => by cases e⟩)
  have HL : Hid (n1 ≤ c1 ∧ 0 ≤ 0 ∧ n1 ≤ 140737488351232 ∧ 0 ≤ 140737488351232) := kept ⟨HL3.out.1, Nat.le_refl _, by have := HL3.out.2; omega, Nat.zero_le _⟩
  clear hq hW HG4 HZ4 HB4 HX4 HR4
  have HGE := kept HGG.out
  have z0 : W7.cell? ⟨w.heap.size, 0, none⟩ = some (.slice none 0 0) := HZ.out.cell 0
  have z1 : W7.cell? ⟨w.heap.size, 1, none⟩ = some (.slice none 0 0) := HZ.out.cell 1
  have z2 : W7.cell? ⟨w.heap.size, 2, none⟩ = some (.int .i64 0) := HZ.out.cell 2
  have z3 : W7.cell? ⟨w.heap.size, 3, none⟩ = some (.int .i64 0) := HZ.out.cell 3
  have z4 : W7.cell? ⟨w.heap.size, 4, none⟩ = some (.int .i64 0) := HZ.out.cell 4
  have z5 : W7.cell? ⟨w.heap.size, 5, none⟩ = some (.int .i64 0) := HZ.out.cell 5
  have f0 := HZ.out.frozen 0
  have f1 := HZ.out.frozen 1
  have f2 := HZ.out.frozen 2
  have f3 := HZ.out.frozen 3
  have f4 := HZ.out.frozen 4
  have f5 := HZ.out.frozen 5
  have HQ := kept (And.intro (set6_blk HZ.out (.slice none 0 0) (.slice none 0 0) (.int .i64 0) (.int .i64 0) (.int .i64 0) (.int .i64 0)) (set6_below (q := w.heap.size) HB.out (Nat.le_refl _) (.slice none 0 0) (.slice none 0 0) (.int .i64 0) (.int .i64 0) (.int .i64 0) (.int .i64 0)))
  go_wp2
  obtain ⟨hq, hB⟩ := HQ.out
  unfold set6 at hq hB
  generalize ((((((W7.setCell ⟨w.heap.size, 0, none⟩ (.slice none 0 0)).setCell ⟨w.heap.size, 1, none⟩ (.slice none 0 0)).setCell ⟨w.heap.size, 2, none⟩ (.int .i64 0)).setCell ⟨w.heap.size, 3, none⟩ (.int .i64 0)).setCell ⟨w.heap.size, 4, none⟩ (.int .i64 0)).setCell ⟨w.heap.size, 5, none⟩ (.int .i64 0)) = Y at hq hB ⊢
  have y0 : Y.cell? ⟨w.heap.size, 0, none⟩ = some (.slice none 0 0) := hq.cell 0
  have y1 : Y.cell? ⟨w.heap.size, 1, none⟩ = some (.slice none 0 0) := hq.cell 1
  have y2 : Y.cell? ⟨w.heap.size, 2, none⟩ = some (.int .i64 0) := hq.cell 2
  have y3 : Y.cell? ⟨w.heap.size, 3, none⟩ = some (.int .i64 0) := hq.cell 3
  have y4 : Y.cell? ⟨w.heap.size, 4, none⟩ = some (.int .i64 0) := hq.cell 4
  have y5 : Y.cell? ⟨w.heap.size, 5, none⟩ = some (.int .i64 0) := hq.cell 5
  refine bodyPost_ret (v := .tuple #[.agg #[.slice none 0 0, .slice none 0 0, .int .i64 0, .int .i64 0, .int .i64 0, .int .i64 0], .bool false, .int .i64 4]) ?_ rfl ?_
  · simp [results, Try.results19, go_sem, y0, y1, y2, y3, y4, y5]
  · exact ⟨⟨none, 0, 0, none, 0, 0⟩, rfl, ⟨Rd.nil_ _ _, Rd.nil_ _ _, Nat.le_refl _, Nat.le_refl _, Nat.zero_le _, Nat.zero_le _⟩, hB⟩
set_option maxRecDepth 100000 in
set_option maxHeartbeats 2000000 in
theorem decode_odd_end (A : Option Addr) (n c : Nat) (xs : List UInt8) (w : World) (hr : Rd w A n xs) (hn : n ≤ 140737488355328) (kind : Nat) (hk1 : ((kind : Int) == 1) = false) (hk2 : ((kind : Int) == 2) = false) (s1 s2 : Nat × Int) (key : List UInt8)
    (hK : rnumX xs 1 (0, 0) = (kind, s1)) (hT : rtextX xs 64 s1 = (key, s2)) (er : Int) (he : endE n s2.1 s2.2 = er) (het : (er != 0) = true) :
    Calls Try.prog 19 #[.slice A n c] w fun e w' => ∃ L, e = .returned (.tuple #[vkv L zeroKv, .bool false, .int .i64 4]) ∧ RdV w' L zeroKv ∧ Below w.heap.size w w' := by
  have hb0 := (Below.refl w.heap.size w).alloc (Nat.le_refl _) (.cells #[.slice none 0 0, .slice none 0 0, .int .i64 0, .int .i64 0, .int .i64 0, .int .i64 0] 24)
  have HZ0 := kept (Blk.new w 24 #[.slice none 0 0, .slice none 0 0, .int .i64 0, .int .i64 0, .int .i64 0, .int .i64 0])
  have HB0 := kept hb0
  have HR0 := kept (hr.below hb0)
  have HN := kept hn
  have HSZ : Hid ((zeroes w).heap.size = w.heap.size + 1) := kept (by simp [zeroes])
  have N0 : ∀ W r A c, RX W r A n c xs (0, 0) → Calls Try.prog 32 #[.pointer (some ⟨r, 0, none⟩), .int .i64 1] W fun e w' => e = .returned (.int .u64 (kind : Int)) ∧ Hid (RX w' r A n c xs s1 ∧ Only W w' r) := fun W r A c q => by
    have := numX1 r A n c xs (0, 0) W q
    rw [hK] at this
    exact this
  have N1 := fun W r A c (q : RX W r A n c xs s1) => textX64 r A n c xs s1 W q
  simp only [hT] at N1
  have N0 := kept N0
  have N1 := kept N1
  have HLK : Hid (key.length ≤ 64) := kept (by have := rtextX_len (xs := xs) (most := 64) (s := s1); rw [hT] at this; exact this)
  clear hb0 hr hn hK hT
  have HEN := fun W r A c h => kept (endX r A n c xs s2 er he W h)
  clear he
  go_enter Try.func19, Try.ntmps19
  go_wp2_with fail
  with_reducible refine (newReader_any A n c xs _ HR0.out HN.out).mono ?_
  rintro e w1 ⟨r, A', c', rfl, hrdr, hc, hrr, hb⟩
  have HX1 : Hid (RX w1 r A' n c' xs (0, 0)) := kept ⟨hrdr, Nat.zero_le _, hc, HN.out⟩
  have HZ1 := kept (HZ0.out.below hb HZ0.out.lt)
  have HB1 := kept (bel_to hb HB0.out)
  have HQR := kept (show w.heap.size < r by rw [HSZ.out] at hrr; omega)
  clear hrdr hc hrr hb HZ0 HB0 HR0
  go_wp2_with fail
  with_reducible refine (N0.out _ _ _ _ HX1.out).mono ?_
  rintro e w2 ⟨rfl, hq⟩
  have HX2 := kept hq.out.1
  have HZ2 := kept (HZ1.out.far_blk_ hq.out.2 (by have := HQR.out; omega))
  have HB2 := kept (Only.below HB1.out hq.out.2 HB1.out.size (Nat.le_of_lt HQR.out))
  clear hq HX1 HZ1 HB1
  go_wp2_with fail
  with_reducible refine (N1.out _ _ _ _ HX2.out).mono ?_
  rintro e w3 ⟨A1, n1, c1, rfl, hrd, hq⟩
  have HX3 := kept hq.out.1
  have HZ3 := kept (HZ2.out.far_blk_ hq.out.2 (by have := HQR.out; omega))
  have HB3 := kept (Only.below HB2.out hq.out.2 HB2.out.size (Nat.le_of_lt HQR.out))
  have HR3 := kept hrd.out.1
  have HA3 := kept (hrd.out.2.1 r HX2.out.lt)
  have HL3 := kept hrd.out.2.2
  have HAq := kept (hrd.out.2.1 w.heap.size (Nat.lt_trans HQR.out HX2.out.lt))
  clear hq hrd HX2 HZ2 HB2
  obtain ⟨g, hg⟩ : ∃ g, w3.heap.size = g := ⟨_, rfl⟩
  have hbn := (Below.refl w3.heap.size w3).alloc (Nat.le_refl _) (.cells #[.slice A1 n1 c1, .slice none 0 0, .int .i64 0, .int .i64 0, .int .i64 0, .int .i64 0] 24)
  have HG4 : Hid (Blk (w3.alloc (.cells #[.slice A1 n1 c1, .slice none 0 0, .int .i64 0, .int .i64 0, .int .i64 0, .int .i64 0] 24)) g 24 [.slice A1 n1 c1, .slice none 0 0, .int .i64 0, .int .i64 0, .int .i64 0, .int .i64 0]) := kept (by rw [← hg]; exact Blk.new w3 24 _)
  have HX4 := kept (HX3.out.below hbn)
  have HZ4 := kept (HZ3.out.below hbn HZ3.out.lt)
  have HB4 := kept (bel_to hbn HB3.out)
  have HR4 := kept (HR3.out.below hbn)
  have HG3 := kept (show r < g by rw [← hg]; exact HX3.out.lt)
  have HA4 := kept (show apartA A1 n1 g from HR3.out.fresh (Nat.le_of_eq hg))
  have HA5 := kept (show apartA A' n g from HX3.out.apart (Nat.le_of_eq hg))
  have HGG := kept hg
  have HQ3 := kept (show w.heap.size < w3.heap.size from Nat.lt_trans HQR.out HX3.out.lt)
  clear hbn HX3 HZ3 HB3 HR3 hg
  obtain ⟨w4, hw4⟩ : ∃ w4, w4 = (w3.alloc (.cells #[.slice A1 n1 c1, .slice none 0 0, .int .i64 0, .int .i64 0, .int .i64 0, .int .i64 0] 24)) := ⟨_, rfl⟩
  have HW4 := kept hw4
  rw [← hw4] at HG4 HX4 HZ4 HB4 HR4
  clear hw4
  go_wp2_with fail
  rw [← HW4.out, HGG.out]
  with_reducible refine (HEN _ _ _ _ HX4.out).out.mono ?_
  rintro e w7 ⟨rfl, q, hq⟩
  obtain ⟨W7, hW⟩ : ∃ W7, W7 = w7 := ⟨_, rfl⟩
  rw [← hW]
  rw [← hW] at hq
  have HG : Hid (Blk W7 g 24 [.slice A1 n1 c1, .slice none 0 0, .int .i64 0, .int .i64 0, .int .i64 0, .int .i64 0]) := kept (by rw [hq]; exact HG4.out)
  have HZ : Hid (Blk W7 w.heap.size 24 [.slice none 0 0, .slice none 0 0, .int .i64 0, .int .i64 0, .int .i64 0, .int .i64 0]) := kept (by rw [hq]; exact HZ4.out)
  have HB : Hid (Below w.heap.size w W7) := kept (by rw [hq]; exact below_drewN HB4.out q)
  have HR : Hid (Rd W7 A1 n1 key ∧ Rd W7 none 0 [] ∧ apartA A1 n1 w.heap.size ∧ apartA none 0 w.heap.size) := kept (by rw [hq]; exact ⟨HR4.out, Rd.nil_ _ _, HAq.out, fun a e => by cases e⟩)
  have HL : Hid (n1 ≤ c1 ∧ 0 ≤ 0 ∧ n1 ≤ 140737488351232 ∧ 0 ≤ 140737488351232) := kept ⟨HL3.out.1, Nat.le_refl _, by have := HL3.out.2; omega, Nat.zero_le _⟩
  clear hq hW HG4 HZ4 HB4 HX4 HR4
  have HGE := kept HGG.out
  have z0 : W7.cell? ⟨w.heap.size, 0, none⟩ = some (.slice none 0 0) := HZ.out.cell 0
  have z1 : W7.cell? ⟨w.heap.size, 1, none⟩ = some (.slice none 0 0) := HZ.out.cell 1
  have z2 : W7.cell? ⟨w.heap.size, 2, none⟩ = some (.int .i64 0) := HZ.out.cell 2
  have z3 : W7.cell? ⟨w.heap.size, 3, none⟩ = some (.int .i64 0) := HZ.out.cell 3
  have z4 : W7.cell? ⟨w.heap.size, 4, none⟩ = some (.int .i64 0) := HZ.out.cell 4
  have z5 : W7.cell? ⟨w.heap.size, 5, none⟩ = some (.int .i64 0) := HZ.out.cell 5
  have f0 := HZ.out.frozen 0
  have f1 := HZ.out.frozen 1
  have f2 := HZ.out.frozen 2
  have f3 := HZ.out.frozen 3
  have f4 := HZ.out.frozen 4
  have f5 := HZ.out.frozen 5
  have HQ := kept (And.intro (set6_blk HZ.out (.slice none 0 0) (.slice none 0 0) (.int .i64 0) (.int .i64 0) (.int .i64 0) (.int .i64 0)) (set6_below (q := w.heap.size) HB.out (Nat.le_refl _) (.slice none 0 0) (.slice none 0 0) (.int .i64 0) (.int .i64 0) (.int .i64 0) (.int .i64 0)))
  go_wp2
  obtain ⟨hq, hB⟩ := HQ.out
  unfold set6 at hq hB
  generalize ((((((W7.setCell ⟨w.heap.size, 0, none⟩ (.slice none 0 0)).setCell ⟨w.heap.size, 1, none⟩ (.slice none 0 0)).setCell ⟨w.heap.size, 2, none⟩ (.int .i64 0)).setCell ⟨w.heap.size, 3, none⟩ (.int .i64 0)).setCell ⟨w.heap.size, 4, none⟩ (.int .i64 0)).setCell ⟨w.heap.size, 5, none⟩ (.int .i64 0)) = Y at hq hB ⊢
  have y0 : Y.cell? ⟨w.heap.size, 0, none⟩ = some (.slice none 0 0) := hq.cell 0
  have y1 : Y.cell? ⟨w.heap.size, 1, none⟩ = some (.slice none 0 0) := hq.cell 1
  have y2 : Y.cell? ⟨w.heap.size, 2, none⟩ = some (.int .i64 0) := hq.cell 2
  have y3 : Y.cell? ⟨w.heap.size, 3, none⟩ = some (.int .i64 0) := hq.cell 3
  have y4 : Y.cell? ⟨w.heap.size, 4, none⟩ = some (.int .i64 0) := hq.cell 4
  have y5 : Y.cell? ⟨w.heap.size, 5, none⟩ = some (.int .i64 0) := hq.cell 5
  refine bodyPost_ret (v := .tuple #[.agg #[.slice none 0 0, .slice none 0 0, .int .i64 0, .int .i64 0, .int .i64 0, .int .i64 0], .bool false, .int .i64 4]) ?_ rfl ?_
  · simp [results, Try.results19, go_sem, y0, y1, y2, y3, y4, y5]
  · exact ⟨⟨none, 0, 0, none, 0, 0⟩, rfl, ⟨Rd.nil_ _ _, Rd.nil_ _ _, Nat.le_refl _, Nat.le_refl _, Nat.zero_le _, Nat.zero_le _⟩, hB⟩
set_option maxRecDepth 100000 in
set_option maxHeartbeats 2000000 in
theorem decode_odd (A : Option Addr) (n c : Nat) (xs : List UInt8) (w : World) (hr : Rd w A n xs) (hn : n ≤ 140737488355328) (kind : Nat) (hk1 : ((kind : Int) == 1) = false) (hk2 : ((kind : Int) == 2) = false) (s1 s2 : Nat × Int) (key : List UInt8)
    (hK : rnumX xs 1 (0, 0) = (kind, s1)) (hT : rtextX xs 64 s1 = (key, s2)) (er : Int) (he : endE n s2.1 s2.2 = er) (het : er = 0) :
    Calls Try.prog 19 #[.slice A n c] w fun e w' => ∃ L, e = .returned (.tuple #[vkv L zeroKv, .bool false, .int .i64 4]) ∧ RdV w' L zeroKv ∧ Below w.heap.size w w' := by
  have hb0 := (Below.refl w.heap.size w).alloc (Nat.le_refl _) (.cells #[.slice none 0 0, .slice none 0 0, .int .i64 0, .int .i64 0, .int .i64 0, .int .i64 0] 24)
  have HZ0 := kept (Blk.new w 24 #[.slice none 0 0, .slice none 0 0, .int .i64 0, .int .i64 0, .int .i64 0, .int .i64 0])
  have HB0 := kept hb0
  have HR0 := kept (hr.below hb0)
  have HN := kept hn
  have HSZ : Hid ((zeroes w).heap.size = w.heap.size + 1) := kept (by simp [zeroes])
  have N0 : ∀ W r A c, RX W r A n c xs (0, 0) → Calls Try.prog 32 #[.pointer (some ⟨r, 0, none⟩), .int .i64 1] W fun e w' => e = .returned (.int .u64 (kind : Int)) ∧ Hid (RX w' r A n c xs s1 ∧ Only W w' r) := fun W r A c q => by
    have := numX1 r A n c xs (0, 0) W q
    rw [hK] at this
    exact this
  have N1 := fun W r A c (q : RX W r A n c xs s1) => textX64 r A n c xs s1 W q
  simp only [hT] at N1
  have N0 := kept N0
  have N1 := kept N1
  have HLK : Hid (key.length ≤ 64) := kept (by have := rtextX_len (xs := xs) (most := 64) (s := s1); rw [hT] at this; exact this)
  clear hb0 hr hn hK hT
  have HEN := fun W r A c h => kept (endX r A n c xs s2 er he W h)
  clear he
  subst het
  go_enter Try.func19, Try.ntmps19
  go_wp2_with fail
  with_reducible refine (newReader_any A n c xs _ HR0.out HN.out).mono ?_
  rintro e w1 ⟨r, A', c', rfl, hrdr, hc, hrr, hb⟩
  have HX1 : Hid (RX w1 r A' n c' xs (0, 0)) := kept ⟨hrdr, Nat.zero_le _, hc, HN.out⟩
  have HZ1 := kept (HZ0.out.below hb HZ0.out.lt)
  have HB1 := kept (bel_to hb HB0.out)
  have HQR := kept (show w.heap.size < r by rw [HSZ.out] at hrr; omega)
  clear hrdr hc hrr hb HZ0 HB0 HR0
  go_wp2_with fail
  with_reducible refine (N0.out _ _ _ _ HX1.out).mono ?_
  rintro e w2 ⟨rfl, hq⟩
  have HX2 := kept hq.out.1
  have HZ2 := kept (HZ1.out.far_blk_ hq.out.2 (by have := HQR.out; omega))
  have HB2 := kept (Only.below HB1.out hq.out.2 HB1.out.size (Nat.le_of_lt HQR.out))
  clear hq HX1 HZ1 HB1
  go_wp2_with fail
  with_reducible refine (N1.out _ _ _ _ HX2.out).mono ?_
  rintro e w3 ⟨A1, n1, c1, rfl, hrd, hq⟩
  have HX3 := kept hq.out.1
  have HZ3 := kept (HZ2.out.far_blk_ hq.out.2 (by have := HQR.out; omega))
  have HB3 := kept (Only.below HB2.out hq.out.2 HB2.out.size (Nat.le_of_lt HQR.out))
  have HR3 := kept hrd.out.1
  have HA3 := kept (hrd.out.2.1 r HX2.out.lt)
  have HL3 := kept hrd.out.2.2
  have HAq := kept (hrd.out.2.1 w.heap.size (Nat.lt_trans HQR.out HX2.out.lt))
  clear hq hrd HX2 HZ2 HB2
  obtain ⟨g, hg⟩ : ∃ g, w3.heap.size = g := ⟨_, rfl⟩
  have hbn := (Below.refl w3.heap.size w3).alloc (Nat.le_refl _) (.cells #[.slice A1 n1 c1, .slice none 0 0, .int .i64 0, .int .i64 0, .int .i64 0, .int .i64 0] 24)
  have HG4 : Hid (Blk (w3.alloc (.cells #[.slice A1 n1 c1, .slice none 0 0, .int .i64 0, .int .i64 0, .int .i64 0, .int .i64 0] 24)) g 24 [.slice A1 n1 c1, .slice none 0 0, .int .i64 0, .int .i64 0, .int .i64 0, .int .i64 0]) := kept (by rw [← hg]; exact Blk.new w3 24 _)
  have HX4 := kept (HX3.out.below hbn)
  have HZ4 := kept (HZ3.out.below hbn HZ3.out.lt)
  have HB4 := kept (bel_to hbn HB3.out)
  have HR4 := kept (HR3.out.below hbn)
  have HG3 := kept (show r < g by rw [← hg]; exact HX3.out.lt)
  have HA4 := kept (show apartA A1 n1 g from HR3.out.fresh (Nat.le_of_eq hg))
  have HA5 := kept (show apartA A' n g from HX3.out.apart (Nat.le_of_eq hg))
  have HGG := kept hg
  have HQ3 := kept (show w.heap.size < w3.heap.size from Nat.lt_trans HQR.out HX3.out.lt)
  clear hbn HX3 HZ3 HB3 HR3 hg
  obtain ⟨w4, hw4⟩ : ∃ w4, w4 = (w3.alloc (.cells #[.slice A1 n1 c1, .slice none 0 0, .int .i64 0, .int .i64 0, .int .i64 0, .int .i64 0] 24)) := ⟨_, rfl⟩
  have HW4 := kept hw4
  rw [← hw4] at HG4 HX4 HZ4 HB4 HR4
  clear hw4
  go_wp2_with fail
  rw [← HW4.out, HGG.out]
  with_reducible refine (HEN _ _ _ _ HX4.out).out.mono ?_
  rintro e w7 ⟨rfl, q, hq⟩
  obtain ⟨W7, hW⟩ : ∃ W7, W7 = w7 := ⟨_, rfl⟩
  rw [← hW]
  rw [← hW] at hq
  have HG : Hid (Blk W7 g 24 [.slice A1 n1 c1, .slice none 0 0, .int .i64 0, .int .i64 0, .int .i64 0, .int .i64 0]) := kept (by rw [hq]; exact HG4.out)
  have HZ : Hid (Blk W7 w.heap.size 24 [.slice none 0 0, .slice none 0 0, .int .i64 0, .int .i64 0, .int .i64 0, .int .i64 0]) := kept (by rw [hq]; exact HZ4.out)
  have HB : Hid (Below w.heap.size w W7) := kept (by rw [hq]; exact below_drewN HB4.out q)
  have HR : Hid (Rd W7 A1 n1 key ∧ Rd W7 none 0 [] ∧ apartA A1 n1 w.heap.size ∧ apartA none 0 w.heap.size) := kept (by rw [hq]; exact ⟨HR4.out, Rd.nil_ _ _, HAq.out, fun a e => by cases e⟩)
  have HL : Hid (n1 ≤ c1 ∧ 0 ≤ 0 ∧ n1 ≤ 140737488351232 ∧ 0 ≤ 140737488351232) := kept ⟨HL3.out.1, Nat.le_refl _, by have := HL3.out.2; omega, Nat.zero_le _⟩
  clear hq hW HG4 HZ4 HB4 HX4 HR4
  have HGE := kept HGG.out
  have z0 : W7.cell? ⟨w.heap.size, 0, none⟩ = some (.slice none 0 0) := HZ.out.cell 0
  have z1 : W7.cell? ⟨w.heap.size, 1, none⟩ = some (.slice none 0 0) := HZ.out.cell 1
  have z2 : W7.cell? ⟨w.heap.size, 2, none⟩ = some (.int .i64 0) := HZ.out.cell 2
  have z3 : W7.cell? ⟨w.heap.size, 3, none⟩ = some (.int .i64 0) := HZ.out.cell 3
  have z4 : W7.cell? ⟨w.heap.size, 4, none⟩ = some (.int .i64 0) := HZ.out.cell 4
  have z5 : W7.cell? ⟨w.heap.size, 5, none⟩ = some (.int .i64 0) := HZ.out.cell 5
  have f0 := HZ.out.frozen 0
  have f1 := HZ.out.frozen 1
  have f2 := HZ.out.frozen 2
  have f3 := HZ.out.frozen 3
  have f4 := HZ.out.frozen 4
  have f5 := HZ.out.frozen 5
  have HQ := kept (And.intro (set6_blk HZ.out (.slice none 0 0) (.slice none 0 0) (.int .i64 0) (.int .i64 0) (.int .i64 0) (.int .i64 0)) (set6_below (q := w.heap.size) HB.out (Nat.le_refl _) (.slice none 0 0) (.slice none 0 0) (.int .i64 0) (.int .i64 0) (.int .i64 0) (.int .i64 0)))
  go_wp2
  obtain ⟨hq, hB⟩ := HQ.out
  unfold set6 at hq hB
  generalize ((((((W7.setCell ⟨w.heap.size, 0, none⟩ (.slice none 0 0)).setCell ⟨w.heap.size, 1, none⟩ (.slice none 0 0)).setCell ⟨w.heap.size, 2, none⟩ (.int .i64 0)).setCell ⟨w.heap.size, 3, none⟩ (.int .i64 0)).setCell ⟨w.heap.size, 4, none⟩ (.int .i64 0)).setCell ⟨w.heap.size, 5, none⟩ (.int .i64 0)) = Y at hq hB ⊢
  have y0 : Y.cell? ⟨w.heap.size, 0, none⟩ = some (.slice none 0 0) := hq.cell 0
  have y1 : Y.cell? ⟨w.heap.size, 1, none⟩ = some (.slice none 0 0) := hq.cell 1
  have y2 : Y.cell? ⟨w.heap.size, 2, none⟩ = some (.int .i64 0) := hq.cell 2
  have y3 : Y.cell? ⟨w.heap.size, 3, none⟩ = some (.int .i64 0) := hq.cell 3
  have y4 : Y.cell? ⟨w.heap.size, 4, none⟩ = some (.int .i64 0) := hq.cell 4
  have y5 : Y.cell? ⟨w.heap.size, 5, none⟩ = some (.int .i64 0) := hq.cell 5
  refine bodyPost_ret (v := .tuple #[.agg #[.slice none 0 0, .slice none 0 0, .int .i64 0, .int .i64 0, .int .i64 0, .int .i64 0], .bool false, .int .i64 4]) ?_ rfl ?_
  · simp [results, Try.results19, go_sem, y0, y1, y2, y3, y4, y5]
  · exact ⟨⟨none, 0, 0, none, 0, 0⟩, rfl, ⟨Rd.nil_ _ _, Rd.nil_ _ _, Nat.le_refl _, Nat.le_refl _, Nat.zero_le _, Nat.zero_le _⟩, hB⟩
end Go.Proofs.Ytcmjgkgdeaiifaa
