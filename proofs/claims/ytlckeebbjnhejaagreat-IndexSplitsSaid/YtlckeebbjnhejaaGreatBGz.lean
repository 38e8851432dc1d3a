/-
  Texts laid together: Gz.
-/
import Derived.Test.YtlckeebbjnhejaaGreatBGv
import Derived.Deep.DeepCutAuto
section
/-
  The document's own history, loosely: Get, Compact.
-/
namespace Go.Proofs.YtlckeebbjnhejaaGreat
open Go.ChangeShapes Go.WideShapes Go.ChangeAt Go.RowKit Go.Deep
set_option linter.unusedVariables false
set_option linter.unusedSimpArgs false

/-- A history to be read: its slice in a cell, its entries. -/
def ROf (W : World) (p : Addr) (n : Nat) : Prop := ∃ A k, W.cell? p = some (.slice A n k) ∧ ∀ j, j < n → ∃ g x, A = some ⟨g, 0, none⟩ ∧ g < W.heap.size ∧ W.cell? ⟨g, j * 5, none⟩ = some (.int .i64 (En5.a x)) ∧ W.cell? ⟨g, j * 5 + 1, none⟩ = some (.int .i64 x.b) ∧ W.cell? ⟨g, j * 5 + 2, none⟩ = some (.bool x.t) ∧ W.cell? ⟨g, j * 5 + 3, none⟩ = some (.int .i64 x.c) ∧ W.cell? ⟨g, j * 5 + 4, none⟩ = some (.int .i64 x.v)
/-- Entry j as it lies. -/
theorem RF.at_ {W : World} {B b n : Nat} (h : RF W B b n) : ROf W ⟨b, 0, none⟩ n := by
  obtain ⟨A, k, I, h1, h2, h3, _⟩ := h
  refine ⟨A, k, h1.cell 0, fun j hj => ?_⟩
  obtain ⟨g, rfl, _, hgl, _, _, hc⟩ := gown_at h2 (by omega)
  have hcc := fun q (hq : q < 5) => renC_at I j (by omega) q hq
  exact ⟨g, I[j]'(by omega), rfl, hgl, hc _ _ (hcc 0 (by omega)), hc _ _ (hcc 1 (by omega)), hc _ _ (hcc 2 (by omega)), hc _ _ (hcc 3 (by omega)), hc _ _ (hcc 4 (by omega))⟩
set_option maxRecDepth 100000 in
set_option maxHeartbeats 2000000 in
theorem rget_at {w : World} {b q n : Nat} (h : ROf w ⟨b, q, none⟩ n) (hn : n ≤ 1000000) (at_ : Int) :
    Calls Tryz.prog 70 #[.pointer (some ⟨b, q, none⟩), .int .i64 at_] w (RLast w) := by
  have hB0 := ((Below.refl w.heap.size w).alloc (Nat.le_refl _) (.cells #[.int .i64 0, .int .i64 0, .bool false, .int .i64 0, .int .i64 0] 124)).alloc (by simp) (.cells #[.int .i64 0, .int .i64 0, .bool false, .int .i64 0, .int .i64 0] 124)
  have HK1 := kept ((Blk.new w 124 #[.int .i64 0, .int .i64 0, .bool false, .int .i64 0, .int .i64 0]).alloc (.cells #[.int .i64 0, .int .i64 0, .bool false, .int .i64 0, .int .i64 0] 124))
  have HK2 := kept (Blk.new (w.alloc (.cells #[.int .i64 0, .int .i64 0, .bool false, .int .i64 0, .int .i64 0] 124)) 124 #[.int .i64 0, .int .i64 0, .bool false, .int .i64 0, .int .i64 0])
  rw [World.size_alloc] at HK2
  obtain ⟨A, k, hbx, hat⟩ := h
  have HAT := kept hat
  replace hbx := (Keeps.of_below hB0).cell_ hbx
  have HB := kept hB0
  clear hB0 hat
  go_enter Tryz.func70, Tryz.ntmps70
  go_wp2
  generalize (w.alloc (.cells #[.int .i64 0, .int .i64 0, .bool false, .int .i64 0, .int .i64 0] 124)).alloc (.cells #[.int .i64 0, .int .i64 0, .bool false, .int .i64 0, .int .i64 0] 124) = W0 at HK1 HK2 HAT HB hbx ⊢
  have H0 : Hid (Turned W0 W0 (fun j => j = w.heap.size + 1) ∧ ∃ y : En5, Blk W0 (w.heap.size + 1) 124 y.cells) := kept ⟨Turned.refl _ _, ⟨0, 0, false, 0, 0⟩, HK2.out⟩
  clear hbx
  go_loopw [16, 7] (fun i o wr => ∃ (j : Nat) (ok : Bool), j ≤ n ∧ i = .int .i64 (j : Int) ∧ o = .bool ok ∧ Hid (Turned W0 wr (fun j => j = w.heap.size + 1) ∧ ∃ y : En5, Blk wr (w.heap.size + 1) 124 y.cells)) (fun i _ _ => n - (intOf i).toNat)
  case atStart => exact ⟨0, false, Nat.zero_le _, rfl, rfl, H0⟩
  case round =>
    obtain ⟨j, ok, hj, rfl, rfl, HI⟩ := hrel
    clear H0
    obtain ⟨htw, y, hy⟩ := HI.out
    by_cases hjn : j < n
    · obtain ⟨g, x, hA, hgl, c0, c1, c2, c3, c4⟩ := HAT.out j hjn
      subst hA
      have hgb : g ≠ w.heap.size + 1 := by omega
      have hgl0 : g < W0.heap.size := Nat.lt_of_lt_of_le hgl HB.out.size
      have hgk : ∀ (o : Nat) (v : Value), w.cell? ⟨g, o, none⟩ = some v → wr.cell? ⟨g, o, none⟩ = some v := fun o v hc => (World.cell?_of_block (htw.block g hgl0 hgb)).trans ((Keeps.of_below HB.out).cell_ hc)
      replace c0 := hgk _ _ c0
      replace c1 := hgk _ _ c1
      replace c2 := hgk _ _ c2
      replace c3 := hgk _ _ c3
      replace c4 := hgk _ _ c4
      have hj0 : (0 : Int) ≤ (j : Int) := by omega
      have hjn' : (j : Int) < (n : Int) := by omega
      have hwj : wrap64 ((j : Int) + 1) = (j : Int) + 1 := IntWalk.wrap64_in _ ⟨by omega, by omega⟩
      have hba : Below wr.heap.size wr (wr.alloc (.cells #[.int .i64 x.a, .int .i64 x.b, .bool x.t, .int .i64 x.c, .int .i64 x.v] 124)) := (Below.refl _ wr).alloc (Nat.le_refl _) _
      have hx := Blk.new wr 124 #[.int .i64 x.a, .int .i64 x.b, .bool x.t, .int .i64 x.c, .int .i64 x.v]
      have hy2 := hy.alloc (.cells #[.int .i64 x.a, .int .i64 x.b, .bool x.t, .int .i64 x.c, .int .i64 x.v] 124)
      have htw2 := htw.alloc (.cells #[.int .i64 x.a, .int .i64 x.b, .bool x.t, .int .i64 x.c, .int .i64 x.v] 124)
      have hne : w.heap.size + 1 ≠ wr.heap.size := Nat.ne_of_lt hy.lt
      clear hgb hgl0 hgk hgl htw hy HI hba
      go_upto_region 5 with fail
      generalize wr.alloc (.cells #[.int .i64 x.a, .int .i64 x.b, .bool x.t, .int .i64 x.c, .int .i64 x.v] 124) = Wa at hx hy2 htw2 ⊢
      clear c0 c1 c2 c3 c4
      obtain ⟨x0, x1, x2, x3, x4⟩ : Wa.cell? ⟨wr.heap.size, 0, none⟩ = some (.int .i64 x.a) ∧ Wa.cell? ⟨wr.heap.size, 1, none⟩ = some (.int .i64 x.b) ∧ Wa.cell? ⟨wr.heap.size, 2, none⟩ = some (.bool x.t) ∧ Wa.cell? ⟨wr.heap.size, 3, none⟩ = some (.int .i64 x.c) ∧ Wa.cell? ⟨wr.heap.size, 4, none⟩ = some (.int .i64 x.v) := ⟨hx.cell 0, hx.cell 1, hx.cell 2, hx.cell 3, hx.cell 4⟩
      obtain ⟨q0, q1, q2, q3, q4⟩ : Wa.cell? ⟨w.heap.size + 1, 0, none⟩ = some (.int .i64 y.a) ∧ Wa.cell? ⟨w.heap.size + 1, 1, none⟩ = some (.int .i64 y.b) ∧ Wa.cell? ⟨w.heap.size + 1, 2, none⟩ = some (.bool y.t) ∧ Wa.cell? ⟨w.heap.size + 1, 3, none⟩ = some (.int .i64 y.c) ∧ Wa.cell? ⟨w.heap.size + 1, 4, none⟩ = some (.int .i64 y.v) := ⟨hy2.cell 0, hy2.cell 1, hy2.cell 2, hy2.cell 3, hy2.cell 4⟩
      have f0 := hy2.frozen 0
      have f1 := hy2.frozen 1
      have f2 := hy2.frozen 2
      have f3 := hy2.frozen 3
      have f4 := hy2.frozen 4
      have HY := kept (And.intro htw2 (And.intro hy2 (And.intro hjn (And.intro hne hx))))
      clear hx hy2 htw2 hjn hj
      by_cases hle : x.a ≤ at_
      · go_upto_region 7 with fail
        obtain ⟨htw2, hy2, hjn, hne, hx⟩ := HY.out
        have hk := ((((hy2.set_ 0 (.int .i64 x.a)).set_ 1 (.int .i64 x.b)).set_ 2 (.bool x.t)).set_ 3 (.int .i64 x.c)).set_ 4 (.int .i64 x.v)
        have ht := ((((htw2.setCell (p := ⟨w.heap.size + 1, 0, none⟩) (fun _ => rfl) (.int .i64 x.a)).setCell (p := ⟨w.heap.size + 1, 1, none⟩) (fun _ => rfl) (.int .i64 x.b)).setCell (p := ⟨w.heap.size + 1, 2, none⟩) (fun _ => rfl) (.bool x.t)).setCell (p := ⟨w.heap.size + 1, 3, none⟩) (fun _ => rfl) (.int .i64 x.c)).setCell (p := ⟨w.heap.size + 1, 4, none⟩) (fun _ => rfl) (.int .i64 x.v)
        have hx2 := ((((hx.far (p := ⟨w.heap.size + 1, 0, none⟩) hne.symm (.int .i64 x.a)).far (p := ⟨w.heap.size + 1, 1, none⟩) hne.symm (.int .i64 x.b)).far (p := ⟨w.heap.size + 1, 2, none⟩) hne.symm (.bool x.t)).far (p := ⟨w.heap.size + 1, 3, none⟩) hne.symm (.int .i64 x.c)).far (p := ⟨w.heap.size + 1, 4, none⟩) hne.symm (.int .i64 x.v)
        clear q0 q1 q2 q3 q4 f0 f1 f2 f3 f4 x0 x1 x2 x3 x4
        generalize ((((Wa.setCell ⟨w.heap.size + 1, 0, none⟩ (.int .i64 x.a)).setCell ⟨w.heap.size + 1, 1, none⟩ (.int .i64 x.b)).setCell ⟨w.heap.size + 1, 2, none⟩ (.bool x.t)).setCell ⟨w.heap.size + 1, 3, none⟩ (.int .i64 x.c)).setCell ⟨w.heap.size + 1, 4, none⟩ (.int .i64 x.v) = X at hk ht hx2 ⊢
        have z2 : X.cell? ⟨wr.heap.size, 2, none⟩ = some (.bool x.t) := hx2.cell 2
        have HQ : Hid ((Turned W0 X (fun j => j = w.heap.size + 1)) ∧ ∃ y : En5, Blk X (w.heap.size + 1) 124 y.cells) := kept ⟨ht, x, hk⟩
        have HJ := kept hjn
        clear hk ht hx2 hx hy2 htw2 hjn hne HY
        go_wp2
        exact ⟨⟨j + 1, _, by have := HJ.out; omega, by simp, rfl, HQ⟩, by have := HJ.out; simp [intOf]; omega⟩
      · have hlt : ¬ x.a ≤ at_ := hle
        have HQ : Hid ((Turned W0 Wa (fun j => j = w.heap.size + 1)) ∧ ∃ y : En5, Blk Wa (w.heap.size + 1) 124 y.cells) := kept ⟨HY.out.1, y, HY.out.2.1⟩
        go_wp2
        exact ⟨⟨j + 1, _, by have := HY.out.2.2.1; omega, by simp, rfl, HQ⟩, by have := HY.out.2.2.1; simp [intOf]; omega⟩
    · obtain rfl : j = n := by omega
      have hk1 := htw.blk HK1.out (by omega)
      have hbw := ((Turned.of_below HB.out (fun _ => False)).chain htw (fun j hj e => by omega)).below_
      obtain ⟨q0, q1, q2, q3, q4⟩ : wr.cell? ⟨w.heap.size, 0, none⟩ = some (.int .i64 0) ∧ wr.cell? ⟨w.heap.size, 1, none⟩ = some (.int .i64 0) ∧ wr.cell? ⟨w.heap.size, 2, none⟩ = some (.bool false) ∧ wr.cell? ⟨w.heap.size, 3, none⟩ = some (.int .i64 0) ∧ wr.cell? ⟨w.heap.size, 4, none⟩ = some (.int .i64 0) := ⟨hk1.cell 0, hk1.cell 1, hk1.cell 2, hk1.cell 3, hk1.cell 4⟩
      obtain ⟨y0, y1, y2, y3, y4⟩ : wr.cell? ⟨w.heap.size + 1, 0, none⟩ = some (.int .i64 y.a) ∧ wr.cell? ⟨w.heap.size + 1, 1, none⟩ = some (.int .i64 y.b) ∧ wr.cell? ⟨w.heap.size + 1, 2, none⟩ = some (.bool y.t) ∧ wr.cell? ⟨w.heap.size + 1, 3, none⟩ = some (.int .i64 y.c) ∧ wr.cell? ⟨w.heap.size + 1, 4, none⟩ = some (.int .i64 y.v) := ⟨hy.cell 0, hy.cell 1, hy.cell 2, hy.cell 3, hy.cell 4⟩
      have f0 := hk1.frozen 0
      have f1 := hk1.frozen 1
      have f2 := hk1.frozen 2
      have f3 := hk1.frozen 3
      have f4 := hk1.frozen 4
      have HX := kept (And.intro hk1 hbw)
      clear hk1 hbw htw hy HI
      cases ok
      · go_wp2
        have hx2 := gstore5 HX.out.1 HX.out.2 (Nat.le_refl _) (.int .i64 0) (.int .i64 0) (.bool false) (.int .i64 0) (.int .i64 0)
        generalize ((((wr.setCell ⟨w.heap.size, 0, none⟩ (.int .i64 0)).setCell ⟨w.heap.size, 1, none⟩ (.int .i64 0)).setCell ⟨w.heap.size, 2, none⟩ (.bool false)).setCell ⟨w.heap.size, 3, none⟩ (.int .i64 0)).setCell ⟨w.heap.size, 4, none⟩ (.int .i64 0) = X at hx2 ⊢
        obtain ⟨hbk, hbx, _⟩ := hx2
        have v0 : X.cell? ⟨w.heap.size, 0, none⟩ = some (.int .i64 0) := hbk.cell 0
        have v1 : X.cell? ⟨w.heap.size, 1, none⟩ = some (.int .i64 0) := hbk.cell 1
        have v2 : X.cell? ⟨w.heap.size, 2, none⟩ = some (.bool false) := hbk.cell 2
        have v3 : X.cell? ⟨w.heap.size, 3, none⟩ = some (.int .i64 0) := hbk.cell 3
        have v4 : X.cell? ⟨w.heap.size, 4, none⟩ = some (.int .i64 0) := hbk.cell 4
        exact bodyPost_ret (v := .tuple #[.agg #[.int .i64 0, .int .i64 0, .bool false, .int .i64 0, .int .i64 0], .bool false]) (by simp [results, Tryz.results70, go_sem, v0, v1, v2, v3, v4]) rfl ⟨⟨0, 0, false, 0, 0⟩, false, rfl, hbx⟩
      · go_wp2
        have hx2 := gstore5 HX.out.1 HX.out.2 (Nat.le_refl _) (.int .i64 y.a) (.int .i64 y.b) (.bool y.t) (.int .i64 y.c) (.int .i64 y.v)
        generalize ((((wr.setCell ⟨w.heap.size, 0, none⟩ (.int .i64 y.a)).setCell ⟨w.heap.size, 1, none⟩ (.int .i64 y.b)).setCell ⟨w.heap.size, 2, none⟩ (.bool y.t)).setCell ⟨w.heap.size, 3, none⟩ (.int .i64 y.c)).setCell ⟨w.heap.size, 4, none⟩ (.int .i64 y.v) = X at hx2 ⊢
        obtain ⟨hbk, hbx, _⟩ := hx2
        have v0 : X.cell? ⟨w.heap.size, 0, none⟩ = some (.int .i64 y.a) := hbk.cell 0
        have v1 : X.cell? ⟨w.heap.size, 1, none⟩ = some (.int .i64 y.b) := hbk.cell 1
        have v2 : X.cell? ⟨w.heap.size, 2, none⟩ = some (.bool y.t) := hbk.cell 2
        have v3 : X.cell? ⟨w.heap.size, 3, none⟩ = some (.int .i64 y.c) := hbk.cell 3
        have v4 : X.cell? ⟨w.heap.size, 4, none⟩ = some (.int .i64 y.v) := hbk.cell 4
        exact bodyPost_ret (v := .tuple #[enV y, .bool true]) (by simp [results, Tryz.results70, go_sem, v0, v1, v2, v3, v4]) rfl ⟨y, true, rfl, hbx⟩
theorem rget_any {w : World} {B b n : Nat} (h : RF w B b n) (hn : n ≤ 1000000) (at_ : Int) :
    Calls Tryz.prog 70 #[.pointer (some ⟨b, 0, none⟩), .int .i64 at_] w (RLast w) := rget_at h.at_ hn at_
/-- What Compact leaves. -/
def RCmp (w : World) (B b n : Nat) (e : Ending) (w' : World) : Prop := ∃ (r1 r2 : Int) (ok : Bool) (n' : Nat), e = .returned (.tuple #[.agg #[.int .i64 r1, .int .i64 r2], .bool ok]) ∧ RF w' B b n' ∧ n' ≤ n + 1 ∧ TurnR B w w'
/-- The row that Compact builds: m entries of its own, at most so many. -/
def ROut (M : Nat) (Ao : Option Addr) (no co lim : Nat) (W0 wr : World) : Prop := (∃ I : List En5, I.length = no ∧ wr.ownsRow M 124 5 (.slice Ao no co) no (renC I)) ∧ no ≤ lim ∧ Below M W0 wr
set_option maxRecDepth 100000 in
set_option maxHeartbeats 4000000 in
theorem rcompact_any {w : World} {B b n : Nat} (h : RF w B b n) (hn : n ≤ 900000) (at_ : Int) :
    Calls Tryz.prog 72 #[.pointer (some ⟨b, 0, none⟩), .int .i64 at_] w (RCmp w B b n) := by
  have hB0 := (Below.refl w.heap.size w).alloc (Nat.le_refl _) (.cells #[.int .i64 0, .int .i64 0] 29)
  have HK := kept (Blk.new w 29 #[.int .i64 0, .int .i64 0])
  have H0 := kept (h.below hB0)
  have HG := kept (rget_any H0.out (by omega) at_)
  have HB := kept hB0
  have HH := kept h
  clear hB0 h
  go_enter Tryz.func72, Tryz.ntmps72
  go_wp2_with fail
  generalize w.alloc (.cells #[.int .i64 0, .int .i64 0] 29) = W0 at HK H0 HG HB ⊢
  with_reducible refine HG.out.mono ?_
  rintro e w1 ⟨x, ok, rfl, hb⟩
  have hbW : Below w1.heap.size w1 ((w1.alloc (.cells #[.int .i64 x.a, .int .i64 x.b, .bool x.t, .int .i64 x.c, .int .i64 x.v] 124)).alloc (.cells #[] 124)) := ((Below.refl _ w1).alloc (Nat.le_refl _) _).alloc (by simp) _
  have hx : Blk ((w1.alloc (.cells #[.int .i64 x.a, .int .i64 x.b, .bool x.t, .int .i64 x.c, .int .i64 x.v] 124)).alloc (.cells #[] 124)) w1.heap.size 124 x.cells := (Blk.new w1 124 #[.int .i64 x.a, .int .i64 x.b, .bool x.t, .int .i64 x.c, .int .i64 x.v]).alloc _
  have he := ren_empty (M := w1.heap.size + 1) (X := w1.alloc (.cells #[.int .i64 x.a, .int .i64 x.b, .bool x.t, .int .i64 x.c, .int .i64 x.v] 124)) (t := 124) (by simp) rfl
  rw [World.size_alloc] at he
  have h1 := (H0.out.below hb).below hbW
  have hk1 := (HK.out.below hb HK.out.lt).below hbW (HK.out.below hb HK.out.lt).lt
  have hb1 := bel_to hbW (bel_to hb HB.out)
  go_upto_region 3 with fail
  generalize (w1.alloc (.cells #[.int .i64 x.a, .int .i64 x.b, .bool x.t, .int .i64 x.c, .int .i64 x.v] 124)).alloc (.cells #[] 124) = W2 at hbW hx he h1 hk1 hb1 ⊢
  have hsz2 : w1.heap.size + 1 ≤ W2.heap.size := by have := (gown_lt he (g := w1.heap.size + 1) rfl).2; omega
  have HW2 := kept (And.intro hx (And.intro he (And.intro h1 (And.intro hk1 (And.intro hb1 (And.intro hbW hsz2))))))
  have HB1 := kept hb
  clear hbW hx he h1 hk1 hb1 hb
  cases ok
  · have HOUT : Hid (ROut (w1.heap.size + 1) (some ⟨w1.heap.size + 1, 0, none⟩) 0 0 (0 + 1) W2 W2) := kept ⟨⟨[], rfl, HW2.out.2.1⟩, by omega, Below.refl _ _⟩
    obtain ⟨A, k, hbx0, hat⟩ := H0.out.at_
    have HAT := kept hat
    have HKP := kept (show Keeps W0 W2 from ⟨by have := HW2.out.2.2.2.2.2.2; have := HB1.out.size; omega, fun p hp => ((Keeps.of_below HW2.out.2.2.2.2.2.1).2 p (Nat.lt_of_lt_of_le hp HB1.out.size)).trans ((Keeps.of_below HB1.out).2 p hp)⟩)
    have HM := kept (show ∀ (W : World) (p : Addr), Below (w1.heap.size + 1) W2 W → p.block < W0.heap.size → W.cell? p = W0.cell? p from fun W p hbe hp => (hbe.cell (by have := HB1.out.size; omega)).trans (HKP.out.2 p hp))
    have hbl : b < W0.heap.size := by obtain ⟨A, k, I, h1, _⟩ := H0.out; exact h1.lt
    have hbx : W2.cell? ⟨b, 0, none⟩ = some (.slice A n k) := (HM.out W2 _ HOUT.out.2.2 hbl).trans hbx0
    clear hbx0 hat hbl
    go_wp2
    go_loopw [28, 8] (fun i o wr => ∃ (j : Nat) (Ao : Option Addr) (no co : Nat), j ≤ n ∧ i = .int .i64 (j : Int) ∧ o = .slice Ao no co ∧ Hid (ROut (w1.heap.size + 1) Ao no co (j + 1) W2 wr)) (fun i _ _ => n - (intOf i).toNat)
    case atStart => exact ⟨0, _, _, _, Nat.zero_le _, rfl, rfl, HOUT⟩
    case round =>
      obtain ⟨j, Ao, no, co, hj, rfl, rfl, HI⟩ := hrel
      clear hbx HOUT
      obtain ⟨⟨I, hIl, hown⟩, hno, hbe⟩ := HI.out
      by_cases hjn : j < n
      · obtain ⟨g, y, hA, hgl, c0, c1, c2, c3, c4⟩ := HAT.out j hjn
        subst hA
        replace c0 := (HM.out wr ⟨g, j * 5, none⟩ hbe hgl).trans c0
        replace c1 := (HM.out wr ⟨g, j * 5 + 1, none⟩ hbe hgl).trans c1
        replace c2 := (HM.out wr ⟨g, j * 5 + 2, none⟩ hbe hgl).trans c2
        replace c3 := (HM.out wr ⟨g, j * 5 + 3, none⟩ hbe hgl).trans c3
        replace c4 := (HM.out wr ⟨g, j * 5 + 4, none⟩ hbe hgl).trans c4
        have hj0 : (0 : Int) ≤ (j : Int) := by omega
        have hjn' : (j : Int) < (n : Int) := by omega
        have hwj : wrap64 ((j : Int) + 1) = (j : Int) + 1 := IntWalk.wrap64_in _ ⟨by omega, by omega⟩
        have hMw : w1.heap.size + 1 ≤ wr.heap.size := Nat.le_trans HW2.out.2.2.2.2.2.2 hbe.size
        have hba : Below wr.heap.size wr (wr.alloc (.cells #[.int .i64 y.a, .int .i64 y.b, .bool y.t, .int .i64 y.c, .int .i64 y.v] 124)) := (Below.refl _ wr).alloc (Nat.le_refl _) _
        by_cases hgt : at_ < y.a
        · have hn2b : no + 1 ≤ 3000000 := by omega
          have hba2 : Below wr.heap.size wr ((wr.alloc (.cells #[.int .i64 y.a, .int .i64 y.b, .bool y.t, .int .i64 y.c, .int .i64 y.v] 124)).alloc (.cells #[.int .i64 y.a, .int .i64 y.b, .bool y.t, .int .i64 y.c, .int .i64 y.v] 124)) := hba.alloc (by simp) _
          have hbk : Blk ((wr.alloc (.cells #[.int .i64 y.a, .int .i64 y.b, .bool y.t, .int .i64 y.c, .int .i64 y.v] 124)).alloc (.cells #[.int .i64 y.a, .int .i64 y.b, .bool y.t, .int .i64 y.c, .int .i64 y.v] 124)) (wr.heap.size + 1) 124 y.cells := by
            have := Blk.new (wr.alloc (.cells #[.int .i64 y.a, .int .i64 y.b, .bool y.t, .int .i64 y.c, .int .i64 y.v] 124)) 124 #[.int .i64 y.a, .int .i64 y.b, .bool y.t, .int .i64 y.c, .int .i64 y.v]
            rwa [World.size_alloc] at this
          have HY := kept (And.intro (gown_turned hown (Turned.of_below hba2 (fun _ => False)) (fun _ _ e => e)) (And.intro hbk (Nat.le_trans hMw hba2.size)))
          have HY2 := kept (And.intro hIl (And.intro hno (And.intro (hbe.trans (hba2.mono hMw)) hjn)))
          clear hIl hown hno hbe hgl hMw hba hba2 hbk HI hj hjn
          go_wp2_with (first | (at_builtin; refine wpList_append_g rfl _ _ 116 rfl 124 ⟨wr.heap.size + 1, 0, none⟩ rfl rfl Tryz.underlying116 reninfo rfl (by decide) (by decide) HY.out.1 (ys := [.int .i64 y.a, .int .i64 y.b, .bool y.t, .int .i64 y.c, .int .i64 y.v]) rfl (fun j u hj => by rw [gadd_at, Nat.zero_add]; exact (HY.out.2.1.cell j).trans hj) (by intro u hu; simp only [List.mem_cons, List.not_mem_nil, or_false] at hu; rcases hu with rfl | rfl | rfl | rfl | rfl <;> rfl) (by exact hn2b) HY.out.2.2 ?_; intro A8 c8 w8 h8 g8 loc8; have H8 := kept (And.intro h8 g8); clear h8 g8 loc8))
          have HQ : Hid (ROut (w1.heap.size + 1) A8 (no + 1) c8 (j + 1 + 1) W2 w8) := kept ⟨⟨I ++ [y], by simp [HY2.out.1], by rw [renC_append]; exact H8.out.1⟩, by have := HY2.out.2.1; omega, HY2.out.2.2.1.grown H8.out.2 HY.out.2.2 (fun q hq => (gown_lt HY.out.1 hq).1)⟩
          have HJ := kept HY2.out.2.2.2
          clear HY HY2 H8 c0 c1 c2 c3 c4
          go_roundw
          case rel => exact ⟨j + 1, A8, no + 1, c8, by have := HJ.out; omega, by go_num, rfl, HQ⟩
          case measure => have := HJ.out; simp [intOf]; omega
        · have hgt' : ¬ at_ < y.a := hgt
          have HQ : Hid (ROut (w1.heap.size + 1) Ao no co (j + 1 + 1) W2 (wr.alloc (.cells #[.int .i64 y.a, .int .i64 y.b, .bool y.t, .int .i64 y.c, .int .i64 y.v] 124))) := kept ⟨⟨I, hIl, gown_turned hown (Turned.of_below hba (fun _ => False)) (fun _ _ e => e)⟩, by omega, hbe.trans (hba.mono hMw)⟩
          have HJ := kept hjn
          clear hIl hown hno hbe hgl hMw hba HI hj hjn
          go_wp2
          go_roundw
          case rel => exact ⟨j + 1, Ao, no, co, by have := HJ.out; omega, by go_num, rfl, HQ⟩
          case measure => have := HJ.out; simp [intOf]; omega
      · obtain rfl : j = n := by omega
        have hbl := H0.out
        obtain ⟨hxb, he, h1, hk1, hb1, hbW, hsz⟩ := HW2.out
        have hb1s := HB1.out.size
        have hbo : b < w1.heap.size + 1 := by obtain ⟨A, k, I, h2, _⟩ := H0.out; have := h2.lt; omega
        have hws : w.heap.size < w1.heap.size + 1 := by have := HB.out.size; have := HK.out.lt; omega
        obtain ⟨cb, hcb⟩ : ∃ cb, Blk wr b 118 [cb] := by obtain ⟨A, k, I, h2, _⟩ := h1; exact ⟨_, h2.below hbe hbo⟩
        have hxw := hxb.below hbe (Nat.lt_succ_self _)
        have hkw := hk1.below hbe hws
        have hbw : Below w.heap.size w wr := hb1.trans (hbe.mono (Nat.le_of_lt hws))
        have hbn : b < w.heap.size := by obtain ⟨A, k, I, h2, _⟩ := HH.out; exact h2.lt
        have b0 : wr.cell? ⟨b, 0, none⟩ = some cb := hcb.cell 0
        have fb := hcb.frozen 0
        have y0 : wr.cell? ⟨w1.heap.size, 0, none⟩ = some (.int .i64 x.a) := hxw.cell 0
        have y1 : wr.cell? ⟨w1.heap.size, 1, none⟩ = some (.int .i64 x.b) := hxw.cell 1
        have q0 : wr.cell? ⟨w.heap.size, 0, none⟩ = some (.int .i64 0) := hkw.cell 0
        have q1 : wr.cell? ⟨w.heap.size, 1, none⟩ = some (.int .i64 0) := hkw.cell 1
        have f0 := hkw.frozen 0
        have f1 := hkw.frozen 1
        have hne1 : b ≠ w1.heap.size := by obtain ⟨A, k, I, h2, _⟩ := H0.out; have := h2.lt; omega
        have hne2 : b ≠ w.heap.size := by omega
        have hne3 : w1.heap.size ≠ b := hne1.symm
        have hne4 : w.heap.size ≠ b := hne2.symm
        have hown2 : ∀ q, (Value.slice Ao no co).ownBlock = some q → w1.heap.size + 1 ≤ q := fun q hq => (gown_lt hown hq).1
        have HF := kept (And.intro hcb (And.intro hkw (And.intro hbw (And.intro hown (And.intro hIl (And.intro hno (And.intro hown2 (And.intro hbo (And.intro hws hbn)))))))))
        have HTB : Hid (OfT B w b) := kept (by obtain ⟨A, k, I, h2, _⟩ := HH.out; exact ⟨HH.out.le, _, _, _, h2, .inl rfl⟩)
        clear hbl hxb he h1 hk1 hb1 hbW hsz hb1s hbo hws hcb hxw hkw hbw hown hIl hno hown2 hbe HI hbn
        go_wp2
        obtain ⟨hcb, hkw, hbw, hown, hIl, hno, hown2, hbo, hws, hbn⟩ := HF.out
        have k1 := (hcb.set_ 0 (.slice Ao no co)).far (p := ⟨w.heap.size, 0, none⟩) hne2 (.int .i64 x.a) |>.far (p := ⟨w.heap.size, 1, none⟩) hne2 (.int .i64 x.b)
        have k2 := ((hkw.far (p := ⟨b, 0, none⟩) hne4 (.slice Ao no co)).set_ 0 (.int .i64 x.a)).set_ 1 (.int .i64 x.b)
        have tX : Turned w (((wr.setCell ⟨b, 0, none⟩ (.slice Ao no co)).setCell ⟨w.heap.size, 0, none⟩ (.int .i64 x.a)).setCell ⟨w.heap.size, 1, none⟩ (.int .i64 x.b)) (OfT B w) := (((Turned.of_below hbw (OfT B w)).setCell (p := ⟨b, 0, none⟩) (fun _ => HTB.out) _).setCell (p := ⟨w.heap.size, 0, none⟩) (fun h => absurd h (Nat.lt_irrefl _)) _).setCell (p := ⟨w.heap.size, 1, none⟩) (fun h => absurd h (Nat.lt_irrefl _)) _
        have tY : Turned wr (((wr.setCell ⟨b, 0, none⟩ (.slice Ao no co)).setCell ⟨w.heap.size, 0, none⟩ (.int .i64 x.a)).setCell ⟨w.heap.size, 1, none⟩ (.int .i64 x.b)) (fun j => j = b ∨ j = w.heap.size) := (((Turned.refl wr (fun j => j = b ∨ j = w.heap.size)).setCell (p := ⟨b, 0, none⟩) (fun _ => .inl rfl) _).setCell (p := ⟨w.heap.size, 0, none⟩) (fun _ => .inr rfl) _).setCell (p := ⟨w.heap.size, 1, none⟩) (fun _ => .inr rfl) _
        generalize ((wr.setCell ⟨b, 0, none⟩ (.slice Ao no co)).setCell ⟨w.heap.size, 0, none⟩ (.int .i64 x.a)).setCell ⟨w.heap.size, 1, none⟩ (.int .i64 x.b) = X at k1 k2 tX tY ⊢
        have hoX := gown_turned hown tY (fun q hq e => by have := hown2 q hq; rcases e with e | e <;> omega)
        have v0 : X.cell? ⟨w.heap.size, 0, none⟩ = some (.int .i64 x.a) := k2.cell 0
        have v1 : X.cell? ⟨w.heap.size, 1, none⟩ = some (.int .i64 x.b) := k2.cell 1
        exact bodyPost_ret (v := .tuple #[.agg #[.int .i64 x.a, .int .i64 x.b], .bool false]) (by simp [results, Tryz.results72, go_sem, v0, v1]) rfl ⟨x.a, x.b, false, no, rfl, ⟨Ao, co, I, k1, own_mono3 hoX (by have := HH.out.le; omega), hIl, HH.out.le⟩, hno, tX⟩
  · obtain ⟨A, k, hbx0, hat⟩ := H0.out.at_
    have HAT := kept hat
    have HKP := kept (show Keeps W0 W2 from ⟨by have := HW2.out.2.2.2.2.2.2; have := HB1.out.size; omega, fun p hp => ((Keeps.of_below HW2.out.2.2.2.2.2.1).2 p (Nat.lt_of_lt_of_le hp HB1.out.size)).trans ((Keeps.of_below HB1.out).2 p hp)⟩)
    have HM := kept (show ∀ (W : World) (p : Addr), Below (w1.heap.size + 1) W2 W → p.block < W0.heap.size → W.cell? p = W0.cell? p from fun W p hbe hp => (hbe.cell (by have := HB1.out.size; omega)).trans (HKP.out.2 p hp))
    have hbl : b < W0.heap.size := by obtain ⟨A, k, I, h1, _⟩ := H0.out; exact h1.lt
    obtain ⟨x0, x1, x2, x3, x4⟩ : W2.cell? ⟨w1.heap.size, 0, none⟩ = some (.int .i64 x.a) ∧ W2.cell? ⟨w1.heap.size, 1, none⟩ = some (.int .i64 x.b) ∧ W2.cell? ⟨w1.heap.size, 2, none⟩ = some (.bool x.t) ∧ W2.cell? ⟨w1.heap.size, 3, none⟩ = some (.int .i64 x.c) ∧ W2.cell? ⟨w1.heap.size, 4, none⟩ = some (.int .i64 x.v) := ⟨HW2.out.1.cell 0, HW2.out.1.cell 1, HW2.out.1.cell 2, HW2.out.1.cell 3, HW2.out.1.cell 4⟩
    have hn2b : 0 + 1 ≤ 3000000 := by omega
    have hba : Below W2.heap.size W2 (W2.alloc (.cells #[.int .i64 x.a, .int .i64 x.b, .bool x.t, .int .i64 x.c, .int .i64 x.v] 124)) := (Below.refl _ W2).alloc (Nat.le_refl _) _
    have HY := kept (And.intro (gown_turned HW2.out.2.1 (Turned.of_below hba (fun _ => False)) (fun _ _ e => e)) (And.intro (Blk.new W2 124 #[.int .i64 x.a, .int .i64 x.b, .bool x.t, .int .i64 x.c, .int .i64 x.v]) (Nat.le_trans HW2.out.2.2.2.2.2.2 hba.size)))
    have HBA := kept (hba.mono HW2.out.2.2.2.2.2.2)
    clear hat hba
    go_wp2_with (first | (at_builtin; refine wpList_append_g rfl _ _ 116 rfl 124 ⟨W2.heap.size, 0, none⟩ rfl rfl Tryz.underlying116 reninfo rfl (by decide) (by decide) HY.out.1 (ys := [.int .i64 x.a, .int .i64 x.b, .bool x.t, .int .i64 x.c, .int .i64 x.v]) rfl (fun j u hj => by rw [gadd_at, Nat.zero_add]; exact (HY.out.2.1.cell j).trans hj) (by intro u hu; simp only [List.mem_cons, List.not_mem_nil, or_false] at hu; rcases hu with rfl | rfl | rfl | rfl | rfl <;> rfl) (by exact hn2b) HY.out.2.2 ?_; intro A8 c8 w8 h8 g8 loc8;  have hbel := HBA.out.grown g8 HY.out.2.2 (fun q hq => (gown_lt HY.out.1 hq).1); have hbx := (HM.out w8 ⟨b, 0, none⟩ hbel hbl).trans hbx0; have HOUT : Hid (ROut (w1.heap.size + 1) A8 1 c8 (0 + 1) W2 w8) := kept ⟨⟨[x], rfl, h8⟩, by omega, hbel⟩; clear h8 g8 loc8 hbel))
    clear x0 x1 x2 x3 x4 HY HBA hbx0 hbl
    go_loopw [28, 8] (fun i o wr => ∃ (j : Nat) (Ao : Option Addr) (no co : Nat), j ≤ n ∧ i = .int .i64 (j : Int) ∧ o = .slice Ao no co ∧ Hid (ROut (w1.heap.size + 1) Ao no co (j + 1) W2 wr)) (fun i _ _ => n - (intOf i).toNat)
    case atStart => exact ⟨0, _, _, _, Nat.zero_le _, rfl, rfl, HOUT⟩
    case round =>
      obtain ⟨j, Ao, no, co, hj, rfl, rfl, HI⟩ := hrel
      clear hbx HOUT
      obtain ⟨⟨I, hIl, hown⟩, hno, hbe⟩ := HI.out
      by_cases hjn : j < n
      · obtain ⟨g, y, hA, hgl, c0, c1, c2, c3, c4⟩ := HAT.out j hjn
        subst hA
        replace c0 := (HM.out wr ⟨g, j * 5, none⟩ hbe hgl).trans c0
        replace c1 := (HM.out wr ⟨g, j * 5 + 1, none⟩ hbe hgl).trans c1
        replace c2 := (HM.out wr ⟨g, j * 5 + 2, none⟩ hbe hgl).trans c2
        replace c3 := (HM.out wr ⟨g, j * 5 + 3, none⟩ hbe hgl).trans c3
        replace c4 := (HM.out wr ⟨g, j * 5 + 4, none⟩ hbe hgl).trans c4
        have hj0 : (0 : Int) ≤ (j : Int) := by omega
        have hjn' : (j : Int) < (n : Int) := by omega
        have hwj : wrap64 ((j : Int) + 1) = (j : Int) + 1 := IntWalk.wrap64_in _ ⟨by omega, by omega⟩
        have hMw : w1.heap.size + 1 ≤ wr.heap.size := Nat.le_trans HW2.out.2.2.2.2.2.2 hbe.size
        have hba : Below wr.heap.size wr (wr.alloc (.cells #[.int .i64 y.a, .int .i64 y.b, .bool y.t, .int .i64 y.c, .int .i64 y.v] 124)) := (Below.refl _ wr).alloc (Nat.le_refl _) _
        by_cases hgt : at_ < y.a
        · have hn2b : no + 1 ≤ 3000000 := by omega
          have hba2 : Below wr.heap.size wr ((wr.alloc (.cells #[.int .i64 y.a, .int .i64 y.b, .bool y.t, .int .i64 y.c, .int .i64 y.v] 124)).alloc (.cells #[.int .i64 y.a, .int .i64 y.b, .bool y.t, .int .i64 y.c, .int .i64 y.v] 124)) := hba.alloc (by simp) _
          have hbk : Blk ((wr.alloc (.cells #[.int .i64 y.a, .int .i64 y.b, .bool y.t, .int .i64 y.c, .int .i64 y.v] 124)).alloc (.cells #[.int .i64 y.a, .int .i64 y.b, .bool y.t, .int .i64 y.c, .int .i64 y.v] 124)) (wr.heap.size + 1) 124 y.cells := by
            have := Blk.new (wr.alloc (.cells #[.int .i64 y.a, .int .i64 y.b, .bool y.t, .int .i64 y.c, .int .i64 y.v] 124)) 124 #[.int .i64 y.a, .int .i64 y.b, .bool y.t, .int .i64 y.c, .int .i64 y.v]
            rwa [World.size_alloc] at this
          have HY := kept (And.intro (gown_turned hown (Turned.of_below hba2 (fun _ => False)) (fun _ _ e => e)) (And.intro hbk (Nat.le_trans hMw hba2.size)))
          have HY2 := kept (And.intro hIl (And.intro hno (And.intro (hbe.trans (hba2.mono hMw)) hjn)))
          clear hIl hown hno hbe hgl hMw hba hba2 hbk HI hj hjn
          go_wp2_with (first | (at_builtin; refine wpList_append_g rfl _ _ 116 rfl 124 ⟨wr.heap.size + 1, 0, none⟩ rfl rfl Tryz.underlying116 reninfo rfl (by decide) (by decide) HY.out.1 (ys := [.int .i64 y.a, .int .i64 y.b, .bool y.t, .int .i64 y.c, .int .i64 y.v]) rfl (fun j u hj => by rw [gadd_at, Nat.zero_add]; exact (HY.out.2.1.cell j).trans hj) (by intro u hu; simp only [List.mem_cons, List.not_mem_nil, or_false] at hu; rcases hu with rfl | rfl | rfl | rfl | rfl <;> rfl) (by exact hn2b) HY.out.2.2 ?_; intro A8 c8 w8 h8 g8 loc8; have H8 := kept (And.intro h8 g8); clear h8 g8 loc8))
          have HQ : Hid (ROut (w1.heap.size + 1) A8 (no + 1) c8 (j + 1 + 1) W2 w8) := kept ⟨⟨I ++ [y], by simp [HY2.out.1], by rw [renC_append]; exact H8.out.1⟩, by have := HY2.out.2.1; omega, HY2.out.2.2.1.grown H8.out.2 HY.out.2.2 (fun q hq => (gown_lt HY.out.1 hq).1)⟩
          have HJ := kept HY2.out.2.2.2
          clear HY HY2 H8 c0 c1 c2 c3 c4
          go_roundw
          case rel => exact ⟨j + 1, A8, no + 1, c8, by have := HJ.out; omega, by go_num, rfl, HQ⟩
          case measure => have := HJ.out; simp [intOf]; omega
        · have hgt' : ¬ at_ < y.a := hgt
          have HQ : Hid (ROut (w1.heap.size + 1) Ao no co (j + 1 + 1) W2 (wr.alloc (.cells #[.int .i64 y.a, .int .i64 y.b, .bool y.t, .int .i64 y.c, .int .i64 y.v] 124))) := kept ⟨⟨I, hIl, gown_turned hown (Turned.of_below hba (fun _ => False)) (fun _ _ e => e)⟩, by omega, hbe.trans (hba.mono hMw)⟩
          have HJ := kept hjn
          clear hIl hown hno hbe hgl hMw hba HI hj hjn
          go_wp2
          go_roundw
          case rel => exact ⟨j + 1, Ao, no, co, by have := HJ.out; omega, by go_num, rfl, HQ⟩
          case measure => have := HJ.out; simp [intOf]; omega
      · obtain rfl : j = n := by omega
        have hbl := H0.out
        obtain ⟨hxb, he, h1, hk1, hb1, hbW, hsz⟩ := HW2.out
        have hb1s := HB1.out.size
        have hbo : b < w1.heap.size + 1 := by obtain ⟨A, k, I, h2, _⟩ := H0.out; have := h2.lt; omega
        have hws : w.heap.size < w1.heap.size + 1 := by have := HB.out.size; have := HK.out.lt; omega
        obtain ⟨cb, hcb⟩ : ∃ cb, Blk wr b 118 [cb] := by obtain ⟨A, k, I, h2, _⟩ := h1; exact ⟨_, h2.below hbe hbo⟩
        have hxw := hxb.below hbe (Nat.lt_succ_self _)
        have hkw := hk1.below hbe hws
        have hbw : Below w.heap.size w wr := hb1.trans (hbe.mono (Nat.le_of_lt hws))
        have hbn : b < w.heap.size := by obtain ⟨A, k, I, h2, _⟩ := HH.out; exact h2.lt
        have b0 : wr.cell? ⟨b, 0, none⟩ = some cb := hcb.cell 0
        have fb := hcb.frozen 0
        have y0 : wr.cell? ⟨w1.heap.size, 0, none⟩ = some (.int .i64 x.a) := hxw.cell 0
        have y1 : wr.cell? ⟨w1.heap.size, 1, none⟩ = some (.int .i64 x.b) := hxw.cell 1
        have q0 : wr.cell? ⟨w.heap.size, 0, none⟩ = some (.int .i64 0) := hkw.cell 0
        have q1 : wr.cell? ⟨w.heap.size, 1, none⟩ = some (.int .i64 0) := hkw.cell 1
        have f0 := hkw.frozen 0
        have f1 := hkw.frozen 1
        have hne1 : b ≠ w1.heap.size := by obtain ⟨A, k, I, h2, _⟩ := H0.out; have := h2.lt; omega
        have hne2 : b ≠ w.heap.size := by omega
        have hne3 : w1.heap.size ≠ b := hne1.symm
        have hne4 : w.heap.size ≠ b := hne2.symm
        have hown2 : ∀ q, (Value.slice Ao no co).ownBlock = some q → w1.heap.size + 1 ≤ q := fun q hq => (gown_lt hown hq).1
        have HF := kept (And.intro hcb (And.intro hkw (And.intro hbw (And.intro hown (And.intro hIl (And.intro hno (And.intro hown2 (And.intro hbo (And.intro hws hbn)))))))))
        have HTB : Hid (OfT B w b) := kept (by obtain ⟨A, k, I, h2, _⟩ := HH.out; exact ⟨HH.out.le, _, _, _, h2, .inl rfl⟩)
        clear hbl hxb he h1 hk1 hb1 hbW hsz hb1s hbo hws hcb hxw hkw hbw hown hIl hno hown2 hbe HI hbn
        go_wp2
        obtain ⟨hcb, hkw, hbw, hown, hIl, hno, hown2, hbo, hws, hbn⟩ := HF.out
        have k1 := (hcb.set_ 0 (.slice Ao no co)).far (p := ⟨w.heap.size, 0, none⟩) hne2 (.int .i64 x.a) |>.far (p := ⟨w.heap.size, 1, none⟩) hne2 (.int .i64 x.b)
        have k2 := ((hkw.far (p := ⟨b, 0, none⟩) hne4 (.slice Ao no co)).set_ 0 (.int .i64 x.a)).set_ 1 (.int .i64 x.b)
        have tX : Turned w (((wr.setCell ⟨b, 0, none⟩ (.slice Ao no co)).setCell ⟨w.heap.size, 0, none⟩ (.int .i64 x.a)).setCell ⟨w.heap.size, 1, none⟩ (.int .i64 x.b)) (OfT B w) := (((Turned.of_below hbw (OfT B w)).setCell (p := ⟨b, 0, none⟩) (fun _ => HTB.out) _).setCell (p := ⟨w.heap.size, 0, none⟩) (fun h => absurd h (Nat.lt_irrefl _)) _).setCell (p := ⟨w.heap.size, 1, none⟩) (fun h => absurd h (Nat.lt_irrefl _)) _
        have tY : Turned wr (((wr.setCell ⟨b, 0, none⟩ (.slice Ao no co)).setCell ⟨w.heap.size, 0, none⟩ (.int .i64 x.a)).setCell ⟨w.heap.size, 1, none⟩ (.int .i64 x.b)) (fun j => j = b ∨ j = w.heap.size) := (((Turned.refl wr (fun j => j = b ∨ j = w.heap.size)).setCell (p := ⟨b, 0, none⟩) (fun _ => .inl rfl) _).setCell (p := ⟨w.heap.size, 0, none⟩) (fun _ => .inr rfl) _).setCell (p := ⟨w.heap.size, 1, none⟩) (fun _ => .inr rfl) _
        generalize ((wr.setCell ⟨b, 0, none⟩ (.slice Ao no co)).setCell ⟨w.heap.size, 0, none⟩ (.int .i64 x.a)).setCell ⟨w.heap.size, 1, none⟩ (.int .i64 x.b) = X at k1 k2 tX tY ⊢
        have hoX := gown_turned hown tY (fun q hq e => by have := hown2 q hq; rcases e with e | e <;> omega)
        have v0 : X.cell? ⟨w.heap.size, 0, none⟩ = some (.int .i64 x.a) := k2.cell 0
        have v1 : X.cell? ⟨w.heap.size, 1, none⟩ = some (.int .i64 x.b) := k2.cell 1
        exact bodyPost_ret (v := .tuple #[.agg #[.int .i64 x.a, .int .i64 x.b], .bool true]) (by simp [results, Tryz.results72, go_sem, v0, v1]) rfl ⟨x.a, x.b, true, no, rfl, ⟨Ao, co, I, k1, own_mono3 hoX (by have := HH.out.le; omega), hIl, HH.out.le⟩, hno, tX⟩
end Go.Proofs.YtlckeebbjnhejaaGreat
end
