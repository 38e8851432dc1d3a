/-
  Texts laid together: Kv Kw Kx.
-/
import Derived.Test.YtlckeebbjnhejaaGreatBKn
import Derived.Test.YtlckeebbjnhejaaGreatBBase
import Derived.Deep.DeepCutAuto
import Derived.Test.YtlckeebbjnhejaaGreatBHc
import Derived.BigQuiet
section
/-
  Stage 12's law: an act done on both indexes.
-/
namespace Go.Proofs.YtlckeebbjnhejaaGreat
open Go.ChangeShapes Go.WideShapes Go.ChangeAt Go.RowKit Go.Deep
set_option linter.unusedVariables false
set_option linter.unusedSimpArgs false

/-- What an act leaves. -/
def DoX (w0 W : World) (x : Nat) (F : Nat → Prop) (y N : Nat) (e : Ending) (W' : World) : Prop := ∃ (t : Bool) (F' : Nat → Prop) (l' : Rv) (P' : List PE), e = .returned (.bool t) ∧ Jt w0 W' x F' l' P' y (N + 2) ∧ (∀ j, F' j → F j ∨ W.heap.size ≤ j) ∧ Turned W W' (fun j => (F j ∧ NU W j) ∨ j = y)
/-- The same, in the midst of it. -/
def MidX (w0 W : World) (x : Nat) (F : Nat → Prop) (y N : Nat) (B3 : Option Addr) (n c3 : Nat) (W' : World) : Prop := ∃ (F' : Nat → Prop) (l' : Rv) (P' : List PE), Jt w0 W' x F' l' P' y (N + 2) ∧ (∀ j, F' j → F j ∨ W.heap.size ≤ j) ∧ Turned W W' (fun j => (F j ∧ NU W j) ∨ j = y) ∧ (∃ zs, W'.ownsRow W.heap.size 5 1 (.slice B3 n c3) n (cellsOf zs)) ∧ ∀ j, (Value.slice B3 n c3).ownBlock = some j → ¬ F' j
structure AcV where
  k : Int
  A : Option Addr
  n : Nat
  kc : Nat
  nx : Bool
  m : Int
  s : Int
  c : Int
  v : Int
def AcV.cells (a : AcV) : List Value := [.int .i64 a.k, .slice a.A a.n a.kc, .bool a.nx, .int .i64 a.m, .int .i64 a.s, .int .i64 a.c, .int .i64 a.v]
/-- What stands behind an act's beginning: its own copy of the act, its revision. -/
def StX (W wx : World) (a : AcV) (q : Rv) : Prop := Blk wx (W.heap.size + 1) 29 [.int .i64 q.1, .int .i64 q.2] ∧ Blk wx W.heap.size 52 a.cells ∧ Below W.heap.size W wx
theorem bits_byte2 (y : UInt8) : Value.int .u8 (Go.bits .xor .u8 (y.toNat : Int) 255) = byteV (y ^^^ 255) := by
  have := Go.u8_xor_nat y.toNat 255 y.toNat_lt (by decide)
  rw [show ((255 : Nat) : Int) = 255 from rfl] at this
  rw [this]
  unfold byteV
  rw [UInt8.toNat_xor]
  rfl
/-- The other's call, behind the one's. -/
theorem mid_doc {w0 W W6 W7 : World} {x y N n c3 : Nat} {F F' : Nat → Prop} {l' : Rv} {P' : List PE} {B3 : Option Addr} {zs : List UInt8} (hj : Jt w0 W6 x F' l' P' y (N + 1)) (hF : ∀ j, F' j → F j ∨ W.heap.size ≤ j) (t6 : Turned W W6 (fun j => (F j ∧ NU W j) ∨ j = y)) (own : W6.ownsRow W.heap.size 5 1 (.slice B3 n c3) n (cellsOf zs)) (hn : ∀ j, (Value.slice B3 n c3).ownBlock = some j → ¬ F' j)
    (hr : RX W7 w0.heap.size y (N + 2)) (t7 : Turned W6 W7 (fun j => j = y)) : MidX w0 W x F y N B3 n c3 W7 := by
  obtain ⟨cs, hy⟩ := hj.rx.box
  refine ⟨F', l', P', hj.doc (Nat.le_succ _) hr t7, hF, t6.trans (t7.mono (fun j _ e => .inr e)), ⟨zs, gown_turned own t7 (fun j hj e => ?_)⟩, hn⟩
  obtain ⟨c, hc⟩ := gown_cl (k := 0) own hj
  exact ne_of_types hc hy (by decide) e
theorem MidX.below {w0 W W' W2 : World} {x y N n c3 : Nat} {F : Nat → Prop} {B3 : Option Addr} (h : MidX w0 W x F y N B3 n c3 W') (hb : Below W'.heap.size W' W2) : MidX w0 W x F y N B3 n c3 W2 := by
  obtain ⟨F', l', P', h1, h2, h3, ⟨zs, h4⟩, h5⟩ := h
  exact ⟨F', l', P', h1.below hb, h2, h3.trans (Turned.of_below hb _), ⟨zs, gown_turned h4 (Turned.of_below hb (fun _ => False)) (fun _ _ e => e)⟩, h5⟩
theorem MidX.done {w0 W W' : World} {x y N n c3 : Nat} {F : Nat → Prop} {B3 : Option Addr} (h : MidX w0 W x F y N B3 n c3 W') (t : Bool) : DoX w0 W x F y N (.returned (.bool t)) W' := by
  obtain ⟨F', l', P', h1, h2, h3, _⟩ := h
  exact ⟨t, F', l', P', rfl, h1, h2, h3⟩
/-- One of its own bytes is written. -/
theorem MidX.poke {w0 W W' : World} {x y N n c3 : Nat} {F : Nat → Prop} {B3 : Option Addr} (h : MidX w0 W x F y N B3 n c3 W') {j : Nat} (hj : j < n) (hw : w0.heap.size ≤ W.heap.size) : ∃ g z, B3 = some ⟨g, 0, none⟩ ∧ W'.cell? ⟨g, j, none⟩ = some (byteV z) ∧ W'.frozen? ⟨g, j, none⟩ = false ∧ ∀ v, MidX w0 W x F y N B3 n c3 (W'.setCell ⟨g, j, none⟩ (byteV v)) := by
  obtain ⟨F', l', P', h1, h2, h3, ⟨zs, h4⟩, h5⟩ := h
  obtain ⟨g, rfl, hgb, _, _, _, hc⟩ := gown_at h4 (by omega)
  have hl : zs.length = n := by have := h4.1; rw [cellsOf_length] at this; omega
  obtain ⟨cur, hcur⟩ := gown_cl (k := 0) h4 (g := g) rfl
  refine ⟨g, zs[j], rfl, hc j _ (by rw [cellsOf, List.getElem?_map, List.getElem?_eq_getElem (by omega)]; rfl), gfrozen_ hcur j, fun v => ⟨F', l', P', h1.poke hcur (h5 g rfl) (Nat.le_trans hw hgb) j v, h2, h3.setCell (p := ⟨g, j, none⟩) (fun hlt => by have : g < W.heap.size := hlt; omega) _, ⟨zs.set j v, by rw [← cellsOf_set]; exact gown_set h4 j (byteV v)⟩, h5⟩⟩
set_option maxRecDepth 100000 in
set_option maxHeartbeats 8000000 in
theorem doX_any {w0 W : World} {x : Nat} {F : Nat → Prop} {l : Rv} {P : List PE} {y N : Nat} (h : Jt w0 W x F l P y N) (hN : N ≤ 700000) (a : AcV) (xs : List UInt8) (hrd : Rd w0 a.A a.n xs) (hn : a.n ≤ 100) :
    Calls Tryz.prog 21 #[.pointer (some ⟨x, 0, none⟩), .pointer (some ⟨y, 0, none⟩), .agg #[.int .i64 a.k, .slice a.A a.n a.kc, .bool a.nx, .int .i64 a.m, .int .i64 a.s, .int .i64 a.c, .int .i64 a.v]] W (DoX w0 W x F y N) := by
  obtain ⟨k, A, n, kc, nx, m, s, c, v⟩ := a
  have hn : n ≤ 100 := hn
  have HJ := kept h
  have HR := kept hrd
  have HB0 := kept (((Below.refl W.heap.size W).alloc (Nat.le_refl _) (.cells #[.int .i64 k, .slice A n kc, .bool nx, .int .i64 m, .int .i64 s, .int .i64 c, .int .i64 v] 52)).alloc (by simp) (.cells #[.int .i64 m, .int .i64 s] 29))
  have HA0 := kept ((Blk.new W 52 #[.int .i64 k, .slice A n kc, .bool nx, .int .i64 m, .int .i64 s, .int .i64 c, .int .i64 v]).alloc (.cells #[.int .i64 m, .int .i64 s] 29))
  have hr0 := Blk.new (W.alloc (.cells #[.int .i64 k, .slice A n kc, .bool nx, .int .i64 m, .int .i64 s, .int .i64 c, .int .i64 v] 52)) 29 #[.int .i64 m, .int .i64 s]
  rw [World.size_alloc] at hr0
  have HR0 := kept hr0
  clear hr0 h hrd
  go_enter Tryz.func21, Tryz.ntmps21
  go_upto_region 2 with fail
  generalize (W.alloc (.cells #[.int .i64 k, .slice A n kc, .bool nx, .int .i64 m, .int .i64 s, .int .i64 c, .int .i64 v] 52)).alloc (.cells #[.int .i64 m, .int .i64 s] 29) = W2 at HB0 HA0 HR0 ⊢
  have HJ2 := kept (HJ.out.below HB0.out)
  obtain ⟨Ay, ny, ky, ym, ys, Ks, hy⟩ := HJ2.out.rx
  have HY := kept hy
  clear hy
  go_cut [24] (fun t wx => ∃ b : Bool, t = .bool b ∧ wx = W2)
  case first =>
    have a2 : W2.cell? ⟨W.heap.size, 2, none⟩ = some (.bool nx) := HA0.out.cell 2
    have y1 : W2.cell? ⟨y, 1, none⟩ = some (.int .i64 ym) := HY.out.box.cell 1
    cases nx with
    | false =>
      go_wp2_with fail
      go_meet
      exact ⟨false, rfl, rfl⟩
    | true =>
      go_wp2_with fail
      go_meet
      exact ⟨decide (ym < 1152921504606846976), rfl, rfl⟩
  case rest =>
  obtain ⟨b24, rfl, rfl⟩ := hcut
  go_upto_if 24 with fail
  go_cut [] (fun wx => ∃ q : Rv, Hid (StX W wx ⟨k, A, n, kc, nx, m, s, c, v⟩ q))
  case first =>
    cases b24 with
    | false =>
      go_wp2_with fail
      go_meet
      exact ⟨(m, s), kept ⟨HR0.out, HA0.out, HB0.out⟩⟩
    | true =>
      have HS0 := kept (show (fun W' : World => W'.cell? ⟨y, 1, none⟩ = some (.int .i64 ym) ∧ W'.cell? ⟨W.heap.size, 3, none⟩ = some (.int .i64 m) ∧ W'.cell? ⟨W.heap.size, 4, none⟩ = some (.int .i64 s)) wc.drew from ⟨HY.out.box.cell 1, HA0.out.cell 3, HA0.out.cell 4⟩)
      have r0 := HR0.out.cell 0
      have r1 := HR0.out.cell 1
      have f0 := HR0.out.frozen 0
      have f1 := HR0.out.frozen 1
      go_wp2_with fail
      refine region_L [15] ((fun W' : World => W'.cell? ⟨y, 1, none⟩ = some (.int .i64 ym) ∧ W'.cell? ⟨W.heap.size, 3, none⟩ = some (.int .i64 m) ∧ W'.cell? ⟨W.heap.size, 4, none⟩ = some (.int .i64 s))) (by kernel_rfl) ?_ (fun hHeld => ?_)
      · ((try dsimp only); (with_reducible exact HS0.out))
      (try simp only [List.size_toArray, List.length_cons, List.length_nil, Nat.reduceAdd, Array.replicate_succ, Array.replicate_zero, List.push_toArray, List.append_toArray, List.nil_append, List.cons_append])
      refine take_P 0 (some 25) ?_ (by (intro o ho w; (simp only [List.getElem?_toArray, List.getElem?_cons_succ, List.getElem?_cons_zero, Option.some.injEq] at ho); subst ho; go_simp; (first | done | with_reducible rfl))) (by ((try simp only [Act.put, hA, h0, h1]); (first | done | rfl))) (by first | exact fun _ => by assumption | exact fun hE => absurd hE (by decide))
      (try simp only [Act.put, List.setIfInBounds_toArray, List.set_cons_zero, List.set_cons_succ])
      refine take_P 1 (some 26) ?_ (by (intro o ho w; (simp only [List.getElem?_toArray, List.getElem?_cons_succ, List.getElem?_cons_zero, Option.some.injEq] at ho); subst ho; go_simp; (first | done | with_reducible rfl))) (by ((try simp only [Act.put, hA, h0, h1]); (first | done | rfl))) (by first | exact fun _ => by assumption | exact fun hE => absurd hE (by decide))
      (try simp only [Act.put, List.setIfInBounds_toArray, List.set_cons_zero, List.set_cons_succ])
      refine take_P 2 (some 27) ?_ (by (intro o ho w; (simp only [List.getElem?_toArray, List.getElem?_cons_succ, List.getElem?_cons_zero, Option.some.injEq] at ho); subst ho; go_simp; (first | done | with_reducible rfl))) (by ((try simp only [Act.put, hA, h0, h1]); (first | done | rfl))) (by first | exact fun _ => by assumption | exact fun hE => absurd hE (by decide))
      (try simp only [Act.put, List.setIfInBounds_toArray, List.set_cons_zero, List.set_cons_succ])
      refine take_P 3 (some 28) ?_ (by (intro o ho w; (simp only [List.getElem?_toArray, List.getElem?_cons_succ, List.getElem?_cons_zero, Option.some.injEq] at ho); subst ho; go_simp; (first | done | with_reducible rfl))) (by ((try simp only [Act.put, hA, h0, h1]); (first | done | rfl))) (by first | exact fun _ => by assumption | exact fun hE => absurd hE (by decide))
      (try simp only [Act.put, List.setIfInBounds_toArray, List.set_cons_zero, List.set_cons_succ])
      refine take_L 4 (some 29) ?_ (by (intro o ho w hSw; (simp only [List.getElem?_toArray, List.getElem?_cons_succ, List.getElem?_cons_zero, Option.some.injEq] at ho); subst ho; (try dsimp only at hSw); go_simp; (first | done | with_reducible rfl))) (by ((try simp only [Act.put, hA, h0, h1]); (first | done | rfl)))
      (try simp only [Act.put, List.setIfInBounds_toArray, List.set_cons_zero, List.set_cons_succ])
      refine take_P 5 (some 30) ?_ (by (intro o ho w; (simp only [List.getElem?_toArray, List.getElem?_cons_succ, List.getElem?_cons_zero, Option.some.injEq] at ho); subst ho; go_simp; (first | done | with_reducible rfl))) (by ((try simp only [Act.put, hA, h0, h1]); (first | done | rfl))) (by first | exact fun _ => by assumption | exact fun hE => absurd hE (by decide))
      (try simp only [Act.put, List.setIfInBounds_toArray, List.set_cons_zero, List.set_cons_succ])
      refine take_P 6 (some 31) ?_ (by (intro o ho w; (simp only [List.getElem?_toArray, List.getElem?_cons_succ, List.getElem?_cons_zero, Option.some.injEq] at ho); subst ho; go_simp; (first | done | with_reducible rfl))) (by ((try simp only [Act.put, hA, h0, h1]); (first | done | rfl))) (by first | exact fun _ => by assumption | exact fun hE => absurd hE (by decide))
      (try simp only [Act.put, List.setIfInBounds_toArray, List.set_cons_zero, List.set_cons_succ])
      refine take_L 7 (some 32) ?_ (by (intro o ho w hSw; (simp only [List.getElem?_toArray, List.getElem?_cons_succ, List.getElem?_cons_zero, Option.some.injEq] at ho); subst ho; (try dsimp only at hSw); go_simp; (first | done | with_reducible rfl))) (by ((try simp only [Act.put, hA, h0, h1]); (first | done | rfl)))
      (try simp only [Act.put, List.setIfInBounds_toArray, List.set_cons_zero, List.set_cons_succ])
      refine take_P 8 (some 33) ?_ (by (intro o ho w; (simp only [List.getElem?_toArray, List.getElem?_cons_succ, List.getElem?_cons_zero, Option.some.injEq] at ho); subst ho; go_simp; (first | done | with_reducible rfl))) (by ((try simp only [Act.put, hA, h0, h1]); (first | done | rfl))) (by first | exact fun _ => by assumption | exact fun hE => absurd hE (by decide))
      (try simp only [Act.put, List.setIfInBounds_toArray, List.set_cons_zero, List.set_cons_succ])
      refine take_P 9 (some 34) ?_ (by (intro o ho w; (simp only [List.getElem?_toArray, List.getElem?_cons_succ, List.getElem?_cons_zero, Option.some.injEq] at ho); subst ho; go_simp; (first | done | with_reducible rfl))) (by ((try simp only [Act.put, hA, h0, h1]); (first | done | rfl))) (by first | exact fun _ => by assumption | exact fun hE => absurd hE (by decide))
      (try simp only [Act.put, List.setIfInBounds_toArray, List.set_cons_zero, List.set_cons_succ])
      refine take_P 10 (some 35) ?_ (by (intro o ho w; (simp only [List.getElem?_toArray, List.getElem?_cons_succ, List.getElem?_cons_zero, Option.some.injEq] at ho); subst ho; go_simp; (first | done | with_reducible rfl))) (by ((try simp only [Act.put, hA, h0, h1]); (first | done | rfl))) (by first | exact fun _ => by assumption | exact fun hE => absurd hE (by decide))
      (try simp only [Act.put, List.setIfInBounds_toArray, List.set_cons_zero, List.set_cons_succ])
      refine take_P 11 (some 36) ?_ (by (intro o ho w; (simp only [List.getElem?_toArray, List.getElem?_cons_succ, List.getElem?_cons_zero, Option.some.injEq] at ho); subst ho; go_simp; (first | done | with_reducible rfl))) (by ((try simp only [Act.put, hA, h0, h1]); (first | done | rfl))) (by first | exact fun _ => by assumption | exact fun hE => absurd hE (by decide))
      (try simp only [Act.put, List.setIfInBounds_toArray, List.set_cons_zero, List.set_cons_succ])
      refine take_L 12 (some 37) ?_ (by (intro o ho w hSw; (simp only [List.getElem?_toArray, List.getElem?_cons_succ, List.getElem?_cons_zero, Option.some.injEq] at ho); subst ho; (try dsimp only at hSw); go_simp; (first | done | with_reducible rfl))) (by ((try simp only [Act.put, hA, h0, h1]); (first | done | rfl)))
      (try simp only [Act.put, List.setIfInBounds_toArray, List.set_cons_zero, List.set_cons_succ])
      refine take_P 13 (some 38) ?_ (by (intro o ho w; (simp only [List.getElem?_toArray, List.getElem?_cons_succ, List.getElem?_cons_zero, Option.some.injEq] at ho); subst ho; go_simp; (first | done | with_reducible rfl))) (by ((try simp only [Act.put, hA, h0, h1]); (first | done | rfl))) (by first | exact fun _ => by assumption | exact fun hE => absurd hE (by decide))
      (try simp only [Act.put, List.setIfInBounds_toArray, List.set_cons_zero, List.set_cons_succ])
      refine take_P 14 (some 39) ?_ (by (intro o ho w; (simp only [List.getElem?_toArray, List.getElem?_cons_succ, List.getElem?_cons_zero, Option.some.injEq] at ho); subst ho; go_simp; (first | done | with_reducible rfl))) (by ((try simp only [Act.put, hA, h0, h1]); (first | done | rfl))) (by first | exact fun _ => by assumption | exact fun hE => absurd hE (by decide))
      (try simp only [Act.put, List.setIfInBounds_toArray, List.set_cons_zero, List.set_cons_succ])
      refine ready_L 15 (fun o ho K hK => ?_)
      (simp only [List.getElem?_toArray, List.getElem?_cons_succ, List.getElem?_cons_zero, Option.some.injEq] at ho)
      subst ho
      go_simp
      skip
      refine hK.out _ _ ?_ (fun hHeld => ?_)
      · (first | exact fun hE => absurd hE (by decide) | (intro _; (try dsimp only); (with_reducible exact HS0.out)))
      clear hK K
      (try replace hHeld := hHeld (by decide))
      (try simp only [Act.put, List.setIfInBounds_toArray, List.set_cons_zero, List.set_cons_succ])
      refine done_L (by kernel_rfl) ?_ _
      go_wp2_with fail
      go_meet
      have hne : W.heap.size ≠ (⟨W.heap.size + 1, 0, none⟩ : Addr).block := Nat.ne_of_lt (Nat.lt_succ_self _)
      refine ⟨(_, _), kept ⟨(HR0.out.set_ 0 _).set_ 1 _, (HA0.out.far (p := ⟨W.heap.size + 1, 0, none⟩) hne _).far (p := ⟨W.heap.size + 1, 1, none⟩) hne _, ((HB0.out.setCell (p := ⟨W.heap.size + 1, 0, none⟩) (Nat.le_succ _) _).setCell (p := ⟨W.heap.size + 1, 1, none⟩) (Nat.le_succ _) _).drew⟩⟩
  case rest =>
  obtain ⟨q, HST⟩ := hcut
  have a1 : wc.cell? ⟨W.heap.size, 1, none⟩ = some (.slice A n kc) := HST.out.2.1.cell 1
  have HW0 : Hid (w0.heap.size ≤ W.heap.size) := kept HJ.out.bel.size
  have HTW := kept (twin_any A n kc xs wc (HR.out.below (bel_to HST.out.2.2 HJ.out.bel)) (by omega))
  clear HY HJ2 HR0 HA0 HB0
  go_wp2_with fail
  with_reducible refine HTW.out.mono ?_
  rintro e w3 ⟨B3, c3, rfl, ho3, hb3⟩
  have HBW3 := kept (bel_to hb3 HST.out.2.2)
  have HJ3 := kept (HJ.out.below HBW3.out)
  have HR3 := kept (HST.out.1.below hb3 HST.out.1.lt)
  have HA3 := kept (HST.out.2.1.below hb3 HST.out.2.1.lt)
  have HO3 := kept (own_mono_ ho3 HST.out.2.2.size)
  have HRD3 := kept (show Rd w3.drew B3 n xs from Rd.of_own ho3)
  have HLTF := kept (fun j (hj : F j) => HJ.out.ix.lt hj)
  have a0 : w3.cell? ⟨W.heap.size, 0, none⟩ = some (.int .i64 k) := HA3.out.cell 0
  have HSZ : Hid (W.heap.size + 1 < w3.heap.size) := kept HR3.out.lt
  -- what a call of the one leaves
  have HTT : Hid (∀ w6, Turned w3.drew w6 (fun j => F j ∧ NU w3.drew j) → Turned W w6 (fun j => (F j ∧ NU W j) ∨ j = y)) := kept (fun w6 t => (Turned.of_below HBW3.out _).drew.trans (t.mono (fun j _ hj => .inl ⟨hj.1, NU.back HBW3.out hj.2⟩)))
  have HOW : Hid (∀ w6, Turned w3.drew w6 (fun j => F j ∧ NU w3.drew j) → w6.ownsRow W.heap.size 5 1 (.slice B3 n c3) n (cellsOf xs)) := kept (fun w6 t => gown_turned (w := w3.drew) HO3.out t (fun j hj e => by have h1 := (gown_lt HO3.out hj).1; have h2 := HLTF.out j e.1; omega))
  have HNF : Hid (∀ j, (Value.slice B3 n c3).ownBlock = some j → ¬ (F j ∨ w3.drew.heap.size ≤ j)) := kept (fun j hj e => by
    have h1 := gown_lt HO3.out hj
    rcases e with e | e
    · have := HLTF.out j e; omega
    · have e : w3.heap.size ≤ j := e
      omega)
  have HSK : Hid (∀ w6, Turned w3.drew w6 (fun j => F j ∧ NU w3.drew j) → ((fun W' : World => (W'.cell? ⟨W.heap.size + 1, 0, none⟩ = some (.int .i64 q.1) ∧ W'.cell? ⟨W.heap.size + 1, 1, none⟩ = some (.int .i64 q.2)) ∧ W'.cell? ⟨W.heap.size, 1, none⟩ = some (.slice A n kc) ∧ W'.cell? ⟨W.heap.size, 5, none⟩ = some (.int .i64 c) ∧ W'.cell? ⟨W.heap.size, 6, none⟩ = some (.int .i64 v)) w6)) := kept (fun w6 t => by
    have h1 : Blk w6 (W.heap.size + 1) 29 [.int .i64 q.1, .int .i64 q.2] := t.blk (w := w3.drew) HR3.out (fun e => by have := HLTF.out _ e.1; omega)
    have h2 := t.blk (w := w3.drew) HA3.out (fun e => by have := HLTF.out _ e.1; omega)
    exact ⟨⟨h1.cell 0, h1.cell 1⟩, h2.cell 1, h2.cell 5, h2.cell 6⟩)
  have HYL : Hid (y < W.heap.size) := kept (by obtain ⟨cs, hcs⟩ := HJ.out.rx.box; exact (Array.getElem?_eq_some_iff.1 hcs).1)
  have HSK2 : Hid (∀ w6 w7 : World, ((fun W' : World => (W'.cell? ⟨W.heap.size + 1, 0, none⟩ = some (.int .i64 q.1) ∧ W'.cell? ⟨W.heap.size + 1, 1, none⟩ = some (.int .i64 q.2)) ∧ W'.cell? ⟨W.heap.size, 1, none⟩ = some (.slice A n kc) ∧ W'.cell? ⟨W.heap.size, 5, none⟩ = some (.int .i64 c) ∧ W'.cell? ⟨W.heap.size, 6, none⟩ = some (.int .i64 v)) w6) → Turned w6 w7 (fun j => j = y) → ((fun W' : World => (W'.cell? ⟨W.heap.size + 1, 0, none⟩ = some (.int .i64 q.1) ∧ W'.cell? ⟨W.heap.size + 1, 1, none⟩ = some (.int .i64 q.2)) ∧ W'.cell? ⟨W.heap.size, 1, none⟩ = some (.slice A n kc) ∧ W'.cell? ⟨W.heap.size, 5, none⟩ = some (.int .i64 c) ∧ W'.cell? ⟨W.heap.size, 6, none⟩ = some (.int .i64 v)) w7)) := kept (fun w6 w7 h t => by
    have hc : ∀ {p : Addr} {u : Value}, w6.cell? p = some u → p.block ≠ y → w7.cell? p = some u := fun hu hp => by
      have hl : _ < w6.heap.size := block_lt_of_cell hu
      rw [World.cell?_of_block (t.block _ hl hp)]
      exact hu
    have hy := HYL.out
    exact ⟨⟨hc h.1.1 (by show W.heap.size + 1 ≠ y; omega), hc h.1.2 (by show W.heap.size + 1 ≠ y; omega)⟩, hc h.2.1 (by show W.heap.size ≠ y; omega), hc h.2.2.1 (by show W.heap.size ≠ y; omega), hc h.2.2.2 (by show W.heap.size ≠ y; omega)⟩)
  have HS0 := kept (show ((fun W' : World => (W'.cell? ⟨W.heap.size + 1, 0, none⟩ = some (.int .i64 q.1) ∧ W'.cell? ⟨W.heap.size + 1, 1, none⟩ = some (.int .i64 q.2)) ∧ W'.cell? ⟨W.heap.size, 1, none⟩ = some (.slice A n kc) ∧ W'.cell? ⟨W.heap.size, 5, none⟩ = some (.int .i64 c) ∧ W'.cell? ⟨W.heap.size, 6, none⟩ = some (.int .i64 v)) w3.drew) from ⟨⟨HR3.out.cell 0, HR3.out.cell 1⟩, HA3.out.cell 1, HA3.out.cell 5, HA3.out.cell 6⟩)
  clear ho3 hb3 a1
  by_cases k0 : k = 0
  · subst k0
    have HSXX := trivial
    clear HSXX
    go_wp2
    clear a0
    have HDV := kept (xputP_any (HJ3.out.ix.below ((Below.refl _ w3).drew)) HJ3.out.good.inv (by omega) B3 n c3 xs HRD3.out (by omega) q)
    refine wp_region_held_drew (S := (fun W' : World => (W'.cell? ⟨W.heap.size + 1, 0, none⟩ = some (.int .i64 q.1) ∧ W'.cell? ⟨W.heap.size + 1, 1, none⟩ = some (.int .i64 q.2)) ∧ W'.cell? ⟨W.heap.size, 1, none⟩ = some (.slice A n kc) ∧ W'.cell? ⟨W.heap.size, 5, none⟩ = some (.int .i64 c) ∧ W'.cell? ⟨W.heap.size, 6, none⟩ = some (.int .i64 v))) (by kernel_rfl) ?_ (fun hHeld => ?_)
    · ((try dsimp only); (first | with_reducible exact HS0.out | with_reducible exact HS1.out | with_reducible exact HS2.out))
    refine hand_take 0 (some 57) ?_ (by kernel_rfl) (by kernel_rfl) (by kernel_rfl) (by kernel_rfl) (by kernel_rfl) (fun _ _ _ h => h) ?_ (by assumption) ?_
    rotate_left
    · (intro o ho w hSw; (simp only [List.getElem?_toArray, List.getElem?_cons_succ, List.getElem?_cons_zero, Option.some.injEq] at ho); subst ho; (try dsimp only at hSw); go_simp; (first | done | with_reducible rfl))
    (try simp only [Act.put, List.setIfInBounds_toArray, List.set_cons_zero, List.set_cons_succ])
    refine hand_take 1 (some 58) ?_ (by kernel_rfl) (by kernel_rfl) (by kernel_rfl) (by kernel_rfl) (by kernel_rfl) (fun _ _ _ h => h) ?_ (by assumption) ?_
    rotate_left
    · (intro o ho w hSw; (simp only [List.getElem?_toArray, List.getElem?_cons_succ, List.getElem?_cons_zero, Option.some.injEq] at ho); subst ho; (try dsimp only at hSw); go_simp; (first | done | with_reducible rfl))
    (try simp only [Act.put, List.setIfInBounds_toArray, List.set_cons_zero, List.set_cons_succ])
    refine hand_take 2 (some 59) ?_ (by kernel_rfl) (by kernel_rfl) (by kernel_rfl) (by kernel_rfl) (by kernel_rfl) (fun _ _ _ h => h) ?_ (by assumption) ?_
    rotate_left
    · (intro o ho w hSw; (simp only [List.getElem?_toArray, List.getElem?_cons_succ, List.getElem?_cons_zero, Option.some.injEq] at ho); subst ho; (try dsimp only at hSw); go_simp; (first | done | with_reducible rfl))
    (try simp only [Act.put, List.setIfInBounds_toArray, List.set_cons_zero, List.set_cons_succ])
    refine hand_take 4 (some 61) ?_ (by kernel_rfl) (by kernel_rfl) (by kernel_rfl) (by kernel_rfl) (by kernel_rfl) (fun _ _ _ h => h) ?_ (by assumption) ?_
    rotate_left
    · (intro o ho w hSw; (simp only [List.getElem?_toArray, List.getElem?_cons_succ, List.getElem?_cons_zero, Option.some.injEq] at ho); subst ho; (try dsimp only at hSw); go_simp; (first | done | with_reducible rfl))
    (try simp only [Act.put, List.setIfInBounds_toArray, List.set_cons_zero, List.set_cons_succ])
    refine hand_take 5 (some 62) ?_ (by kernel_rfl) (by kernel_rfl) (by kernel_rfl) (by kernel_rfl) (by kernel_rfl) (fun _ _ _ h => h) ?_ (by assumption) ?_
    rotate_left
    · (intro o ho w hSw; (simp only [List.getElem?_toArray, List.getElem?_cons_succ, List.getElem?_cons_zero, Option.some.injEq] at ho); subst ho; (try dsimp only at hSw); go_simp; (first | done | with_reducible rfl))
    (try simp only [Act.put, List.setIfInBounds_toArray, List.set_cons_zero, List.set_cons_succ])
    refine hand_take 6 (some 63) ?_ (by kernel_rfl) (by kernel_rfl) (by kernel_rfl) (by kernel_rfl) (by kernel_rfl) (fun _ _ _ h => h) ?_ (by assumption) ?_
    rotate_left
    · (intro o ho w hSw; (simp only [List.getElem?_toArray, List.getElem?_cons_succ, List.getElem?_cons_zero, Option.some.injEq] at ho); subst ho; (try dsimp only at hSw); go_simp; (first | done | with_reducible rfl))
    (try simp only [Act.put, List.setIfInBounds_toArray, List.set_cons_zero, List.set_cons_succ])
    refine hand_take 7 (some 64) ?_ (by kernel_rfl) (by kernel_rfl) (by kernel_rfl) (by kernel_rfl) (by kernel_rfl) (fun _ _ _ h => h) ?_ (by assumption) ?_
    rotate_left
    · (intro o ho w hSw; (simp only [List.getElem?_toArray, List.getElem?_cons_succ, List.getElem?_cons_zero, Option.some.injEq] at ho); subst ho; (try dsimp only at hSw); go_simp; (first | done | with_reducible rfl))
    (try simp only [Act.put, List.setIfInBounds_toArray, List.set_cons_zero, List.set_cons_succ])
    refine hand_ready 3 (by kernel_rfl) (by kernel_rfl) (fun o ho K hK => ?_)
    (simp only [List.getElem?_toArray, List.getElem?_cons_succ, List.getElem?_cons_zero, Option.some.injEq] at ho)
    subst ho
    go_simp
    (go_at_call 23; (with_reducible refine HDV.out.mono ?_); rintro e w6 ⟨rfl, hl⟩; obtain ⟨F6, hj6, hf6, t6⟩ := (HJ3.out.below ((Below.refl _ w3).drew)).dev hl (Nat.le_succ _) (HJ3.out.good.change xs q (put_fit q)); have HD6 := kept (And.intro hj6 (And.intro hf6 t6)); have HS1 := kept (HSK.out w6 t6); have HDC := kept (fun (Ay' : Option Addr) (ny' ky' : Nat) (ym' ys' : Int) (Ks' : List DK) (hy6 : RXs w6 w0.heap.size y (N + 1) Ay' ny' ky' ym' ys' Ks') => xput_any hy6 (by omega) A n kc xs (fun W' t => HR.out.below (bel_left (HD6.out.1.bel) t (fun j e => by rw [e]; exact HD6.out.1.rx.le))) (by omega) q); clear hl hj6 hf6 t6)
    (try go_wp2_with fail)
    refine hK.out _ _ ?_ (fun hHeld => ?_)
    · ((try dsimp only); (first | with_reducible exact HS0.out | with_reducible exact HS1.out | with_reducible exact HS2.out))
    clear hK K
    (try simp only [Act.put, List.setIfInBounds_toArray, List.set_cons_zero, List.set_cons_succ])
    refine hand_ready 8 (by kernel_rfl) (by kernel_rfl) (fun o ho K hK => ?_)
    (simp only [List.getElem?_toArray, List.getElem?_cons_succ, List.getElem?_cons_zero, Option.some.injEq] at ho)
    subst ho
    go_simp
    (obtain ⟨Ay', ny', ky', ym', ys', Ks', hy6⟩ := HD6.out.1.rx; go_at_call 37; (with_reducible refine (HDC.out _ _ _ _ _ _ hy6).mono ?_); rintro e w7 ⟨er, rfl, Ay7, ny7, ky7, ym7, ys7, Ks7, hy7, t7⟩; have HMID := kept (mid_doc HD6.out.1 (fun j hj => (HD6.out.2.1 j hj).imp id (fun e => Nat.le_trans HBW3.out.size e)) (HTT.out w6 HD6.out.2.2) (HOW.out w6 HD6.out.2.2) (fun j hj e => HNF.out j hj (HD6.out.2.1 j e)) ⟨Ay7, ny7, ky7, ym7, ys7, Ks7, hy7⟩ t7); have HS2 := kept (HSK2.out w6 w7 HS1.out t7); clear hy6 hy7 t7)
    (try go_wp2_with fail)
    refine hK.out _ _ ?_ (fun hHeld => ?_)
    · ((try dsimp only); (first | with_reducible exact HS0.out | with_reducible exact HS1.out | with_reducible exact HS2.out))
    clear hK K
    (try simp only [Act.put, List.setIfInBounds_toArray, List.set_cons_zero, List.set_cons_succ])
    refine hand_take 9 (some 9) ?_ (by kernel_rfl) (by kernel_rfl) (by kernel_rfl) (by kernel_rfl) (by kernel_rfl) (fun _ _ _ h => h) ?_ (by assumption) ?_
    rotate_left
    · (intro o ho w hSw; (simp only [List.getElem?_toArray, List.getElem?_cons_succ, List.getElem?_cons_zero, Option.some.injEq] at ho); subst ho; (try dsimp only at hSw); go_simp; (first | done | with_reducible rfl))
    (try simp only [Act.put, List.setIfInBounds_toArray, List.set_cons_zero, List.set_cons_succ])
    refine hand_take 10 (some 10) ?_ (by kernel_rfl) (by kernel_rfl) (by kernel_rfl) (by kernel_rfl) (by kernel_rfl) (fun _ _ _ h => h) ?_ (by assumption) ?_
    rotate_left
    · (intro o ho w hSw; (simp only [List.getElem?_toArray, List.getElem?_cons_succ, List.getElem?_cons_zero, Option.some.injEq] at ho); subst ho; (try dsimp only at hSw); go_simp; (first | done | with_reducible rfl))
    (try simp only [Act.put, List.setIfInBounds_toArray, List.set_cons_zero, List.set_cons_succ])
    refine wpAnyH_done (by kernel_rfl) ?_ _
    clear hHeld
    go_wp2
    go_loopw [122] (fun i wr => ∃ (j : Nat), j ≤ n ∧ i = .int .i64 (j : Int) ∧ Hid (MidX w0 W x F y N B3 n c3 wr)) (fun i _ => n - (intOf i).toNat)
    case atStart => exact ⟨0, Nat.zero_le _, rfl, HMID⟩
    case round =>
      obtain ⟨j, hj, rfl, HI⟩ := hrel
      have hj0 : (0 : Int) ≤ (j : Int) := by omega
      by_cases hjn : j < n
      · obtain ⟨g, z, hB, cz0, fz, hpk⟩ := HI.out.poke hjn HW0.out
        subst hB
        have hjn' : (j : Int) < (n : Int) := by omega
        have hwj : wrap64 ((j : Int) + 1) = (j : Int) + 1 := IntWalk.wrap64_in _ ⟨by omega, by omega⟩
        have HPK := kept hpk
        have HJN := kept hjn
        have cz : wr.cell? ⟨g, j, none⟩ = some (.int .u8 (z.toNat : Int)) := cz0
        have HBY := kept (bits_byte2 z)
        clear hpk hjn cz0
        go_wp2
        go_roundw
        case rel => exact ⟨j + 1, by have := HJN.out; omega, by go_num, by rw [HBY.out]; exact kept (HPK.out _)⟩
        case measure => have := HJN.out; simp [intOf]; omega
      · obtain rfl : j = n := by omega
        have hjn' : ¬ (j : Int) < (j : Int) := by omega
        go_wp2
        go_returns
        exact HI.out.done _
  · have k0' : (k == 0) = false := by simpa using k0
    by_cases k1 : k = 1
    · subst k1
      go_wp2
      clear a0
      have HDV := kept (xtombP_any (HJ3.out.ix.below ((Below.refl _ w3).drew)) HJ3.out.good.inv (by omega) B3 n c3 xs HRD3.out (by omega) q)
      refine wp_region_held_drew (S := (fun W' : World => (W'.cell? ⟨W.heap.size + 1, 0, none⟩ = some (.int .i64 q.1) ∧ W'.cell? ⟨W.heap.size + 1, 1, none⟩ = some (.int .i64 q.2)) ∧ W'.cell? ⟨W.heap.size, 1, none⟩ = some (.slice A n kc) ∧ W'.cell? ⟨W.heap.size, 5, none⟩ = some (.int .i64 c) ∧ W'.cell? ⟨W.heap.size, 6, none⟩ = some (.int .i64 v))) (by kernel_rfl) ?_ (fun hHeld => ?_)
      · ((try dsimp only); (first | with_reducible exact HS0.out | with_reducible exact HS1.out | with_reducible exact HS2.out))
      refine hand_take 0 (some 68) ?_ (by kernel_rfl) (by kernel_rfl) (by kernel_rfl) (by kernel_rfl) (by kernel_rfl) (fun _ _ _ h => h) ?_ (by assumption) ?_
      rotate_left
      · (intro o ho w hSw; (simp only [List.getElem?_toArray, List.getElem?_cons_succ, List.getElem?_cons_zero, Option.some.injEq] at ho); subst ho; (try dsimp only at hSw); go_simp; (first | done | with_reducible rfl))
      (try simp only [Act.put, List.setIfInBounds_toArray, List.set_cons_zero, List.set_cons_succ])
      refine hand_take 1 (some 69) ?_ (by kernel_rfl) (by kernel_rfl) (by kernel_rfl) (by kernel_rfl) (by kernel_rfl) (fun _ _ _ h => h) ?_ (by assumption) ?_
      rotate_left
      · (intro o ho w hSw; (simp only [List.getElem?_toArray, List.getElem?_cons_succ, List.getElem?_cons_zero, Option.some.injEq] at ho); subst ho; (try dsimp only at hSw); go_simp; (first | done | with_reducible rfl))
      (try simp only [Act.put, List.setIfInBounds_toArray, List.set_cons_zero, List.set_cons_succ])
      refine hand_take 2 (some 70) ?_ (by kernel_rfl) (by kernel_rfl) (by kernel_rfl) (by kernel_rfl) (by kernel_rfl) (fun _ _ _ h => h) ?_ (by assumption) ?_
      rotate_left
      · (intro o ho w hSw; (simp only [List.getElem?_toArray, List.getElem?_cons_succ, List.getElem?_cons_zero, Option.some.injEq] at ho); subst ho; (try dsimp only at hSw); go_simp; (first | done | with_reducible rfl))
      (try simp only [Act.put, List.setIfInBounds_toArray, List.set_cons_zero, List.set_cons_succ])
      refine hand_take 4 (some 72) ?_ (by kernel_rfl) (by kernel_rfl) (by kernel_rfl) (by kernel_rfl) (by kernel_rfl) (fun _ _ _ h => h) ?_ (by assumption) ?_
      rotate_left
      · (intro o ho w hSw; (simp only [List.getElem?_toArray, List.getElem?_cons_succ, List.getElem?_cons_zero, Option.some.injEq] at ho); subst ho; (try dsimp only at hSw); go_simp; (first | done | with_reducible rfl))
      (try simp only [Act.put, List.setIfInBounds_toArray, List.set_cons_zero, List.set_cons_succ])
      refine hand_take 5 (some 73) ?_ (by kernel_rfl) (by kernel_rfl) (by kernel_rfl) (by kernel_rfl) (by kernel_rfl) (fun _ _ _ h => h) ?_ (by assumption) ?_
      rotate_left
      · (intro o ho w hSw; (simp only [List.getElem?_toArray, List.getElem?_cons_succ, List.getElem?_cons_zero, Option.some.injEq] at ho); subst ho; (try dsimp only at hSw); go_simp; (first | done | with_reducible rfl))
      (try simp only [Act.put, List.setIfInBounds_toArray, List.set_cons_zero, List.set_cons_succ])
      refine hand_take 6 (some 74) ?_ (by kernel_rfl) (by kernel_rfl) (by kernel_rfl) (by kernel_rfl) (by kernel_rfl) (fun _ _ _ h => h) ?_ (by assumption) ?_
      rotate_left
      · (intro o ho w hSw; (simp only [List.getElem?_toArray, List.getElem?_cons_succ, List.getElem?_cons_zero, Option.some.injEq] at ho); subst ho; (try dsimp only at hSw); go_simp; (first | done | with_reducible rfl))
      (try simp only [Act.put, List.setIfInBounds_toArray, List.set_cons_zero, List.set_cons_succ])
      refine hand_take 7 (some 75) ?_ (by kernel_rfl) (by kernel_rfl) (by kernel_rfl) (by kernel_rfl) (by kernel_rfl) (fun _ _ _ h => h) ?_ (by assumption) ?_
      rotate_left
      · (intro o ho w hSw; (simp only [List.getElem?_toArray, List.getElem?_cons_succ, List.getElem?_cons_zero, Option.some.injEq] at ho); subst ho; (try dsimp only at hSw); go_simp; (first | done | with_reducible rfl))
      (try simp only [Act.put, List.setIfInBounds_toArray, List.set_cons_zero, List.set_cons_succ])
      refine hand_ready 3 (by kernel_rfl) (by kernel_rfl) (fun o ho K hK => ?_)
      (simp only [List.getElem?_toArray, List.getElem?_cons_succ, List.getElem?_cons_zero, Option.some.injEq] at ho)
      subst ho
      go_simp
      (go_at_call 24; (with_reducible refine HDV.out.mono ?_); rintro e w6 ⟨rfl, hl⟩; obtain ⟨F6, hj6, hf6, t6⟩ := (HJ3.out.below ((Below.refl _ w3).drew)).dev hl (Nat.le_succ _) (HJ3.out.good.change xs q (tomb_fit q)); have HD6 := kept (And.intro hj6 (And.intro hf6 t6)); have HS1 := kept (HSK.out w6 t6); have HDC := kept (fun (Ay' : Option Addr) (ny' ky' : Nat) (ym' ys' : Int) (Ks' : List DK) (hy6 : RXs w6 w0.heap.size y (N + 1) Ay' ny' ky' ym' ys' Ks') => xtomb_any hy6 (by omega) A n kc xs (fun W' t => HR.out.below (bel_left (HD6.out.1.bel) t (fun j e => by rw [e]; exact HD6.out.1.rx.le))) (by omega) q); clear hl hj6 hf6 t6)
      (try go_wp2_with fail)
      refine hK.out _ _ ?_ (fun hHeld => ?_)
      · ((try dsimp only); (first | with_reducible exact HS0.out | with_reducible exact HS1.out | with_reducible exact HS2.out))
      clear hK K
      (try simp only [Act.put, List.setIfInBounds_toArray, List.set_cons_zero, List.set_cons_succ])
      refine hand_ready 8 (by kernel_rfl) (by kernel_rfl) (fun o ho K hK => ?_)
      (simp only [List.getElem?_toArray, List.getElem?_cons_succ, List.getElem?_cons_zero, Option.some.injEq] at ho)
      subst ho
      go_simp
      (obtain ⟨Ay', ny', ky', ym', ys', Ks', hy6⟩ := HD6.out.1.rx; go_at_call 38; (with_reducible refine (HDC.out _ _ _ _ _ _ hy6).mono ?_); rintro e w7 ⟨er, rfl, Ay7, ny7, ky7, ym7, ys7, Ks7, hy7, t7⟩; have HMID := kept (mid_doc HD6.out.1 (fun j hj => (HD6.out.2.1 j hj).imp id (fun e => Nat.le_trans HBW3.out.size e)) (HTT.out w6 HD6.out.2.2) (HOW.out w6 HD6.out.2.2) (fun j hj e => HNF.out j hj (HD6.out.2.1 j e)) ⟨Ay7, ny7, ky7, ym7, ys7, Ks7, hy7⟩ t7); have HS2 := kept (HSK2.out w6 w7 HS1.out t7); clear hy6 hy7 t7)
      (try go_wp2_with fail)
      refine hK.out _ _ ?_ (fun hHeld => ?_)
      · ((try dsimp only); (first | with_reducible exact HS0.out | with_reducible exact HS1.out | with_reducible exact HS2.out))
      clear hK K
      (try simp only [Act.put, List.setIfInBounds_toArray, List.set_cons_zero, List.set_cons_succ])
      refine hand_take 9 (some 9) ?_ (by kernel_rfl) (by kernel_rfl) (by kernel_rfl) (by kernel_rfl) (by kernel_rfl) (fun _ _ _ h => h) ?_ (by assumption) ?_
      rotate_left
      · (intro o ho w hSw; (simp only [List.getElem?_toArray, List.getElem?_cons_succ, List.getElem?_cons_zero, Option.some.injEq] at ho); subst ho; (try dsimp only at hSw); go_simp; (first | done | with_reducible rfl))
      (try simp only [Act.put, List.setIfInBounds_toArray, List.set_cons_zero, List.set_cons_succ])
      refine hand_take 10 (some 10) ?_ (by kernel_rfl) (by kernel_rfl) (by kernel_rfl) (by kernel_rfl) (by kernel_rfl) (fun _ _ _ h => h) ?_ (by assumption) ?_
      rotate_left
      · (intro o ho w hSw; (simp only [List.getElem?_toArray, List.getElem?_cons_succ, List.getElem?_cons_zero, Option.some.injEq] at ho); subst ho; (try dsimp only at hSw); go_simp; (first | done | with_reducible rfl))
      (try simp only [Act.put, List.setIfInBounds_toArray, List.set_cons_zero, List.set_cons_succ])
      refine wpAnyH_done (by kernel_rfl) ?_ _
      clear hHeld
      go_wp2
      go_loopw [122] (fun i wr => ∃ (j : Nat), j ≤ n ∧ i = .int .i64 (j : Int) ∧ Hid (MidX w0 W x F y N B3 n c3 wr)) (fun i _ => n - (intOf i).toNat)
      case atStart => exact ⟨0, Nat.zero_le _, rfl, HMID⟩
      case round =>
        obtain ⟨j, hj, rfl, HI⟩ := hrel
        have hj0 : (0 : Int) ≤ (j : Int) := by omega
        by_cases hjn : j < n
        · obtain ⟨g, z, hB, cz0, fz, hpk⟩ := HI.out.poke hjn HW0.out
          subst hB
          have hjn' : (j : Int) < (n : Int) := by omega
          have hwj : wrap64 ((j : Int) + 1) = (j : Int) + 1 := IntWalk.wrap64_in _ ⟨by omega, by omega⟩
          have HPK := kept hpk
          have HJN := kept hjn
          have cz : wr.cell? ⟨g, j, none⟩ = some (.int .u8 (z.toNat : Int)) := cz0
          have HBY := kept (bits_byte2 z)
          clear hpk hjn cz0
          go_wp2
          go_roundw
          case rel => exact ⟨j + 1, by have := HJN.out; omega, by go_num, by rw [HBY.out]; exact kept (HPK.out _)⟩
          case measure => have := HJN.out; simp [intOf]; omega
        · obtain rfl : j = n := by omega
          have hjn' : ¬ (j : Int) < (j : Int) := by omega
          go_wp2
          go_returns
          exact HI.out.done _
    · have k1' : (k == 1) = false := by simpa using k1
      by_cases k2 : k = 2
      · subst k2
        have r30 : w3.cell? ⟨W.heap.size + 1, 0, none⟩ = some (.int .i64 q.1) := HR3.out.cell 0
        have HKE := kept (keepP_any HJ3.out.ix HJ3.out.good.inv (by omega) q.1)
        have hklen : (sortRv (keepX P q.1)).length ≤ N := by
          rw [(sortRv_perm _).length_eq]
          exact Nat.le_trans (List.length_filterMap_le _ _) HJ3.out.good.inv.ln
        have HKL := kept hklen
        generalize sortRv (keepX P q.1) = ks at HKE HKL
        clear hklen
        go_wp2_with fail
        with_reducible refine HKE.out.mono ?_
        rintro e w5 ⟨A5, n5, c5, rfl, ho5, hb5⟩
        have HB5 := kept hb5
        have hn5 : n5 ≤ N := by have h1 := ho5.1; rw [rvC_length] at h1; have := HKL.out; omega
        have HO5 := kept (RdR.of_own ho5)
        have HJ5 := kept (HJ3.out.below hb5)
        have HBW5 := kept (bel_to hb5 HBW3.out)
        have HS0' := kept (show (fun W' : World => W'.cell? ⟨W.heap.size + 1, 0, none⟩ = some (.int .i64 q.1)) w5.drew from (HR3.out.below hb5 HR3.out.lt).cell 0)
        obtain ⟨Ay5, ny5, ky5, ym5, ys5, Ks5, hy5⟩ := HJ5.out.rx
        have HDK := kept (xkeep_any (w := w5.drew) (hy5.below ((Below.refl _ w5).drew)) (by omega) q.1)
        clear ho5 hb5 hy5 r30 a0
        go_wp2
        refine wp_region_held_drew (S := (fun W' : World => W'.cell? ⟨W.heap.size + 1, 0, none⟩ = some (.int .i64 q.1))) (by kernel_rfl) ?_ (fun hHeld => ?_)
        · ((try dsimp only); (first | with_reducible exact HS0'.out | with_reducible exact HS1.out | with_reducible exact HS2.out))
        refine hand_take 0 (some 83) ?_ (by kernel_rfl) (by kernel_rfl) (by kernel_rfl) (by kernel_rfl) (by kernel_rfl) (fun _ _ _ h => h) ?_ (by assumption) ?_
        rotate_left
        · (intro o ho w hSw; (simp only [List.getElem?_toArray, List.getElem?_cons_succ, List.getElem?_cons_zero, Option.some.injEq] at ho); subst ho; (try dsimp only at hSw); go_simp; (first | done | with_reducible rfl))
        (try simp only [Act.put, List.setIfInBounds_toArray, List.set_cons_zero, List.set_cons_succ])
        refine hand_take 1 (some 84) ?_ (by kernel_rfl) (by kernel_rfl) (by kernel_rfl) (by kernel_rfl) (by kernel_rfl) (fun _ _ _ h => h) ?_ (by assumption) ?_
        rotate_left
        · (intro o ho w hSw; (simp only [List.getElem?_toArray, List.getElem?_cons_succ, List.getElem?_cons_zero, Option.some.injEq] at ho); subst ho; (try dsimp only at hSw); go_simp; (first | done | with_reducible rfl))
        (try simp only [Act.put, List.setIfInBounds_toArray, List.set_cons_zero, List.set_cons_succ])
        refine hand_take 2 (some 85) ?_ (by kernel_rfl) (by kernel_rfl) (by kernel_rfl) (by kernel_rfl) (by kernel_rfl) (fun _ _ _ h => h) ?_ (by assumption) ?_
        rotate_left
        · (intro o ho w hSw; (simp only [List.getElem?_toArray, List.getElem?_cons_succ, List.getElem?_cons_zero, Option.some.injEq] at ho); subst ho; (try dsimp only at hSw); go_simp; (first | done | with_reducible rfl))
        (try simp only [Act.put, List.setIfInBounds_toArray, List.set_cons_zero, List.set_cons_succ])
        refine hand_take 3 (some 86) ?_ (by kernel_rfl) (by kernel_rfl) (by kernel_rfl) (by kernel_rfl) (by kernel_rfl) (fun _ _ _ h => h) ?_ (by assumption) ?_
        rotate_left
        · (intro o ho w hSw; (simp only [List.getElem?_toArray, List.getElem?_cons_succ, List.getElem?_cons_zero, Option.some.injEq] at ho); subst ho; (try dsimp only at hSw); go_simp; (first | done | with_reducible rfl))
        (try simp only [Act.put, List.setIfInBounds_toArray, List.set_cons_zero, List.set_cons_succ])
        refine hand_ready 4 (by kernel_rfl) (by kernel_rfl) (fun o ho K hK => ?_)
        (simp only [List.getElem?_toArray, List.getElem?_cons_succ, List.getElem?_cons_zero, Option.some.injEq] at ho)
        subst ho
        go_simp
        (go_at_call 39; (with_reducible refine HDK.out.mono ?_); rintro e w6 ⟨A6, n6, c6, ps6, rfl, ho6, hn6, hb6⟩; have HB6 := kept (bel_to hb6 ((Below.refl w5.heap.size w5).drew)); have HSM := kept (samerevs_any (c := c5) (d := c6) (HO5.out.keeps (Keeps.of_below HB6.out)) (RdR.of_own ho6) (by omega)); have HS1 := kept (show (fun W' : World => W'.cell? ⟨W.heap.size + 1, 0, none⟩ = some (.int .i64 q.1)) w6 from (Keeps.of_below hb6).cell_ HS0'.out); clear ho6 hb6)
        (try go_wp2_with fail)
        refine hK.out _ _ ?_ (fun hHeld => ?_)
        · ((try dsimp only); (first | with_reducible exact HS0'.out | with_reducible exact HS1.out | with_reducible exact HS2.out))
        clear hK K
        (try simp only [Act.put, List.setIfInBounds_toArray, List.set_cons_zero, List.set_cons_succ])
        refine hand_ready 5 (by kernel_rfl) (by kernel_rfl) (fun o ho K hK => ?_)
        (simp only [List.getElem?_toArray, List.getElem?_cons_succ, List.getElem?_cons_zero, Option.some.injEq] at ho)
        subst ho
        go_simp
        (go_at_call 16; (with_reducible refine HSM.out.mono ?_); rintro e w7 ⟨rfl, hb7⟩; have HB7 := kept (bel_to hb7 HB6.out); have HS2 := kept (show (fun W' : World => W'.cell? ⟨W.heap.size + 1, 0, none⟩ = some (.int .i64 q.1)) w7 from (Keeps.of_below hb7).cell_ HS1.out); clear hb7; generalize decide (ks = ps6) = bb)
        (try go_wp2_with fail)
        refine hK.out _ _ ?_ (fun hHeld => ?_)
        · ((try dsimp only); (first | with_reducible exact HS0'.out | with_reducible exact HS1.out | with_reducible exact HS2.out))
        clear hK K
        (try simp only [Act.put, List.setIfInBounds_toArray, List.set_cons_zero, List.set_cons_succ])
        cases bb with
        | false =>
          refine hand_take 6 (some 89) ?_ (by kernel_rfl) (by kernel_rfl) (by kernel_rfl) (by kernel_rfl) (by kernel_rfl) (fun _ _ _ h => h) ?_ (by assumption) ?_
          rotate_left
          · (intro o ho w hSw; (simp only [List.getElem?_toArray, List.getElem?_cons_succ, List.getElem?_cons_zero, Option.some.injEq] at ho); subst ho; (try dsimp only at hSw); go_simp; (first | done | with_reducible rfl))
          (try simp only [Act.put, List.setIfInBounds_toArray, List.set_cons_zero, List.set_cons_succ])
          refine hand_skip 7 (some 90) (by kernel_rfl) (by kernel_rfl) (by kernel_rfl) (by kernel_rfl) (by kernel_rfl) (fun _ _ _ h => h) (by assumption) ?_
          (try simp only [Act.put, List.setIfInBounds_toArray, List.set_cons_zero, List.set_cons_succ])
          refine hand_skip 8 (some 91) (by kernel_rfl) (by kernel_rfl) (by kernel_rfl) (by kernel_rfl) (by kernel_rfl) (fun _ _ _ h => h) (by assumption) ?_
          (try simp only [Act.put, List.setIfInBounds_toArray, List.set_cons_zero, List.set_cons_succ])
          refine hand_skip 9 (some 92) (by kernel_rfl) (by kernel_rfl) (by kernel_rfl) (by kernel_rfl) (by kernel_rfl) (fun _ _ _ h => h) (by assumption) ?_
          (try simp only [Act.put, List.setIfInBounds_toArray, List.set_cons_zero, List.set_cons_succ])
          refine hand_skip 10 (some 93) (by kernel_rfl) (by kernel_rfl) (by kernel_rfl) (by kernel_rfl) (by kernel_rfl) (fun _ _ _ h => h) (by assumption) ?_
          (try simp only [Act.put, List.setIfInBounds_toArray, List.set_cons_zero, List.set_cons_succ])
          refine hand_skip 11 (some 94) (by kernel_rfl) (by kernel_rfl) (by kernel_rfl) (by kernel_rfl) (by kernel_rfl) (fun _ _ _ h => h) (by assumption) ?_
          (try simp only [Act.put, List.setIfInBounds_toArray, List.set_cons_zero, List.set_cons_succ])
          refine hand_skip 12 (some 95) (by kernel_rfl) (by kernel_rfl) (by kernel_rfl) (by kernel_rfl) (by kernel_rfl) (fun _ _ _ h => h) (by assumption) ?_
          (try simp only [Act.put, List.setIfInBounds_toArray, List.set_cons_zero, List.set_cons_succ])
          refine hand_skip 13 (some 96) (by kernel_rfl) (by kernel_rfl) (by kernel_rfl) (by kernel_rfl) (by kernel_rfl) (fun _ _ _ h => h) (by assumption) ?_
          (try simp only [Act.put, List.setIfInBounds_toArray, List.set_cons_zero, List.set_cons_succ])
          refine hand_skip 14 (some 97) (by kernel_rfl) (by kernel_rfl) (by kernel_rfl) (by kernel_rfl) (by kernel_rfl) (fun _ _ _ h => h) (by assumption) ?_
          (try simp only [Act.put, List.setIfInBounds_toArray, List.set_cons_zero, List.set_cons_succ])
          refine hand_skip 15 (some 98) (by kernel_rfl) (by kernel_rfl) (by kernel_rfl) (by kernel_rfl) (by kernel_rfl) (fun _ _ _ h => h) (by assumption) ?_
          (try simp only [Act.put, List.setIfInBounds_toArray, List.set_cons_zero, List.set_cons_succ])
          refine hand_take 16 (some 99) ?_ (by kernel_rfl) (by kernel_rfl) (by kernel_rfl) (by kernel_rfl) (by kernel_rfl) (fun _ _ _ h => h) ?_ (by assumption) ?_
          rotate_left
          · (intro o ho w hSw; (simp only [List.getElem?_toArray, List.getElem?_cons_succ, List.getElem?_cons_zero, Option.some.injEq] at ho); subst ho; (try dsimp only at hSw); go_simp; (first | done | with_reducible rfl))
          (try simp only [Act.put, List.setIfInBounds_toArray, List.set_cons_zero, List.set_cons_succ])
          refine hand_take 17 (some 6) ?_ (by kernel_rfl) (by kernel_rfl) (by kernel_rfl) (by kernel_rfl) (by kernel_rfl) (fun _ _ _ h => h) ?_ (by assumption) ?_
          rotate_left
          · (intro o ho w hSw; (simp only [List.getElem?_toArray, List.getElem?_cons_succ, List.getElem?_cons_zero, Option.some.injEq] at ho); subst ho; (try dsimp only at hSw); go_simp; (first | done | with_reducible rfl))
          (try simp only [Act.put, List.setIfInBounds_toArray, List.set_cons_zero, List.set_cons_succ])
          refine wpAnyH_done (by kernel_rfl) ?_ _
          clear hHeld
          go_wp2
          go_returns
          exact ⟨_, F, l, P, rfl, (HJ5.out.below HB7.out).mono (by omega), fun j hj => .inl hj, (Turned.of_below (bel_to HB7.out HBW5.out) _)⟩
        | true =>
          have HCM := kept (compactP_any (HJ5.out.below HB7.out).ix HJ5.out.good.inv (by omega) q.1)
          refine hand_take 6 (some 89) ?_ (by kernel_rfl) (by kernel_rfl) (by kernel_rfl) (by kernel_rfl) (by kernel_rfl) (fun _ _ _ h => h) ?_ (by assumption) ?_
          rotate_left
          · (intro o ho w hSw; (simp only [List.getElem?_toArray, List.getElem?_cons_succ, List.getElem?_cons_zero, Option.some.injEq] at ho); subst ho; (try dsimp only at hSw); go_simp; (first | done | with_reducible rfl))
          (try simp only [Act.put, List.setIfInBounds_toArray, List.set_cons_zero, List.set_cons_succ])
          refine hand_take 7 (some 90) ?_ (by kernel_rfl) (by kernel_rfl) (by kernel_rfl) (by kernel_rfl) (by kernel_rfl) (fun _ _ _ h => h) ?_ (by assumption) ?_
          rotate_left
          · (intro o ho w hSw; (simp only [List.getElem?_toArray, List.getElem?_cons_succ, List.getElem?_cons_zero, Option.some.injEq] at ho); subst ho; (try dsimp only at hSw); go_simp; (first | done | with_reducible rfl))
          (try simp only [Act.put, List.setIfInBounds_toArray, List.set_cons_zero, List.set_cons_succ])
          refine hand_take 8 (some 91) ?_ (by kernel_rfl) (by kernel_rfl) (by kernel_rfl) (by kernel_rfl) (by kernel_rfl) (fun _ _ _ h => h) ?_ (by assumption) ?_
          rotate_left
          · (intro o ho w hSw; (simp only [List.getElem?_toArray, List.getElem?_cons_succ, List.getElem?_cons_zero, Option.some.injEq] at ho); subst ho; (try dsimp only at hSw); go_simp; (first | done | with_reducible rfl))
          (try simp only [Act.put, List.setIfInBounds_toArray, List.set_cons_zero, List.set_cons_succ])
          refine hand_take 9 (some 92) ?_ (by kernel_rfl) (by kernel_rfl) (by kernel_rfl) (by kernel_rfl) (by kernel_rfl) (fun _ _ _ h => h) ?_ (by assumption) ?_
          rotate_left
          · (intro o ho w hSw; (simp only [List.getElem?_toArray, List.getElem?_cons_succ, List.getElem?_cons_zero, Option.some.injEq] at ho); subst ho; (try dsimp only at hSw); go_simp; (first | done | with_reducible rfl))
          (try simp only [Act.put, List.setIfInBounds_toArray, List.set_cons_zero, List.set_cons_succ])
          refine hand_take 11 (some 94) ?_ (by kernel_rfl) (by kernel_rfl) (by kernel_rfl) (by kernel_rfl) (by kernel_rfl) (fun _ _ _ h => h) ?_ (by assumption) ?_
          rotate_left
          · (intro o ho w hSw; (simp only [List.getElem?_toArray, List.getElem?_cons_succ, List.getElem?_cons_zero, Option.some.injEq] at ho); subst ho; (try dsimp only at hSw); go_simp; (first | done | with_reducible rfl))
          (try simp only [Act.put, List.setIfInBounds_toArray, List.set_cons_zero, List.set_cons_succ])
          refine hand_take 12 (some 95) ?_ (by kernel_rfl) (by kernel_rfl) (by kernel_rfl) (by kernel_rfl) (by kernel_rfl) (fun _ _ _ h => h) ?_ (by assumption) ?_
          rotate_left
          · (intro o ho w hSw; (simp only [List.getElem?_toArray, List.getElem?_cons_succ, List.getElem?_cons_zero, Option.some.injEq] at ho); subst ho; (try dsimp only at hSw); go_simp; (first | done | with_reducible rfl))
          (try simp only [Act.put, List.setIfInBounds_toArray, List.set_cons_zero, List.set_cons_succ])
          refine hand_take 13 (some 96) ?_ (by kernel_rfl) (by kernel_rfl) (by kernel_rfl) (by kernel_rfl) (by kernel_rfl) (fun _ _ _ h => h) ?_ (by assumption) ?_
          rotate_left
          · (intro o ho w hSw; (simp only [List.getElem?_toArray, List.getElem?_cons_succ, List.getElem?_cons_zero, Option.some.injEq] at ho); subst ho; (try dsimp only at hSw); go_simp; (first | done | with_reducible rfl))
          (try simp only [Act.put, List.setIfInBounds_toArray, List.set_cons_zero, List.set_cons_succ])
          refine hand_ready 10 (by kernel_rfl) (by kernel_rfl) (fun o ho K hK => ?_)
          (simp only [List.getElem?_toArray, List.getElem?_cons_succ, List.getElem?_cons_zero, Option.some.injEq] at ho)
          subst ho
          go_simp
          (go_at_call 17; (with_reducible refine HCM.out.mono ?_); rintro e w8 ⟨A8, n8, c8, rfl, h8⟩; obtain ⟨ho8, hl8⟩ := h8.out; obtain ⟨F8, hj8, hf8, t8⟩ := (HJ5.out.below HB7.out).dev hl8 (Nat.le_succ _) ((HJ5.out.good.compact q.1).mono (Nat.le_succ _)); have HD8 := kept (And.intro hj8 (And.intro hf8 t8)); have HO8 := kept ho8; have HS3 := kept (show (fun W' : World => W'.cell? ⟨W.heap.size + 1, 0, none⟩ = some (.int .i64 q.1)) w8 from (t8.blk (HR3.out.below (bel_to HB7.out HB5.out) HR3.out.lt) (fun e => by have := HLTF.out _ e.1; omega)).cell 0); clear ho8 hl8 hj8 hf8 t8 h8)
          (try go_wp2_with fail)
          refine hK.out _ _ ?_ (fun hHeld => ?_)
          · ((try dsimp only); (first | with_reducible exact HS2.out | with_reducible exact HS3.out | with_reducible exact HS4.out | with_reducible exact HS5.out))
          clear hK K
          (try simp only [Act.put, List.setIfInBounds_toArray, List.set_cons_zero, List.set_cons_succ])
          refine hand_ready 14 (by kernel_rfl) (by kernel_rfl) (fun o ho K hK => ?_)
          (simp only [List.getElem?_toArray, List.getElem?_cons_succ, List.getElem?_cons_zero, Option.some.injEq] at ho)
          subst ho
          go_simp
          (obtain ⟨Ay8, ny8, ky8, ym8, ys8, Ks8, hy8⟩ := HD8.out.1.rx; go_at_call 40; (with_reducible refine (xcompact_any hy8 (by omega) q.1).mono ?_); rintro e w9 ⟨A9, n9, c9, ps9, rfl, ho9, hn9, Ay9, ny9, ky9, ym9, ys9, Ks9, hy9, t9⟩; have HJ9 := kept (And.intro (HD8.out.1.doc (Nat.le_succ _) ⟨Ay9, ny9, ky9, ym9, ys9, Ks9, hy9⟩ t9) t9); have HSM9 := kept (samerevs_any (c := c8) (d := c9) (RdR.of_own (gown_turned HO8.out t9 (fun j hj e => by obtain ⟨c, hc⟩ := gown_cl (k := 0) HO8.out hj; exact ne_of_types hc (show w8.heap[y]? = some _ from hy8.box) (by decide) e))) (RdR.of_own ho9) (by have h1 := HO8.out.1; rw [rvC_length] at h1; have h2 := (sortRv_perm (keepX P q.1)).length_eq; have h3 := List.length_filterMap_le (fun e : PE => (getG e.2 q.1).map fun f => f.1) P; have h4 := HJ5.out.good.inv.ln; have h5 : (keepX P q.1).length ≤ P.length := h3; omega)); have HS4 := kept (show (fun W' : World => W'.cell? ⟨W.heap.size + 1, 0, none⟩ = some (.int .i64 q.1)) w9 from by have hl := block_lt_of_cell HS3.out; have hyl := HYL.out; show w9.cell? ⟨W.heap.size + 1, 0, none⟩ = some (.int .i64 q.1); rw [World.cell?_of_block (t9.block _ hl (by show ¬ (W.heap.size + 1 = y); omega))]; exact HS3.out); clear hy8 ho9 hy9 t9)
          (try go_wp2_with fail)
          refine hK.out _ _ ?_ (fun hHeld => ?_)
          · ((try dsimp only); (first | with_reducible exact HS2.out | with_reducible exact HS3.out | with_reducible exact HS4.out | with_reducible exact HS5.out))
          clear hK K
          (try simp only [Act.put, List.setIfInBounds_toArray, List.set_cons_zero, List.set_cons_succ])
          refine hand_ready 15 (by kernel_rfl) (by kernel_rfl) (fun o ho K hK => ?_)
          (simp only [List.getElem?_toArray, List.getElem?_cons_succ, List.getElem?_cons_zero, Option.some.injEq] at ho)
          subst ho
          go_simp
          (go_at_call 16; (with_reducible refine HSM9.out.mono ?_); rintro e w10 ⟨rfl, hb10⟩; have HB10 := kept hb10; have HS5 := kept (show (fun W' : World => W'.cell? ⟨W.heap.size + 1, 0, none⟩ = some (.int .i64 q.1)) w10 from (Keeps.of_below hb10).cell_ HS4.out); clear hb10)
          (try go_wp2_with fail)
          refine hK.out _ _ ?_ (fun hHeld => ?_)
          · ((try dsimp only); (first | with_reducible exact HS2.out | with_reducible exact HS3.out | with_reducible exact HS4.out | with_reducible exact HS5.out))
          clear hK K
          (try simp only [Act.put, List.setIfInBounds_toArray, List.set_cons_zero, List.set_cons_succ])
          refine hand_take 16 (some 99) ?_ (by kernel_rfl) (by kernel_rfl) (by kernel_rfl) (by kernel_rfl) (by kernel_rfl) (fun _ _ _ h => h) ?_ (by assumption) ?_
          rotate_left
          · (intro o ho w hSw; (simp only [List.getElem?_toArray, List.getElem?_cons_succ, List.getElem?_cons_zero, Option.some.injEq] at ho); subst ho; (try dsimp only at hSw); go_simp; (first | done | with_reducible rfl))
          (try simp only [Act.put, List.setIfInBounds_toArray, List.set_cons_zero, List.set_cons_succ])
          refine hand_take 17 (some 6) ?_ (by kernel_rfl) (by kernel_rfl) (by kernel_rfl) (by kernel_rfl) (by kernel_rfl) (fun _ _ _ h => h) ?_ (by assumption) ?_
          rotate_left
          · (intro o ho w hSw; (simp only [List.getElem?_toArray, List.getElem?_cons_succ, List.getElem?_cons_zero, Option.some.injEq] at ho); subst ho; (try dsimp only at hSw); go_simp; (first | done | with_reducible rfl))
          (try simp only [Act.put, List.setIfInBounds_toArray, List.set_cons_zero, List.set_cons_succ])
          refine wpAnyH_done (by kernel_rfl) ?_ _
          clear hHeld
          go_wp2
          go_returns
          obtain ⟨hj9, t9⟩ := HJ9.out
          exact ⟨_, F8, l, _, rfl, hj9.below HB10.out, fun j hj => (HD8.out.2.1 j hj).imp id (fun e => Nat.le_trans (bel_to HB7.out HBW5.out).size e), (((Turned.of_below (bel_to HB7.out HBW5.out) _).trans (HD8.out.2.2.mono (fun j _ e => .inl ⟨e.1, NU.back (bel_to HB7.out HBW5.out) e.2⟩))).trans (t9.mono (fun j _ e => .inr e))).trans (Turned.of_below HB10.out _)⟩
      · have k2' : (k == 2) = false := by simpa using k2
        by_cases k3 : k = 3
        · subst k3
          go_wp2
          clear a0
          have HDV := kept (xrestP_any (HJ3.out.ix.below ((Below.refl _ w3).drew)) HJ3.out.good.inv (by omega) B3 n c3 xs HRD3.out (by omega) q c v)
          refine wp_region_held_drew (S := (fun W' : World => (W'.cell? ⟨W.heap.size + 1, 0, none⟩ = some (.int .i64 q.1) ∧ W'.cell? ⟨W.heap.size + 1, 1, none⟩ = some (.int .i64 q.2)) ∧ W'.cell? ⟨W.heap.size, 1, none⟩ = some (.slice A n kc) ∧ W'.cell? ⟨W.heap.size, 5, none⟩ = some (.int .i64 c) ∧ W'.cell? ⟨W.heap.size, 6, none⟩ = some (.int .i64 v))) (by kernel_rfl) ?_ (fun hHeld => ?_)
          · ((try dsimp only); (first | with_reducible exact HS0.out | with_reducible exact HS1.out | with_reducible exact HS2.out))
          refine hand_take 0 (some 102) ?_ (by kernel_rfl) (by kernel_rfl) (by kernel_rfl) (by kernel_rfl) (by kernel_rfl) (fun _ _ _ h => h) ?_ (by assumption) ?_
          rotate_left
          · (intro o ho w hSw; (simp only [List.getElem?_toArray, List.getElem?_cons_succ, List.getElem?_cons_zero, Option.some.injEq] at ho); subst ho; (try dsimp only at hSw); go_simp; (first | done | with_reducible rfl))
          (try simp only [Act.put, List.setIfInBounds_toArray, List.set_cons_zero, List.set_cons_succ])
          refine hand_take 1 (some 103) ?_ (by kernel_rfl) (by kernel_rfl) (by kernel_rfl) (by kernel_rfl) (by kernel_rfl) (fun _ _ _ h => h) ?_ (by assumption) ?_
          rotate_left
          · (intro o ho w hSw; (simp only [List.getElem?_toArray, List.getElem?_cons_succ, List.getElem?_cons_zero, Option.some.injEq] at ho); subst ho; (try dsimp only at hSw); go_simp; (first | done | with_reducible rfl))
          (try simp only [Act.put, List.setIfInBounds_toArray, List.set_cons_zero, List.set_cons_succ])
          refine hand_take 2 (some 104) ?_ (by kernel_rfl) (by kernel_rfl) (by kernel_rfl) (by kernel_rfl) (by kernel_rfl) (fun _ _ _ h => h) ?_ (by assumption) ?_
          rotate_left
          · (intro o ho w hSw; (simp only [List.getElem?_toArray, List.getElem?_cons_succ, List.getElem?_cons_zero, Option.some.injEq] at ho); subst ho; (try dsimp only at hSw); go_simp; (first | done | with_reducible rfl))
          (try simp only [Act.put, List.setIfInBounds_toArray, List.set_cons_zero, List.set_cons_succ])
          refine hand_take 3 (some 105) ?_ (by kernel_rfl) (by kernel_rfl) (by kernel_rfl) (by kernel_rfl) (by kernel_rfl) (fun _ _ _ h => h) ?_ (by assumption) ?_
          rotate_left
          · (intro o ho w hSw; (simp only [List.getElem?_toArray, List.getElem?_cons_succ, List.getElem?_cons_zero, Option.some.injEq] at ho); subst ho; (try dsimp only at hSw); go_simp; (first | done | with_reducible rfl))
          (try simp only [Act.put, List.setIfInBounds_toArray, List.set_cons_zero, List.set_cons_succ])
          refine hand_take 4 (some 106) ?_ (by kernel_rfl) (by kernel_rfl) (by kernel_rfl) (by kernel_rfl) (by kernel_rfl) (fun _ _ _ h => h) ?_ (by assumption) ?_
          rotate_left
          · (intro o ho w hSw; (simp only [List.getElem?_toArray, List.getElem?_cons_succ, List.getElem?_cons_zero, Option.some.injEq] at ho); subst ho; (try dsimp only at hSw); go_simp; (first | done | with_reducible rfl))
          (try simp only [Act.put, List.setIfInBounds_toArray, List.set_cons_zero, List.set_cons_succ])
          refine hand_take 5 (some 107) ?_ (by kernel_rfl) (by kernel_rfl) (by kernel_rfl) (by kernel_rfl) (by kernel_rfl) (fun _ _ _ h => h) ?_ (by assumption) ?_
          rotate_left
          · (intro o ho w hSw; (simp only [List.getElem?_toArray, List.getElem?_cons_succ, List.getElem?_cons_zero, Option.some.injEq] at ho); subst ho; (try dsimp only at hSw); go_simp; (first | done | with_reducible rfl))
          (try simp only [Act.put, List.setIfInBounds_toArray, List.set_cons_zero, List.set_cons_succ])
          refine hand_take 6 (some 108) ?_ (by kernel_rfl) (by kernel_rfl) (by kernel_rfl) (by kernel_rfl) (by kernel_rfl) (fun _ _ _ h => h) ?_ (by assumption) ?_
          rotate_left
          · (intro o ho w hSw; (simp only [List.getElem?_toArray, List.getElem?_cons_succ, List.getElem?_cons_zero, Option.some.injEq] at ho); subst ho; (try dsimp only at hSw); go_simp; (first | done | with_reducible rfl))
          (try simp only [Act.put, List.setIfInBounds_toArray, List.set_cons_zero, List.set_cons_succ])
          refine hand_take 7 (some 109) ?_ (by kernel_rfl) (by kernel_rfl) (by kernel_rfl) (by kernel_rfl) (by kernel_rfl) (fun _ _ _ h => h) ?_ (by assumption) ?_
          rotate_left
          · (intro o ho w hSw; (simp only [List.getElem?_toArray, List.getElem?_cons_succ, List.getElem?_cons_zero, Option.some.injEq] at ho); subst ho; (try dsimp only at hSw); go_simp; (first | done | with_reducible rfl))
          (try simp only [Act.put, List.setIfInBounds_toArray, List.set_cons_zero, List.set_cons_succ])
          refine hand_take 9 (some 111) ?_ (by kernel_rfl) (by kernel_rfl) (by kernel_rfl) (by kernel_rfl) (by kernel_rfl) (fun _ _ _ h => h) ?_ (by assumption) ?_
          rotate_left
          · (intro o ho w hSw; (simp only [List.getElem?_toArray, List.getElem?_cons_succ, List.getElem?_cons_zero, Option.some.injEq] at ho); subst ho; (try dsimp only at hSw); go_simp; (first | done | with_reducible rfl))
          (try simp only [Act.put, List.setIfInBounds_toArray, List.set_cons_zero, List.set_cons_succ])
          refine hand_take 10 (some 112) ?_ (by kernel_rfl) (by kernel_rfl) (by kernel_rfl) (by kernel_rfl) (by kernel_rfl) (fun _ _ _ h => h) ?_ (by assumption) ?_
          rotate_left
          · (intro o ho w hSw; (simp only [List.getElem?_toArray, List.getElem?_cons_succ, List.getElem?_cons_zero, Option.some.injEq] at ho); subst ho; (try dsimp only at hSw); go_simp; (first | done | with_reducible rfl))
          (try simp only [Act.put, List.setIfInBounds_toArray, List.set_cons_zero, List.set_cons_succ])
          refine hand_take 11 (some 113) ?_ (by kernel_rfl) (by kernel_rfl) (by kernel_rfl) (by kernel_rfl) (by kernel_rfl) (fun _ _ _ h => h) ?_ (by assumption) ?_
          rotate_left
          · (intro o ho w hSw; (simp only [List.getElem?_toArray, List.getElem?_cons_succ, List.getElem?_cons_zero, Option.some.injEq] at ho); subst ho; (try dsimp only at hSw); go_simp; (first | done | with_reducible rfl))
          (try simp only [Act.put, List.setIfInBounds_toArray, List.set_cons_zero, List.set_cons_succ])
          refine hand_take 12 (some 114) ?_ (by kernel_rfl) (by kernel_rfl) (by kernel_rfl) (by kernel_rfl) (by kernel_rfl) (fun _ _ _ h => h) ?_ (by assumption) ?_
          rotate_left
          · (intro o ho w hSw; (simp only [List.getElem?_toArray, List.getElem?_cons_succ, List.getElem?_cons_zero, Option.some.injEq] at ho); subst ho; (try dsimp only at hSw); go_simp; (first | done | with_reducible rfl))
          (try simp only [Act.put, List.setIfInBounds_toArray, List.set_cons_zero, List.set_cons_succ])
          refine hand_take 13 (some 115) ?_ (by kernel_rfl) (by kernel_rfl) (by kernel_rfl) (by kernel_rfl) (by kernel_rfl) (fun _ _ _ h => h) ?_ (by assumption) ?_
          rotate_left
          · (intro o ho w hSw; (simp only [List.getElem?_toArray, List.getElem?_cons_succ, List.getElem?_cons_zero, Option.some.injEq] at ho); subst ho; (try dsimp only at hSw); go_simp; (first | done | with_reducible rfl))
          (try simp only [Act.put, List.setIfInBounds_toArray, List.set_cons_zero, List.set_cons_succ])
          refine hand_take 14 (some 116) ?_ (by kernel_rfl) (by kernel_rfl) (by kernel_rfl) (by kernel_rfl) (by kernel_rfl) (fun _ _ _ h => h) ?_ (by assumption) ?_
          rotate_left
          · (intro o ho w hSw; (simp only [List.getElem?_toArray, List.getElem?_cons_succ, List.getElem?_cons_zero, Option.some.injEq] at ho); subst ho; (try dsimp only at hSw); go_simp; (first | done | with_reducible rfl))
          (try simp only [Act.put, List.setIfInBounds_toArray, List.set_cons_zero, List.set_cons_succ])
          refine hand_take 15 (some 117) ?_ (by kernel_rfl) (by kernel_rfl) (by kernel_rfl) (by kernel_rfl) (by kernel_rfl) (fun _ _ _ h => h) ?_ (by assumption) ?_
          rotate_left
          · (intro o ho w hSw; (simp only [List.getElem?_toArray, List.getElem?_cons_succ, List.getElem?_cons_zero, Option.some.injEq] at ho); subst ho; (try dsimp only at hSw); go_simp; (first | done | with_reducible rfl))
          (try simp only [Act.put, List.setIfInBounds_toArray, List.set_cons_zero, List.set_cons_succ])
          refine hand_take 16 (some 118) ?_ (by kernel_rfl) (by kernel_rfl) (by kernel_rfl) (by kernel_rfl) (by kernel_rfl) (fun _ _ _ h => h) ?_ (by assumption) ?_
          rotate_left
          · (intro o ho w hSw; (simp only [List.getElem?_toArray, List.getElem?_cons_succ, List.getElem?_cons_zero, Option.some.injEq] at ho); subst ho; (try dsimp only at hSw); go_simp; (first | done | with_reducible rfl))
          (try simp only [Act.put, List.setIfInBounds_toArray, List.set_cons_zero, List.set_cons_succ])
          refine hand_ready 8 (by kernel_rfl) (by kernel_rfl) (fun o ho K hK => ?_)
          (simp only [List.getElem?_toArray, List.getElem?_cons_succ, List.getElem?_cons_zero, Option.some.injEq] at ho)
          subst ho
          go_simp
          (go_at_call 41; (with_reducible refine HDV.out.mono ?_); rintro e w6 ⟨rfl, hl⟩; obtain ⟨F6, hj6, hf6, t6⟩ := (HJ3.out.below ((Below.refl _ w3).drew)).dev hl (Nat.le_succ _) (HJ3.out.good.change xs q (rest_fit q c v)); have HD6 := kept (And.intro hj6 (And.intro hf6 t6)); have HS1 := kept (HSK.out w6 t6); have HDC := kept (fun (Ay' : Option Addr) (ny' ky' : Nat) (ym' ys' : Int) (Ks' : List DK) (hy6 : RXs w6 w0.heap.size y (N + 1) Ay' ny' ky' ym' ys' Ks') => xrest_any hy6 (by omega) A n kc xs (fun W' t => HR.out.below (bel_left (HD6.out.1.bel) t (fun j e => by rw [e]; exact HD6.out.1.rx.le))) (by omega) q c v false); clear hl hj6 hf6 t6)
          (try go_wp2_with fail)
          refine hK.out _ _ ?_ (fun hHeld => ?_)
          · ((try dsimp only); (first | with_reducible exact HS0.out | with_reducible exact HS1.out | with_reducible exact HS2.out))
          clear hK K
          (try simp only [Act.put, List.setIfInBounds_toArray, List.set_cons_zero, List.set_cons_succ])
          refine hand_ready 17 (by kernel_rfl) (by kernel_rfl) (fun o ho K hK => ?_)
          (simp only [List.getElem?_toArray, List.getElem?_cons_succ, List.getElem?_cons_zero, Option.some.injEq] at ho)
          subst ho
          go_simp
          (obtain ⟨Ay', ny', ky', ym', ys', Ks', hy6⟩ := HD6.out.1.rx; go_at_call 42; (with_reducible refine (HDC.out _ _ _ _ _ _ hy6).mono ?_); rintro e w7 ⟨er, rfl, Ay7, ny7, ky7, ym7, ys7, Ks7, hy7, t7⟩; have HMID := kept (mid_doc HD6.out.1 (fun j hj => (HD6.out.2.1 j hj).imp id (fun e => Nat.le_trans HBW3.out.size e)) (HTT.out w6 HD6.out.2.2) (HOW.out w6 HD6.out.2.2) (fun j hj e => HNF.out j hj (HD6.out.2.1 j e)) ⟨Ay7, ny7, ky7, ym7, ys7, Ks7, hy7⟩ t7); have HS2 := kept (HSK2.out w6 w7 HS1.out t7); clear hy6 hy7 t7)
          (try go_wp2_with fail)
          refine hK.out _ _ ?_ (fun hHeld => ?_)
          · ((try dsimp only); (first | with_reducible exact HS0.out | with_reducible exact HS1.out | with_reducible exact HS2.out))
          clear hK K
          (try simp only [Act.put, List.setIfInBounds_toArray, List.set_cons_zero, List.set_cons_succ])
          refine hand_take 18 (some 9) ?_ (by kernel_rfl) (by kernel_rfl) (by kernel_rfl) (by kernel_rfl) (by kernel_rfl) (fun _ _ _ h => h) ?_ (by assumption) ?_
          rotate_left
          · (intro o ho w hSw; (simp only [List.getElem?_toArray, List.getElem?_cons_succ, List.getElem?_cons_zero, Option.some.injEq] at ho); subst ho; (try dsimp only at hSw); go_simp; (first | done | with_reducible rfl))
          (try simp only [Act.put, List.setIfInBounds_toArray, List.set_cons_zero, List.set_cons_succ])
          refine hand_take 19 (some 10) ?_ (by kernel_rfl) (by kernel_rfl) (by kernel_rfl) (by kernel_rfl) (by kernel_rfl) (fun _ _ _ h => h) ?_ (by assumption) ?_
          rotate_left
          · (intro o ho w hSw; (simp only [List.getElem?_toArray, List.getElem?_cons_succ, List.getElem?_cons_zero, Option.some.injEq] at ho); subst ho; (try dsimp only at hSw); go_simp; (first | done | with_reducible rfl))
          (try simp only [Act.put, List.setIfInBounds_toArray, List.set_cons_zero, List.set_cons_succ])
          refine wpAnyH_done (by kernel_rfl) ?_ _
          clear hHeld
          go_wp2
          go_loopw [122] (fun i wr => ∃ (j : Nat), j ≤ n ∧ i = .int .i64 (j : Int) ∧ Hid (MidX w0 W x F y N B3 n c3 wr)) (fun i _ => n - (intOf i).toNat)
          case atStart => exact ⟨0, Nat.zero_le _, rfl, HMID⟩
          case round =>
            obtain ⟨j, hj, rfl, HI⟩ := hrel
            have hj0 : (0 : Int) ≤ (j : Int) := by omega
            by_cases hjn : j < n
            · obtain ⟨g, z, hB, cz0, fz, hpk⟩ := HI.out.poke hjn HW0.out
              subst hB
              have hjn' : (j : Int) < (n : Int) := by omega
              have hwj : wrap64 ((j : Int) + 1) = (j : Int) + 1 := IntWalk.wrap64_in _ ⟨by omega, by omega⟩
              have HPK := kept hpk
              have HJN := kept hjn
              have cz : wr.cell? ⟨g, j, none⟩ = some (.int .u8 (z.toNat : Int)) := cz0
              have HBY := kept (bits_byte2 z)
              clear hpk hjn cz0
              go_wp2
              go_roundw
              case rel => exact ⟨j + 1, by have := HJN.out; omega, by go_num, by rw [HBY.out]; exact kept (HPK.out _)⟩
              case measure => have := HJN.out; simp [intOf]; omega
            · obtain rfl : j = n := by omega
              have hjn' : ¬ (j : Int) < (j : Int) := by omega
              go_wp2
              go_returns
              exact HI.out.done _
        · have k3' : (k == 3) = false := by simpa using k3
          go_wp2
          clear a0
          have HDV := kept (xrestTP_any (HJ3.out.ix.below ((Below.refl _ w3).drew)) HJ3.out.good.inv (by omega) B3 n c3 xs HRD3.out (by omega) q 0 0)
          refine wp_region_held_drew (S := (fun W' : World => (W'.cell? ⟨W.heap.size + 1, 0, none⟩ = some (.int .i64 q.1) ∧ W'.cell? ⟨W.heap.size + 1, 1, none⟩ = some (.int .i64 q.2)) ∧ W'.cell? ⟨W.heap.size, 1, none⟩ = some (.slice A n kc) ∧ W'.cell? ⟨W.heap.size, 5, none⟩ = some (.int .i64 c) ∧ W'.cell? ⟨W.heap.size, 6, none⟩ = some (.int .i64 v))) (by kernel_rfl) ?_ (fun hHeld => ?_)
          · ((try dsimp only); (first | with_reducible exact HS0.out | with_reducible exact HS1.out | with_reducible exact HS2.out))
          refine hand_take 0 (some 45) ?_ (by kernel_rfl) (by kernel_rfl) (by kernel_rfl) (by kernel_rfl) (by kernel_rfl) (fun _ _ _ h => h) ?_ (by assumption) ?_
          rotate_left
          · (intro o ho w hSw; (simp only [List.getElem?_toArray, List.getElem?_cons_succ, List.getElem?_cons_zero, Option.some.injEq] at ho); subst ho; (try dsimp only at hSw); go_simp; (first | done | with_reducible rfl))
          (try simp only [Act.put, List.setIfInBounds_toArray, List.set_cons_zero, List.set_cons_succ])
          refine hand_take 1 (some 46) ?_ (by kernel_rfl) (by kernel_rfl) (by kernel_rfl) (by kernel_rfl) (by kernel_rfl) (fun _ _ _ h => h) ?_ (by assumption) ?_
          rotate_left
          · (intro o ho w hSw; (simp only [List.getElem?_toArray, List.getElem?_cons_succ, List.getElem?_cons_zero, Option.some.injEq] at ho); subst ho; (try dsimp only at hSw); go_simp; (first | done | with_reducible rfl))
          (try simp only [Act.put, List.setIfInBounds_toArray, List.set_cons_zero, List.set_cons_succ])
          refine hand_take 2 (some 47) ?_ (by kernel_rfl) (by kernel_rfl) (by kernel_rfl) (by kernel_rfl) (by kernel_rfl) (fun _ _ _ h => h) ?_ (by assumption) ?_
          rotate_left
          · (intro o ho w hSw; (simp only [List.getElem?_toArray, List.getElem?_cons_succ, List.getElem?_cons_zero, Option.some.injEq] at ho); subst ho; (try dsimp only at hSw); go_simp; (first | done | with_reducible rfl))
          (try simp only [Act.put, List.setIfInBounds_toArray, List.set_cons_zero, List.set_cons_succ])
          refine hand_take 3 (some 48) ?_ (by kernel_rfl) (by kernel_rfl) (by kernel_rfl) (by kernel_rfl) (by kernel_rfl) (fun _ _ _ h => h) ?_ (by assumption) ?_
          rotate_left
          · (intro o ho w hSw; (simp only [List.getElem?_toArray, List.getElem?_cons_succ, List.getElem?_cons_zero, Option.some.injEq] at ho); subst ho; (try dsimp only at hSw); go_simp; (first | done | with_reducible rfl))
          (try simp only [Act.put, List.setIfInBounds_toArray, List.set_cons_zero, List.set_cons_succ])
          refine hand_take 5 (some 50) ?_ (by kernel_rfl) (by kernel_rfl) (by kernel_rfl) (by kernel_rfl) (by kernel_rfl) (fun _ _ _ h => h) ?_ (by assumption) ?_
          rotate_left
          · (intro o ho w hSw; (simp only [List.getElem?_toArray, List.getElem?_cons_succ, List.getElem?_cons_zero, Option.some.injEq] at ho); subst ho; (try dsimp only at hSw); go_simp; (first | done | with_reducible rfl))
          (try simp only [Act.put, List.setIfInBounds_toArray, List.set_cons_zero, List.set_cons_succ])
          refine hand_take 6 (some 51) ?_ (by kernel_rfl) (by kernel_rfl) (by kernel_rfl) (by kernel_rfl) (by kernel_rfl) (fun _ _ _ h => h) ?_ (by assumption) ?_
          rotate_left
          · (intro o ho w hSw; (simp only [List.getElem?_toArray, List.getElem?_cons_succ, List.getElem?_cons_zero, Option.some.injEq] at ho); subst ho; (try dsimp only at hSw); go_simp; (first | done | with_reducible rfl))
          (try simp only [Act.put, List.setIfInBounds_toArray, List.set_cons_zero, List.set_cons_succ])
          refine hand_take 7 (some 52) ?_ (by kernel_rfl) (by kernel_rfl) (by kernel_rfl) (by kernel_rfl) (by kernel_rfl) (fun _ _ _ h => h) ?_ (by assumption) ?_
          rotate_left
          · (intro o ho w hSw; (simp only [List.getElem?_toArray, List.getElem?_cons_succ, List.getElem?_cons_zero, Option.some.injEq] at ho); subst ho; (try dsimp only at hSw); go_simp; (first | done | with_reducible rfl))
          (try simp only [Act.put, List.setIfInBounds_toArray, List.set_cons_zero, List.set_cons_succ])
          refine hand_take 8 (some 53) ?_ (by kernel_rfl) (by kernel_rfl) (by kernel_rfl) (by kernel_rfl) (by kernel_rfl) (fun _ _ _ h => h) ?_ (by assumption) ?_
          rotate_left
          · (intro o ho w hSw; (simp only [List.getElem?_toArray, List.getElem?_cons_succ, List.getElem?_cons_zero, Option.some.injEq] at ho); subst ho; (try dsimp only at hSw); go_simp; (first | done | with_reducible rfl))
          (try simp only [Act.put, List.setIfInBounds_toArray, List.set_cons_zero, List.set_cons_succ])
          refine hand_ready 4 (by kernel_rfl) (by kernel_rfl) (fun o ho K hK => ?_)
          (simp only [List.getElem?_toArray, List.getElem?_cons_succ, List.getElem?_cons_zero, Option.some.injEq] at ho)
          subst ho
          go_simp
          (go_at_call 41; (with_reducible refine HDV.out.mono ?_); rintro e w6 ⟨rfl, hl⟩; obtain ⟨F6, hj6, hf6, t6⟩ := (HJ3.out.below ((Below.refl _ w3).drew)).dev hl (Nat.le_succ _) (HJ3.out.good.change xs q (tomb_fit q)); have HD6 := kept (And.intro hj6 (And.intro hf6 t6)); have HS1 := kept (HSK.out w6 t6); have HDC := kept (fun (Ay' : Option Addr) (ny' ky' : Nat) (ym' ys' : Int) (Ks' : List DK) (hy6 : RXs w6 w0.heap.size y (N + 1) Ay' ny' ky' ym' ys' Ks') => xrest_any hy6 (by omega) A n kc xs (fun W' t => HR.out.below (bel_left (HD6.out.1.bel) t (fun j e => by rw [e]; exact HD6.out.1.rx.le))) (by omega) q 0 0 true); clear hl hj6 hf6 t6)
          (try go_wp2_with fail)
          refine hK.out _ _ ?_ (fun hHeld => ?_)
          · ((try dsimp only); (first | with_reducible exact HS0.out | with_reducible exact HS1.out | with_reducible exact HS2.out))
          clear hK K
          (try simp only [Act.put, List.setIfInBounds_toArray, List.set_cons_zero, List.set_cons_succ])
          refine hand_ready 9 (by kernel_rfl) (by kernel_rfl) (fun o ho K hK => ?_)
          (simp only [List.getElem?_toArray, List.getElem?_cons_succ, List.getElem?_cons_zero, Option.some.injEq] at ho)
          subst ho
          go_simp
          (obtain ⟨Ay', ny', ky', ym', ys', Ks', hy6⟩ := HD6.out.1.rx; go_at_call 42; (with_reducible refine (HDC.out _ _ _ _ _ _ hy6).mono ?_); rintro e w7 ⟨er, rfl, Ay7, ny7, ky7, ym7, ys7, Ks7, hy7, t7⟩; have HMID := kept (mid_doc HD6.out.1 (fun j hj => (HD6.out.2.1 j hj).imp id (fun e => Nat.le_trans HBW3.out.size e)) (HTT.out w6 HD6.out.2.2) (HOW.out w6 HD6.out.2.2) (fun j hj e => HNF.out j hj (HD6.out.2.1 j e)) ⟨Ay7, ny7, ky7, ym7, ys7, Ks7, hy7⟩ t7); have HS2 := kept (HSK2.out w6 w7 HS1.out t7); clear hy6 hy7 t7)
          (try go_wp2_with fail)
          refine hK.out _ _ ?_ (fun hHeld => ?_)
          · ((try dsimp only); (first | with_reducible exact HS0.out | with_reducible exact HS1.out | with_reducible exact HS2.out))
          clear hK K
          (try simp only [Act.put, List.setIfInBounds_toArray, List.set_cons_zero, List.set_cons_succ])
          refine hand_take 10 (some 9) ?_ (by kernel_rfl) (by kernel_rfl) (by kernel_rfl) (by kernel_rfl) (by kernel_rfl) (fun _ _ _ h => h) ?_ (by assumption) ?_
          rotate_left
          · (intro o ho w hSw; (simp only [List.getElem?_toArray, List.getElem?_cons_succ, List.getElem?_cons_zero, Option.some.injEq] at ho); subst ho; (try dsimp only at hSw); go_simp; (first | done | with_reducible rfl))
          (try simp only [Act.put, List.setIfInBounds_toArray, List.set_cons_zero, List.set_cons_succ])
          refine hand_take 11 (some 10) ?_ (by kernel_rfl) (by kernel_rfl) (by kernel_rfl) (by kernel_rfl) (by kernel_rfl) (fun _ _ _ h => h) ?_ (by assumption) ?_
          rotate_left
          · (intro o ho w hSw; (simp only [List.getElem?_toArray, List.getElem?_cons_succ, List.getElem?_cons_zero, Option.some.injEq] at ho); subst ho; (try dsimp only at hSw); go_simp; (first | done | with_reducible rfl))
          (try simp only [Act.put, List.setIfInBounds_toArray, List.set_cons_zero, List.set_cons_succ])
          refine wpAnyH_done (by kernel_rfl) ?_ _
          clear hHeld
          go_wp2
          go_loopw [122] (fun i wr => ∃ (j : Nat), j ≤ n ∧ i = .int .i64 (j : Int) ∧ Hid (MidX w0 W x F y N B3 n c3 wr)) (fun i _ => n - (intOf i).toNat)
          case atStart => exact ⟨0, Nat.zero_le _, rfl, HMID⟩
          case round =>
            obtain ⟨j, hj, rfl, HI⟩ := hrel
            have hj0 : (0 : Int) ≤ (j : Int) := by omega
            by_cases hjn : j < n
            · obtain ⟨g, z, hB, cz0, fz, hpk⟩ := HI.out.poke hjn HW0.out
              subst hB
              have hjn' : (j : Int) < (n : Int) := by omega
              have hwj : wrap64 ((j : Int) + 1) = (j : Int) + 1 := IntWalk.wrap64_in _ ⟨by omega, by omega⟩
              have HPK := kept hpk
              have HJN := kept hjn
              have cz : wr.cell? ⟨g, j, none⟩ = some (.int .u8 (z.toNat : Int)) := cz0
              have HBY := kept (bits_byte2 z)
              clear hpk hjn cz0
              go_wp2
              go_roundw
              case rel => exact ⟨j + 1, by have := HJN.out; omega, by go_num, by rw [HBY.out]; exact kept (HPK.out _)⟩
              case measure => have := HJN.out; simp [intOf]; omega
            · obtain rfl : j = n := by omega
              have hjn' : ¬ (j : Int) < (j : Int) := by omega
              go_wp2
              go_returns
              exact HI.out.done _
end Go.Proofs.YtlckeebbjnhejaaGreat
end

section
/-
  Stage 12's law: New, lives, made.
-/
namespace Go.Proofs.YtlckeebbjnhejaaGreat
open Go.ChangeShapes Go.WideShapes Go.ChangeAt Go.RowKit Go.Deep
set_option linter.unusedVariables false
set_option linter.unusedSimpArgs false

/-- An index without keys, laid anew. -/
theorem Ix.new (w : World) : Ix (w.alloc (.cells #[.slice none 0 0, .int .i64 0, .int .i64 0] 70)) w.heap.size (footX w.heap.size none 0 0 []) (0, 0) [] :=
  ⟨none, 0, 0, [], ⟨Blk.new w 70 #[.slice none 0 0, .int .i64 0, .int .i64 0], World.ownsRow_nil _ _ _ _, rfl, fun E hE => absurd hE (by simp), List.Pairwise.nil⟩, fun _ => Iff.rfl, rfl⟩
theorem foot_new {w : World} {j : Nat} (hj : footX w.heap.size none 0 0 [] j) : w.heap.size ≤ j := by
  rcases hj with e | e | ⟨L, hL, _⟩
  · omega
  · cases e
  · simp at hL
theorem xnew_any (w : World) : Calls Tryz.prog 20 #[] w fun e w' => e = .returned (.pointer (some ⟨w.heap.size, 0, none⟩)) ∧ w' = w.alloc (.cells #[.slice none 0 0, .int .i64 0, .int .i64 0] 70) := by
  go_enter Tryz.func20, Tryz.ntmps20
  go_wp2
  go_returns
  exact ⟨rfl, rfl⟩
/-- Both, without a key. -/
theorem Jt.new (w : World) : Jt w ((w.alloc (.cells #[.slice none 0 0, .int .i64 0, .int .i64 0] 70)).alloc (.cells #[.slice none 0 0, .int .i64 0, .int .i64 0] 50)) w.heap.size (footX w.heap.size none 0 0 []) (0, 0) [] (w.heap.size + 1) 0 := by
  have hb := (Below.refl _ (w.alloc (.cells #[.slice none 0 0, .int .i64 0, .int .i64 0] 70))).alloc (Nat.le_refl _) (.cells #[.slice none 0 0, .int .i64 0, .int .i64 0] 50)
  have hk := Blk.new (w.alloc (.cells #[.slice none 0 0, .int .i64 0, .int .i64 0] 70)) 50 #[.slice none 0 0, .int .i64 0, .int .i64 0]
  rw [World.size_alloc] at hk
  exact ⟨(Ix.new w).below hb, fun j hj => foot_new hj, ⟨none, 0, 0, 0, 0, [], ⟨hk, World.ownsRow_nil _ _ _ _, rfl, fun K hK => absurd hK (by simp), Nat.le_refl _, by omega⟩⟩, bel_to hb ((Below.refl _ w).alloc (Nat.le_refl _) _), XGood.nil _⟩
/-- An index of the law's own. -/
def MineX (w W : World) (x : Nat) (l : Rv) (P : List PE) : Prop := ∃ F, Ix W x F l P ∧ (∀ j, F j → w.heap.size ≤ j) ∧ Below w.heap.size w W
theorem MineX.below {w W W' : World} {x : Nat} {l : Rv} {P : List PE} (h : MineX w W x l P) (hb : Below W.heap.size W W') : MineX w W' x l P := by
  obtain ⟨F, h1, h2, h3⟩ := h
  exact ⟨F, h1.below hb, h2, bel_to hb h3⟩
theorem MineX.bel {w W : World} {x : Nat} {l : Rv} {P : List PE} (h : MineX w W x l P) : Below w.heap.size w W := by
  obtain ⟨F, h1, h2, h3⟩ := h
  exact h3
theorem MineX.left {w W W' : World} {x : Nat} {F : Nat → Prop} {l : Rv} {P : List PE} (h2 : ∀ j, F j → w.heap.size ≤ j) (h3 : Below w.heap.size w W) (hl : IxLeft W x F l P W') : MineX w W' x l P := by
  obtain ⟨F', k1, k2, k3⟩ := hl
  refine ⟨F', k1, fun j hj => ?_, bel_left h3 k3 (fun j hj => h2 j hj.1)⟩
  rcases k2 j hj with e | e
  · exact h2 j e
  · exact Nat.le_trans h3.size e
theorem rd_mark (W : World) {C : Array Value} {ys : List UInt8} {n : Nat} (hC : C = (cellsOf ys).toArray) (hn : ys.length = n) (f : Nat × Nat) : Rd (W.alloc (.cells C 5 f)) (some ⟨W.heap.size, 0, none⟩) n ys := by
  subst hC hn
  exact Rd.marked W 5 ys f
theorem below_row (W : World) (C : Array Value) (f : Nat × Nat) : Below W.heap.size W (W.alloc (.cells C 5 f)) := (Below.refl _ W).alloc (Nat.le_refl _) _
theorem MineX.put {w W : World} {x : Nat} {l l' : Rv} {P P' : List PE} (h : MineX w W x l P) {N : Nat} (hg : XGood l P N) (hN : N ≤ 800000) {C : Array Value} (f : Nat × Nat) {ys : List UInt8} {n : Nat} (hC : C = (cellsOf ys).toArray) (hn : ys.length = n) (hn2 : n ≤ 1000) {a b : Int}
    (hc : chC l P ys (a, b) (fun gs => mcG gs (a, b)) = 0) (hl : chL l P ys (a, b) (fun gs => mcG gs (a, b)) = l') (hp : chP l P ys (a, b) (fun gs => mcG gs (a, b)) (fun gs => putG gs (a, b)) = P') :
    Calls Tryz.prog 23 #[.pointer (some ⟨x, 0, none⟩), .slice (some ⟨W.heap.size, 0, none⟩) n n, .agg #[.int .i64 a, .int .i64 b]] (W.alloc (.cells C 5 f)) fun e w' => e = .returned (.int .i64 0) ∧ MineX w w' x l' P' := by
  obtain ⟨F, h1, h2, h3⟩ := h
  have hb := below_row W C f
  refine (xputP_any (h1.below hb) hg.inv hN _ n n ys (rd_mark W hC hn f) hn2 (a, b)).mono fun e w' ⟨he, hl'⟩ => ⟨?_, ?_⟩
  · rw [he]
    show Ending.returned (.int .i64 (chC l P ys (a, b) (fun gs => mcG gs (a, b)))) = _
    rw [hc]
  · rw [← hl, ← hp]
    exact MineX.left h2 (bel_to hb h3) hl'
theorem MineX.tomb {w W : World} {x : Nat} {l l' : Rv} {P P' : List PE} (h : MineX w W x l P) {N : Nat} (hg : XGood l P N) (hN : N ≤ 800000) {C : Array Value} (f : Nat × Nat) {ys : List UInt8} {n : Nat} (hC : C = (cellsOf ys).toArray) (hn : ys.length = n) (hn2 : n ≤ 1000) {a b : Int}
    (hc : chC l P ys (a, b) (fun gs => tombC gs (a, b)) = 0) (hl : chL l P ys (a, b) (fun gs => tombC gs (a, b)) = l') (hp : chP l P ys (a, b) (fun gs => tombC gs (a, b)) (fun gs => tombG gs (a, b)) = P') :
    Calls Tryz.prog 24 #[.pointer (some ⟨x, 0, none⟩), .slice (some ⟨W.heap.size, 0, none⟩) n n, .agg #[.int .i64 a, .int .i64 b]] (W.alloc (.cells C 5 f)) fun e w' => e = .returned (.int .i64 0) ∧ MineX w w' x l' P' := by
  obtain ⟨F, h1, h2, h3⟩ := h
  have hb := below_row W C f
  refine (xtombP_any (h1.below hb) hg.inv hN _ n n ys (rd_mark W hC hn f) hn2 (a, b)).mono fun e w' ⟨he, hl'⟩ => ⟨?_, ?_⟩
  · rw [he]
    show Ending.returned (.int .i64 (chC l P ys (a, b) (fun gs => tombC gs (a, b)))) = _
    rw [hc]
  · rw [← hl, ← hp]
    exact MineX.left h2 (bel_to hb h3) hl'
/-- A range from no key on, to the end that is a zero byte. -/
theorem MineX.range {w W : World} {x : Nat} {l : Rv} {P : List PE} (h : MineX w W x l P) {N : Nat} (hg : XGood l P N) (hN : N ≤ 800000) {C : Array Value} (f : Nat × Nat) {ys : List UInt8} {n : Nat} (hC : C = (cellsOf ys).toArray) (hn : ys.length = n) (hn2 : n ≤ 1000) (m : Int) {t : Nat} (ht : (hitsX P [] ys m).length = t) :
    Calls Tryz.prog 12 #[.pointer (some ⟨x, 0, none⟩), .slice none 0 0, .slice (some ⟨W.heap.size, 0, none⟩) n n, .int .i64 m] (W.alloc (.cells C 5 f)) fun e w' => ∃ A' k', e = .returned (.slice A' t k') ∧ MineX w w' x l P := by
  obtain ⟨F, h1, h2, h3⟩ := h
  have hb := below_row W C f
  refine (xrangeP_any (h1.below hb) hg.inv hN none 0 0 [] (Rd.nil_ _ _) (by omega) _ n n ys (rd_mark W hC hn f) (by omega) m).mono fun e w' ⟨A', n', k', hs, he, ho, hh, hb2⟩ => ⟨A', k', ?_, ⟨F, (h1.below hb).below hb2, h2, bel_to hb2 (bel_to hb h3)⟩⟩
  rw [he]
  have : n' = t := by
    rw [← ho.ln, ← ht, ← hh, List.length_map]
  rw [this]
def lvP : Nat → List PE
  | 0 => []
  | 1 => [([97], [⟨1, 1, [(1, 0)], (0, 0)⟩])]
  | 2 => [([97], [⟨1, 1, [(1, 0)], (0, 0)⟩]), ([98], [⟨2, 1, [(2, 0)], (0, 0)⟩])]
  | _ => [([97], [⟨1, 1, [(1, 0)], (3, 0)⟩]), ([98], [⟨2, 1, [(2, 0)], (0, 0)⟩])]
theorem lv1 : chC (0, 0) (lvP 0) [97] (1, 0) (fun gs => mcG gs (1, 0)) = 0 ∧ chL (0, 0) (lvP 0) [97] (1, 0) (fun gs => mcG gs (1, 0)) = (1, 0) ∧ chP (0, 0) (lvP 0) [97] (1, 0) (fun gs => mcG gs (1, 0)) (fun gs => putG gs (1, 0)) = lvP 1 := ⟨by rfl, by rfl, by rfl⟩
theorem lv2 : chC (1, 0) (lvP 1) [98] (2, 0) (fun gs => mcG gs (2, 0)) = 0 ∧ chL (1, 0) (lvP 1) [98] (2, 0) (fun gs => mcG gs (2, 0)) = (2, 0) ∧ chP (1, 0) (lvP 1) [98] (2, 0) (fun gs => mcG gs (2, 0)) (fun gs => putG gs (2, 0)) = lvP 2 := ⟨by rfl, by rfl, by rfl⟩
theorem lv3 : chC (2, 0) (lvP 2) [97] (3, 0) (fun gs => tombC gs (3, 0)) = 0 ∧ chL (2, 0) (lvP 2) [97] (3, 0) (fun gs => tombC gs (3, 0)) = (3, 0) ∧ chP (2, 0) (lvP 2) [97] (3, 0) (fun gs => tombC gs (3, 0)) (fun gs => tombG gs (3, 0)) = lvP 3 := ⟨by rfl, by rfl, by rfl⟩
theorem lv4 : (hitsX (lvP 3) [] [0] 2).length = 2 ∧ (hitsX (lvP 3) [] [0] 3).length = 1 := ⟨by rfl, by rfl⟩
theorem lvg : XGood (0, 0) (lvP 0) 0 ∧ XGood (1, 0) (lvP 1) 1 ∧ XGood (2, 0) (lvP 2) 2 ∧ XGood (3, 0) (lvP 3) 3 := by
  have g0 : XGood (0, 0) (lvP 0) 0 := XGood.nil _
  have g1 := g0.change [97] (1, 0) (put_fit (1, 0))
  rw [lv1.2.1, lv1.2.2] at g1
  have g2 := g1.change [98] (2, 0) (put_fit (2, 0))
  rw [lv2.2.1, lv2.2.2] at g2
  have g3 := g2.change [97] (3, 0) (tomb_fit (3, 0))
  rw [lv3.2.1, lv3.2.2] at g3
  exact ⟨g0, g1, g2, g3⟩
set_option maxHeartbeats 4000000 in
theorem livesX_any (w : World) : Calls Tryz.prog 8 #[] w fun e w' => e = .returned (.bool true) ∧ Below w.heap.size w w' := by
  have HN := kept (xnew_any w)
  have HM0 : Hid (MineX w (w.alloc (.cells #[.slice none 0 0, .int .i64 0, .int .i64 0] 70)) w.heap.size (0, 0) (lvP 0)) := kept ⟨_, Ix.new w, fun j hj => foot_new hj, (Below.refl _ w).alloc (Nat.le_refl _) _⟩
  go_enter Tryz.func8, Tryz.ntmps8
  go_wp2_with fail
  with_reducible refine HN.out.mono ?_
  rintro e w1 ⟨rfl, hw1⟩
  rw [← hw1] at HM0
  clear hw1 HN
  generalize w.heap.size = x at HM0 ⊢
  have hc1 := conv_lit w1 #[.int .u8 97] 1 1
  have HP1 := kept (HM0.out.put lvg.1 (by omega) (1, 2) (C := #[.int .u8 97]) (ys := [97]) (n := 1) rfl rfl (by omega) lv1.1 lv1.2.1 lv1.2.2)
  go_wp2_with fail
  with_reducible refine HP1.out.mono ?_
  rintro e w2 ⟨rfl, hm⟩
  have hc2 := conv_lit w2 #[.int .u8 98] 1 1
  have HP2 := kept (hm.put lvg.2.1 (by omega) (1, 2) (C := #[.int .u8 98]) (ys := [98]) (n := 1) rfl rfl (by omega) lv2.1 lv2.2.1 lv2.2.2)
  clear hm HP1 HM0 hc1
  go_wp2_with fail
  with_reducible refine HP2.out.mono ?_
  rintro e w3 ⟨rfl, hm⟩
  have hc3 := conv_lit w3 #[.int .u8 97] 1 1
  have HP3 := kept (hm.tomb lvg.2.2.1 (by omega) (1, 2) (C := #[.int .u8 97]) (ys := [97]) (n := 1) rfl rfl (by omega) lv3.1 lv3.2.1 lv3.2.2)
  clear hm HP2 hc2
  go_wp2_with fail
  with_reducible refine HP3.out.mono ?_
  rintro e w4 ⟨rfl, hm⟩
  have HP4 := kept (hm.range lvg.2.2.2 (by omega) (0, 0) (C := #[.int .u8 0]) (ys := [0]) (n := 1) rfl rfl (by omega) 2 lv4.1)
  clear hm HP3 hc3
  go_wp2_with fail
  with_reducible refine HP4.out.mono ?_
  rintro e w5 ⟨A5, k5, rfl, hm⟩
  have HP5 := kept (hm.range lvg.2.2.2 (by omega) (0, 0) (C := #[.int .u8 0]) (ys := [0]) (n := 1) rfl rfl (by omega) 3 lv4.2)
  clear hm HP4
  go_wp2_with fail
  with_reducible refine HP5.out.mono ?_
  rintro e w6 ⟨A6, k6, rfl, hm⟩
  have HB := kept hm.bel
  clear hm HP5
  go_wp2
  go_returns
  exact ⟨rfl, HB.out⟩
/-- What made answers. -/
def MadeX (w : World) (e : Ending) (W : World) : Prop := ∃ x F l P y, e = .returned (.pointer (some ⟨x, 0, none⟩)) ∧ Jt w W x F l P y 120
set_option maxHeartbeats 4000000 in
theorem madeX_any {w : World} {A : Option Addr} {n c : Nat} {X : Nat → AcK} (hX : RdAcK w A n X) (hf : Few n X) :
    Calls Tryz.prog 10 #[.slice A n c] w (MadeX w) := by
  have HN := kept (xnew_any w)
  have H0 : Hid (∃ F l P, Jt w ((w.alloc (.cells #[.slice none 0 0, .int .i64 0, .int .i64 0] 70)).alloc (.cells #[.slice none 0 0, .int .i64 0, .int .i64 0] 50)) w.heap.size F l P (w.heap.size + 1) (2 * 0)) := kept ⟨_, _, _, Jt.new w⟩
  have HX := kept hX
  have HFW := kept hf
  have hn60 : n ≤ 60 := hf.1
  clear hX hf
  go_enter Tryz.func10, Tryz.ntmps10
  go_wp2_with fail
  with_reducible refine HN.out.mono ?_
  rintro e w1 ⟨rfl, hw1⟩
  subst hw1
  go_upto_region 2 with fail
  generalize (w.alloc (.cells #[.slice none 0 0, .int .i64 0, .int .i64 0] 70)).alloc (.cells #[.slice none 0 0, .int .i64 0, .int .i64 0] 50) = W0 at H0 ⊢
  clear HN
  go_wp2
  go_loopw [12] (fun i wr => ∃ (j : Nat), j ≤ n ∧ i = .int .i64 (j : Int) ∧ Hid (∃ F l P, Jt w wr w.heap.size F l P (w.heap.size + 1) (2 * j))) (fun i _ => n - (intOf i).toNat)
  case atStart => exact ⟨0, Nat.zero_le _, rfl, H0⟩
  case round =>
    obtain ⟨j, hj, rfl, HI⟩ := hrel
    clear H0
    have hj0 : (0 : Int) ≤ (j : Int) := by omega
    by_cases hjn : j < n
    · obtain ⟨F, l, P, hm⟩ := HI.out
      obtain ⟨g, o, hA, a0, a1, a2, a3, a4, a5, a6⟩ := (HX.out.keeps (Keeps.of_below hm.bel)).1 j hjn
      have HV := kept (And.intro (HX.out.2 j hjn) (HFW.out.2 j hjn))
      generalize X j = xx at a0 a1 a2 a3 a4 a5 a6 HV
      subst hA
      have hba : Below wr.heap.size wr (wr.alloc (.cells #[.int .i64 xx.k, .slice xx.A xx.n xx.kc, .bool xx.nx, .int .i64 xx.m, .int .i64 xx.s, .int .i64 xx.c, .int .i64 xx.v] 52)) := (Below.refl _ wr).alloc (Nat.le_refl _) _
      have HD := kept (doX_any (hm.below hba) (by omega) ⟨xx.k, xx.A, xx.n, xx.kc, xx.nx, xx.m, xx.s, xx.c, xx.v⟩ xx.xs HV.out.1.1 HV.out.2)
      have hjn' : (j : Int) < (n : Int) := by omega
      have hwj : wrap64 ((j : Int) + 1) = (j : Int) + 1 := IntWalk.wrap64_in _ ⟨by omega, by omega⟩
      have HJ := kept hjn
      clear hba hm HI hj hjn
      go_wp2_with (first | (go_at_call 21; (with_reducible refine (HD.out).mono ?_); rintro e w3 ⟨t, F', l', P', rfl, hj3, _, _⟩; have HM3 : Hid (∃ F l P, Jt w w3 w.heap.size F l P (w.heap.size + 1) (2 * (j + 1))) := kept ⟨F', l', P', hj3⟩; clear hj3))
      clear HD HV a0 a1 a2 a3 a4 a5 a6
      go_roundw
      case rel => exact ⟨j + 1, by have := HJ.out; omega, by go_num, HM3⟩
      case measure => have := HJ.out; simp [intOf]; omega
    · obtain rfl : j = n := by omega
      go_wp2
      go_returns
      obtain ⟨F, l, P, hm⟩ := HI.out
      exact ⟨w.heap.size, F, l, P, _, rfl, hm.mono (by omega)⟩
end Go.Proofs.YtlckeebbjnhejaaGreat
end

section
/-
  Lists of hits, one beside the other.
-/
namespace Go.Proofs.YtlckeebbjnhejaaGreat
open Go.ChangeShapes Go.WideShapes Go.ChangeAt Go.RowKit Go.Deep
set_option linter.unusedVariables false
set_option linter.unusedSimpArgs false
theorem HOut.joined {M M2 : Nat} {w w' : World} {A B A' : Option Addr} {n k m j c' : Nat} {hs hs2 : List HtL} (h1 : HOut M w A n k hs) (h2 : HOut M2 w B m j hs2) (hM : M ≤ M2) (own : w'.ownsRow M 37 5 (.slice A' (n + m) c') (n + m) (htC hs ++ htC hs2)) (g : w.grownBy w' (Value.slice A n k).ownBlock) : HOut M w' A' (n + m) c' (hs ++ hs2) := by
  refine ⟨by rw [htC_append]; exact own, fun H hH => ?_⟩
  rcases List.mem_append.1 hH with hH | hH
  · exact ⟨gown_apart (h1.key H hH).1 h1.row g (by decide), (h1.key H hH).2⟩
  · exact ⟨gown_apart (own_mono_ (h2.key H hH).1 hM) h1.row g (by decide), (h2.key H hH).2⟩
theorem HOut.src {M : Nat} {w : World} {A : Option Addr} {n k : Nat} {hs : List HtL} (h : HOut M w A n k hs) (h0 : 0 < n) : ∃ ad, A = some ad ∧ ∀ j u, (htC hs)[j]? = some u → w.cell? (ad.add j) = some u := by
  obtain ⟨g, rfl, _, _, _, _, hc⟩ := gown_at h.row h0
  exact ⟨_, rfl, fun j u hu => by rw [gadd_at, Nat.zero_add]; exact hc j u hu⟩
/-- Two lists that tell the same, at a place. -/
theorem pair_at {M M2 : Nat} {w : World} {A B : Option Addr} {n k j : Nat} {hs hs2 : List HtL} (h1 : HOut M w A n k hs) (h2 : HOut M2 w B n j hs2) (he : hs.map HtL.px = hs2.map HtL.px) {i : Nat} (hi : i < n) :
    ∃ (g g2 : Nat) (HA : Option Addr) (Hn Hc : Nat) (HA2 : Option Addr) (Hn2 Hc2 : Nat) (xs : List UInt8) (f : Rv × Int × Int), A = some ⟨g, 0, none⟩ ∧ B = some ⟨g2, 0, none⟩ ∧
      ((w.cell? ⟨g, i * 5, none⟩ = some (.slice HA Hn Hc) ∧ w.cell? ⟨g, i * 5 + 1, none⟩ = some (.int .i64 f.1.1) ∧ w.cell? ⟨g, i * 5 + 2, none⟩ = some (.int .i64 f.1.2) ∧ w.cell? ⟨g, i * 5 + 3, none⟩ = some (.int .i64 f.2.1) ∧ w.cell? ⟨g, i * 5 + 4, none⟩ = some (.int .i64 f.2.2)) ∧
       (w.cell? ⟨g2, i * 5, none⟩ = some (.slice HA2 Hn2 Hc2) ∧ w.cell? ⟨g2, i * 5 + 1, none⟩ = some (.int .i64 f.1.1) ∧ w.cell? ⟨g2, i * 5 + 2, none⟩ = some (.int .i64 f.1.2) ∧ w.cell? ⟨g2, i * 5 + 3, none⟩ = some (.int .i64 f.2.1) ∧ w.cell? ⟨g2, i * 5 + 4, none⟩ = some (.int .i64 f.2.2))) ∧
      Rd w HA Hn xs ∧ Rd w HA2 Hn2 xs := by
  obtain ⟨g, hA, H, hH, hc, hr, _⟩ := h1.at_ hi
  obtain ⟨g2, hB, H2, hH2, hc2, hr2, _⟩ := h2.at_ hi
  have hpx : H.px = H2.px := by
    have := congrArg (fun l => l[i]?) he
    rw [List.getElem?_map, List.getElem?_map, hH, hH2] at this
    exact Option.some.inj this
  obtain ⟨HA, Hn, Hc, xs, f⟩ := H
  obtain ⟨HA2, Hn2, Hc2, xs2, f2⟩ := H2
  injection hpx with e1 e2
  obtain rfl : xs = xs2 := e1
  obtain rfl : f = f2 := e2
  exact ⟨g, g2, HA, Hn, Hc, HA2, Hn2, Hc2, xs, f, hA, hB, ⟨hc, hc2⟩, hr, hr2⟩
theorem neq_fnd (a b c d : Int) (w : World) : (binOp .neq 31 (.agg #[.int .i64 a, .int .i64 b, .int .i64 c, .int .i64 d]) (.agg #[.int .i64 a, .int .i64 b, .int .i64 c, .int .i64 d])).run Tryz.prog w = .ok (.bool false) w := by
  go_simp
  try simp
/-! ### a range in two parts -/
structure PartC (key mid end_ : List UInt8) : Prop where
  e3 : end_ ≠ []
  z3 : end_ ≠ [0]
  e2 : mid ≠ []
  z2 : mid ≠ [0]
  k : ahead mid key = false
  m : ahead end_ mid = false
theorem in_two {key end_ k : List UInt8} (h1 : end_ ≠ []) (h2 : end_ ≠ [0]) : inB k key end_ = (!ahead k key && ahead k end_) := by
  unfold inB
  rw [if_neg h1]
  cases h : ahead k key <;> simp [h2]
theorem ahead_over {x a b : List UInt8} (h : ahead x a = true) (hab : ahead b a = false) : ahead x b = true := by
  rcases ahead_tri a b with e | e | e
  · exact ahead_trans h e
  · rw [← e]; exact h
  · rw [hab] at e; cases e
theorem ahead_under {x a b : List UInt8} (h : ahead x b = false) (hab : ahead b a = false) : ahead x a = false := by
  cases he : ahead x a with
  | false => rfl
  | true => rw [ahead_over he hab] at h; cases h
theorem hits_parts {key mid end_ : List UInt8} (hc : PartC key mid end_) (m : Int) : ∀ {P : List PE}, RiseX P → hitsX P key end_ m = hitsX P key mid m ++ hitsX P mid end_ m := by
  intro P hP
  unfold hitsX
  rw [← List.filterMap_append]
  congr 1
  induction P with
  | nil => rfl
  | cons e R ih =>
    have hR := List.pairwise_cons.1 hP
    have hx1 : inX key end_ e = (!ahead e.1 key && ahead e.1 end_) := in_two hc.e3 hc.z3
    have hx2 : inX key mid e = (!ahead e.1 key && ahead e.1 mid) := in_two hc.e2 hc.z2
    have hx3 : inX mid end_ e = (!ahead e.1 mid && ahead e.1 end_) := in_two hc.e3 hc.z3
    by_cases hm : ahead e.1 mid = true
    · have he := ahead_over hm hc.m
      rw [List.filter_cons, List.filter_cons, List.filter_cons, hx1, hx2, hx3, hm, he, ih hR.2]
      cases ahead e.1 key <;> simp
    · have hm : ahead e.1 mid = false := by simpa using hm
      have hall : ∀ x ∈ e :: R, ahead x.1 mid = false := fun x hx => by
        rcases List.mem_cons.1 hx with rfl | hx
        · exact hm
        · cases h : ahead x.1 mid with
          | false => rfl
          | true => rw [ahead_trans (hR.1 x hx) h] at hm; cases hm
      have h0 : (e :: R).filter (inX key mid) = [] := by
        rw [List.filter_eq_nil_iff]
        intro x hx
        rw [show inX key mid x = (!ahead x.1 key && ahead x.1 mid) from in_two hc.e2 hc.z2, hall x hx]
        simp
      rw [h0, List.nil_append]
      apply List.filter_congr
      intro x hx
      rw [show inX key end_ x = (!ahead x.1 key && ahead x.1 end_) from in_two hc.e3 hc.z3, show inX mid end_ x = (!ahead x.1 mid && ahead x.1 end_) from in_two hc.e3 hc.z3, hall x hx, ahead_under (hall x hx) hc.k]
end Go.Proofs.YtlckeebbjnhejaaGreat
end
