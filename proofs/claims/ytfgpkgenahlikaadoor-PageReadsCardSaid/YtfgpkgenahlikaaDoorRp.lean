/-
  page.read, from any state of the reader.
-/
import Derived.Test.YtfgpkgenahlikaaDoorRl
namespace Go.Proofs.YtfgpkgenahlikaaDoor
open Go.ChangeShapes Go.WideShapes Go.ChangeAt Go.RowKit
set_option linter.unusedVariables false
set_option linter.unusedSimpArgs false

/-- Only blocks below B have turned, one behind the other. -/
inductive Onl (B : Nat) (w : World) : World → Prop
  | refl : Onl B w w
  | step {w1 w2 : World} {g : Nat} : Onl B w w1 → Only w1 w2 g → g < B → Onl B w w2
theorem Onl.trans {B : Nat} {a b c : World} (h : Onl B a b) (k : Onl B b c) : Onl B a c := by
  induction k with
  | refl => exact h
  | step _ h1 h2 ih => exact ih.step h1 h2
theorem Onl.mono {B B' : Nat} {a b : World} (h : Onl B a b) (hb : B ≤ B') : Onl B' a b := by
  induction h with
  | refl => exact .refl
  | step _ h1 h2 ih => exact ih.step h1 (by omega)
theorem Onl.one {B g : Nat} {a b : World} (h : Only a b g) (hg : g < B) : Onl B a b := Onl.refl.step h hg
/-- It holds, and goes on holding while only blocks below B turn. -/
def Sta (B : Nat) (w : World) (R : World → Prop) : Prop := ∀ w2, Onl B w w2 → R w2
theorem Sta.here {B : Nat} {w : World} {R : World → Prop} (h : Sta B w R) : R w := h w .refl
theorem Sta.go {B B' : Nat} {w w1 : World} {R : World → Prop} (h : Sta B w R) (k : Onl B w w1) (hb : B' ≤ B) : Sta B' w1 R := fun w2 h2 => h w2 (k.trans (h2.mono hb))
theorem Ow.sta {Λ α : Type} {K : Sort' Λ α} {w : World} {base B : Nat} {e : TypeId} {A : Option Addr} {n c : Nat} {I : List α} (h : Ow K w base e (fun g => g < B) A n c I) : Sta B w fun w2 => Ow K w2 base e (fun g => g < B) A n c I := by
  intro w2 k
  induction k with
  | refl => exact h
  | step _ h1 h2 ih => exact ih.turn h1 (.inl h2)
theorem Rd.sta {w : World} {A : Option Addr} {n B : Nat} {xs : List UInt8} (h : Rd w A n xs) (hn : New A n B) : Sta B w fun w2 => Rd w2 A n xs := by
  intro w2 k
  induction k with
  | refl => exact h
  | step _ h1 h2 ih => exact ih.only (hn _ h2) h1
def rpage (xs : List UInt8) (s : St) : Pg × St :=
  let a := rnum xs 1 s
  let t := rnum xs 8 a.2
  let x := rnum xs 4 t.2
  let k := rnum xs 2 x.2
  if a.1 = 1 then (⟨1, (t.1 : Int), (x.1 : Int), (rlist (ritem xs) k.1 k.2).1, [], [], []⟩, (rlist (ritem xs) k.1 k.2).2)
  else if a.1 = 2 then (⟨2, (t.1 : Int), (x.1 : Int), [], (rlist (rkid xs) k.1 k.2).1, [], []⟩, (rlist (rkid xs) k.1 k.2).2)
  else if a.1 = 3 then (⟨3, (t.1 : Int), (x.1 : Int), [], [], (rbytes xs k.1 k.2).1, []⟩, (rbytes xs k.1 k.2).2)
  else if a.1 = 4 then (⟨4, (t.1 : Int), (x.1 : Int), [], [], [], (rlist (rid xs) k.1 k.2).1⟩, (rlist (rid xs) k.1 k.2).2)
  else (⟨(a.1 : Int), (t.1 : Int), (x.1 : Int), [], [], [], []⟩, k.2)
abbrev zs7 : List Value := [.int .i64 0, .int .u64 0, .int .i64 0, .slice none 0 0, .slice none 0 0, .slice none 0 0, .slice none 0 0]
/-- The page so far: its block g, the result's block, the reader. -/
structure PS (w w' : World) (r : Nat) (A : Option Addr) (n c : Nat) (xs : List UInt8) (s : St) (g : Nat) (cs : List Value) : Prop where
  rs : RS w' r A n c xs s
  only : Only w w' r
  res : Blk w' w.heap.size 28 zs7
  blk : Blk w' g 28 cs
  rq : r < w.heap.size
  qg : w.heap.size < g
  aq : apartA A n w.heap.size
  ag : apartA A n g
abbrev set7 (w : World) (q : Nat) (u0 u1 u2 u3 u4 u5 u6 : Value) : World :=
  ((((((w.setCell ⟨q, 0, none⟩ u0).setCell ⟨q, 1, none⟩ u1).setCell ⟨q, 2, none⟩ u2).setCell ⟨q, 3, none⟩ u3).setCell ⟨q, 4, none⟩ u4).setCell ⟨q, 5, none⟩ u5).setCell ⟨q, 6, none⟩ u6
section
variable {w w1 w2 : World} {r g : Nat} {A : Option Addr} {n c : Nat} {xs : List UInt8} {s s' : St} {cs : List Value}
theorem PS.call (h : PS w w1 r A n c xs s g cs) (hr : RS w2 r A n c xs s') (ho : Only w1 w2 r) : PS w w2 r A n c xs s' g cs :=
  ⟨hr, h.only.trans ho, h.res.only ho (by have := h.rq; omega), h.blk.only ho (by have := h.rq; have := h.qg; omega), h.rq, h.qg, h.aq, h.ag⟩
theorem PS.set_ (h : PS w w1 r A n c xs s g cs) (i : Nat) (u : Value) : PS w (w1.setCell ⟨g, i, none⟩ u) r A n c xs s g (cs.set i u) :=
  ⟨h.rs.set_ (by have := h.rq; have := h.qg; omega) h.ag i u, h.only.set_new (Nat.le_of_lt h.qg) i u, h.res.far (p := ⟨g, i, none⟩) (by have := h.qg; show w.heap.size ≠ g; omega) u, h.blk.set_ i u, h.rq, h.qg, h.aq, h.ag⟩
theorem PS.fin (h : PS w w1 r A n c xs s g cs) (u0 u1 u2 u3 u4 u5 u6 : Value) : RS (set7 w1 w.heap.size u0 u1 u2 u3 u4 u5 u6) r A n c xs s ∧ Only w (set7 w1 w.heap.size u0 u1 u2 u3 u4 u5 u6) r ∧ Blk (set7 w1 w.heap.size u0 u1 u2 u3 u4 u5 u6) w.heap.size 28 [u0, u1, u2, u3, u4, u5, u6] := by
  have hne : r ≠ w.heap.size := by have := h.rq; omega
  exact ⟨((((((h.rs.set_ hne h.aq 0 u0).set_ hne h.aq 1 u1).set_ hne h.aq 2 u2).set_ hne h.aq 3 u3).set_ hne h.aq 4 u4).set_ hne h.aq 5 u5).set_ hne h.aq 6 u6,
    ((((((h.only.set_new (Nat.le_refl _) 0 u0).set_new (Nat.le_refl _) 1 u1).set_new (Nat.le_refl _) 2 u2).set_new (Nat.le_refl _) 3 u3).set_new (Nat.le_refl _) 4 u4).set_new (Nat.le_refl _) 5 u5).set_new (Nat.le_refl _) 6 u6,
    ((((((h.res.set_ 0 u0).set_ 1 u1).set_ 2 u2).set_ 3 u3).set_ 4 u4).set_ 5 u5).set_ 6 u6⟩
theorem only7 (w : World) (q : Nat) (u0 u1 u2 u3 u4 u5 u6 : Value) : Only w (set7 w q u0 u1 u2 u3 u4 u5 u6) q := ((((((((Only.refl w q).setCell 0 u0).setCell 1 u1).setCell 2 u2).setCell 3 u3).setCell 4 u4).setCell 5 u5).setCell 6 u6)
theorem onl_end (i : Nat) (u u0 u1 u2 u3 u4 u5 u6 : Value) {B q : Nat} (hg : g < B) (hq : q < B) : Onl B w (set7 (w.setCell ⟨g, i, none⟩ u) q u0 u1 u2 u3 u4 u5 u6) :=
  (Onl.one ((Only.refl w g).setCell i u) hg).step (only7 _ q u0 u1 u2 u3 u4 u5 u6) hq
end
set_option maxRecDepth 100000 in
set_option maxHeartbeats 4000000 in
theorem read_any (r : Nat) (A : Option Addr) (n c : Nat) (xs : List UInt8) (s : St) (w : World) (h : RS w r A n c xs s) :
    Calls Tryd.prog 48 #[.pointer (some ⟨r, 0, none⟩)] w fun e w' => ∃ l : Lay, e = .returned l.val ∧ Hid (Sta w.heap.size w' (fun w2 => RdPg w2 l (rpage xs s).1)) ∧ Hid (RS w' r A n c xs (rpage xs s).2 ∧ Only w w' r) := by
  have H1 := fun o => num1 r A n c xs s (w.alloc o) (h.alloc o)
  have l1 := rnum_lt xs 1 s
  obtain ⟨v1, hv1⟩ : ∃ v, (rnum xs 1 s).1 = v := ⟨_, rfl⟩
  obtain ⟨s1, hs1⟩ : ∃ v, (rnum xs 1 s).2 = v := ⟨_, rfl⟩
  rw [hv1, hs1] at H1
  rw [hv1] at l1
  have H2 := fun W (k : RS W r A n c xs s1) => num8 r A n c xs s1 W k
  have l2 := rnum_lt xs 8 s1
  obtain ⟨v2, hv2⟩ : ∃ v, (rnum xs 8 s1).1 = v := ⟨_, rfl⟩
  obtain ⟨s2, hs2⟩ : ∃ v, (rnum xs 8 s1).2 = v := ⟨_, rfl⟩
  rw [hv2, hs2] at H2
  rw [hv2] at l2
  have H3 := fun W (k : RS W r A n c xs s2) => readID_any r A n c xs s2 W k
  obtain ⟨v3, hv3⟩ : ∃ v, (rnum xs 4 s2).1 = v := ⟨_, rfl⟩
  obtain ⟨s3, hs3⟩ : ∃ v, (rnum xs 4 s2).2 = v := ⟨_, rfl⟩
  rw [hv3, hs3] at H3
  have H4 := fun W (k : RS W r A n c xs s3) => num2 r A n c xs s3 W k
  have l4 := rnum_lt xs 2 s3
  obtain ⟨v4, hv4⟩ : ∃ v, (rnum xs 2 s3).1 = v := ⟨_, rfl⟩
  obtain ⟨s4, hs4⟩ : ∃ v, (rnum xs 2 s3).2 = v := ⟨_, rfl⟩
  rw [hv4, hs4] at H4
  rw [hv4] at l4
  have HPG : Hid (rpage xs s = if v1 = 1 then (⟨1, (v2 : Int), (v3 : Int), (rlist (ritem xs) v4 s4).1, [], [], []⟩, (rlist (ritem xs) v4 s4).2)
    else if v1 = 2 then (⟨2, (v2 : Int), (v3 : Int), [], (rlist (rkid xs) v4 s4).1, [], []⟩, (rlist (rkid xs) v4 s4).2)
    else if v1 = 3 then (⟨3, (v2 : Int), (v3 : Int), [], [], (rbytes xs v4 s4).1, []⟩, (rbytes xs v4 s4).2)
    else if v1 = 4 then (⟨4, (v2 : Int), (v3 : Int), [], [], [], (rlist (rid xs) v4 s4).1⟩, (rlist (rid xs) v4 s4).2)
    else (⟨(v1 : Int), (v2 : Int), (v3 : Int), [], [], [], []⟩, s4)) := by show _ = _; simp only [rpage, hv1, hs1, hv2, hs2, hv3, hs3, hv4, hs4]
  have H1 := kept H1
  have H2 := kept H2
  have H3 := kept H3
  have H4 := kept H4
  have HLT := kept h.lt
  have HAP := kept (h.apart (Nat.le_refl _))
  have hw1 : IntKind.i64.wrap (v1 : Int) = (v1 : Int) := IntWalk.i64_in _ ⟨by omega, by omega⟩
  have hw4 : IntKind.i64.wrap (v4 : Int) = (v4 : Int) := IntWalk.i64_in _ ⟨by omega, by omega⟩
  have HB := kept (And.intro l1 (And.intro (show v2 < 18446744073709551616 by omega) (show v4 ≤ 65535 by omega)))
  clear h hv1 hs1 hv2 hs2 hv3 hs3 hv4 hs4 l1 l2 l4
  go_enter Tryd.func48, Tryd.ntmps48
  go_wp2_with fail
  with_reducible refine (H1.out _).mono ?_
  rintro e w1 ⟨rfl, hR1, hO1⟩
  have HI1 : Hid (PS w (w1.alloc (.cells #[.int .i64 (v1 : Int), .int .u64 0, .int .i64 0, .slice none 0 0, .slice none 0 0, .slice none 0 0, .slice none 0 0] 28)) r A n c xs s1 w1.heap.size [.int .i64 (v1 : Int), .int .u64 0, .int .i64 0, .slice none 0 0, .slice none 0 0, .slice none 0 0, .slice none 0 0]) :=
    have hb := (Blk.new w 28 #[.int .i64 0, .int .u64 0, .int .i64 0, .slice none 0 0, .slice none 0 0, .slice none 0 0, .slice none 0 0]).only hO1 (by have := HLT.out; show w.heap.size ≠ r; omega)
    kept ⟨hR1.alloc _, ((Only.alloc_ w _ r).trans hO1).alloc _, hb.alloc _, Blk.new w1 28 #[.int .i64 (v1 : Int), .int .u64 0, .int .i64 0, .slice none 0 0, .slice none 0 0, .slice none 0 0, .slice none 0 0], HLT.out, hb.lt, HAP.out, hR1.apart (Nat.le_refl _)⟩
  clear hR1 hO1
  generalize hg : w1.heap.size = g at HI1
  go_wp2_with fail
  clear hg
  generalize w1.alloc (.cells #[.int .i64 (v1 : Int), .int .u64 0, .int .i64 0, .slice none 0 0, .slice none 0 0, .slice none 0 0, .slice none 0 0] 28) = W1 at HI1 ⊢
  with_reducible refine (H2.out _ HI1.out.rs).mono ?_
  rintro e w2 ⟨rfl, hR2, hO2⟩
  have hI2 := HI1.out.call hR2 hO2
  have f0 := hI2.blk.frozen 1
  have e0 : w2.cell? ⟨g, 1, none⟩ = some (.int .u64 0) := hI2.blk.cell 1
  have HI2 := kept (hI2.set_ 1 (.int .u64 (v2 : Int)))
  simp only [List.set_cons_zero, List.set_cons_succ] at HI2
  clear hI2 hR2 hO2
  go_wp2_with fail
  clear f0 e0
  generalize w2.setCell ⟨g, 1, none⟩ (.int .u64 (v2 : Int)) = W2 at HI2 ⊢
  with_reducible refine (H3.out _ HI2.out.rs).mono ?_
  rintro e w3 ⟨rfl, hR3, hO3⟩
  have hI3 := HI2.out.call hR3 hO3
  have f0 := hI3.blk.frozen 2
  have e0 : w3.cell? ⟨g, 2, none⟩ = some (.int .i64 0) := hI3.blk.cell 2
  have HI3 := kept (hI3.set_ 2 (.int .i64 (v3 : Int)))
  simp only [List.set_cons_zero, List.set_cons_succ] at HI3
  clear hI3 hR3 hO3
  go_wp2_with fail
  clear f0 e0
  generalize w3.setCell ⟨g, 2, none⟩ (.int .i64 (v3 : Int)) = W3 at HI3 ⊢
  with_reducible refine (H4.out _ HI3.out.rs).mono ?_
  rintro e w4 ⟨rfl, hR4, hO4⟩
  have hI4 := HI3.out.call hR4 hO4
  have e0 : w4.cell? ⟨g, 0, none⟩ = some (.int .i64 (v1 : Int)) := hI4.blk.cell 0
  have HI4 := kept hI4
  clear hI4 hR4 hO4
  by_cases k1 : v1 = 1
  · have d1 : ((v1 : Int) == 1) = true := by simp; omega
    have hv : (v1 : Int) = 1 := by omega
    rw [hv] at HI4 e0 ⊢
    clear hw1 d1
    have hE : rpage xs s = _ := HPG.out
    rw [if_pos k1] at hE
    have hC := readListI_any r A n c xs s4 v4 w4 HI4.out.rs HB.out.2.2
    obtain ⟨I, hI⟩ : ∃ v, (rlist (ritem xs) v4 s4).1 = v := ⟨_, rfl⟩
    obtain ⟨s5, hs5⟩ : ∃ v, (rlist (ritem xs) v4 s4).2 = v := ⟨_, rfl⟩
    rw [hI, hs5] at hC hE
    have HC := kept hC
    have HE := kept hE
    clear hC hE hI hs5
    go_wp2_with fail
    with_reducible refine HC.out.mono ?_
    rintro e w5 ⟨A5, i5, c5, rfl, h5⟩
    have hI5 := HI4.out.call h5.2.1 h5.2.2.1
    have HST := kept h5.1.sta
    have HBI := kept (show i5 ≤ 65535 from Nat.le_trans h5.2.2.2 HB.out.2.2)
    have fs := hI5.blk.frozen 3
    have es : w5.cell? ⟨g, 3, none⟩ = some (.slice none 0 0) := hI5.blk.cell 3
    have HI6 := kept (hI5.set_ 3 (.slice A5 i5 c5))
    simp only [List.set_cons_zero, List.set_cons_succ] at HI6
    have p0 : w5.cell? ⟨w.heap.size, 0, none⟩ = some (.int .i64 0) := hI5.res.cell 0
    have t0 := hI5.res.frozen 0
    have q0 : w5.cell? ⟨g, 0, none⟩ = some (.int .i64 1) := hI5.blk.cell 0
    have p1 : w5.cell? ⟨w.heap.size, 1, none⟩ = some (.int .u64 0) := hI5.res.cell 1
    have t1 := hI5.res.frozen 1
    have q1 : w5.cell? ⟨g, 1, none⟩ = some (.int .u64 (v2 : Int)) := hI5.blk.cell 1
    have p2 : w5.cell? ⟨w.heap.size, 2, none⟩ = some (.int .i64 0) := hI5.res.cell 2
    have t2 := hI5.res.frozen 2
    have q2 : w5.cell? ⟨g, 2, none⟩ = some (.int .i64 (v3 : Int)) := hI5.blk.cell 2
    have p3 : w5.cell? ⟨w.heap.size, 3, none⟩ = some (.slice none 0 0) := hI5.res.cell 3
    have t3 := hI5.res.frozen 3
    have p4 : w5.cell? ⟨w.heap.size, 4, none⟩ = some (.slice none 0 0) := hI5.res.cell 4
    have t4 := hI5.res.frozen 4
    have q4 : w5.cell? ⟨g, 4, none⟩ = some (.slice none 0 0) := hI5.blk.cell 4
    have p5 : w5.cell? ⟨w.heap.size, 5, none⟩ = some (.slice none 0 0) := hI5.res.cell 5
    have t5 := hI5.res.frozen 5
    have q5 : w5.cell? ⟨g, 5, none⟩ = some (.slice none 0 0) := hI5.blk.cell 5
    have p6 : w5.cell? ⟨w.heap.size, 6, none⟩ = some (.slice none 0 0) := hI5.res.cell 6
    have t6 := hI5.res.frozen 6
    have q6 : w5.cell? ⟨g, 6, none⟩ = some (.slice none 0 0) := hI5.blk.cell 6
    have hgq : g ≠ w.heap.size := by have := hI5.qg; omega
    clear hI5 h5
    go_wp2
    have hfin := HI6.out.fin (.int .i64 1) (.int .u64 (v2 : Int)) (.int .i64 (v3 : Int)) (.slice A5 i5 c5) (.slice none 0 0) (.slice none 0 0) (.slice none 0 0)
    have hst := HST.out.go (onl_end 3 (.slice A5 i5 c5) (.int .i64 1) (.int .u64 (v2 : Int)) (.int .i64 (v3 : Int)) (.slice A5 i5 c5) (.slice none 0 0) (.slice none 0 0) (.slice none 0 0) HI4.out.blk.lt HI4.out.res.lt) HI4.out.only.size
    unfold set7 at hfin hst
    generalize ((((((((w5.setCell ⟨g, 3, none⟩ (.slice A5 i5 c5)).setCell ⟨w.heap.size, 0, none⟩ (.int .i64 1)).setCell ⟨w.heap.size, 1, none⟩ (.int .u64 (v2 : Int))).setCell ⟨w.heap.size, 2, none⟩ (.int .i64 (v3 : Int))).setCell ⟨w.heap.size, 3, none⟩ (.slice A5 i5 c5)).setCell ⟨w.heap.size, 4, none⟩ (.slice none 0 0)).setCell ⟨w.heap.size, 5, none⟩ (.slice none 0 0)).setCell ⟨w.heap.size, 6, none⟩ (.slice none 0 0)) = X at hfin hst ⊢
    have x0 : X.cell? ⟨w.heap.size, 0, none⟩ = some (.int .i64 1) := hfin.2.2.cell 0
    have x1 : X.cell? ⟨w.heap.size, 1, none⟩ = some (.int .u64 (v2 : Int)) := hfin.2.2.cell 1
    have x2 : X.cell? ⟨w.heap.size, 2, none⟩ = some (.int .i64 (v3 : Int)) := hfin.2.2.cell 2
    have x3 : X.cell? ⟨w.heap.size, 3, none⟩ = some (.slice A5 i5 c5) := hfin.2.2.cell 3
    have x4 : X.cell? ⟨w.heap.size, 4, none⟩ = some (.slice none 0 0) := hfin.2.2.cell 4
    have x5 : X.cell? ⟨w.heap.size, 5, none⟩ = some (.slice none 0 0) := hfin.2.2.cell 5
    have x6 : X.cell? ⟨w.heap.size, 6, none⟩ = some (.slice none 0 0) := hfin.2.2.cell 6
    have hb := HB.out
    have he := HE.out
    have hbi := HBI.out
    refine bodyPost_ret (v := .agg #[.int .i64 1, .int .u64 (v2 : Int), .int .i64 (v3 : Int), .slice A5 i5 c5, .slice none 0 0, .slice none 0 0, .slice none 0 0]) (by simp [results, Tryd.results48, go_sem, x0, x1, x2, x3, x4, x5, x6]) rfl ⟨⟨1, v2, v3, A5, i5, c5, none, 0, 0, none, 0, 0, none, 0, 0⟩, rfl, ?_, ?_⟩
    · rw [he]
      exact fun w2 h2 => ⟨rfl, rfl, rfl, (hst w2 h2).items, RdKids.nil_ _ _, Rd.nil_ _ _, RdNums.nil_ _ _, by show (0 : Int) ≤ (v2 : Int); omega, by show (v2 : Int) < _; omega, by show i5 ≤ _; omega, Nat.zero_le _, Nat.zero_le _, Nat.zero_le _⟩
    · rw [he]
      exact ⟨hfin.1, hfin.2.1⟩
  by_cases k2 : v1 = 2
  · have d1 : ((v1 : Int) == 1) = false := by simp; omega
    have d2 : ((v1 : Int) == 2) = true := by simp; omega
    have hv : (v1 : Int) = 2 := by omega
    rw [hv] at HI4 e0 ⊢
    clear hw1 d1 d2
    have hE : rpage xs s = _ := HPG.out
    rw [if_neg k1, if_pos k2] at hE
    have hC := readListK_any r A n c xs s4 v4 w4 HI4.out.rs HB.out.2.2
    obtain ⟨I, hI⟩ : ∃ v, (rlist (rkid xs) v4 s4).1 = v := ⟨_, rfl⟩
    obtain ⟨s5, hs5⟩ : ∃ v, (rlist (rkid xs) v4 s4).2 = v := ⟨_, rfl⟩
    rw [hI, hs5] at hC hE
    have HC := kept hC
    have HE := kept hE
    clear hC hE hI hs5
    go_wp2_with fail
    with_reducible refine HC.out.mono ?_
    rintro e w5 ⟨A5, i5, c5, rfl, h5⟩
    have hI5 := HI4.out.call h5.2.1 h5.2.2.1
    have HST := kept h5.1.sta
    have HBI := kept (show i5 ≤ 65535 from Nat.le_trans h5.2.2.2 HB.out.2.2)
    have fs := hI5.blk.frozen 4
    have es : w5.cell? ⟨g, 4, none⟩ = some (.slice none 0 0) := hI5.blk.cell 4
    have HI6 := kept (hI5.set_ 4 (.slice A5 i5 c5))
    simp only [List.set_cons_zero, List.set_cons_succ] at HI6
    have p0 : w5.cell? ⟨w.heap.size, 0, none⟩ = some (.int .i64 0) := hI5.res.cell 0
    have t0 := hI5.res.frozen 0
    have q0 : w5.cell? ⟨g, 0, none⟩ = some (.int .i64 2) := hI5.blk.cell 0
    have p1 : w5.cell? ⟨w.heap.size, 1, none⟩ = some (.int .u64 0) := hI5.res.cell 1
    have t1 := hI5.res.frozen 1
    have q1 : w5.cell? ⟨g, 1, none⟩ = some (.int .u64 (v2 : Int)) := hI5.blk.cell 1
    have p2 : w5.cell? ⟨w.heap.size, 2, none⟩ = some (.int .i64 0) := hI5.res.cell 2
    have t2 := hI5.res.frozen 2
    have q2 : w5.cell? ⟨g, 2, none⟩ = some (.int .i64 (v3 : Int)) := hI5.blk.cell 2
    have p3 : w5.cell? ⟨w.heap.size, 3, none⟩ = some (.slice none 0 0) := hI5.res.cell 3
    have t3 := hI5.res.frozen 3
    have q3 : w5.cell? ⟨g, 3, none⟩ = some (.slice none 0 0) := hI5.blk.cell 3
    have p4 : w5.cell? ⟨w.heap.size, 4, none⟩ = some (.slice none 0 0) := hI5.res.cell 4
    have t4 := hI5.res.frozen 4
    have p5 : w5.cell? ⟨w.heap.size, 5, none⟩ = some (.slice none 0 0) := hI5.res.cell 5
    have t5 := hI5.res.frozen 5
    have q5 : w5.cell? ⟨g, 5, none⟩ = some (.slice none 0 0) := hI5.blk.cell 5
    have p6 : w5.cell? ⟨w.heap.size, 6, none⟩ = some (.slice none 0 0) := hI5.res.cell 6
    have t6 := hI5.res.frozen 6
    have q6 : w5.cell? ⟨g, 6, none⟩ = some (.slice none 0 0) := hI5.blk.cell 6
    have hgq : g ≠ w.heap.size := by have := hI5.qg; omega
    clear hI5 h5
    go_wp2
    have hfin := HI6.out.fin (.int .i64 2) (.int .u64 (v2 : Int)) (.int .i64 (v3 : Int)) (.slice none 0 0) (.slice A5 i5 c5) (.slice none 0 0) (.slice none 0 0)
    have hst := HST.out.go (onl_end 4 (.slice A5 i5 c5) (.int .i64 2) (.int .u64 (v2 : Int)) (.int .i64 (v3 : Int)) (.slice none 0 0) (.slice A5 i5 c5) (.slice none 0 0) (.slice none 0 0) HI4.out.blk.lt HI4.out.res.lt) HI4.out.only.size
    unfold set7 at hfin hst
    generalize ((((((((w5.setCell ⟨g, 4, none⟩ (.slice A5 i5 c5)).setCell ⟨w.heap.size, 0, none⟩ (.int .i64 2)).setCell ⟨w.heap.size, 1, none⟩ (.int .u64 (v2 : Int))).setCell ⟨w.heap.size, 2, none⟩ (.int .i64 (v3 : Int))).setCell ⟨w.heap.size, 3, none⟩ (.slice none 0 0)).setCell ⟨w.heap.size, 4, none⟩ (.slice A5 i5 c5)).setCell ⟨w.heap.size, 5, none⟩ (.slice none 0 0)).setCell ⟨w.heap.size, 6, none⟩ (.slice none 0 0)) = X at hfin hst ⊢
    have x0 : X.cell? ⟨w.heap.size, 0, none⟩ = some (.int .i64 2) := hfin.2.2.cell 0
    have x1 : X.cell? ⟨w.heap.size, 1, none⟩ = some (.int .u64 (v2 : Int)) := hfin.2.2.cell 1
    have x2 : X.cell? ⟨w.heap.size, 2, none⟩ = some (.int .i64 (v3 : Int)) := hfin.2.2.cell 2
    have x3 : X.cell? ⟨w.heap.size, 3, none⟩ = some (.slice none 0 0) := hfin.2.2.cell 3
    have x4 : X.cell? ⟨w.heap.size, 4, none⟩ = some (.slice A5 i5 c5) := hfin.2.2.cell 4
    have x5 : X.cell? ⟨w.heap.size, 5, none⟩ = some (.slice none 0 0) := hfin.2.2.cell 5
    have x6 : X.cell? ⟨w.heap.size, 6, none⟩ = some (.slice none 0 0) := hfin.2.2.cell 6
    have hb := HB.out
    have he := HE.out
    have hbi := HBI.out
    refine bodyPost_ret (v := .agg #[.int .i64 2, .int .u64 (v2 : Int), .int .i64 (v3 : Int), .slice none 0 0, .slice A5 i5 c5, .slice none 0 0, .slice none 0 0]) (by simp [results, Tryd.results48, go_sem, x0, x1, x2, x3, x4, x5, x6]) rfl ⟨⟨2, v2, v3, none, 0, 0, A5, i5, c5, none, 0, 0, none, 0, 0⟩, rfl, ?_, ?_⟩
    · rw [he]
      exact fun w2 h2 => ⟨rfl, rfl, rfl, RdItems.nil_ _ _, (hst w2 h2).kids, Rd.nil_ _ _, RdNums.nil_ _ _, by show (0 : Int) ≤ (v2 : Int); omega, by show (v2 : Int) < _; omega, Nat.zero_le _, by show i5 ≤ _; omega, Nat.zero_le _, Nat.zero_le _⟩
    · rw [he]
      exact ⟨hfin.1, hfin.2.1⟩
  by_cases k3 : v1 = 3
  · have d1 : ((v1 : Int) == 1) = false := by simp; omega
    have d2 : ((v1 : Int) == 2) = false := by simp; omega
    have d3 : ((v1 : Int) == 3) = true := by simp; omega
    have hv : (v1 : Int) = 3 := by omega
    rw [hv] at HI4 e0 ⊢
    clear hw1 d1 d2 d3
    have hE : rpage xs s = _ := HPG.out
    rw [if_neg k1, if_neg k2, if_pos k3] at hE
    have hC := bytes_any r A n c xs s4 v4 w4 HI4.out.rs (by have := HB.out.2.2; omega)
    obtain ⟨I, hI⟩ : ∃ v, (rbytes xs v4 s4).1 = v := ⟨_, rfl⟩
    obtain ⟨s5, hs5⟩ : ∃ v, (rbytes xs v4 s4).2 = v := ⟨_, rfl⟩
    rw [hI, hs5] at hC hE
    have HC := kept hC
    have HE := kept hE
    clear hC hE hI hs5
    go_wp2_with fail
    with_reducible refine HC.out.mono ?_
    rintro e w5 ⟨A5, i5, c5, rfl, h5, h6⟩
    have hI5 := HI4.out.call h6.1 h6.2
    have HST := kept (h5.1.sta h5.2.1)
    have HBI := kept (show i5 ≤ 65535 from Nat.le_trans h5.2.2.2 HB.out.2.2)
    clear h6
    have fs := hI5.blk.frozen 5
    have es : w5.cell? ⟨g, 5, none⟩ = some (.slice none 0 0) := hI5.blk.cell 5
    have HI6 := kept (hI5.set_ 5 (.slice A5 i5 c5))
    simp only [List.set_cons_zero, List.set_cons_succ] at HI6
    have p0 : w5.cell? ⟨w.heap.size, 0, none⟩ = some (.int .i64 0) := hI5.res.cell 0
    have t0 := hI5.res.frozen 0
    have q0 : w5.cell? ⟨g, 0, none⟩ = some (.int .i64 3) := hI5.blk.cell 0
    have p1 : w5.cell? ⟨w.heap.size, 1, none⟩ = some (.int .u64 0) := hI5.res.cell 1
    have t1 := hI5.res.frozen 1
    have q1 : w5.cell? ⟨g, 1, none⟩ = some (.int .u64 (v2 : Int)) := hI5.blk.cell 1
    have p2 : w5.cell? ⟨w.heap.size, 2, none⟩ = some (.int .i64 0) := hI5.res.cell 2
    have t2 := hI5.res.frozen 2
    have q2 : w5.cell? ⟨g, 2, none⟩ = some (.int .i64 (v3 : Int)) := hI5.blk.cell 2
    have p3 : w5.cell? ⟨w.heap.size, 3, none⟩ = some (.slice none 0 0) := hI5.res.cell 3
    have t3 := hI5.res.frozen 3
    have q3 : w5.cell? ⟨g, 3, none⟩ = some (.slice none 0 0) := hI5.blk.cell 3
    have p4 : w5.cell? ⟨w.heap.size, 4, none⟩ = some (.slice none 0 0) := hI5.res.cell 4
    have t4 := hI5.res.frozen 4
    have q4 : w5.cell? ⟨g, 4, none⟩ = some (.slice none 0 0) := hI5.blk.cell 4
    have p5 : w5.cell? ⟨w.heap.size, 5, none⟩ = some (.slice none 0 0) := hI5.res.cell 5
    have t5 := hI5.res.frozen 5
    have p6 : w5.cell? ⟨w.heap.size, 6, none⟩ = some (.slice none 0 0) := hI5.res.cell 6
    have t6 := hI5.res.frozen 6
    have q6 : w5.cell? ⟨g, 6, none⟩ = some (.slice none 0 0) := hI5.blk.cell 6
    have hgq : g ≠ w.heap.size := by have := hI5.qg; omega
    clear hI5 h5
    go_wp2
    have hfin := HI6.out.fin (.int .i64 3) (.int .u64 (v2 : Int)) (.int .i64 (v3 : Int)) (.slice none 0 0) (.slice none 0 0) (.slice A5 i5 c5) (.slice none 0 0)
    have hst := HST.out.go (onl_end 5 (.slice A5 i5 c5) (.int .i64 3) (.int .u64 (v2 : Int)) (.int .i64 (v3 : Int)) (.slice none 0 0) (.slice none 0 0) (.slice A5 i5 c5) (.slice none 0 0) HI4.out.blk.lt HI4.out.res.lt) HI4.out.only.size
    unfold set7 at hfin hst
    generalize ((((((((w5.setCell ⟨g, 5, none⟩ (.slice A5 i5 c5)).setCell ⟨w.heap.size, 0, none⟩ (.int .i64 3)).setCell ⟨w.heap.size, 1, none⟩ (.int .u64 (v2 : Int))).setCell ⟨w.heap.size, 2, none⟩ (.int .i64 (v3 : Int))).setCell ⟨w.heap.size, 3, none⟩ (.slice none 0 0)).setCell ⟨w.heap.size, 4, none⟩ (.slice none 0 0)).setCell ⟨w.heap.size, 5, none⟩ (.slice A5 i5 c5)).setCell ⟨w.heap.size, 6, none⟩ (.slice none 0 0)) = X at hfin hst ⊢
    have x0 : X.cell? ⟨w.heap.size, 0, none⟩ = some (.int .i64 3) := hfin.2.2.cell 0
    have x1 : X.cell? ⟨w.heap.size, 1, none⟩ = some (.int .u64 (v2 : Int)) := hfin.2.2.cell 1
    have x2 : X.cell? ⟨w.heap.size, 2, none⟩ = some (.int .i64 (v3 : Int)) := hfin.2.2.cell 2
    have x3 : X.cell? ⟨w.heap.size, 3, none⟩ = some (.slice none 0 0) := hfin.2.2.cell 3
    have x4 : X.cell? ⟨w.heap.size, 4, none⟩ = some (.slice none 0 0) := hfin.2.2.cell 4
    have x5 : X.cell? ⟨w.heap.size, 5, none⟩ = some (.slice A5 i5 c5) := hfin.2.2.cell 5
    have x6 : X.cell? ⟨w.heap.size, 6, none⟩ = some (.slice none 0 0) := hfin.2.2.cell 6
    have hb := HB.out
    have he := HE.out
    have hbi := HBI.out
    refine bodyPost_ret (v := .agg #[.int .i64 3, .int .u64 (v2 : Int), .int .i64 (v3 : Int), .slice none 0 0, .slice none 0 0, .slice A5 i5 c5, .slice none 0 0]) (by simp [results, Tryd.results48, go_sem, x0, x1, x2, x3, x4, x5, x6]) rfl ⟨⟨3, v2, v3, none, 0, 0, none, 0, 0, A5, i5, c5, none, 0, 0⟩, rfl, ?_, ?_⟩
    · rw [he]
      exact fun w2 h2 => ⟨rfl, rfl, rfl, RdItems.nil_ _ _, RdKids.nil_ _ _, hst w2 h2, RdNums.nil_ _ _, by show (0 : Int) ≤ (v2 : Int); omega, by show (v2 : Int) < _; omega, Nat.zero_le _, Nat.zero_le _, by show i5 ≤ _; omega, Nat.zero_le _⟩
    · rw [he]
      exact ⟨hfin.1, hfin.2.1⟩
  by_cases k4 : v1 = 4
  · have d1 : ((v1 : Int) == 1) = false := by simp; omega
    have d2 : ((v1 : Int) == 2) = false := by simp; omega
    have d3 : ((v1 : Int) == 3) = false := by simp; omega
    have d4 : ((v1 : Int) == 4) = true := by simp; omega
    have hv : (v1 : Int) = 4 := by omega
    rw [hv] at HI4 e0 ⊢
    clear hw1 d1 d2 d3 d4
    have hE : rpage xs s = _ := HPG.out
    rw [if_neg k1, if_neg k2, if_neg k3, if_pos k4] at hE
    have hC := readListN_any r A n c xs s4 v4 w4 HI4.out.rs HB.out.2.2
    obtain ⟨I, hI⟩ : ∃ v, (rlist (rid xs) v4 s4).1 = v := ⟨_, rfl⟩
    obtain ⟨s5, hs5⟩ : ∃ v, (rlist (rid xs) v4 s4).2 = v := ⟨_, rfl⟩
    rw [hI, hs5] at hC hE
    have HC := kept hC
    have HE := kept hE
    clear hC hE hI hs5
    go_wp2_with fail
    with_reducible refine HC.out.mono ?_
    rintro e w5 ⟨A5, i5, c5, rfl, h5⟩
    have hI5 := HI4.out.call h5.2.1 h5.2.2.1
    have HST := kept h5.1.sta
    have HBI := kept (show i5 ≤ 65535 from Nat.le_trans h5.2.2.2 HB.out.2.2)
    have fs := hI5.blk.frozen 6
    have es : w5.cell? ⟨g, 6, none⟩ = some (.slice none 0 0) := hI5.blk.cell 6
    have HI6 := kept (hI5.set_ 6 (.slice A5 i5 c5))
    simp only [List.set_cons_zero, List.set_cons_succ] at HI6
    have p0 : w5.cell? ⟨w.heap.size, 0, none⟩ = some (.int .i64 0) := hI5.res.cell 0
    have t0 := hI5.res.frozen 0
    have q0 : w5.cell? ⟨g, 0, none⟩ = some (.int .i64 4) := hI5.blk.cell 0
    have p1 : w5.cell? ⟨w.heap.size, 1, none⟩ = some (.int .u64 0) := hI5.res.cell 1
    have t1 := hI5.res.frozen 1
    have q1 : w5.cell? ⟨g, 1, none⟩ = some (.int .u64 (v2 : Int)) := hI5.blk.cell 1
    have p2 : w5.cell? ⟨w.heap.size, 2, none⟩ = some (.int .i64 0) := hI5.res.cell 2
    have t2 := hI5.res.frozen 2
    have q2 : w5.cell? ⟨g, 2, none⟩ = some (.int .i64 (v3 : Int)) := hI5.blk.cell 2
    have p3 : w5.cell? ⟨w.heap.size, 3, none⟩ = some (.slice none 0 0) := hI5.res.cell 3
    have t3 := hI5.res.frozen 3
    have q3 : w5.cell? ⟨g, 3, none⟩ = some (.slice none 0 0) := hI5.blk.cell 3
    have p4 : w5.cell? ⟨w.heap.size, 4, none⟩ = some (.slice none 0 0) := hI5.res.cell 4
    have t4 := hI5.res.frozen 4
    have q4 : w5.cell? ⟨g, 4, none⟩ = some (.slice none 0 0) := hI5.blk.cell 4
    have p5 : w5.cell? ⟨w.heap.size, 5, none⟩ = some (.slice none 0 0) := hI5.res.cell 5
    have t5 := hI5.res.frozen 5
    have q5 : w5.cell? ⟨g, 5, none⟩ = some (.slice none 0 0) := hI5.blk.cell 5
    have p6 : w5.cell? ⟨w.heap.size, 6, none⟩ = some (.slice none 0 0) := hI5.res.cell 6
    have t6 := hI5.res.frozen 6
    have hgq : g ≠ w.heap.size := by have := hI5.qg; omega
    clear hI5 h5
    go_wp2
    have hfin := HI6.out.fin (.int .i64 4) (.int .u64 (v2 : Int)) (.int .i64 (v3 : Int)) (.slice none 0 0) (.slice none 0 0) (.slice none 0 0) (.slice A5 i5 c5)
    have hst := HST.out.go (onl_end 6 (.slice A5 i5 c5) (.int .i64 4) (.int .u64 (v2 : Int)) (.int .i64 (v3 : Int)) (.slice none 0 0) (.slice none 0 0) (.slice none 0 0) (.slice A5 i5 c5) HI4.out.blk.lt HI4.out.res.lt) HI4.out.only.size
    unfold set7 at hfin hst
    generalize ((((((((w5.setCell ⟨g, 6, none⟩ (.slice A5 i5 c5)).setCell ⟨w.heap.size, 0, none⟩ (.int .i64 4)).setCell ⟨w.heap.size, 1, none⟩ (.int .u64 (v2 : Int))).setCell ⟨w.heap.size, 2, none⟩ (.int .i64 (v3 : Int))).setCell ⟨w.heap.size, 3, none⟩ (.slice none 0 0)).setCell ⟨w.heap.size, 4, none⟩ (.slice none 0 0)).setCell ⟨w.heap.size, 5, none⟩ (.slice none 0 0)).setCell ⟨w.heap.size, 6, none⟩ (.slice A5 i5 c5)) = X at hfin hst ⊢
    have x0 : X.cell? ⟨w.heap.size, 0, none⟩ = some (.int .i64 4) := hfin.2.2.cell 0
    have x1 : X.cell? ⟨w.heap.size, 1, none⟩ = some (.int .u64 (v2 : Int)) := hfin.2.2.cell 1
    have x2 : X.cell? ⟨w.heap.size, 2, none⟩ = some (.int .i64 (v3 : Int)) := hfin.2.2.cell 2
    have x3 : X.cell? ⟨w.heap.size, 3, none⟩ = some (.slice none 0 0) := hfin.2.2.cell 3
    have x4 : X.cell? ⟨w.heap.size, 4, none⟩ = some (.slice none 0 0) := hfin.2.2.cell 4
    have x5 : X.cell? ⟨w.heap.size, 5, none⟩ = some (.slice none 0 0) := hfin.2.2.cell 5
    have x6 : X.cell? ⟨w.heap.size, 6, none⟩ = some (.slice A5 i5 c5) := hfin.2.2.cell 6
    have hb := HB.out
    have he := HE.out
    have hbi := HBI.out
    refine bodyPost_ret (v := .agg #[.int .i64 4, .int .u64 (v2 : Int), .int .i64 (v3 : Int), .slice none 0 0, .slice none 0 0, .slice none 0 0, .slice A5 i5 c5]) (by simp [results, Tryd.results48, go_sem, x0, x1, x2, x3, x4, x5, x6]) rfl ⟨⟨4, v2, v3, none, 0, 0, none, 0, 0, none, 0, 0, A5, i5, c5⟩, rfl, ?_, ?_⟩
    · rw [he]
      exact fun w2 h2 => ⟨rfl, rfl, rfl, RdItems.nil_ _ _, RdKids.nil_ _ _, Rd.nil_ _ _, (hst w2 h2).nums, by show (0 : Int) ≤ (v2 : Int); omega, by show (v2 : Int) < _; omega, Nat.zero_le _, Nat.zero_le _, Nat.zero_le _, by show i5 ≤ _; omega⟩
    · rw [he]
      exact ⟨hfin.1, hfin.2.1⟩
  have d1 : ((v1 : Int) == 1) = false := by simp; omega
  have d2 : ((v1 : Int) == 2) = false := by simp; omega
  have d3 : ((v1 : Int) == 3) = false := by simp; omega
  have d4 : ((v1 : Int) == 4) = false := by simp; omega
  have hE : rpage xs s = _ := HPG.out
  rw [if_neg k1, if_neg k2, if_neg k3, if_neg k4] at hE
  have HE := kept hE
  have hI5 := HI4.out
  have HI6 := kept hI5
  clear hE e0
  have p0 : w4.cell? ⟨w.heap.size, 0, none⟩ = some (.int .i64 0) := hI5.res.cell 0
  have t0 := hI5.res.frozen 0
  have q0 : w4.cell? ⟨g, 0, none⟩ = some (.int .i64 (v1 : Int)) := hI5.blk.cell 0
  have p1 : w4.cell? ⟨w.heap.size, 1, none⟩ = some (.int .u64 0) := hI5.res.cell 1
  have t1 := hI5.res.frozen 1
  have q1 : w4.cell? ⟨g, 1, none⟩ = some (.int .u64 (v2 : Int)) := hI5.blk.cell 1
  have p2 : w4.cell? ⟨w.heap.size, 2, none⟩ = some (.int .i64 0) := hI5.res.cell 2
  have t2 := hI5.res.frozen 2
  have q2 : w4.cell? ⟨g, 2, none⟩ = some (.int .i64 (v3 : Int)) := hI5.blk.cell 2
  have p3 : w4.cell? ⟨w.heap.size, 3, none⟩ = some (.slice none 0 0) := hI5.res.cell 3
  have t3 := hI5.res.frozen 3
  have q3 : w4.cell? ⟨g, 3, none⟩ = some (.slice none 0 0) := hI5.blk.cell 3
  have p4 : w4.cell? ⟨w.heap.size, 4, none⟩ = some (.slice none 0 0) := hI5.res.cell 4
  have t4 := hI5.res.frozen 4
  have q4 : w4.cell? ⟨g, 4, none⟩ = some (.slice none 0 0) := hI5.blk.cell 4
  have p5 : w4.cell? ⟨w.heap.size, 5, none⟩ = some (.slice none 0 0) := hI5.res.cell 5
  have t5 := hI5.res.frozen 5
  have q5 : w4.cell? ⟨g, 5, none⟩ = some (.slice none 0 0) := hI5.blk.cell 5
  have p6 : w4.cell? ⟨w.heap.size, 6, none⟩ = some (.slice none 0 0) := hI5.res.cell 6
  have t6 := hI5.res.frozen 6
  have q6 : w4.cell? ⟨g, 6, none⟩ = some (.slice none 0 0) := hI5.blk.cell 6
  have hgq : g ≠ w.heap.size := by have := hI5.qg; omega
  clear hI5
  go_wp2
  have hfin := HI6.out.fin (.int .i64 (v1 : Int)) (.int .u64 (v2 : Int)) (.int .i64 (v3 : Int)) (.slice none 0 0) (.slice none 0 0) (.slice none 0 0) (.slice none 0 0)
  unfold set7 at hfin
  generalize (((((((w4.setCell ⟨w.heap.size, 0, none⟩ (.int .i64 (v1 : Int))).setCell ⟨w.heap.size, 1, none⟩ (.int .u64 (v2 : Int))).setCell ⟨w.heap.size, 2, none⟩ (.int .i64 (v3 : Int))).setCell ⟨w.heap.size, 3, none⟩ (.slice none 0 0)).setCell ⟨w.heap.size, 4, none⟩ (.slice none 0 0)).setCell ⟨w.heap.size, 5, none⟩ (.slice none 0 0)).setCell ⟨w.heap.size, 6, none⟩ (.slice none 0 0)) = X at hfin ⊢
  have x0 : X.cell? ⟨w.heap.size, 0, none⟩ = some (.int .i64 (v1 : Int)) := hfin.2.2.cell 0
  have x1 : X.cell? ⟨w.heap.size, 1, none⟩ = some (.int .u64 (v2 : Int)) := hfin.2.2.cell 1
  have x2 : X.cell? ⟨w.heap.size, 2, none⟩ = some (.int .i64 (v3 : Int)) := hfin.2.2.cell 2
  have x3 : X.cell? ⟨w.heap.size, 3, none⟩ = some (.slice none 0 0) := hfin.2.2.cell 3
  have x4 : X.cell? ⟨w.heap.size, 4, none⟩ = some (.slice none 0 0) := hfin.2.2.cell 4
  have x5 : X.cell? ⟨w.heap.size, 5, none⟩ = some (.slice none 0 0) := hfin.2.2.cell 5
  have x6 : X.cell? ⟨w.heap.size, 6, none⟩ = some (.slice none 0 0) := hfin.2.2.cell 6
  have hb := HB.out
  have he := HE.out
  refine bodyPost_ret (v := .agg #[.int .i64 (v1 : Int), .int .u64 (v2 : Int), .int .i64 (v3 : Int), .slice none 0 0, .slice none 0 0, .slice none 0 0, .slice none 0 0]) (by simp [results, Tryd.results48, go_sem, x0, x1, x2, x3, x4, x5, x6]) rfl ⟨⟨(v1 : Int), v2, v3, none, 0, 0, none, 0, 0, none, 0, 0, none, 0, 0⟩, rfl, ?_, ?_⟩
  · rw [he]
    exact fun w2 h2 => ⟨rfl, rfl, rfl, RdItems.nil_ _ _, RdKids.nil_ _ _, Rd.nil_ _ _, RdNums.nil_ _ _, by show (0 : Int) ≤ (v2 : Int); omega, by show (v2 : Int) < _; omega, Nat.zero_le _, Nat.zero_le _, Nat.zero_le _, Nat.zero_le _⟩
  · rw [he]
    exact ⟨hfin.1, hfin.2.1⟩
end Go.Proofs.YtfgpkgenahlikaaDoor
