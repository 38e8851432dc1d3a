/- Rp Ds4 Dcd Bk Dno -/
import Derived.Test.YtblbhhijddcbeaaGreatDoorBWr
import Derived.Test.YtblbhhijddcbeaaGreatDoorBPh
section
namespace Go.Proofs.YtblbhhijddcbeaaGreatDoor
open Go.ChangeShapes Go.WideShapes Go.ChangeAt Go.RowKit
set_option linter.unusedVariables false
set_option linter.unusedSimpArgs false
set_option maxRecDepth 100000
set_option maxHeartbeats 16000000
inductive Onl (B : Nat) (w : World) : World → Prop
 | refl : Onl B w w
 | step {w1 w2 : World} {g : Nat} : Onl B w w1 → Only w1 w2 g → g < B → Onl B w w2
theorem Onl.trans {B : Nat} {a b c : World} (h : Onl B a b) (k : Onl B b c) : Onl B a c := by
 induction k with
 | refl => exact h
 | step _ h1 h2 ih => exact ih.step h1 h2
theorem Onl.mono {B B' : Nat} {a b : World} (h : Onl B a b) (hb : B ≤ B') : Onl B' a b := by
 induction h with
 | refl => exact .refl
 | step _ h1 h2 ih => exact ih.step h1 (by omega)
theorem Onl.one {B g : Nat} {a b : World} (h : Only a b g) (hg : g < B) : Onl B a b := Onl.refl.step h hg
def Sta (B : Nat) (w : World) (R : World → Prop) : Prop := ∀ w2, Onl B w w2 → R w2
theorem Sta.here {B : Nat} {w : World} {R : World → Prop} (h : Sta B w R) : R w := h w .refl
theorem Sta.go {B B' : Nat} {w w1 : World} {R : World → Prop} (h : Sta B w R) (k : Onl B w w1) (hb : B' ≤ B) : Sta B' w1 R := fun w2 h2 => h w2 (k.trans (h2.mono hb))
theorem Ow.sta {Λ α : Type} {K : Sort' Λ α} {w : World} {base B : Nat} {e : TypeId} {A : Option Addr} {n c : Nat} {I : List α} (h : Ow K w base e (fun g => g < B) A n c I) : Sta B w fun w2 => Ow K w2 base e (fun g => g < B) A n c I := by
 intro w2 k
 induction k with
 | refl => exact h
 | step _ h1 h2 ih => exact ih.turn h1 (.inl h2)
theorem Rd.sta {w : World} {A : Option Addr} {n B : Nat} {xs : List UInt8} (h : Rd w A n xs) (hn : New A n B) : Sta B w fun w2 => Rd w2 A n xs := by
 intro w2 k
 induction k with
 | refl => exact h
 | step _ h1 h2 ih => exact ih.only (hn _ h2) h1
def rpage (xs : List UInt8) (s : Rst) : Pg × Rst :=
 let a := rnum xs 1 s
 let t := rnum xs 8 a.2
 let x := rnum xs 4 t.2
 let k := rnum xs 2 x.2
 if a.1 = 1 then (⟨1, (t.1 : Int), (x.1 : Int), (rlist (ritem xs) k.1 k.2).1, [], [], []⟩, (rlist (ritem xs) k.1 k.2).2)
 else if a.1 = 2 then (⟨2, (t.1 : Int), (x.1 : Int), [], (rlist (rkid xs) k.1 k.2).1, [], []⟩, (rlist (rkid xs) k.1 k.2).2)
 else if a.1 = 3 then (⟨3, (t.1 : Int), (x.1 : Int), [], [], (rbytes xs k.1 k.2).1, []⟩, (rbytes xs k.1 k.2).2)
 else if a.1 = 4 then (⟨4, (t.1 : Int), (x.1 : Int), [], [], [], (rlist (rid xs) k.1 k.2).1⟩, (rlist (rid xs) k.1 k.2).2)
 else (⟨(a.1 : Int), (t.1 : Int), (x.1 : Int), [], [], [], []⟩, k.2)
abbrev zs7 : List Value := [.int .i64 0, .int .u64 0, .int .i64 0, .slice none 0 0, .slice none 0 0, .slice none 0 0, .slice none 0 0]
structure PS (w w' : World) (r : Nat) (A : Option Addr) (n c : Nat) (xs : List UInt8) (s : Rst) (g : Nat) (cs : List Value) : Prop where
 rs : RS w' r A n c xs s
 only : Only w w' r
 res : Blk w' w.heap.size 137 zs7
 blk : Blk w' g 137 cs
 rq : r < w.heap.size
 qg : w.heap.size < g
 aq : apartA A n w.heap.size
 ag : apartA A n g
abbrev set7 (w : World) (q : Nat) (u0 u1 u2 u3 u4 u5 u6 : Value) : World :=
 ((((((w.setCell ⟨q, 0, none⟩ u0).setCell ⟨q, 1, none⟩ u1).setCell ⟨q, 2, none⟩ u2).setCell ⟨q, 3, none⟩ u3).setCell ⟨q, 4, none⟩ u4).setCell ⟨q, 5, none⟩ u5).setCell ⟨q, 6, none⟩ u6
section
variable {w w1 w2 : World} {r g : Nat} {A : Option Addr} {n c : Nat} {xs : List UInt8} {s s' : Rst} {cs : List Value}
theorem PS.call (h : PS w w1 r A n c xs s g cs) (hr : RS w2 r A n c xs s') (ho : Only w1 w2 r) : PS w w2 r A n c xs s' g cs :=
 ⟨hr, h.only.trans ho, h.res.only ho (by have := h.rq; omega), h.blk.only ho (by have := h.rq; have := h.qg; omega), h.rq, h.qg, h.aq, h.ag⟩
theorem PS.set_ (h : PS w w1 r A n c xs s g cs) (i : Nat) (u : Value) : PS w (w1.setCell ⟨g, i, none⟩ u) r A n c xs s g (cs.set i u) :=
 ⟨h.rs.set_ (by have := h.rq; have := h.qg; omega) h.ag i u, h.only.set_new (Nat.le_of_lt h.qg) i u, h.res.far (p := ⟨g, i, none⟩) (by have := h.qg; show w.heap.size ≠ g; omega) u, h.blk.set_ i u, h.rq, h.qg, h.aq, h.ag⟩
theorem PS.fin (h : PS w w1 r A n c xs s g cs) (u0 u1 u2 u3 u4 u5 u6 : Value) : RS (set7 w1 w.heap.size u0 u1 u2 u3 u4 u5 u6) r A n c xs s ∧ Only w (set7 w1 w.heap.size u0 u1 u2 u3 u4 u5 u6) r ∧ Blk (set7 w1 w.heap.size u0 u1 u2 u3 u4 u5 u6) w.heap.size 137 [u0, u1, u2, u3, u4, u5, u6] := by
 have hne : r ≠ w.heap.size := by have := h.rq; omega
 exact ⟨((((((h.rs.set_ hne h.aq 0 u0).set_ hne h.aq 1 u1).set_ hne h.aq 2 u2).set_ hne h.aq 3 u3).set_ hne h.aq 4 u4).set_ hne h.aq 5 u5).set_ hne h.aq 6 u6,
  ((((((h.only.set_new (Nat.le_refl _) 0 u0).set_new (Nat.le_refl _) 1 u1).set_new (Nat.le_refl _) 2 u2).set_new (Nat.le_refl _) 3 u3).set_new (Nat.le_refl _) 4 u4).set_new (Nat.le_refl _) 5 u5).set_new (Nat.le_refl _) 6 u6,
  ((((((h.res.set_ 0 u0).set_ 1 u1).set_ 2 u2).set_ 3 u3).set_ 4 u4).set_ 5 u5).set_ 6 u6⟩
theorem only7 (w : World) (q : Nat) (u0 u1 u2 u3 u4 u5 u6 : Value) : Only w (set7 w q u0 u1 u2 u3 u4 u5 u6) q := ((((((((Only.refl w q).setCell 0 u0).setCell 1 u1).setCell 2 u2).setCell 3 u3).setCell 4 u4).setCell 5 u5).setCell 6 u6)
theorem onl_end (i : Nat) (u u0 u1 u2 u3 u4 u5 u6 : Value) {B q : Nat} (hg : g < B) (hq : q < B) : Onl B w (set7 (w.setCell ⟨g, i, none⟩ u) q u0 u1 u2 u3 u4 u5 u6) :=
 (Onl.one ((Only.refl w g).setCell i u) hg).step (only7 _ q u0 u1 u2 u3 u4 u5 u6) hq
end
theorem Ow.base_ {Λ α : Type} {K : Sort' Λ α} {w : World} {base B : Nat} {e : TypeId} {F : Nat → Prop} {A : Option Addr} {n c : Nat} {I : List α} (h : Ow K w base e F A n c I) (hb : B ≤ base) : Ow K w B e F A n c I := by
 obtain ⟨Ls, h1, h2, h3, h4⟩ := h; exact ⟨Ls, h1, h2, ⟨h3.1, h3.2.imp id (fun ⟨g, cap, cur, hv, hbg, r⟩ => ⟨g, cap, cur, hv, Nat.le_trans hb hbg, r⟩)⟩, h4⟩
structure OwPg (B : Nat) (w : World) (l : Lay) (P : Pg) : Prop extends RdPg w l P where
 oi : Ow kItemD w B 149 (fun g => g < B) l.a1 l.n1 l.c1 P.items
 ok : Ow kKid w B 131 (fun g => g < B) l.a2 l.n2 l.c2 P.kids
theorem OwPg.base_ {B B' : Nat} {w : World} {l : Lay} {P : Pg} (h : OwPg B w l P) (hb : B' ≤ B) : OwPg B' w l P :=
 ⟨h.toRdPg, (h.oi.base_ hb).mono (fun r hr => Nat.lt_of_lt_of_le hr hb), (h.ok.base_ hb).mono (fun r hr => Nat.lt_of_lt_of_le hr hb)⟩
theorem OwPg.sta_go {B B' : Nat} {w w1 : World} {l : Lay} {P : Pg} (h : Sta B w (fun w2 => OwPg B w2 l P)) (k : Onl B w w1) (hb : B' ≤ B) : Sta B' w1 (fun w2 => OwPg B' w2 l P) := fun w2 h2 => (h w2 (k.trans (h2.mono hb))).base_ hb
theorem read_any (r : Nat) (A : Option Addr) (n c : Nat) (xs : List UInt8) (s : Rst) (w : World) (h : RS w r A n c xs s) :
 Calls Tryz.prog 184 #[.pointer (some ⟨r, 0, none⟩)] w fun e w' => ∃ l : Lay, e = .returned l.val ∧ Hid (Sta w.heap.size w' (fun w2 => OwPg w.heap.size w2 l (rpage xs s).1)) ∧ Hid (RS w' r A n c xs (rpage xs s).2 ∧ Only w w' r) := by
 have H1 := fun o => num1 r A n c xs s (w.alloc o) (h.alloc o)
 have l1 := rnum_lt xs 1 s; obtain ⟨v1, hv1⟩ : ∃ v, (rnum xs 1 s).1 = v := ⟨_, rfl⟩
 obtain ⟨s1, hs1⟩ : ∃ v, (rnum xs 1 s).2 = v := ⟨_, rfl⟩
 rw [hv1, hs1] at H1; rw [hv1] at l1; have H2 := fun W (k : RS W r A n c xs s1) => num8 r A n c xs s1 W k
 have l2 := rnum_lt xs 8 s1; obtain ⟨v2, hv2⟩ : ∃ v, (rnum xs 8 s1).1 = v := ⟨_, rfl⟩
 obtain ⟨s2, hs2⟩ : ∃ v, (rnum xs 8 s1).2 = v := ⟨_, rfl⟩
 rw [hv2, hs2] at H2; rw [hv2] at l2; have H3 := fun W (k : RS W r A n c xs s2) => readID_any r A n c xs s2 W k
 obtain ⟨v3, hv3⟩ : ∃ v, (rnum xs 4 s2).1 = v := ⟨_, rfl⟩
 obtain ⟨s3, hs3⟩ : ∃ v, (rnum xs 4 s2).2 = v := ⟨_, rfl⟩
 rw [hv3, hs3] at H3; have H4 := fun W (k : RS W r A n c xs s3) => num2 r A n c xs s3 W k
 have l4 := rnum_lt xs 2 s3; obtain ⟨v4, hv4⟩ : ∃ v, (rnum xs 2 s3).1 = v := ⟨_, rfl⟩
 obtain ⟨s4, hs4⟩ : ∃ v, (rnum xs 2 s3).2 = v := ⟨_, rfl⟩
 rw [hv4, hs4] at H4; rw [hv4] at l4; have HPG : Hid (rpage xs s = if v1 = 1 then (⟨1, (v2 : Int), (v3 : Int), (rlist (ritem xs) v4 s4).1, [], [], []⟩, (rlist (ritem xs) v4 s4).2)
  else if v1 = 2 then (⟨2, (v2 : Int), (v3 : Int), [], (rlist (rkid xs) v4 s4).1, [], []⟩, (rlist (rkid xs) v4 s4).2)
  else if v1 = 3 then (⟨3, (v2 : Int), (v3 : Int), [], [], (rbytes xs v4 s4).1, []⟩, (rbytes xs v4 s4).2)
  else if v1 = 4 then (⟨4, (v2 : Int), (v3 : Int), [], [], [], (rlist (rid xs) v4 s4).1⟩, (rlist (rid xs) v4 s4).2)
  else (⟨(v1 : Int), (v2 : Int), (v3 : Int), [], [], [], []⟩, s4)) := by show _ = _; simp only [rpage, hv1, hs1, hv2, hs2, hv3, hs3, hv4, hs4]
 have H1 := kept H1; have H2 := kept H2; have H3 := kept H3; have H4 := kept H4; have HLT := kept h.lt; have HAP := kept (h.apart (Nat.le_refl _)); have hw1 : IntKind.i64.wrap (v1 : Int) = (v1 : Int) := IntWalk.i64_in _ ⟨by omega, by omega⟩; have hw4 : IntKind.i64.wrap (v4 : Int) = (v4 : Int) := IntWalk.i64_in _ ⟨by omega, by omega⟩; have HB := kept (And.intro l1 (And.intro (show v2 < 18446744073709551616 by omega) (show v4 ≤ 65535 by omega))); clear h hv1 hs1 hv2 hs2 hv3 hs3 hv4 hs4 l1 l2 l4; go_enter Tryz.func184, Tryz.ntmps184; go_wp2_with fail
 with_reducible refine (H1.out _).mono ?_
 rintro e w1 ⟨rfl, hR1, hO1⟩; have HI1 : Hid (PS w (w1.alloc (.cells #[.int .i64 (v1 : Int), .int .u64 0, .int .i64 0, .slice none 0 0, .slice none 0 0, .slice none 0 0, .slice none 0 0] 137)) r A n c xs s1 w1.heap.size [.int .i64 (v1 : Int), .int .u64 0, .int .i64 0, .slice none 0 0, .slice none 0 0, .slice none 0 0, .slice none 0 0]) :=
  have hb := (Blk.new w 137 #[.int .i64 0, .int .u64 0, .int .i64 0, .slice none 0 0, .slice none 0 0, .slice none 0 0, .slice none 0 0]).only hO1 (by have := HLT.out; show w.heap.size ≠ r; omega)
  kept ⟨hR1.alloc _, ((Only.alloc_ w _ r).trans hO1).alloc _, hb.alloc _, Blk.new w1 137 #[.int .i64 (v1 : Int), .int .u64 0, .int .i64 0, .slice none 0 0, .slice none 0 0, .slice none 0 0, .slice none 0 0], HLT.out, hb.lt, HAP.out, hR1.apart (Nat.le_refl _)⟩
 clear hR1 hO1; generalize hg : w1.heap.size = g at HI1; go_wp2_with fail
 clear hg; generalize w1.alloc (.cells #[.int .i64 (v1 : Int), .int .u64 0, .int .i64 0, .slice none 0 0, .slice none 0 0, .slice none 0 0, .slice none 0 0] 137) = W1 at HI1 ⊢; with_reducible refine (H2.out _ HI1.out.rs).mono ?_
 rintro e w2 ⟨rfl, hR2, hO2⟩; have hI2 := HI1.out.call hR2 hO2; have f0 := hI2.blk.frozen 1; have e0 : w2.cell? ⟨g, 1, none⟩ = some (.int .u64 0) := hI2.blk.cell 1; have HI2 := kept (hI2.set_ 1 (.int .u64 (v2 : Int))); simp only [List.set_cons_zero, List.set_cons_succ] at HI2; clear hI2 hR2 hO2; go_wp2_with fail
 clear f0 e0; generalize w2.setCell ⟨g, 1, none⟩ (.int .u64 (v2 : Int)) = W2 at HI2 ⊢; with_reducible refine (H3.out _ HI2.out.rs).mono ?_
 rintro e w3 ⟨rfl, hR3, hO3⟩; have hI3 := HI2.out.call hR3 hO3; have f0 := hI3.blk.frozen 2; have e0 : w3.cell? ⟨g, 2, none⟩ = some (.int .i64 0) := hI3.blk.cell 2; have HI3 := kept (hI3.set_ 2 (.int .i64 (v3 : Int))); simp only [List.set_cons_zero, List.set_cons_succ] at HI3; clear hI3 hR3 hO3; go_wp2_with fail
 clear f0 e0; generalize w3.setCell ⟨g, 2, none⟩ (.int .i64 (v3 : Int)) = W3 at HI3 ⊢; with_reducible refine (H4.out _ HI3.out.rs).mono ?_
 rintro e w4 ⟨rfl, hR4, hO4⟩; have hI4 := HI3.out.call hR4 hO4; have e0 : w4.cell? ⟨g, 0, none⟩ = some (.int .i64 (v1 : Int)) := hI4.blk.cell 0; have HI4 := kept hI4; clear hI4 hR4 hO4; by_cases k1 : v1 = 1
 · have d1 : ((v1 : Int) == 1) = true := by simp; omega
   have hv : (v1 : Int) = 1 := by omega
   rw [hv] at HI4 e0 ⊢; clear hw1 d1; have hE : rpage xs s = _ := HPG.out; rw [if_pos k1] at hE; have hC := readListI_any r A n c xs s4 v4 w4 HI4.out.rs HB.out.2.2; obtain ⟨I, hI⟩ : ∃ v, (rlist (ritem xs) v4 s4).1 = v := ⟨_, rfl⟩
   obtain ⟨s5, hs5⟩ : ∃ v, (rlist (ritem xs) v4 s4).2 = v := ⟨_, rfl⟩
   rw [hI, hs5] at hC hE; have HC := kept hC; have HE := kept hE; clear hC hE hI hs5; go_wp2_with fail
   with_reducible refine HC.out.mono ?_
   rintro e w5 ⟨A5, i5, c5, rfl, h5⟩; have hI5 := HI4.out.call h5.2.1 h5.2.2.1; have HST := kept h5.1.sta; have HBI := kept (show i5 ≤ 65535 from Nat.le_trans h5.2.2.2 HB.out.2.2); have fs := hI5.blk.frozen 3; have es : w5.cell? ⟨g, 3, none⟩ = some (.slice none 0 0) := hI5.blk.cell 3; have HI6 := kept (hI5.set_ 3 (.slice A5 i5 c5)); simp only [List.set_cons_zero, List.set_cons_succ] at HI6; have p0 : w5.cell? ⟨w.heap.size, 0, none⟩ = some (.int .i64 0) := hI5.res.cell 0; have t0 := hI5.res.frozen 0; have q0 : w5.cell? ⟨g, 0, none⟩ = some (.int .i64 1) := hI5.blk.cell 0; have p1 : w5.cell? ⟨w.heap.size, 1, none⟩ = some (.int .u64 0) := hI5.res.cell 1; have t1 := hI5.res.frozen 1; have q1 : w5.cell? ⟨g, 1, none⟩ = some (.int .u64 (v2 : Int)) := hI5.blk.cell 1; have p2 : w5.cell? ⟨w.heap.size, 2, none⟩ = some (.int .i64 0) := hI5.res.cell 2; have t2 := hI5.res.frozen 2; have q2 : w5.cell? ⟨g, 2, none⟩ = some (.int .i64 (v3 : Int)) := hI5.blk.cell 2; have p3 : w5.cell? ⟨w.heap.size, 3, none⟩ = some (.slice none 0 0) := hI5.res.cell 3; have t3 := hI5.res.frozen 3; have p4 : w5.cell? ⟨w.heap.size, 4, none⟩ = some (.slice none 0 0) := hI5.res.cell 4; have t4 := hI5.res.frozen 4; have q4 : w5.cell? ⟨g, 4, none⟩ = some (.slice none 0 0) := hI5.blk.cell 4; have p5 : w5.cell? ⟨w.heap.size, 5, none⟩ = some (.slice none 0 0) := hI5.res.cell 5; have t5 := hI5.res.frozen 5; have q5 : w5.cell? ⟨g, 5, none⟩ = some (.slice none 0 0) := hI5.blk.cell 5; have p6 : w5.cell? ⟨w.heap.size, 6, none⟩ = some (.slice none 0 0) := hI5.res.cell 6; have t6 := hI5.res.frozen 6; have q6 : w5.cell? ⟨g, 6, none⟩ = some (.slice none 0 0) := hI5.blk.cell 6; have hgq : g ≠ w.heap.size := by have := hI5.qg; omega
   clear hI5 h5; go_wp2; have hfin := HI6.out.fin (.int .i64 1) (.int .u64 (v2 : Int)) (.int .i64 (v3 : Int)) (.slice A5 i5 c5) (.slice none 0 0) (.slice none 0 0) (.slice none 0 0); have hst := HST.out.go (onl_end 3 (.slice A5 i5 c5) (.int .i64 1) (.int .u64 (v2 : Int)) (.int .i64 (v3 : Int)) (.slice A5 i5 c5) (.slice none 0 0) (.slice none 0 0) (.slice none 0 0) HI4.out.blk.lt HI4.out.res.lt) HI4.out.only.size; unfold set7 at hfin hst; generalize ((((((((w5.setCell ⟨g, 3, none⟩ (.slice A5 i5 c5)).setCell ⟨w.heap.size, 0, none⟩ (.int .i64 1)).setCell ⟨w.heap.size, 1, none⟩ (.int .u64 (v2 : Int))).setCell ⟨w.heap.size, 2, none⟩ (.int .i64 (v3 : Int))).setCell ⟨w.heap.size, 3, none⟩ (.slice A5 i5 c5)).setCell ⟨w.heap.size, 4, none⟩ (.slice none 0 0)).setCell ⟨w.heap.size, 5, none⟩ (.slice none 0 0)).setCell ⟨w.heap.size, 6, none⟩ (.slice none 0 0)) = X at hfin hst ⊢; have x0 : X.cell? ⟨w.heap.size, 0, none⟩ = some (.int .i64 1) := hfin.2.2.cell 0; have x1 : X.cell? ⟨w.heap.size, 1, none⟩ = some (.int .u64 (v2 : Int)) := hfin.2.2.cell 1; have x2 : X.cell? ⟨w.heap.size, 2, none⟩ = some (.int .i64 (v3 : Int)) := hfin.2.2.cell 2; have x3 : X.cell? ⟨w.heap.size, 3, none⟩ = some (.slice A5 i5 c5) := hfin.2.2.cell 3; have x4 : X.cell? ⟨w.heap.size, 4, none⟩ = some (.slice none 0 0) := hfin.2.2.cell 4; have x5 : X.cell? ⟨w.heap.size, 5, none⟩ = some (.slice none 0 0) := hfin.2.2.cell 5; have x6 : X.cell? ⟨w.heap.size, 6, none⟩ = some (.slice none 0 0) := hfin.2.2.cell 6; have hb := HB.out; have he := HE.out; have hbi := HBI.out; refine bodyPost_ret (v := .agg #[.int .i64 1, .int .u64 (v2 : Int), .int .i64 (v3 : Int), .slice A5 i5 c5, .slice none 0 0, .slice none 0 0, .slice none 0 0]) (by simp [results, Tryz.results184, go_sem, x0, x1, x2, x3, x4, x5, x6]) rfl ⟨⟨1, v2, v3, A5, i5, c5, none, 0, 0, none, 0, 0, none, 0, 0⟩, rfl, ?_, ?_⟩
   · rw [he]; exact fun w2 h2 => ⟨⟨rfl, rfl, rfl, (hst w2 h2).dec.items, RdKids.nil_ _ _, Rd.nil_ _ _, RdNums.nil_ _ _, by show (0 : Int) ≤ (v2 : Int); omega, by show (v2 : Int) < _; omega, by show i5 ≤ _; omega, Nat.zero_le _, Nat.zero_le _, Nat.zero_le _⟩, ((hst w2 h2).base_ HI4.out.only.size).mono (fun r hr => Nat.lt_of_lt_of_le hr HI4.out.only.size), Ow.nil_ _⟩
   · rw [he]; exact ⟨hfin.1, hfin.2.1⟩
 by_cases k2 : v1 = 2
 · have d1 : ((v1 : Int) == 1) = false := by simp; omega
   have d2 : ((v1 : Int) == 2) = true := by simp; omega
   have hv : (v1 : Int) = 2 := by omega
   rw [hv] at HI4 e0 ⊢; clear hw1 d1 d2; have hE : rpage xs s = _ := HPG.out; rw [if_neg k1, if_pos k2] at hE; have hC := readListK_any r A n c xs s4 v4 w4 HI4.out.rs HB.out.2.2; obtain ⟨I, hI⟩ : ∃ v, (rlist (rkid xs) v4 s4).1 = v := ⟨_, rfl⟩
   obtain ⟨s5, hs5⟩ : ∃ v, (rlist (rkid xs) v4 s4).2 = v := ⟨_, rfl⟩
   rw [hI, hs5] at hC hE; have HC := kept hC; have HE := kept hE; clear hC hE hI hs5; go_wp2_with fail
   with_reducible refine HC.out.mono ?_
   rintro e w5 ⟨A5, i5, c5, rfl, h5⟩; have hI5 := HI4.out.call h5.2.1 h5.2.2.1; have HST := kept h5.1.sta; have HBI := kept (show i5 ≤ 65535 from Nat.le_trans h5.2.2.2 HB.out.2.2); have fs := hI5.blk.frozen 4; have es : w5.cell? ⟨g, 4, none⟩ = some (.slice none 0 0) := hI5.blk.cell 4; have HI6 := kept (hI5.set_ 4 (.slice A5 i5 c5)); simp only [List.set_cons_zero, List.set_cons_succ] at HI6; have p0 : w5.cell? ⟨w.heap.size, 0, none⟩ = some (.int .i64 0) := hI5.res.cell 0; have t0 := hI5.res.frozen 0; have q0 : w5.cell? ⟨g, 0, none⟩ = some (.int .i64 2) := hI5.blk.cell 0; have p1 : w5.cell? ⟨w.heap.size, 1, none⟩ = some (.int .u64 0) := hI5.res.cell 1; have t1 := hI5.res.frozen 1; have q1 : w5.cell? ⟨g, 1, none⟩ = some (.int .u64 (v2 : Int)) := hI5.blk.cell 1; have p2 : w5.cell? ⟨w.heap.size, 2, none⟩ = some (.int .i64 0) := hI5.res.cell 2; have t2 := hI5.res.frozen 2; have q2 : w5.cell? ⟨g, 2, none⟩ = some (.int .i64 (v3 : Int)) := hI5.blk.cell 2; have p3 : w5.cell? ⟨w.heap.size, 3, none⟩ = some (.slice none 0 0) := hI5.res.cell 3; have t3 := hI5.res.frozen 3; have q3 : w5.cell? ⟨g, 3, none⟩ = some (.slice none 0 0) := hI5.blk.cell 3; have p4 : w5.cell? ⟨w.heap.size, 4, none⟩ = some (.slice none 0 0) := hI5.res.cell 4; have t4 := hI5.res.frozen 4; have p5 : w5.cell? ⟨w.heap.size, 5, none⟩ = some (.slice none 0 0) := hI5.res.cell 5; have t5 := hI5.res.frozen 5; have q5 : w5.cell? ⟨g, 5, none⟩ = some (.slice none 0 0) := hI5.blk.cell 5; have p6 : w5.cell? ⟨w.heap.size, 6, none⟩ = some (.slice none 0 0) := hI5.res.cell 6; have t6 := hI5.res.frozen 6; have q6 : w5.cell? ⟨g, 6, none⟩ = some (.slice none 0 0) := hI5.blk.cell 6; have hgq : g ≠ w.heap.size := by have := hI5.qg; omega
   clear hI5 h5; go_wp2; have hfin := HI6.out.fin (.int .i64 2) (.int .u64 (v2 : Int)) (.int .i64 (v3 : Int)) (.slice none 0 0) (.slice A5 i5 c5) (.slice none 0 0) (.slice none 0 0); have hst := HST.out.go (onl_end 4 (.slice A5 i5 c5) (.int .i64 2) (.int .u64 (v2 : Int)) (.int .i64 (v3 : Int)) (.slice none 0 0) (.slice A5 i5 c5) (.slice none 0 0) (.slice none 0 0) HI4.out.blk.lt HI4.out.res.lt) HI4.out.only.size; unfold set7 at hfin hst; generalize ((((((((w5.setCell ⟨g, 4, none⟩ (.slice A5 i5 c5)).setCell ⟨w.heap.size, 0, none⟩ (.int .i64 2)).setCell ⟨w.heap.size, 1, none⟩ (.int .u64 (v2 : Int))).setCell ⟨w.heap.size, 2, none⟩ (.int .i64 (v3 : Int))).setCell ⟨w.heap.size, 3, none⟩ (.slice none 0 0)).setCell ⟨w.heap.size, 4, none⟩ (.slice A5 i5 c5)).setCell ⟨w.heap.size, 5, none⟩ (.slice none 0 0)).setCell ⟨w.heap.size, 6, none⟩ (.slice none 0 0)) = X at hfin hst ⊢; have x0 : X.cell? ⟨w.heap.size, 0, none⟩ = some (.int .i64 2) := hfin.2.2.cell 0; have x1 : X.cell? ⟨w.heap.size, 1, none⟩ = some (.int .u64 (v2 : Int)) := hfin.2.2.cell 1; have x2 : X.cell? ⟨w.heap.size, 2, none⟩ = some (.int .i64 (v3 : Int)) := hfin.2.2.cell 2; have x3 : X.cell? ⟨w.heap.size, 3, none⟩ = some (.slice none 0 0) := hfin.2.2.cell 3; have x4 : X.cell? ⟨w.heap.size, 4, none⟩ = some (.slice A5 i5 c5) := hfin.2.2.cell 4; have x5 : X.cell? ⟨w.heap.size, 5, none⟩ = some (.slice none 0 0) := hfin.2.2.cell 5; have x6 : X.cell? ⟨w.heap.size, 6, none⟩ = some (.slice none 0 0) := hfin.2.2.cell 6; have hb := HB.out; have he := HE.out; have hbi := HBI.out; refine bodyPost_ret (v := .agg #[.int .i64 2, .int .u64 (v2 : Int), .int .i64 (v3 : Int), .slice none 0 0, .slice A5 i5 c5, .slice none 0 0, .slice none 0 0]) (by simp [results, Tryz.results184, go_sem, x0, x1, x2, x3, x4, x5, x6]) rfl ⟨⟨2, v2, v3, none, 0, 0, A5, i5, c5, none, 0, 0, none, 0, 0⟩, rfl, ?_, ?_⟩
   · rw [he]; exact fun w2 h2 => ⟨⟨rfl, rfl, rfl, RdItems.nil_ _ _, (hst w2 h2).kids, Rd.nil_ _ _, RdNums.nil_ _ _, by show (0 : Int) ≤ (v2 : Int); omega, by show (v2 : Int) < _; omega, Nat.zero_le _, by show i5 ≤ _; omega, Nat.zero_le _, Nat.zero_le _⟩, Ow.nil_ _, ((hst w2 h2).base_ HI4.out.only.size).mono (fun r hr => Nat.lt_of_lt_of_le hr HI4.out.only.size)⟩
   · rw [he]; exact ⟨hfin.1, hfin.2.1⟩
 by_cases k3 : v1 = 3
 · have d1 : ((v1 : Int) == 1) = false := by simp; omega
   have d2 : ((v1 : Int) == 2) = false := by simp; omega
   have d3 : ((v1 : Int) == 3) = true := by simp; omega
   have hv : (v1 : Int) = 3 := by omega
   rw [hv] at HI4 e0 ⊢; clear hw1 d1 d2 d3; have hE : rpage xs s = _ := HPG.out; rw [if_neg k1, if_neg k2, if_pos k3] at hE; have hC := bytes_any r A n c xs s4 v4 w4 HI4.out.rs (by have := HB.out.2.2; omega); obtain ⟨I, hI⟩ : ∃ v, (rbytes xs v4 s4).1 = v := ⟨_, rfl⟩
   obtain ⟨s5, hs5⟩ : ∃ v, (rbytes xs v4 s4).2 = v := ⟨_, rfl⟩
   rw [hI, hs5] at hC hE; have HC := kept hC; have HE := kept hE; clear hC hE hI hs5; go_wp2_with fail
   with_reducible refine HC.out.mono ?_
   rintro e w5 ⟨A5, i5, c5, rfl, h5, h6⟩; have hI5 := HI4.out.call h6.1 h6.2; have HST := kept (h5.1.sta h5.2.1); have HBI := kept (show i5 ≤ 65535 from Nat.le_trans h5.2.2.2 HB.out.2.2); clear h6; have fs := hI5.blk.frozen 5; have es : w5.cell? ⟨g, 5, none⟩ = some (.slice none 0 0) := hI5.blk.cell 5; have HI6 := kept (hI5.set_ 5 (.slice A5 i5 c5)); simp only [List.set_cons_zero, List.set_cons_succ] at HI6; have p0 : w5.cell? ⟨w.heap.size, 0, none⟩ = some (.int .i64 0) := hI5.res.cell 0; have t0 := hI5.res.frozen 0; have q0 : w5.cell? ⟨g, 0, none⟩ = some (.int .i64 3) := hI5.blk.cell 0; have p1 : w5.cell? ⟨w.heap.size, 1, none⟩ = some (.int .u64 0) := hI5.res.cell 1; have t1 := hI5.res.frozen 1; have q1 : w5.cell? ⟨g, 1, none⟩ = some (.int .u64 (v2 : Int)) := hI5.blk.cell 1; have p2 : w5.cell? ⟨w.heap.size, 2, none⟩ = some (.int .i64 0) := hI5.res.cell 2; have t2 := hI5.res.frozen 2; have q2 : w5.cell? ⟨g, 2, none⟩ = some (.int .i64 (v3 : Int)) := hI5.blk.cell 2; have p3 : w5.cell? ⟨w.heap.size, 3, none⟩ = some (.slice none 0 0) := hI5.res.cell 3; have t3 := hI5.res.frozen 3; have q3 : w5.cell? ⟨g, 3, none⟩ = some (.slice none 0 0) := hI5.blk.cell 3; have p4 : w5.cell? ⟨w.heap.size, 4, none⟩ = some (.slice none 0 0) := hI5.res.cell 4; have t4 := hI5.res.frozen 4; have q4 : w5.cell? ⟨g, 4, none⟩ = some (.slice none 0 0) := hI5.blk.cell 4; have p5 : w5.cell? ⟨w.heap.size, 5, none⟩ = some (.slice none 0 0) := hI5.res.cell 5; have t5 := hI5.res.frozen 5; have p6 : w5.cell? ⟨w.heap.size, 6, none⟩ = some (.slice none 0 0) := hI5.res.cell 6; have t6 := hI5.res.frozen 6; have q6 : w5.cell? ⟨g, 6, none⟩ = some (.slice none 0 0) := hI5.blk.cell 6; have hgq : g ≠ w.heap.size := by have := hI5.qg; omega
   clear hI5 h5; go_wp2; have hfin := HI6.out.fin (.int .i64 3) (.int .u64 (v2 : Int)) (.int .i64 (v3 : Int)) (.slice none 0 0) (.slice none 0 0) (.slice A5 i5 c5) (.slice none 0 0); have hst := HST.out.go (onl_end 5 (.slice A5 i5 c5) (.int .i64 3) (.int .u64 (v2 : Int)) (.int .i64 (v3 : Int)) (.slice none 0 0) (.slice none 0 0) (.slice A5 i5 c5) (.slice none 0 0) HI4.out.blk.lt HI4.out.res.lt) HI4.out.only.size; unfold set7 at hfin hst; generalize ((((((((w5.setCell ⟨g, 5, none⟩ (.slice A5 i5 c5)).setCell ⟨w.heap.size, 0, none⟩ (.int .i64 3)).setCell ⟨w.heap.size, 1, none⟩ (.int .u64 (v2 : Int))).setCell ⟨w.heap.size, 2, none⟩ (.int .i64 (v3 : Int))).setCell ⟨w.heap.size, 3, none⟩ (.slice none 0 0)).setCell ⟨w.heap.size, 4, none⟩ (.slice none 0 0)).setCell ⟨w.heap.size, 5, none⟩ (.slice A5 i5 c5)).setCell ⟨w.heap.size, 6, none⟩ (.slice none 0 0)) = X at hfin hst ⊢; have x0 : X.cell? ⟨w.heap.size, 0, none⟩ = some (.int .i64 3) := hfin.2.2.cell 0; have x1 : X.cell? ⟨w.heap.size, 1, none⟩ = some (.int .u64 (v2 : Int)) := hfin.2.2.cell 1; have x2 : X.cell? ⟨w.heap.size, 2, none⟩ = some (.int .i64 (v3 : Int)) := hfin.2.2.cell 2; have x3 : X.cell? ⟨w.heap.size, 3, none⟩ = some (.slice none 0 0) := hfin.2.2.cell 3; have x4 : X.cell? ⟨w.heap.size, 4, none⟩ = some (.slice none 0 0) := hfin.2.2.cell 4; have x5 : X.cell? ⟨w.heap.size, 5, none⟩ = some (.slice A5 i5 c5) := hfin.2.2.cell 5; have x6 : X.cell? ⟨w.heap.size, 6, none⟩ = some (.slice none 0 0) := hfin.2.2.cell 6; have hb := HB.out; have he := HE.out; have hbi := HBI.out; refine bodyPost_ret (v := .agg #[.int .i64 3, .int .u64 (v2 : Int), .int .i64 (v3 : Int), .slice none 0 0, .slice none 0 0, .slice A5 i5 c5, .slice none 0 0]) (by simp [results, Tryz.results184, go_sem, x0, x1, x2, x3, x4, x5, x6]) rfl ⟨⟨3, v2, v3, none, 0, 0, none, 0, 0, A5, i5, c5, none, 0, 0⟩, rfl, ?_, ?_⟩
   · rw [he]; exact fun w2 h2 => ⟨⟨rfl, rfl, rfl, RdItems.nil_ _ _, RdKids.nil_ _ _, hst w2 h2, RdNums.nil_ _ _, by show (0 : Int) ≤ (v2 : Int); omega, by show (v2 : Int) < _; omega, Nat.zero_le _, Nat.zero_le _, by show i5 ≤ _; omega, Nat.zero_le _⟩, Ow.nil_ _, Ow.nil_ _⟩
   · rw [he]; exact ⟨hfin.1, hfin.2.1⟩
 by_cases k4 : v1 = 4
 · have d1 : ((v1 : Int) == 1) = false := by simp; omega
   have d2 : ((v1 : Int) == 2) = false := by simp; omega
   have d3 : ((v1 : Int) == 3) = false := by simp; omega
   have d4 : ((v1 : Int) == 4) = true := by simp; omega
   have hv : (v1 : Int) = 4 := by omega
   rw [hv] at HI4 e0 ⊢; clear hw1 d1 d2 d3 d4; have hE : rpage xs s = _ := HPG.out; rw [if_neg k1, if_neg k2, if_neg k3, if_pos k4] at hE; have hC := readListN_any r A n c xs s4 v4 w4 HI4.out.rs HB.out.2.2; obtain ⟨I, hI⟩ : ∃ v, (rlist (rid xs) v4 s4).1 = v := ⟨_, rfl⟩
   obtain ⟨s5, hs5⟩ : ∃ v, (rlist (rid xs) v4 s4).2 = v := ⟨_, rfl⟩
   rw [hI, hs5] at hC hE; have HC := kept hC; have HE := kept hE; clear hC hE hI hs5; go_wp2_with fail
   with_reducible refine HC.out.mono ?_
   rintro e w5 ⟨A5, i5, c5, rfl, h5⟩; have hI5 := HI4.out.call h5.2.1 h5.2.2.1; have HST := kept h5.1.sta; have HBI := kept (show i5 ≤ 65535 from Nat.le_trans h5.2.2.2 HB.out.2.2); have fs := hI5.blk.frozen 6; have es : w5.cell? ⟨g, 6, none⟩ = some (.slice none 0 0) := hI5.blk.cell 6; have HI6 := kept (hI5.set_ 6 (.slice A5 i5 c5)); simp only [List.set_cons_zero, List.set_cons_succ] at HI6; have p0 : w5.cell? ⟨w.heap.size, 0, none⟩ = some (.int .i64 0) := hI5.res.cell 0; have t0 := hI5.res.frozen 0; have q0 : w5.cell? ⟨g, 0, none⟩ = some (.int .i64 4) := hI5.blk.cell 0; have p1 : w5.cell? ⟨w.heap.size, 1, none⟩ = some (.int .u64 0) := hI5.res.cell 1; have t1 := hI5.res.frozen 1; have q1 : w5.cell? ⟨g, 1, none⟩ = some (.int .u64 (v2 : Int)) := hI5.blk.cell 1; have p2 : w5.cell? ⟨w.heap.size, 2, none⟩ = some (.int .i64 0) := hI5.res.cell 2; have t2 := hI5.res.frozen 2; have q2 : w5.cell? ⟨g, 2, none⟩ = some (.int .i64 (v3 : Int)) := hI5.blk.cell 2; have p3 : w5.cell? ⟨w.heap.size, 3, none⟩ = some (.slice none 0 0) := hI5.res.cell 3; have t3 := hI5.res.frozen 3; have q3 : w5.cell? ⟨g, 3, none⟩ = some (.slice none 0 0) := hI5.blk.cell 3; have p4 : w5.cell? ⟨w.heap.size, 4, none⟩ = some (.slice none 0 0) := hI5.res.cell 4; have t4 := hI5.res.frozen 4; have q4 : w5.cell? ⟨g, 4, none⟩ = some (.slice none 0 0) := hI5.blk.cell 4; have p5 : w5.cell? ⟨w.heap.size, 5, none⟩ = some (.slice none 0 0) := hI5.res.cell 5; have t5 := hI5.res.frozen 5; have q5 : w5.cell? ⟨g, 5, none⟩ = some (.slice none 0 0) := hI5.blk.cell 5; have p6 : w5.cell? ⟨w.heap.size, 6, none⟩ = some (.slice none 0 0) := hI5.res.cell 6; have t6 := hI5.res.frozen 6; have hgq : g ≠ w.heap.size := by have := hI5.qg; omega
   clear hI5 h5; go_wp2; have hfin := HI6.out.fin (.int .i64 4) (.int .u64 (v2 : Int)) (.int .i64 (v3 : Int)) (.slice none 0 0) (.slice none 0 0) (.slice none 0 0) (.slice A5 i5 c5); have hst := HST.out.go (onl_end 6 (.slice A5 i5 c5) (.int .i64 4) (.int .u64 (v2 : Int)) (.int .i64 (v3 : Int)) (.slice none 0 0) (.slice none 0 0) (.slice none 0 0) (.slice A5 i5 c5) HI4.out.blk.lt HI4.out.res.lt) HI4.out.only.size; unfold set7 at hfin hst; generalize ((((((((w5.setCell ⟨g, 6, none⟩ (.slice A5 i5 c5)).setCell ⟨w.heap.size, 0, none⟩ (.int .i64 4)).setCell ⟨w.heap.size, 1, none⟩ (.int .u64 (v2 : Int))).setCell ⟨w.heap.size, 2, none⟩ (.int .i64 (v3 : Int))).setCell ⟨w.heap.size, 3, none⟩ (.slice none 0 0)).setCell ⟨w.heap.size, 4, none⟩ (.slice none 0 0)).setCell ⟨w.heap.size, 5, none⟩ (.slice none 0 0)).setCell ⟨w.heap.size, 6, none⟩ (.slice A5 i5 c5)) = X at hfin hst ⊢; have x0 : X.cell? ⟨w.heap.size, 0, none⟩ = some (.int .i64 4) := hfin.2.2.cell 0; have x1 : X.cell? ⟨w.heap.size, 1, none⟩ = some (.int .u64 (v2 : Int)) := hfin.2.2.cell 1; have x2 : X.cell? ⟨w.heap.size, 2, none⟩ = some (.int .i64 (v3 : Int)) := hfin.2.2.cell 2; have x3 : X.cell? ⟨w.heap.size, 3, none⟩ = some (.slice none 0 0) := hfin.2.2.cell 3; have x4 : X.cell? ⟨w.heap.size, 4, none⟩ = some (.slice none 0 0) := hfin.2.2.cell 4; have x5 : X.cell? ⟨w.heap.size, 5, none⟩ = some (.slice none 0 0) := hfin.2.2.cell 5; have x6 : X.cell? ⟨w.heap.size, 6, none⟩ = some (.slice A5 i5 c5) := hfin.2.2.cell 6; have hb := HB.out; have he := HE.out; have hbi := HBI.out; refine bodyPost_ret (v := .agg #[.int .i64 4, .int .u64 (v2 : Int), .int .i64 (v3 : Int), .slice none 0 0, .slice none 0 0, .slice none 0 0, .slice A5 i5 c5]) (by simp [results, Tryz.results184, go_sem, x0, x1, x2, x3, x4, x5, x6]) rfl ⟨⟨4, v2, v3, none, 0, 0, none, 0, 0, none, 0, 0, A5, i5, c5⟩, rfl, ?_, ?_⟩
   · rw [he]; exact fun w2 h2 => ⟨⟨rfl, rfl, rfl, RdItems.nil_ _ _, RdKids.nil_ _ _, Rd.nil_ _ _, (hst w2 h2).nums, by show (0 : Int) ≤ (v2 : Int); omega, by show (v2 : Int) < _; omega, Nat.zero_le _, Nat.zero_le _, Nat.zero_le _, by show i5 ≤ _; omega⟩, Ow.nil_ _, Ow.nil_ _⟩
   · rw [he]; exact ⟨hfin.1, hfin.2.1⟩
 have d1 : ((v1 : Int) == 1) = false := by simp; omega
 have d2 : ((v1 : Int) == 2) = false := by simp; omega
 have d3 : ((v1 : Int) == 3) = false := by simp; omega
 have d4 : ((v1 : Int) == 4) = false := by simp; omega
 have hE : rpage xs s = _ := HPG.out; rw [if_neg k1, if_neg k2, if_neg k3, if_neg k4] at hE; have HE := kept hE; have hI5 := HI4.out; have HI6 := kept hI5; clear hE e0; have p0 : w4.cell? ⟨w.heap.size, 0, none⟩ = some (.int .i64 0) := hI5.res.cell 0; have t0 := hI5.res.frozen 0; have q0 : w4.cell? ⟨g, 0, none⟩ = some (.int .i64 (v1 : Int)) := hI5.blk.cell 0; have p1 : w4.cell? ⟨w.heap.size, 1, none⟩ = some (.int .u64 0) := hI5.res.cell 1; have t1 := hI5.res.frozen 1; have q1 : w4.cell? ⟨g, 1, none⟩ = some (.int .u64 (v2 : Int)) := hI5.blk.cell 1; have p2 : w4.cell? ⟨w.heap.size, 2, none⟩ = some (.int .i64 0) := hI5.res.cell 2; have t2 := hI5.res.frozen 2; have q2 : w4.cell? ⟨g, 2, none⟩ = some (.int .i64 (v3 : Int)) := hI5.blk.cell 2; have p3 : w4.cell? ⟨w.heap.size, 3, none⟩ = some (.slice none 0 0) := hI5.res.cell 3; have t3 := hI5.res.frozen 3; have q3 : w4.cell? ⟨g, 3, none⟩ = some (.slice none 0 0) := hI5.blk.cell 3; have p4 : w4.cell? ⟨w.heap.size, 4, none⟩ = some (.slice none 0 0) := hI5.res.cell 4; have t4 := hI5.res.frozen 4; have q4 : w4.cell? ⟨g, 4, none⟩ = some (.slice none 0 0) := hI5.blk.cell 4; have p5 : w4.cell? ⟨w.heap.size, 5, none⟩ = some (.slice none 0 0) := hI5.res.cell 5; have t5 := hI5.res.frozen 5; have q5 : w4.cell? ⟨g, 5, none⟩ = some (.slice none 0 0) := hI5.blk.cell 5; have p6 : w4.cell? ⟨w.heap.size, 6, none⟩ = some (.slice none 0 0) := hI5.res.cell 6; have t6 := hI5.res.frozen 6; have q6 : w4.cell? ⟨g, 6, none⟩ = some (.slice none 0 0) := hI5.blk.cell 6; have hgq : g ≠ w.heap.size := by have := hI5.qg; omega
 clear hI5; go_wp2; have hfin := HI6.out.fin (.int .i64 (v1 : Int)) (.int .u64 (v2 : Int)) (.int .i64 (v3 : Int)) (.slice none 0 0) (.slice none 0 0) (.slice none 0 0) (.slice none 0 0); unfold set7 at hfin; generalize (((((((w4.setCell ⟨w.heap.size, 0, none⟩ (.int .i64 (v1 : Int))).setCell ⟨w.heap.size, 1, none⟩ (.int .u64 (v2 : Int))).setCell ⟨w.heap.size, 2, none⟩ (.int .i64 (v3 : Int))).setCell ⟨w.heap.size, 3, none⟩ (.slice none 0 0)).setCell ⟨w.heap.size, 4, none⟩ (.slice none 0 0)).setCell ⟨w.heap.size, 5, none⟩ (.slice none 0 0)).setCell ⟨w.heap.size, 6, none⟩ (.slice none 0 0)) = X at hfin ⊢; have x0 : X.cell? ⟨w.heap.size, 0, none⟩ = some (.int .i64 (v1 : Int)) := hfin.2.2.cell 0; have x1 : X.cell? ⟨w.heap.size, 1, none⟩ = some (.int .u64 (v2 : Int)) := hfin.2.2.cell 1; have x2 : X.cell? ⟨w.heap.size, 2, none⟩ = some (.int .i64 (v3 : Int)) := hfin.2.2.cell 2; have x3 : X.cell? ⟨w.heap.size, 3, none⟩ = some (.slice none 0 0) := hfin.2.2.cell 3; have x4 : X.cell? ⟨w.heap.size, 4, none⟩ = some (.slice none 0 0) := hfin.2.2.cell 4; have x5 : X.cell? ⟨w.heap.size, 5, none⟩ = some (.slice none 0 0) := hfin.2.2.cell 5; have x6 : X.cell? ⟨w.heap.size, 6, none⟩ = some (.slice none 0 0) := hfin.2.2.cell 6; have hb := HB.out; have he := HE.out; refine bodyPost_ret (v := .agg #[.int .i64 (v1 : Int), .int .u64 (v2 : Int), .int .i64 (v3 : Int), .slice none 0 0, .slice none 0 0, .slice none 0 0, .slice none 0 0]) (by simp [results, Tryz.results184, go_sem, x0, x1, x2, x3, x4, x5, x6]) rfl ⟨⟨(v1 : Int), v2, v3, none, 0, 0, none, 0, 0, none, 0, 0, none, 0, 0⟩, rfl, ?_, ?_⟩
 · rw [he]; exact fun w2 h2 => ⟨⟨rfl, rfl, rfl, RdItems.nil_ _ _, RdKids.nil_ _ _, Rd.nil_ _ _, RdNums.nil_ _ _, by show (0 : Int) ≤ (v2 : Int); omega, by show (v2 : Int) < _; omega, Nat.zero_le _, Nat.zero_le _, Nat.zero_le _, Nat.zero_le _⟩, Ow.nil_ _, Ow.nil_ _⟩
 · rw [he]; exact ⟨hfin.1, hfin.2.1⟩
def zeroPg : Pg := ⟨0, 0, 0, [], [], [], []⟩
def zeroLay : Lay := ⟨0, 0, 0, none, 0, 0, none, 0, 0, none, 0, 0, none, 0, 0⟩
theorem zero_rd (w : World) : RdPg w zeroLay zeroPg :=
 ⟨rfl, rfl, rfl, RdItems.nil_ _ _, RdKids.nil_ _ _, Rd.nil_ _ _, RdNums.nil_ _ _, by decide, by decide, Nat.zero_le _, Nat.zero_le _, Nat.zero_le _, Nat.zero_le _⟩
abbrev zeroV : Value := .agg #[.int .i64 0, .int .u64 0, .int .i64 0, .slice none 0 0, .slice none 0 0, .slice none 0 0, .slice none 0 0]
theorem decode_size (A : Option Addr) (n c : Nat) (w : World) (hn : n ≠ 256) :
 Calls Tryz.prog 135 #[.slice A n c] w fun e w' => e = .returned (.tuple #[zeroV, .int .i64 4]) ∧ Below w.heap.size w w' := by
 have hb : ((n : Int) != 256) = true := by simp; omega
 clear hn; go_enter Tryz.func135, Tryz.ntmps135; go_wp2; exact bodyPost_ret (v := .tuple #[zeroV, .int .i64 4]) (by simp [results, Tryz.results135, go_sem]) rfl ⟨rfl, (Below.refl _ _).alloc (Nat.le_refl _) _⟩
theorem decode_sum (A : Option Addr) (c : Nat) (xs : List UInt8) (w : World) (hr : Rd w A 256 xs) (hc : 256 ≤ c) (hf : Fours w) (hw : num (xs.take 4) 0 ≠ csum (xs.drop 4)) :
 Calls Tryz.prog 135 #[.slice A 256 c] w fun e w' => e = .returned (.tuple #[zeroV, .int .i64 6]) ∧ Below w.heap.size w w' := by
 have HO := fun o => kept (open_wrong A 256 c xs (w.alloc o) (hr.alloc o) hc (by omega) (by omega) (hf.alloc o) hw)
 have hres : ∀ (v0 : Value), True := fun _ => trivial
 clear hr hf hw hres; go_enter Tryz.func135, Tryz.ntmps135; go_wp2_with fail
 with_reducible refine (HO _).out.mono ?_
 rintro e w1 ⟨rfl, hb⟩; have hblk := (Blk.new w 137 #[.int .i64 0, .int .u64 0, .int .i64 0, .slice none 0 0, .slice none 0 0, .slice none 0 0, .slice none 0 0]).below hb (by simp); have HBB := kept (below_to hb ((Below.refl _ w).alloc (Nat.le_refl _) _)); have e0 : w1.cell? ⟨w.heap.size, 0, none⟩ = some (.int .i64 0) := hblk.cell 0; have e1 : w1.cell? ⟨w.heap.size, 1, none⟩ = some (.int .u64 0) := hblk.cell 1; have e2 : w1.cell? ⟨w.heap.size, 2, none⟩ = some (.int .i64 0) := hblk.cell 2; have e3 : w1.cell? ⟨w.heap.size, 3, none⟩ = some (.slice none 0 0) := hblk.cell 3; have e4 : w1.cell? ⟨w.heap.size, 4, none⟩ = some (.slice none 0 0) := hblk.cell 4; have e5 : w1.cell? ⟨w.heap.size, 5, none⟩ = some (.slice none 0 0) := hblk.cell 5; have e6 : w1.cell? ⟨w.heap.size, 6, none⟩ = some (.slice none 0 0) := hblk.cell 6; have f0 := hblk.frozen 0; have f1 := hblk.frozen 1; have f2 := hblk.frozen 2; have f3 := hblk.frozen 3; have f4 := hblk.frozen 4; have f5 := hblk.frozen 5; have f6 := hblk.frozen 6; have HBL := kept hblk; clear hb hblk; go_wp2; have HB7 := ((((((HBL.out.set_ 0 (.int .i64 0)).set_ 1 (.int .u64 0)).set_ 2 (.int .i64 0)).set_ 3 (.slice none 0 0)).set_ 4 (.slice none 0 0)).set_ 5 (.slice none 0 0)).set_ 6 (.slice none 0 0); have HO7 : Only w1 _ w.heap.size := (((((((Only.refl w1 w.heap.size).setCell 0 (.int .i64 0)).setCell 1 (.int .u64 0)).setCell 2 (.int .i64 0)).setCell 3 (.slice none 0 0)).setCell 4 (.slice none 0 0)).setCell 5 (.slice none 0 0)).setCell 6 (.slice none 0 0); generalize (((((((w1.setCell ⟨w.heap.size, 0, none⟩ (.int .i64 0)).setCell ⟨w.heap.size, 1, none⟩ (.int .u64 0)).setCell ⟨w.heap.size, 2, none⟩ (.int .i64 0)).setCell ⟨w.heap.size, 3, none⟩ (.slice none 0 0)).setCell ⟨w.heap.size, 4, none⟩ (.slice none 0 0)).setCell ⟨w.heap.size, 5, none⟩ (.slice none 0 0)).setCell ⟨w.heap.size, 6, none⟩ (.slice none 0 0)) = W at HB7 HO7 ⊢; have v0 : W.cell? ⟨w.heap.size, 0, none⟩ = some (.int .i64 0) := HB7.cell 0; have v1 : W.cell? ⟨w.heap.size, 1, none⟩ = some (.int .u64 0) := HB7.cell 1
 have v2 : W.cell? ⟨w.heap.size, 2, none⟩ = some (.int .i64 0) := HB7.cell 2; have v3 : W.cell? ⟨w.heap.size, 3, none⟩ = some (.slice none 0 0) := HB7.cell 3; have v4 : W.cell? ⟨w.heap.size, 4, none⟩ = some (.slice none 0 0) := HB7.cell 4; have v5 : W.cell? ⟨w.heap.size, 5, none⟩ = some (.slice none 0 0) := HB7.cell 5; have v6 : W.cell? ⟨w.heap.size, 6, none⟩ = some (.slice none 0 0) := HB7.cell 6; exact bodyPost_ret (v := .tuple #[zeroV, .int .i64 6]) (by simp [results, Tryz.results135, go_sem, v0, v1, v2, v3, v4, v5, v6]) rfl ⟨rfl, HO7.below HBB.out HBB.out.size (Nat.le_refl _)⟩
def zeroB (xs : List UInt8) : Bool := xs.all fun x => x == 0
theorem zeroB_at {xs : List UInt8} (h : zeroB xs = true) {k : Nat} (hk : k < xs.length) : xs[k].toNat = 0 := by
 have := List.all_eq_true.1 h xs[k] (List.getElem_mem hk); simpa using congrArg UInt8.toNat (by simpa using this : xs[k] = 0)
theorem blank_yes (A : Option Addr) (n c : Nat) (xs : List UInt8) (w : World) (hr : Rd w A n xs) (hl : n ≤ 140737488355328) (hz : zeroB xs = true) :
 Calls Tryz.prog 188 #[.slice A n c] w fun e w' => e = .returned (.bool true) ∧ w = w' := by
 have HR := kept hr; have HZ := kept hz; have HX := kept hr.1; clear hr hz; go_enter Tryz.func188, Tryz.ntmps188; go_wp2; go_loop [7] (fun i => ∃ k : Nat, k ≤ n ∧ i = .int .i64 k) (fun i => n - (intOf i).toNat)
 case atStart => exact ⟨0, by omega, rfl⟩
 case round =>
  obtain ⟨k, hk, rfl⟩ := hrel; by_cases hlt : k < n
  · obtain ⟨a, rfl, hc⟩ := HR.out.2 (by omega); have hki : k < xs.length := by rw [HX.out]; exact hlt
    have hcell := hc k hki; unfold byteV at hcell; rw [zeroB_at HZ.out hki] at hcell; have hcell : w.cell? (a.add k) = some (.int .u8 0) := hcell; clear hc; go_wp2; go_round
    case rel => exact ⟨k + 1, by omega, by go_num⟩
    case measure => simp [intOf]; omega
  · obtain rfl : k = n := by omega
    go_wp2; go_ret; exact ⟨rfl, rfl⟩
def DecP (ys : List UInt8) (P : Pg) : Prop := (rpage ys (0, 0)).1 = P ∧ (rpage ys (0, 0)).2.2 = 0 ∧ zeroB (ys.drop (rpage ys (0, 0)).2.1) = true ∧ rightB P = true
theorem decode_sta (A : Option Addr) (c : Nat) (xs : List UInt8) (P : Pg) (w : World) (hr : Rd w A 256 xs) (hc : 256 ≤ c) (hf : Fours w) (hw : num (xs.take 4) 0 = csum (xs.drop 4)) (hd : DecP (xs.drop 4) P) :
 Calls Tryz.prog 135 #[.slice A 256 c] w fun e w' => ∃ l : Lay, e = .returned (.tuple #[l.val, .int .i64 0]) ∧ Hid (Sta w.heap.size w' (fun w2 => OwPg w.heap.size w2 l P)) ∧ Below w.heap.size w w' := by
 have HO := fun o => kept (open_right A 256 c xs (w.alloc o) (hr.alloc o) hc (by omega) (by omega) (hf.alloc o) hw)
 have hyl : (xs.drop 4).length = 252 := by rw [List.length_drop, hr.1]
 obtain ⟨ys, hys⟩ : ∃ ys, xs.drop 4 = ys := ⟨_, rfl⟩
 rw [hys] at HO hd hyl; simp only [Nat.reduceSub] at HO; obtain ⟨hP, hE, hZ, hRB⟩ := hd; obtain ⟨pos, hpos⟩ : ∃ p, (rpage ys (0, 0)).2.1 = p := ⟨_, rfl⟩
 rw [hpos] at hZ; have hst : (rpage ys (0, 0)).2 = (pos, 0) := Prod.ext hpos hE; have HZ := kept hZ; have HP := kept hP; have HST := kept hst; have HRB := kept hRB; have HYL := kept hyl; clear hr hf hw hys hP hE hZ hRB hpos hst; go_enter Tryz.func135, Tryz.ntmps135; go_wp2_with fail
 with_reducible refine (HO _).out.mono ?_
 rintro e w1 ⟨A1, c1, rfl, hown1, hb1⟩; have HQ1 := kept ((Blk.new w 137 #[.int .i64 0, .int .u64 0, .int .i64 0, .slice none 0 0, .slice none 0 0, .slice none 0 0, .slice none 0 0]).below hb1 (by simp)); have HB1 := kept (below_to hb1 ((Below.refl _ w).alloc (Nat.le_refl _) _)); have HNR := kept (newReader_any A1 252 c1 ys w1 (Rd.of_own hown1) (by omega)); clear hown1 hb1; go_wp2_with fail
 with_reducible refine HNR.out.mono ?_
 rintro e w2 ⟨r, A2, c2, rfl, hr2, hc2, hrs, hb2⟩; have HQ2 := kept (HQ1.out.below hb2 HQ1.out.lt); have HB2 := kept (below_to hb2 HB1.out); have HR2 : Hid (RS w2 r A2 252 c2 ys (0, 0)) := kept ⟨hr2, Nat.zero_le _, .inl rfl, hc2, by omega⟩; have HNE := kept (show w.heap.size < r from Nat.lt_of_lt_of_le HQ1.out.lt hrs); have hRP := read_any r A2 252 c2 ys (0, 0) w2 HR2.out; rw [HP.out, HST.out] at hRP; have HRP := kept hRP; clear hr2 hc2 hrs hb2 hRP; go_wp2_with fail
 with_reducible refine HRP.out.mono ?_
 rintro e w3 ⟨l, rfl, hsta, hR3, hO3⟩; obtain ⟨kind, txn, next, a1, n1, k1, a2, n2, k2, a3, n3, k3, a4, n4, k4⟩ := l; have hp252 : pos ≤ 252 := hR3.2.1; obtain ⟨m, hm⟩ : ∃ m, 252 - pos = m := ⟨_, rfl⟩
 have hwm : IntKind.i64.wrap (252 - (pos : Int)) = (m : Int) := by
  rw [IntWalk.i64_in _ ⟨by omega, by omega⟩]; omega
 have hne3 : r ≠ w3.heap.size := by have := hR3.lt; omega
 have HR3 := fun o => kept ((hR3.alloc o))
 have HQ3 := fun o => kept ((HQ2.out.only hO3 (by have := HNE.out; omega)).alloc o)
 have HB3 := fun o => kept ((hO3.below HB2.out HB2.out.size (Nat.le_of_lt HNE.out)).alloc (Nat.le_trans HB2.out.size hO3.size) o)
 have HSTA := kept hsta; have HSZ := kept hO3.size; have HG3 := kept (Blk.new w3 137 #[.int .i64 kind, .int .u64 txn, .int .i64 next, .slice a1 n1 k1, .slice a2 n2 k2, .slice a3 n3 k3, .slice a4 n4 k4]); have HAT := fun o => kept (at_any r A2 252 c2 ys pos 0 (w3.alloc o) (hR3.alloc o).1)
 have HBY := fun o => kept (bytes_new r A2 252 c2 ys pos m (w3.alloc o) (hR3.alloc o).1 (by omega) hR3.2.2.2.1 (by omega))
 have HRL := kept hR3.lt; clear hsta hR3 hO3; go_wp2_with fail
 with_reducible refine (HAT _).out.mono ?_
 rintro e w4 ⟨rfl, rfl⟩; go_wp2_with fail
 with_reducible refine (HBY _).out.mono ?_
 rintro e w4 ⟨A4, c4, rfl, hd4, hr4, hO4⟩; have hz : zeroB (part ys pos m) = true := by
  have e : part ys pos m = ys.drop pos := by
   unfold part; exact List.take_of_length_le (by rw [List.length_drop, HYL.out]; omega)
  rw [e]; exact HZ.out
 have hpm : pos + m = 252 := by omega
 have hEN := endR_any r A2 252 c2 ys (pos + m) 0 w4 hr4 (by omega) (by omega); rw [show endE 252 (pos + m) 0 = 0 by rw [hpm]; rfl] at hEN; have HEN := kept hEN; have HBL := fun q => kept (blank_yes A4 m c4 (part ys pos m) (w4.drewN q) (hd4.1.below (below_drewN _ q)) (by omega) hz)
 have hOn : ∀ q, Onl w2.heap.size w3 (w4.drewN q) := fun q => (((Onl.one (Only.alloc_ w3 _ r) HR2.out.lt).step hO4 HR2.out.lt).step ((Only.refl w4 r).drewN q) HR2.out.lt)
 have HRT := fun q => kept (right_any ⟨kind, txn, next, a1, n1, k1, a2, n2, k2, a3, n3, k3, a4, n4, k4⟩ P (w4.drewN q) (HSTA.out _ (hOn q)).toRdPg)
 rw [HRB.out] at HRT; have HON := fun q => kept (hOn q)
 have HG4 := fun q => kept (((HG3.out.only hO4 (Ne.symm hne3)).below (below_drewN _ q) (HG3.out.only hO4 (Ne.symm hne3)).lt))
 have HQ4 := fun q => kept ((((HQ3 _).out.only hO4 (by have := HNE.out; omega)).below (below_drewN _ q) ((HQ3 _).out.only hO4 (by have := HNE.out; omega)).lt))
 have HB4 := fun q => kept (below_to (below_drewN _ q) (hO4.below (HB3 _).out (HB3 _).out.size (Nat.le_of_lt HNE.out)))
 clear hEN hd4 hr4 hO4 hOn hz; go_wp2_with fail
 with_reducible refine HEN.out.mono ?_
 rintro e w5 ⟨rfl, hq⟩; obtain ⟨q, rfl⟩ := hq.out; clear hq; have y0 : (w4.drewN q).cell? ⟨w3.heap.size, 0, none⟩ = some (.int .i64 kind) := (HG4 q).out.cell 0; have y1 : (w4.drewN q).cell? ⟨w3.heap.size, 1, none⟩ = some (.int .u64 txn) := (HG4 q).out.cell 1; have y2 : (w4.drewN q).cell? ⟨w3.heap.size, 2, none⟩ = some (.int .i64 next) := (HG4 q).out.cell 2; have y3 : (w4.drewN q).cell? ⟨w3.heap.size, 3, none⟩ = some (.slice a1 n1 k1) := (HG4 q).out.cell 3; have y4 : (w4.drewN q).cell? ⟨w3.heap.size, 4, none⟩ = some (.slice a2 n2 k2) := (HG4 q).out.cell 4; have y5 : (w4.drewN q).cell? ⟨w3.heap.size, 5, none⟩ = some (.slice a3 n3 k3) := (HG4 q).out.cell 5; have y6 : (w4.drewN q).cell? ⟨w3.heap.size, 6, none⟩ = some (.slice a4 n4 k4) := (HG4 q).out.cell 6; go_wp2_with fail
 with_reducible refine (HBL _).out.mono ?_
 rintro e w5 ⟨rfl, rfl⟩; go_wp2_with fail
 with_reducible refine (HRT _).out.mono ?_
 rintro e w6 ⟨rfl, hb6⟩; clear y0 y1 y2 y3 y4 y5 y6; have hq6 := (HQ4 q).out.below hb6 (HQ4 q).out.lt; have hg6 := (HG4 q).out.below hb6 (HG4 q).out.lt; have y0 : w6.cell? ⟨w3.heap.size, 0, none⟩ = some (.int .i64 kind) := hg6.cell 0; have p0 : w6.cell? ⟨w.heap.size, 0, none⟩ = some (.int .i64 0) := hq6.cell 0; have t0 := hq6.frozen 0; have y1 : w6.cell? ⟨w3.heap.size, 1, none⟩ = some (.int .u64 txn) := hg6.cell 1; have p1 : w6.cell? ⟨w.heap.size, 1, none⟩ = some (.int .u64 0) := hq6.cell 1; have t1 := hq6.frozen 1; have y2 : w6.cell? ⟨w3.heap.size, 2, none⟩ = some (.int .i64 next) := hg6.cell 2; have p2 : w6.cell? ⟨w.heap.size, 2, none⟩ = some (.int .i64 0) := hq6.cell 2; have t2 := hq6.frozen 2; have y3 : w6.cell? ⟨w3.heap.size, 3, none⟩ = some (.slice a1 n1 k1) := hg6.cell 3; have p3 : w6.cell? ⟨w.heap.size, 3, none⟩ = some (.slice none 0 0) := hq6.cell 3; have t3 := hq6.frozen 3; have y4 : w6.cell? ⟨w3.heap.size, 4, none⟩ = some (.slice a2 n2 k2) := hg6.cell 4; have p4 : w6.cell? ⟨w.heap.size, 4, none⟩ = some (.slice none 0 0) := hq6.cell 4; have t4 := hq6.frozen 4; have y5 : w6.cell? ⟨w3.heap.size, 5, none⟩ = some (.slice a3 n3 k3) := hg6.cell 5; have p5 : w6.cell? ⟨w.heap.size, 5, none⟩ = some (.slice none 0 0) := hq6.cell 5; have t5 := hq6.frozen 5; have y6 : w6.cell? ⟨w3.heap.size, 6, none⟩ = some (.slice a4 n4 k4) := hg6.cell 6; have p6 : w6.cell? ⟨w.heap.size, 6, none⟩ = some (.slice none 0 0) := hq6.cell 6; have t6 := hq6.frozen 6; have hgq : w3.heap.size ≠ w.heap.size := by have := HSZ.out; have := HQ2.out.lt; omega
 have HQ6 := kept hq6; have HB6 := kept (below_to hb6 (HB4 q).out); have HS6 := kept (HSTA.out.go ((HON q).out.step (Only.of_below (r := r) hb6) HR2.out.lt) (Nat.le_refl _)); clear hq6 hg6 hb6; go_wp2; have hb7 := ((((((HQ6.out.set_ 0 (.int .i64 kind)).set_ 1 (.int .u64 txn)).set_ 2 (.int .i64 next)).set_ 3 (.slice a1 n1 k1)).set_ 4 (.slice a2 n2 k2)).set_ 5 (.slice a3 n3 k3)).set_ 6 (.slice a4 n4 k4); simp only [List.set_cons_zero, List.set_cons_succ] at hb7; have ho7 := only7 w6 w.heap.size (.int .i64 kind) (.int .u64 txn) (.int .i64 next) (.slice a1 n1 k1) (.slice a2 n2 k2) (.slice a3 n3 k3) (.slice a4 n4 k4); unfold set7 at ho7; generalize (((((((w6.setCell ⟨w.heap.size, 0, none⟩ (.int .i64 kind)).setCell ⟨w.heap.size, 1, none⟩ (.int .u64 txn)).setCell ⟨w.heap.size, 2, none⟩ (.int .i64 next)).setCell ⟨w.heap.size, 3, none⟩ (.slice a1 n1 k1)).setCell ⟨w.heap.size, 4, none⟩ (.slice a2 n2 k2)).setCell ⟨w.heap.size, 5, none⟩ (.slice a3 n3 k3)).setCell ⟨w.heap.size, 6, none⟩ (.slice a4 n4 k4)) = X at hb7 ho7 ⊢; have x0 : X.cell? ⟨w.heap.size, 0, none⟩ = some (.int .i64 kind) := hb7.cell 0; have x1 : X.cell? ⟨w.heap.size, 1, none⟩ = some (.int .u64 txn) := hb7.cell 1; have x2 : X.cell? ⟨w.heap.size, 2, none⟩ = some (.int .i64 next) := hb7.cell 2; have x3 : X.cell? ⟨w.heap.size, 3, none⟩ = some (.slice a1 n1 k1) := hb7.cell 3; have x4 : X.cell? ⟨w.heap.size, 4, none⟩ = some (.slice a2 n2 k2) := hb7.cell 4; have x5 : X.cell? ⟨w.heap.size, 5, none⟩ = some (.slice a3 n3 k3) := hb7.cell 5; have x6 : X.cell? ⟨w.heap.size, 6, none⟩ = some (.slice a4 n4 k4) := hb7.cell 6; exact bodyPost_ret (v := .tuple #[.agg #[.int .i64 kind, .int .u64 txn, .int .i64 next, .slice a1 n1 k1, .slice a2 n2 k2, .slice a3 n3 k3, .slice a4 n4 k4], .int .i64 0]) (by simp [results, Tryz.results135, go_sem, x0, x1, x2, x3, x4, x5, x6]) rfl ⟨⟨kind, txn, next, a1, n1, k1, a2, n2, k2, a3, n3, k3, a4, n4, k4⟩, rfl, kept (OwPg.sta_go HS6.out (Onl.one ho7 HQ2.out.lt) (Nat.le_of_lt HQ2.out.lt)), ho7.below HB6.out HB6.out.size (Nat.le_refl _)⟩
theorem page_small {i : Int} (h : isPg i = true) : 0 ≤ i ∧ i < 1024 := by
 unfold isPg at h; simp only [Bool.and_eq_true, decide_eq_true_eq] at h; omega
theorem Fro.id {ys zs : List UInt8} {pos : Nat} {i : Int} (h : Fro ys pos (encId i ++ zs)) (h0 : 0 ≤ i) (h1 : i < 1024) : rid ys (pos, 0) = (i, (pos + (encId i).length, 0)) ∧ Fro ys (pos + (encId i).length) zs := by
 obtain ⟨e, h2⟩ := h.num (by omega); rw [encId_length]; exact ⟨by unfold rid; rw [e]; simp only [Prod.mk.injEq, and_true]; omega, h2⟩
theorem Fro.kid {ys zs : List UInt8} {pos : Nat} {x : Kd} (h : Fro ys pos (encKid x ++ zs)) (hx : kidOk x = true) : rkid ys (pos, 0) = (x, (pos + (encKid x).length, 0)) ∧ Fro ys (pos + (encKid x).length) zs := by
 unfold kidOk at hx; simp only [Bool.and_eq_true, decide_eq_true_eq] at hx; obtain ⟨p0, p1⟩ := page_small hx.2; unfold encKid at h; rw [List.append_assoc, List.append_assoc] at h; obtain ⟨e1, h1⟩ := h.num (by omega); obtain ⟨e2, h2⟩ := h1.bytes rfl; obtain ⟨e3, h3⟩ := h2.num (by omega); have hl : pos + (encKid x).length = pos + 1 + x.key.length + 4 := by
  rw [encKid_length]; unfold kidUse; omega
 rw [hl]; refine ⟨?_, h3⟩; simp only [rkid, e1, e2, e3, Prod.mk.injEq, and_true]; obtain ⟨key, page⟩ := x; simp only [Kd.mk.injEq, true_and]; simp only at p0; omega
theorem Fro.item {ys zs : List UInt8} {pos : Nat} {x : Itm} (h : Fro ys pos (encItem x ++ zs)) (hx : itemOk x = true) : ritem ys (pos, 0) = (x, (pos + (encItem x).length, 0)) ∧ Fro ys (pos + (encItem x).length) zs := by
 unfold itemOk at hx; simp only [Bool.and_eq_true, decide_eq_true_eq] at hx; obtain ⟨⟨⟨hk, s0⟩, s1⟩, hv⟩ := hx; rw [encItem_length]; unfold encItem at h; rw [List.append_assoc, List.append_assoc, List.append_assoc] at h; obtain ⟨e1, h1⟩ := h.num (by omega); obtain ⟨e2, h2⟩ := h1.num (by omega); obtain ⟨e3, h3⟩ := h2.bytes rfl; obtain ⟨key, val, size, more⟩ := x; simp only at s0 s1 hk hv e1 e2 e3 h1 h2 h3 ⊢; by_cases hin : size ≤ 64
 · rw [if_pos hin] at hv h3; simp only [Bool.and_eq_true, decide_eq_true_eq] at hv; obtain ⟨hv1, rfl⟩ := hv; obtain ⟨e4, h4⟩ := h3.bytes (k := size.toNat) (by omega); have hl : pos + itemUse ⟨key, val, size, 0⟩ = pos + 1 + 2 + key.length + size.toNat := by
    unfold itemUse; simp only [if_pos hin]; omega
   rw [hl]; refine ⟨?_, h4⟩; have hn : size.toNat ≤ 64 := by omega
   simp only [ritem, e1, e2, e3, if_pos hn, e4, Prod.mk.injEq, Itm.mk.injEq, and_true, true_and]; omega
 · rw [if_neg hin] at hv h3; simp only [Bool.and_eq_true, decide_eq_true_eq] at hv; obtain ⟨hv1, hm⟩ := hv; obtain rfl := List.eq_nil_of_length_eq_zero hv1; obtain ⟨p0, p1⟩ := page_small hm; obtain ⟨e4, h4⟩ := h3.num (k := 4) (v := more.toNat) (by omega); have hl : pos + itemUse ⟨key, [], size, more⟩ = pos + 1 + 2 + key.length + 4 := by
    unfold itemUse; simp only [if_neg hin]; omega
   rw [hl]; refine ⟨?_, h4⟩; have hn : ¬ size.toNat ≤ 64 := by omega
   simp only [ritem, e1, e2, e3, if_neg hn, e4, Prod.mk.injEq, Itm.mk.injEq, and_true, true_and]; omega
theorem Fro.list {α : Type} {ys : List UInt8} {one : Rst → α × Rst} {f : α → List UInt8} {zs : List UInt8} : ∀ (I : List α) (pos : Nat), (∀ x ∈ I, ∀ p us, Fro ys p (f x ++ us) → one (p, 0) = (x, (p + (f x).length, 0)) ∧ Fro ys (p + (f x).length) us) →
 Fro ys pos ((I.map f).flatten ++ zs) → rlist one I.length (pos, 0) = (I, (pos + ((I.map f).flatten).length, 0)) ∧ Fro ys (pos + ((I.map f).flatten).length) zs
 | [], pos, _, h => ⟨by simp [rlist], by simpa using h⟩
 | x :: r, pos, ho, h => by
   rw [List.map_cons, List.flatten_cons, List.append_assoc] at h; obtain ⟨e1, h1⟩ := ho x (by simp) pos _ h; obtain ⟨e2, h2⟩ := Fro.list r _ (fun y hy => ho y (by simp [hy])) h1; have hl : pos + (((x :: r).map f).flatten).length = pos + (f x).length + ((r.map f).flatten).length := by
    simp only [List.map_cons, List.flatten_cons, List.length_append]; omega
   rw [hl]; refine ⟨?_, h2⟩; simp only [List.length_cons, rlist, ne_eq, not_true_eq_false, if_false, e1, e2]
theorem body_reads {P : Pg} (hR : rightB P = true) (t0 : 0 ≤ P.txn) (t1 : P.txn < 18446744073709551616) : DecP (bodyOf P) P := by
 obtain ⟨hown, hnext, hth, hu⟩ := right_parts hR; obtain ⟨k1, k4⟩ := own_kind hown; obtain ⟨x0, x1⟩ := next_range hnext; have hcnt := cntP_le hu; have hz : ∀ m, zeroB (List.replicate m 0) = true := fun m => by
  unfold zeroB; rw [List.all_eq_true]; intro x hx; obtain ⟨_, rfl⟩ := List.mem_replicate.1 hx; rfl
 have h0 : Fro (bodyOf P) 0 (be P.kind.toNat 1 ++ (be P.txn.toNat 8 ++ (be P.next.toNat 4 ++ (be (cntP P) 2 ++ (roomOf P ++ List.replicate (252 - (encPg P).length) 0))))) := ⟨by simp [bodyOf, pad, encPg, List.append_assoc], Nat.zero_le _⟩
 obtain ⟨e1, h1⟩ := h0.num (by omega); obtain ⟨e2, h2⟩ := h1.num (by omega); obtain ⟨e3, h3⟩ := h2.num (by omega); obtain ⟨e4, h4⟩ := h3.num (by omega); unfold thingsB at hth; simp only [Bool.and_eq_true] at hth; obtain ⟨⟨o1, o2⟩, o3⟩ := hth; generalize hb : bodyOf P = ys at *; generalize hm : 252 - (encPg P).length = m at *; obtain ⟨kind, txn, next, I, J, D, N⟩ := P; unfold ownB at hown; simp only [Bool.and_eq_true, Bool.or_eq_true, decide_eq_true_eq] at hown; simp only at *; have hkd : kind = 1 ∨ kind = 2 ∨ kind = 3 ∨ kind = 4 := by omega
 have et : ((txn.toNat : Nat) : Int) = txn := by omega
 have ex : ((next.toNat : Nat) : Int) = next := by omega
 unfold DecP; rcases hkd with rfl | rfl | rfl | rfl
 · obtain rfl : J = [] := List.eq_nil_of_length_eq_zero (by omega); obtain rfl : D = [] := List.eq_nil_of_length_eq_zero (by omega); obtain rfl : N = [] := List.eq_nil_of_length_eq_zero (by omega); simp only [cntP, roomOf, List.length_nil, Nat.add_zero, List.map_nil, List.flatten_nil, List.append_nil, Nat.zero_add] at e4 h4; obtain ⟨e5, h5⟩ := Fro.list (one := ritem ys) I _ (fun x hx p us hf => hf.item (ordU_all o1 x hx)) h4; have hr : rpage ys (0, 0) = (⟨1, txn, next, I, [], [], []⟩, (0 + 1 + 8 + 4 + 2 + ((I.map encItem).flatten).length, 0)) := by
    simp only [rpage, e1, e2, e3, e4, e5, et, ex, show (1 : Int).toNat = 1 from rfl, if_true]
   rw [hr]; exact ⟨rfl, rfl, by rw [h5.1]; exact hz _, hR⟩
 · obtain rfl : I = [] := List.eq_nil_of_length_eq_zero (by omega); obtain rfl : D = [] := List.eq_nil_of_length_eq_zero (by omega); obtain rfl : N = [] := List.eq_nil_of_length_eq_zero (by omega); simp only [cntP, roomOf, List.length_nil, Nat.add_zero, List.map_nil, List.flatten_nil, List.append_nil, List.nil_append, Nat.zero_add] at e4 h4; obtain ⟨e5, h5⟩ := Fro.list (one := rkid ys) J _ (fun x hx p us hf => hf.kid (ordU_all o2 x hx)) h4; have hr : rpage ys (0, 0) = (⟨2, txn, next, [], J, [], []⟩, (0 + 1 + 8 + 4 + 2 + ((J.map encKid).flatten).length, 0)) := by
    simp only [rpage, e1, e2, e3, e4, e5, et, ex, show (2 : Int).toNat = 2 from rfl, if_true, show ¬ (2 : Nat) = 1 by omega, if_false]
   rw [hr]; exact ⟨rfl, rfl, by rw [h5.1]; exact hz _, hR⟩
 · obtain rfl : I = [] := List.eq_nil_of_length_eq_zero (by omega); obtain rfl : J = [] := List.eq_nil_of_length_eq_zero (by omega); obtain rfl : N = [] := List.eq_nil_of_length_eq_zero (by omega); simp only [cntP, roomOf, List.length_nil, Nat.add_zero, List.map_nil, List.flatten_nil, List.append_nil, List.nil_append, Nat.zero_add] at e4 h4; obtain ⟨e5, h5⟩ := h4.bytes rfl; have hr : rpage ys (0, 0) = (⟨3, txn, next, [], [], D, []⟩, (0 + 1 + 8 + 4 + 2 + D.length, 0)) := by
    simp only [rpage, e1, e2, e3, e4, e5, et, ex, show (3 : Int).toNat = 3 from rfl, if_true, show ¬ (3 : Nat) = 1 by omega, show ¬ (3 : Nat) = 2 by omega, if_false]
   rw [hr]; exact ⟨rfl, rfl, by rw [h5.1]; exact hz _, hR⟩
 · obtain rfl : I = [] := List.eq_nil_of_length_eq_zero (by omega); obtain rfl : J = [] := List.eq_nil_of_length_eq_zero (by omega); obtain rfl : D = [] := List.eq_nil_of_length_eq_zero (by omega); simp only [cntP, roomOf, List.length_nil, Nat.add_zero, List.map_nil, List.flatten_nil, List.append_nil, List.nil_append, Nat.zero_add] at e4 h4; obtain ⟨e5, h5⟩ := Fro.list (one := rid ys) N _ (fun x hx p us hf => hf.id (page_small (ordU_all o3 x hx)).1 (page_small (ordU_all o3 x hx)).2) h4; have hr : rpage ys (0, 0) = (⟨4, txn, next, [], [], [], N⟩, (0 + 1 + 8 + 4 + 2 + ((N.map encId).flatten).length, 0)) := by
    simp only [rpage, e1, e2, e3, e4, e5, et, ex, show (4 : Int).toNat = 4 from rfl, if_true, show ¬ (4 : Nat) = 1 by omega, show ¬ (4 : Nat) = 2 by omega, show ¬ (4 : Nat) = 3 by omega, if_false]
   rw [hr]; exact ⟨rfl, rfl, by rw [h5.1]; exact hz _, hR⟩
theorem blank_no (A : Option Addr) (n c : Nat) (xs : List UInt8) (w : World) (hr : Rd w A n xs) (hl : n ≤ 140737488355328) (hz : zeroB xs = false) :
 Calls Tryz.prog 188 #[.slice A n c] w fun e w' => e = .returned (.bool false) ∧ w = w' := by
 have HR := kept hr; have HX := kept hr.1; have HZ := kept hz; clear hr hz; go_enter Tryz.func188, Tryz.ntmps188; go_wp2; go_loop [7] (fun i => ∃ k : Nat, k ≤ n ∧ i = .int .i64 k ∧ Hid (zeroB (xs.take k) = true)) (fun i => n - (intOf i).toNat)
 case atStart => exact ⟨0, by omega, rfl, by show zeroB _ = true; simp [zeroB]⟩
 case round =>
  obtain ⟨k, hk, rfl, HT⟩ := hrel; by_cases hlt : k < n
  · obtain ⟨a, rfl, hc⟩ := HR.out.2 (by omega); have hki : k < xs.length := by rw [HX.out]; exact hlt
    have hcell := hc k hki; unfold byteV at hcell; have hx : zeroB (xs.take (k + 1)) = decide (xs[k].toNat = 0) := by
     have ht := HT.out; unfold zeroB at ht ⊢; rw [List.take_succ_eq_append_getElem hki, List.all_append, ht, Bool.true_and]; simp only [List.all_cons, List.all_nil, Bool.and_true]; rw [Bool.eq_iff_iff]; simp only [beq_iff_eq, decide_eq_true_eq]; exact ⟨fun e => by rw [e]; rfl, fun e => UInt8.toNat_inj.1 (by rw [e]; rfl)⟩
    obtain ⟨b, hb⟩ : ∃ b, xs[k].toNat = b := ⟨_, rfl⟩
    rw [hb] at hcell hx; have HXX := kept hx; clear hc hb hx; by_cases hb0 : b = 0
    · subst hb0; have hcell : w.cell? (a.add k) = some (.int .u8 0) := hcell; go_wp2; go_round
      case rel => exact ⟨k + 1, by omega, by go_num, by show _ = _; rw [HXX.out]; rfl⟩
      case measure => simp [intOf]; omega
    · have hne : ((b : Int) != 0) = true := by simp; omega
      go_wp2; go_ret; exact ⟨rfl, rfl⟩
  · obtain rfl : k = n := by omega
    have ht := HT.out; rw [List.take_of_length_le (by rw [HX.out]; omega), HZ.out] at ht; cases ht
theorem decode_none (A : Option Addr) (c : Nat) (xs : List UInt8) (w : World) (hr : Rd w A 256 xs) (hc : 256 ≤ c) (hf : Fours w) (hw : num (xs.take 4) 0 = csum (xs.drop 4)) (hd : ∀ P, ¬ DecP (xs.drop 4) P) :
 Calls Tryz.prog 135 #[.slice A 256 c] w fun e w' => e = .returned (.tuple #[zeroV, .int .i64 4]) ∧ Below w.heap.size w w' := by
 have HO := fun o => kept (open_right A 256 c xs (w.alloc o) (hr.alloc o) hc (by omega) (by omega) (hf.alloc o) hw)
 have hyl : (xs.drop 4).length = 252 := by rw [List.length_drop, hr.1]
 obtain ⟨ys, hys⟩ : ∃ ys, xs.drop 4 = ys := ⟨_, rfl⟩
 rw [hys] at HO hd hyl; simp only [Nat.reduceSub] at HO; obtain ⟨P, hP⟩ : ∃ P, (rpage ys (0, 0)).1 = P := ⟨_, rfl⟩
 obtain ⟨pos, hpos⟩ : ∃ p, (rpage ys (0, 0)).2.1 = p := ⟨_, rfl⟩
 obtain ⟨err, herr⟩ : ∃ p, (rpage ys (0, 0)).2.2 = p := ⟨_, rfl⟩
 have hst : (rpage ys (0, 0)).2 = (pos, err) := Prod.ext hpos herr; have hno : ¬ (err = 0 ∧ zeroB (ys.drop pos) = true ∧ rightB P = true) := fun h => hd P ⟨hP, herr.trans h.1, by rw [hpos]; exact h.2.1, h.2.2⟩
 have HP := kept hP; have HST := kept hst; have HNO := kept hno; have HYL := kept hyl; clear hr hf hw hys hP hst hno hd hpos herr; go_enter Tryz.func135, Tryz.ntmps135; go_wp2_with fail
 with_reducible refine (HO _).out.mono ?_
 rintro e w1 ⟨A1, c1, rfl, hown1, hb1⟩; have HQ1 := kept ((Blk.new w 137 #[.int .i64 0, .int .u64 0, .int .i64 0, .slice none 0 0, .slice none 0 0, .slice none 0 0, .slice none 0 0]).below hb1 (by simp)); have HB1 := kept (below_to hb1 ((Below.refl _ w).alloc (Nat.le_refl _) _)); have HNR := kept (newReader_any A1 252 c1 ys w1 (Rd.of_own hown1) (by omega)); clear hown1 hb1; go_wp2_with fail
 with_reducible refine HNR.out.mono ?_
 rintro e w2 ⟨r, A2, c2, rfl, hr2, hc2, hrs, hb2⟩; have HQ2 := kept (HQ1.out.below hb2 HQ1.out.lt); have HB2 := kept (below_to hb2 HB1.out); have HR2 : Hid (RS w2 r A2 252 c2 ys (0, 0)) := kept ⟨hr2, Nat.zero_le _, .inl rfl, hc2, by omega⟩; have HNE := kept (show w.heap.size < r from Nat.lt_of_lt_of_le HQ1.out.lt hrs); have hRP := read_any r A2 252 c2 ys (0, 0) w2 HR2.out; rw [HP.out, HST.out] at hRP; have HRP := kept hRP; clear hr2 hc2 hrs hb2 hRP; go_wp2_with fail
 with_reducible refine HRP.out.mono ?_
 rintro e w3 ⟨l, rfl, hsta, hR3, hO3⟩; obtain ⟨kind, txn, next, a1, n1, k1, a2, n2, k2, a3, n3, k3, a4, n4, k4⟩ := l; have hp252 : pos ≤ 252 := hR3.2.1; obtain ⟨m, hm⟩ : ∃ m, 252 - pos = m := ⟨_, rfl⟩
 have hwm : IntKind.i64.wrap (252 - (pos : Int)) = (m : Int) := by
  rw [IntWalk.i64_in _ ⟨by omega, by omega⟩]; omega
 have hne3 : r ≠ w3.heap.size := by have := hR3.lt; omega
 have HR3 := fun o => kept ((hR3.alloc o))
 have HQ3 := fun o => kept ((HQ2.out.only hO3 (by have := HNE.out; omega)).alloc o)
 have HB3 := fun o => kept ((hO3.below HB2.out HB2.out.size (Nat.le_of_lt HNE.out)).alloc (Nat.le_trans HB2.out.size hO3.size) o)
 have HSTA := kept hsta; have HG3 := kept (Blk.new w3 137 #[.int .i64 kind, .int .u64 txn, .int .i64 next, .slice a1 n1 k1, .slice a2 n2 k2, .slice a3 n3 k3, .slice a4 n4 k4]); have HAT := fun o => kept (at_any r A2 252 c2 ys pos err (w3.alloc o) (hR3.alloc o).1)
 have hby := fun o => bytes_any r A2 252 c2 ys (pos, err) m (w3.alloc o) (hR3.alloc o) (by omega)
 obtain ⟨b4, hb4⟩ : ∃ v, (rbytes ys m (pos, err)).1 = v := ⟨_, rfl⟩
 obtain ⟨s4, hs4⟩ : ∃ v, (rbytes ys m (pos, err)).2 = v := ⟨_, rfl⟩
 rw [hb4, hs4] at hby; have HBY := fun o => kept (hby o)
 have hE : err = 0 ∨ err = 3 := hR3.2.2.1; have hs3 : err = 3 → s4 = (pos, 3) := fun h => by rw [← hs4, h]; rfl
 have hs0 : err = 0 → s4 = (252, 0) ∧ b4 = ys.drop pos := fun h => by
  subst h; have hk : pos + m ≤ ys.length := by rw [HYL.out]; omega
  rw [← hs4, ← hb4]; simp only [rbytes, ne_eq, not_true_eq_false, if_false, hk, if_true]; exact ⟨by rw [show pos + m = 252 by omega], by unfold part; exact List.take_of_length_le (by rw [List.length_drop, HYL.out]; omega)⟩
 have HS3 := kept hs3; have HS0 := kept hs0; have HEE := kept hE; have HM := kept (show m ≤ 252 by omega); clear hsta hR3 hO3 hby hb4 hs4 hE hs3 hs0 hm; go_wp2_with fail
 with_reducible refine (HAT _).out.mono ?_
 rintro e w4 ⟨rfl, rfl⟩; go_wp2_with fail
 with_reducible refine (HBY _).out.mono ?_
 rintro e w4 ⟨A4, n4', c4, rfl, hd4, hR4, hO4⟩; have HON := fun q => kept ((((Onl.one (Only.alloc_ w3 _ r) HR2.out.lt).step hO4 HR2.out.lt).step ((Only.refl w4 r).drewN q) HR2.out.lt) : Onl w2.heap.size w3 (w4.drewN q))
 have HRT := fun q => kept (right_any ⟨kind, txn, next, a1, n1, k1, a2, n2, k2, a3, n3, k3, a4, n4, k4⟩ P (w4.drewN q) (HSTA.out _ (HON q).out).toRdPg)
 have HG4 := fun q => kept (((HG3.out.only hO4 (Ne.symm hne3)).below (below_drewN _ q) (HG3.out.only hO4 (Ne.symm hne3)).lt))
 have HQ4 := fun q => kept ((((HQ3 _).out.only hO4 (by have := HNE.out; omega)).below (below_drewN _ q) ((HQ3 _).out.only hO4 (by have := HNE.out; omega)).lt))
 have HB4 := fun q => kept (below_to (below_drewN _ q) (hO4.below (HB3 _).out (HB3 _).out.size (Nat.le_of_lt HNE.out)))
 have hEN := endR_any r A2 252 c2 ys s4.1 s4.2 w4 hR4.1 (by omega) hR4.2.1; have HD4 := kept (And.intro hd4.1 hd4.2.2.2); clear hd4 hR4 hO4; rcases HEE.out.symm with hE3 | hE0
 · obtain rfl := HS3.out hE3; rw [show endE 252 pos 3 = 3 from rfl] at hEN; have HEN := kept hEN; clear hE3 hEN hwm; go_wp2_with fail
   with_reducible refine HEN.out.mono ?_
   rintro e w5 ⟨rfl, hq⟩; obtain ⟨q, rfl⟩ := hq.out; clear hq; have p0 : (w4.drewN q).cell? ⟨w.heap.size, 0, none⟩ = some (.int .i64 0) := (HQ4 q).out.cell 0; have t0 := (HQ4 q).out.frozen 0; have p1 : (w4.drewN q).cell? ⟨w.heap.size, 1, none⟩ = some (.int .u64 0) := (HQ4 q).out.cell 1; have t1 := (HQ4 q).out.frozen 1; have p2 : (w4.drewN q).cell? ⟨w.heap.size, 2, none⟩ = some (.int .i64 0) := (HQ4 q).out.cell 2; have t2 := (HQ4 q).out.frozen 2; have p3 : (w4.drewN q).cell? ⟨w.heap.size, 3, none⟩ = some (.slice none 0 0) := (HQ4 q).out.cell 3; have t3 := (HQ4 q).out.frozen 3; have p4 : (w4.drewN q).cell? ⟨w.heap.size, 4, none⟩ = some (.slice none 0 0) := (HQ4 q).out.cell 4; have t4 := (HQ4 q).out.frozen 4; have p5 : (w4.drewN q).cell? ⟨w.heap.size, 5, none⟩ = some (.slice none 0 0) := (HQ4 q).out.cell 5; have t5 := (HQ4 q).out.frozen 5; have p6 : (w4.drewN q).cell? ⟨w.heap.size, 6, none⟩ = some (.slice none 0 0) := (HQ4 q).out.cell 6; have t6 := (HQ4 q).out.frozen 6; go_wp2; have hb7 := (((((((HQ4 q).out.set_ 0 (.int .i64 0)).set_ 1 (.int .u64 0)).set_ 2 (.int .i64 0)).set_ 3 (.slice none 0 0)).set_ 4 (.slice none 0 0)).set_ 5 (.slice none 0 0)).set_ 6 (.slice none 0 0); simp only [List.set_cons_zero, List.set_cons_succ] at hb7; have ho7 := only7 (w4.drewN q) w.heap.size (.int .i64 0) (.int .u64 0) (.int .i64 0) (.slice none 0 0) (.slice none 0 0) (.slice none 0 0) (.slice none 0 0); unfold set7 at ho7; generalize ((((((((w4.drewN q).setCell ⟨w.heap.size, 0, none⟩ (.int .i64 0)).setCell ⟨w.heap.size, 1, none⟩ (.int .u64 0)).setCell ⟨w.heap.size, 2, none⟩ (.int .i64 0)).setCell ⟨w.heap.size, 3, none⟩ (.slice none 0 0)).setCell ⟨w.heap.size, 4, none⟩ (.slice none 0 0)).setCell ⟨w.heap.size, 5, none⟩ (.slice none 0 0)).setCell ⟨w.heap.size, 6, none⟩ (.slice none 0 0)) = X at hb7 ho7 ⊢; have x0 : X.cell? ⟨w.heap.size, 0, none⟩ = some (.int .i64 0) := hb7.cell 0; have x1 : X.cell? ⟨w.heap.size, 1, none⟩ = some (.int .u64 0) := hb7.cell 1; have x2 : X.cell? ⟨w.heap.size, 2, none⟩ = some (.int .i64 0) := hb7.cell 2
   have x3 : X.cell? ⟨w.heap.size, 3, none⟩ = some (.slice none 0 0) := hb7.cell 3; have x4 : X.cell? ⟨w.heap.size, 4, none⟩ = some (.slice none 0 0) := hb7.cell 4; have x5 : X.cell? ⟨w.heap.size, 5, none⟩ = some (.slice none 0 0) := hb7.cell 5; have x6 : X.cell? ⟨w.heap.size, 6, none⟩ = some (.slice none 0 0) := hb7.cell 6; exact bodyPost_ret (v := .tuple #[zeroV, .int .i64 4]) (by simp [results, Tryz.results135, go_sem, x0, x1, x2, x3, x4, x5, x6]) rfl ⟨rfl, ho7.below (HB4 q).out (HB4 q).out.size (Nat.le_refl _)⟩
 · obtain ⟨rfl, rfl⟩ := HS0.out hE0; rw [show endE 252 252 0 = 0 from rfl] at hEN; have HEN := kept hEN; have HNO2 : Hid (¬ (zeroB (ys.drop pos) = true ∧ rightB P = true)) := kept (fun h => HNO.out ⟨hE0, h⟩); clear hEN hwm hE0; go_wp2_with fail
   with_reducible refine HEN.out.mono ?_
   rintro e w5 ⟨rfl, hq⟩; obtain ⟨q, rfl⟩ := hq.out; clear hq; have hrd : Rd (w4.drewN q) A4 n4' (ys.drop pos) := HD4.out.1.below (below_drewN _ q); have hn4 : n4' ≤ 140737488355328 := by have := HD4.out.2; have := HM.out; omega
   cases hz : zeroB (ys.drop pos) with
   | false =>
     have HBL := kept (blank_no A4 n4' c4 (ys.drop pos) (w4.drewN q) hrd hn4 hz); clear hrd hn4 hz; go_wp2_with fail
     with_reducible refine HBL.out.mono ?_
     rintro e w5 ⟨rfl, rfl⟩; have p0 : (w4.drewN q).cell? ⟨w.heap.size, 0, none⟩ = some (.int .i64 0) := (HQ4 q).out.cell 0; have t0 := (HQ4 q).out.frozen 0; have p1 : (w4.drewN q).cell? ⟨w.heap.size, 1, none⟩ = some (.int .u64 0) := (HQ4 q).out.cell 1; have t1 := (HQ4 q).out.frozen 1; have p2 : (w4.drewN q).cell? ⟨w.heap.size, 2, none⟩ = some (.int .i64 0) := (HQ4 q).out.cell 2; have t2 := (HQ4 q).out.frozen 2; have p3 : (w4.drewN q).cell? ⟨w.heap.size, 3, none⟩ = some (.slice none 0 0) := (HQ4 q).out.cell 3; have t3 := (HQ4 q).out.frozen 3; have p4 : (w4.drewN q).cell? ⟨w.heap.size, 4, none⟩ = some (.slice none 0 0) := (HQ4 q).out.cell 4; have t4 := (HQ4 q).out.frozen 4; have p5 : (w4.drewN q).cell? ⟨w.heap.size, 5, none⟩ = some (.slice none 0 0) := (HQ4 q).out.cell 5; have t5 := (HQ4 q).out.frozen 5; have p6 : (w4.drewN q).cell? ⟨w.heap.size, 6, none⟩ = some (.slice none 0 0) := (HQ4 q).out.cell 6; have t6 := (HQ4 q).out.frozen 6; go_wp2; have hb7 := (((((((HQ4 q).out.set_ 0 (.int .i64 0)).set_ 1 (.int .u64 0)).set_ 2 (.int .i64 0)).set_ 3 (.slice none 0 0)).set_ 4 (.slice none 0 0)).set_ 5 (.slice none 0 0)).set_ 6 (.slice none 0 0); simp only [List.set_cons_zero, List.set_cons_succ] at hb7; have ho7 := only7 (w4.drewN q) w.heap.size (.int .i64 0) (.int .u64 0) (.int .i64 0) (.slice none 0 0) (.slice none 0 0) (.slice none 0 0) (.slice none 0 0); unfold set7 at ho7; generalize ((((((((w4.drewN q).setCell ⟨w.heap.size, 0, none⟩ (.int .i64 0)).setCell ⟨w.heap.size, 1, none⟩ (.int .u64 0)).setCell ⟨w.heap.size, 2, none⟩ (.int .i64 0)).setCell ⟨w.heap.size, 3, none⟩ (.slice none 0 0)).setCell ⟨w.heap.size, 4, none⟩ (.slice none 0 0)).setCell ⟨w.heap.size, 5, none⟩ (.slice none 0 0)).setCell ⟨w.heap.size, 6, none⟩ (.slice none 0 0)) = X at hb7 ho7 ⊢; have x0 : X.cell? ⟨w.heap.size, 0, none⟩ = some (.int .i64 0) := hb7.cell 0; have x1 : X.cell? ⟨w.heap.size, 1, none⟩ = some (.int .u64 0) := hb7.cell 1; have x2 : X.cell? ⟨w.heap.size, 2, none⟩ = some (.int .i64 0) := hb7.cell 2
     have x3 : X.cell? ⟨w.heap.size, 3, none⟩ = some (.slice none 0 0) := hb7.cell 3; have x4 : X.cell? ⟨w.heap.size, 4, none⟩ = some (.slice none 0 0) := hb7.cell 4; have x5 : X.cell? ⟨w.heap.size, 5, none⟩ = some (.slice none 0 0) := hb7.cell 5; have x6 : X.cell? ⟨w.heap.size, 6, none⟩ = some (.slice none 0 0) := hb7.cell 6; exact bodyPost_ret (v := .tuple #[zeroV, .int .i64 4]) (by simp [results, Tryz.results135, go_sem, x0, x1, x2, x3, x4, x5, x6]) rfl ⟨rfl, ho7.below (HB4 q).out (HB4 q).out.size (Nat.le_refl _)⟩
   | true =>
     have HBL := kept (blank_yes A4 n4' c4 (ys.drop pos) (w4.drewN q) hrd hn4 hz); have hrb : rightB P = false := by
      cases h : rightB P with
      | false => rfl
      | true => exact absurd ⟨hz, h⟩ HNO2.out
     have hrt := (HRT q).out; rw [hrb] at hrt; have HRR := kept hrt; clear hrd hn4 hz hrb hrt; have y0 : (w4.drewN q).cell? ⟨w3.heap.size, 0, none⟩ = some (.int .i64 kind) := (HG4 q).out.cell 0; have y1 : (w4.drewN q).cell? ⟨w3.heap.size, 1, none⟩ = some (.int .u64 txn) := (HG4 q).out.cell 1; have y2 : (w4.drewN q).cell? ⟨w3.heap.size, 2, none⟩ = some (.int .i64 next) := (HG4 q).out.cell 2; have y3 : (w4.drewN q).cell? ⟨w3.heap.size, 3, none⟩ = some (.slice a1 n1 k1) := (HG4 q).out.cell 3; have y4 : (w4.drewN q).cell? ⟨w3.heap.size, 4, none⟩ = some (.slice a2 n2 k2) := (HG4 q).out.cell 4; have y5 : (w4.drewN q).cell? ⟨w3.heap.size, 5, none⟩ = some (.slice a3 n3 k3) := (HG4 q).out.cell 5; have y6 : (w4.drewN q).cell? ⟨w3.heap.size, 6, none⟩ = some (.slice a4 n4 k4) := (HG4 q).out.cell 6; go_wp2_with fail
     with_reducible refine HBL.out.mono ?_
     rintro e w5 ⟨rfl, rfl⟩; go_wp2_with fail
     with_reducible refine HRR.out.mono ?_
     rintro e w6 ⟨rfl, hb6⟩; have HQ6 := kept ((HQ4 q).out.below hb6 (HQ4 q).out.lt); have HB6 := kept (below_to hb6 (HB4 q).out); clear hb6 y0 y1 y2 y3 y4 y5 y6; have p0 : w6.cell? ⟨w.heap.size, 0, none⟩ = some (.int .i64 0) := HQ6.out.cell 0; have t0 := HQ6.out.frozen 0; have p1 : w6.cell? ⟨w.heap.size, 1, none⟩ = some (.int .u64 0) := HQ6.out.cell 1; have t1 := HQ6.out.frozen 1; have p2 : w6.cell? ⟨w.heap.size, 2, none⟩ = some (.int .i64 0) := HQ6.out.cell 2; have t2 := HQ6.out.frozen 2; have p3 : w6.cell? ⟨w.heap.size, 3, none⟩ = some (.slice none 0 0) := HQ6.out.cell 3; have t3 := HQ6.out.frozen 3; have p4 : w6.cell? ⟨w.heap.size, 4, none⟩ = some (.slice none 0 0) := HQ6.out.cell 4; have t4 := HQ6.out.frozen 4; have p5 : w6.cell? ⟨w.heap.size, 5, none⟩ = some (.slice none 0 0) := HQ6.out.cell 5; have t5 := HQ6.out.frozen 5; have p6 : w6.cell? ⟨w.heap.size, 6, none⟩ = some (.slice none 0 0) := HQ6.out.cell 6; have t6 := HQ6.out.frozen 6; go_wp2; have hb7 := ((((((HQ6.out.set_ 0 (.int .i64 0)).set_ 1 (.int .u64 0)).set_ 2 (.int .i64 0)).set_ 3 (.slice none 0 0)).set_ 4 (.slice none 0 0)).set_ 5 (.slice none 0 0)).set_ 6 (.slice none 0 0); simp only [List.set_cons_zero, List.set_cons_succ] at hb7; have ho7 := only7 w6 w.heap.size (.int .i64 0) (.int .u64 0) (.int .i64 0) (.slice none 0 0) (.slice none 0 0) (.slice none 0 0) (.slice none 0 0); unfold set7 at ho7; generalize (((((((w6.setCell ⟨w.heap.size, 0, none⟩ (.int .i64 0)).setCell ⟨w.heap.size, 1, none⟩ (.int .u64 0)).setCell ⟨w.heap.size, 2, none⟩ (.int .i64 0)).setCell ⟨w.heap.size, 3, none⟩ (.slice none 0 0)).setCell ⟨w.heap.size, 4, none⟩ (.slice none 0 0)).setCell ⟨w.heap.size, 5, none⟩ (.slice none 0 0)).setCell ⟨w.heap.size, 6, none⟩ (.slice none 0 0)) = X at hb7 ho7 ⊢; have x0 : X.cell? ⟨w.heap.size, 0, none⟩ = some (.int .i64 0) := hb7.cell 0; have x1 : X.cell? ⟨w.heap.size, 1, none⟩ = some (.int .u64 0) := hb7.cell 1; have x2 : X.cell? ⟨w.heap.size, 2, none⟩ = some (.int .i64 0) := hb7.cell 2; have x3 : X.cell? ⟨w.heap.size, 3, none⟩ = some (.slice none 0 0) := hb7.cell 3
     have x4 : X.cell? ⟨w.heap.size, 4, none⟩ = some (.slice none 0 0) := hb7.cell 4; have x5 : X.cell? ⟨w.heap.size, 5, none⟩ = some (.slice none 0 0) := hb7.cell 5; have x6 : X.cell? ⟨w.heap.size, 6, none⟩ = some (.slice none 0 0) := hb7.cell 6; exact bodyPost_ret (v := .tuple #[zeroV, .int .i64 4]) (by simp [results, Tryz.results135, go_sem, x0, x1, x2, x3, x4, x5, x6]) rfl ⟨rfl, ho7.below HB6.out HB6.out.size (Nat.le_refl _)⟩
def decPg (xs : List UInt8) : Pg × Int :=
 if xs.length ≠ 256 then (zeroPg, 4) else if num (xs.take 4) 0 ≠ csum (xs.drop 4) then (zeroPg, 6)
 else if (rpage (xs.drop 4) (0, 0)).2.2 = 0 ∧ zeroB ((xs.drop 4).drop (rpage (xs.drop 4) (0, 0)).2.1) = true ∧ rightB (rpage (xs.drop 4) (0, 0)).1 = true then ((rpage (xs.drop 4) (0, 0)).1, 0) else (zeroPg, 4)
def DecA (w : World) (P : Pg) (er : Int) (e : Ending) (w' : World) : Prop := ∃ l : Lay, e = .returned (.tuple #[l.val, .int .i64 er]) ∧ Hid (Sta w.heap.size w' (fun w2 => OwPg w.heap.size w2 l P)) ∧ Below w.heap.size w w'
theorem decode_any (A : Option Addr) (n c : Nat) (xs : List UInt8) (w : World) (hr : Rd w A n xs) (hc : n ≤ c) (hf : Fours w) :
 Calls Tryz.prog 135 #[.slice A n c] w (DecA w (decPg xs).1 (decPg xs).2) := by
 have hz : ∀ (er : Int) (e : Ending) (w' : World), e = .returned (.tuple #[zeroV, .int .i64 er]) ∧ Below w.heap.size w w' → DecA w zeroPg er e w' := fun er e w' h => ⟨zeroLay, h.1, kept (fun w2 _ => ⟨zero_rd w2, Ow.nil_ _, Ow.nil_ _⟩), h.2⟩
 by_cases hn : n = 256
 · subst hn; have hl : ¬ xs.length ≠ 256 := by rw [hr.1]; simp
   by_cases hw : num (xs.take 4) 0 = csum (xs.drop 4)
   · by_cases hd : (rpage (xs.drop 4) (0, 0)).2.2 = 0 ∧ zeroB ((xs.drop 4).drop (rpage (xs.drop 4) (0, 0)).2.1) = true ∧ rightB (rpage (xs.drop 4) (0, 0)).1 = true
     · have e : decPg xs = ((rpage (xs.drop 4) (0, 0)).1, 0) := by unfold decPg; rw [if_neg hl, if_neg (by simpa using hw), if_pos hd]
       rw [e]; exact (decode_sta A c xs _ w hr hc hf hw ⟨rfl, hd.1, hd.2.1, hd.2.2⟩).mono fun e w' ⟨l, h1, h2, h3⟩ => ⟨l, h1, h2, h3⟩
     · have e : decPg xs = (zeroPg, 4) := by unfold decPg; rw [if_neg hl, if_neg (by simpa using hw), if_neg hd]
       rw [e]; exact (decode_none A c xs w hr hc hf hw (fun P hP => hd (by obtain ⟨rfl, h1, h2, h3⟩ := hP; exact ⟨h1, h2, h3⟩))).mono fun e w' h => hz 4 e w' h
   · have e : decPg xs = (zeroPg, 6) := by unfold decPg; rw [if_neg hl, if_pos hw]
     rw [e]; exact (decode_sum A c xs w hr hc hf hw).mono fun e w' h => hz 6 e w' h
 · have e : decPg xs = (zeroPg, 4) := by unfold decPg; rw [if_pos (by rw [hr.1]; exact hn)]
   rw [e]; exact (decode_size A n c w hn).mono fun e w' h => hz 4 e w' h
theorem decPg_sealed {P : Pg} (hR : rightB P = true) (t0 : 0 ≤ P.txn) (t1 : P.txn < 18446744073709551616) : decPg (sealed (bodyOf P)) = (P, 0) := by
 obtain ⟨h1, h2, h3, h4⟩ := body_reads hR t0 t1; have hl : (bodyOf P).length = 252 := bodyOf_length (right_parts hR).2.2.2; unfold decPg; rw [if_neg (by rw [sealed_length, hl]; decide), if_neg (by rw [sealed_num, sealed_drop]; simp), sealed_drop, if_pos ⟨h2, h3, by rw [h1]; exact h4⟩, h1]
end Go.Proofs.YtblbhhijddcbeaaGreatDoor
end
