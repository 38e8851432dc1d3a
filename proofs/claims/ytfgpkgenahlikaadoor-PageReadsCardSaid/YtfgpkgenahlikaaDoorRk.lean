/-
  page.readKid and page.readItem, from any state of the reader.
-/
import Derived.Test.YtfgpkgenahlikaaDoorRs
import Derived.Test.YtfgpkgenahlikaaDoorWi
import Derived.Test.YtfgpkgenahlikaaDoorPr
import Derived.Test.YtfgpkgenahlikaaDoorHnd
namespace Go.Proofs.YtfgpkgenahlikaaDoor
open Go.ChangeShapes Go.WideShapes Go.ChangeAt Go.RowKit
set_option linter.unusedVariables false
set_option linter.unusedSimpArgs false

section
variable {w w' w0 : World} {r g : Nat} {A : Option Addr} {n c : Nat} {xs : List UInt8} {s : St} {t : TypeId} {cs : List Value}
theorem Only.set_new (h : Only w0 w r) (hg : w0.heap.size ≤ g) (i : Nat) (u : Value) : Only w0 (w.setCell ⟨g, i, none⟩ u) r :=
  ⟨h.os, h.tape, h.output, by simpa [World.setCell] using h.size, fun k hk hn => (Below.heap_setCell w ⟨g, i, none⟩ u k (by show k ≠ g; omega)).trans (h.block k hk hn)⟩
theorem Only.alloc (h : Only w0 w r) (o : Obj) : Only w0 (w.alloc o) r := h.trans (Only.alloc_ w o r)
end
def rkid (xs : List UInt8) (s : St) : Kd × St :=
  let a := rnum xs 1 s
  let b := rbytes xs a.1 a.2
  let d := rnum xs 4 b.2
  (⟨b.1, (d.1 : Int)⟩, d.2)
def ritem (xs : List UInt8) (s : St) : Itm × St :=
  let a := rnum xs 1 s
  let z := rnum xs 2 a.2
  let b := rbytes xs a.1 z.2
  if z.1 ≤ 64 then
    let d := rbytes xs z.1 b.2
    (⟨b.1, d.1, (z.1 : Int), 0⟩, d.2)
  else
    let d := rnum xs 4 b.2
    (⟨b.1, [], (z.1 : Int), (d.1 : Int)⟩, d.2)
theorem readKid_any (r : Nat) (A : Option Addr) (n c : Nat) (xs : List UInt8) (s : St) (w : World) (h : RS w r A n c xs s) :
    Calls Tryd.prog 88 #[.pointer (some ⟨r, 0, none⟩)] w fun e w' => ∃ L : LayK, e = .returned L.val ∧ Hid (RdKd w' L (rkid xs s).1 ∧ New L.ka L.kn w.heap.size) ∧ Hid (RS w' r A n c xs (rkid xs s).2 ∧ Only w w' r) := by
  have H1 := fun o => num1 r A n c xs s (w.alloc o) (h.alloc o)
  have hlt := rnum_lt xs 1 s
  obtain ⟨v1, hv1⟩ : ∃ v, (rnum xs 1 s).1 = v := ⟨_, rfl⟩
  obtain ⟨s1, hs1⟩ : ∃ v, (rnum xs 1 s).2 = v := ⟨_, rfl⟩
  rw [hv1, hs1] at H1
  rw [hv1] at hlt
  have H2 := fun W (k : RS W r A n c xs s1) => bytes_any r A n c xs s1 v1 W k (by omega)
  obtain ⟨b, hb⟩ : ∃ v, (rbytes xs v1 s1).1 = v := ⟨_, rfl⟩
  obtain ⟨s2, hs2⟩ : ∃ v, (rbytes xs v1 s1).2 = v := ⟨_, rfl⟩
  rw [hb, hs2] at H2
  have H3 := fun W (k : RS W r A n c xs s2) => readID_any r A n c xs s2 W k
  obtain ⟨v3, hv3⟩ : ∃ v, (rnum xs 4 s2).1 = v := ⟨_, rfl⟩
  obtain ⟨s3, hs3⟩ : ∃ v, (rnum xs 4 s2).2 = v := ⟨_, rfl⟩
  rw [hv3, hs3] at H3
  have hk : rkid xs s = (⟨b, (v3 : Int)⟩, s3) := by simp [rkid, hv1, hs1, hb, hs2, hv3, hs3]
  rw [hk]
  have H1 := kept H1
  have H2 := kept H2
  have H3 := kept H3
  have HLT := kept h.lt
  have HAP := kept (h.apart (Nat.le_refl _))
  have hw1 : IntKind.i64.wrap (v1 : Int) = (v1 : Int) := IntWalk.i64_in _ ⟨by omega, by omega⟩
  have HV := kept (show v1 ≤ 256 by omega)
  clear h hv1 hs1 hb hs2 hv3 hs3 hk hlt
  go_enter Tryd.func88, Tryd.ntmps88
  go_wp2_with fail
  with_reducible refine (H1.out _).mono ?_
  rintro e w1 ⟨rfl, hR1, hO1⟩
  have HB1 : Hid (Blk w1 w.heap.size 69 [.slice none 0 0, .int .i64 0]) := kept ((Blk.new w 69 #[.slice none 0 0, .int .i64 0]).only hO1 (by have := HLT.out; show w.heap.size ≠ r; omega))
  have HR1 := kept hR1
  have HO1 := kept ((Only.alloc_ w _ r).trans hO1)
  clear hR1 hO1
  go_wp2_with fail
  with_reducible refine (H2.out _ HR1.out).mono ?_
  rintro e w2 ⟨A2, n2, c2, rfl, hr2, hR2, hO2⟩
  have HB2 := kept (HB1.out.only hO2 (by have := HLT.out; show w.heap.size ≠ r; omega))
  have HR2 := kept hR2
  have HO2 := kept (HO1.out.trans hO2)
  have HD2 := kept (And.intro hr2.1 (And.intro (fun g hg => hr2.2.1 g (Nat.lt_of_lt_of_le hg HO1.out.size) : New A2 n2 w.heap.size) (And.intro (hr2.2.1 w.heap.size (by have := HO1.out.size; have := HB1.out.lt; omega)) (And.intro (hr2.2.1 r (by have := HO1.out.size; have := HLT.out; omega)) hr2.2.2.2))))
  clear hR2 hO2 hr2
  go_wp2_with fail
  with_reducible refine (H3.out _ HR2.out).mono ?_
  rintro e w3 ⟨rfl, hR3, hO3⟩
  have hB3 := HB2.out.only hO3 (by have := HLT.out; show w.heap.size ≠ r; omega)
  have f0 := hB3.frozen 0
  have f1 := hB3.frozen 1
  have e0 : w3.cell? ⟨w.heap.size, 0, none⟩ = some (.slice none 0 0) := hB3.cell 0
  have e1 : w3.cell? ⟨w.heap.size, 1, none⟩ = some (.int .i64 0) := hB3.cell 1
  have HB3 := kept hB3
  have HR3 := kept hR3
  have HO3 := kept (HO2.out.trans hO3)
  have HD3 := kept (HD2.out.1.only HD2.out.2.2.2.1 hO3)
  clear hR3 hO3 hB3
  go_wp2
  have HB7 := (HB3.out.set_ 0 (.slice A2 n2 c2)).set_ 1 (.int .i64 (v3 : Int))
  have HO7 := (HO3.out.set_new (g := w.heap.size) (Nat.le_refl _) 0 (.slice A2 n2 c2)).set_new (g := w.heap.size) (Nat.le_refl _) 1 (.int .i64 (v3 : Int))
  have hne : r ≠ w.heap.size := by have := HLT.out; omega
  have HR7 := (HR3.out.set_ hne HAP.out 0 (.slice A2 n2 c2)).set_ hne HAP.out 1 (.int .i64 (v3 : Int))
  have HD7 := HD3.out.grown HD2.out.2.2.1 (((Only.refl w3 w.heap.size).setCell 0 (.slice A2 n2 c2)).setCell 1 (.int .i64 (v3 : Int)))
  generalize ((w3.setCell ⟨w.heap.size, 0, none⟩ (.slice A2 n2 c2)).setCell ⟨w.heap.size, 1, none⟩ (.int .i64 (v3 : Int))) = W at HB7 HO7 HR7 HD7 ⊢
  have v0 : W.cell? ⟨w.heap.size, 0, none⟩ = some (.slice A2 n2 c2) := HB7.cell 0
  have v1 : W.cell? ⟨w.heap.size, 1, none⟩ = some (.int .i64 (v3 : Int)) := HB7.cell 1
  refine bodyPost_ret (v := .agg #[.slice A2 n2 c2, .int .i64 (v3 : Int)]) (by simp [results, Tryd.results88, go_sem, v0, v1]) rfl ⟨⟨A2, n2, c2, v3⟩, rfl, ⟨⟨HD7, rfl, ?_⟩, HD2.out.2.1⟩, HR7, HO7⟩
  have := HD2.out.2.2.2.2
  have := HV.out
  show n2 ≤ _
  omega
/-- The item so far: its block g, the result's block q, the reader. -/
structure IS (w w' : World) (r : Nat) (A : Option Addr) (n c : Nat) (xs : List UInt8) (s : St) (g : Nat) (v0 v1 v2 v3 : Value) : Prop where
  rs : RS w' r A n c xs s
  only : Only w w' r
  res : Blk w' w.heap.size 67 [.slice none 0 0, .slice none 0 0, .int .i64 0, .int .i64 0]
  blk : Blk w' g 67 [v0, v1, v2, v3]
  rq : r < w.heap.size
  qg : w.heap.size < g
  aq : apartA A n w.heap.size
  ag : apartA A n g
section
variable {w w1 w2 : World} {r g : Nat} {A : Option Addr} {n c : Nat} {xs : List UInt8} {s s' : St} {v0 v1 v2 v3 : Value}
theorem IS.call (h : IS w w1 r A n c xs s g v0 v1 v2 v3) (hr : RS w2 r A n c xs s') (ho : Only w1 w2 r) : IS w w2 r A n c xs s' g v0 v1 v2 v3 :=
  ⟨hr, h.only.trans ho, h.res.only ho (by have := h.rq; omega), h.blk.only ho (by have := h.rq; have := h.qg; omega), h.rq, h.qg, h.aq, h.ag⟩
theorem IS.set_ (h : IS w w1 r A n c xs s g v0 v1 v2 v3) (i : Nat) (u u0 u1 u2 u3 : Value) (e : [v0, v1, v2, v3].set i u = [u0, u1, u2, u3]) : IS w (w1.setCell ⟨g, i, none⟩ u) r A n c xs s g u0 u1 u2 u3 :=
  ⟨h.rs.set_ (by have := h.rq; have := h.qg; omega) h.ag i u, h.only.set_new (Nat.le_of_lt h.qg) i u, h.res.far (p := ⟨g, i, none⟩) (by have := h.qg; show w.heap.size ≠ g; omega) u, by rw [← e]; exact h.blk.set_ i u, h.rq, h.qg, h.aq, h.ag⟩
/-- A slice that Bytes has just made. -/
structure NS (w w' : World) (r g : Nat) (A' : Option Addr) (n' : Nat) (b : List UInt8) : Prop where
  rd : Rd w' A' n' b
  new : New A' n' w.heap.size
  aq : apartA A' n' w.heap.size
  ag : apartA A' n' g
  ar : apartA A' n' r
theorem IS.bytes (h : IS w w1 r A n c xs s g v0 v1 v2 v3) {A' : Option Addr} {n' : Nat} {b : List UInt8} (hd : Rd w2 A' n' b) (hn : New A' n' w1.heap.size) : NS w w2 r g A' n' b :=
  ⟨hd, fun g hg => hn g (by have := h.only.size; omega), hn _ h.res.lt, hn _ h.blk.lt, hn _ (by have := h.only.size; have := h.rq; omega)⟩
theorem NS.call {w1 w2 : World} {A' : Option Addr} {n' : Nat} {b : List UInt8} (h : NS w w1 r g A' n' b) (ho : Only w1 w2 r) : NS w w2 r g A' n' b := ⟨h.rd.only h.ar ho, h.new, h.aq, h.ag, h.ar⟩
theorem NS.set_ {w1 : World} {A' : Option Addr} {n' : Nat} {b : List UInt8} (h : NS w w1 r g A' n' b) (i : Nat) (u : Value) : NS w (w1.setCell ⟨g, i, none⟩ u) r g A' n' b := ⟨h.rd.grown h.ag ((Only.refl w1 g).setCell i u), h.new, h.aq, h.ag, h.ar⟩
theorem NS.setq {w1 : World} {A' : Option Addr} {n' : Nat} {b : List UInt8} (h : NS w w1 r g A' n' b) (i : Nat) (u : Value) : NS w (w1.setCell ⟨w.heap.size, i, none⟩ u) r g A' n' b := ⟨h.rd.grown h.aq ((Only.refl w1 w.heap.size).setCell i u), h.new, h.aq, h.ag, h.ar⟩
theorem IS.fin (h : IS w w1 r A n c xs s g v0 v1 v2 v3) (u0 u1 u2 u3 : Value) :
    RS ((((w1.setCell ⟨w.heap.size, 0, none⟩ u0).setCell ⟨w.heap.size, 1, none⟩ u1).setCell ⟨w.heap.size, 2, none⟩ u2).setCell ⟨w.heap.size, 3, none⟩ u3) r A n c xs s ∧ Only w ((((w1.setCell ⟨w.heap.size, 0, none⟩ u0).setCell ⟨w.heap.size, 1, none⟩ u1).setCell ⟨w.heap.size, 2, none⟩ u2).setCell ⟨w.heap.size, 3, none⟩ u3) r ∧ Blk ((((w1.setCell ⟨w.heap.size, 0, none⟩ u0).setCell ⟨w.heap.size, 1, none⟩ u1).setCell ⟨w.heap.size, 2, none⟩ u2).setCell ⟨w.heap.size, 3, none⟩ u3) w.heap.size 67 [u0, u1, u2, u3] := by
  have hne : r ≠ w.heap.size := by have := h.rq; omega
  exact ⟨(((h.rs.set_ hne h.aq 0 u0).set_ hne h.aq 1 u1).set_ hne h.aq 2 u2).set_ hne h.aq 3 u3, (((h.only.set_new (Nat.le_refl _) 0 u0).set_new (Nat.le_refl _) 1 u1).set_new (Nat.le_refl _) 2 u2).set_new (Nat.le_refl _) 3 u3, (((h.res.set_ 0 u0).set_ 1 u1).set_ 2 u2).set_ 3 u3⟩
end
set_option maxHeartbeats 1000000 in
theorem readItem_any (r : Nat) (A : Option Addr) (n c : Nat) (xs : List UInt8) (s : St) (w : World) (h : RS w r A n c xs s) :
    Calls Tryd.prog 86 #[.pointer (some ⟨r, 0, none⟩)] w fun e w' => ∃ L : LayI, e = .returned (.agg #[.slice L.ka L.kn L.kc, .slice L.va L.vn L.vc, .int .i64 L.size, .int .i64 L.more]) ∧ Hid (RdIt w' L (ritem xs s).1 ∧ New L.ka L.kn w.heap.size ∧ New L.va L.vn w.heap.size) ∧ Hid (RS w' r A n c xs (ritem xs s).2 ∧ Only w w' r) := by
  have H1 := fun o => num1 r A n c xs s (w.alloc o) (h.alloc o)
  have hlt := rnum_lt xs 1 s
  obtain ⟨v1, hv1⟩ : ∃ v, (rnum xs 1 s).1 = v := ⟨_, rfl⟩
  obtain ⟨s1, hs1⟩ : ∃ v, (rnum xs 1 s).2 = v := ⟨_, rfl⟩
  rw [hv1, hs1] at H1
  rw [hv1] at hlt
  have H2 := fun W (k : RS W r A n c xs s1) => num2 r A n c xs s1 W k
  have hlt2 := rnum_lt xs 2 s1
  obtain ⟨v2, hv2⟩ : ∃ v, (rnum xs 2 s1).1 = v := ⟨_, rfl⟩
  obtain ⟨s2, hs2⟩ : ∃ v, (rnum xs 2 s1).2 = v := ⟨_, rfl⟩
  rw [hv2, hs2] at H2
  rw [hv2] at hlt2
  have H3 := fun W (k : RS W r A n c xs s2) => bytes_any r A n c xs s2 v1 W k (by omega)
  obtain ⟨b, hb⟩ : ∃ v, (rbytes xs v1 s2).1 = v := ⟨_, rfl⟩
  obtain ⟨s3, hs3⟩ : ∃ v, (rbytes xs v1 s2).2 = v := ⟨_, rfl⟩
  rw [hb, hs3] at H3
  have H1 := kept H1
  have H2 := kept H2
  have H3 := kept H3
  have HLT := kept h.lt
  have HAP := kept (h.apart (Nat.le_refl _))
  have hw1 : IntKind.i64.wrap (v1 : Int) = (v1 : Int) := IntWalk.i64_in _ ⟨by omega, by omega⟩
  have hw2 : IntKind.i64.wrap (v2 : Int) = (v2 : Int) := IntWalk.i64_in _ ⟨by omega, by omega⟩
  have HV := kept (show v1 ≤ 256 by omega)
  by_cases hin : v2 ≤ 64
  · have H4 := fun W (k : RS W r A n c xs s3) => bytes_any r A n c xs s3 v2 W k (by omega)
    obtain ⟨d, hd⟩ : ∃ v, (rbytes xs v2 s3).1 = v := ⟨_, rfl⟩
    obtain ⟨s4, hs4⟩ : ∃ v, (rbytes xs v2 s3).2 = v := ⟨_, rfl⟩
    rw [hd, hs4] at H4
    have hk : ritem xs s = (⟨b, d, (v2 : Int), 0⟩, s4) := by simp [ritem, hv1, hs1, hv2, hs2, hb, hs3, hin, hd, hs4]
    rw [hk]
    have H4 := kept H4
    have HIN := fun W => kept (isInline_any (v2 : Int) W true (by simp; omega))
    have HIN2 := kept hin
    clear h hv1 hs1 hb hs2 hv2 hs3 hd hs4 hk hlt hlt2 hin
    go_enter Tryd.func86, Tryd.ntmps86
    go_wp2_with fail
    with_reducible refine (H1.out _).mono ?_
    rintro e w1 ⟨rfl, hR1, hO1⟩
    have HB1 : Hid (Blk w1 w.heap.size 67 [.slice none 0 0, .slice none 0 0, .int .i64 0, .int .i64 0]) := kept ((Blk.new w 67 #[.slice none 0 0, .slice none 0 0, .int .i64 0, .int .i64 0]).only hO1 (by have := HLT.out; show w.heap.size ≠ r; omega))
    have HR1 := kept hR1
    have HO1 := kept ((Only.alloc_ w _ r).trans hO1)
    clear hR1 hO1
    go_wp2_with fail
    with_reducible refine (H2.out _ HR1.out).mono ?_
    rintro e w2 ⟨rfl, hR2, hO2⟩
    have HI2 : Hid (IS w (w2.alloc (.cells #[.slice none 0 0, .slice none 0 0, .int .i64 (v2 : Int), .int .i64 0] 67)) r A n c xs s2 w2.heap.size (.slice none 0 0) (.slice none 0 0) (.int .i64 (v2 : Int)) (.int .i64 0)) :=
      have hb2 := HB1.out.only hO2 (by have := HLT.out; show w.heap.size ≠ r; omega)
      kept ⟨hR2.alloc _, (HO1.out.trans hO2).alloc _, hb2.alloc _, Blk.new w2 67 #[.slice none 0 0, .slice none 0 0, .int .i64 (v2 : Int), .int .i64 0], HLT.out, hb2.lt, HAP.out, hR2.apart (Nat.le_refl _)⟩
    clear hR2 hO2
    generalize hg : w2.heap.size = g at HI2
    go_wp2_with fail
    with_reducible refine (H3.out _ HI2.out.rs).mono ?_
    rintro e w3 ⟨A1, n1, c1, rfl, hr3, hR3, hO3⟩
    clear hg
    have hI3 := HI2.out.call hR3 hO3
    have f0 : w3.frozen? ⟨g, 0, none⟩ = false := hI3.blk.frozen 0
    have e0 : w3.cell? ⟨g, 0, none⟩ = some (.slice none 0 0) := hI3.blk.cell 0
    have HI3 := kept (hI3.set_ 0 (.slice A1 n1 c1) (.slice A1 n1 c1) (.slice none 0 0) (.int .i64 (v2 : Int)) (.int .i64 0) rfl)
    have HN3 := kept ((HI2.out.bytes hr3.1 hr3.2.1).set_ 0 (.slice A1 n1 c1))
    have HM3 := kept hr3.2.2.2
    have e2 : w3.cell? ⟨g, 2, none⟩ = some (.int .i64 (v2 : Int)) := hI3.blk.cell 2
    clear hR3 hO3 hr3 hI3
    go_wp2_with fail
    with_reducible refine (HIN _).out.mono ?_
    rintro e w4 ⟨rfl, rfl⟩
    clear f0 e0 e2
    generalize w3.setCell ⟨g, 0, none⟩ (.slice A1 n1 c1) = W3 at HI3 HN3 ⊢
    have e2 : W3.cell? ⟨g, 2, none⟩ = some (.int .i64 (v2 : Int)) := HI3.out.blk.cell 2
    go_wp2_with fail
    with_reducible refine (H4.out _ HI3.out.rs).mono ?_
    rintro e w5 ⟨A2, n2, c2, rfl, hr5, hR5, hO5⟩
    clear e2
    have hI5 := HI3.out.call hR5 hO5
    have f1 : w5.frozen? ⟨g, 1, none⟩ = false := hI5.blk.frozen 1
    have e1 : w5.cell? ⟨g, 1, none⟩ = some (.slice none 0 0) := hI5.blk.cell 1
    have hI5' := hI5.set_ 1 (.slice A2 n2 c2) (.slice A1 n1 c1) (.slice A2 n2 c2) (.int .i64 (v2 : Int)) (.int .i64 0) rfl
    have HN5 := kept ((HI3.out.bytes hr5.1 hr5.2.1).set_ 1 (.slice A2 n2 c2))
    have HN4 := kept ((HN3.out.call hO5).set_ 1 (.slice A2 n2 c2))
    have HM5 := kept hr5.2.2.2
    have q0 : (w5.setCell ⟨g, 1, none⟩ (.slice A2 n2 c2)).cell? ⟨g, 0, none⟩ = some (.slice A1 n1 c1) := hI5'.blk.cell 0
    have q1 : (w5.setCell ⟨g, 1, none⟩ (.slice A2 n2 c2)).cell? ⟨g, 1, none⟩ = some (.slice A2 n2 c2) := hI5'.blk.cell 1
    have q2 : (w5.setCell ⟨g, 1, none⟩ (.slice A2 n2 c2)).cell? ⟨g, 2, none⟩ = some (.int .i64 (v2 : Int)) := hI5'.blk.cell 2
    have q3 : (w5.setCell ⟨g, 1, none⟩ (.slice A2 n2 c2)).cell? ⟨g, 3, none⟩ = some (.int .i64 0) := hI5'.blk.cell 3
    have p0 : w5.cell? ⟨w.heap.size, 0, none⟩ = some (.slice none 0 0) := hI5.res.cell 0
    have p1 : w5.cell? ⟨w.heap.size, 1, none⟩ = some (.slice none 0 0) := hI5.res.cell 1
    have p2 : w5.cell? ⟨w.heap.size, 2, none⟩ = some (.int .i64 0) := hI5.res.cell 2
    have p3 : w5.cell? ⟨w.heap.size, 3, none⟩ = some (.int .i64 0) := hI5.res.cell 3
    have t0 := hI5.res.frozen 0
    have t1 := hI5.res.frozen 1
    have t2 := hI5.res.frozen 2
    have t3 := hI5.res.frozen 3
    have hgq : g ≠ w.heap.size := by have := hI5.qg; omega
    have k0 : w5.cell? ⟨g, 0, none⟩ = some (.slice A1 n1 c1) := hI5.blk.cell 0
    have k2 : w5.cell? ⟨g, 2, none⟩ = some (.int .i64 (v2 : Int)) := hI5.blk.cell 2
    have k3 : w5.cell? ⟨g, 3, none⟩ = some (.int .i64 0) := hI5.blk.cell 3
    have HI5 := kept hI5'
    clear hI5 hI5' hr5 hR5 hO5 q0 q1 q2 q3
    go_wp2
    have HE := HI5.out.fin (.slice A1 n1 c1) (.slice A2 n2 c2) (.int .i64 (v2 : Int)) (.int .i64 0)
    have HK := (((HN4.out.setq 0 (.slice A1 n1 c1)).setq 1 (.slice A2 n2 c2)).setq 2 (.int .i64 (v2 : Int))).setq 3 (.int .i64 0)
    have HV5 := (((HN5.out.setq 0 (.slice A1 n1 c1)).setq 1 (.slice A2 n2 c2)).setq 2 (.int .i64 (v2 : Int))).setq 3 (.int .i64 0)
    generalize (((((w5.setCell ⟨g, 1, none⟩ (.slice A2 n2 c2)).setCell ⟨w.heap.size, 0, none⟩ (.slice A1 n1 c1)).setCell ⟨w.heap.size, 1, none⟩ (.slice A2 n2 c2)).setCell ⟨w.heap.size, 2, none⟩ (.int .i64 (v2 : Int))).setCell ⟨w.heap.size, 3, none⟩ (.int .i64 0)) = X at HE HK HV5 ⊢
    obtain ⟨hRX, hOX, hBX⟩ := HE
    have x0 : X.cell? ⟨w.heap.size, 0, none⟩ = some (.slice A1 n1 c1) := hBX.cell 0
    have x1 : X.cell? ⟨w.heap.size, 1, none⟩ = some (.slice A2 n2 c2) := hBX.cell 1
    have x2 : X.cell? ⟨w.heap.size, 2, none⟩ = some (.int .i64 (v2 : Int)) := hBX.cell 2
    have x3 : X.cell? ⟨w.heap.size, 3, none⟩ = some (.int .i64 0) := hBX.cell 3
    have := HV.out
    have := HM3.out
    have := HM5.out
    have := HIN2.out
    exact bodyPost_ret (v := .agg #[.slice A1 n1 c1, .slice A2 n2 c2, .int .i64 (v2 : Int), .int .i64 0]) (by simp [results, Tryd.results86, go_sem, x0, x1, x2, x3]) rfl ⟨⟨A1, n1, c1, A2, n2, c2, v2, 0⟩, rfl, ⟨⟨HK.rd, HV5.rd, rfl, rfl, by show n1 ≤ _; omega, by show n2 ≤ _; omega⟩, HK.new, HV5.new⟩, hRX, hOX⟩
  · have H4 := fun W (k : RS W r A n c xs s3) => readID_any r A n c xs s3 W k
    obtain ⟨d, hd⟩ : ∃ v, (rnum xs 4 s3).1 = v := ⟨_, rfl⟩
    obtain ⟨s4, hs4⟩ : ∃ v, (rnum xs 4 s3).2 = v := ⟨_, rfl⟩
    rw [hd, hs4] at H4
    have hk : ritem xs s = (⟨b, [], (v2 : Int), (d : Int)⟩, s4) := by simp [ritem, hv1, hs1, hv2, hs2, hb, hs3, hin, hd, hs4]
    rw [hk]
    have H4 := kept H4
    have HIN := fun W => kept (isInline_any (v2 : Int) W false (by simp; omega))
    have HIN2 := kept hin
    clear h hv1 hs1 hb hs2 hv2 hs3 hd hs4 hk hlt hlt2 hin
    go_enter Tryd.func86, Tryd.ntmps86
    go_wp2_with fail
    with_reducible refine (H1.out _).mono ?_
    rintro e w1 ⟨rfl, hR1, hO1⟩
    have HB1 : Hid (Blk w1 w.heap.size 67 [.slice none 0 0, .slice none 0 0, .int .i64 0, .int .i64 0]) := kept ((Blk.new w 67 #[.slice none 0 0, .slice none 0 0, .int .i64 0, .int .i64 0]).only hO1 (by have := HLT.out; show w.heap.size ≠ r; omega))
    have HR1 := kept hR1
    have HO1 := kept ((Only.alloc_ w _ r).trans hO1)
    clear hR1 hO1
    go_wp2_with fail
    with_reducible refine (H2.out _ HR1.out).mono ?_
    rintro e w2 ⟨rfl, hR2, hO2⟩
    have HI2 : Hid (IS w (w2.alloc (.cells #[.slice none 0 0, .slice none 0 0, .int .i64 (v2 : Int), .int .i64 0] 67)) r A n c xs s2 w2.heap.size (.slice none 0 0) (.slice none 0 0) (.int .i64 (v2 : Int)) (.int .i64 0)) :=
      have hb2 := HB1.out.only hO2 (by have := HLT.out; show w.heap.size ≠ r; omega)
      kept ⟨hR2.alloc _, (HO1.out.trans hO2).alloc _, hb2.alloc _, Blk.new w2 67 #[.slice none 0 0, .slice none 0 0, .int .i64 (v2 : Int), .int .i64 0], HLT.out, hb2.lt, HAP.out, hR2.apart (Nat.le_refl _)⟩
    clear hR2 hO2
    generalize hg : w2.heap.size = g at HI2
    go_wp2_with fail
    with_reducible refine (H3.out _ HI2.out.rs).mono ?_
    rintro e w3 ⟨A1, n1, c1, rfl, hr3, hR3, hO3⟩
    clear hg
    have hI3 := HI2.out.call hR3 hO3
    have f0 : w3.frozen? ⟨g, 0, none⟩ = false := hI3.blk.frozen 0
    have e0 : w3.cell? ⟨g, 0, none⟩ = some (.slice none 0 0) := hI3.blk.cell 0
    have HI3 := kept (hI3.set_ 0 (.slice A1 n1 c1) (.slice A1 n1 c1) (.slice none 0 0) (.int .i64 (v2 : Int)) (.int .i64 0) rfl)
    have HN3 := kept ((HI2.out.bytes hr3.1 hr3.2.1).set_ 0 (.slice A1 n1 c1))
    have HM3 := kept hr3.2.2.2
    have e2 : w3.cell? ⟨g, 2, none⟩ = some (.int .i64 (v2 : Int)) := hI3.blk.cell 2
    clear hR3 hO3 hr3 hI3
    go_wp2_with fail
    with_reducible refine (HIN _).out.mono ?_
    rintro e w4 ⟨rfl, rfl⟩
    clear f0 e0 e2
    generalize w3.setCell ⟨g, 0, none⟩ (.slice A1 n1 c1) = W3 at HI3 HN3 ⊢
    have e2 : W3.cell? ⟨g, 2, none⟩ = some (.int .i64 (v2 : Int)) := HI3.out.blk.cell 2
    go_wp2_with fail
    with_reducible refine (H4.out _ HI3.out.rs).mono ?_
    rintro e w5 ⟨rfl, hR5, hO5⟩
    clear e2
    have hI5 := HI3.out.call hR5 hO5
    have f1 : w5.frozen? ⟨g, 3, none⟩ = false := hI5.blk.frozen 3
    have e1 : w5.cell? ⟨g, 3, none⟩ = some (.int .i64 0) := hI5.blk.cell 3
    have hI5' := hI5.set_ 3 (.int .i64 (d : Int)) (.slice A1 n1 c1) (.slice none 0 0) (.int .i64 (v2 : Int)) (.int .i64 (d : Int)) rfl
    have HN4 := kept ((HN3.out.call hO5).set_ 3 (.int .i64 (d : Int)))
    have p0 : w5.cell? ⟨w.heap.size, 0, none⟩ = some (.slice none 0 0) := hI5.res.cell 0
    have p1 : w5.cell? ⟨w.heap.size, 1, none⟩ = some (.slice none 0 0) := hI5.res.cell 1
    have p2 : w5.cell? ⟨w.heap.size, 2, none⟩ = some (.int .i64 0) := hI5.res.cell 2
    have p3 : w5.cell? ⟨w.heap.size, 3, none⟩ = some (.int .i64 0) := hI5.res.cell 3
    have t0 := hI5.res.frozen 0
    have t1 := hI5.res.frozen 1
    have t2 := hI5.res.frozen 2
    have t3 := hI5.res.frozen 3
    have hgq : g ≠ w.heap.size := by have := hI5.qg; omega
    have k0 : w5.cell? ⟨g, 0, none⟩ = some (.slice A1 n1 c1) := hI5.blk.cell 0
    have k1 : w5.cell? ⟨g, 1, none⟩ = some (.slice none 0 0) := hI5.blk.cell 1
    have k2 : w5.cell? ⟨g, 2, none⟩ = some (.int .i64 (v2 : Int)) := hI5.blk.cell 2
    have HI5 := kept hI5'
    clear hI5 hI5' hR5 hO5
    go_wp2
    have HE := HI5.out.fin (.slice A1 n1 c1) (.slice none 0 0) (.int .i64 (v2 : Int)) (.int .i64 (d : Int))
    have HK := (((HN4.out.setq 0 (.slice A1 n1 c1)).setq 1 (.slice none 0 0)).setq 2 (.int .i64 (v2 : Int))).setq 3 (.int .i64 (d : Int))
    generalize (((((w5.setCell ⟨g, 3, none⟩ (.int .i64 (d : Int))).setCell ⟨w.heap.size, 0, none⟩ (.slice A1 n1 c1)).setCell ⟨w.heap.size, 1, none⟩ (.slice none 0 0)).setCell ⟨w.heap.size, 2, none⟩ (.int .i64 (v2 : Int))).setCell ⟨w.heap.size, 3, none⟩ (.int .i64 (d : Int))) = X at HE HK ⊢
    obtain ⟨hRX, hOX, hBX⟩ := HE
    have x0 : X.cell? ⟨w.heap.size, 0, none⟩ = some (.slice A1 n1 c1) := hBX.cell 0
    have x1 : X.cell? ⟨w.heap.size, 1, none⟩ = some (.slice none 0 0) := hBX.cell 1
    have x2 : X.cell? ⟨w.heap.size, 2, none⟩ = some (.int .i64 (v2 : Int)) := hBX.cell 2
    have x3 : X.cell? ⟨w.heap.size, 3, none⟩ = some (.int .i64 (d : Int)) := hBX.cell 3
    have := HV.out
    have := HM3.out
    exact bodyPost_ret (v := .agg #[.slice A1 n1 c1, .slice none 0 0, .int .i64 (v2 : Int), .int .i64 (d : Int)]) (by simp [results, Tryd.results86, go_sem, x0, x1, x2, x3]) rfl ⟨⟨A1, n1, c1, none, 0, 0, v2, d⟩, rfl, ⟨⟨HK.rd, Rd.nil_ _ _, rfl, rfl, by show n1 ≤ _; omega, Nat.zero_le _⟩, HK.new, New.nil_ _ _⟩, hRX, hOX⟩
end Go.Proofs.YtfgpkgenahlikaaDoor
