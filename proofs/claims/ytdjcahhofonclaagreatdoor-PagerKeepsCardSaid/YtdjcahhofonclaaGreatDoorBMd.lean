/-
  Texts laid together: Md Mc.
-/
import Derived.Test.YtdjcahhofonclaaGreatDoorBMf
import Derived.Test.YtdjcahhofonclaaGreatDoorBRg
section
/-
  meta.read and meta.Decode: what bytes are as a meta.
-/
namespace Go.Proofs.YtdjcahhofonclaaGreatDoor
open Go.ChangeShapes Go.WideShapes Go.ChangeAt Go.RowKit
set_option linter.unusedVariables false
set_option linter.unusedSimpArgs false

/-- What is read of a body. -/
def readM (ys : List UInt8) : Mt := ⟨num (part ys 1 8) 0, ((num (part ys 14 4) 0 : Nat) : Int), ((num (part ys 18 4) 0 : Nat) : Int), ((num (part ys 22 4) 0 : Nat) : Int)⟩
theorem readM_txn {ys : List UInt8} (h : ys.length = 252) : (readM ys).txn < 18446744073709551616 := num_part_lt ys 1 8 (by omega)
theorem rnum_at (ys : List UInt8) (k p : Nat) (h : p + k ≤ ys.length) : rnum ys k (p, 0) = (num (part ys p k) 0, (p + k, 0)) := by
  unfold rnum
  simp [h]
theorem rbytes_at (ys : List UInt8) (k p : Nat) (h : p + k ≤ ys.length) : rbytes ys k (p, 0) = (part ys p k, (p + k, 0)) := by
  unfold rbytes
  simp [h]
theorem readIDm_any (r : Nat) (A : Option Addr) (n c : Nat) (xs : List UInt8) (s : Rst) (w : World) (h : RS w r A n c xs s) :
    Calls Tryz.prog 207 #[.pointer (some ⟨r, 0, none⟩)] w fun e w' => e = .returned (.int .i64 (((rnum xs 4 s).1 : Nat) : Int)) ∧ Hid (RS w' r A n c xs (rnum xs 4 s).2 ∧ Only w w' r) := by
  have HN := num4 r A n c xs s w h
  have hlt := rnum_lt xs 4 s
  obtain ⟨v, hv⟩ : ∃ v, (rnum xs 4 s).1 = v := ⟨_, rfl⟩
  obtain ⟨s', hs⟩ : ∃ s', (rnum xs 4 s).2 = s' := ⟨_, rfl⟩
  rw [hv, hs] at HN
  rw [hv] at hlt ⊢
  rw [hs]
  have HN := kept HN
  have hw : IntKind.i64.wrap (v : Int) = (v : Int) := IntWalk.i64_in _ ⟨by omega, by omega⟩
  clear h hv hs
  go_enter Tryz.func207, Tryz.ntmps207
  go_wp2_with (first | (go_at_call 150; (with_reducible refine (HN.out).mono ?_); rintro e w2 ⟨rfl, h2⟩))
  go_ret
  exact ⟨rfl, h2⟩
theorem bytes5 (r : Nat) (A : Option Addr) (n c : Nat) (xs : List UInt8) (s : Rst) (w : World) (h : RS w r A n c xs s) :
    Calls Tryz.prog 115 #[.pointer (some ⟨r, 0, none⟩), .int .i64 5] w fun e w' => ∃ A' n' c', e = .returned (.slice A' n' c') ∧ Hid (Rd w' A' n' (rbytes xs 5 s).1 ∧ New A' n' w.heap.size ∧ n' ≤ c' ∧ n' ≤ 5) ∧ Hid (RS w' r A n c xs (rbytes xs 5 s).2 ∧ Only w w' r) := bytes_any r A n c xs s 5 w h (by omega)
/-- The meta so far: its block b, the result's block, the reader. -/
structure MS (w W : World) (r : Nat) (A : Option Addr) (c : Nat) (ys : List UInt8) (s : Rst) (b : Nat) (v0 v1 v2 v3 : Value) : Prop where
  rs : RS W r A 252 c ys s
  bel : Below w.heap.size w W
  res : Blk W w.heap.size 87 [.int .u64 0, .int .i64 0, .int .i64 0, .int .i64 0]
  blk : Blk W b 87 [v0, v1, v2, v3]
  qr : w.heap.size < r
  qb : w.heap.size < b
  rb : r ≠ b
  ab : apartA A 252 b
section
variable {w W W' : World} {r b : Nat} {A : Option Addr} {c : Nat} {ys : List UInt8} {s s' : Rst} {v0 v1 v2 v3 : Value}
theorem MS.call (h : MS w W r A c ys s b v0 v1 v2 v3) (hr : RS W' r A 252 c ys s' ∧ Only W W' r) : MS w W' r A c ys s' b v0 v1 v2 v3 :=
  ⟨hr.1, hr.2.below h.bel h.bel.size (Nat.le_of_lt h.qr), h.res.only hr.2 (by have := h.qr; omega), h.blk.only hr.2 (fun e => h.rb e.symm), h.qr, h.qb, h.rb, h.ab⟩
theorem MS.set_ (h : MS w W r A c ys s b v0 v1 v2 v3) (i : Nat) (u u0 u1 u2 u3 : Value) (e : [v0, v1, v2, v3].set i u = [u0, u1, u2, u3]) : MS w (W.setCell ⟨b, i, none⟩ u) r A c ys s b u0 u1 u2 u3 :=
  ⟨h.rs.set_ h.rb h.ab i u, h.bel.setCell (p := ⟨b, i, none⟩) (Nat.le_of_lt h.qb) u, h.res.far (p := ⟨b, i, none⟩) (by have := h.qb; show w.heap.size ≠ b; omega) u, by rw [← e]; exact h.blk.set_ i u, h.qr, h.qb, h.rb, h.ab⟩
end
/-- A struct of four cells, stored whole. -/
theorem store4 {w W : World} {B q : Nat} {T : TypeId} {x0 x1 x2 x3 : Value} (h : Blk W q T [x0, x1, x2, x3]) (hb : Below B w W) (hq : B ≤ q) (u0 u1 u2 u3 : Value) :
    ((((W.setCell ⟨q, 0, none⟩ u0).setCell ⟨q, 1, none⟩ u1).setCell ⟨q, 2, none⟩ u2).setCell ⟨q, 3, none⟩ u3).cell? ⟨q, 0, none⟩ = some u0 ∧
    ((((W.setCell ⟨q, 0, none⟩ u0).setCell ⟨q, 1, none⟩ u1).setCell ⟨q, 2, none⟩ u2).setCell ⟨q, 3, none⟩ u3).cell? ⟨q, 1, none⟩ = some u1 ∧
    ((((W.setCell ⟨q, 0, none⟩ u0).setCell ⟨q, 1, none⟩ u1).setCell ⟨q, 2, none⟩ u2).setCell ⟨q, 3, none⟩ u3).cell? ⟨q, 2, none⟩ = some u2 ∧
    ((((W.setCell ⟨q, 0, none⟩ u0).setCell ⟨q, 1, none⟩ u1).setCell ⟨q, 2, none⟩ u2).setCell ⟨q, 3, none⟩ u3).cell? ⟨q, 3, none⟩ = some u3 ∧
    Below B w ((((W.setCell ⟨q, 0, none⟩ u0).setCell ⟨q, 1, none⟩ u1).setCell ⟨q, 2, none⟩ u2).setCell ⟨q, 3, none⟩ u3) := by
  have k := (((h.set_ 0 u0).set_ 1 u1).set_ 2 u2).set_ 3 u3
  exact ⟨k.cell 0, k.cell 1, k.cell 2, k.cell 3, (((hb.setCell (p := ⟨q, 0, none⟩) hq u0).setCell (p := ⟨q, 1, none⟩) hq u1).setCell (p := ⟨q, 2, none⟩) hq u2).setCell (p := ⟨q, 3, none⟩) hq u3⟩
set_option maxRecDepth 100000 in
set_option maxHeartbeats 2000000 in
theorem read_m (A : Option Addr) (c : Nat) (ys : List UInt8) (w : World) (hr : Rd w A 252 ys) (hc : 252 ≤ c) :
    Calls Tryz.prog 196 #[.slice A 252 c] w fun e w' => e = .returned (readM ys).val ∧ Below w.heap.size w w' := by
  have hyl : ys.length = 252 := hr.1
  have HNR := fun o => kept (newReader_any A 252 c ys (w.alloc o) (hr.alloc o) (by omega))
  have E1 := kept (rnum_at ys 1 0 (by omega))
  have E2 := kept (rnum_at ys 8 1 (by omega))
  have E3 := kept (rbytes_at ys 5 9 (by omega))
  have E4 := kept (rnum_at ys 4 14 (by omega))
  have E5 := kept (rnum_at ys 4 18 (by omega))
  have E6 := kept (rnum_at ys 4 22 (by omega))
  have HV : Hid ((readM ys).val = .agg #[.int .u64 ((num (part ys 1 8) 0 : Nat) : Int), .int .i64 ((num (part ys 14 4) 0 : Nat) : Int), .int .i64 ((num (part ys 18 4) 0 : Nat) : Int), .int .i64 ((num (part ys 22 4) 0 : Nat) : Int)]) := rfl
  generalize (readM ys).val = RV at HV
  generalize num (part ys 1 8) 0 = p1 at E2 HV
  generalize num (part ys 14 4) 0 = p2 at E4 HV
  generalize num (part ys 18 4) 0 = p3 at E5 HV
  generalize num (part ys 22 4) 0 = p4 at E6 HV
  clear hr
  go_enter Tryz.func196, Tryz.ntmps196
  go_wp2_with fail
  with_reducible refine (HNR _).out.mono ?_
  rintro e w2 ⟨r, A2, c2, rfl, hr2, hc2, hrs, hb2⟩
  have HQ2 := kept ((Blk.new w 87 #[.int .u64 0, .int .i64 0, .int .i64 0, .int .i64 0]).below hb2 (by simp))
  have HB2 := kept (bel_to hb2 ((Below.refl _ w).alloc (Nat.le_refl _) _))
  have HR2 : Hid (RS w2 r A2 252 c2 ys (0, 0)) := kept ⟨hr2, Nat.zero_le _, .inl rfl, hc2, by omega⟩
  have HQR := kept (show w.heap.size < r by have h := hrs; rw [World.size_alloc] at h; exact h)
  have h1 := num1 r A2 252 c2 ys (0, 0) w2 HR2.out
  rw [E1.out] at h1
  have H1 := kept h1
  clear hr2 hc2 hrs hb2 h1
  go_wp2_with fail
  with_reducible refine H1.out.mono ?_
  rintro e w3 ⟨rfl, hR3, hO3⟩
  have HQ3 := kept (HQ2.out.only hO3 (by have := HQR.out; show w.heap.size ≠ r; omega))
  have HB3 := kept (hO3.below HB2.out HB2.out.size (Nat.le_of_lt HQR.out))
  have h1 := num8 r A2 252 c2 ys (1, 0) w3 hR3
  rw [E2.out] at h1
  have H1 := kept h1
  clear hR3 hO3 h1
  go_wp2_with fail
  with_reducible refine H1.out.mono ?_
  rintro e w4 ⟨rfl, hR4, hO4⟩
  have hq4 := HQ3.out.only hO4 (by have := HQR.out; show w.heap.size ≠ r; omega)
  have HM4 : Hid (MS w (w4.alloc (.cells #[.int .u64 (p1 : Int), .int .i64 0, .int .i64 0, .int .i64 0] 87)) r A2 c2 ys (9, 0) w4.heap.size (.int .u64 (p1 : Int)) (.int .i64 0) (.int .i64 0) (.int .i64 0)) := by
    have hb4 := hO4.below HB3.out HB3.out.size (Nat.le_of_lt HQR.out)
    exact kept ⟨hR4.alloc _, hb4.alloc hb4.size _, hq4.alloc _, Blk.new w4 87 #[.int .u64 (p1 : Int), .int .i64 0, .int .i64 0, .int .i64 0], HQR.out, hq4.lt, by have := hR4.lt; omega, hR4.apart (Nat.le_refl _)⟩
  have h1 := bytes5 r A2 252 c2 ys (9, 0) _ HM4.out.rs
  rw [E3.out] at h1
  have H1 := kept h1
  clear hR4 hO4 hq4 h1
  go_wp2_with fail
  with_reducible refine H1.out.mono ?_
  rintro e w5 ⟨A5, n5, c5, rfl, _, h5⟩
  have HM5 := kept (HM4.out.call h5.out)
  generalize w4.heap.size = b at HM4 HM5 ⊢
  have h1 := readIDm_any r A2 252 c2 ys (14, 0) w5 HM5.out.rs
  rw [E4.out] at h1
  have H1 := kept h1
  clear h5 h1
  go_wp2_with fail
  with_reducible refine H1.out.mono ?_
  rintro e w6 ⟨rfl, h6⟩
  have hm := HM5.out.call h6.out
  have k1 : w6.cell? ⟨b, 1, none⟩ = some (.int .i64 0) := hm.blk.cell 1
  have f1 := hm.blk.frozen 1
  have HM6 := kept (hm.set_ 1 (.int .i64 (p2 : Int)) (.int .u64 (p1 : Int)) (.int .i64 (p2 : Int)) (.int .i64 0) (.int .i64 0) rfl)
  have h1 := readIDm_any r A2 252 c2 ys (18, 0) _ HM6.out.rs
  rw [E5.out] at h1
  have H1 := kept h1
  clear h6 hm h1
  go_wp2_with fail
  with_reducible refine H1.out.mono ?_
  rintro e w7 ⟨rfl, h7⟩
  have hm := HM6.out.call h7.out
  clear k1 f1
  have k1 : w7.cell? ⟨b, 2, none⟩ = some (.int .i64 0) := hm.blk.cell 2
  have f1 := hm.blk.frozen 2
  have HM7 := kept (hm.set_ 2 (.int .i64 (p3 : Int)) (.int .u64 (p1 : Int)) (.int .i64 (p2 : Int)) (.int .i64 (p3 : Int)) (.int .i64 0) rfl)
  have h1 := readIDm_any r A2 252 c2 ys (22, 0) _ HM7.out.rs
  rw [E6.out] at h1
  have H1 := kept h1
  clear h7 hm h1
  go_wp2_with fail
  with_reducible refine H1.out.mono ?_
  rintro e w8 ⟨rfl, h8⟩
  have hm := HM7.out.call h8.out
  clear k1 f1
  have k1 : w8.cell? ⟨b, 3, none⟩ = some (.int .i64 0) := hm.blk.cell 3
  have f1 := hm.blk.frozen 3
  have hm8 := hm.set_ 3 (.int .i64 (p4 : Int)) (.int .u64 (p1 : Int)) (.int .i64 (p2 : Int)) (.int .i64 (p3 : Int)) (.int .i64 (p4 : Int)) rfl
  have k0 : w8.cell? ⟨b, 0, none⟩ = some (.int .u64 (p1 : Int)) := hm.blk.cell 0
  have k2 : w8.cell? ⟨b, 1, none⟩ = some (.int .i64 (p2 : Int)) := hm.blk.cell 1
  have k3 : w8.cell? ⟨b, 2, none⟩ = some (.int .i64 (p3 : Int)) := hm.blk.cell 2
  have HQB := kept (show w.heap.size ≠ b by have := hm8.qb; omega)
  have q0 : (w8.setCell ⟨b, 3, none⟩ (.int .i64 (p4 : Int))).cell? ⟨w.heap.size, 0, none⟩ = some (.int .u64 0) := hm8.res.cell 0
  have q1 : (w8.setCell ⟨b, 3, none⟩ (.int .i64 (p4 : Int))).cell? ⟨w.heap.size, 1, none⟩ = some (.int .i64 0) := hm8.res.cell 1
  have q2 : (w8.setCell ⟨b, 3, none⟩ (.int .i64 (p4 : Int))).cell? ⟨w.heap.size, 2, none⟩ = some (.int .i64 0) := hm8.res.cell 2
  have q3 : (w8.setCell ⟨b, 3, none⟩ (.int .i64 (p4 : Int))).cell? ⟨w.heap.size, 3, none⟩ = some (.int .i64 0) := hm8.res.cell 3
  have g0 := hm8.res.frozen 0
  have g1 := hm8.res.frozen 1
  have g2 := hm8.res.frozen 2
  have g3 := hm8.res.frozen 3
  have HM8 := kept hm8
  clear h8 hm hm8
  go_wp2
  have hx := store4 (x0 := .int .u64 0) (x1 := .int .i64 0) (x2 := .int .i64 0) (x3 := .int .i64 0) HM8.out.res HM8.out.bel (Nat.le_refl _) (.int .u64 (p1 : Int)) (.int .i64 (p2 : Int)) (.int .i64 (p3 : Int)) (.int .i64 (p4 : Int))
  generalize ((((w8.setCell ⟨b, 3, none⟩ (.int .i64 (p4 : Int))).setCell ⟨w.heap.size, 0, none⟩ (.int .u64 (p1 : Int))).setCell ⟨w.heap.size, 1, none⟩ (.int .i64 (p2 : Int))).setCell ⟨w.heap.size, 2, none⟩ (.int .i64 (p3 : Int))).setCell ⟨w.heap.size, 3, none⟩ (.int .i64 (p4 : Int)) = X at hx ⊢
  obtain ⟨v0, v1, v2, v3, hbx⟩ := hx
  exact bodyPost_ret (v := .agg #[.int .u64 (p1 : Int), .int .i64 (p2 : Int), .int .i64 (p3 : Int), .int .i64 (p4 : Int)]) (by simp [results, Tryz.results196, go_sem, v0, v1, v2, v3]) rfl ⟨by rw [HV.out], hbx⟩
abbrev zeroV5 : Value := .agg #[.int .u64 0, .int .i64 0, .int .i64 0, .int .i64 0]
/-- The meta that bytes are, or the error. -/
def decM (xs : List UInt8) : Mt × Int :=
  if xs.length ≠ 256 then (zeroMt, 4) else if num (xs.take 4) 0 ≠ csum (xs.drop 4) then (zeroMt, 6) else
    if rightM (readM (xs.drop 4)) && decide (bodyM (readM (xs.drop 4)) = xs.drop 4) then (readM (xs.drop 4), 0) else (zeroMt, 4)
theorem decode_m_size (A : Option Addr) (n c : Nat) (w : World) (hn : n ≠ 256) :
    Calls Tryz.prog 168 #[.slice A n c] w fun e w' => e = .returned (.tuple #[zeroV5, .int .i64 4]) ∧ Below w.heap.size w w' := by
  have hb : ((n : Int) != 256) = true := by simp; omega
  clear hn
  go_enter Tryz.func168, Tryz.ntmps168
  go_wp2
  exact bodyPost_ret (v := .tuple #[zeroV5, .int .i64 4]) (by simp [results, Tryz.results168, go_sem]) rfl ⟨rfl, (Below.refl _ _).alloc (Nat.le_refl _) _⟩
theorem decode_m_sum (A : Option Addr) (c : Nat) (xs : List UInt8) (w : World) (hr : Rd w A 256 xs) (hc : 256 ≤ c) (hf : Fours w) (hw : num (xs.take 4) 0 ≠ csum (xs.drop 4)) :
    Calls Tryz.prog 168 #[.slice A 256 c] w fun e w' => e = .returned (.tuple #[zeroV5, .int .i64 6]) ∧ Below w.heap.size w w' := by
  have HO := fun o => kept (open_wrong A 256 c xs (w.alloc o) (hr.alloc o) hc (by omega) (by omega) (hf.alloc o) hw)
  clear hr hf hw
  go_enter Tryz.func168, Tryz.ntmps168
  go_wp2_with fail
  with_reducible refine (HO _).out.mono ?_
  rintro e w1 ⟨rfl, hb⟩
  have hblk := (Blk.new w 87 #[.int .u64 0, .int .i64 0, .int .i64 0, .int .i64 0]).below hb (by simp)
  have HBB := kept (bel_to hb ((Below.refl _ w).alloc (Nat.le_refl _) _))
  obtain ⟨e0, e1, e2, e3⟩ := hblk.fou
  have f0 := hblk.frozen 0
  have f1 := hblk.frozen 1
  have f2 := hblk.frozen 2
  have f3 := hblk.frozen 3
  have HBL := kept hblk
  clear hb hblk
  go_wp2
  have hx := store4 HBL.out HBB.out (Nat.le_refl _) (.int .u64 0) (.int .i64 0) (.int .i64 0) (.int .i64 0)
  generalize (((w1.setCell ⟨w.heap.size, 0, none⟩ (.int .u64 0)).setCell ⟨w.heap.size, 1, none⟩ (.int .i64 0)).setCell ⟨w.heap.size, 2, none⟩ (.int .i64 0)).setCell ⟨w.heap.size, 3, none⟩ (.int .i64 0) = X at hx ⊢
  obtain ⟨v0, v1, v2, v3, hbx⟩ := hx
  exact bodyPost_ret (v := .tuple #[zeroV5, .int .i64 6]) (by simp [results, Tryz.results168, go_sem, v0, v1, v2, v3]) rfl ⟨rfl, hbx⟩
theorem sealed_ne {ys zs : List UInt8} {xs : List UInt8} (hs : num (xs.take 4) 0 = csum (xs.drop 4)) (h4 : 4 ≤ xs.length) : (sealed ys = xs) ↔ (ys = xs.drop 4) := by
  constructor
  · intro e; rw [← e, sealed_drop]
  · intro e; rw [e]; exact (sealed_iff xs h4).2 hs
set_option maxRecDepth 100000 in
set_option maxHeartbeats 2000000 in
theorem decode_m_body (A : Option Addr) (c : Nat) (xs : List UInt8) (w : World) (hr : Rd w A 256 xs) (hc : 256 ≤ c) (hf : Fours w) (hw : num (xs.take 4) 0 = csum (xs.drop 4)) :
    Calls Tryz.prog 168 #[.slice A 256 c] w fun e w' => e = .returned (.tuple #[(decM xs).1.val, .int .i64 (decM xs).2]) ∧ Below w.heap.size w w' := by
  have HO := fun o => kept (open_right A 256 c xs (w.alloc o) (hr.alloc o) hc (by omega) (by omega) (hf.alloc o) hw)
  have HSI := kept (fun ys => sealed_ne (ys := ys) (zs := ys) hw (by have := hr.1; omega))
  have hyl : (xs.drop 4).length = 252 := by rw [List.length_drop, hr.1]
  have HD : Hid (decM xs = if rightM (readM (xs.drop 4)) && decide (bodyM (readM (xs.drop 4)) = xs.drop 4) then (readM (xs.drop 4), 0) else (zeroMt, 4)) := by
    show _ = _
    unfold decM
    rw [if_neg (by simpa using hr.1), if_neg (by simpa using hw)]
  obtain ⟨ys, hys⟩ : ∃ ys, xs.drop 4 = ys := ⟨_, rfl⟩
  rw [hys] at HO hyl HSI HD
  simp only [Nat.reduceSub] at HO
  have HRM := fun A c W h1 h2 => kept (read_m A c ys W h1 h2)
  have htx := readM_txn hyl
  generalize readM ys = m at HRM HD htx
  have HR := kept hr
  have HF := kept hf
  generalize decM xs = D at HD
  clear hr hf hw hys
  have hblk := fun {X : World} (hb : Below (w.alloc (.cells #[.int .u64 0, .int .i64 0, .int .i64 0, .int .i64 0] 87)).heap.size (w.alloc (.cells #[.int .u64 0, .int .i64 0, .int .i64 0, .int .i64 0] 87)) X) => (Blk.new w 87 #[.int .u64 0, .int .i64 0, .int .i64 0, .int .i64 0]).below hb (by simp)
  have HBK := fun X hb => kept (hblk (X := X) hb)
  clear hblk
  by_cases hrt : rightM m = true
  · have HE := fun W h => kept (encode_m m W htx hrt h)
    by_cases hbd : bodyM m = ys
    · have HDD : Hid (D = (m, 0)) := by show _ = _; rw [HD.out, if_pos (by simp [hrt, hbd])]
      have HEQ := fun A1 B1 c1 d1 W h1 h2 => kept (bytesEqual_any A1 B1 256 256 c1 d1 (sealed (bodyM m)) xs W h1 h2 true (by rw [decide_eq_true_eq]; exact (HSI.out _).2 hbd))
      clear hrt hbd htx
      obtain ⟨t, r, s, z⟩ := m
      go_enter Tryz.func168, Tryz.ntmps168
      go_wp2_with fail
      with_reducible refine (HO _).out.mono ?_
      rintro e w1 ⟨A1, c1, rfl, hown, hb⟩
      have HQ1 := HBK _ hb
      have HB1 := kept (bel_to hb ((Below.refl _ w).alloc (Nat.le_refl _) _))
      have HRD := kept (HRM A1 c1 w1 (Rd.of_own hown) (own_cap hown)).out
      clear hown hb
      go_wp2_with fail
      with_reducible refine HRD.out.mono ?_
      rintro e w2 ⟨rfl, hb⟩
      have HQ2 := kept (HQ1.out.below hb HQ1.out.lt)
      have HB2 := kept (bel_to hb HB1.out)
      have HN2 := kept (fou_new w2 87 t r s z)
      have HF2 := kept ((HF.out.below HB2.out).alloc (.cells #[.int .u64 (t : Int), .int .i64 r, .int .i64 s, .int .i64 z] 87))
      clear hb
      go_wp2_with fail
      with_reducible refine (HE _ HF2.out).out.mono ?_
      rintro e w3 ⟨A3, c3, rfl, hown, hb⟩
      have hb3 := bel_to hb (HB2.out.alloc HB2.out.size _)
      obtain ⟨n0, n1, n2, n3⟩ := HN2.out.keeps (Keeps.of_below hb)
      have hq3 := (HQ2.out.alloc _).below hb (HQ2.out.alloc _).lt
      have HEE := kept (HEQ _ A c3 c w3 (Rd.of_own hown) (HR.out.below hb3)).out
      obtain ⟨e0, e1, e2, e3⟩ := hq3.fou
      have f0 := hq3.frozen 0
      have f1 := hq3.frozen 1
      have f2 := hq3.frozen 2
      have f3 := hq3.frozen 3
      have hne : w2.heap.size ≠ w.heap.size := by have := HQ2.out.lt; omega
      have HQ3 := kept hq3
      have HB3 := kept hb3
      clear hown hb hb3 hq3
      go_wp2_with (first | (go_at_call 197; (with_reducible refine (HEE.out).mono ?_); rintro e w4 ⟨rfl, rfl⟩))
      have hx := store4 HQ3.out HB3.out (Nat.le_refl _) (.int .u64 (t : Int)) (.int .i64 r) (.int .i64 s) (.int .i64 z)
      generalize (((w3.setCell ⟨w.heap.size, 0, none⟩ (.int .u64 (t : Int))).setCell ⟨w.heap.size, 1, none⟩ (.int .i64 r)).setCell ⟨w.heap.size, 2, none⟩ (.int .i64 s)).setCell ⟨w.heap.size, 3, none⟩ (.int .i64 z) = X at hx ⊢
      obtain ⟨v0, v1, v2, v3, hbx⟩ := hx
      exact bodyPost_ret (v := .tuple #[.agg #[.int .u64 (t : Int), .int .i64 r, .int .i64 s, .int .i64 z], .int .i64 0]) (by simp [results, Tryz.results168, go_sem, v0, v1, v2, v3]) rfl ⟨by rw [HDD.out], hbx⟩
    · have HDD : Hid (D = (zeroMt, 4)) := by show _ = _; rw [HD.out, if_neg (by simp [hbd])]
      have HEQ := fun A1 B1 c1 d1 W h1 h2 => kept (bytesEqual_any A1 B1 256 256 c1 d1 (sealed (bodyM m)) xs W h1 h2 false (by rw [decide_eq_false_iff_not]; exact fun e => hbd ((HSI.out _).1 e)))
      clear hrt hbd htx
      obtain ⟨t, r, s, z⟩ := m
      go_enter Tryz.func168, Tryz.ntmps168
      go_wp2_with fail
      with_reducible refine (HO _).out.mono ?_
      rintro e w1 ⟨A1, c1, rfl, hown, hb⟩
      have HQ1 := HBK _ hb
      have HB1 := kept (bel_to hb ((Below.refl _ w).alloc (Nat.le_refl _) _))
      have HRD := kept (HRM A1 c1 w1 (Rd.of_own hown) (own_cap hown)).out
      clear hown hb
      go_wp2_with fail
      with_reducible refine HRD.out.mono ?_
      rintro e w2 ⟨rfl, hb⟩
      have HQ2 := kept (HQ1.out.below hb HQ1.out.lt)
      have HB2 := kept (bel_to hb HB1.out)
      have HF2 := kept ((HF.out.below HB2.out).alloc (.cells #[.int .u64 (t : Int), .int .i64 r, .int .i64 s, .int .i64 z] 87))
      clear hb
      go_wp2_with fail
      with_reducible refine (HE _ HF2.out).out.mono ?_
      rintro e w3 ⟨A3, c3, rfl, hown, hb⟩
      have hb3 := bel_to hb (HB2.out.alloc HB2.out.size _)
      have hq3 := (HQ2.out.alloc _).below hb (HQ2.out.alloc _).lt
      have HEE := kept (HEQ _ A c3 c w3 (Rd.of_own hown) (HR.out.below hb3)).out
      obtain ⟨e0, e1, e2, e3⟩ := hq3.fou
      have f0 := hq3.frozen 0
      have f1 := hq3.frozen 1
      have f2 := hq3.frozen 2
      have f3 := hq3.frozen 3
      have HQ3 := kept hq3
      have HB3 := kept hb3
      clear hown hb hb3 hq3
      go_wp2_with (first | (go_at_call 197; (with_reducible refine (HEE.out).mono ?_); rintro e w4 ⟨rfl, rfl⟩))
      have hx := store4 HQ3.out HB3.out (Nat.le_refl _) (.int .u64 0) (.int .i64 0) (.int .i64 0) (.int .i64 0)
      generalize (((w3.setCell ⟨w.heap.size, 0, none⟩ (.int .u64 0)).setCell ⟨w.heap.size, 1, none⟩ (.int .i64 0)).setCell ⟨w.heap.size, 2, none⟩ (.int .i64 0)).setCell ⟨w.heap.size, 3, none⟩ (.int .i64 0) = X at hx ⊢
      obtain ⟨v0, v1, v2, v3, hbx⟩ := hx
      exact bodyPost_ret (v := .tuple #[zeroV5, .int .i64 4]) (by simp [results, Tryz.results168, go_sem, v0, v1, v2, v3]) rfl ⟨by rw [HDD.out]; rfl, hbx⟩
  · have hrt : rightM m = false := by simpa using hrt
    have HDD : Hid (D = (zeroMt, 4)) := by show _ = _; rw [HD.out, if_neg (by simp [hrt])]
    have HE := fun W => kept (encode_m_wrong m W hrt)
    clear hrt htx
    obtain ⟨t, r, s, z⟩ := m
    go_enter Tryz.func168, Tryz.ntmps168
    go_wp2_with fail
    with_reducible refine (HO _).out.mono ?_
    rintro e w1 ⟨A1, c1, rfl, hown, hb⟩
    have HQ1 := HBK _ hb
    have HB1 := kept (bel_to hb ((Below.refl _ w).alloc (Nat.le_refl _) _))
    have HRD := kept (HRM A1 c1 w1 (Rd.of_own hown) (own_cap hown)).out
    clear hown hb
    go_wp2_with fail
    with_reducible refine HRD.out.mono ?_
    rintro e w2 ⟨rfl, hb⟩
    have HQ2 := kept (HQ1.out.below hb HQ1.out.lt)
    have HB2 := kept (bel_to hb HB1.out)
    clear hb
    go_wp2_with fail
    with_reducible refine (HE _).out.mono ?_
    rintro e w3 ⟨rfl, hb⟩
    have hb3 := bel_to hb (HB2.out.alloc HB2.out.size _)
    have hq3 := (HQ2.out.alloc _).below hb (HQ2.out.alloc _).lt
    obtain ⟨e0, e1, e2, e3⟩ := hq3.fou
    have f0 := hq3.frozen 0
    have f1 := hq3.frozen 1
    have f2 := hq3.frozen 2
    have f3 := hq3.frozen 3
    have HQ3 := kept hq3
    have HB3 := kept hb3
    clear hb hb3 hq3
    go_wp2
    have hx := store4 HQ3.out HB3.out (Nat.le_refl _) (.int .u64 0) (.int .i64 0) (.int .i64 0) (.int .i64 0)
    generalize (((w3.setCell ⟨w.heap.size, 0, none⟩ (.int .u64 0)).setCell ⟨w.heap.size, 1, none⟩ (.int .i64 0)).setCell ⟨w.heap.size, 2, none⟩ (.int .i64 0)).setCell ⟨w.heap.size, 3, none⟩ (.int .i64 0) = X at hx ⊢
    obtain ⟨v0, v1, v2, v3, hbx⟩ := hx
    exact bodyPost_ret (v := .tuple #[zeroV5, .int .i64 4]) (by simp [results, Tryz.results168, go_sem, v0, v1, v2, v3]) rfl ⟨by rw [HDD.out]; rfl, hbx⟩
theorem decode_m (A : Option Addr) (n c : Nat) (xs : List UInt8) (w : World) (hr : Rd w A n xs) (hc : n ≤ c) (hf : Fours w) :
    Calls Tryz.prog 168 #[.slice A n c] w fun e w' => e = .returned (.tuple #[(decM xs).1.val, .int .i64 (decM xs).2]) ∧ Below w.heap.size w w' := by
  by_cases hn : n = 256
  · subst hn
    by_cases hw : num (xs.take 4) 0 = csum (xs.drop 4)
    · exact decode_m_body A c xs w hr hc hf hw
    · have e : decM xs = (zeroMt, 6) := by unfold decM; rw [if_neg (by simpa using hr.1), if_pos hw]
      rw [e]
      exact decode_m_sum A c xs w hr hc hf hw
  · have e : decM xs = (zeroMt, 4) := by unfold decM; rw [if_pos (by rw [hr.1]; exact hn)]
    rw [e]
    exact decode_m_size A n c w hn
theorem decM_txn (xs : List UInt8) : (decM xs).1.txn < 18446744073709551616 := by
  unfold decM
  split
  · decide
  · split
    · decide
    · rename_i h _
      split
      · exact readM_txn (by rw [List.length_drop]; omega)
      · decide
end Go.Proofs.YtdjcahhofonclaaGreatDoor
end

section
/-
  meta.standing and meta.Choose: which meta counts.
-/
namespace Go.Proofs.YtdjcahhofonclaaGreatDoor
open Go.ChangeShapes Go.WideShapes Go.ChangeAt Go.RowKit
set_option linter.unusedVariables false
set_option linter.unusedSimpArgs false

/-- The meta that stands at its place, if one does. -/
def standM (xs : List UInt8) (k : Int) : Mt × Bool := if (decM xs).2 = 0 ∧ (((decM xs).1.txn % 2 : Nat) : Int) = k then ((decM xs).1, true) else (zeroMt, false)
def chooseM (xs ys : List UInt8) : Mt × Int :=
  if (standM ys 1).2 && (!(standM xs 0).2 || decide ((standM xs 0).1.txn < (standM ys 1).1.txn)) then ((standM ys 1).1, 0)
  else if (standM xs 0).2 then ((standM xs 0).1, 0) else (zeroMt, 7)
set_option maxRecDepth 100000 in
set_option maxHeartbeats 2000000 in
theorem stand_m (A : Option Addr) (n c : Nat) (xs : List UInt8) (k : Int) (w : World) (hr : Rd w A n xs) (hc : n ≤ c) (hf : Fours w) :
    Calls Tryz.prog 131 #[.slice A n c, .int .u64 k] w fun e w' => e = .returned (.tuple #[(standM xs k).1.val, .bool (standM xs k).2]) ∧ Below w.heap.size w w' := by
  have HDC := fun o => kept (decode_m A n c xs (w.alloc o) (hr.alloc o) hc (hf.alloc o))
  have htx := decM_txn xs
  have HS : Hid (standM xs k = if (decM xs).2 = 0 ∧ (((decM xs).1.txn % 2 : Nat) : Int) = k then ((decM xs).1, true) else (zeroMt, false)) := rfl
  generalize standM xs k = S at HS
  generalize decM xs = D at HDC HS htx
  obtain ⟨⟨t, r, s, z⟩, err⟩ := D
  simp only at htx HDC HS
  clear hr hf
  by_cases he : err = 0
  · subst he
    by_cases hp : ((t % 2 : Nat) : Int) = k
    · have HSS : Hid (S = (⟨t, r, s, z⟩, true)) := by show _ = _; rw [HS.out, if_pos ⟨by rfl, hp⟩]
      have HPL := fun w => kept (place_any t r s z w htx)
      rw [hp] at HPL
      clear hp htx
      go_enter Tryz.func131, Tryz.ntmps131
      go_wp2_with fail
      with_reducible refine (HDC _).out.mono ?_
      rintro e w1 ⟨rfl, hb⟩
      have HQ1 := kept ((Blk.new w 87 #[.int .u64 0, .int .i64 0, .int .i64 0, .int .i64 0]).below hb (by simp))
      have HB1 := kept (bel_to hb ((Below.refl _ w).alloc (Nat.le_refl _) _))
      have HN1 := kept (fou_new w1 87 t r s z)
      clear hb
      go_wp2_with fail
      with_reducible refine (HPL _).out.mono ?_
      rintro e w2 ⟨rfl, hb⟩
      obtain ⟨n0, n1, n2, n3⟩ := HN1.out.keeps (Keeps.of_below hb)
      have hq2 := (HQ1.out.alloc _).below hb (HQ1.out.alloc _).lt
      have HB2 := kept (bel_to hb (HB1.out.alloc HB1.out.size _))
      have hne : w1.heap.size ≠ w.heap.size := by have := HQ1.out.lt; omega
      obtain ⟨e0, e1, e2, e3⟩ := hq2.fou
      have f0 := hq2.frozen 0
      have f1 := hq2.frozen 1
      have f2 := hq2.frozen 2
      have f3 := hq2.frozen 3
      have HQ2 := kept hq2
      clear hb hq2
      go_wp2
      have hx := store4 HQ2.out HB2.out (Nat.le_refl _) (.int .u64 (t : Int)) (.int .i64 r) (.int .i64 s) (.int .i64 z)
      generalize (((w2.setCell ⟨w.heap.size, 0, none⟩ (.int .u64 (t : Int))).setCell ⟨w.heap.size, 1, none⟩ (.int .i64 r)).setCell ⟨w.heap.size, 2, none⟩ (.int .i64 s)).setCell ⟨w.heap.size, 3, none⟩ (.int .i64 z) = X at hx ⊢
      obtain ⟨v0, v1, v2, v3, hbx⟩ := hx
      exact bodyPost_ret (v := .tuple #[.agg #[.int .u64 (t : Int), .int .i64 r, .int .i64 s, .int .i64 z], .bool true]) (by simp [results, Tryz.results131, go_sem, v0, v1, v2, v3]) rfl ⟨by rw [HSS.out], hbx⟩
    · have HSS : Hid (S = (zeroMt, false)) := by show _ = _; rw [HS.out, if_neg (fun h => hp h.2)]
      have HPL := fun w => kept (place_any t r s z w htx)
      have hg : (((t % 2 : Nat) : Int) != k) = true := by rw [bne_iff_ne]; exact hp
      generalize ((t % 2 : Nat) : Int) = v at HPL hg
      clear hp htx
      go_enter Tryz.func131, Tryz.ntmps131
      go_wp2_with fail
      with_reducible refine (HDC _).out.mono ?_
      rintro e w1 ⟨rfl, hb⟩
      have HQ1 := kept ((Blk.new w 87 #[.int .u64 0, .int .i64 0, .int .i64 0, .int .i64 0]).below hb (by simp))
      have HB1 := kept (bel_to hb ((Below.refl _ w).alloc (Nat.le_refl _) _))
      clear hb
      go_wp2_with fail
      with_reducible refine (HPL _).out.mono ?_
      rintro e w2 ⟨rfl, hb⟩
      have hq2 := (HQ1.out.alloc _).below hb (HQ1.out.alloc _).lt
      have HB2 := kept (bel_to hb (HB1.out.alloc HB1.out.size _))
      obtain ⟨e0, e1, e2, e3⟩ := hq2.fou
      have f0 := hq2.frozen 0
      have f1 := hq2.frozen 1
      have f2 := hq2.frozen 2
      have f3 := hq2.frozen 3
      have HQ2 := kept hq2
      clear hb hq2
      go_wp2
      have hx := store4 HQ2.out HB2.out (Nat.le_refl _) (.int .u64 0) (.int .i64 0) (.int .i64 0) (.int .i64 0)
      generalize (((w2.setCell ⟨w.heap.size, 0, none⟩ (.int .u64 0)).setCell ⟨w.heap.size, 1, none⟩ (.int .i64 0)).setCell ⟨w.heap.size, 2, none⟩ (.int .i64 0)).setCell ⟨w.heap.size, 3, none⟩ (.int .i64 0) = X at hx ⊢
      obtain ⟨v0, v1, v2, v3, hbx⟩ := hx
      exact bodyPost_ret (v := .tuple #[zeroV5, .bool false]) (by simp [results, Tryz.results131, go_sem, v0, v1, v2, v3]) rfl ⟨by rw [HSS.out]; rfl, hbx⟩
  · have HSS : Hid (S = (zeroMt, false)) := by show _ = _; rw [HS.out, if_neg (fun h => he h.1)]
    have hg : (err != 0) = true := by rw [bne_iff_ne]; exact he
    clear he htx
    go_enter Tryz.func131, Tryz.ntmps131
    go_wp2_with fail
    with_reducible refine (HDC _).out.mono ?_
    rintro e w1 ⟨rfl, hb⟩
    have hq1 := ((Blk.new w 87 #[.int .u64 0, .int .i64 0, .int .i64 0, .int .i64 0]).below hb (by simp))
    have HB1 := kept (bel_to hb ((Below.refl _ w).alloc (Nat.le_refl _) _))
    have HB2 := fun o => kept (HB1.out.alloc HB1.out.size o)
    have HQ2 := fun o => kept (hq1.alloc o)
    have hne : w.heap.size ≠ w1.heap.size := by have := hq1.lt; omega
    obtain ⟨e0, e1, e2, e3⟩ := (hq1.alloc (.cells #[.int .u64 (t : Int), .int .i64 r, .int .i64 s, .int .i64 z] 87)).fou
    have f0 := (hq1.alloc (.cells #[.int .u64 (t : Int), .int .i64 r, .int .i64 s, .int .i64 z] 87)).frozen 0
    have f1 := (hq1.alloc (.cells #[.int .u64 (t : Int), .int .i64 r, .int .i64 s, .int .i64 z] 87)).frozen 1
    have f2 := (hq1.alloc (.cells #[.int .u64 (t : Int), .int .i64 r, .int .i64 s, .int .i64 z] 87)).frozen 2
    have f3 := (hq1.alloc (.cells #[.int .u64 (t : Int), .int .i64 r, .int .i64 s, .int .i64 z] 87)).frozen 3
    clear hb hq1
    go_wp2
    have hx := store4 (HQ2 (.cells #[.int .u64 (t : Int), .int .i64 r, .int .i64 s, .int .i64 z] 87)).out (HB2 _).out (Nat.le_refl _) (.int .u64 0) (.int .i64 0) (.int .i64 0) (.int .i64 0)
    generalize ((((w1.alloc (.cells #[.int .u64 (t : Int), .int .i64 r, .int .i64 s, .int .i64 z] 87)).setCell ⟨w.heap.size, 0, none⟩ (.int .u64 0)).setCell ⟨w.heap.size, 1, none⟩ (.int .i64 0)).setCell ⟨w.heap.size, 2, none⟩ (.int .i64 0)).setCell ⟨w.heap.size, 3, none⟩ (.int .i64 0) = X at hx ⊢
    obtain ⟨v0, v1, v2, v3, hbx⟩ := hx
    exact bodyPost_ret (v := .tuple #[zeroV5, .bool false]) (by simp [results, Tryz.results131, go_sem, v0, v1, v2, v3]) rfl ⟨by rw [HSS.out]; rfl, hbx⟩
set_option maxRecDepth 100000 in
set_option maxHeartbeats 4000000 in
theorem choose_m (A B : Option Addr) (n m c d : Nat) (xs ys : List UInt8) (w : World) (hr : Rd w A n xs) (hc : n ≤ c) (hs : Rd w B m ys) (hd : m ≤ d) (hf : Fours w) :
    Calls Tryz.prog 91 #[.slice A n c, .slice B m d] w fun e w' => e = .returned (.tuple #[(chooseM xs ys).1.val, .int .i64 (chooseM xs ys).2]) ∧ Below w.heap.size w w' := by
  have HE := fun o => kept (stand_m A n c xs 0 (w.alloc o) (hr.alloc o) hc (hf.alloc o))
  have HR := kept hs
  have HF := kept hf
  have HO := fun W h1 h2 => kept (stand_m B m d ys 1 W h1 hd h2)
  have HC : Hid (chooseM xs ys = if (standM ys 1).2 && (!(standM xs 0).2 || decide ((standM xs 0).1.txn < (standM ys 1).1.txn)) then ((standM ys 1).1, 0) else if (standM xs 0).2 then ((standM xs 0).1, 0) else (zeroMt, 7)) := rfl
  generalize chooseM xs ys = C at HC
  generalize standM xs 0 = E at HE HC
  generalize standM ys 1 = O at HO HC
  obtain ⟨⟨t, r, s, z⟩, eb⟩ := E
  obtain ⟨⟨t', r', s', z'⟩, ob⟩ := O
  simp only at HE HO HC
  clear hr hs hf
  have h3 : ∃ k : Nat, k < 3 ∧ ((k = 0 ∧ ob = true ∧ (eb = false ∨ (eb = true ∧ t < t')) ∧ Hid (C = (⟨t', r', s', z'⟩, 0))) ∨ (k = 1 ∧ eb = true ∧ (ob = false ∨ (ob = true ∧ ¬ t < t')) ∧ Hid (C = (⟨t, r, s, z⟩, 0))) ∨ (k = 2 ∧ eb = false ∧ ob = false ∧ Hid (C = (zeroMt, 7)))) := by
    have hC := HC.out
    cases eb <;> cases ob
    · exact ⟨2, by omega, .inr (.inr ⟨rfl, rfl, rfl, kept (by simpa using hC)⟩)⟩
    · exact ⟨0, by omega, .inl ⟨rfl, rfl, .inl rfl, kept (by simpa using hC)⟩⟩
    · exact ⟨1, by omega, .inr (.inl ⟨rfl, rfl, .inl rfl, kept (by simpa using hC)⟩)⟩
    · by_cases hlt : t < t'
      · exact ⟨0, by omega, .inl ⟨rfl, rfl, .inr ⟨rfl, hlt⟩, kept (by simpa [hlt] using hC)⟩⟩
      · exact ⟨1, by omega, .inr (.inl ⟨rfl, rfl, .inr ⟨rfl, hlt⟩, kept (by simpa [hlt] using hC)⟩)⟩
  clear HC
  obtain ⟨_, _, h3⟩ := h3
  go_enter Tryz.func91, Tryz.ntmps91
  go_wp2_with fail
  with_reducible refine (HE _).out.mono ?_
  rintro e w1 ⟨rfl, hb⟩
  have HQ1 := kept ((Blk.new w 87 #[.int .u64 0, .int .i64 0, .int .i64 0, .int .i64 0]).below hb (by simp))
  have HB1 := kept (bel_to hb ((Below.refl _ w).alloc (Nat.le_refl _) _))
  have HN1 := kept (fou_new w1 87 t r s z)
  have HB1a := fun o => kept (HB1.out.alloc HB1.out.size o)
  have HOO := fun o => kept (HO (w1.alloc o) (HR.out.below (HB1a o).out) (HF.out.below (HB1a o).out)).out
  clear hb
  go_wp2_with fail
  with_reducible refine (HOO _).out.mono ?_
  rintro e w2 ⟨rfl, hb⟩
  have hq2 := (HQ1.out.alloc _).below hb (HQ1.out.alloc _).lt
  have hn2 := HN1.out.keeps (Keeps.of_below hb)
  have hb2 := bel_to hb (HB1a _).out
  have hlt1 : w1.heap.size < w2.heap.size := by have := hb.size; rw [World.size_alloc] at this; omega
  have hne1 : w.heap.size ≠ w1.heap.size := by have := HQ1.out.lt; omega
  have hne2 : w.heap.size ≠ w2.heap.size := by have := HQ1.out.lt; omega
  have hne3 : w1.heap.size ≠ w2.heap.size := by omega
  have HBX := fun o => kept (hb2.alloc hb2.size o)
  have HQX := fun o => kept (hq2.alloc o)
  obtain ⟨n0, n1, n2, n3⟩ := hn2.keeps (Keeps.alloc w2 (.cells #[.int .u64 (t' : Int), .int .i64 r', .int .i64 s', .int .i64 z'] 87))
  obtain ⟨e0, e1, e2, e3⟩ := (HQX (.cells #[.int .u64 (t' : Int), .int .i64 r', .int .i64 s', .int .i64 z'] 87)).out.fou
  have f0 := (HQX (.cells #[.int .u64 (t' : Int), .int .i64 r', .int .i64 s', .int .i64 z'] 87)).out.frozen 0
  have f1 := (HQX (.cells #[.int .u64 (t' : Int), .int .i64 r', .int .i64 s', .int .i64 z'] 87)).out.frozen 1
  have f2 := (HQX (.cells #[.int .u64 (t' : Int), .int .i64 r', .int .i64 s', .int .i64 z'] 87)).out.frozen 2
  have f3 := (HQX (.cells #[.int .u64 (t' : Int), .int .i64 r', .int .i64 s', .int .i64 z'] 87)).out.frozen 3
  clear hb hq2 hn2 hb2
  rcases h3 with ⟨rfl, rfl, hw, HCC⟩ | ⟨rfl, rfl, hw, HCC⟩ | ⟨rfl, rfl, rfl, HCC⟩
  · rcases hw with rfl | ⟨rfl, hlt⟩
    all_goals
      go_wp2
      have hx := store4 (HQX (.cells #[.int .u64 (t' : Int), .int .i64 r', .int .i64 s', .int .i64 z'] 87)).out (HBX _).out (Nat.le_refl _) (.int .u64 (t' : Int)) (.int .i64 r') (.int .i64 s') (.int .i64 z')
      generalize ((((w2.alloc (.cells #[.int .u64 (t' : Int), .int .i64 r', .int .i64 s', .int .i64 z'] 87)).setCell ⟨w.heap.size, 0, none⟩ (.int .u64 (t' : Int))).setCell ⟨w.heap.size, 1, none⟩ (.int .i64 r')).setCell ⟨w.heap.size, 2, none⟩ (.int .i64 s')).setCell ⟨w.heap.size, 3, none⟩ (.int .i64 z') = X at hx ⊢
      obtain ⟨v0, v1, v2, v3, hbx⟩ := hx
      exact bodyPost_ret (v := .tuple #[.agg #[.int .u64 (t' : Int), .int .i64 r', .int .i64 s', .int .i64 z'], .int .i64 0]) (by simp [results, Tryz.results91, go_sem, v0, v1, v2, v3]) rfl ⟨by rw [HCC.out], hbx⟩
  · rcases hw with rfl | ⟨rfl, hlt⟩
    all_goals
      go_wp2
      have hx := store4 (HQX (.cells #[.int .u64 (t' : Int), .int .i64 r', .int .i64 s', .int .i64 z'] 87)).out (HBX _).out (Nat.le_refl _) (.int .u64 (t : Int)) (.int .i64 r) (.int .i64 s) (.int .i64 z)
      generalize ((((w2.alloc (.cells #[.int .u64 (t' : Int), .int .i64 r', .int .i64 s', .int .i64 z'] 87)).setCell ⟨w.heap.size, 0, none⟩ (.int .u64 (t : Int))).setCell ⟨w.heap.size, 1, none⟩ (.int .i64 r)).setCell ⟨w.heap.size, 2, none⟩ (.int .i64 s)).setCell ⟨w.heap.size, 3, none⟩ (.int .i64 z) = X at hx ⊢
      obtain ⟨v0, v1, v2, v3, hbx⟩ := hx
      exact bodyPost_ret (v := .tuple #[.agg #[.int .u64 (t : Int), .int .i64 r, .int .i64 s, .int .i64 z], .int .i64 0]) (by simp [results, Tryz.results91, go_sem, v0, v1, v2, v3]) rfl ⟨by rw [HCC.out], hbx⟩
  · go_wp2
    have hx := store4 (HQX (.cells #[.int .u64 (t' : Int), .int .i64 r', .int .i64 s', .int .i64 z'] 87)).out (HBX _).out (Nat.le_refl _) (.int .u64 0) (.int .i64 0) (.int .i64 0) (.int .i64 0)
    generalize ((((w2.alloc (.cells #[.int .u64 (t' : Int), .int .i64 r', .int .i64 s', .int .i64 z'] 87)).setCell ⟨w.heap.size, 0, none⟩ (.int .u64 0)).setCell ⟨w.heap.size, 1, none⟩ (.int .i64 0)).setCell ⟨w.heap.size, 2, none⟩ (.int .i64 0)).setCell ⟨w.heap.size, 3, none⟩ (.int .i64 0) = X at hx ⊢
    obtain ⟨v0, v1, v2, v3, hbx⟩ := hx
    exact bodyPost_ret (v := .tuple #[zeroV5, .int .i64 7]) (by simp [results, Tryz.results91, go_sem, v0, v1, v2, v3]) rfl ⟨by rw [HCC.out]; rfl, hbx⟩
end Go.Proofs.YtdjcahhofonclaaGreatDoor
end
