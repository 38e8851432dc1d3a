/-
  The document's Decode of any bytes; page.Decode of a body that is none; both beside each other; the walk of the law PageReads.
-/
import Derived.Test.YtfgpkgenahlikaaDoorDe1
import Derived.Test.YtfgpkgenahlikaaDoorDe2
import Derived.Test.YtfgpkgenahlikaaDoorDe3
import Derived.Test.YtfgpkgenahlikaaDoorDe4
import Derived.Test.YtfgpkgenahlikaaDoorDs4
import Derived.Test.YtfgpkgenahlikaaDoorDcd
import Derived.Test.YtfgpkgenahlikaaDoorSm
import Derived.Test.YtfgpkgenahlikaaDoorOf
import Derived.Test.YtfgpkgenahlikaaDoorLv
namespace Go.Proofs.YtfgpkgenahlikaaDoor
open Go.ChangeShapes Go.WideShapes Go.ChangeAt Go.RowKit
set_option linter.unusedVariables false
set_option linter.unusedSimpArgs false

theorem refDecode_body (A : Option Addr) (c : Nat) (xs : List UInt8) (w : World) (hr : Rd w A 256 xs) (hc : 256 ≤ c) (hw : num (xs.take 4) 0 = csum (xs.drop 4)) :
    Calls Tryd.prog 23 #[.slice A 256 c] w (DecAns w xs) := by
  by_cases k1 : (rnum (xs.drop 4) 1 (0, 0)).1 = 1
  · exact refDecode_items A c xs w hr hc hw k1
  by_cases k2 : (rnum (xs.drop 4) 1 (0, 0)).1 = 2
  · exact refDecode_kids A c xs w hr hc hw k2
  by_cases k3 : (rnum (xs.drop 4) 1 (0, 0)).1 = 3
  · exact refDecode_data A c xs w hr hc hw k3
  by_cases k4 : (rnum (xs.drop 4) 1 (0, 0)).1 = 4
  · exact refDecode_ids A c xs w hr hc hw k4
  exact refDecode_none A c xs w hr hc hw ⟨k1, k2, k3, k4⟩
theorem refDecode_size (A : Option Addr) (n c : Nat) (w : World) (hn : n ≠ 256) :
    Calls Tryd.prog 23 #[.slice A n c] w fun e w' => e = .returned (.tuple #[zeroV, .int .i64 4]) ∧ Below w.heap.size w w' := by
  have hb : ((n : Int) != 256) = true := by simp; omega
  clear hn
  go_enter Tryd.func23, Tryd.ntmps23
  go_wp2
  exact bodyPost_ret (v := .tuple #[zeroV, .int .i64 4]) (by simp [results, Tryd.results23, go_sem]) rfl ⟨rfl, (Below.refl _ _).alloc (Nat.le_refl _) _⟩
theorem refDecode_sum (A : Option Addr) (c : Nat) (xs : List UInt8) (w : World) (hr : Rd w A 256 xs) (hc : 256 ≤ c) (hw : num (xs.take 4) 0 ≠ csum (xs.drop 4)) :
    Calls Tryd.prog 23 #[.slice A 256 c] w fun e w' => e = .returned (.tuple #[zeroV, .int .i64 6]) ∧ Below w.heap.size w w' := by
  have HO := fun o => kept (open_bad4 A c xs (w.alloc o) (hr.alloc o) hc hw)
  clear hr hw
  go_enter Tryd.func23, Tryd.ntmps23
  go_wp2_with fail
  with_reducible refine (HO _).out.mono ?_
  rintro e w1 ⟨A1, n1, c1, rfl, hb⟩
  have hblk := (Blk.new w 34 #[.int .i64 0, .int .u64 0, .int .i64 0, .slice none 0 0, .slice none 0 0, .slice none 0 0, .slice none 0 0]).below hb (by simp)
  have HBB := kept (below_to hb ((Below.refl _ w).alloc (Nat.le_refl _) _))
  have e0 : w1.cell? ⟨w.heap.size, 0, none⟩ = some (.int .i64 0) := hblk.cell 0
  have e1 : w1.cell? ⟨w.heap.size, 1, none⟩ = some (.int .u64 0) := hblk.cell 1
  have e2 : w1.cell? ⟨w.heap.size, 2, none⟩ = some (.int .i64 0) := hblk.cell 2
  have e3 : w1.cell? ⟨w.heap.size, 3, none⟩ = some (.slice none 0 0) := hblk.cell 3
  have e4 : w1.cell? ⟨w.heap.size, 4, none⟩ = some (.slice none 0 0) := hblk.cell 4
  have e5 : w1.cell? ⟨w.heap.size, 5, none⟩ = some (.slice none 0 0) := hblk.cell 5
  have e6 : w1.cell? ⟨w.heap.size, 6, none⟩ = some (.slice none 0 0) := hblk.cell 6
  have f0 := hblk.frozen 0
  have f1 := hblk.frozen 1
  have f2 := hblk.frozen 2
  have f3 := hblk.frozen 3
  have f4 := hblk.frozen 4
  have f5 := hblk.frozen 5
  have f6 := hblk.frozen 6
  have HBL := kept hblk
  clear hb hblk
  go_wp2
  have HB7 := ((((((HBL.out.set_ 0 (.int .i64 0)).set_ 1 (.int .u64 0)).set_ 2 (.int .i64 0)).set_ 3 (.slice none 0 0)).set_ 4 (.slice none 0 0)).set_ 5 (.slice none 0 0)).set_ 6 (.slice none 0 0)
  have HO7 : Only w1 _ w.heap.size := (((((((Only.refl w1 w.heap.size).setCell 0 (.int .i64 0)).setCell 1 (.int .u64 0)).setCell 2 (.int .i64 0)).setCell 3 (.slice none 0 0)).setCell 4 (.slice none 0 0)).setCell 5 (.slice none 0 0)).setCell 6 (.slice none 0 0)
  generalize (((((((w1.setCell ⟨w.heap.size, 0, none⟩ (.int .i64 0)).setCell ⟨w.heap.size, 1, none⟩ (.int .u64 0)).setCell ⟨w.heap.size, 2, none⟩ (.int .i64 0)).setCell ⟨w.heap.size, 3, none⟩ (.slice none 0 0)).setCell ⟨w.heap.size, 4, none⟩ (.slice none 0 0)).setCell ⟨w.heap.size, 5, none⟩ (.slice none 0 0)).setCell ⟨w.heap.size, 6, none⟩ (.slice none 0 0)) = W at HB7 HO7 ⊢
  have v0 : W.cell? ⟨w.heap.size, 0, none⟩ = some (.int .i64 0) := HB7.cell 0
  have v1 : W.cell? ⟨w.heap.size, 1, none⟩ = some (.int .u64 0) := HB7.cell 1
  have v2 : W.cell? ⟨w.heap.size, 2, none⟩ = some (.int .i64 0) := HB7.cell 2
  have v3 : W.cell? ⟨w.heap.size, 3, none⟩ = some (.slice none 0 0) := HB7.cell 3
  have v4 : W.cell? ⟨w.heap.size, 4, none⟩ = some (.slice none 0 0) := HB7.cell 4
  have v5 : W.cell? ⟨w.heap.size, 5, none⟩ = some (.slice none 0 0) := HB7.cell 5
  have v6 : W.cell? ⟨w.heap.size, 6, none⟩ = some (.slice none 0 0) := HB7.cell 6
  exact bodyPost_ret (v := .tuple #[zeroV, .int .i64 6]) (by simp [results, Tryd.results23, go_sem, v0, v1, v2, v3, v4, v5, v6]) rfl ⟨rfl, HO7.below HBB.out HBB.out.size (Nat.le_refl _)⟩
end Go.Proofs.YtfgpkgenahlikaaDoor

namespace Go.Proofs.YtfgpkgenahlikaaDoor
open Go.ChangeShapes Go.WideShapes Go.ChangeAt Go.RowKit
set_option linter.unusedVariables false
set_option linter.unusedSimpArgs false

theorem blank_no (A : Option Addr) (n c : Nat) (xs : List UInt8) (w : World) (hr : Rd w A n xs) (hl : n ≤ 140737488355328) (hz : zeroB xs = false) :
    Calls Tryd.prog 52 #[.slice A n c] w fun e w' => e = .returned (.bool false) ∧ w = w' := by
  have HR := kept hr
  have HX := kept hr.1
  have HZ := kept hz
  clear hr hz
  go_enter Tryd.func52, Tryd.ntmps52
  go_wp2
  go_loop [7] (fun i => ∃ k : Nat, k ≤ n ∧ i = .int .i64 k ∧ Hid (zeroB (xs.take k) = true)) (fun i => n - (intOf i).toNat)
  case atStart => exact ⟨0, by omega, rfl, by show zeroB _ = true; simp [zeroB]⟩
  case round =>
    obtain ⟨k, hk, rfl, HT⟩ := hrel
    by_cases hlt : k < n
    · obtain ⟨a, rfl, hc⟩ := HR.out.2 (by omega)
      have hki : k < xs.length := by rw [HX.out]; exact hlt
      have hcell := hc k hki
      unfold byteV at hcell
      have hx : zeroB (xs.take (k + 1)) = decide (xs[k].toNat = 0) := by
        have ht := HT.out
        unfold zeroB at ht ⊢
        rw [List.take_succ_eq_append_getElem hki, List.all_append, ht, Bool.true_and]
        simp only [List.all_cons, List.all_nil, Bool.and_true]
        rw [Bool.eq_iff_iff]
        simp only [beq_iff_eq, decide_eq_true_eq]
        exact ⟨fun e => by rw [e]; rfl, fun e => UInt8.toNat_inj.1 (by rw [e]; rfl)⟩
      obtain ⟨b, hb⟩ : ∃ b, xs[k].toNat = b := ⟨_, rfl⟩
      rw [hb] at hcell hx
      have HXX := kept hx
      clear hc hb hx
      by_cases hb0 : b = 0
      · subst hb0
        have hcell : w.cell? (a.add k) = some (.int .u8 0) := hcell
        go_wp2
        go_round
        case rel => exact ⟨k + 1, by omega, by go_num, by show _ = _; rw [HXX.out]; rfl⟩
        case measure => simp [intOf]; omega
      · have hne : ((b : Int) != 0) = true := by simp; omega
        go_wp2
        go_ret
        exact ⟨rfl, rfl⟩
    · obtain rfl : k = n := by omega
      have ht := HT.out
      rw [List.take_of_length_le (by rw [HX.out]; omega), HZ.out] at ht
      cases ht
set_option maxRecDepth 100000 in
set_option maxHeartbeats 4000000 in
theorem decode_none (A : Option Addr) (c : Nat) (xs : List UInt8) (w : World) (hr : Rd w A 256 xs) (hc : 256 ≤ c) (hf : Fours w) (hw : num (xs.take 4) 0 = csum (xs.drop 4)) (hd : ∀ P, ¬ DecP (xs.drop 4) P) :
    Calls Tryd.prog 22 #[.slice A 256 c] w fun e w' => e = .returned (.tuple #[zeroV, .int .i64 4]) ∧ Below w.heap.size w w' := by
  have HO := fun o => kept (open_right A 256 c xs (w.alloc o) (hr.alloc o) hc (by omega) (by omega) (hf.alloc o) hw)
  have hyl : (xs.drop 4).length = 252 := by rw [List.length_drop, hr.1]
  obtain ⟨ys, hys⟩ : ∃ ys, xs.drop 4 = ys := ⟨_, rfl⟩
  rw [hys] at HO hd hyl
  simp only [Nat.reduceSub] at HO
  obtain ⟨P, hP⟩ : ∃ P, (rpage ys (0, 0)).1 = P := ⟨_, rfl⟩
  obtain ⟨pos, hpos⟩ : ∃ p, (rpage ys (0, 0)).2.1 = p := ⟨_, rfl⟩
  obtain ⟨err, herr⟩ : ∃ p, (rpage ys (0, 0)).2.2 = p := ⟨_, rfl⟩
  have hst : (rpage ys (0, 0)).2 = (pos, err) := Prod.ext hpos herr
  have hno : ¬ (err = 0 ∧ zeroB (ys.drop pos) = true ∧ rightB P = true) := fun h => hd P ⟨hP, herr.trans h.1, by rw [hpos]; exact h.2.1, h.2.2⟩
  have HP := kept hP
  have HST := kept hst
  have HNO := kept hno
  have HYL := kept hyl
  clear hr hf hw hys hP hst hno hd hpos herr
  go_enter Tryd.func22, Tryd.ntmps22
  go_wp2_with fail
  with_reducible refine (HO _).out.mono ?_
  rintro e w1 ⟨A1, c1, rfl, hown1, hb1⟩
  have HQ1 := kept ((Blk.new w 28 #[.int .i64 0, .int .u64 0, .int .i64 0, .slice none 0 0, .slice none 0 0, .slice none 0 0, .slice none 0 0]).below hb1 (by simp))
  have HB1 := kept (below_to hb1 ((Below.refl _ w).alloc (Nat.le_refl _) _))
  have HNR := kept (newReader_any A1 252 c1 ys w1 (Rd.of_own hown1) (by omega))
  clear hown1 hb1
  go_wp2_with fail
  with_reducible refine HNR.out.mono ?_
  rintro e w2 ⟨r, A2, c2, rfl, hr2, hc2, hrs, hb2⟩
  have HQ2 := kept (HQ1.out.below hb2 HQ1.out.lt)
  have HB2 := kept (below_to hb2 HB1.out)
  have HR2 : Hid (RS w2 r A2 252 c2 ys (0, 0)) := kept ⟨hr2, Nat.zero_le _, .inl rfl, hc2, by omega⟩
  have HNE := kept (show w.heap.size < r from Nat.lt_of_lt_of_le HQ1.out.lt hrs)
  have hRP := read_any r A2 252 c2 ys (0, 0) w2 HR2.out
  rw [HP.out, HST.out] at hRP
  have HRP := kept hRP
  clear hr2 hc2 hrs hb2 hRP
  go_wp2_with fail
  with_reducible refine HRP.out.mono ?_
  rintro e w3 ⟨l, rfl, hsta, hR3, hO3⟩
  obtain ⟨kind, txn, next, a1, n1, k1, a2, n2, k2, a3, n3, k3, a4, n4, k4⟩ := l
  have hp252 : pos ≤ 252 := hR3.2.1
  obtain ⟨m, hm⟩ : ∃ m, 252 - pos = m := ⟨_, rfl⟩
  have hwm : IntKind.i64.wrap (252 - (pos : Int)) = (m : Int) := by
    rw [IntWalk.i64_in _ ⟨by omega, by omega⟩]
    omega
  have hne3 : r ≠ w3.heap.size := by have := hR3.lt; omega
  have HR3 := fun o => kept ((hR3.alloc o))
  have HQ3 := fun o => kept ((HQ2.out.only hO3 (by have := HNE.out; omega)).alloc o)
  have HB3 := fun o => kept ((hO3.below HB2.out HB2.out.size (Nat.le_of_lt HNE.out)).alloc (Nat.le_trans HB2.out.size hO3.size) o)
  have HSTA := kept hsta
  have HG3 := kept (Blk.new w3 28 #[.int .i64 kind, .int .u64 txn, .int .i64 next, .slice a1 n1 k1, .slice a2 n2 k2, .slice a3 n3 k3, .slice a4 n4 k4])
  have HAT := fun o => kept (at_any r A2 252 c2 ys pos err (w3.alloc o) (hR3.alloc o).1)
  have hby := fun o => bytes_any r A2 252 c2 ys (pos, err) m (w3.alloc o) (hR3.alloc o) (by omega)
  obtain ⟨b4, hb4⟩ : ∃ v, (rbytes ys m (pos, err)).1 = v := ⟨_, rfl⟩
  obtain ⟨s4, hs4⟩ : ∃ v, (rbytes ys m (pos, err)).2 = v := ⟨_, rfl⟩
  rw [hb4, hs4] at hby
  have HBY := fun o => kept (hby o)
  have hE : err = 0 ∨ err = 3 := hR3.2.2.1
  have hs3 : err = 3 → s4 = (pos, 3) := fun h => by rw [← hs4, h]; rfl
  have hs0 : err = 0 → s4 = (252, 0) ∧ b4 = ys.drop pos := fun h => by
    subst h
    have hk : pos + m ≤ ys.length := by rw [HYL.out]; omega
    rw [← hs4, ← hb4]
    simp only [rbytes, ne_eq, not_true_eq_false, if_false, hk, if_true]
    exact ⟨by rw [show pos + m = 252 by omega], by unfold part; exact List.take_of_length_le (by rw [List.length_drop, HYL.out]; omega)⟩
  have HS3 := kept hs3
  have HS0 := kept hs0
  have HEE := kept hE
  have HM := kept (show m ≤ 252 by omega)
  clear hsta hR3 hO3 hby hb4 hs4 hE hs3 hs0 hm
  go_wp2_with fail
  with_reducible refine (HAT _).out.mono ?_
  rintro e w4 ⟨rfl, rfl⟩
  go_wp2_with fail
  with_reducible refine (HBY _).out.mono ?_
  rintro e w4 ⟨A4, n4', c4, rfl, hd4, hR4, hO4⟩
  have HON := fun q => kept ((((Onl.one (Only.alloc_ w3 _ r) HR2.out.lt).step hO4 HR2.out.lt).step ((Only.refl w4 r).drewN q) HR2.out.lt) : Onl w2.heap.size w3 (w4.drewN q))
  have HRT := fun q => kept (right_any ⟨kind, txn, next, a1, n1, k1, a2, n2, k2, a3, n3, k3, a4, n4, k4⟩ P (w4.drewN q) (HSTA.out _ (HON q).out))
  have HG4 := fun q => kept (((HG3.out.only hO4 (Ne.symm hne3)).below (below_drewN _ q) (HG3.out.only hO4 (Ne.symm hne3)).lt))
  have HQ4 := fun q => kept ((((HQ3 _).out.only hO4 (by have := HNE.out; omega)).below (below_drewN _ q) ((HQ3 _).out.only hO4 (by have := HNE.out; omega)).lt))
  have HB4 := fun q => kept (below_to (below_drewN _ q) (hO4.below (HB3 _).out (HB3 _).out.size (Nat.le_of_lt HNE.out)))
  have hEN := endR_any r A2 252 c2 ys s4.1 s4.2 w4 hR4.1 (by omega) hR4.2.1
  have HD4 := kept (And.intro hd4.1 hd4.2.2.2)
  clear hd4 hR4 hO4
  rcases HEE.out.symm with hE3 | hE0
  · obtain rfl := HS3.out hE3
    rw [show endE 252 pos 3 = 3 from rfl] at hEN
    have HEN := kept hEN
    clear hE3 hEN hwm
    go_wp2_with fail
    with_reducible refine HEN.out.mono ?_
    rintro e w5 ⟨rfl, hq⟩
    obtain ⟨q, rfl⟩ := hq.out
    clear hq
    have p0 : (w4.drewN q).cell? ⟨w.heap.size, 0, none⟩ = some (.int .i64 0) := (HQ4 q).out.cell 0
    have t0 := (HQ4 q).out.frozen 0
    have p1 : (w4.drewN q).cell? ⟨w.heap.size, 1, none⟩ = some (.int .u64 0) := (HQ4 q).out.cell 1
    have t1 := (HQ4 q).out.frozen 1
    have p2 : (w4.drewN q).cell? ⟨w.heap.size, 2, none⟩ = some (.int .i64 0) := (HQ4 q).out.cell 2
    have t2 := (HQ4 q).out.frozen 2
    have p3 : (w4.drewN q).cell? ⟨w.heap.size, 3, none⟩ = some (.slice none 0 0) := (HQ4 q).out.cell 3
    have t3 := (HQ4 q).out.frozen 3
    have p4 : (w4.drewN q).cell? ⟨w.heap.size, 4, none⟩ = some (.slice none 0 0) := (HQ4 q).out.cell 4
    have t4 := (HQ4 q).out.frozen 4
    have p5 : (w4.drewN q).cell? ⟨w.heap.size, 5, none⟩ = some (.slice none 0 0) := (HQ4 q).out.cell 5
    have t5 := (HQ4 q).out.frozen 5
    have p6 : (w4.drewN q).cell? ⟨w.heap.size, 6, none⟩ = some (.slice none 0 0) := (HQ4 q).out.cell 6
    have t6 := (HQ4 q).out.frozen 6
    go_wp2
    have hb7 := (((((((HQ4 q).out.set_ 0 (.int .i64 0)).set_ 1 (.int .u64 0)).set_ 2 (.int .i64 0)).set_ 3 (.slice none 0 0)).set_ 4 (.slice none 0 0)).set_ 5 (.slice none 0 0)).set_ 6 (.slice none 0 0)
    simp only [List.set_cons_zero, List.set_cons_succ] at hb7
    have ho7 := only7 (w4.drewN q) w.heap.size (.int .i64 0) (.int .u64 0) (.int .i64 0) (.slice none 0 0) (.slice none 0 0) (.slice none 0 0) (.slice none 0 0)
    unfold set7 at ho7
    generalize ((((((((w4.drewN q).setCell ⟨w.heap.size, 0, none⟩ (.int .i64 0)).setCell ⟨w.heap.size, 1, none⟩ (.int .u64 0)).setCell ⟨w.heap.size, 2, none⟩ (.int .i64 0)).setCell ⟨w.heap.size, 3, none⟩ (.slice none 0 0)).setCell ⟨w.heap.size, 4, none⟩ (.slice none 0 0)).setCell ⟨w.heap.size, 5, none⟩ (.slice none 0 0)).setCell ⟨w.heap.size, 6, none⟩ (.slice none 0 0)) = X at hb7 ho7 ⊢
    have x0 : X.cell? ⟨w.heap.size, 0, none⟩ = some (.int .i64 0) := hb7.cell 0
    have x1 : X.cell? ⟨w.heap.size, 1, none⟩ = some (.int .u64 0) := hb7.cell 1
    have x2 : X.cell? ⟨w.heap.size, 2, none⟩ = some (.int .i64 0) := hb7.cell 2
    have x3 : X.cell? ⟨w.heap.size, 3, none⟩ = some (.slice none 0 0) := hb7.cell 3
    have x4 : X.cell? ⟨w.heap.size, 4, none⟩ = some (.slice none 0 0) := hb7.cell 4
    have x5 : X.cell? ⟨w.heap.size, 5, none⟩ = some (.slice none 0 0) := hb7.cell 5
    have x6 : X.cell? ⟨w.heap.size, 6, none⟩ = some (.slice none 0 0) := hb7.cell 6
    exact bodyPost_ret (v := .tuple #[zeroV, .int .i64 4]) (by simp [results, Tryd.results22, go_sem, x0, x1, x2, x3, x4, x5, x6]) rfl ⟨rfl, ho7.below (HB4 q).out (HB4 q).out.size (Nat.le_refl _)⟩
  · obtain ⟨rfl, rfl⟩ := HS0.out hE0
    rw [show endE 252 252 0 = 0 from rfl] at hEN
    have HEN := kept hEN
    have HNO2 : Hid (¬ (zeroB (ys.drop pos) = true ∧ rightB P = true)) := kept (fun h => HNO.out ⟨hE0, h⟩)
    clear hEN hwm hE0
    go_wp2_with fail
    with_reducible refine HEN.out.mono ?_
    rintro e w5 ⟨rfl, hq⟩
    obtain ⟨q, rfl⟩ := hq.out
    clear hq
    have hrd : Rd (w4.drewN q) A4 n4' (ys.drop pos) := HD4.out.1.below (below_drewN _ q)
    have hn4 : n4' ≤ 140737488355328 := by have := HD4.out.2; have := HM.out; omega
    cases hz : zeroB (ys.drop pos) with
    | false =>
      have HBL := kept (blank_no A4 n4' c4 (ys.drop pos) (w4.drewN q) hrd hn4 hz)
      clear hrd hn4 hz
      go_wp2_with fail
      with_reducible refine HBL.out.mono ?_
      rintro e w5 ⟨rfl, rfl⟩
      have p0 : (w4.drewN q).cell? ⟨w.heap.size, 0, none⟩ = some (.int .i64 0) := (HQ4 q).out.cell 0
      have t0 := (HQ4 q).out.frozen 0
      have p1 : (w4.drewN q).cell? ⟨w.heap.size, 1, none⟩ = some (.int .u64 0) := (HQ4 q).out.cell 1
      have t1 := (HQ4 q).out.frozen 1
      have p2 : (w4.drewN q).cell? ⟨w.heap.size, 2, none⟩ = some (.int .i64 0) := (HQ4 q).out.cell 2
      have t2 := (HQ4 q).out.frozen 2
      have p3 : (w4.drewN q).cell? ⟨w.heap.size, 3, none⟩ = some (.slice none 0 0) := (HQ4 q).out.cell 3
      have t3 := (HQ4 q).out.frozen 3
      have p4 : (w4.drewN q).cell? ⟨w.heap.size, 4, none⟩ = some (.slice none 0 0) := (HQ4 q).out.cell 4
      have t4 := (HQ4 q).out.frozen 4
      have p5 : (w4.drewN q).cell? ⟨w.heap.size, 5, none⟩ = some (.slice none 0 0) := (HQ4 q).out.cell 5
      have t5 := (HQ4 q).out.frozen 5
      have p6 : (w4.drewN q).cell? ⟨w.heap.size, 6, none⟩ = some (.slice none 0 0) := (HQ4 q).out.cell 6
      have t6 := (HQ4 q).out.frozen 6
      go_wp2
      have hb7 := (((((((HQ4 q).out.set_ 0 (.int .i64 0)).set_ 1 (.int .u64 0)).set_ 2 (.int .i64 0)).set_ 3 (.slice none 0 0)).set_ 4 (.slice none 0 0)).set_ 5 (.slice none 0 0)).set_ 6 (.slice none 0 0)
      simp only [List.set_cons_zero, List.set_cons_succ] at hb7
      have ho7 := only7 (w4.drewN q) w.heap.size (.int .i64 0) (.int .u64 0) (.int .i64 0) (.slice none 0 0) (.slice none 0 0) (.slice none 0 0) (.slice none 0 0)
      unfold set7 at ho7
      generalize ((((((((w4.drewN q).setCell ⟨w.heap.size, 0, none⟩ (.int .i64 0)).setCell ⟨w.heap.size, 1, none⟩ (.int .u64 0)).setCell ⟨w.heap.size, 2, none⟩ (.int .i64 0)).setCell ⟨w.heap.size, 3, none⟩ (.slice none 0 0)).setCell ⟨w.heap.size, 4, none⟩ (.slice none 0 0)).setCell ⟨w.heap.size, 5, none⟩ (.slice none 0 0)).setCell ⟨w.heap.size, 6, none⟩ (.slice none 0 0)) = X at hb7 ho7 ⊢
      have x0 : X.cell? ⟨w.heap.size, 0, none⟩ = some (.int .i64 0) := hb7.cell 0
      have x1 : X.cell? ⟨w.heap.size, 1, none⟩ = some (.int .u64 0) := hb7.cell 1
      have x2 : X.cell? ⟨w.heap.size, 2, none⟩ = some (.int .i64 0) := hb7.cell 2
      have x3 : X.cell? ⟨w.heap.size, 3, none⟩ = some (.slice none 0 0) := hb7.cell 3
      have x4 : X.cell? ⟨w.heap.size, 4, none⟩ = some (.slice none 0 0) := hb7.cell 4
      have x5 : X.cell? ⟨w.heap.size, 5, none⟩ = some (.slice none 0 0) := hb7.cell 5
      have x6 : X.cell? ⟨w.heap.size, 6, none⟩ = some (.slice none 0 0) := hb7.cell 6
      exact bodyPost_ret (v := .tuple #[zeroV, .int .i64 4]) (by simp [results, Tryd.results22, go_sem, x0, x1, x2, x3, x4, x5, x6]) rfl ⟨rfl, ho7.below (HB4 q).out (HB4 q).out.size (Nat.le_refl _)⟩
    | true =>
      have HBL := kept (blank_yes A4 n4' c4 (ys.drop pos) (w4.drewN q) hrd hn4 hz)
      have hrb : rightB P = false := by
        cases h : rightB P with
        | false => rfl
        | true => exact absurd ⟨hz, h⟩ HNO2.out
      have hrt := (HRT q).out
      rw [hrb] at hrt
      have HRR := kept hrt
      clear hrd hn4 hz hrb hrt
      have y0 : (w4.drewN q).cell? ⟨w3.heap.size, 0, none⟩ = some (.int .i64 kind) := (HG4 q).out.cell 0
      have y1 : (w4.drewN q).cell? ⟨w3.heap.size, 1, none⟩ = some (.int .u64 txn) := (HG4 q).out.cell 1
      have y2 : (w4.drewN q).cell? ⟨w3.heap.size, 2, none⟩ = some (.int .i64 next) := (HG4 q).out.cell 2
      have y3 : (w4.drewN q).cell? ⟨w3.heap.size, 3, none⟩ = some (.slice a1 n1 k1) := (HG4 q).out.cell 3
      have y4 : (w4.drewN q).cell? ⟨w3.heap.size, 4, none⟩ = some (.slice a2 n2 k2) := (HG4 q).out.cell 4
      have y5 : (w4.drewN q).cell? ⟨w3.heap.size, 5, none⟩ = some (.slice a3 n3 k3) := (HG4 q).out.cell 5
      have y6 : (w4.drewN q).cell? ⟨w3.heap.size, 6, none⟩ = some (.slice a4 n4 k4) := (HG4 q).out.cell 6
      go_wp2_with fail
      with_reducible refine HBL.out.mono ?_
      rintro e w5 ⟨rfl, rfl⟩
      go_wp2_with fail
      with_reducible refine HRR.out.mono ?_
      rintro e w6 ⟨rfl, hb6⟩
      have HQ6 := kept ((HQ4 q).out.below hb6 (HQ4 q).out.lt)
      have HB6 := kept (below_to hb6 (HB4 q).out)
      clear hb6 y0 y1 y2 y3 y4 y5 y6
      have p0 : w6.cell? ⟨w.heap.size, 0, none⟩ = some (.int .i64 0) := HQ6.out.cell 0
      have t0 := HQ6.out.frozen 0
      have p1 : w6.cell? ⟨w.heap.size, 1, none⟩ = some (.int .u64 0) := HQ6.out.cell 1
      have t1 := HQ6.out.frozen 1
      have p2 : w6.cell? ⟨w.heap.size, 2, none⟩ = some (.int .i64 0) := HQ6.out.cell 2
      have t2 := HQ6.out.frozen 2
      have p3 : w6.cell? ⟨w.heap.size, 3, none⟩ = some (.slice none 0 0) := HQ6.out.cell 3
      have t3 := HQ6.out.frozen 3
      have p4 : w6.cell? ⟨w.heap.size, 4, none⟩ = some (.slice none 0 0) := HQ6.out.cell 4
      have t4 := HQ6.out.frozen 4
      have p5 : w6.cell? ⟨w.heap.size, 5, none⟩ = some (.slice none 0 0) := HQ6.out.cell 5
      have t5 := HQ6.out.frozen 5
      have p6 : w6.cell? ⟨w.heap.size, 6, none⟩ = some (.slice none 0 0) := HQ6.out.cell 6
      have t6 := HQ6.out.frozen 6
      go_wp2
      have hb7 := ((((((HQ6.out.set_ 0 (.int .i64 0)).set_ 1 (.int .u64 0)).set_ 2 (.int .i64 0)).set_ 3 (.slice none 0 0)).set_ 4 (.slice none 0 0)).set_ 5 (.slice none 0 0)).set_ 6 (.slice none 0 0)
      simp only [List.set_cons_zero, List.set_cons_succ] at hb7
      have ho7 := only7 w6 w.heap.size (.int .i64 0) (.int .u64 0) (.int .i64 0) (.slice none 0 0) (.slice none 0 0) (.slice none 0 0) (.slice none 0 0)
      unfold set7 at ho7
      generalize (((((((w6.setCell ⟨w.heap.size, 0, none⟩ (.int .i64 0)).setCell ⟨w.heap.size, 1, none⟩ (.int .u64 0)).setCell ⟨w.heap.size, 2, none⟩ (.int .i64 0)).setCell ⟨w.heap.size, 3, none⟩ (.slice none 0 0)).setCell ⟨w.heap.size, 4, none⟩ (.slice none 0 0)).setCell ⟨w.heap.size, 5, none⟩ (.slice none 0 0)).setCell ⟨w.heap.size, 6, none⟩ (.slice none 0 0)) = X at hb7 ho7 ⊢
      have x0 : X.cell? ⟨w.heap.size, 0, none⟩ = some (.int .i64 0) := hb7.cell 0
      have x1 : X.cell? ⟨w.heap.size, 1, none⟩ = some (.int .u64 0) := hb7.cell 1
      have x2 : X.cell? ⟨w.heap.size, 2, none⟩ = some (.int .i64 0) := hb7.cell 2
      have x3 : X.cell? ⟨w.heap.size, 3, none⟩ = some (.slice none 0 0) := hb7.cell 3
      have x4 : X.cell? ⟨w.heap.size, 4, none⟩ = some (.slice none 0 0) := hb7.cell 4
      have x5 : X.cell? ⟨w.heap.size, 5, none⟩ = some (.slice none 0 0) := hb7.cell 5
      have x6 : X.cell? ⟨w.heap.size, 6, none⟩ = some (.slice none 0 0) := hb7.cell 6
      exact bodyPost_ret (v := .tuple #[zeroV, .int .i64 4]) (by simp [results, Tryd.results22, go_sem, x0, x1, x2, x3, x4, x5, x6]) rfl ⟨rfl, ho7.below HB6.out HB6.out.size (Nat.le_refl _)⟩
end Go.Proofs.YtfgpkgenahlikaaDoor

namespace Go.Proofs.YtfgpkgenahlikaaDoor
open Go.ChangeShapes Go.WideShapes Go.ChangeAt Go.RowKit
set_option linter.unusedVariables false
set_option linter.unusedSimpArgs false

/-- A Decode that answers this page and this error. -/
def Decs (w : World) (P : Pg) (er : Int) (e : Ending) (w' : World) : Prop :=
  ∃ l : Lay, e = .returned (.tuple #[l.val, .int .i64 er]) ∧ Hid (RdPg w' l P) ∧ (l.n1 ≤ 1000 ∧ l.n2 ≤ 1000) ∧ Below w.heap.size w w'
theorem both_decode (n : Nat) (ys : List UInt8) (hy : ys.length = n) :
    ∃ (P : Pg) (er : Int), (∀ (w : World) (A : Option Addr) (c : Nat), Fours w → Rd w A n ys → n ≤ c → Calls Tryd.prog 22 #[.slice A n c] w (Decs w P er)) ∧
      (∀ (w : World) (A : Option Addr) (c : Nat), Rd w A n ys → n ≤ c → Calls Tryd.prog 23 #[.slice A n c] w (Decs w P er)) := by
  have hz : ∀ (w : World) (er : Int) (e : Ending) (w' : World), e = .returned (.tuple #[zeroV, .int .i64 er]) ∧ Below w.heap.size w w' → Decs w zeroPg er e w' := fun w er e w' h => ⟨zeroLay, h.1, kept (zero_rd w'), ⟨Nat.zero_le _, Nat.zero_le _⟩, h.2⟩
  by_cases hn : n = 256
  · subst hn
    by_cases hw : num (ys.take 4) 0 = csum (ys.drop 4)
    · by_cases hd : ∃ P, DecP (ys.drop 4) P
      · obtain ⟨P, hP⟩ := hd
        have hl : (ys.drop 4).length = 252 := by rw [List.length_drop, hy]
        obtain ⟨hb, hrp, t0, t1⟩ := body_is hl hP
        obtain ⟨r1, r2, r3, r4⟩ := right_parts hP.2.2.2
        have hcnt := cntP_le r4
        unfold cntP at hcnt
        refine ⟨P, 0, fun w A c hf hr hc => (decode_right A c ys P w hr hc hf hw hP).mono ?_, fun w A c hr hc => (refDecode_body A c ys w hr hc hw).mono ?_⟩
        · rintro e w' ⟨l, he, hrd, hbl⟩
          have h1 := hrd.out.n1
          have h2 := hrd.out.n2
          exact ⟨l, he, hrd, ⟨by omega, by omega⟩, hbl⟩
        · rintro e w' ⟨hbl, h⟩
          rw [hrp] at h
          rcases h with ⟨_, l, he, hrd, h1, h2, h4⟩ | ⟨hno, _⟩
          · exact ⟨l, he, hrd, ⟨h1, h2⟩, hbl⟩
          · exact absurd ⟨hP.2.2.2, hb⟩ hno
      · have hd' : ∀ P, ¬ DecP (ys.drop 4) P := fun P h => hd ⟨P, h⟩
        refine ⟨zeroPg, 4, fun w A c hf hr hc => (decode_none A c ys w hr hc hf hw hd').mono fun e w' h => hz w 4 e w' h, fun w A c hr hc => (refDecode_body A c ys w hr hc hw).mono ?_⟩
        rintro e w' ⟨hbl, ⟨⟨h1, h2⟩, l, _, hrd, _⟩ | ⟨_, he⟩⟩
        · have h3 := body_reads h1 hrd.out.t0 hrd.out.t1
          rw [h2] at h3
          exact absurd h3 (hd' _)
        · exact hz w 4 e w' ⟨he, hbl⟩
    · exact ⟨zeroPg, 6, fun w A c hf hr hc => (decode_sum A c ys w hr hc hf hw).mono fun e w' h => hz w 6 e w' h, fun w A c hr hc => (refDecode_sum A c ys w hr hc hw).mono fun e w' h => hz w 6 e w' h⟩
  · exact ⟨zeroPg, 4, fun w A c hf hr hc => (decode_size A n c w hn).mono fun e w' h => hz w 4 e w' h, fun w A c hr hc => (refDecode_size A n c w hn).mono fun e w' h => hz w 4 e w' h⟩
end Go.Proofs.YtfgpkgenahlikaaDoor

namespace Go.Proofs.YtfgpkgenahlikaaDoor.pageReads
open Go.ChangeShapes Go.WideShapes Go.ChangeAt Go.RowKit
set_option linter.unusedVariables false
set_option linter.unusedSimpArgs false

theorem bel_to {a b c : World} (h : Below b.heap.size b c) (k : Below a.heap.size a b) : Below a.heap.size a c := below_to h k
/-- A world in which a slice reads so and what was there stands. -/
def Here (W w : World) (A : Option Addr) (n c : Nat) (xs : List UInt8) : Prop := Rd w A n xs ∧ n ≤ c ∧ Below W.heap.size W w
set_option maxRecDepth 100000 in
set_option maxHeartbeats 8000000 in
theorem walk (W : World) (hF : Fours W) (A : Option Addr) (n c : Nat) (xs : List UInt8) (rd : Rd W A n xs) (hc : n ≤ c) (hl : n ≤ 140737488351232) (sb : Bool) :
    Calls Tryd.prog 4 #[.slice A n c, .bool sb] W fun e w' => e = .returned (.bool true) ∧ Below W.heap.size W w' := by
  have HF := kept hF
  have HL0 := kept (lives_any W hF)
  have HLV := fun w h => kept (lives_any w h)
  have HR := kept rd
  by_cases h1 : 1000 < n
  · have hg : decide ((1000 : Int) < (n : Int)) = true := by simp; omega
    clear rd hF h1
    go_enter Tryd.func4, Tryd.ntmps4
    go_wp2_with fail
    with_reducible refine HL0.out.mono ?_
    rintro e w1 ⟨rfl, hb⟩
    have HB1 := kept hb
    have HL1 := HLV _ (HF.out.below hb)
    clear hb
    go_wp2_with fail
    with_reducible refine HL1.out.mono ?_
    rintro e w2 ⟨rfl, hb⟩
    have HB2 := kept (bel_to hb HB1.out)
    clear hb
    go_wp2
    go_ret
    exact ⟨rfl, HB2.out⟩
  have hg : decide ((1000 : Int) < (n : Int)) = false := by simp; omega
  have HRX : ∀ (w : World) (A1 : Option Addr) (n1 c1 : Nat) (ys : List UInt8), Hid (Here W w A1 n1 c1 ys) → n1 ≤ 2000 →
      Hid (Calls Tryd.prog 21 #[.slice A1 n1 c1] w fun e w' => ∃ A2 c2, e = .returned (.slice A2 n1 c2) ∧ Hid (Rd w' A2 n1 ys ∧ n1 ≤ c2 ∧ Rd w' A1 n1 ys ∧ Below W.heap.size W w')) := fun w A1 n1 c1 ys h hn => kept ((twin_any A1 n1 c1 ys w h.out.1 (by omega)).mono (by
    rintro e w' ⟨A2, c2, he, ho, hb⟩
    exact ⟨A2, c2, he, kept ⟨Rd.of_own ho, own_cap ho, h.out.1.below hb, bel_to hb h.out.2.2⟩⟩))
  have HSE := fun w h => kept (refSeal_any A n c xs w h hl)
  go_enter Tryd.func4, Tryd.ntmps4
  go_wp2_with fail
  with_reducible refine HL0.out.mono ?_
  rintro e w1 ⟨rfl, hb⟩
  have HB1 := kept hb
  have HR1 := kept (rd.below hb)
  have HH1 : Hid (Here W w1 A n c xs) := kept ⟨rd.below hb, hc, hb⟩
  have hxn : xs.length = n := rd.1
  clear hb rd hF
  cases sb
  · have HTW := HRX w1 A n c xs HH1 (by omega)
    have HCC := kept hc
    obtain ⟨P, er, hD, hE⟩ := both_decode n xs hxn
    clear HRX HSE hxn
    go_wp2_with fail
    with_reducible refine HTW.out.mono ?_
    rintro e w2 ⟨A2, cc2, rfl, h2⟩
    have HD := kept (hD w2 A2 cc2 (HF.out.below h2.out.2.2.2) h2.out.1 h2.out.2.1)
    have HE := fun w h => kept (hE w A c h HCC.out)
    have HB2 := kept h2.out.2.2.2
    have HRA := kept h2.out.2.2.1
    have HRB := kept h2.out.1
    clear h2 hD hE
    go_wp2_with fail
    with_reducible refine HD.out.mono ?_
    rintro e w3 ⟨⟨kd, tx, nx, a1, n1, c1, a2, n2, c2, a3, n3, c3, a4, n4, c4⟩, rfl, hrd, hn, hb⟩
    have HB3 := fun o => kept ((bel_to hb HB2.out).alloc (bel_to hb HB2.out).size o)
    have HRA3 := fun o => kept ((HRA.out.below hb).alloc o)
    have HRB3 := fun o => kept ((HRB.out.below hb).alloc o)
    have HRP3 := fun o => kept (hrd.out.below ((Below.refl _ w3).alloc (Nat.le_refl _) o))
    have HN3 := kept hn
    have HE3 := fun o => HE _ (HRA3 o).out
    have HS3 := kept (fun X hX => sev_box w3 kd tx nx a1 n1 c1 a2 n2 c2 a3 n3 c3 a4 n4 c4 (t := 28) (X := X) hX)
    clear hb HD HE hrd hn
    go_wp2_with fail
    with_reducible refine (HE3 _).out.mono ?_
    rintro e w4 ⟨⟨kq, tq, xq, p1, m1, d1, p2, m2, d2, p3, m3, d3, p4, m4, d4⟩, rfl, hrq, hn, hb⟩
    have HB4 := kept ((bel_to hb (HB3 _).out).alloc (bel_to hb (HB3 _).out).size (.cells #[.int .i64 kq, .int .u64 tq, .int .i64 xq, .slice p1 m1 d1, .slice p2 m2 d2, .slice p3 m3 d3, .slice p4 m4 d4] 34))
    have HRA4 := kept (((HRA3 _).out.below hb).alloc (.cells #[.int .i64 kq, .int .u64 tq, .int .i64 xq, .slice p1 m1 d1, .slice p2 m2 d2, .slice p3 m3 d3, .slice p4 m4 d4] 34))
    have HRB4 := kept (((HRB3 _).out.below hb).alloc (.cells #[.int .i64 kq, .int .u64 tq, .int .i64 xq, .slice p1 m1 d1, .slice p2 m2 d2, .slice p3 m3 d3, .slice p4 m4 d4] 34))
    have HRP4 := kept (((HRP3 _).out.below hb).below ((Below.refl _ w4).alloc (Nat.le_refl _) (.cells #[.int .i64 kq, .int .u64 tq, .int .i64 xq, .slice p1 m1 d1, .slice p2 m2 d2, .slice p3 m3 d3, .slice p4 m4 d4] 34)))
    have HRQ4 := kept (hrq.out.below ((Below.refl _ w4).alloc (Nat.le_refl _) (.cells #[.int .i64 kq, .int .u64 tq, .int .i64 xq, .slice p1 m1 d1, .slice p2 m2 d2, .slice p3 m3 d3, .slice p4 m4 d4] 34)))
    have HS4 : Hid (Sev (w4.alloc (.cells #[.int .i64 kq, .int .u64 tq, .int .i64 xq, .slice p1 m1 d1, .slice p2 m2 d2, .slice p3 m3 d3, .slice p4 m4 d4] 34)) w3.heap.size kd tx nx a1 n1 c1 a2 n2 c2 a3 n3 c3 a4 n4 c4 ∧ Sev (w4.alloc (.cells #[.int .i64 kq, .int .u64 tq, .int .i64 xq, .slice p1 m1 d1, .slice p2 m2 d2, .slice p3 m3 d3, .slice p4 m4 d4] 34)) w4.heap.size kq tq xq p1 m1 d1 p2 m2 d2 p3 m3 d3 p4 m4 d4) := kept ⟨HS3.out _ (hb.trans ((Below.refl _ w4).alloc hb.size (.cells #[.int .i64 kq, .int .u64 tq, .int .i64 xq, .slice p1 m1 d1, .slice p2 m2 d2, .slice p3 m3 d3, .slice p4 m4 d4] 34))), sev_box w4 kq tq xq p1 m1 d1 p2 m2 d2 p3 m3 d3 p4 m4 d4 (t := 34) (Below.refl _ _)⟩
    clear hb hrq hn
    go_wp2_with fail
    generalize w3.heap.size = g3 at HS4 ⊢
    generalize w4.heap.size = g4 at HS4 ⊢
    generalize (w4.alloc (.cells #[.int .i64 kq, .int .u64 tq, .int .i64 xq, .slice p1 m1 d1, .slice p2 m2 d2, .slice p3 m3 d3, .slice p4 m4 d4] 34)) = w5 at HS4 HB4 HRA4 HRB4 HRP4 HRQ4 ⊢
    have HSJ : Hid (∀ X, Below w5.heap.size w5 X → Sev X g3 kd tx nx a1 n1 c1 a2 n2 c2 a3 n3 c3 a4 n4 c4 ∧ Sev X g4 kq tq xq p1 m1 d1 p2 m2 d2 p3 m3 d3 p4 m4 d4) := kept (fun X hX => ⟨sev_below HS4.out.1 hX, sev_below HS4.out.2 hX⟩)
    have HOF := fun (X : World) (hX : Below w5.heap.size w5 X) => kept (of_any ⟨kd, tx, nx, a1, n1, c1, a2, n2, c2, a3, n3, c3, a4, n4, c4⟩ P X (HRP4.out.below hX) HN3.out.1 HN3.out.2)
    refine wp_region_held_drew (S := (fun W' => Sev W' g3 kd tx nx a1 n1 c1 a2 n2 c2 a3 n3 c3 a4 n4 c4 ∧ Sev W' g4 kq tq xq p1 m1 d1 p2 m2 d2 p3 m3 d3 p4 m4 d4)) (by kernel_rfl) ?_ (fun hHeld => ?_)
    · ((try dsimp only); (first | exact HSJ.out _ (Below.refl _ _) | exact HSJ.out _ (Below.refl _ _).drew | exact HSJ.out _ HK7.out | exact HSJ.out _ HK6.out))
    refine hand_take 0 (some 33) ?_ (by kernel_rfl) (by kernel_rfl) (by kernel_rfl) (by kernel_rfl) (by kernel_rfl) (fun _ _ _ h => h) ?_ (by assumption) ?_
    rotate_left
    · (intro o ho w hSw; (simp only [List.getElem?_toArray, List.getElem?_cons_succ, List.getElem?_cons_zero, Option.some.injEq] at ho); subst ho; (try dsimp only at hSw); go_simp; (first | done | with_reducible rfl))
    (try simp only [Act.put, List.setIfInBounds_toArray, List.set_cons_zero, List.set_cons_succ])
    refine hand_take 1 (some 34) ?_ (by kernel_rfl) (by kernel_rfl) (by kernel_rfl) (by kernel_rfl) (by kernel_rfl) (fun _ _ _ h => h) ?_ (by assumption) ?_
    rotate_left
    · (intro o ho w hSw; (simp only [List.getElem?_toArray, List.getElem?_cons_succ, List.getElem?_cons_zero, Option.some.injEq] at ho); subst ho; (try dsimp only at hSw); go_simp; (first | done | with_reducible rfl))
    (try simp only [Act.put, List.setIfInBounds_toArray, List.set_cons_zero, List.set_cons_succ])
    refine hand_take 2 (some 35) ?_ (by kernel_rfl) (by kernel_rfl) (by kernel_rfl) (by kernel_rfl) (by kernel_rfl) (fun _ _ _ h => h) ?_ (by assumption) ?_
    rotate_left
    · (intro o ho w hSw; (simp only [List.getElem?_toArray, List.getElem?_cons_succ, List.getElem?_cons_zero, Option.some.injEq] at ho); subst ho; (try dsimp only at hSw); go_simp; (first | done | with_reducible rfl))
    (try simp only [Act.put, List.setIfInBounds_toArray, List.set_cons_zero, List.set_cons_succ])
    refine hand_take 3 (some 36) ?_ (by kernel_rfl) (by kernel_rfl) (by kernel_rfl) (by kernel_rfl) (by kernel_rfl) (fun _ _ _ h => h) ?_ (by assumption) ?_
    rotate_left
    · (intro o ho w hSw; (simp only [List.getElem?_toArray, List.getElem?_cons_succ, List.getElem?_cons_zero, Option.some.injEq] at ho); subst ho; (try dsimp only at hSw); go_simp; (first | done | with_reducible rfl))
    (try simp only [Act.put, List.setIfInBounds_toArray, List.set_cons_zero, List.set_cons_succ])
    refine hand_take 4 (some 37) ?_ (by kernel_rfl) (by kernel_rfl) (by kernel_rfl) (by kernel_rfl) (by kernel_rfl) (fun _ _ _ h => h) ?_ (by assumption) ?_
    rotate_left
    · (intro o ho w hSw; (simp only [List.getElem?_toArray, List.getElem?_cons_succ, List.getElem?_cons_zero, Option.some.injEq] at ho); subst ho; (try dsimp only at hSw); go_simp; (first | done | with_reducible rfl))
    (try simp only [Act.put, List.setIfInBounds_toArray, List.set_cons_zero, List.set_cons_succ])
    refine hand_take 6 (some 39) ?_ (by kernel_rfl) (by kernel_rfl) (by kernel_rfl) (by kernel_rfl) (by kernel_rfl) (fun _ _ _ h => h) ?_ (by assumption) ?_
    rotate_left
    · (intro o ho w hSw; (simp only [List.getElem?_toArray, List.getElem?_cons_succ, List.getElem?_cons_zero, Option.some.injEq] at ho); subst ho; (try dsimp only at hSw); go_simp; (first | done | with_reducible rfl))
    (try simp only [Act.put, List.setIfInBounds_toArray, List.set_cons_zero, List.set_cons_succ])
    refine hand_ready 5 (by kernel_rfl) (by kernel_rfl) (fun o ho K hK => ?_)
    (simp only [List.getElem?_toArray, List.getElem?_cons_succ, List.getElem?_cons_zero, Option.some.injEq] at ho)
    subst ho
    go_simp
    ((go_at_call 13; (with_reducible refine (HOF _ (Below.refl _ _).drew).out.mono ?_); rintro e w6 ⟨lo, rfl, hro, _, _, _, _, hb6⟩); have HK6 : Hid (Below w5.heap.size w5 w6) := kept (below_of_drew1 hb6); have HSP := kept (sameP_any lo ⟨kq, tq, xq, p1, m1, d1, p2, m2, d2, p3, m3, d3, p4, m4, d4⟩ P P _ hro (HRQ4.out.below HK6.out) true (by simp)); clear hb6 hro)
    (try go_wp2_with fail)
    refine hK.out _ _ ?_ (fun hHeld => ?_)
    · ((try dsimp only); (first | exact HSJ.out _ (Below.refl _ _) | exact HSJ.out _ (Below.refl _ _).drew | exact HSJ.out _ HK7.out | exact HSJ.out _ HK6.out))
    clear hK K
    (try simp only [Act.put, List.setIfInBounds_toArray, List.set_cons_zero, List.set_cons_succ])
    refine hand_ready 7 (by kernel_rfl) (by kernel_rfl) (fun o ho K hK => ?_)
    (simp only [List.getElem?_toArray, List.getElem?_cons_succ, List.getElem?_cons_zero, Option.some.injEq] at ho)
    subst ho
    go_simp
    ((go_at_call 17; (with_reducible refine HSP.out.mono ?_); rintro e w7 ⟨rfl, hb7⟩); have HK7 : Hid (Below w5.heap.size w5 w7) := kept (below_to hb7 HK6.out); have HSM := kept (same_any A2 A n n cc2 c xs xs w7 (HRB4.out.below HK7.out) (HRA4.out.below HK7.out) true (by simp)); clear hb7)
    (try go_wp2_with fail)
    refine hK.out _ _ ?_ (fun hHeld => ?_)
    · ((try dsimp only); (first | exact HSJ.out _ (Below.refl _ _) | exact HSJ.out _ (Below.refl _ _).drew | exact HSJ.out _ HK7.out | exact HSJ.out _ HK6.out))
    clear hK K
    (try simp only [Act.put, List.setIfInBounds_toArray, List.set_cons_zero, List.set_cons_succ])
    refine hand_take 8 (some 41) ?_ (by kernel_rfl) (by kernel_rfl) (by kernel_rfl) (by kernel_rfl) (by kernel_rfl) (fun _ _ _ h => h) ?_ (by assumption) ?_
    rotate_left
    · (intro o ho w hSw; (simp only [List.getElem?_toArray, List.getElem?_cons_succ, List.getElem?_cons_zero, Option.some.injEq] at ho); subst ho; (try dsimp only at hSw); go_simp; (first | done | with_reducible rfl))
    (try simp only [Act.put, List.setIfInBounds_toArray, List.set_cons_zero, List.set_cons_succ])
    refine hand_take 9 (some 42) ?_ (by kernel_rfl) (by kernel_rfl) (by kernel_rfl) (by kernel_rfl) (by kernel_rfl) (fun _ _ _ h => h) ?_ (by assumption) ?_
    rotate_left
    · (intro o ho w hSw; (simp only [List.getElem?_toArray, List.getElem?_cons_succ, List.getElem?_cons_zero, Option.some.injEq] at ho); subst ho; (try dsimp only at hSw); go_simp; (first | done | with_reducible rfl))
    (try simp only [Act.put, List.setIfInBounds_toArray, List.set_cons_zero, List.set_cons_succ])
    refine hand_take 10 (some 43) ?_ (by kernel_rfl) (by kernel_rfl) (by kernel_rfl) (by kernel_rfl) (by kernel_rfl) (fun _ _ _ h => h) ?_ (by assumption) ?_
    rotate_left
    · (intro o ho w hSw; (simp only [List.getElem?_toArray, List.getElem?_cons_succ, List.getElem?_cons_zero, Option.some.injEq] at ho); subst ho; (try dsimp only at hSw); go_simp; (first | done | with_reducible rfl))
    (try simp only [Act.put, List.setIfInBounds_toArray, List.set_cons_zero, List.set_cons_succ])
    refine hand_take 11 (some 44) ?_ (by kernel_rfl) (by kernel_rfl) (by kernel_rfl) (by kernel_rfl) (by kernel_rfl) (fun _ _ _ h => h) ?_ (by assumption) ?_
    rotate_left
    · (intro o ho w hSw; (simp only [List.getElem?_toArray, List.getElem?_cons_succ, List.getElem?_cons_zero, Option.some.injEq] at ho); subst ho; (try dsimp only at hSw); go_simp; (first | done | with_reducible rfl))
    (try simp only [Act.put, List.setIfInBounds_toArray, List.set_cons_zero, List.set_cons_succ])
    refine hand_ready 12 (by kernel_rfl) (by kernel_rfl) (fun o ho K hK => ?_)
    (simp only [List.getElem?_toArray, List.getElem?_cons_succ, List.getElem?_cons_zero, Option.some.injEq] at ho)
    subst ho
    go_simp
    (go_at_call 18; (with_reducible refine HSM.out.mono ?_); rintro e w8 ⟨rfl, rfl⟩)
    (try go_wp2_with fail)
    refine hK.out _ _ ?_ (fun hHeld => ?_)
    · ((try dsimp only); (first | exact HSJ.out _ (Below.refl _ _) | exact HSJ.out _ (Below.refl _ _).drew | exact HSJ.out _ HK7.out | exact HSJ.out _ HK6.out))
    clear hK K
    (try simp only [Act.put, List.setIfInBounds_toArray, List.set_cons_zero, List.set_cons_succ])
    refine hand_take 13 (some 46) ?_ (by kernel_rfl) (by kernel_rfl) (by kernel_rfl) (by kernel_rfl) (by kernel_rfl) (fun _ _ _ h => h) ?_ (by assumption) ?_
    rotate_left
    · (intro o ho w hSw; (simp only [List.getElem?_toArray, List.getElem?_cons_succ, List.getElem?_cons_zero, Option.some.injEq] at ho); subst ho; (try dsimp only at hSw); go_simp; (first | done | with_reducible rfl))
    (try simp only [Act.put, List.setIfInBounds_toArray, List.set_cons_zero, List.set_cons_succ])
    refine hand_take 14 (some 4) ?_ (by kernel_rfl) (by kernel_rfl) (by kernel_rfl) (by kernel_rfl) (by kernel_rfl) (fun _ _ _ h => h) ?_ (by assumption) ?_
    rotate_left
    · (intro o ho w hSw; (simp only [List.getElem?_toArray, List.getElem?_cons_succ, List.getElem?_cons_zero, Option.some.injEq] at ho); subst ho; (try dsimp only at hSw); go_simp; (first | done | with_reducible rfl))
    (try simp only [Act.put, List.setIfInBounds_toArray, List.set_cons_zero, List.set_cons_succ])
    refine wpAnyH_done (by kernel_rfl) ?_ _
    go_wp2
    go_ret
    exact ⟨rfl, bel_to HK7.out HB4.out⟩
  · have HS1 := HSE w1 HR1.out
    clear HSE
    go_wp2_with fail
    with_reducible refine HS1.out.mono ?_
    rintro e w1' ⟨A1, cc1, rfl, hown, hb⟩
    have hn4 : 4 + n ≤ 2000 := by omega
    have HTW := HRX w1' A1 (4 + n) cc1 (sealed xs) (kept ⟨Rd.of_own hown, own_cap hown, bel_to hb HB1.out⟩) hn4
    have HCC := kept (own_cap hown)
    obtain ⟨P, er, hD, hE⟩ := both_decode (4 + n) (sealed xs) (by rw [sealed_length, hxn])
    clear HRX hown hb hn4 hxn
    go_wp2_with fail
    with_reducible refine HTW.out.mono ?_
    rintro e w2 ⟨A2, cc2, rfl, h2⟩
    have HD := kept (hD w2 A2 cc2 (HF.out.below h2.out.2.2.2) h2.out.1 h2.out.2.1)
    have HE := fun w h => kept (hE w A1 cc1 h HCC.out)
    have HB2 := kept h2.out.2.2.2
    have HRA := kept h2.out.2.2.1
    have HRB := kept h2.out.1
    clear h2 hD hE
    go_wp2_with fail
    with_reducible refine HD.out.mono ?_
    rintro e w3 ⟨⟨kd, tx, nx, a1, n1, c1, a2, n2, c2, a3, n3, c3, a4, n4, c4⟩, rfl, hrd, hn, hb⟩
    have HB3 := fun o => kept ((bel_to hb HB2.out).alloc (bel_to hb HB2.out).size o)
    have HRA3 := fun o => kept ((HRA.out.below hb).alloc o)
    have HRB3 := fun o => kept ((HRB.out.below hb).alloc o)
    have HRP3 := fun o => kept (hrd.out.below ((Below.refl _ w3).alloc (Nat.le_refl _) o))
    have HN3 := kept hn
    have HE3 := fun o => HE _ (HRA3 o).out
    have HS3 := kept (fun X hX => sev_box w3 kd tx nx a1 n1 c1 a2 n2 c2 a3 n3 c3 a4 n4 c4 (t := 28) (X := X) hX)
    clear hb HD HE hrd hn
    go_wp2_with fail
    with_reducible refine (HE3 _).out.mono ?_
    rintro e w4 ⟨⟨kq, tq, xq, p1, m1, d1, p2, m2, d2, p3, m3, d3, p4, m4, d4⟩, rfl, hrq, hn, hb⟩
    have HB4 := kept ((bel_to hb (HB3 _).out).alloc (bel_to hb (HB3 _).out).size (.cells #[.int .i64 kq, .int .u64 tq, .int .i64 xq, .slice p1 m1 d1, .slice p2 m2 d2, .slice p3 m3 d3, .slice p4 m4 d4] 34))
    have HRA4 := kept (((HRA3 _).out.below hb).alloc (.cells #[.int .i64 kq, .int .u64 tq, .int .i64 xq, .slice p1 m1 d1, .slice p2 m2 d2, .slice p3 m3 d3, .slice p4 m4 d4] 34))
    have HRB4 := kept (((HRB3 _).out.below hb).alloc (.cells #[.int .i64 kq, .int .u64 tq, .int .i64 xq, .slice p1 m1 d1, .slice p2 m2 d2, .slice p3 m3 d3, .slice p4 m4 d4] 34))
    have HRP4 := kept (((HRP3 _).out.below hb).below ((Below.refl _ w4).alloc (Nat.le_refl _) (.cells #[.int .i64 kq, .int .u64 tq, .int .i64 xq, .slice p1 m1 d1, .slice p2 m2 d2, .slice p3 m3 d3, .slice p4 m4 d4] 34)))
    have HRQ4 := kept (hrq.out.below ((Below.refl _ w4).alloc (Nat.le_refl _) (.cells #[.int .i64 kq, .int .u64 tq, .int .i64 xq, .slice p1 m1 d1, .slice p2 m2 d2, .slice p3 m3 d3, .slice p4 m4 d4] 34)))
    have HS4 : Hid (Sev (w4.alloc (.cells #[.int .i64 kq, .int .u64 tq, .int .i64 xq, .slice p1 m1 d1, .slice p2 m2 d2, .slice p3 m3 d3, .slice p4 m4 d4] 34)) w3.heap.size kd tx nx a1 n1 c1 a2 n2 c2 a3 n3 c3 a4 n4 c4 ∧ Sev (w4.alloc (.cells #[.int .i64 kq, .int .u64 tq, .int .i64 xq, .slice p1 m1 d1, .slice p2 m2 d2, .slice p3 m3 d3, .slice p4 m4 d4] 34)) w4.heap.size kq tq xq p1 m1 d1 p2 m2 d2 p3 m3 d3 p4 m4 d4) := kept ⟨HS3.out _ (hb.trans ((Below.refl _ w4).alloc hb.size (.cells #[.int .i64 kq, .int .u64 tq, .int .i64 xq, .slice p1 m1 d1, .slice p2 m2 d2, .slice p3 m3 d3, .slice p4 m4 d4] 34))), sev_box w4 kq tq xq p1 m1 d1 p2 m2 d2 p3 m3 d3 p4 m4 d4 (t := 34) (Below.refl _ _)⟩
    clear hb hrq hn
    go_wp2_with fail
    generalize w3.heap.size = g3 at HS4 ⊢
    generalize w4.heap.size = g4 at HS4 ⊢
    generalize (w4.alloc (.cells #[.int .i64 kq, .int .u64 tq, .int .i64 xq, .slice p1 m1 d1, .slice p2 m2 d2, .slice p3 m3 d3, .slice p4 m4 d4] 34)) = w5 at HS4 HB4 HRA4 HRB4 HRP4 HRQ4 ⊢
    have HSJ : Hid (∀ X, Below w5.heap.size w5 X → Sev X g3 kd tx nx a1 n1 c1 a2 n2 c2 a3 n3 c3 a4 n4 c4 ∧ Sev X g4 kq tq xq p1 m1 d1 p2 m2 d2 p3 m3 d3 p4 m4 d4) := kept (fun X hX => ⟨sev_below HS4.out.1 hX, sev_below HS4.out.2 hX⟩)
    have HOF := fun (X : World) (hX : Below w5.heap.size w5 X) => kept (of_any ⟨kd, tx, nx, a1, n1, c1, a2, n2, c2, a3, n3, c3, a4, n4, c4⟩ P X (HRP4.out.below hX) HN3.out.1 HN3.out.2)
    refine wp_region_held_drew (S := (fun W' => Sev W' g3 kd tx nx a1 n1 c1 a2 n2 c2 a3 n3 c3 a4 n4 c4 ∧ Sev W' g4 kq tq xq p1 m1 d1 p2 m2 d2 p3 m3 d3 p4 m4 d4)) (by kernel_rfl) ?_ (fun hHeld => ?_)
    · ((try dsimp only); (first | exact HSJ.out _ (Below.refl _ _) | exact HSJ.out _ (Below.refl _ _).drew | exact HSJ.out _ HK7.out | exact HSJ.out _ HK6.out))
    refine hand_take 0 (some 33) ?_ (by kernel_rfl) (by kernel_rfl) (by kernel_rfl) (by kernel_rfl) (by kernel_rfl) (fun _ _ _ h => h) ?_ (by assumption) ?_
    rotate_left
    · (intro o ho w hSw; (simp only [List.getElem?_toArray, List.getElem?_cons_succ, List.getElem?_cons_zero, Option.some.injEq] at ho); subst ho; (try dsimp only at hSw); go_simp; (first | done | with_reducible rfl))
    (try simp only [Act.put, List.setIfInBounds_toArray, List.set_cons_zero, List.set_cons_succ])
    refine hand_take 1 (some 34) ?_ (by kernel_rfl) (by kernel_rfl) (by kernel_rfl) (by kernel_rfl) (by kernel_rfl) (fun _ _ _ h => h) ?_ (by assumption) ?_
    rotate_left
    · (intro o ho w hSw; (simp only [List.getElem?_toArray, List.getElem?_cons_succ, List.getElem?_cons_zero, Option.some.injEq] at ho); subst ho; (try dsimp only at hSw); go_simp; (first | done | with_reducible rfl))
    (try simp only [Act.put, List.setIfInBounds_toArray, List.set_cons_zero, List.set_cons_succ])
    refine hand_take 2 (some 35) ?_ (by kernel_rfl) (by kernel_rfl) (by kernel_rfl) (by kernel_rfl) (by kernel_rfl) (fun _ _ _ h => h) ?_ (by assumption) ?_
    rotate_left
    · (intro o ho w hSw; (simp only [List.getElem?_toArray, List.getElem?_cons_succ, List.getElem?_cons_zero, Option.some.injEq] at ho); subst ho; (try dsimp only at hSw); go_simp; (first | done | with_reducible rfl))
    (try simp only [Act.put, List.setIfInBounds_toArray, List.set_cons_zero, List.set_cons_succ])
    refine hand_take 3 (some 36) ?_ (by kernel_rfl) (by kernel_rfl) (by kernel_rfl) (by kernel_rfl) (by kernel_rfl) (fun _ _ _ h => h) ?_ (by assumption) ?_
    rotate_left
    · (intro o ho w hSw; (simp only [List.getElem?_toArray, List.getElem?_cons_succ, List.getElem?_cons_zero, Option.some.injEq] at ho); subst ho; (try dsimp only at hSw); go_simp; (first | done | with_reducible rfl))
    (try simp only [Act.put, List.setIfInBounds_toArray, List.set_cons_zero, List.set_cons_succ])
    refine hand_take 4 (some 37) ?_ (by kernel_rfl) (by kernel_rfl) (by kernel_rfl) (by kernel_rfl) (by kernel_rfl) (fun _ _ _ h => h) ?_ (by assumption) ?_
    rotate_left
    · (intro o ho w hSw; (simp only [List.getElem?_toArray, List.getElem?_cons_succ, List.getElem?_cons_zero, Option.some.injEq] at ho); subst ho; (try dsimp only at hSw); go_simp; (first | done | with_reducible rfl))
    (try simp only [Act.put, List.setIfInBounds_toArray, List.set_cons_zero, List.set_cons_succ])
    refine hand_take 6 (some 39) ?_ (by kernel_rfl) (by kernel_rfl) (by kernel_rfl) (by kernel_rfl) (by kernel_rfl) (fun _ _ _ h => h) ?_ (by assumption) ?_
    rotate_left
    · (intro o ho w hSw; (simp only [List.getElem?_toArray, List.getElem?_cons_succ, List.getElem?_cons_zero, Option.some.injEq] at ho); subst ho; (try dsimp only at hSw); go_simp; (first | done | with_reducible rfl))
    (try simp only [Act.put, List.setIfInBounds_toArray, List.set_cons_zero, List.set_cons_succ])
    refine hand_ready 5 (by kernel_rfl) (by kernel_rfl) (fun o ho K hK => ?_)
    (simp only [List.getElem?_toArray, List.getElem?_cons_succ, List.getElem?_cons_zero, Option.some.injEq] at ho)
    subst ho
    go_simp
    ((go_at_call 13; (with_reducible refine (HOF _ (Below.refl _ _).drew).out.mono ?_); rintro e w6 ⟨lo, rfl, hro, _, _, _, _, hb6⟩); have HK6 : Hid (Below w5.heap.size w5 w6) := kept (below_of_drew1 hb6); have HSP := kept (sameP_any lo ⟨kq, tq, xq, p1, m1, d1, p2, m2, d2, p3, m3, d3, p4, m4, d4⟩ P P _ hro (HRQ4.out.below HK6.out) true (by simp)); clear hb6 hro)
    (try go_wp2_with fail)
    refine hK.out _ _ ?_ (fun hHeld => ?_)
    · ((try dsimp only); (first | exact HSJ.out _ (Below.refl _ _) | exact HSJ.out _ (Below.refl _ _).drew | exact HSJ.out _ HK7.out | exact HSJ.out _ HK6.out))
    clear hK K
    (try simp only [Act.put, List.setIfInBounds_toArray, List.set_cons_zero, List.set_cons_succ])
    refine hand_ready 7 (by kernel_rfl) (by kernel_rfl) (fun o ho K hK => ?_)
    (simp only [List.getElem?_toArray, List.getElem?_cons_succ, List.getElem?_cons_zero, Option.some.injEq] at ho)
    subst ho
    go_simp
    ((go_at_call 17; (with_reducible refine HSP.out.mono ?_); rintro e w7 ⟨rfl, hb7⟩); have HK7 : Hid (Below w5.heap.size w5 w7) := kept (below_to hb7 HK6.out); have HSM := kept (same_any A2 A1 (4 + n) (4 + n) cc2 cc1 (sealed xs) (sealed xs) w7 (HRB4.out.below HK7.out) (HRA4.out.below HK7.out) true (by simp)); clear hb7)
    (try go_wp2_with fail)
    refine hK.out _ _ ?_ (fun hHeld => ?_)
    · ((try dsimp only); (first | exact HSJ.out _ (Below.refl _ _) | exact HSJ.out _ (Below.refl _ _).drew | exact HSJ.out _ HK7.out | exact HSJ.out _ HK6.out))
    clear hK K
    (try simp only [Act.put, List.setIfInBounds_toArray, List.set_cons_zero, List.set_cons_succ])
    refine hand_take 8 (some 41) ?_ (by kernel_rfl) (by kernel_rfl) (by kernel_rfl) (by kernel_rfl) (by kernel_rfl) (fun _ _ _ h => h) ?_ (by assumption) ?_
    rotate_left
    · (intro o ho w hSw; (simp only [List.getElem?_toArray, List.getElem?_cons_succ, List.getElem?_cons_zero, Option.some.injEq] at ho); subst ho; (try dsimp only at hSw); go_simp; (first | done | with_reducible rfl))
    (try simp only [Act.put, List.setIfInBounds_toArray, List.set_cons_zero, List.set_cons_succ])
    refine hand_take 9 (some 42) ?_ (by kernel_rfl) (by kernel_rfl) (by kernel_rfl) (by kernel_rfl) (by kernel_rfl) (fun _ _ _ h => h) ?_ (by assumption) ?_
    rotate_left
    · (intro o ho w hSw; (simp only [List.getElem?_toArray, List.getElem?_cons_succ, List.getElem?_cons_zero, Option.some.injEq] at ho); subst ho; (try dsimp only at hSw); go_simp; (first | done | with_reducible rfl))
    (try simp only [Act.put, List.setIfInBounds_toArray, List.set_cons_zero, List.set_cons_succ])
    refine hand_take 10 (some 43) ?_ (by kernel_rfl) (by kernel_rfl) (by kernel_rfl) (by kernel_rfl) (by kernel_rfl) (fun _ _ _ h => h) ?_ (by assumption) ?_
    rotate_left
    · (intro o ho w hSw; (simp only [List.getElem?_toArray, List.getElem?_cons_succ, List.getElem?_cons_zero, Option.some.injEq] at ho); subst ho; (try dsimp only at hSw); go_simp; (first | done | with_reducible rfl))
    (try simp only [Act.put, List.setIfInBounds_toArray, List.set_cons_zero, List.set_cons_succ])
    refine hand_take 11 (some 44) ?_ (by kernel_rfl) (by kernel_rfl) (by kernel_rfl) (by kernel_rfl) (by kernel_rfl) (fun _ _ _ h => h) ?_ (by assumption) ?_
    rotate_left
    · (intro o ho w hSw; (simp only [List.getElem?_toArray, List.getElem?_cons_succ, List.getElem?_cons_zero, Option.some.injEq] at ho); subst ho; (try dsimp only at hSw); go_simp; (first | done | with_reducible rfl))
    (try simp only [Act.put, List.setIfInBounds_toArray, List.set_cons_zero, List.set_cons_succ])
    refine hand_ready 12 (by kernel_rfl) (by kernel_rfl) (fun o ho K hK => ?_)
    (simp only [List.getElem?_toArray, List.getElem?_cons_succ, List.getElem?_cons_zero, Option.some.injEq] at ho)
    subst ho
    go_simp
    (go_at_call 18; (with_reducible refine HSM.out.mono ?_); rintro e w8 ⟨rfl, rfl⟩)
    (try go_wp2_with fail)
    refine hK.out _ _ ?_ (fun hHeld => ?_)
    · ((try dsimp only); (first | exact HSJ.out _ (Below.refl _ _) | exact HSJ.out _ (Below.refl _ _).drew | exact HSJ.out _ HK7.out | exact HSJ.out _ HK6.out))
    clear hK K
    (try simp only [Act.put, List.setIfInBounds_toArray, List.set_cons_zero, List.set_cons_succ])
    refine hand_take 13 (some 46) ?_ (by kernel_rfl) (by kernel_rfl) (by kernel_rfl) (by kernel_rfl) (by kernel_rfl) (fun _ _ _ h => h) ?_ (by assumption) ?_
    rotate_left
    · (intro o ho w hSw; (simp only [List.getElem?_toArray, List.getElem?_cons_succ, List.getElem?_cons_zero, Option.some.injEq] at ho); subst ho; (try dsimp only at hSw); go_simp; (first | done | with_reducible rfl))
    (try simp only [Act.put, List.setIfInBounds_toArray, List.set_cons_zero, List.set_cons_succ])
    refine hand_take 14 (some 4) ?_ (by kernel_rfl) (by kernel_rfl) (by kernel_rfl) (by kernel_rfl) (by kernel_rfl) (fun _ _ _ h => h) ?_ (by assumption) ?_
    rotate_left
    · (intro o ho w hSw; (simp only [List.getElem?_toArray, List.getElem?_cons_succ, List.getElem?_cons_zero, Option.some.injEq] at ho); subst ho; (try dsimp only at hSw); go_simp; (first | done | with_reducible rfl))
    (try simp only [Act.put, List.setIfInBounds_toArray, List.set_cons_zero, List.set_cons_succ])
    refine wpAnyH_done (by kernel_rfl) ?_ _
    go_wp2
    go_ret
    exact ⟨rfl, bel_to HK7.out HB4.out⟩
end Go.Proofs.YtfgpkgenahlikaaDoor.pageReads
