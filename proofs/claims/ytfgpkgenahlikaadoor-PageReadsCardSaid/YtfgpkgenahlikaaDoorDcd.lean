/-
  page.blank, and page.Decode of a body that is a page's.
-/
import Derived.Test.YtfgpkgenahlikaaDoorRp
import Derived.Test.YtfgpkgenahlikaaDoorDs4
namespace Go.Proofs.YtfgpkgenahlikaaDoor
open Go.ChangeShapes Go.WideShapes Go.ChangeAt Go.RowKit
set_option linter.unusedVariables false
set_option linter.unusedSimpArgs false

def zeroB (xs : List UInt8) : Bool := xs.all fun x => x == 0
theorem zeroB_at {xs : List UInt8} (h : zeroB xs = true) {k : Nat} (hk : k < xs.length) : xs[k].toNat = 0 := by
  have := List.all_eq_true.1 h xs[k] (List.getElem_mem hk)
  simpa using congrArg UInt8.toNat (by simpa using this : xs[k] = 0)
theorem blank_yes (A : Option Addr) (n c : Nat) (xs : List UInt8) (w : World) (hr : Rd w A n xs) (hl : n ≤ 140737488355328) (hz : zeroB xs = true) :
    Calls Tryd.prog 52 #[.slice A n c] w fun e w' => e = .returned (.bool true) ∧ w = w' := by
  have HR := kept hr
  have HZ := kept hz
  have HX := kept hr.1
  clear hr hz
  go_enter Tryd.func52, Tryd.ntmps52
  go_wp2
  go_loop [7] (fun i => ∃ k : Nat, k ≤ n ∧ i = .int .i64 k) (fun i => n - (intOf i).toNat)
  case atStart => exact ⟨0, by omega, rfl⟩
  case round =>
    obtain ⟨k, hk, rfl⟩ := hrel
    by_cases hlt : k < n
    · obtain ⟨a, rfl, hc⟩ := HR.out.2 (by omega)
      have hki : k < xs.length := by rw [HX.out]; exact hlt
      have hcell := hc k hki
      unfold byteV at hcell
      rw [zeroB_at HZ.out hki] at hcell
      have hcell : w.cell? (a.add k) = some (.int .u8 0) := hcell
      clear hc
      go_wp2
      go_round
      case rel => exact ⟨k + 1, by omega, by go_num⟩
      case measure => simp [intOf]; omega
    · obtain rfl : k = n := by omega
      go_wp2
      go_ret
      exact ⟨rfl, rfl⟩
/-- The page that a body is, if it is one's. -/
def DecP (ys : List UInt8) (P : Pg) : Prop := (rpage ys (0, 0)).1 = P ∧ (rpage ys (0, 0)).2.2 = 0 ∧ zeroB (ys.drop (rpage ys (0, 0)).2.1) = true ∧ rightB P = true
set_option maxRecDepth 100000 in
set_option maxHeartbeats 4000000 in
theorem decode_right (A : Option Addr) (c : Nat) (xs : List UInt8) (P : Pg) (w : World) (hr : Rd w A 256 xs) (hc : 256 ≤ c) (hf : Fours w) (hw : num (xs.take 4) 0 = csum (xs.drop 4)) (hd : DecP (xs.drop 4) P) :
    Calls Tryd.prog 22 #[.slice A 256 c] w fun e w' => ∃ l : Lay, e = .returned (.tuple #[l.val, .int .i64 0]) ∧ Hid (RdPg w' l P) ∧ Below w.heap.size w w' := by
  have HO := fun o => kept (open_right A 256 c xs (w.alloc o) (hr.alloc o) hc (by omega) (by omega) (hf.alloc o) hw)
  have hyl : (xs.drop 4).length = 252 := by rw [List.length_drop, hr.1]
  obtain ⟨ys, hys⟩ : ∃ ys, xs.drop 4 = ys := ⟨_, rfl⟩
  rw [hys] at HO hd hyl
  simp only [Nat.reduceSub] at HO
  obtain ⟨hP, hE, hZ, hRB⟩ := hd
  obtain ⟨pos, hpos⟩ : ∃ p, (rpage ys (0, 0)).2.1 = p := ⟨_, rfl⟩
  rw [hpos] at hZ
  have hst : (rpage ys (0, 0)).2 = (pos, 0) := Prod.ext hpos hE
  have HZ := kept hZ
  have HP := kept hP
  have HST := kept hst
  have HRB := kept hRB
  have HYL := kept hyl
  clear hr hf hw hys hP hE hZ hRB hpos hst
  go_enter Tryd.func22, Tryd.ntmps22
  go_wp2_with fail
  with_reducible refine (HO _).out.mono ?_
  rintro e w1 ⟨A1, c1, rfl, hown1, hb1⟩
  have HQ1 := kept ((Blk.new w 28 #[.int .i64 0, .int .u64 0, .int .i64 0, .slice none 0 0, .slice none 0 0, .slice none 0 0, .slice none 0 0]).below hb1 (by simp))
  have HB1 := kept (below_to hb1 ((Below.refl _ w).alloc (Nat.le_refl _) _))
  have HNR := kept (newReader_any A1 252 c1 ys w1 (Rd.of_own hown1) (by omega))
  clear hown1 hb1
  go_wp2_with fail
  with_reducible refine HNR.out.mono ?_
  rintro e w2 ⟨r, A2, c2, rfl, hr2, hc2, hrs, hb2⟩
  have HQ2 := kept (HQ1.out.below hb2 HQ1.out.lt)
  have HB2 := kept (below_to hb2 HB1.out)
  have HR2 : Hid (RS w2 r A2 252 c2 ys (0, 0)) := kept ⟨hr2, Nat.zero_le _, .inl rfl, hc2, by omega⟩
  have HNE := kept (show w.heap.size < r from Nat.lt_of_lt_of_le HQ1.out.lt hrs)
  have hRP := read_any r A2 252 c2 ys (0, 0) w2 HR2.out
  rw [HP.out, HST.out] at hRP
  have HRP := kept hRP
  clear hr2 hc2 hrs hb2 hRP
  go_wp2_with fail
  with_reducible refine HRP.out.mono ?_
  rintro e w3 ⟨l, rfl, hsta, hR3, hO3⟩
  obtain ⟨kind, txn, next, a1, n1, k1, a2, n2, k2, a3, n3, k3, a4, n4, k4⟩ := l
  have hp252 : pos ≤ 252 := hR3.2.1
  obtain ⟨m, hm⟩ : ∃ m, 252 - pos = m := ⟨_, rfl⟩
  have hwm : IntKind.i64.wrap (252 - (pos : Int)) = (m : Int) := by
    rw [IntWalk.i64_in _ ⟨by omega, by omega⟩]
    omega
  have hne3 : r ≠ w3.heap.size := by have := hR3.lt; omega
  have HR3 := fun o => kept ((hR3.alloc o))
  have HQ3 := fun o => kept ((HQ2.out.only hO3 (by have := HNE.out; omega)).alloc o)
  have HB3 := fun o => kept ((hO3.below HB2.out HB2.out.size (Nat.le_of_lt HNE.out)).alloc (Nat.le_trans HB2.out.size hO3.size) o)
  have HSTA := kept hsta
  have HSZ := kept hO3.size
  have HG3 := kept (Blk.new w3 28 #[.int .i64 kind, .int .u64 txn, .int .i64 next, .slice a1 n1 k1, .slice a2 n2 k2, .slice a3 n3 k3, .slice a4 n4 k4])
  have HAT := fun o => kept (at_any r A2 252 c2 ys pos 0 (w3.alloc o) (hR3.alloc o).1)
  have HBY := fun o => kept (bytes_new r A2 252 c2 ys pos m (w3.alloc o) (hR3.alloc o).1 (by omega) hR3.2.2.2.1 (by omega))
  have HRL := kept hR3.lt
  clear hsta hR3 hO3
  go_wp2_with fail
  with_reducible refine (HAT _).out.mono ?_
  rintro e w4 ⟨rfl, rfl⟩
  go_wp2_with fail
  with_reducible refine (HBY _).out.mono ?_
  rintro e w4 ⟨A4, c4, rfl, hd4, hr4, hO4⟩
  have hz : zeroB (part ys pos m) = true := by
    have e : part ys pos m = ys.drop pos := by
      unfold part
      exact List.take_of_length_le (by rw [List.length_drop, HYL.out]; omega)
    rw [e]
    exact HZ.out
  have hpm : pos + m = 252 := by omega
  have hEN := endR_any r A2 252 c2 ys (pos + m) 0 w4 hr4 (by omega) (by omega)
  rw [show endE 252 (pos + m) 0 = 0 by rw [hpm]; rfl] at hEN
  have HEN := kept hEN
  have HBL := fun q => kept (blank_yes A4 m c4 (part ys pos m) (w4.drewN q) (hd4.1.below (below_drewN _ q)) (by omega) hz)
  have hOn : ∀ q, Onl w2.heap.size w3 (w4.drewN q) := fun q => (((Onl.one (Only.alloc_ w3 _ r) HR2.out.lt).step hO4 HR2.out.lt).step ((Only.refl w4 r).drewN q) HR2.out.lt)
  have HRT := fun q => kept (right_any ⟨kind, txn, next, a1, n1, k1, a2, n2, k2, a3, n3, k3, a4, n4, k4⟩ P (w4.drewN q) (HSTA.out _ (hOn q)))
  rw [HRB.out] at HRT
  have HON := fun q => kept (hOn q)
  have HG4 := fun q => kept (((HG3.out.only hO4 (Ne.symm hne3)).below (below_drewN _ q) (HG3.out.only hO4 (Ne.symm hne3)).lt))
  have HQ4 := fun q => kept ((((HQ3 _).out.only hO4 (by have := HNE.out; omega)).below (below_drewN _ q) ((HQ3 _).out.only hO4 (by have := HNE.out; omega)).lt))
  have HB4 := fun q => kept (below_to (below_drewN _ q) (hO4.below (HB3 _).out (HB3 _).out.size (Nat.le_of_lt HNE.out)))
  clear hEN hd4 hr4 hO4 hOn hz
  go_wp2_with fail
  with_reducible refine HEN.out.mono ?_
  rintro e w5 ⟨rfl, hq⟩
  obtain ⟨q, rfl⟩ := hq.out
  clear hq
  have y0 : (w4.drewN q).cell? ⟨w3.heap.size, 0, none⟩ = some (.int .i64 kind) := (HG4 q).out.cell 0
  have y1 : (w4.drewN q).cell? ⟨w3.heap.size, 1, none⟩ = some (.int .u64 txn) := (HG4 q).out.cell 1
  have y2 : (w4.drewN q).cell? ⟨w3.heap.size, 2, none⟩ = some (.int .i64 next) := (HG4 q).out.cell 2
  have y3 : (w4.drewN q).cell? ⟨w3.heap.size, 3, none⟩ = some (.slice a1 n1 k1) := (HG4 q).out.cell 3
  have y4 : (w4.drewN q).cell? ⟨w3.heap.size, 4, none⟩ = some (.slice a2 n2 k2) := (HG4 q).out.cell 4
  have y5 : (w4.drewN q).cell? ⟨w3.heap.size, 5, none⟩ = some (.slice a3 n3 k3) := (HG4 q).out.cell 5
  have y6 : (w4.drewN q).cell? ⟨w3.heap.size, 6, none⟩ = some (.slice a4 n4 k4) := (HG4 q).out.cell 6
  go_wp2_with fail
  with_reducible refine (HBL _).out.mono ?_
  rintro e w5 ⟨rfl, rfl⟩
  go_wp2_with fail
  with_reducible refine (HRT _).out.mono ?_
  rintro e w6 ⟨rfl, hb6⟩
  clear y0 y1 y2 y3 y4 y5 y6
  have hq6 := (HQ4 q).out.below hb6 (HQ4 q).out.lt
  have hg6 := (HG4 q).out.below hb6 (HG4 q).out.lt
  have y0 : w6.cell? ⟨w3.heap.size, 0, none⟩ = some (.int .i64 kind) := hg6.cell 0
  have p0 : w6.cell? ⟨w.heap.size, 0, none⟩ = some (.int .i64 0) := hq6.cell 0
  have t0 := hq6.frozen 0
  have y1 : w6.cell? ⟨w3.heap.size, 1, none⟩ = some (.int .u64 txn) := hg6.cell 1
  have p1 : w6.cell? ⟨w.heap.size, 1, none⟩ = some (.int .u64 0) := hq6.cell 1
  have t1 := hq6.frozen 1
  have y2 : w6.cell? ⟨w3.heap.size, 2, none⟩ = some (.int .i64 next) := hg6.cell 2
  have p2 : w6.cell? ⟨w.heap.size, 2, none⟩ = some (.int .i64 0) := hq6.cell 2
  have t2 := hq6.frozen 2
  have y3 : w6.cell? ⟨w3.heap.size, 3, none⟩ = some (.slice a1 n1 k1) := hg6.cell 3
  have p3 : w6.cell? ⟨w.heap.size, 3, none⟩ = some (.slice none 0 0) := hq6.cell 3
  have t3 := hq6.frozen 3
  have y4 : w6.cell? ⟨w3.heap.size, 4, none⟩ = some (.slice a2 n2 k2) := hg6.cell 4
  have p4 : w6.cell? ⟨w.heap.size, 4, none⟩ = some (.slice none 0 0) := hq6.cell 4
  have t4 := hq6.frozen 4
  have y5 : w6.cell? ⟨w3.heap.size, 5, none⟩ = some (.slice a3 n3 k3) := hg6.cell 5
  have p5 : w6.cell? ⟨w.heap.size, 5, none⟩ = some (.slice none 0 0) := hq6.cell 5
  have t5 := hq6.frozen 5
  have y6 : w6.cell? ⟨w3.heap.size, 6, none⟩ = some (.slice a4 n4 k4) := hg6.cell 6
  have p6 : w6.cell? ⟨w.heap.size, 6, none⟩ = some (.slice none 0 0) := hq6.cell 6
  have t6 := hq6.frozen 6
  have hgq : w3.heap.size ≠ w.heap.size := by have := HSZ.out; have := HQ2.out.lt; omega
  have HQ6 := kept hq6
  have HB6 := kept (below_to hb6 (HB4 q).out)
  have HS6 := kept (HSTA.out.go ((HON q).out.step (Only.of_below (r := r) hb6) HR2.out.lt) (Nat.le_refl _))
  clear hq6 hg6 hb6
  go_wp2
  have hb7 := ((((((HQ6.out.set_ 0 (.int .i64 kind)).set_ 1 (.int .u64 txn)).set_ 2 (.int .i64 next)).set_ 3 (.slice a1 n1 k1)).set_ 4 (.slice a2 n2 k2)).set_ 5 (.slice a3 n3 k3)).set_ 6 (.slice a4 n4 k4)
  simp only [List.set_cons_zero, List.set_cons_succ] at hb7
  have ho7 := only7 w6 w.heap.size (.int .i64 kind) (.int .u64 txn) (.int .i64 next) (.slice a1 n1 k1) (.slice a2 n2 k2) (.slice a3 n3 k3) (.slice a4 n4 k4)
  unfold set7 at ho7
  generalize (((((((w6.setCell ⟨w.heap.size, 0, none⟩ (.int .i64 kind)).setCell ⟨w.heap.size, 1, none⟩ (.int .u64 txn)).setCell ⟨w.heap.size, 2, none⟩ (.int .i64 next)).setCell ⟨w.heap.size, 3, none⟩ (.slice a1 n1 k1)).setCell ⟨w.heap.size, 4, none⟩ (.slice a2 n2 k2)).setCell ⟨w.heap.size, 5, none⟩ (.slice a3 n3 k3)).setCell ⟨w.heap.size, 6, none⟩ (.slice a4 n4 k4)) = X at hb7 ho7 ⊢
  have x0 : X.cell? ⟨w.heap.size, 0, none⟩ = some (.int .i64 kind) := hb7.cell 0
  have x1 : X.cell? ⟨w.heap.size, 1, none⟩ = some (.int .u64 txn) := hb7.cell 1
  have x2 : X.cell? ⟨w.heap.size, 2, none⟩ = some (.int .i64 next) := hb7.cell 2
  have x3 : X.cell? ⟨w.heap.size, 3, none⟩ = some (.slice a1 n1 k1) := hb7.cell 3
  have x4 : X.cell? ⟨w.heap.size, 4, none⟩ = some (.slice a2 n2 k2) := hb7.cell 4
  have x5 : X.cell? ⟨w.heap.size, 5, none⟩ = some (.slice a3 n3 k3) := hb7.cell 5
  have x6 : X.cell? ⟨w.heap.size, 6, none⟩ = some (.slice a4 n4 k4) := hb7.cell 6
  exact bodyPost_ret (v := .tuple #[.agg #[.int .i64 kind, .int .u64 txn, .int .i64 next, .slice a1 n1 k1, .slice a2 n2 k2, .slice a3 n3 k3, .slice a4 n4 k4], .int .i64 0]) (by simp [results, Tryd.results22, go_sem, x0, x1, x2, x3, x4, x5, x6]) rfl ⟨⟨kind, txn, next, a1, n1, k1, a2, n2, k2, a3, n3, k3, a4, n4, k4⟩, rfl, HS6.out _ (Onl.one ho7 HQ2.out.lt), ho7.below HB6.out HB6.out.size (Nat.le_refl _)⟩
end Go.Proofs.YtfgpkgenahlikaaDoor
