/-
  terrierref03.Disk: Crash.
-/
import Derived.Test.YtfmljiidgaoihaaRfe
import Derived.Deep.RegionHeld3
namespace Go.Proofs.Ytfmljiidgaoihaa
open Go.ChangeShapes Go.WideShapes Go.ChangeAt Go.RowKit
set_option linter.unusedVariables false
set_option linter.unusedSimpArgs false

/-- append of a row that reads, as one step of a region that draws its order. -/
theorem step_append_rd {P : Program} {w : World} {ops : Array Oper} {o : Oper} {a : Act} {K : Act → World → Prop} {Q : Exit → Act → World → Prop} {E : Prop} (hgd : o.guard = none) (s x : Operand) (t : TypeId)
    (ho : o.op = .call { callee := .builtin .append, args := #[s, x], argTypes := #[t, t] })
    (base : Nat) (e : TypeId) {n : Nat} {xs : List UInt8} {v : Value} {A : Option Addr} {m c : Nat} {ys : List UInt8} (hs : a.eval s = v) (hx : a.eval x = .slice A m c)
    (ht : P.underlying t = some (.slice e)) (hinfo : (P.info? e).map (fun i => (i.zero, i.size, i.bytes)) = some (some (.int .u8 0), 1, 1)) (hown : w.ownsRow base e 1 v n (cellsOf xs)) (hr : Rd w A m ys)
    (hm : n + m ≤ 140737488355328) (hbase : base ≤ w.heap.size) (N : Nat) (hN : n + m = N)
    (h : ∀ A' c' w', w'.ownsRow base e 1 (.slice A' N c') N (cellsOf (xs ++ ys)) → Below base w w' → K (a.put o.dst (.slice A' N c')) w') :
    if Region.wanted o (yielded ops a.tmps) = true then Oper.wp P o a w K Q else E := by
  rw [if_pos (by simp [Region.wanted, hgd])]
  subst hN
  exact wp_append_rd s x t ho base e hs hx ht hinfo hown hr hm hbase h
def FC (l : List (Int × Int)) : Int → List UInt8 → List UInt8 → List UInt8 := fun p xs old => xs.take ((kf l p).getD 0).toNat ++ old.drop ((kf l p).getD 0).toNat
/-- A slice of numbers at the head of a block. -/
def Ip (w : World) (b : Nat) (n : Nat) (z : Nat → Int) : Prop := ∀ i, i < n → w.cell? ⟨b, i, none⟩ = some (.int .i64 (z i))
theorem Ip.below {w w' : World} {b n : Nat} {z : Nat → Int} (h : Ip w b n z) (hb : Below w.heap.size w w') : Ip w' b n z := fun i hi => (hb.cell (p := ⟨b, i, none⟩) (World.block_lt_of_cell? w _ (h i hi))).trans (h i hi)
theorem Ip.ref {w w' : World} {b n base : Nat} {z : Nat → Int} {t : TypeId} {cs : List Value} (h : Ip w b n z) (hb : Blk w b t cs) (ht : t ≠ 52 ∧ t ≠ 26 ∧ t ≠ 90) (tu : Turned w w' (RefK w base)) : Ip w' b n z := fun i hi => by
  have := hb.ref ht tu
  rw [this.cell, ← hb.cell]
  exact h i hi
theorem kf_take (l : List (Int × Int)) (p : Int) {j : Nat} (hj : j < l.length) : kf (l.take (j + 1)) p = if p = l[j].1 then some (clampK l[j].2) else kf (l.take j) p := by
  rw [List.take_succ_eq_append_getElem hj, kf_snoc]
/-- The inner loop's round's head. -/
def Inner (w1 : World) (l : List (Int × Int)) (p : Int) (j : Nat) (v : Value) (wx : World) : Prop := v = .int .i64 ((kf (l.take j) p).getD 0) ∧ Below w1.heap.size w1 wx
theorem below_drewN {B : Nat} {a w : World} (h : Below B a w) (q : Nat) : Below B a (w.drewN q) := ⟨h.os, h.tape, h.output, h.size, h.block⟩
theorem below_of_drew {B : Nat} {w w' : World} (h : Below B w.drew w') : Below B w w' := ⟨h.os, h.tape, h.output, h.size, h.block⟩
theorem Inner.drewN {w1 wx : World} {l : List (Int × Int)} {p : Int} {j : Nat} {v : Value} (h : Inner w1 l p j v wx) (q : Nat) : Below w1.heap.size w1 (wx.drewN q) := ⟨h.2.os, h.2.tape, h.2.output, h.2.size, h.2.block⟩
set_option maxRecDepth 100000 in
set_option maxHeartbeats 2000000 in
theorem rcrash_ok (base r : Nat) (S : St) (R : RSt) (l : List (Int × Int)) (n b1 c1 b2 c2 : Nat) (P N : Nat → Int) (w : World) (h : RefD w base r R) (hs : Sim S R) (ho : S.ok) (hdn : S.done ≤ 10000) (hl : l.length = n) (hn : n ≤ 100) (hlP : ∀ j (hj : j < l.length), l[j] = (P j, N j))
    {t1 t2 : TypeId} {cs1 cs2 : List Value} (hb1 : Blk w b1 t1 cs1) (ht1 : t1 ≠ 52 ∧ t1 ≠ 26 ∧ t1 ≠ 90) (hb2 : Blk w b2 t2 cs2) (ht2 : t2 ≠ 52 ∧ t2 ≠ 26 ∧ t2 ≠ 90) (hi1 : Ip w b1 n P) (hi2 : Ip w b2 n N) :
    Calls Try.prog 28 #[.pointer (some ⟨r, 0, none⟩), .slice (some ⟨b1, 0, none⟩) n c1, .slice (some ⟨b2, 0, none⟩) n c2] w fun e w' => e = .returned (.tuple #[]) ∧ Hid (RefD w' base r { R with pages := layAll (FC l) R.cache R.pages, cache := [], fuse := -1, dead := false } ∧ Turned w w' (RefK w base)) := by
  obtain ⟨pg, pc, cA, cc, c0, c1', c2', c3, c4⟩ := h.cells
  have H0 : Hid (RHead w base r R (FC l) cA cc 0 w) := kept ⟨by simpa [layAll] using h, Turned.refl _ _, c1'⟩
  have HKEY : Hid (∀ k (hk : k < R.cache.length), 0 ≤ R.cache[k].1 ∧ R.cache[k].1 < (R.pages.length : Int)) := kept (fun k hk => hs.keyed ho hk)
  have hsm := hs.few' hdn
  have HL := kept hl
  have HLP := kept hlP
  have HB1 := kept hb1
  have HT1 := kept ht1
  have HB2 := kept hb2
  have HT2 := kept ht2
  have HI1 := kept hi1
  have HI2 := kept hi2
  obtain ⟨m, hm⟩ : ∃ m, R.pages.length = m := ⟨_, rfl⟩
  have HM := kept hm
  have HM1024 : Hid (m ≤ 1024) := kept (by rw [← hm, hs.pages]; exact ho.2.1)
  obtain ⟨nc, hnc⟩ : ∃ nc, R.cache.length = nc := ⟨_, rfl⟩
  have HN := kept hnc
  rw [hnc] at c1' hsm
  clear h hs ho hdn c0 c2' c3 c4 hm hnc hl hlP hb1 ht1 hb2 ht2 hi1 hi2
  go_enter Try.func28, Try.ntmps28
  go_wp2
  go_loopw [16] (fun i wr => ∃ k : Nat, k ≤ nc ∧ i = .int .i64 (k : Int) ∧ Hid (RHead w base r R (FC l) cA cc k wr)) (fun i _ => nc - (intOf i).toNat)
  case atStart => exact ⟨0, Nat.zero_le _, rfl, H0⟩
  case round =>
    obtain ⟨k, hkn, rfl, HR⟩ := hrel
    by_cases hlt : k < nc
    · have hk' : k < R.cache.length := by rw [HN.out]; exact hlt
      obtain ⟨q, pg, pc, g, b, c, v0, hq, hqn, rfl, z1, z2, hrow, y0, y1, hrow0, hc256⟩ := HR.out.entry hk' HM.out (by have := HKEY.out k hk'; rw [HM.out] at this; exact this)
      obtain ⟨b0, c0, _, _, rfl, hc0, _, hrd0⟩ := hrow0
      have HQ := kept hq
      have HROW := kept hrow
      have Y0 := kept y0
      have Y1 := kept y1
      have HRD0 := kept hrd0
      have HC0 := kept hc0
      clear hq hrow hrd0 y0 y1 hc0
      go_wp2
      have hbl : Below wr.heap.size wr (wr.alloc (.cells #[.int .i64 (q : Int), .slice (some ⟨b, 0, none⟩) 256 c] 90)) := (Below.refl _ wr).alloc (Nat.le_refl _) _
      have hblk := Blk.new wr 90 #[.int .i64 (q : Int), .slice (some ⟨b, 0, none⟩) 256 c]
      generalize (wr.alloc (.cells #[.int .i64 (q : Int), .slice (some ⟨b, 0, none⟩) 256 c] 90)) = w1 at hbl hblk ⊢
      have HBL := kept hbl
      have HBK := kept hblk
      have J1 : Hid (Ip w1 b1 n P) := kept ((HI1.out.ref HB1.out HT1.out HR.out.2.1).below hbl)
      have J2 : Hid (Ip w1 b2 n N) := kept ((HI2.out.ref HB2.out HT2.out HR.out.2.1).below hbl)
      clear hbl hblk z1 z2
      go_loopw [8, 22] (fun v i wx => ∃ j : Nat, j ≤ n ∧ i = .int .i64 (j : Int) ∧ Inner w1 l (q : Int) j v wx) (fun _ i _ => n - (intOf i).toNat)
      case atStart => exact ⟨0, Nat.zero_le _, rfl, rfl, Below.refl _ _⟩
      case round =>
        obtain ⟨j, hjn, rfl, rfl, hbx⟩ := hrel
        rename World => wx
        have HBX := kept hbx
        clear hbx
        by_cases hjl : j < n
        · have hj' : j < l.length := by rw [HL.out]; exact hjl
          have e1 : wx.cell? ⟨b1, j, none⟩ = some (.int .i64 (P j)) := (J1.out.below HBX.out) j hjl
          have e2 : wx.cell? ⟨b2, j, none⟩ = some (.int .i64 (N j)) := (J2.out.below HBX.out) j hjl
          have e3 : wx.cell? ⟨wr.heap.size, 0, none⟩ = some (.int .i64 (q : Int)) := (HBX.out.cell (p := ⟨wr.heap.size, 0, none⟩) HBK.out.lt).trans (HBK.out.cell 0)
          have HKT : Hid (kf (l.take (j + 1)) (q : Int) = if (q : Int) = P j then some (clampK (N j)) else kf (l.take j) (q : Int)) := kept (by rw [kf_take l (q : Int) hj', HLP.out j hj'])
          have hji : (j : Int) < (n : Int) := by omega
          by_cases hP : P j = (q : Int)
          · rw [hP] at e1
            have HPP := kept hP
            clear hP
            by_cases n0 : N j < 0
            · have HCL : Hid (clampK (N j) = 0) := kept (by simp [clampK, n0])
              go_wp2
              go_quiet (fail)
              go_wp2
              go_roundw
              case rel => exact ⟨j + 1, by omega, by go_num, by rw [HKT.out, if_pos HPP.out.symm, HCL.out]; rfl, below_drewN HBX.out _⟩
              case measure => simp [intOf]; omega
            by_cases n1 : 256 < N j
            · have HCL : Hid (clampK (N j) = 256) := kept (by simp [clampK, n0, n1])
              go_wp2
              go_quiet (fail)
              go_wp2
              go_roundw
              case rel => exact ⟨j + 1, by omega, by go_num, by rw [HKT.out, if_pos HPP.out.symm, HCL.out]; rfl, below_drewN HBX.out _⟩
              case measure => simp [intOf]; omega
            · have HCL : Hid (clampK (N j) = N j) := kept (by simp [clampK, n0, n1])
              go_wp2
              go_quiet (fail)
              go_wp2
              go_roundw
              case rel => exact ⟨j + 1, by omega, by go_num, by rw [HKT.out, if_pos HPP.out.symm, HCL.out]; rfl, below_drewN HBX.out _⟩
              case measure => simp [intOf]; omega
          · have hne : (P j == (q : Int)) = false := by simp [hP]
            have HPP := kept hP
            clear hP
            generalize hold : (kf (l.take j) (q : Int)).getD 0 = old
            have HOLD := kept hold
            clear hold
            go_wp2
            go_quiet (fail)
            go_wp2
            go_roundw
            case rel => exact ⟨j + 1, by omega, by go_num, by rw [HKT.out, if_neg (fun e => HPP.out e.symm), HOLD.out], below_drewN HBX.out _⟩
            case measure => simp [intOf]; omega
        · obtain rfl : j = n := by omega
          obtain ⟨qq, hqq⟩ : ∃ qq : Nat, (kf l (q : Int)).getD 0 = (qq : Int) := ⟨((kf l (q : Int)).getD 0).toNat, by have := (kf_le l (q : Int)).1; omega⟩
          have hq256 : qq ≤ 256 := by have := (kf_le l (q : Int)).2; omega
          have hv : (kf (l.take j) (q : Int)).getD 0 = (qq : Int) := by rw [List.take_of_length_le (by rw [HL.out]; exact Nat.le_refl _)]; exact hqq
          simp only [hv]
          have HQQ := kept hqq
          clear hv hqq
          have e3 : wx.cell? ⟨wr.heap.size, 0, none⟩ = some (.int .i64 (q : Int)) := (HBX.out.cell (p := ⟨wr.heap.size, 0, none⟩) HBK.out.lt).trans (HBK.out.cell 0)
          have e4 : wx.cell? ⟨wr.heap.size, 1, none⟩ = some (.slice (some ⟨b, 0, none⟩) 256 c) := (HBX.out.cell (p := ⟨wr.heap.size, 1, none⟩) HBK.out.lt).trans (HBK.out.cell 1)
          have hqc : (qq : Int) ≤ (c : Int) := by omega
          have HBW : Hid (Below wr.heap.size wr wx) := kept (HBL.out.trans (HBX.out.mono HBL.out.size))
          have HRW : Hid (Rd wx (some ⟨b, 0, none⟩) qq (R.cache[k].2.take qq)) := kept (by
            obtain ⟨b', c', _, _, eb, _, _, hrd⟩ := HROW.out.turned (Turned.of_below HBW.out (fun _ => False)) (fun _ _ _ _ => id)
            injection eb with eb
            rw [eb]
            exact hrd.take hq256)
          go_wp2_with (first | (go_at_call 43; (with_reducible refine (twin_any _ _ _ _ _ HRW.out (by omega)).mono ?_); rintro e w2 ⟨A2, k2, rfl, h2⟩; have HO2 := kept h2.out.1; have HBT : Hid (Below wx.heap.size wx w2) := kept h2.out.2; clear h2))
          have HB2W : Hid (Below wr.heap.size wr w2) := kept (HBW.out.trans (HBT.out.mono HBW.out.size))
          have HB12 : Hid (Below w1.heap.size w1 w2) := kept (HBX.out.trans (HBT.out.mono HBX.out.size))
          have u0 : w2.cell? ⟨r, 0, none⟩ = some (.slice (some ⟨pg, 0, none⟩) m pc) := (HB2W.out.cell (p := ⟨r, 0, none⟩) (World.block_lt_of_cell? wr _ Y0.out)).trans Y0.out
          have u1 : w2.cell? ⟨pg, q, none⟩ = some (.slice (some ⟨b0, 0, none⟩) 256 c0) := (HB2W.out.cell (p := ⟨pg, q, none⟩) (World.block_lt_of_cell? wr _ Y1.out)).trans Y1.out
          have u2 : w2.cell? ⟨wr.heap.size, 0, none⟩ = some (.int .i64 (q : Int)) := (HB12.out.cell (p := ⟨wr.heap.size, 0, none⟩) HBK.out.lt).trans (HBK.out.cell 0)
          have hqm : (q : Int) < (m : Int) := by omega
          have hq2 : (qq : Int) ≤ 256 := by omega
          have HRO : Hid (Rd w2 (if c0 = qq then some ⟨b0, 0, none⟩ else (some ⟨b0, 0, none⟩ : Option Addr).map (·.add qq)) (256 - qq) (((layAll (FC l) (R.cache.take k) R.pages).getD q []).drop qq)) := kept (((HRD0.out.keep (fun p hp => HB2W.out.cell hp))).cut hq256 HC0.out)
          clear e3 e4
          by_cases hcc : c0 = qq
          · subst hcc
            have HRO1 : Hid (Rd w2 (some ⟨b0, 0, none⟩) (256 - c0) (((layAll (FC l) (R.cache.take k) R.pages).getD q []).drop c0)) := kept (by have := HRO.out; rwa [if_pos rfl] at this)
            refine wp_region_held_drew (S := fun W' => W'.cell? ⟨r, 0, none⟩ = some (.slice (some ⟨pg, 0, none⟩) m pc) ∧ W'.cell? ⟨wr.heap.size, 0, none⟩ = some (.int .i64 (q : Int))) (by kernel_rfl) ⟨u0, u2⟩ (fun hHeld => ?_)
            (refine wpAnyH_take (i := 0) (v := ?_) rfl (by kernel_rfl) (by kernel_rfl) (by kernel_rfl) (fun _ _ _ h => h) (Or.inl ⟨by rfl, ?_⟩) (by assumption) ?_; rotate_left; · (intro w hSw; (try dsimp only at hSw); go_simp; (first | done | with_reducible rfl)); (try simp only [Act.put, List.setIfInBounds_toArray, List.set_cons_zero, List.set_cons_succ]))
            (refine wpAnyH_take (i := 1) (v := ?_) rfl (by kernel_rfl) (by kernel_rfl) (by kernel_rfl) (fun _ _ _ h => h) (Or.inl ⟨by rfl, ?_⟩) (by assumption) ?_; rotate_left; · (intro w hSw; (try dsimp only at hSw); go_simp; (first | done | with_reducible rfl)); (try simp only [Act.put, List.setIfInBounds_toArray, List.set_cons_zero, List.set_cons_succ]))
            (refine wpAnyH_take (i := 2) (v := ?_) rfl (by kernel_rfl) (by kernel_rfl) (by kernel_rfl) (fun _ _ _ h => h) (Or.inl ⟨by rfl, ?_⟩) (by assumption) ?_; rotate_left; · (intro w hSw; (try dsimp only at hSw); go_simp; (first | done | with_reducible rfl)); (try simp only [Act.put, List.setIfInBounds_toArray, List.set_cons_zero, List.set_cons_succ]))
            (refine wpAnyH_take (i := 3) (v := ?_) rfl (by kernel_rfl) (by kernel_rfl) (by kernel_rfl) (fun _ _ _ h => h) (Or.inl ⟨by rfl, ?_⟩) (by assumption) ?_; rotate_left; · (intro w hSw; (try dsimp only at hSw); go_simp; (first | done | with_reducible rfl)); (try simp only [Act.put, List.setIfInBounds_toArray, List.set_cons_zero, List.set_cons_succ]))
            (refine wpAnyH_take (i := 4) (v := ?_) rfl (by kernel_rfl) (by kernel_rfl) (by kernel_rfl) (fun _ _ _ h => h) (Or.inl ⟨by rfl, ?_⟩) (by assumption) ?_; rotate_left; · (intro w hSw; (try dsimp only at hSw); go_simp; (first | done | with_reducible rfl)); (try simp only [Act.put, List.setIfInBounds_toArray, List.set_cons_zero, List.set_cons_succ]))
            (refine wpAnyH_take (i := 5) (v := ?_) rfl (by kernel_rfl) (by kernel_rfl) (by kernel_rfl) (fun _ _ _ h => h) (Or.inl ⟨by rfl, ?_⟩) (by assumption) ?_; rotate_left; · (intro w hSw; (try dsimp only at hSw); go_simp; (first | done | with_reducible rfl)); (try simp only [Act.put, List.setIfInBounds_toArray, List.set_cons_zero, List.set_cons_succ]))
            (refine wpAnyH_take (i := 6) (v := ?_) rfl (by kernel_rfl) (by kernel_rfl) (by kernel_rfl) (fun _ _ _ h => h) (Or.inl ⟨by rfl, ?_⟩) (by assumption) ?_; rotate_left; · (intro w hSw; (try dsimp only at hSw); go_simp; (first | done | with_reducible rfl)); (try simp only [Act.put, List.setIfInBounds_toArray, List.set_cons_zero, List.set_cons_succ]))
            (refine wpAnyH_take (i := 7) (v := ?_) rfl (by kernel_rfl) (by kernel_rfl) (by kernel_rfl) (fun _ _ _ h => h) (Or.inl ⟨by rfl, ?_⟩) (by assumption) ?_; rotate_left; · (intro w hSw; (try dsimp only at hSw); go_simp; (first | done | with_reducible rfl)); (try simp only [Act.put, List.setIfInBounds_toArray, List.set_cons_zero, List.set_cons_succ]))
            (refine wpAnyH_take (i := 8) (v := ?_) rfl (by kernel_rfl) (by kernel_rfl) (by kernel_rfl) (fun _ _ _ h => h) (Or.inl ⟨by rfl, ?_⟩) (by assumption) ?_; rotate_left; · (intro w hSw; (try dsimp only at hSw); go_simp; (first | done | with_reducible rfl)); (try simp only [Act.put, List.setIfInBounds_toArray, List.set_cons_zero, List.set_cons_succ]))
            (refine wpAnyH_take (i := 9) (v := ?_) rfl (by kernel_rfl) (by kernel_rfl) (by kernel_rfl) (fun _ _ _ h => h) (Or.inl ⟨by rfl, ?_⟩) (by assumption) ?_; rotate_left; · (intro w hSw; (try dsimp only at hSw); go_simp; (first | done | with_reducible rfl)); (try simp only [Act.put, List.setIfInBounds_toArray, List.set_cons_zero, List.set_cons_succ]))
            (refine wpAnyH_take (i := 10) (v := ?_) rfl (by kernel_rfl) (by kernel_rfl) (by kernel_rfl) (fun _ _ _ h => h) (Or.inl ⟨by rfl, ?_⟩) (by assumption) ?_; rotate_left; · (intro w hSw; (try dsimp only at hSw); go_simp; (first | done | with_reducible rfl)); (try simp only [Act.put, List.setIfInBounds_toArray, List.set_cons_zero, List.set_cons_succ]))
            (refine wpAnyH_take (i := 11) (v := ?_) rfl (by kernel_rfl) (by kernel_rfl) (by kernel_rfl) (fun _ _ _ h => h) (Or.inl ⟨by rfl, ?_⟩) (by assumption) ?_; rotate_left; · (intro w hSw; (try dsimp only at hSw); go_simp; (first | done | with_reducible rfl)); (try simp only [Act.put, List.setIfInBounds_toArray, List.set_cons_zero, List.set_cons_succ]))
            (refine wpAnyH_take (i := 12) (v := ?_) rfl (by kernel_rfl) (by kernel_rfl) (by kernel_rfl) (fun _ _ _ h => h) (Or.inl ⟨by rfl, ?_⟩) (by assumption) ?_; rotate_left; · (intro w hSw; (try dsimp only at hSw); go_simp; (first | done | with_reducible rfl)); (try simp only [Act.put, List.setIfInBounds_toArray, List.set_cons_zero, List.set_cons_succ]))
            (refine wpAnyH_take (i := 13) (v := ?_) rfl (by kernel_rfl) (by kernel_rfl) (by kernel_rfl) (fun _ _ _ h => h) (Or.inl ⟨by rfl, ?_⟩) (by assumption) ?_; rotate_left; · (intro w hSw; (try dsimp only at hSw); go_simp; (first | done | with_reducible rfl)); (try simp only [Act.put, List.setIfInBounds_toArray, List.set_cons_zero, List.set_cons_succ]))
            (refine wpAnyH_take (i := 15) (v := ?_) rfl (by kernel_rfl) (by kernel_rfl) (by kernel_rfl) (fun _ _ _ h => h) (Or.inl ⟨by rfl, ?_⟩) (by assumption) ?_; rotate_left; · (intro w hSw; (try dsimp only at hSw); go_simp; (first | done | with_reducible rfl)); (try simp only [Act.put, List.setIfInBounds_toArray, List.set_cons_zero, List.set_cons_succ]))
            refine wpAnyH_ready (rs := [14]) (by kernel_rfl) (by simp) ?_
            refine AllReadyH.cons rfl (fun K hK => ?_) AllReadyH.nil
            go_simp
            refine hK.out _ _ ⟨u0, u2⟩ (fun hHeld => ?_)
            clear hK K
            (try simp only [Act.put, List.setIfInBounds_toArray, List.set_cons_zero, List.set_cons_succ])
            (refine wpAnyH_take (i := 16) (v := ?_) rfl (by kernel_rfl) (by kernel_rfl) (by kernel_rfl) (fun _ _ _ h => h) (Or.inl ⟨by rfl, ?_⟩) (by assumption) ?_; rotate_left; · (intro w hSw; (try dsimp only at hSw); go_simp; (first | done | with_reducible rfl)); (try simp only [Act.put, List.setIfInBounds_toArray, List.set_cons_zero, List.set_cons_succ]))
            refine wpAnyH_ready (rs := [17]) (by kernel_rfl) (by simp) ?_
            refine AllReadyH.cons rfl (fun K hK => ?_) AllReadyH.nil
            refine step_append_rd rfl _ _ 26 rfl wx.heap.size 5 rfl rfl Try.underlying26 (by kernel_rfl) (show w2.drew.ownsRow wx.heap.size 5 1 (.slice A2 c0 k2) c0 _ from HO2.out) (HRO1.out.drew) (by omega) HBT.out.size 256 (by omega) ?_
            intro A3 c3 w3 hown3 hb3
            have HB3 : Hid (Below wx.heap.size w2 w3) := kept (below_of_drew hb3)
            have HBW3 : Hid (Below wr.heap.size wr w3) := kept (HB2W.out.trans (HB3.out.mono HBW.out.size))
            have n0 : w3.cell? ⟨r, 0, none⟩ = some (.slice (some ⟨pg, 0, none⟩) m pc) := (HBW3.out.cell (p := ⟨r, 0, none⟩) (World.block_lt_of_cell? wr _ Y0.out)).trans Y0.out
            have n1 : w3.cell? ⟨pg, q, none⟩ = some (.slice (some ⟨b0, 0, none⟩) 256 c0) := (HBW3.out.cell (p := ⟨pg, q, none⟩) (World.block_lt_of_cell? wr _ Y1.out)).trans Y1.out
            have n2 : w3.cell? ⟨wr.heap.size, 0, none⟩ = some (.int .i64 (q : Int)) := (HB3.out.cell (p := ⟨wr.heap.size, 0, none⟩) (Nat.lt_of_lt_of_le HBK.out.lt HBX.out.size)).trans u2
            have HST : Hid (RHead w base r R (FC l) (some ⟨g, 0, none⟩) cc (k + 1) (w3.setCell ⟨pg, q, none⟩ (.slice A3 256 c3)) ∧ w3.frozen? ⟨pg, q, none⟩ = false ∧ pg ≠ r) := kept (HR.out.step hk' HM.out HQ.out hqn HBW3.out Y0.out (by unfold FC; rw [HQQ.out, Int.toNat_natCast]; exact rowV_of_own hown3))
            have y3 : w3.frozen? ⟨pg, q, none⟩ = false := HST.out.2.1
            have m0 : (w3.setCell ⟨pg, q, none⟩ (.slice A3 256 c3)).cell? ⟨r, 0, none⟩ = some (.slice (some ⟨pg, 0, none⟩) m pc) := (World.cell?_setCell_other w3 ⟨pg, q, none⟩ ⟨r, 0, none⟩ _ (fun e => HST.out.2.2 (congrArg Addr.block e))).trans n0
            have m2 : (w3.setCell ⟨pg, q, none⟩ (.slice A3 256 c3)).cell? ⟨wr.heap.size, 0, none⟩ = some (.int .i64 (q : Int)) := (World.cell?_setCell_other w3 ⟨pg, q, none⟩ ⟨wr.heap.size, 0, none⟩ _ (fun e => absurd (congrArg Addr.block e) (Nat.ne_of_lt (World.block_lt_of_cell? wr _ Y1.out)))).trans n2
            clear hown3 hb3
            refine hK.out _ _ ⟨n0, n2⟩ (fun hHeld => ?_)
            clear hK K
            (try simp only [Act.put, List.setIfInBounds_toArray, List.set_cons_zero, List.set_cons_succ])
            (refine wpAnyH_take (i := 18) (v := ?_) rfl (by kernel_rfl) (by kernel_rfl) (by kernel_rfl) (fun _ _ _ h => h) (Or.inl ⟨by rfl, ?_⟩) (by assumption) ?_; rotate_left; · (intro w hSw; (try dsimp only at hSw); go_simp; (first | done | with_reducible rfl)); (try simp only [Act.put, List.setIfInBounds_toArray, List.set_cons_zero, List.set_cons_succ]))
            refine wpAnyH_ready (rs := [19]) (by kernel_rfl) (by simp) ?_
            refine AllReadyH.cons rfl (fun K hK => ?_) AllReadyH.nil
            go_simp
            refine hK.out _ _ ⟨m0, m2⟩ (fun hHeld => ?_)
            clear hK K
            (try simp only [Act.put, List.setIfInBounds_toArray, List.set_cons_zero, List.set_cons_succ])
            refine wpAnyH_done (by kernel_rfl) ?_ _
            go_wp2
            go_roundw
            case rel => exact ⟨k + 1, by omega, by go_num, kept HST.out.1⟩
            case measure => simp [intOf]; omega
          · have HRO1 : Hid (Rd w2 (some ⟨b0, qq, none⟩) (256 - qq) (((layAll (FC l) (R.cache.take k) R.pages).getD q []).drop qq)) := kept (by have := HRO.out; rw [if_neg hcc] at this; rw [Option.map_some, Addr.add_mid, Nat.zero_add] at this; exact this)
            refine wp_region_held_drew (S := fun W' => W'.cell? ⟨r, 0, none⟩ = some (.slice (some ⟨pg, 0, none⟩) m pc) ∧ W'.cell? ⟨wr.heap.size, 0, none⟩ = some (.int .i64 (q : Int))) (by kernel_rfl) ⟨u0, u2⟩ (fun hHeld => ?_)
            (refine wpAnyH_take (i := 0) (v := ?_) rfl (by kernel_rfl) (by kernel_rfl) (by kernel_rfl) (fun _ _ _ h => h) (Or.inl ⟨by rfl, ?_⟩) (by assumption) ?_; rotate_left; · (intro w hSw; (try dsimp only at hSw); go_simp; (first | done | with_reducible rfl)); (try simp only [Act.put, List.setIfInBounds_toArray, List.set_cons_zero, List.set_cons_succ]))
            (refine wpAnyH_take (i := 1) (v := ?_) rfl (by kernel_rfl) (by kernel_rfl) (by kernel_rfl) (fun _ _ _ h => h) (Or.inl ⟨by rfl, ?_⟩) (by assumption) ?_; rotate_left; · (intro w hSw; (try dsimp only at hSw); go_simp; (first | done | with_reducible rfl)); (try simp only [Act.put, List.setIfInBounds_toArray, List.set_cons_zero, List.set_cons_succ]))
            (refine wpAnyH_take (i := 2) (v := ?_) rfl (by kernel_rfl) (by kernel_rfl) (by kernel_rfl) (fun _ _ _ h => h) (Or.inl ⟨by rfl, ?_⟩) (by assumption) ?_; rotate_left; · (intro w hSw; (try dsimp only at hSw); go_simp; (first | done | with_reducible rfl)); (try simp only [Act.put, List.setIfInBounds_toArray, List.set_cons_zero, List.set_cons_succ]))
            (refine wpAnyH_take (i := 3) (v := ?_) rfl (by kernel_rfl) (by kernel_rfl) (by kernel_rfl) (fun _ _ _ h => h) (Or.inl ⟨by rfl, ?_⟩) (by assumption) ?_; rotate_left; · (intro w hSw; (try dsimp only at hSw); go_simp; (first | done | with_reducible rfl)); (try simp only [Act.put, List.setIfInBounds_toArray, List.set_cons_zero, List.set_cons_succ]))
            (refine wpAnyH_take (i := 4) (v := ?_) rfl (by kernel_rfl) (by kernel_rfl) (by kernel_rfl) (fun _ _ _ h => h) (Or.inl ⟨by rfl, ?_⟩) (by assumption) ?_; rotate_left; · (intro w hSw; (try dsimp only at hSw); go_simp; (first | done | with_reducible rfl)); (try simp only [Act.put, List.setIfInBounds_toArray, List.set_cons_zero, List.set_cons_succ]))
            (refine wpAnyH_take (i := 5) (v := ?_) rfl (by kernel_rfl) (by kernel_rfl) (by kernel_rfl) (fun _ _ _ h => h) (Or.inl ⟨by rfl, ?_⟩) (by assumption) ?_; rotate_left; · (intro w hSw; (try dsimp only at hSw); go_simp; (first | done | with_reducible rfl)); (try simp only [Act.put, List.setIfInBounds_toArray, List.set_cons_zero, List.set_cons_succ]))
            (refine wpAnyH_take (i := 6) (v := ?_) rfl (by kernel_rfl) (by kernel_rfl) (by kernel_rfl) (fun _ _ _ h => h) (Or.inl ⟨by rfl, ?_⟩) (by assumption) ?_; rotate_left; · (intro w hSw; (try dsimp only at hSw); go_simp; (first | done | with_reducible rfl)); (try simp only [Act.put, List.setIfInBounds_toArray, List.set_cons_zero, List.set_cons_succ]))
            (refine wpAnyH_take (i := 7) (v := ?_) rfl (by kernel_rfl) (by kernel_rfl) (by kernel_rfl) (fun _ _ _ h => h) (Or.inl ⟨by rfl, ?_⟩) (by assumption) ?_; rotate_left; · (intro w hSw; (try dsimp only at hSw); go_simp; (first | done | with_reducible rfl)); (try simp only [Act.put, List.setIfInBounds_toArray, List.set_cons_zero, List.set_cons_succ]))
            (refine wpAnyH_take (i := 8) (v := ?_) rfl (by kernel_rfl) (by kernel_rfl) (by kernel_rfl) (fun _ _ _ h => h) (Or.inl ⟨by rfl, ?_⟩) (by assumption) ?_; rotate_left; · (intro w hSw; (try dsimp only at hSw); go_simp; (first | done | with_reducible rfl)); (try simp only [Act.put, List.setIfInBounds_toArray, List.set_cons_zero, List.set_cons_succ]))
            (refine wpAnyH_take (i := 9) (v := ?_) rfl (by kernel_rfl) (by kernel_rfl) (by kernel_rfl) (fun _ _ _ h => h) (Or.inl ⟨by rfl, ?_⟩) (by assumption) ?_; rotate_left; · (intro w hSw; (try dsimp only at hSw); go_simp; (first | done | with_reducible rfl)); (try simp only [Act.put, List.setIfInBounds_toArray, List.set_cons_zero, List.set_cons_succ]))
            (refine wpAnyH_take (i := 10) (v := ?_) rfl (by kernel_rfl) (by kernel_rfl) (by kernel_rfl) (fun _ _ _ h => h) (Or.inl ⟨by rfl, ?_⟩) (by assumption) ?_; rotate_left; · (intro w hSw; (try dsimp only at hSw); go_simp; (first | done | with_reducible rfl)); (try simp only [Act.put, List.setIfInBounds_toArray, List.set_cons_zero, List.set_cons_succ]))
            (refine wpAnyH_take (i := 11) (v := ?_) rfl (by kernel_rfl) (by kernel_rfl) (by kernel_rfl) (fun _ _ _ h => h) (Or.inl ⟨by rfl, ?_⟩) (by assumption) ?_; rotate_left; · (intro w hSw; (try dsimp only at hSw); go_simp; (first | done | with_reducible rfl)); (try simp only [Act.put, List.setIfInBounds_toArray, List.set_cons_zero, List.set_cons_succ]))
            (refine wpAnyH_take (i := 12) (v := ?_) rfl (by kernel_rfl) (by kernel_rfl) (by kernel_rfl) (fun _ _ _ h => h) (Or.inl ⟨by rfl, ?_⟩) (by assumption) ?_; rotate_left; · (intro w hSw; (try dsimp only at hSw); go_simp; (first | done | with_reducible rfl)); (try simp only [Act.put, List.setIfInBounds_toArray, List.set_cons_zero, List.set_cons_succ]))
            (refine wpAnyH_take (i := 13) (v := ?_) rfl (by kernel_rfl) (by kernel_rfl) (by kernel_rfl) (fun _ _ _ h => h) (Or.inl ⟨by rfl, ?_⟩) (by assumption) ?_; rotate_left; · (intro w hSw; (try dsimp only at hSw); go_simp; (first | done | with_reducible rfl)); (try simp only [Act.put, List.setIfInBounds_toArray, List.set_cons_zero, List.set_cons_succ]))
            (refine wpAnyH_take (i := 15) (v := ?_) rfl (by kernel_rfl) (by kernel_rfl) (by kernel_rfl) (fun _ _ _ h => h) (Or.inl ⟨by rfl, ?_⟩) (by assumption) ?_; rotate_left; · (intro w hSw; (try dsimp only at hSw); go_simp; (first | done | with_reducible rfl)); (try simp only [Act.put, List.setIfInBounds_toArray, List.set_cons_zero, List.set_cons_succ]))
            refine wpAnyH_ready (rs := [14]) (by kernel_rfl) (by simp) ?_
            refine AllReadyH.cons rfl (fun K hK => ?_) AllReadyH.nil
            go_simp
            refine hK.out _ _ ⟨u0, u2⟩ (fun hHeld => ?_)
            clear hK K
            (try simp only [Act.put, List.setIfInBounds_toArray, List.set_cons_zero, List.set_cons_succ])
            (refine wpAnyH_take (i := 16) (v := ?_) rfl (by kernel_rfl) (by kernel_rfl) (by kernel_rfl) (fun _ _ _ h => h) (Or.inl ⟨by rfl, ?_⟩) (by assumption) ?_; rotate_left; · (intro w hSw; (try dsimp only at hSw); go_simp; (first | done | with_reducible rfl)); (try simp only [Act.put, List.setIfInBounds_toArray, List.set_cons_zero, List.set_cons_succ]))
            refine wpAnyH_ready (rs := [17]) (by kernel_rfl) (by simp) ?_
            refine AllReadyH.cons rfl (fun K hK => ?_) AllReadyH.nil
            refine step_append_rd rfl _ _ 26 rfl wx.heap.size 5 rfl rfl Try.underlying26 (by kernel_rfl) (show w2.drew.ownsRow wx.heap.size 5 1 (.slice A2 qq k2) qq _ from HO2.out) (HRO1.out.drew) (by omega) HBT.out.size 256 (by omega) ?_
            intro A3 c3 w3 hown3 hb3
            have HB3 : Hid (Below wx.heap.size w2 w3) := kept (below_of_drew hb3)
            have HBW3 : Hid (Below wr.heap.size wr w3) := kept (HB2W.out.trans (HB3.out.mono HBW.out.size))
            have n0 : w3.cell? ⟨r, 0, none⟩ = some (.slice (some ⟨pg, 0, none⟩) m pc) := (HBW3.out.cell (p := ⟨r, 0, none⟩) (World.block_lt_of_cell? wr _ Y0.out)).trans Y0.out
            have n1 : w3.cell? ⟨pg, q, none⟩ = some (.slice (some ⟨b0, 0, none⟩) 256 c0) := (HBW3.out.cell (p := ⟨pg, q, none⟩) (World.block_lt_of_cell? wr _ Y1.out)).trans Y1.out
            have n2 : w3.cell? ⟨wr.heap.size, 0, none⟩ = some (.int .i64 (q : Int)) := (HB3.out.cell (p := ⟨wr.heap.size, 0, none⟩) (Nat.lt_of_lt_of_le HBK.out.lt HBX.out.size)).trans u2
            have HST : Hid (RHead w base r R (FC l) (some ⟨g, 0, none⟩) cc (k + 1) (w3.setCell ⟨pg, q, none⟩ (.slice A3 256 c3)) ∧ w3.frozen? ⟨pg, q, none⟩ = false ∧ pg ≠ r) := kept (HR.out.step hk' HM.out HQ.out hqn HBW3.out Y0.out (by unfold FC; rw [HQQ.out, Int.toNat_natCast]; exact rowV_of_own hown3))
            have y3 : w3.frozen? ⟨pg, q, none⟩ = false := HST.out.2.1
            have m0 : (w3.setCell ⟨pg, q, none⟩ (.slice A3 256 c3)).cell? ⟨r, 0, none⟩ = some (.slice (some ⟨pg, 0, none⟩) m pc) := (World.cell?_setCell_other w3 ⟨pg, q, none⟩ ⟨r, 0, none⟩ _ (fun e => HST.out.2.2 (congrArg Addr.block e))).trans n0
            have m2 : (w3.setCell ⟨pg, q, none⟩ (.slice A3 256 c3)).cell? ⟨wr.heap.size, 0, none⟩ = some (.int .i64 (q : Int)) := (World.cell?_setCell_other w3 ⟨pg, q, none⟩ ⟨wr.heap.size, 0, none⟩ _ (fun e => absurd (congrArg Addr.block e) (Nat.ne_of_lt (World.block_lt_of_cell? wr _ Y1.out)))).trans n2
            clear hown3 hb3
            refine hK.out _ _ ⟨n0, n2⟩ (fun hHeld => ?_)
            clear hK K
            (try simp only [Act.put, List.setIfInBounds_toArray, List.set_cons_zero, List.set_cons_succ])
            (refine wpAnyH_take (i := 18) (v := ?_) rfl (by kernel_rfl) (by kernel_rfl) (by kernel_rfl) (fun _ _ _ h => h) (Or.inl ⟨by rfl, ?_⟩) (by assumption) ?_; rotate_left; · (intro w hSw; (try dsimp only at hSw); go_simp; (first | done | with_reducible rfl)); (try simp only [Act.put, List.setIfInBounds_toArray, List.set_cons_zero, List.set_cons_succ]))
            refine wpAnyH_ready (rs := [19]) (by kernel_rfl) (by simp) ?_
            refine AllReadyH.cons rfl (fun K hK => ?_) AllReadyH.nil
            go_simp
            refine hK.out _ _ ⟨m0, m2⟩ (fun hHeld => ?_)
            clear hK K
            (try simp only [Act.put, List.setIfInBounds_toArray, List.set_cons_zero, List.set_cons_succ])
            refine wpAnyH_done (by kernel_rfl) ?_ _
            go_wp2
            go_roundw
            case rel => exact ⟨k + 1, by omega, by go_num, kept HST.out.1⟩
            case measure => simp [intOf]; omega
    · obtain rfl : k = nc := by omega
      have HCL := kept (HR.out.1.clear)
      have v1 := HR.out.2.2
      have v2 := HR.out.1.fz 1
      have v3 := HR.out.1.fz 2
      have v4 := HR.out.1.fz 3
      obtain ⟨_, _, _, _, _, _, v5, v6, _⟩ := HR.out.1.cells
      have HTT := kept HR.out.2.1
      have T2 := ((Turned.refl (wr.setCell ⟨r, 1, none⟩ (.slice none 0 0)) (fun i => i = r)).cell_r 2 (.int .i64 (-1))).cell_r 3 (.bool false)
      have HF : Hid (RefD (((wr.setCell ⟨r, 1, none⟩ (.slice none 0 0)).setCell ⟨r, 2, none⟩ (.int .i64 (-1))).setCell ⟨r, 3, none⟩ (.bool false)) base r { R with pages := layAll (FC l) R.cache R.pages, cache := [], fuse := -1, dead := false } ∧ Turned w (((wr.setCell ⟨r, 1, none⟩ (.slice none 0 0)).setCell ⟨r, 2, none⟩ (.int .i64 (-1))).setCell ⟨r, 3, none⟩ (.bool false)) (RefK w base)) := kept (by
        have e : R.cache.take k = R.cache := List.take_of_length_le (by rw [HN.out]; exact Nat.le_refl _)
        have h1 := HCL.out.1
        rw [e] at h1
        refine ⟨h1.set (R' := { R with pages := layAll (FC l) R.cache R.pages, cache := [], fuse := -1, dead := false }) rfl rfl T2 (fun pv cv hb => by
          have := (hb.set_ 2 (.int .i64 (-1))).set_ 3 (.bool false)
          simpa using this), (HTT.out.ref_trans HCL.out.2).ref_trans (T2.ref_of h1)⟩)
      clear T2
      go_wp2
      go_end0
      exact ⟨rfl, HF⟩
end Go.Proofs.Ytfmljiidgaoihaa
