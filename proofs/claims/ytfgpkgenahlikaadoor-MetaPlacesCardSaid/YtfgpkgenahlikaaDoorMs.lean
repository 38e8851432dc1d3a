/-
  The document's own Decode and Choose of metas.
-/
import Derived.Test.YtfgpkgenahlikaaDoorMr
import Derived.Test.YtfgpkgenahlikaaDoorMc
namespace Go.Proofs.YtfgpkgenahlikaaDoor
open Go.ChangeShapes Go.WideShapes Go.ChangeAt Go.RowKit
set_option linter.unusedVariables false
set_option linter.unusedSimpArgs false

theorem refDecode_m_size (A : Option Addr) (n c : Nat) (w : World) (hn : n ≠ 256) :
    Calls Tryd.prog 31 #[.slice A n c] w fun e w' => e = .returned (.tuple #[zeroV5, .int .i64 4]) ∧ Below w.heap.size w w' := by
  have hb : ((n : Int) != 256) = true := by simp; omega
  clear hn
  go_enter Tryd.func31, Tryd.ntmps31
  go_wp2
  exact bodyPost_ret (v := .tuple #[zeroV5, .int .i64 4]) (by simp [results, Tryd.results31, go_sem]) rfl ⟨rfl, (Below.refl _ _).alloc (Nat.le_refl _) _⟩
theorem refOpen_256 (A : Option Addr) (c : Nat) (xs : List UInt8) (w : World) (hr : Rd w A 256 xs) (hc : 256 ≤ c) (hw : num (xs.take 4) 0 ≠ csum (xs.drop 4)) :
    Calls Tryd.prog 53 #[.slice A 256 c] w fun e w' => ∃ A' n' c', e = .returned (.tuple #[.slice A' n' c', .int .i64 6]) ∧ Below w.heap.size w w' := by
  have h := refOpen_long A 256 c xs w hr hc (by omega) (by omega) false (by rw [decide_eq_false_iff_not]; exact fun e => hw ((sealed_iff xs (by have := hr.1; omega)).1 e))
  refine h.mono ?_
  rintro e w' ⟨A', n', c', he, _, hb⟩
  exact ⟨A', n', c', he, hb⟩
theorem refOpen_good (A : Option Addr) (c : Nat) (xs : List UInt8) (w : World) (hr : Rd w A 256 xs) (hc : 256 ≤ c) (hw : num (xs.take 4) 0 = csum (xs.drop 4)) :
    Calls Tryd.prog 53 #[.slice A 256 c] w fun e w' => ∃ A' c', e = .returned (.tuple #[.slice A' 252 c', .int .i64 0]) ∧ Rd w' A' 252 (xs.drop 4) ∧ Below w.heap.size w w' := by
  have h := refOpen_long A 256 c xs w hr hc (by omega) (by omega) true (by rw [decide_eq_true_eq]; exact (sealed_iff xs (by have := hr.1; omega)).2 hw)
  refine h.mono ?_
  rintro e w' ⟨A', n', c', he, hd, hb⟩
  have hn : n' = 252 := by have := hd.1; simp only [if_true, List.length_drop, hr.1] at this; omega
  subst hn
  exact ⟨A', c', he, hd, hb⟩
theorem refDecode_m_sum (A : Option Addr) (c : Nat) (xs : List UInt8) (w : World) (hr : Rd w A 256 xs) (hc : 256 ≤ c) (hw : num (xs.take 4) 0 ≠ csum (xs.drop 4)) :
    Calls Tryd.prog 31 #[.slice A 256 c] w fun e w' => e = .returned (.tuple #[zeroV5, .int .i64 6]) ∧ Below w.heap.size w w' := by
  have HO := fun o => kept (refOpen_256 A c xs (w.alloc o) (hr.alloc o) hc hw)
  clear hr hw
  go_enter Tryd.func31, Tryd.ntmps31
  go_wp2_with fail
  with_reducible refine (HO _).out.mono ?_
  rintro e w1 ⟨A1, n1, c1, rfl, hb⟩
  have hblk := (Blk.new w 53 #[.int .u64 0, .int .i64 0, .int .i64 0, .int .i64 0]).below hb (by simp)
  have HBB := kept (bel_to hb ((Below.refl _ w).alloc (Nat.le_refl _) _))
  obtain ⟨e0, e1, e2, e3⟩ := hblk.fou
  have f0 := hblk.frozen 0
  have f1 := hblk.frozen 1
  have f2 := hblk.frozen 2
  have f3 := hblk.frozen 3
  have HBL := kept hblk
  clear hb hblk
  go_wp2
  have hx := store4 HBL.out HBB.out (Nat.le_refl _) (.int .u64 0) (.int .i64 0) (.int .i64 0) (.int .i64 0)
  generalize (((w1.setCell ⟨w.heap.size, 0, none⟩ (.int .u64 0)).setCell ⟨w.heap.size, 1, none⟩ (.int .i64 0)).setCell ⟨w.heap.size, 2, none⟩ (.int .i64 0)).setCell ⟨w.heap.size, 3, none⟩ (.int .i64 0) = X at hx ⊢
  obtain ⟨v0, v1, v2, v3, hbx⟩ := hx
  exact bodyPost_ret (v := .tuple #[zeroV5, .int .i64 6]) (by simp [results, Tryd.results31, go_sem, v0, v1, v2, v3]) rfl ⟨rfl, hbx⟩
/-- The three numbers' cells, the first k of them read. -/
def ncells (p : Nat → Nat) (k : Nat) : List Value := [.int .i64 (if 0 < k then (p 0 : Int) else 0), .int .i64 (if 1 < k then (p 1 : Int) else 0), .int .i64 (if 2 < k then (p 2 : Int) else 0)]
theorem ncells_next (p : Nat → Nat) (k : Nat) (h : k < 3) : (ncells p k).set k (.int .i64 (p k : Int)) = ncells p (k + 1) := by
  match k, h with
  | 0, _ => simp [ncells]
  | 1, _ => simp [ncells]
  | 2, _ => simp [ncells]
theorem ncells_get (p : Nat → Nat) (k : Nat) (h : k < 3) : ∃ v, (ncells p k)[k]? = some v := by
  match k, h with
  | 0, _ => exact ⟨_, rfl⟩
  | 1, _ => exact ⟨_, rfl⟩
  | 2, _ => exact ⟨_, rfl⟩
theorem refGet8 (A : Option Addr) (c : Nat) (ys : List UInt8) (w : World) (hr : Rd w A 252 ys) :
    Calls Tryd.prog 62 #[.slice A 252 c, .int .i64 1, .int .i64 8] w fun e w' => e = .returned (.tuple #[.int .u64 ((num (part ys 1 8) 0 : Nat) : Int), .int .i64 0]) ∧ w = w' :=
  refGet_ok A 252 c 1 8 ys w (by omega) (by omega) hr (by omega) (by omega)
theorem refGet4 (A : Option Addr) (c : Nat) (ys : List UInt8) (k : Nat) (hk : k < 3) (w : World) (hr : Rd w A 252 ys) :
    Calls Tryd.prog 62 #[.slice A 252 c, .int .i64 (14 + 4 * (k : Int)), .int .i64 4] w fun e w' => e = .returned (.tuple #[.int .u64 ((num (part ys (14 + 4 * k) 4) 0 : Nat) : Int), .int .i64 0]) ∧ w = w' := by
  have h := refGet_ok A 252 c (14 + 4 * k) 4 ys w (by omega) (by omega) hr (by omega) (by omega)
  have e : (((14 + 4 * k : Nat)) : Int) = 14 + 4 * (k : Int) := by omega
  rw [e] at h
  exact h
set_option maxRecDepth 100000 in
set_option maxHeartbeats 4000000 in
theorem refDecode_m_body (A : Option Addr) (c : Nat) (xs : List UInt8) (w : World) (hr : Rd w A 256 xs) (hc : 256 ≤ c) (hw : num (xs.take 4) 0 = csum (xs.drop 4)) :
    Calls Tryd.prog 31 #[.slice A 256 c] w fun e w' => e = .returned (.tuple #[(decM xs).1.val, .int .i64 (decM xs).2]) ∧ Below w.heap.size w w' := by
  have HO := fun o => kept (refOpen_good A c xs (w.alloc o) (hr.alloc o) hc hw)
  have HSI := kept (fun ys => sealed_ne (ys := ys) (zs := ys) hw (by have := hr.1; omega))
  have hyl : (xs.drop 4).length = 252 := by rw [List.length_drop, hr.1]
  have HD : Hid (decM xs = if rightM (readM (xs.drop 4)) && decide (bodyM (readM (xs.drop 4)) = xs.drop 4) then (readM (xs.drop 4), 0) else (zeroMt, 4)) := by
    show _ = _
    unfold decM
    rw [if_neg (by simpa using hr.1), if_neg (by simpa using hw)]
  obtain ⟨ys, hys⟩ : ∃ ys, xs.drop 4 = ys := ⟨_, rfl⟩
  rw [hys] at HO hyl HSI HD
  have htx := readM_txn hyl
  have HRM : Hid (readM ys = ⟨num (part ys 1 8) 0, ((num (part ys (14 + 4 * 0) 4) 0 : Nat) : Int), ((num (part ys (14 + 4 * 1) 4) 0 : Nat) : Int), ((num (part ys (14 + 4 * 2) 4) 0 : Nat) : Int)⟩) := rfl
  have HRT := fun W => kept (refRight_m (readM ys) W _ rfl)
  have HEN := fun W h => kept (refEncode_m (readM ys) W htx h)
  have hp32 : ∀ k, k < 3 → num (part ys (14 + 4 * k) 4) 0 < 4294967296 := fun k hk => num_part_lt ys (14 + 4 * k) 4 (by omega)
  have HP32 := kept hp32
  have HG8 := fun A c W h => kept (refGet8 A c ys W h)
  have HG4 := kept (fun A c k hk W h => refGet4 A c ys k hk W h)
  obtain ⟨p, hp⟩ : ∃ p : Nat → Nat, ∀ k, num (part ys (14 + 4 * k) 4) 0 = p k := ⟨_, fun _ => rfl⟩
  simp only [hp] at HRM HP32 HG4
  generalize num (part ys 1 8) 0 = p1 at HRM HG8
  generalize readM ys = m at HRM HRT HEN HD htx
  have HR := kept hr
  generalize decM xs = D at HD
  clear hr hw hys hp hp32 htx hyl
  go_enter Tryd.func31, Tryd.ntmps31
  go_wp2_with fail
  with_reducible refine (HO _).out.mono ?_
  rintro e w1 ⟨A1, c1, rfl, hd, hb⟩
  have HQ1 := kept ((Blk.new w 53 #[.int .u64 0, .int .i64 0, .int .i64 0, .int .i64 0]).below hb (by simp))
  have HB1 := kept (bel_to hb ((Below.refl _ w).alloc (Nat.le_refl _) _))
  have HD1 := kept hd
  have HG := fun o => kept (HG8 A1 c1 (w1.alloc o) (hd.alloc o)).out
  clear hd hb
  go_wp2_with fail
  with_reducible refine (HG _).out.mono ?_
  rintro e w2 ⟨rfl, rfl⟩
  have hx4 : ∀ W4 : World, W4 = (w1.alloc (.cells #[.int .u64 (p1 : Int), .int .i64 0, .int .i64 0, .int .i64 0] 53)).alloc (.cells #[.int .i64 0, .int .i64 0, .int .i64 0] 100) → Blk W4 (w1.heap.size + 1) 100 (ncells p 0) ∧ Blk W4 w1.heap.size 53 [.int .u64 (p1 : Int), .int .i64 0, .int .i64 0, .int .i64 0] ∧ Blk W4 w.heap.size 53 [.int .u64 0, .int .i64 0, .int .i64 0, .int .i64 0] ∧ Rd W4 A1 252 ys ∧ apartA A1 252 (w1.heap.size + 1) ∧ apartA A1 252 w1.heap.size ∧ Below w.heap.size w W4 ∧ W4.heap.size = w1.heap.size + 2 := by
    intro W4 e
    have hn := Blk.new (w1.alloc (.cells #[.int .u64 (p1 : Int), .int .i64 0, .int .i64 0, .int .i64 0] 53)) 100 #[.int .i64 0, .int .i64 0, .int .i64 0]
    rw [World.size_alloc] at hn
    rw [e]
    refine ⟨hn, (Blk.new w1 53 #[.int .u64 (p1 : Int), .int .i64 0, .int .i64 0, .int .i64 0]).alloc _, (HQ1.out.alloc _).alloc _, (HD1.out.alloc _).alloc _, HD1.out.fresh (Nat.le_succ _), HD1.out.fresh (Nat.le_refl _), (HB1.out.alloc HB1.out.size _).alloc (Nat.le_trans HB1.out.size (by simp)) _, by simp⟩
  have HX4 := kept hx4
  clear hx4
  go_wp2
  obtain ⟨W4, hW4⟩ : ∃ W4, W4 = (w1.alloc (.cells #[.int .u64 (p1 : Int), .int .i64 0, .int .i64 0, .int .i64 0] 53)).alloc (.cells #[.int .i64 0, .int .i64 0, .int .i64 0] 100) := ⟨_, rfl⟩
  rw [← hW4]
  have HY := kept (HX4.out W4 hW4)
  have HLQ := kept HQ1.out.lt
  clear hW4 HX4
  generalize w1.heap.size = g at HY HLQ ⊢
  go_loopw [32] (fun i wr => ∃ k : Nat, k ≤ 3 ∧ i = .int .i64 k ∧ Hid (Only W4 wr (g + 1) ∧ Blk wr (g + 1) 100 (ncells p k))) (fun i _ => 3 - (intOf i).toNat)
  case atStart => exact ⟨0, by omega, rfl, kept ⟨Only.refl _ _, HY.out.1⟩⟩
  case round =>
    obtain ⟨k, hk, rfl, HRL⟩ := hrel
    by_cases hlt : k < 3
    · have HG4k := kept (fun c => HG4.out A1 c k hlt wr (HY.out.2.2.2.1.only HY.out.2.2.2.2.1 HRL.out.1))
      obtain ⟨v, hv⟩ := ncells_get p k hlt
      have hc : wr.cell? ⟨g + 1, k, none⟩ = some v := (HRL.out.2.cell k).trans hv
      have hf := HRL.out.2.frozen k
      have HNX := kept (ncells_next p k hlt)
      have hpk := HP32.out k hlt
      generalize p k = pk at HNX hpk HG4k
      have hw32 : IntKind.i64.wrap (pk : Int) = (pk : Int) := IntWalk.i64_in _ ⟨by omega, by omega⟩
      have HN2 : Hid (Only W4 (wr.setCell ⟨g + 1, k, none⟩ (.int .i64 (pk : Int))) (g + 1) ∧ Blk (wr.setCell ⟨g + 1, k, none⟩ (.int .i64 (pk : Int))) (g + 1) 100 (ncells p (k + 1))) := kept ⟨HRL.out.1.setCell k _, by rw [← HNX.out]; exact HRL.out.2.set_ k _⟩
      clear hv hpk
      go_wp2_with fail
      with_reducible refine (HG4k.out _).mono ?_
      rintro e w5 ⟨rfl, rfl⟩
      go_wp2
      go_roundw
      case rel => exact ⟨k + 1, by omega, by go_num, HN2⟩
      case measure => simp [intOf]; omega
    · obtain rfl : k = 3 := by omega
      have hq := HY.out.2.2.1.only HRL.out.1 (by have := HLQ.out; show w.heap.size ≠ g + 1; omega)
      have hm := HY.out.2.1.only HRL.out.1 (by show g ≠ g + 1; omega)
      have hb := HRL.out.1.below HY.out.2.2.2.2.2.2.1 HY.out.2.2.2.2.2.2.1.size (by have := HLQ.out; omega)
      have c0 : wr.cell? ⟨g + 1, 0, none⟩ = some (.int .i64 (p 0 : Int)) := HRL.out.2.cell 0
      have c1' : wr.cell? ⟨g + 1, 1, none⟩ = some (.int .i64 (p 1 : Int)) := HRL.out.2.cell 1
      have c2' : wr.cell? ⟨g + 1, 2, none⟩ = some (.int .i64 (p 2 : Int)) := HRL.out.2.cell 2
      have hne : g + 1 ≠ g := by omega
      obtain ⟨m0, m1, m2, m3⟩ := hm.fou
      have k1 := hm.frozen 1
      have k2 := hm.frozen 2
      have k3 := hm.frozen 3
      have hm' := ((hm.set_ 1 (.int .i64 (p 0 : Int))).set_ 2 (.int .i64 (p 1 : Int))).set_ 3 (.int .i64 (p 2 : Int))
      have hq' := ((hq.far (p := ⟨g, 1, none⟩) (Nat.ne_of_lt HLQ.out) (.int .i64 (p 0 : Int))).far (p := ⟨g, 2, none⟩) (Nat.ne_of_lt HLQ.out) (.int .i64 (p 1 : Int))).far (p := ⟨g, 3, none⟩) (Nat.ne_of_lt HLQ.out) (.int .i64 (p 2 : Int))
      have hb' := ((hb.setCell (p := ⟨g, 1, none⟩) (Nat.le_of_lt HLQ.out) (.int .i64 (p 0 : Int))).setCell (p := ⟨g, 2, none⟩) (Nat.le_of_lt HLQ.out) (.int .i64 (p 1 : Int))).setCell (p := ⟨g, 3, none⟩) (Nat.le_of_lt HLQ.out) (.int .i64 (p 2 : Int))
      have HM5 := kept (show Blk _ _ _ [.int .u64 (p1 : Int), .int .i64 (p 0 : Int), .int .i64 (p 1 : Int), .int .i64 (p 2 : Int)] from hm')
      have HQ5 := kept hq'
      have HB5 := kept hb'
      obtain ⟨mt, mr, ms, mz⟩ := m
      obtain ⟨rfl, rfl, rfl, rfl⟩ : mt = p1 ∧ mr = (p 0 : Int) ∧ ms = (p 1 : Int) ∧ mz = (p 2 : Int) := by
        have h := HRM.out
        simp only [Mt.mk.injEq] at h
        exact h
      clear hq hm hb hm' hq' hb'
      go_wp2_with fail
      generalize ((wr.setCell ⟨g, 1, none⟩ (.int .i64 (p 0 : Int))).setCell ⟨g, 2, none⟩ (.int .i64 (p 1 : Int))).setCell ⟨g, 3, none⟩ (.int .i64 (p 2 : Int)) = W5 at HM5 HQ5 HB5 ⊢
      clear c0 c1' c2' m0 m1 m2 m3 k1 k2 k3 HRL HY
      generalize ((p 0 : Nat) : Int) = r at HM5 HRT HEN HD ⊢
      generalize ((p 1 : Nat) : Int) = s at HM5 HRT HEN HD ⊢
      generalize ((p 2 : Nat) : Int) = z at HM5 HRT HEN HD ⊢
      with_reducible refine (HRT _).out.mono ?_
      rintro e w7 ⟨rfl, hb⟩
      have hm7 := HM5.out.below hb HM5.out.lt
      have hq7 := HQ5.out.below hb HQ5.out.lt
      have HB7 := kept (bel_to hb HB5.out)
      obtain ⟨n0, n1, n2, n3⟩ := hm7.fou
      have HN7 := kept hm7.fou
      have HQ7 := kept hq7
      clear hb hm7 hq7 HRT
      cases hbr : rightM ⟨mt, r, s, z⟩
      · have HDD : Hid (D = (zeroMt, 4)) := by show _ = _; rw [HD.out, if_neg (by simp [hbr])]
        obtain ⟨e0, e1, e2, e3⟩ := HQ7.out.fou
        have f0 := HQ7.out.frozen 0
        have f1 := HQ7.out.frozen 1
        have f2 := HQ7.out.frozen 2
        have f3 := HQ7.out.frozen 3
        clear hbr HEN HD HSI
        go_wp2
        have hx := store4 HQ7.out HB7.out (Nat.le_refl _) (.int .u64 0) (.int .i64 0) (.int .i64 0) (.int .i64 0)
        generalize (((w7.setCell ⟨w.heap.size, 0, none⟩ (.int .u64 0)).setCell ⟨w.heap.size, 1, none⟩ (.int .i64 0)).setCell ⟨w.heap.size, 2, none⟩ (.int .i64 0)).setCell ⟨w.heap.size, 3, none⟩ (.int .i64 0) = X at hx ⊢
        obtain ⟨v0, v1, v2, v3, hbx⟩ := hx
        exact bodyPost_ret (v := .tuple #[zeroV5, .int .i64 4]) (by simp [results, Tryd.results31, go_sem, v0, v1, v2, v3]) rfl ⟨by rw [HDD.out]; rfl, hbx⟩
      · have HE := fun W => HEN W hbr
        by_cases hbd : bodyM ⟨mt, r, s, z⟩ = ys
        · have HDD : Hid (D = (⟨mt, r, s, z⟩, 0)) := by show _ = _; rw [HD.out, if_pos (by simp [hbr, hbd])]
          have HEQ := fun A1 B1 c1 d1 W h1 h2 => kept (same_any A1 B1 256 256 c1 d1 (sealed (bodyM ⟨mt, r, s, z⟩)) xs W h1 h2 true (by rw [decide_eq_true_eq]; exact (HSI.out _).2 hbd))
          clear hbr hbd HEN HD HSI
          go_wp2_with fail
          with_reducible refine (HE _).out.mono ?_
          rintro e w8 ⟨A8, c8, rfl, hown, hb⟩
          have hb8 := bel_to hb HB7.out
          have hq8 := HQ7.out.below hb HQ7.out.lt
          clear n0 n1 n2 n3
          obtain ⟨n0, n1, n2, n3⟩ := HN7.out.keeps (Keeps.of_below hb)
          have HEE := kept (HEQ _ A c8 c w8 (Rd.of_own hown) (HR.out.below hb8)).out
          obtain ⟨e0, e1, e2, e3⟩ := hq8.fou
          have f0 := hq8.frozen 0
          have f1 := hq8.frozen 1
          have f2 := hq8.frozen 2
          have f3 := hq8.frozen 3
          have hne2 : g ≠ w.heap.size := by have := HLQ.out; omega
          have HQ8 := kept hq8
          have HB8 := kept hb8
          clear hown hb hb8 hq8
          go_wp2_with (first | (go_at_call 18; (with_reducible refine (HEE.out).mono ?_); rintro e w9 ⟨rfl, rfl⟩))
          have hx := store4 HQ8.out HB8.out (Nat.le_refl _) (.int .u64 (mt : Int)) (.int .i64 r) (.int .i64 s) (.int .i64 z)
          generalize (((w8.setCell ⟨w.heap.size, 0, none⟩ (.int .u64 (mt : Int))).setCell ⟨w.heap.size, 1, none⟩ (.int .i64 r)).setCell ⟨w.heap.size, 2, none⟩ (.int .i64 s)).setCell ⟨w.heap.size, 3, none⟩ (.int .i64 z) = X at hx ⊢
          obtain ⟨v0, v1, v2, v3, hbx⟩ := hx
          exact bodyPost_ret (v := .tuple #[.agg #[.int .u64 (mt : Int), .int .i64 r, .int .i64 s, .int .i64 z], .int .i64 0]) (by simp [results, Tryd.results31, go_sem, v0, v1, v2, v3]) rfl ⟨by rw [HDD.out], hbx⟩
        · have HDD : Hid (D = (zeroMt, 4)) := by show _ = _; rw [HD.out, if_neg (by simp [hbd])]
          have HEQ := fun A1 B1 c1 d1 W h1 h2 => kept (same_any A1 B1 256 256 c1 d1 (sealed (bodyM ⟨mt, r, s, z⟩)) xs W h1 h2 false (by rw [decide_eq_false_iff_not]; exact fun e => hbd ((HSI.out _).1 e)))
          clear hbr hbd HEN HD HSI
          go_wp2_with fail
          with_reducible refine (HE _).out.mono ?_
          rintro e w8 ⟨A8, c8, rfl, hown, hb⟩
          have hb8 := bel_to hb HB7.out
          have hq8 := HQ7.out.below hb HQ7.out.lt
          clear n0 n1 n2 n3
          have HEE := kept (HEQ _ A c8 c w8 (Rd.of_own hown) (HR.out.below hb8)).out
          obtain ⟨e0, e1, e2, e3⟩ := hq8.fou
          have f0 := hq8.frozen 0
          have f1 := hq8.frozen 1
          have f2 := hq8.frozen 2
          have f3 := hq8.frozen 3
          have HQ8 := kept hq8
          have HB8 := kept hb8
          clear hown hb hb8 hq8
          go_wp2_with (first | (go_at_call 18; (with_reducible refine (HEE.out).mono ?_); rintro e w9 ⟨rfl, rfl⟩))
          have hx := store4 HQ8.out HB8.out (Nat.le_refl _) (.int .u64 0) (.int .i64 0) (.int .i64 0) (.int .i64 0)
          generalize (((w8.setCell ⟨w.heap.size, 0, none⟩ (.int .u64 0)).setCell ⟨w.heap.size, 1, none⟩ (.int .i64 0)).setCell ⟨w.heap.size, 2, none⟩ (.int .i64 0)).setCell ⟨w.heap.size, 3, none⟩ (.int .i64 0) = X at hx ⊢
          obtain ⟨v0, v1, v2, v3, hbx⟩ := hx
          exact bodyPost_ret (v := .tuple #[zeroV5, .int .i64 4]) (by simp [results, Tryd.results31, go_sem, v0, v1, v2, v3]) rfl ⟨by rw [HDD.out]; rfl, hbx⟩
theorem refDecode_m (A : Option Addr) (n c : Nat) (xs : List UInt8) (w : World) (hr : Rd w A n xs) (hc : n ≤ c) :
    Calls Tryd.prog 31 #[.slice A n c] w fun e w' => e = .returned (.tuple #[(decM xs).1.val, .int .i64 (decM xs).2]) ∧ Below w.heap.size w w' := by
  by_cases hn : n = 256
  · subst hn
    by_cases hw : num (xs.take 4) 0 = csum (xs.drop 4)
    · exact refDecode_m_body A c xs w hr hc hw
    · have e : decM xs = (zeroMt, 6) := by unfold decM; rw [if_neg (by simpa using hr.1), if_pos hw]
      rw [e]
      exact refDecode_m_sum A c xs w hr hc hw
  · have e : decM xs = (zeroMt, 4) := by unfold decM; rw [if_pos (by rw [hr.1]; exact hn)]
    rw [e]
    exact refDecode_m_size A n c w hn
set_option maxRecDepth 100000 in
set_option maxHeartbeats 4000000 in
theorem refChoose_m (A B : Option Addr) (n m c d : Nat) (xs ys : List UInt8) (w : World) (hr : Rd w A n xs) (hc : n ≤ c) (hs : Rd w B m ys) (hd : m ≤ d) :
    Calls Tryd.prog 33 #[.slice A n c, .slice B m d] w fun e w' => e = .returned (.tuple #[(chooseM xs ys).1.val, .int .i64 (chooseM xs ys).2]) ∧ Below w.heap.size w w' := by
  have HE := fun o => kept (refDecode_m A n c xs (w.alloc o) (hr.alloc o) hc)
  have HR := kept hs
  have HO := fun W h1 => kept (refDecode_m B m d ys W h1 hd)
  have HC : Hid (chooseM xs ys = if (standM ys 1).2 && (!(standM xs 0).2 || decide ((standM xs 0).1.txn < (standM ys 1).1.txn)) then ((standM ys 1).1, 0) else if (standM xs 0).2 then ((standM xs 0).1, 0) else (zeroMt, 7)) := rfl
  have HSE : Hid (standM xs 0 = if (decM xs).2 = 0 ∧ (((decM xs).1.txn % 2 : Nat) : Int) = 0 then ((decM xs).1, true) else (zeroMt, false)) := rfl
  have HSO : Hid (standM ys 1 = if (decM ys).2 = 0 ∧ (((decM ys).1.txn % 2 : Nat) : Int) = 1 then ((decM ys).1, true) else (zeroMt, false)) := rfl
  generalize chooseM xs ys = C at HC
  generalize standM xs 0 = SE at HSE HC
  generalize standM ys 1 = SO at HSO HC
  generalize decM xs = E at HE HSE
  generalize decM ys = O at HO HSO
  obtain ⟨⟨t, r, s, z⟩, e0⟩ := E
  obtain ⟨⟨t', r', s', z'⟩, f0'⟩ := O
  simp only at HE HO HSE HSO
  clear hr hs
  go_enter Tryd.func33, Tryd.ntmps33
  go_wp2_with fail
  with_reducible refine (HE _).out.mono ?_
  rintro e w1 ⟨rfl, hb⟩
  have HQ1 := kept ((Blk.new w 53 #[.int .u64 0, .int .i64 0, .int .i64 0, .int .i64 0]).below hb (by simp))
  have HB1 := kept (bel_to hb ((Below.refl _ w).alloc (Nat.le_refl _) _))
  have HN1 := kept (fou_new w1 53 t r s z)
  have HB1a := fun o => kept (HB1.out.alloc HB1.out.size o)
  have HOO := fun o => kept (HO (w1.alloc o) (HR.out.below (HB1a o).out)).out
  clear hb
  go_wp2_with fail
  with_reducible refine (HOO _).out.mono ?_
  rintro e w2 ⟨rfl, hb⟩
  have hq2 := (HQ1.out.alloc _).below hb (HQ1.out.alloc _).lt
  have hn2 := HN1.out.keeps (Keeps.of_below hb)
  have hb2 := bel_to hb (HB1a _).out
  have hlt1 : w1.heap.size < w2.heap.size := by have := hb.size; rw [World.size_alloc] at this; omega
  have hne1 : w.heap.size ≠ w1.heap.size := by have := HQ1.out.lt; omega
  have hne2 : w.heap.size ≠ w2.heap.size := by have := HQ1.out.lt; omega
  have hne3 : w1.heap.size ≠ w2.heap.size := by omega
  have HBX := fun o => kept (hb2.alloc hb2.size o)
  have HQX := fun o => kept (hq2.alloc o)
  obtain ⟨n0, n1, n2, n3⟩ := hn2.keeps (Keeps.alloc w2 (.cells #[.int .u64 (t' : Int), .int .i64 r', .int .i64 s', .int .i64 z'] 53))
  obtain ⟨e0_, e1_, e2_, e3_⟩ := (HQX (.cells #[.int .u64 (t' : Int), .int .i64 r', .int .i64 s', .int .i64 z'] 53)).out.fou
  have f0 := (HQX (.cells #[.int .u64 (t' : Int), .int .i64 r', .int .i64 s', .int .i64 z'] 53)).out.frozen 0
  have f1 := (HQX (.cells #[.int .u64 (t' : Int), .int .i64 r', .int .i64 s', .int .i64 z'] 53)).out.frozen 1
  have f2 := (HQX (.cells #[.int .u64 (t' : Int), .int .i64 r', .int .i64 s', .int .i64 z'] 53)).out.frozen 2
  have f3 := (HQX (.cells #[.int .u64 (t' : Int), .int .i64 r', .int .i64 s', .int .i64 z'] 53)).out.frozen 3
  clear hb hq2 hn2 hb2 HE HO HOO
  have hEc : (e0 ≠ 0 ∧ Hid (SE = (zeroMt, false))) ∨ (e0 = 0 ∧ t % 2 = 1 ∧ Hid (SE = (zeroMt, false))) ∨ (e0 = 0 ∧ t % 2 = 0 ∧ Hid (SE = (⟨t, r, s, z⟩, true))) := by
    by_cases h : e0 = 0
    · by_cases h2 : t % 2 = 0
      · exact .inr (.inr ⟨h, h2, kept (by rw [HSE.out, if_pos ⟨h, by omega⟩])⟩)
      · exact .inr (.inl ⟨h, by omega, kept (by rw [HSE.out, if_neg (fun k => h2 (by omega))])⟩)
    · exact .inl ⟨h, kept (by rw [HSE.out, if_neg (fun k => h k.1)])⟩
  have hOc : (f0' ≠ 0 ∧ Hid (SO = (zeroMt, false))) ∨ (f0' = 0 ∧ t' % 2 = 0 ∧ Hid (SO = (zeroMt, false))) ∨ (f0' = 0 ∧ t' % 2 = 1 ∧ Hid (SO = (⟨t', r', s', z'⟩, true))) := by
    by_cases h : f0' = 0
    · by_cases h2 : t' % 2 = 1
      · exact .inr (.inr ⟨h, h2, kept (by rw [HSO.out, if_pos ⟨h, by omega⟩])⟩)
      · exact .inr (.inl ⟨h, by omega, kept (by rw [HSO.out, if_neg (fun k => h2 (by omega))])⟩)
    · exact .inl ⟨h, kept (by rw [HSO.out, if_neg (fun k => h k.1)])⟩
  clear HSE HSO
  rcases hEc with ⟨hE, HS1⟩ | ⟨rfl, hp, HS1⟩ | ⟨rfl, hp, HS1⟩ <;> rcases hOc with ⟨hF, HS2⟩ | ⟨rfl, hp', HS2⟩ | ⟨rfl, hp', HS2⟩
  · have hE1 : (e0 == 0) = false := by rw [beq_eq_false_iff_ne]; exact hE
    have hF1 : (f0' == 0) = false := by rw [beq_eq_false_iff_ne]; exact hF
    have HCC : Hid (C = (zeroMt, 7)) := kept (by rw [HC.out, HS1.out, HS2.out]; simp)
    go_wp2
    have hx := store4 (HQX (.cells #[.int .u64 (t' : Int), .int .i64 r', .int .i64 s', .int .i64 z'] 53)).out (HBX _).out (Nat.le_refl _) (.int .u64 0) (.int .i64 0) (.int .i64 0) (.int .i64 0)
    generalize ((((w2.alloc (.cells #[.int .u64 (t' : Int), .int .i64 r', .int .i64 s', .int .i64 z'] 53)).setCell ⟨w.heap.size, 0, none⟩ (.int .u64 0)).setCell ⟨w.heap.size, 1, none⟩ (.int .i64 0)).setCell ⟨w.heap.size, 2, none⟩ (.int .i64 0)).setCell ⟨w.heap.size, 3, none⟩ (.int .i64 0) = X at hx ⊢
    obtain ⟨v0, v1, v2, v3, hbx⟩ := hx
    exact bodyPost_ret (v := .tuple #[zeroV5, .int .i64 7]) (by simp [results, Tryd.results33, go_sem, v0, v1, v2, v3]) rfl ⟨by rw [HCC.out]; rfl, hbx⟩
  · have hE1 : (e0 == 0) = false := by rw [beq_eq_false_iff_ne]; exact hE
    have hF1 : (t' : Int) % 2 = 0 := by omega
    have HCC : Hid (C = (zeroMt, 7)) := kept (by rw [HC.out, HS1.out, HS2.out]; simp)
    go_wp2
    have hx := store4 (HQX (.cells #[.int .u64 (t' : Int), .int .i64 r', .int .i64 s', .int .i64 z'] 53)).out (HBX _).out (Nat.le_refl _) (.int .u64 0) (.int .i64 0) (.int .i64 0) (.int .i64 0)
    generalize ((((w2.alloc (.cells #[.int .u64 (t' : Int), .int .i64 r', .int .i64 s', .int .i64 z'] 53)).setCell ⟨w.heap.size, 0, none⟩ (.int .u64 0)).setCell ⟨w.heap.size, 1, none⟩ (.int .i64 0)).setCell ⟨w.heap.size, 2, none⟩ (.int .i64 0)).setCell ⟨w.heap.size, 3, none⟩ (.int .i64 0) = X at hx ⊢
    obtain ⟨v0, v1, v2, v3, hbx⟩ := hx
    exact bodyPost_ret (v := .tuple #[zeroV5, .int .i64 7]) (by simp [results, Tryd.results33, go_sem, v0, v1, v2, v3]) rfl ⟨by rw [HCC.out]; rfl, hbx⟩
  · have hE1 : (e0 == 0) = false := by rw [beq_eq_false_iff_ne]; exact hE
    have hF1 : (t' : Int) % 2 = 1 := by omega
    have HCC : Hid (C = (⟨t', r', s', z'⟩, 0)) := kept (by rw [HC.out, HS1.out, HS2.out]; simp)
    go_wp2
    have hx := store4 (HQX (.cells #[.int .u64 (t' : Int), .int .i64 r', .int .i64 s', .int .i64 z'] 53)).out (HBX _).out (Nat.le_refl _) (.int .u64 (t' : Int)) (.int .i64 r') (.int .i64 s') (.int .i64 z')
    generalize ((((w2.alloc (.cells #[.int .u64 (t' : Int), .int .i64 r', .int .i64 s', .int .i64 z'] 53)).setCell ⟨w.heap.size, 0, none⟩ (.int .u64 (t' : Int))).setCell ⟨w.heap.size, 1, none⟩ (.int .i64 r')).setCell ⟨w.heap.size, 2, none⟩ (.int .i64 s')).setCell ⟨w.heap.size, 3, none⟩ (.int .i64 z') = X at hx ⊢
    obtain ⟨v0, v1, v2, v3, hbx⟩ := hx
    exact bodyPost_ret (v := .tuple #[.agg #[.int .u64 (t' : Int), .int .i64 r', .int .i64 s', .int .i64 z'], .int .i64 0]) (by simp [results, Tryd.results33, go_sem, v0, v1, v2, v3]) rfl ⟨by rw [HCC.out], hbx⟩
  · have hE1 : (t : Int) % 2 = 1 := by omega
    have hF1 : (f0' == 0) = false := by rw [beq_eq_false_iff_ne]; exact hF
    have HCC : Hid (C = (zeroMt, 7)) := kept (by rw [HC.out, HS1.out, HS2.out]; simp)
    go_wp2
    have hx := store4 (HQX (.cells #[.int .u64 (t' : Int), .int .i64 r', .int .i64 s', .int .i64 z'] 53)).out (HBX _).out (Nat.le_refl _) (.int .u64 0) (.int .i64 0) (.int .i64 0) (.int .i64 0)
    generalize ((((w2.alloc (.cells #[.int .u64 (t' : Int), .int .i64 r', .int .i64 s', .int .i64 z'] 53)).setCell ⟨w.heap.size, 0, none⟩ (.int .u64 0)).setCell ⟨w.heap.size, 1, none⟩ (.int .i64 0)).setCell ⟨w.heap.size, 2, none⟩ (.int .i64 0)).setCell ⟨w.heap.size, 3, none⟩ (.int .i64 0) = X at hx ⊢
    obtain ⟨v0, v1, v2, v3, hbx⟩ := hx
    exact bodyPost_ret (v := .tuple #[zeroV5, .int .i64 7]) (by simp [results, Tryd.results33, go_sem, v0, v1, v2, v3]) rfl ⟨by rw [HCC.out]; rfl, hbx⟩
  · have hE1 : (t : Int) % 2 = 1 := by omega
    have hF1 : (t' : Int) % 2 = 0 := by omega
    have HCC : Hid (C = (zeroMt, 7)) := kept (by rw [HC.out, HS1.out, HS2.out]; simp)
    go_wp2
    have hx := store4 (HQX (.cells #[.int .u64 (t' : Int), .int .i64 r', .int .i64 s', .int .i64 z'] 53)).out (HBX _).out (Nat.le_refl _) (.int .u64 0) (.int .i64 0) (.int .i64 0) (.int .i64 0)
    generalize ((((w2.alloc (.cells #[.int .u64 (t' : Int), .int .i64 r', .int .i64 s', .int .i64 z'] 53)).setCell ⟨w.heap.size, 0, none⟩ (.int .u64 0)).setCell ⟨w.heap.size, 1, none⟩ (.int .i64 0)).setCell ⟨w.heap.size, 2, none⟩ (.int .i64 0)).setCell ⟨w.heap.size, 3, none⟩ (.int .i64 0) = X at hx ⊢
    obtain ⟨v0, v1, v2, v3, hbx⟩ := hx
    exact bodyPost_ret (v := .tuple #[zeroV5, .int .i64 7]) (by simp [results, Tryd.results33, go_sem, v0, v1, v2, v3]) rfl ⟨by rw [HCC.out]; rfl, hbx⟩
  · have hE1 : (t : Int) % 2 = 1 := by omega
    have hF1 : (t' : Int) % 2 = 1 := by omega
    have HCC : Hid (C = (⟨t', r', s', z'⟩, 0)) := kept (by rw [HC.out, HS1.out, HS2.out]; simp)
    go_wp2
    have hx := store4 (HQX (.cells #[.int .u64 (t' : Int), .int .i64 r', .int .i64 s', .int .i64 z'] 53)).out (HBX _).out (Nat.le_refl _) (.int .u64 (t' : Int)) (.int .i64 r') (.int .i64 s') (.int .i64 z')
    generalize ((((w2.alloc (.cells #[.int .u64 (t' : Int), .int .i64 r', .int .i64 s', .int .i64 z'] 53)).setCell ⟨w.heap.size, 0, none⟩ (.int .u64 (t' : Int))).setCell ⟨w.heap.size, 1, none⟩ (.int .i64 r')).setCell ⟨w.heap.size, 2, none⟩ (.int .i64 s')).setCell ⟨w.heap.size, 3, none⟩ (.int .i64 z') = X at hx ⊢
    obtain ⟨v0, v1, v2, v3, hbx⟩ := hx
    exact bodyPost_ret (v := .tuple #[.agg #[.int .u64 (t' : Int), .int .i64 r', .int .i64 s', .int .i64 z'], .int .i64 0]) (by simp [results, Tryd.results33, go_sem, v0, v1, v2, v3]) rfl ⟨by rw [HCC.out], hbx⟩
  · have hE1 : (t : Int) % 2 = 0 := by omega
    have hF1 : (f0' == 0) = false := by rw [beq_eq_false_iff_ne]; exact hF
    have HCC : Hid (C = (⟨t, r, s, z⟩, 0)) := kept (by rw [HC.out, HS1.out, HS2.out]; simp)
    go_wp2
    have hx := store4 (HQX (.cells #[.int .u64 (t' : Int), .int .i64 r', .int .i64 s', .int .i64 z'] 53)).out (HBX _).out (Nat.le_refl _) (.int .u64 (t : Int)) (.int .i64 r) (.int .i64 s) (.int .i64 z)
    generalize ((((w2.alloc (.cells #[.int .u64 (t' : Int), .int .i64 r', .int .i64 s', .int .i64 z'] 53)).setCell ⟨w.heap.size, 0, none⟩ (.int .u64 (t : Int))).setCell ⟨w.heap.size, 1, none⟩ (.int .i64 r)).setCell ⟨w.heap.size, 2, none⟩ (.int .i64 s)).setCell ⟨w.heap.size, 3, none⟩ (.int .i64 z) = X at hx ⊢
    obtain ⟨v0, v1, v2, v3, hbx⟩ := hx
    exact bodyPost_ret (v := .tuple #[.agg #[.int .u64 (t : Int), .int .i64 r, .int .i64 s, .int .i64 z], .int .i64 0]) (by simp [results, Tryd.results33, go_sem, v0, v1, v2, v3]) rfl ⟨by rw [HCC.out], hbx⟩
  · have hE1 : (t : Int) % 2 = 0 := by omega
    have hF1 : (t' : Int) % 2 = 0 := by omega
    have HCC : Hid (C = (⟨t, r, s, z⟩, 0)) := kept (by rw [HC.out, HS1.out, HS2.out]; simp)
    go_wp2
    have hx := store4 (HQX (.cells #[.int .u64 (t' : Int), .int .i64 r', .int .i64 s', .int .i64 z'] 53)).out (HBX _).out (Nat.le_refl _) (.int .u64 (t : Int)) (.int .i64 r) (.int .i64 s) (.int .i64 z)
    generalize ((((w2.alloc (.cells #[.int .u64 (t' : Int), .int .i64 r', .int .i64 s', .int .i64 z'] 53)).setCell ⟨w.heap.size, 0, none⟩ (.int .u64 (t : Int))).setCell ⟨w.heap.size, 1, none⟩ (.int .i64 r)).setCell ⟨w.heap.size, 2, none⟩ (.int .i64 s)).setCell ⟨w.heap.size, 3, none⟩ (.int .i64 z) = X at hx ⊢
    obtain ⟨v0, v1, v2, v3, hbx⟩ := hx
    exact bodyPost_ret (v := .tuple #[.agg #[.int .u64 (t : Int), .int .i64 r, .int .i64 s, .int .i64 z], .int .i64 0]) (by simp [results, Tryd.results33, go_sem, v0, v1, v2, v3]) rfl ⟨by rw [HCC.out], hbx⟩
  · have hE1 : (t : Int) % 2 = 0 := by omega
    have hF1 : (t' : Int) % 2 = 1 := by omega
    by_cases hlt : t' < t
    · have HCC : Hid (C = (⟨t, r, s, z⟩, 0)) := kept (by rw [HC.out, HS1.out, HS2.out]; simp; omega)
      go_wp2
      have hx := store4 (HQX (.cells #[.int .u64 (t' : Int), .int .i64 r', .int .i64 s', .int .i64 z'] 53)).out (HBX _).out (Nat.le_refl _) (.int .u64 (t : Int)) (.int .i64 r) (.int .i64 s) (.int .i64 z)
      generalize ((((w2.alloc (.cells #[.int .u64 (t' : Int), .int .i64 r', .int .i64 s', .int .i64 z'] 53)).setCell ⟨w.heap.size, 0, none⟩ (.int .u64 (t : Int))).setCell ⟨w.heap.size, 1, none⟩ (.int .i64 r)).setCell ⟨w.heap.size, 2, none⟩ (.int .i64 s)).setCell ⟨w.heap.size, 3, none⟩ (.int .i64 z) = X at hx ⊢
      obtain ⟨v0, v1, v2, v3, hbx⟩ := hx
      exact bodyPost_ret (v := .tuple #[.agg #[.int .u64 (t : Int), .int .i64 r, .int .i64 s, .int .i64 z], .int .i64 0]) (by simp [results, Tryd.results33, go_sem, v0, v1, v2, v3]) rfl ⟨by rw [HCC.out], hbx⟩
    · have HCC : Hid (C = (⟨t', r', s', z'⟩, 0)) := kept (by rw [HC.out, HS1.out, HS2.out]; simp; omega)
      go_wp2
      have hx := store4 (HQX (.cells #[.int .u64 (t' : Int), .int .i64 r', .int .i64 s', .int .i64 z'] 53)).out (HBX _).out (Nat.le_refl _) (.int .u64 (t' : Int)) (.int .i64 r') (.int .i64 s') (.int .i64 z')
      generalize ((((w2.alloc (.cells #[.int .u64 (t' : Int), .int .i64 r', .int .i64 s', .int .i64 z'] 53)).setCell ⟨w.heap.size, 0, none⟩ (.int .u64 (t' : Int))).setCell ⟨w.heap.size, 1, none⟩ (.int .i64 r')).setCell ⟨w.heap.size, 2, none⟩ (.int .i64 s')).setCell ⟨w.heap.size, 3, none⟩ (.int .i64 z') = X at hx ⊢
      obtain ⟨v0, v1, v2, v3, hbx⟩ := hx
      exact bodyPost_ret (v := .tuple #[.agg #[.int .u64 (t' : Int), .int .i64 r', .int .i64 s', .int .i64 z'], .int .i64 0]) (by simp [results, Tryd.results33, go_sem, v0, v1, v2, v3]) rfl ⟨by rw [HCC.out], hbx⟩
end Go.Proofs.YtfgpkgenahlikaaDoor
