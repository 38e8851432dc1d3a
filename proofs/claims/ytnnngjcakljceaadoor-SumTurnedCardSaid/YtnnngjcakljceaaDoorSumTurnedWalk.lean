/-
  The law SumTurned walked: for every row of bytes, place and mask it returns true and writes nothing that was there.
-/
import Derived.Test.YtnnngjcakljceaaDoorTurned
import Derived.RegionTactic
import Derived.BigRegion
namespace Go.Proofs.YtnnngjcakljceaaDoor.sumTurned
open Go.ChangeShapes Go.WideShapes Go.ChangeAt Go.RowKit Crc
set_option linter.unusedVariables false

theorem walk_lives (w : World) (hf : Fours w) (A : Option Addr) (n c : Nat) (a1 a2 : Int) (a3 : Bool) (hl : n ≤ 140737488351232) (h : 4096 < n ∨ a2 = 0) :
    Calls Tryd.prog 6 #[.slice A n c, .int .i64 a1, .int .u32 a2, .bool a3] w fun e w' => e = .returned (.bool true) ∧ Below w.heap.size w w' := by
  have HL := kept (lives_any w hf)
  have HF := kept hf
  clear hf
  by_cases hbig : 4096 < n
  · clear h
    go_enter Tryd.func6, Tryd.ntmps6
    go_wp2_with fail
    with_reducible refine HL.out.mono ?_
    rintro e w1 ⟨rfl, hb⟩
    have HB := kept hb
    have HL2 := kept (lives_any w1 (HF.out.below hb))
    clear hb
    go_wp2_with fail
    with_reducible refine HL2.out.mono ?_
    rintro e w2 ⟨rfl, hb2⟩
    have HB2 := kept (HB.out.trans (hb2.mono HB.out.size))
    clear hb2
    go_wp2
    go_ret
    exact ⟨rfl, HB2.out⟩
  · obtain rfl : a2 = 0 := by omega
    have hbd : decide ((4096 : Int) < (n : Int)) = false := by simp; omega
    clear h hbig
    go_enter Tryd.func6, Tryd.ntmps6
    go_wp2_with fail
    with_reducible refine HL.out.mono ?_
    rintro e w1 ⟨rfl, hb⟩
    have HB := kept hb
    have HL2 := kept (lives_any w1 (HF.out.below hb))
    clear hb
    go_wp2_with fail
    with_reducible refine HL2.out.mono ?_
    rintro e w2 ⟨rfl, hb2⟩
    have HB2 := kept (HB.out.trans (hb2.mono HB.out.size))
    clear hb2
    go_wp2
    go_ret
    exact ⟨rfl, HB2.out⟩

theorem place (a1 : Int) (F D : Nat) (hD : 0 < D) (hD2 : D ≤ 40000) (hF : F ≤ 32) : ∃ a : Nat, F ≤ a ∧ a < F + D ∧ wrap64 ((F : Int) + wrap64 ((IntKind.u64.wrap a1).tmod (D : Int))) = (a : Int) := by
  rw [IntKind.wrap_u64]
  have h1 : 0 ≤ a1 % 18446744073709551616 := by omega
  have e : (a1 % 18446744073709551616).tmod (D : Int) = a1 % 18446744073709551616 % (D : Int) := Int.tmod_eq_emod_of_nonneg h1
  rw [e]
  have hr0 : 0 ≤ a1 % 18446744073709551616 % (D : Int) := Int.emod_nonneg _ (by omega)
  have hr1 : a1 % 18446744073709551616 % (D : Int) < (D : Int) := Int.emod_lt_of_pos _ (by omega)
  generalize a1 % 18446744073709551616 % (D : Int) = r at hr0 hr1 ⊢
  refine ⟨F + r.toNat, by omega, by omega, ?_⟩
  rw [IntWalk.wrap64_in r ⟨by omega, by omega⟩, IntWalk.wrap64_in ((F : Int) + r) ⟨by omega, by omega⟩]
  omega
theorem bit_of (t k : Nat) (ht : t < 4294967296) : bits .and .u32 ((t : Int) / 2 ^ k) 1 = ((t / 2 ^ k % 2 : Nat) : Int) := by
  have h1 : t / 2 ^ k ≤ t := Nat.div_le_self _ _
  have h := u32_and_nat (t / 2 ^ k) 1 (by omega) (by omega)
  rw [nat_mask1] at h
  have e : ((t / 2 ^ k : Nat) : Int) = (t : Int) / 2 ^ k := by simp
  rw [← e]
  exact h

set_option maxRecDepth 100000 in
theorem walk_try (w : World) (hf : Fours w) (A : Option Addr) (n c : Nat) (xs : List UInt8) (hr : Rd w A n xs) (hc : n ≤ c) (hl : n ≤ 4096) (a1 : Int) (w1 : (Lit.int .i64 a1).wf = true) (t : Nat) (ht : 0 < t) (ht32 : t < 4294967296) (hn0 : 0 < n) :
    Calls Tryd.prog 6 #[.slice A n c, .int .i64 a1, .int .u32 (t : Int), .bool false] w fun e w' => e = .returned (.bool true) ∧ Below w.heap.size w w' := by
  have HL := kept (lives_any w hf)
  have HF := kept hf
  have HR := kept hr
  have hbd : decide ((4096 : Int) < (n : Int)) = false := by simp; omega
  have hz : ((t : Int) == 0) = false := by simp; omega
  have hpl : ∃ a : Nat, 32 ≤ a ∧ a < 8 * (4 + n) ∧ wrap64 (32 + wrap64 ((IntKind.u64.wrap a1).tmod (8 * (4 + (n : Int)) - 32))) = (a : Int) := by
    obtain ⟨a, h1, h2, h3⟩ := place a1 32 (8 * n) (by omega) (by omega) (by omega)
    refine ⟨a, h1, by omega, ?_⟩
    rw [← h3]
    congr 4
    omega
  obtain ⟨a, ha1, ha2, hat⟩ := hpl
  have hne1 : ((4 : Int) + (n : Int) != (n : Int) + 4) = false := by simp; omega
  have hne2 : ((32 : Int) == 8 * (4 + (n : Int))) = false := by simp; omega
  clear hf hr
  go_enter Tryd.func6, Tryd.ntmps6
  go_wp2_with fail
  with_reducible refine HL.out.mono ?_
  rintro e w2 ⟨rfl, hb⟩
  have HB := kept hb
  have HS := kept (seal_any A n c xs w2 (HR.out.below hb) hc (by omega) (HF.out.below hb))
  clear hb
  go_wp2_with fail
  with_reducible refine HS.out.mono ?_
  rintro e w3 ⟨A3, c3, rfl, hown, hb3⟩
  have HB3 := kept (HB.out.trans (hb3.mono HB.out.size))
  have HO3 := kept hown
  clear hown hb3
  go_wp2
  obtain ⟨g, rfl⟩ : ∃ g, A3 = some ⟨g, 0, none⟩ := by
    rcases HO3.out.2 with ⟨h, h0⟩ | ⟨g, cap, cur, h, _⟩
    · omega
    · injection h with h _ _
      exact ⟨g, h⟩
  have HB2 := kept HB.out.size
  have HG : Hid (w.heap.size ≤ g) := by
    show w.heap.size ≤ g
    rcases HO3.out.2 with ⟨h, h0⟩ | ⟨g', cap, cur, h, hg, _⟩
    · omega
    · simp only [Value.slice.injEq, Option.some.injEq, Addr.mk.injEq, and_true] at h
      have := HB2.out
      omega
  simp only [hat]
  clear hat
  go_loopw [12, 13] (fun tn i wr => ∃ k : Nat, k ≤ 32 ∧ a + k ≤ 8 * (4 + n) ∧ i = .int .i64 k ∧ tn = .bool (decide (0 < t % 2 ^ k)) ∧ Hid (wr.ownsRow w.heap.size 5 1 (.slice (some ⟨g, 0, none⟩) (4 + n) c3) (4 + n) (cellsOf (flip (sealed xs) (2 ^ a * (t % 2 ^ k))))) ∧ Hid (Below w.heap.size w wr)) (fun _ i _ => 32 - (intOf i).toNat)
  case atStart =>
    refine ⟨0, Nat.zero_le _, by omega, rfl, by simp [Nat.mod_one], ?_, HB3.out⟩
    rw [Nat.pow_zero, Nat.mod_one, Nat.mul_zero, flip_zero]
    exact own_mono HO3.out HB2.out
  case round =>
    obtain ⟨k, hk, hak, rfl, rfl, HO, HBW⟩ := hrel
    by_cases hin : k < 32 ∧ a + k < 8 * (4 + n)
    · obtain ⟨hk32, hkT⟩ := hin
      have hcond : decide ((k : Int) < 8 * (4 + (n : Int)) - (a : Int)) = true := by simp; omega
      have hbit := bit_of t k ht32
      by_cases hb : t / 2 ^ k % 2 = 1
      · rw [hb] at hbit
        have hlen : (a + k) / 8 < (flip (sealed xs) (2 ^ a * (t % 2 ^ k))).length := by rw [flip_length, sealed_length]; have := HR.out.1; omega
        have hidx : (a + k) / 8 < 4 + n := by omega
        have hm8 : (a + k) % 8 < 8 := by omega
        have hcell := (HO.out.cellAt ((a + k) / 8) (by omega)).trans (cellsOf_get _ _ hlen)
        have hfz := HO.out.frozenAt ((a + k) / 8)
        have hst := (HO.out.stored ((a + k) / 8) (byteV ((flip (sealed xs) (2 ^ a * (t % 2 ^ k)))[(a + k) / 8] ^^^ UInt8.ofNat (2 ^ ((a + k) % 8))))).1
        rw [flip_cells _ _ _ hlen, mask_step t a k hb] at hst
        have hbel := HBW.out.setCell (p := ⟨g, (a + k) / 8, none⟩) HG.out (byteV ((flip (sealed xs) (2 ^ a * (t % 2 ^ k)))[(a + k) / 8] ^^^ UInt8.ofNat (2 ^ ((a + k) % 8))))
        have hv := turn_byte ((flip (sealed xs) (2 ^ a * (t % 2 ^ k)))[(a + k) / 8]) ((a + k) % 8) _ rfl
        rw [← hv] at hst hbel
        unfold byteV at hcell
        have hxl := ((flip (sealed xs) (2 ^ a * (t % 2 ^ k)))[(a + k) / 8]).toNat_lt
        generalize ((flip (sealed xs) (2 ^ a * (t % 2 ^ k)))[(a + k) / 8]).toNat = x at hcell hxl hst hbel
        have HST := kept hst
        have HBEL := kept hbel
        have HQ : Hid (0 < t % 2 ^ (k + 1)) := by
          show _
          rw [mod_step, hb]
          rw [Nat.mul_one]
          exact Nat.lt_of_lt_of_le (Nat.pow_pos (by omega)) (Nat.le_add_left _ _)
        clear hst hbel hv hlen hb
        go_wp2
        go_region
        go_wp2
        go_roundw
        case rel =>
          refine ⟨k + 1, by omega, by omega, by go_num, ?_, HST.out.drew, HBEL.out.drew⟩
          rw [decide_eq_true HQ.out]
        case measure => simp [intOf]; omega
      · rw [show t / 2 ^ k % 2 = 0 by omega] at hbit
        have HM := kept (mask_stay t k hb)
        clear hb
        go_wp2
        go_roundw
        case rel =>
          refine ⟨k + 1, by omega, by omega, by go_num, ?_, ?_, HBW.out⟩
          · rw [HM.out]
          · rw [HM.out]; exact HO.out
        case measure => simp [intOf]; omega
    · have hcond : ¬ (k : Int) < 32 ∨ ((k : Int) < 32 ∧ decide ((k : Int) < 8 * (4 + (n : Int)) - (a : Int)) = false) := by
        by_cases h : k < 32
        · exact .inr ⟨by omega, by simp; omega⟩
        · exact .inl (by omega)
      have hk32 : k ≤ 32 := hk
      have HC2 := kept (own_cap HO.out)
      have HR2 := kept (Rd.of_own HO.out)
      have HF2 := kept (HF.out.below HBW.out)
      have HX := kept HR.out.1
      have hpk : t % 2 ^ k < 2 ^ k := Nat.mod_lt _ (Nat.pow_pos (by omega))
      have hp32 : 2 ^ k ≤ 2 ^ 32 := Nat.pow_le_pow_right (by omega) hk32
      have HOPEN : Hid (∃ err : Int, ∃ ys, Calls Tryd.prog 13 #[.slice (some ⟨g, 0, none⟩) (4 + n) c3] wr (OpensTo wr err ys) ∧ (err == 6) = decide (0 < t % 2 ^ k) ∧ (err != 0) = decide (0 < t % 2 ^ k)) := by
        show _
        by_cases hq : 0 < t % 2 ^ k
        · refine ⟨6, [], (open_wrong _ _ _ _ wr HR2.out HC2.out (by omega) (by omega) HF2.out ?_).mono fun e w' h => ⟨_, _, _, h.1, Rd.nil_ _ _, h.2⟩, by simp; omega, by simp; omega⟩
          refine turned_ne xs a _ hq (by omega) (.inr ⟨ha1, ?_⟩)
          have h1 : 2 ^ a * (t % 2 ^ k) < 2 ^ a * 2 ^ k := Nat.mul_lt_mul_of_pos_left hpk (Nat.pow_pos (by omega))
          have h2 : 2 ^ (a + k) ≤ 2 ^ (8 * (4 + xs.length)) := Nat.pow_le_pow_right (by omega) (by have := HX.out; omega)
          rw [Nat.pow_add] at h2
          omega
        · have h0 : t % 2 ^ k = 0 := by omega
          have hr2 := HR2.out
          rw [h0, Nat.mul_zero, flip_zero] at hr2
          refine ⟨0, xs, (open_sealed _ n c3 xs wr hr2 HC2.out (by omega) HF2.out).mono fun e w' h => ?_, by simp; omega, by simp; omega⟩
          obtain ⟨A', c', h1, h2, h3⟩ := h
          exact ⟨_, _, _, h1, Rd.of_own h2, h3⟩
      obtain ⟨err, ys, ho, he6, he0⟩ := HOPEN.out
      have HCALL := kept ho
      clear ho hpk hp32 HOPEN
      generalize decide (0 < t % 2 ^ k) = turned at *
      rcases hcond with hcond | ⟨hcond0, hcond⟩
      all_goals
        cases turned
        all_goals
          go_wp2_with fail
          with_reducible refine HCALL.out.mono ?_
          rintro e w4 ⟨A4, n4, c4, rfl, hr4, hb4⟩
          have HB4 := kept (HBW.out.trans (hb4.mono HBW.out.size))
          clear hr4 hb4
          go_wp2
          go_ret
          exact ⟨rfl, HB4.out⟩
set_option maxRecDepth 100000 in
theorem walk_front (w : World) (hf : Fours w) (A : Option Addr) (n c : Nat) (xs : List UInt8) (hr : Rd w A n xs) (hc : n ≤ c) (hl : n ≤ 4096) (a1 : Int) (w1 : (Lit.int .i64 a1).wf = true) (t : Nat) (ht : 0 < t) (ht32 : t < 4294967296) :
    Calls Tryd.prog 6 #[.slice A n c, .int .i64 a1, .int .u32 (t : Int), .bool true] w fun e w' => e = .returned (.bool true) ∧ Below w.heap.size w w' := by
  have HL := kept (lives_any w hf)
  have HF := kept hf
  have HR := kept hr
  have hbd : decide ((4096 : Int) < (n : Int)) = false := by simp; omega
  have hz : ((t : Int) == 0) = false := by simp; omega
  have hpl : ∃ a : Nat, 0 ≤ a ∧ a < 32 ∧ wrap64 (wrap64 ((IntKind.u64.wrap a1).tmod 32)) = (a : Int) := by
    obtain ⟨a, h1, h2, h3⟩ := place a1 0 32 (by omega) (by omega) (by omega)
    refine ⟨a, h1, by omega, ?_⟩
    rw [← h3]
    congr 1
    show _ = (0 : Int) + _
    rw [Int.zero_add]
    rfl
  obtain ⟨a, ha1, ha2, hat⟩ := hpl
  have hne1 : ((4 : Int) + (n : Int) != (n : Int) + 4) = false := by simp; omega
  clear hf hr
  go_enter Tryd.func6, Tryd.ntmps6
  go_wp2_with fail
  with_reducible refine HL.out.mono ?_
  rintro e w2 ⟨rfl, hb⟩
  have HB := kept hb
  have HS := kept (seal_any A n c xs w2 (HR.out.below hb) hc (by omega) (HF.out.below hb))
  clear hb
  go_wp2_with fail
  with_reducible refine HS.out.mono ?_
  rintro e w3 ⟨A3, c3, rfl, hown, hb3⟩
  have HB3 := kept (HB.out.trans (hb3.mono HB.out.size))
  have HO3 := kept hown
  clear hown hb3
  go_wp2
  obtain ⟨g, rfl⟩ : ∃ g, A3 = some ⟨g, 0, none⟩ := by
    rcases HO3.out.2 with ⟨h, h0⟩ | ⟨g, cap, cur, h, _⟩
    · omega
    · injection h with h _ _
      exact ⟨g, h⟩
  have HB2 := kept HB.out.size
  have HG : Hid (w.heap.size ≤ g) := by
    show w.heap.size ≤ g
    rcases HO3.out.2 with ⟨h, h0⟩ | ⟨g', cap, cur, h, hg, _⟩
    · omega
    · simp only [Value.slice.injEq, Option.some.injEq, Addr.mk.injEq, and_true] at h
      have := HB2.out
      omega
  simp only [hat]
  clear hat
  go_loopw [12, 13] (fun tn i wr => ∃ k : Nat, k ≤ 32 ∧ a + k ≤ 32 ∧ i = .int .i64 k ∧ tn = .bool (decide (0 < t % 2 ^ k)) ∧ Hid (wr.ownsRow w.heap.size 5 1 (.slice (some ⟨g, 0, none⟩) (4 + n) c3) (4 + n) (cellsOf (flip (sealed xs) (2 ^ a * (t % 2 ^ k))))) ∧ Hid (Below w.heap.size w wr)) (fun _ i _ => 32 - (intOf i).toNat)
  case atStart =>
    refine ⟨0, Nat.zero_le _, by omega, rfl, by simp [Nat.mod_one], ?_, HB3.out⟩
    rw [Nat.pow_zero, Nat.mod_one, Nat.mul_zero, flip_zero]
    exact own_mono HO3.out HB2.out
  case round =>
    obtain ⟨k, hk, hak, rfl, rfl, HO, HBW⟩ := hrel
    by_cases hin : k < 32 ∧ a + k < 32
    · obtain ⟨hk32, hkT⟩ := hin
      have hcond : decide ((k : Int) < 32 - (a : Int)) = true := by simp; omega
      have hbit := bit_of t k ht32
      by_cases hb : t / 2 ^ k % 2 = 1
      · rw [hb] at hbit
        have hlen : (a + k) / 8 < (flip (sealed xs) (2 ^ a * (t % 2 ^ k))).length := by rw [flip_length, sealed_length]; have := HR.out.1; omega
        have hidx : (a + k) / 8 < 4 + n := by omega
        have hm8 : (a + k) % 8 < 8 := by omega
        have hcell := (HO.out.cellAt ((a + k) / 8) (by omega)).trans (cellsOf_get _ _ hlen)
        have hfz := HO.out.frozenAt ((a + k) / 8)
        have hst := (HO.out.stored ((a + k) / 8) (byteV ((flip (sealed xs) (2 ^ a * (t % 2 ^ k)))[(a + k) / 8] ^^^ UInt8.ofNat (2 ^ ((a + k) % 8))))).1
        rw [flip_cells _ _ _ hlen, mask_step t a k hb] at hst
        have hbel := HBW.out.setCell (p := ⟨g, (a + k) / 8, none⟩) HG.out (byteV ((flip (sealed xs) (2 ^ a * (t % 2 ^ k)))[(a + k) / 8] ^^^ UInt8.ofNat (2 ^ ((a + k) % 8))))
        have hv := turn_byte ((flip (sealed xs) (2 ^ a * (t % 2 ^ k)))[(a + k) / 8]) ((a + k) % 8) _ rfl
        rw [← hv] at hst hbel
        unfold byteV at hcell
        have hxl := ((flip (sealed xs) (2 ^ a * (t % 2 ^ k)))[(a + k) / 8]).toNat_lt
        generalize ((flip (sealed xs) (2 ^ a * (t % 2 ^ k)))[(a + k) / 8]).toNat = x at hcell hxl hst hbel
        have HST := kept hst
        have HBEL := kept hbel
        have HQ : Hid (0 < t % 2 ^ (k + 1)) := by
          show _
          rw [mod_step, hb]
          rw [Nat.mul_one]
          exact Nat.lt_of_lt_of_le (Nat.pow_pos (by omega)) (Nat.le_add_left _ _)
        clear hst hbel hv hlen hb
        go_wp2
        go_region
        go_wp2
        go_roundw
        case rel =>
          refine ⟨k + 1, by omega, by omega, by go_num, ?_, HST.out.drew, HBEL.out.drew⟩
          rw [decide_eq_true HQ.out]
        case measure => simp [intOf]; omega
      · rw [show t / 2 ^ k % 2 = 0 by omega] at hbit
        have HM := kept (mask_stay t k hb)
        clear hb
        go_wp2
        go_roundw
        case rel =>
          refine ⟨k + 1, by omega, by omega, by go_num, ?_, ?_, HBW.out⟩
          · rw [HM.out]
          · rw [HM.out]; exact HO.out
        case measure => simp [intOf]; omega
    · have hcond : ¬ (k : Int) < 32 ∨ ((k : Int) < 32 ∧ decide ((k : Int) < 32 - (a : Int)) = false) := by
        by_cases h : k < 32
        · exact .inr ⟨by omega, by simp; omega⟩
        · exact .inl (by omega)
      have hk32 : k ≤ 32 := hk
      have HC2 := kept (own_cap HO.out)
      have HR2 := kept (Rd.of_own HO.out)
      have HF2 := kept (HF.out.below HBW.out)
      have HX := kept HR.out.1
      have hpk : t % 2 ^ k < 2 ^ k := Nat.mod_lt _ (Nat.pow_pos (by omega))
      have hp32 : 2 ^ k ≤ 2 ^ 32 := Nat.pow_le_pow_right (by omega) hk32
      have HOPEN : Hid (∃ err : Int, ∃ ys, Calls Tryd.prog 13 #[.slice (some ⟨g, 0, none⟩) (4 + n) c3] wr (OpensTo wr err ys) ∧ (err == 6) = decide (0 < t % 2 ^ k) ∧ (err != 0) = decide (0 < t % 2 ^ k)) := by
        show _
        by_cases hq : 0 < t % 2 ^ k
        · refine ⟨6, [], (open_wrong _ _ _ _ wr HR2.out HC2.out (by omega) (by omega) HF2.out ?_).mono fun e w' h => ⟨_, _, _, h.1, Rd.nil_ _ _, h.2⟩, by simp; omega, by simp; omega⟩
          refine turned_ne xs a _ hq (by omega) (.inl ?_)
          have h1 : 2 ^ a * (t % 2 ^ k) < 2 ^ a * 2 ^ k := Nat.mul_lt_mul_of_pos_left hpk (Nat.pow_pos (by omega))
          have h2 : 2 ^ (a + k) ≤ 2 ^ 32 := Nat.pow_le_pow_right (by omega) hak
          rw [Nat.pow_add] at h2
          omega
        · have h0 : t % 2 ^ k = 0 := by omega
          have hr2 := HR2.out
          rw [h0, Nat.mul_zero, flip_zero] at hr2
          refine ⟨0, xs, (open_sealed _ n c3 xs wr hr2 HC2.out (by omega) HF2.out).mono fun e w' h => ?_, by simp; omega, by simp; omega⟩
          obtain ⟨A', c', h1, h2, h3⟩ := h
          exact ⟨_, _, _, h1, Rd.of_own h2, h3⟩
      obtain ⟨err, ys, ho, he6, he0⟩ := HOPEN.out
      have HCALL := kept ho
      clear ho hpk hp32 HOPEN
      generalize decide (0 < t % 2 ^ k) = turned at *
      rcases hcond with hcond | ⟨hcond0, hcond⟩
      all_goals
        cases turned
        all_goals
          go_wp2_with fail
          with_reducible refine HCALL.out.mono ?_
          rintro e w4 ⟨A4, n4, c4, rfl, hr4, hb4⟩
          have HB4 := kept (HBW.out.trans (hb4.mono HBW.out.size))
          clear hr4 hb4
          go_wp2
          go_ret
          exact ⟨rfl, HB4.out⟩
theorem walk_empty (w : World) (hf : Fours w) (A : Option Addr) (c : Nat) (xs : List UInt8) (hr : Rd w A 0 xs) (a1 : Int) (t : Nat) (ht : 0 < t) (ht32 : t < 4294967296) :
    Calls Tryd.prog 6 #[.slice A 0 c, .int .i64 a1, .int .u32 (t : Int), .bool false] w fun e w' => e = .returned (.bool true) ∧ Below w.heap.size w w' := by
  have HL := kept (lives_any w hf)
  have HF := kept hf
  have HR := kept hr
  have hz : ((t : Int) == 0) = false := by simp; omega
  clear hf hr
  go_enter Tryd.func6, Tryd.ntmps6
  go_wp2_with fail
  with_reducible refine HL.out.mono ?_
  rintro e w2 ⟨rfl, hb⟩
  have HB := kept hb
  have HS := kept (seal_any A 0 c xs w2 (HR.out.below hb) (by omega) (by omega) (HF.out.below hb))
  clear hb
  go_wp2_with fail
  with_reducible refine HS.out.mono ?_
  rintro e w3 ⟨A3, c3, rfl, hown, hb3⟩
  have HB3 := kept (HB.out.trans (hb3.mono HB.out.size))
  clear hown hb3
  go_wp2
  go_ret
  exact ⟨rfl, HB3.out⟩

theorem walk (w : World) (hf : Fours w) (A : Option Addr) (n c : Nat) (xs : List UInt8) (hr : Rd w A n xs) (hc : n ≤ c) (hl : n ≤ 140737488351232) (a1 : Int) (w1 : (Lit.int .i64 a1).wf = true) (a2 : Int) (w2 : (Lit.int .u32 a2).wf = true) (a3 : Bool) :
    Calls Tryd.prog 6 #[.slice A n c, .int .i64 a1, .int .u32 a2, .bool a3] w fun e w' => e = .returned (.bool true) ∧ Below w.heap.size w w' := by
  obtain ⟨b1, b2⟩ := bounds_u32 w2
  by_cases h : 4096 < n ∨ a2 = 0
  · exact walk_lives w hf A n c a1 a2 a3 hl h
  · obtain ⟨t, rfl⟩ : ∃ t : Nat, a2 = (t : Int) := ⟨a2.toNat, by omega⟩
    cases a3
    · by_cases h0 : 0 < n
      · exact walk_try w hf A n c xs hr hc (by omega) a1 w1 t (by omega) (by omega) h0
      · obtain rfl : n = 0 := by omega
        exact walk_empty w hf A c xs hr a1 t (by omega) (by omega)
    · exact walk_front w hf A n c xs hr hc (by omega) a1 w1 t (by omega) (by omega)
end Go.Proofs.YtnnngjcakljceaaDoor.sumTurned
