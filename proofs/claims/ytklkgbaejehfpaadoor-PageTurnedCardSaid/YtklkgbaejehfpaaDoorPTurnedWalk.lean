/-
  The law PageTurned walked.
-/
import Derived.Test.YtklkgbaejehfpaaDoorSm
import Derived.Test.YtklkgbaejehfpaaDoorFw
import Derived.Test.YtklkgbaejehfpaaDoorDs4
import Derived.Test.YtklkgbaejehfpaaDoorTurned
import Derived.RegionTactic
import Derived.BigRegion
namespace Go.Proofs.YtklkgbaejehfpaaDoor.pageTurned
open Go.ChangeShapes Go.WideShapes Go.ChangeAt Go.RowKit Crc
set_option linter.unusedVariables false
set_option linter.unusedSimpArgs false

theorem place (a1 : Int) (F D : Nat) (hD : 0 < D) (hD2 : D ≤ 40000) (hF : F ≤ 32) : ∃ a : Nat, F ≤ a ∧ a < F + D ∧ wrap64 ((F : Int) + wrap64 ((IntKind.u64.wrap a1).tmod (D : Int))) = (a : Int) := by
  rw [IntKind.wrap_u64]
  have h1 : 0 ≤ a1 % 18446744073709551616 := by omega
  have e : (a1 % 18446744073709551616).tmod (D : Int) = a1 % 18446744073709551616 % (D : Int) := Int.tmod_eq_emod_of_nonneg h1
  rw [e]
  have hr0 : 0 ≤ a1 % 18446744073709551616 % (D : Int) := Int.emod_nonneg _ (by omega)
  have hr1 : a1 % 18446744073709551616 % (D : Int) < (D : Int) := Int.emod_lt_of_pos _ (by omega)
  generalize a1 % 18446744073709551616 % (D : Int) = r at hr0 hr1 ⊢
  refine ⟨F + r.toNat, by omega, by omega, ?_⟩
  rw [IntWalk.wrap64_in r ⟨by omega, by omega⟩, IntWalk.wrap64_in ((F : Int) + r) ⟨by omega, by omega⟩]
  omega
theorem bit_of (t k : Nat) (ht : t < 4294967296) : bits .and .u32 ((t : Int) / 2 ^ k) 1 = ((t / 2 ^ k % 2 : Nat) : Int) := by
  have h1 : t / 2 ^ k ≤ t := Nat.div_le_self _ _
  have h := u32_and_nat (t / 2 ^ k) 1 (by omega) (by omega)
  rw [nat_mask1] at h
  have e : ((t / 2 ^ k : Nat) : Int) = (t : Int) / 2 ^ k := by simp
  rw [← e]
  exact h


/-- The law's own box. -/
theorem box_below (w : World) (l : Lay) : Below w.heap.size w (w.alloc (.cells #[.int .i64 l.kind, .int .u64 l.txn, .int .i64 l.next, .slice l.a1 l.n1 l.c1, .slice l.a2 l.n2 l.c2, .slice l.a3 l.n3 l.c3, .slice l.a4 l.n4 l.c4] 28)) := (Below.refl _ _).alloc (Nat.le_refl _) _
set_option maxRecDepth 100000 in
set_option maxHeartbeats 2000000 in
theorem walk_lives (w : World) (hf : Fours w) (l : Lay) (P : Pg) (h : RdPg w l P) (a1 a2 : Int) (hh : fewB P = false ∨ a2 = 0) :
    Calls Tryd.prog 6 #[l.val, .int .i64 a1, .int .u32 a2] w fun e w' => e = .returned (.bool true) ∧ Below w.heap.size w w' := by
  have HF := fun {X : World} (hX : Below w.heap.size w X) => kept (few_any l P X (h.below hX))
  have HL := fun {X : World} (hX : Below w.heap.size w X) => kept (lives_any X (hf.below hX))
  clear h hf
  obtain ⟨kind, txn, next, a1', n1, c1, a2', n2, c2, a3, n3, c3, a4, n4, c4⟩ := l
  have hb0 : Below w.heap.size w (w.alloc (.cells #[.int .i64 kind, .int .u64 txn, .int .i64 next, .slice a1' n1 c1, .slice a2' n2 c2, .slice a3 n3 c3, .slice a4 n4 c4] 28)) := (Below.refl _ _).alloc (Nat.le_refl _) _
  have HS : Hid (∀ {X : World}, Below (w.alloc (.cells #[.int .i64 kind, .int .u64 txn, .int .i64 next, .slice a1' n1 c1, .slice a2' n2 c2, .slice a3 n3 c3, .slice a4 n4 c4] 28)).heap.size (w.alloc (.cells #[.int .i64 kind, .int .u64 txn, .int .i64 next, .slice a1' n1 c1, .slice a2' n2 c2, .slice a3 n3 c3, .slice a4 n4 c4] 28)) X → Sev X w.heap.size kind txn next a1' n1 c1 a2' n2 c2 a3 n3 c3 a4 n4 c4) := kept (sev_box w kind txn next a1' n1 c1 a2' n2 c2 a3 n3 c3 a4 n4 c4 _)
  generalize fewB P = fb at HF hh
  cases fb
  · clear hh
    go_enter Tryd.func6, Tryd.ntmps6
    go_wp2_with fail
    with_reducible refine (HL hb0).out.mono ?_
    rintro e w1 ⟨rfl, hb1⟩
    obtain ⟨z0, z1, z2, z3, z4, z5, z6⟩ := HS.out hb1
    have hb1 := below_to hb1 hb0
    go_wp2_with fail
    with_reducible refine (HF hb1).out.mono ?_
    rintro e w2 ⟨rfl, hb2⟩
    have hb2 := below_to hb2 hb1
    go_wp2_with fail
    with_reducible refine (HL hb2).out.mono ?_
    rintro e w3 ⟨rfl, hb3⟩
    have HB3 := kept (below_to hb3 hb2)
    go_wp2
    go_ret
    exact ⟨rfl, HB3.out⟩
  · obtain rfl : a2 = 0 := by simpa using hh
    clear hh
    go_enter Tryd.func6, Tryd.ntmps6
    go_wp2_with fail
    with_reducible refine (HL hb0).out.mono ?_
    rintro e w1 ⟨rfl, hb1⟩
    obtain ⟨z0, z1, z2, z3, z4, z5, z6⟩ := HS.out hb1
    have hb1 := below_to hb1 hb0
    go_wp2_with fail
    with_reducible refine (HF hb1).out.mono ?_
    rintro e w2 ⟨rfl, hb2⟩
    have hb2 := below_to hb2 hb1
    go_wp2_with fail
    with_reducible refine (HL hb2).out.mono ?_
    rintro e w3 ⟨rfl, hb3⟩
    have HB3 := kept (below_to hb3 hb2)
    go_wp2
    go_ret
    exact ⟨rfl, HB3.out⟩
set_option maxRecDepth 100000 in
set_option maxHeartbeats 4000000 in
theorem walk_try (w : World) (hf : Fours w) (l : Lay) (P : Pg) (h : RdPg w l P) (a1 : Int) (w1 : (Lit.int .i64 a1).wf = true) (t : Nat) (ht : 0 < t) (ht32 : t < 4294967296) (hfw : fewB P = true) :
    Calls Tryd.prog 6 #[l.val, .int .i64 a1, .int .u32 (t : Int)] w fun e w' => e = .returned (.bool true) ∧ Below w.heap.size w w' := by
  have HF := fun {X : World} (hX : Below w.heap.size w X) => kept (few_any l P X (h.below hX))
  rw [hfw] at HF
  have HL := fun {X : World} (hX : Below w.heap.size w X) => kept (lives_any X (hf.below hX))
  have HFF := kept hf
  have HP := kept h
  have hz : ((t : Int) == 0) = false := by simp; omega
  obtain ⟨kind, txn, next, a1', n1, c1, a2', n2, c2, a3, n3, c3, a4, n4, c4⟩ := l
  have hb0 : Below w.heap.size w (w.alloc (.cells #[.int .i64 kind, .int .u64 txn, .int .i64 next, .slice a1' n1 c1, .slice a2' n2 c2, .slice a3 n3 c3, .slice a4 n4 c4] 28)) := (Below.refl _ _).alloc (Nat.le_refl _) _
  have HS : Hid (∀ {X : World}, Below (w.alloc (.cells #[.int .i64 kind, .int .u64 txn, .int .i64 next, .slice a1' n1 c1, .slice a2' n2 c2, .slice a3 n3 c3, .slice a4 n4 c4] 28)).heap.size (w.alloc (.cells #[.int .i64 kind, .int .u64 txn, .int .i64 next, .slice a1' n1 c1, .slice a2' n2 c2, .slice a3 n3 c3, .slice a4 n4 c4] 28)) X → Sev X w.heap.size kind txn next a1' n1 c1 a2' n2 c2 a3 n3 c3 a4 n4 c4) := kept (sev_box w kind txn next a1' n1 c1 a2' n2 c2 a3 n3 c3 a4 n4 c4 _)
  clear h hf hfw
  cases hR : rightB P with
  | false =>
    have HE := fun {X : World} (hX : Below w.heap.size w X) => kept (encode_wrong _ P X (HP.out.below hX) hR)
    clear hR
    go_enter Tryd.func6, Tryd.ntmps6
    go_wp2_with fail
    with_reducible refine (HL hb0).out.mono ?_
    rintro e w2 ⟨rfl, hb1⟩
    have hq1 := hb1
    obtain ⟨z0, z1, z2, z3, z4, z5, z6⟩ := HS.out hb1
    have hb1 := below_to hb1 hb0
    go_wp2_with fail
    with_reducible refine (HF hb1).out.mono ?_
    rintro e w3 ⟨rfl, hb2⟩
    have hq2 := below_to hb2 hq1
    obtain ⟨y0, y1, y2, y3, y4, y5, y6⟩ := HS.out hq2
    have hb2 := below_to hb2 hb1
    go_wp2_with fail
    with_reducible refine (HE hb2).out.mono ?_
    rintro e w4 ⟨rfl, hb4⟩
    have HB4 := kept (below_to hb4 hb2)
    go_wp2
    go_ret
    exact ⟨rfl, HB4.out⟩
  | true =>
    have HE := fun {X : World} (hX : Below w.heap.size w X) => kept (encode_right _ P X (HP.out.below hX) hR (HFF.out.below hX))
    have HXL : Hid ((bodyOf P).length = 252) := kept (bodyOf_length (right_parts hR).2.2.2)
    generalize bodyOf P = xs at HE HXL
    clear hR
    obtain ⟨a, ha1, ha2, hat⟩ := place a1 32 1984 (by omega) (by omega) (by omega)
    have ha2 : a < 2016 := ha2
    have hat : wrap64 (32 + wrap64 ((IntKind.u64.wrap a1).tmod 1984)) = (a : Int) := hat
    go_enter Tryd.func6, Tryd.ntmps6
    go_wp2_with fail
    with_reducible refine (HL hb0).out.mono ?_
    rintro e w2 ⟨rfl, hb1⟩
    have hq1 := hb1
    obtain ⟨z0, z1, z2, z3, z4, z5, z6⟩ := HS.out hb1
    have hb1 := below_to hb1 hb0
    go_wp2_with fail
    with_reducible refine (HF hb1).out.mono ?_
    rintro e w3 ⟨rfl, hb2⟩
    have hq2 := below_to hb2 hq1
    obtain ⟨y0, y1, y2, y3, y4, y5, y6⟩ := HS.out hq2
    have hb2 := below_to hb2 hb1
    go_wp2_with fail
    with_reducible refine (HE hb2).out.mono ?_
    rintro e w4 ⟨A3, c3', rfl, hown, hb4⟩
    have HB := kept hb2
    have HB3 := kept (below_to hb4 hb2)
    have HO3 := kept hown
    clear hown hb4 hq1 hq2 hb1 hb2 z0 z1 z2 z3 z4 z5 z6 y0 y1 y2 y3 y4 y5 y6
    go_wp2
    obtain ⟨g, rfl⟩ : ∃ g, A3 = some ⟨g, 0, none⟩ := by
      rcases HO3.out.2 with ⟨h, h0⟩ | ⟨g, cap, cur, h, _⟩
      · omega
      · injection h with h _ _
        exact ⟨g, h⟩
    have HB2 := kept HB.out.size
    have HG : Hid (w.heap.size ≤ g) := by
      show w.heap.size ≤ g
      rcases HO3.out.2 with ⟨h, h0⟩ | ⟨g', cap, cur, h, hg, _⟩
      · omega
      · simp only [Value.slice.injEq, Option.some.injEq, Addr.mk.injEq, and_true] at h
        have := HB2.out
        omega
    simp only [hat]
    clear hat
    go_loopw [39] (fun i wr => ∃ k : Nat, k ≤ 32 ∧ i = .int .i64 k ∧ Hid (wr.ownsRow w.heap.size 5 1 (.slice (some ⟨g, 0, none⟩) 256 c3') 256 (cellsOf (flip (sealed xs) (2 ^ a * (t % 2 ^ k))))) ∧ Hid (Below w.heap.size w wr)) (fun i _ => 32 - (intOf i).toNat)
    case atStart =>
      refine ⟨0, Nat.zero_le _, rfl, ?_, HB3.out⟩
      rw [Nat.pow_zero, Nat.mod_one, Nat.mul_zero, flip_zero]
      exact own_mono HO3.out HB2.out
    case round =>
      obtain ⟨k, hk, rfl, HO, HBW⟩ := hrel
      by_cases hk32 : k < 32
      · have hbit := bit_of t k ht32
        by_cases hb : t / 2 ^ k % 2 = 1
        · rw [hb] at hbit
          have hlen : (a + k) / 8 < (flip (sealed xs) (2 ^ a * (t % 2 ^ k))).length := by rw [flip_length, sealed_length]; have := HXL.out; omega
          have hidx : (a + k) / 8 < 256 := by omega
          have hm8 : (a + k) % 8 < 8 := by omega
          have hcell := (HO.out.cellAt ((a + k) / 8) (by omega)).trans (cellsOf_get _ _ hlen)
          have hfz := HO.out.frozenAt ((a + k) / 8)
          have hst := (HO.out.stored ((a + k) / 8) (byteV ((flip (sealed xs) (2 ^ a * (t % 2 ^ k)))[(a + k) / 8] ^^^ UInt8.ofNat (2 ^ ((a + k) % 8))))).1
          rw [flip_cells _ _ _ hlen, mask_step t a k hb] at hst
          have hbel := HBW.out.setCell (p := ⟨g, (a + k) / 8, none⟩) HG.out (byteV ((flip (sealed xs) (2 ^ a * (t % 2 ^ k)))[(a + k) / 8] ^^^ UInt8.ofNat (2 ^ ((a + k) % 8))))
          have hv := turn_byte ((flip (sealed xs) (2 ^ a * (t % 2 ^ k)))[(a + k) / 8]) ((a + k) % 8) _ rfl
          rw [← hv] at hst hbel
          unfold byteV at hcell
          have hxl := ((flip (sealed xs) (2 ^ a * (t % 2 ^ k)))[(a + k) / 8]).toNat_lt
          generalize ((flip (sealed xs) (2 ^ a * (t % 2 ^ k)))[(a + k) / 8]).toNat = x at hcell hxl hst hbel
          have HST := kept hst
          have HBEL := kept hbel
          clear hst hbel hv hlen hb
          go_wp2
          go_region
          go_wp2
          go_roundw
          case rel => exact ⟨k + 1, by omega, by go_num, HST.out.drew, HBEL.out.drew⟩
          case measure => simp [intOf]; omega
        · rw [show t / 2 ^ k % 2 = 0 by omega] at hbit
          have HM := kept (mask_stay t k hb)
          clear hb
          go_wp2
          go_roundw
          case rel => exact ⟨k + 1, by omega, by go_num, by rw [HM.out]; exact HO.out, HBW.out⟩
          case measure => simp [intOf]; omega
      · obtain rfl : k = 32 := by omega
        have hmod : t % 2 ^ 32 = t := Nat.mod_eq_of_lt ht32
        have hno := HO.out
        rw [hmod] at hno
        have hlt : 2 ^ a * t < 2 ^ (8 * (4 + xs.length)) := by
          have h1 : 2 ^ a * t < 2 ^ a * 2 ^ 32 := Nat.mul_lt_mul_of_pos_left ht32 (Nat.pow_pos (by omega))
          have h2 : 2 ^ (a + 32) ≤ 2 ^ (8 * (4 + xs.length)) := Nat.pow_le_pow_right (by omega) (by have := HXL.out; omega)
          rw [Nat.pow_add] at h2
          omega
        have hne := turned_ne xs a t ht ht32 (.inr ⟨ha1, hlt⟩)
        have HD := kept (decode_sum (some ⟨g, 0, none⟩) c3' _ wr (Rd.of_own hno) (own_cap hno) (HFF.out.below HBW.out) hne)
        clear hno hlt hne hmod
        go_wp2_with fail
        with_reducible refine HD.out.mono ?_
        rintro e w5 ⟨rfl, hb5⟩
        have hb5 := below_to hb5 HBW.out
        have HOF := fun (X : World) => kept (of_any zeroLay zeroPg X (zero_rd X) (by decide) (by decide))
        simp only [zeroLay] at HOF
        go_wp2_with fail
        with_reducible refine (HOF _).out.mono ?_
        rintro e w6 ⟨l', rfl, hrd, _, _, _, _, hb6⟩
        have HSM := kept (sameP_any l' zeroLay zeroPg zeroPg w6 hrd (zero_rd w6) true (by simp))
        simp only [zeroLay] at HSM
        have HB6 := kept (below_to hb6 (hb5.alloc hb5.size _))
        clear hb6 hrd
        go_wp2_with fail
        with_reducible refine HSM.out.mono ?_
        rintro e w7 ⟨rfl, hb7⟩
        have HB7 := kept (below_to hb7 HB6.out)
        go_wp2
        go_ret
        exact ⟨rfl, HB7.out⟩
theorem walk (w : World) (hf : Fours w) (l : Lay) (P : Pg) (h : RdPg w l P) (a1 : Int) (w1 : (Lit.int .i64 a1).wf = true) (a2 : Int) (w2 : (Lit.int .u32 a2).wf = true) :
    Calls Tryd.prog 6 #[l.val, .int .i64 a1, .int .u32 a2] w fun e w' => e = .returned (.bool true) ∧ Below w.heap.size w w' := by
  obtain ⟨b1, b2⟩ := bounds_u32 w2
  by_cases hh : fewB P = false ∨ a2 = 0
  · exact walk_lives w hf l P h a1 a2 hh
  · obtain ⟨t, rfl⟩ : ∃ t : Nat, a2 = (t : Int) := ⟨a2.toNat, by omega⟩
    exact walk_try w hf l P h a1 w1 t (by omega) (by omega) (by
      cases hf : fewB P with
      | true => rfl
      | false => exact absurd (.inl hf) hh)
end Go.Proofs.YtklkgbaejehfpaaDoor.pageTurned
