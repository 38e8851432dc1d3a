/-
  The walk of the law DiskBurns.
-/
import Derived.Test.YtfmljiidgaoihaaDf
import Derived.Test.YtfmljiidgaoihaaRows3
namespace Go.Proofs.Ytfmljiidgaoihaa
open Go.ChangeShapes Go.WideShapes Go.ChangeAt Go.RowKit
set_option linter.unusedVariables false
/-- Any number, taken down below m. -/
theorem placed (a : Int) (m : Nat) (h0 : 0 < m) (h1 : m ≤ 4096) : ∃ r : Nat, r < m ∧ wrap64 ((IntKind.u64.wrap a).tmod (m : Int)) = (r : Int) := by
  rw [IntKind.wrap_u64]
  have h2 : 0 ≤ a % 18446744073709551616 := Int.emod_nonneg _ (by omega)
  have e : (a % 18446744073709551616).tmod (m : Int) = a % 18446744073709551616 % (m : Int) := Int.tmod_eq_emod_of_nonneg h2
  rw [e]
  have h3 : 0 ≤ a % 18446744073709551616 % (m : Int) := Int.emod_nonneg _ (by omega)
  have h4 : a % 18446744073709551616 % (m : Int) < (m : Int) := Int.emod_lt_of_pos _ (by omega)
  rw [IntWalk.wrap64_in _ ⟨by omega, by omega⟩]
  exact ⟨(a % 18446744073709551616 % (m : Int)).toNat, by omega, by omega⟩
namespace diskBurns
/-- The disk behind k writes and syncs, with a fuse of r. -/
def Burn (W : World) (d : Dk) (r k : Nat) (wr : World) : Prop := ∃ S, Dsk wr d S ∧ S.pages.length = 8 ∧ S.fuse = ((r - k : Nat) : Int) ∧ S.done = min r k ∧ Below W.heap.size W wr
theorem Burn.sync {W w w' : World} {d : Dk} {S : St} {r k : Nat} (hlt : k < r) (hl : S.pages.length = 8) (hf : S.fuse = ((r - k : Nat) : Int)) (hd : S.done = min r k) (hb : Below W.heap.size W w) (hn : ∀ i, d.own i → W.heap.size ≤ i)
    (h : Dsk w' d S.sync ∧ Turned w w' d.own) : Burn W d r (k + 1) w' := by
  refine ⟨S.sync, h.1, (sync_len S).trans hl, ?_, ?_, Turned.only_new hb h.2 hb.size hn⟩
  · show (if 0 < S.fuse then S.fuse - 1 else S.fuse) = _
    rw [if_pos (by omega)]; omega
  · show S.done + 1 = _
    omega
theorem Burn.write {W w w' : World} {d : Dk} {S : St} {r k : Nat} {p : Int} {xs : List UInt8} (hlt : k < r) (hl : S.pages.length = 8) (hf : S.fuse = ((r - k : Nat) : Int)) (hd : S.done = min r k) (hb : Below W.heap.size W w) (hn : ∀ i, d.own i → W.heap.size ≤ i)
    (h : Dsk w' d (S.write p xs) ∧ Turned w w' d.own) : Burn W d r (k + 1) w' := by
  refine ⟨S.write p xs, h.1, hl, ?_, ?_, Turned.only_new hb h.2 hb.size hn⟩
  · show (if 0 < S.fuse then S.fuse - 1 else S.fuse) = _
    rw [if_pos (by omega)]; omega
  · show S.done + 1 = _
    omega
theorem Burn.dead {W w w' : World} {d : Dk} {S : St} {r k : Nat} (h : Dsk w d S) (hlt : r ≤ k) (hl : S.pages.length = 8) (hf : S.fuse = ((r - k : Nat) : Int)) (hd : S.done = min r k) (hb : Below W.heap.size W w)
    (h' : Below w.heap.size w w') : Burn W d r (k + 1) w' := by
  refine ⟨S, h.below h', hl, by omega, by omega, hb.trans (h'.mono hb.size)⟩
set_option maxHeartbeats 1000000 in
theorem walk (w : World) (a : Int) (wa : (Lit.int .i64 a).wf = true) (A : Option Addr) (n c : Nat) (hnc : n ≤ c) (hcm : c ≤ maxLen) (B : Nat → Bool) (hr : RdVals w A n (fun i => .bool (B i))) :
    Calls Try.prog 6 #[.int .i64 a, .slice A n c] w fun e w' => e = .returned (.bool true) ∧ Below w.heap.size w w' := by
  by_cases hbig : 300 < n
  · have hd : (300 : Int) < (n : Int) := by omega
    clear hr hcm hbig
    go_enter Try.func6, Try.ntmps6
    go_wp2_with (first | (go_at_call 10; (with_reducible refine (new8 _).mono ?_); rintro e w1 ⟨d, rfl, hd1, hn1, hb1⟩; have HB1 := kept hb1; clear hd1 hn1 hb1))
    go_wp2_with fail
    with_reducible refine (lives_any _).mono ?_
    rintro e w2 ⟨rfl, hb2⟩
    have HB2 := kept hb2
    clear hb2
    go_wp2_with fail
    with_reducible refine (lives_any _).mono ?_
    rintro e w3 ⟨rfl, hb3⟩
    have HB3 := kept hb3
    clear hb3
    go_wp2
    go_ret
    exact ⟨rfl, (HB1.out.trans (HB2.out.mono HB1.out.size)).trans (HB3.out.mono (Nat.le_trans HB1.out.size HB2.out.size))⟩
  · have hd : ¬ (300 : Int) < (n : Int) := by omega
    obtain ⟨r, hr200, hat0⟩ := placed a 200 (by omega) (by omega)
    have hat : wrap64 ((IntKind.u64.wrap a).tmod 200) = (r : Int) := hat0
    clear hat0
    have HR := kept hr
    clear hr hcm
    go_enter Try.func6, Try.ntmps6
    go_wp2_with (first | (go_at_call 10; (with_reducible refine (new8 _).mono ?_); rintro e w1 ⟨d, rfl, hd1, hn1, hb1⟩; have HD1 := kept hd1; have HN1 := kept hn1; have HB1 := kept hb1; clear hd1 hn1 hb1))
    go_wp2_with (first | (go_at_call 11; (with_reducible refine (lives_any _).mono ?_); rintro e w2 ⟨rfl, hb2⟩; have HB2 := kept hb2; clear hb2))
    simp only [hat]
    clear hat
    generalize (IntKind.u64.wrap a).tmod 200 = r26
    generalize IntKind.u64.wrap a = r25
    have HFU := kept (fuse_ok d (fresh 8) (r : Int) w2 (HD1.out.below HB2.out) (by simp [fresh]) (by omega))
    with_reducible refine HFU.out.mono ?_
    rintro e w3 ⟨rfl, h3⟩
    have HS : Hid (Burn w d r 0 w3) := kept ⟨_, h3.out.1, by simp [fresh_len], by show fuseOf (r : Int) = _; unfold fuseOf; rw [if_neg (by omega)]; omega, by show 0 = _; omega, Turned.only_new (HB1.out.trans (HB2.out.mono HB1.out.size)) h3.out.2.1 (Nat.le_trans HB1.out.size HB2.out.size) HN1.out⟩
    clear h3
    go_wp2
    go_loopw [33] (fun i wr => ∃ k : Nat, k ≤ n ∧ i = .int .i64 (k : Int) ∧ Burn w d r k wr) (fun i _ => n - (intOf i).toNat)
    case atStart => exact ⟨0, Nat.zero_le _, rfl, HS.out⟩
    case round =>
      obtain ⟨k, hkn, rfl, S, hd, hl, hf, hdn, hb⟩ := hrel
      have HD := kept hd
      have HL := kept hl
      have HF := kept hf
      have HDN := kept hdn
      have HB := kept hb
      clear hd hl hf hdn hb
      by_cases hlt : k < n
      · obtain ⟨b, rfl, hcell⟩ := (HR.out.below HB.out).at_ hlt
        cases hB : B k with
        | true =>
          rw [hB] at hcell
          clear hB
          by_cases hkr : k < r
          · have HSY := kept (sync_ok d S wr HD.out (by rw [HF.out]; omega) (by rw [HDN.out]; omega))
            go_wp2_with (first | (go_at_call 17; (with_reducible refine (HSY.out).mono ?_); rintro e w4 ⟨rfl, h4⟩; have HE : Hid (Burn w d r (k + 1) w4) := kept (Burn.sync hkr HL.out HF.out HDN.out HB.out HN1.out h4.out); clear h4))
            go_roundw
            case rel => exact ⟨k + 1, by omega, by go_num, HE.out⟩
            case measure => simp [intOf]; omega
          · have HSY := kept (sync_no d S wr HD.out (by rw [HF.out]; omega))
            have HE : Hid (Burn w d r (k + 1) wr) := kept (Burn.dead HD.out (by omega) HL.out HF.out HDN.out HB.out (Below.refl _ _))
            go_wp2_with (first | (go_at_call 17; (with_reducible refine (HSY.out).mono ?_); rintro e w4 ⟨rfl, rfl⟩))
            go_roundw
            case rel => exact ⟨k + 1, by omega, by go_num, HE.out⟩
            case measure => simp [intOf]; omega
        | false =>
          rw [hB] at hcell
          clear hB
          by_cases hkr : k < r
          · skip
            go_wp2_with (first | (go_at_call 16; (with_reducible refine (filled_any 3 _ (by omega) (by omega)).mono ?_); rintro e w4 ⟨b4, rfl, hk4, hn4, hb4⟩; have HK4 := kept hk4; have HB4 := kept hb4; clear hk4 hn4 hb4))
            have HW := kept (write_ok d S 1 (some ⟨b4, 0, none⟩) 256 (fill 3) w4 (HD.out.below HB4.out) (by rw [HF.out]; omega) (by omega) (by rw [HL.out]; omega) (HK4.out.rd (fill_length 3)) (by rw [HDN.out]; omega))
            go_wp2_with (first | (go_at_call 15; (with_reducible refine (HW.out).mono ?_); rintro e w5 ⟨rfl, h5⟩; have HE : Hid (Burn w d r (k + 1) w5) := kept (Burn.write hkr HL.out HF.out HDN.out (HB.out.trans (HB4.out.mono HB.out.size)) HN1.out h5.out); clear h5))
            go_roundw
            case rel => exact ⟨k + 1, by omega, by go_num, HE.out⟩
            case measure => simp [intOf]; omega
          · skip
            go_wp2_with (first | (go_at_call 16; (with_reducible refine (filled_any 3 _ (by omega) (by omega)).mono ?_); rintro e w4 ⟨b4, rfl, hk4, hn4, hb4⟩; have HK4 := kept hk4; have HB4 := kept hb4; clear hk4 hn4 hb4))
            have HW := kept (write_no d 1 10 (some ⟨b4, 0, none⟩) 256 256 w4 (by omega) (has_dead d S 1 w4 (HD.out.below HB4.out) (by rw [HF.out]; omega)))
            have HE : Hid (Burn w d r (k + 1) w4) := kept (Burn.dead HD.out (by omega) HL.out HF.out HDN.out HB.out HB4.out)
            go_wp2_with (first | (go_at_call 15; (with_reducible refine (HW.out).mono ?_); rintro e w5 ⟨rfl, rfl⟩))
            go_roundw
            case rel => exact ⟨k + 1, by omega, by go_num, HE.out⟩
            case measure => simp [intOf]; omega
      · obtain rfl : k = n := by omega
        have HDO := kept (done_any d S wr HD.out)
        by_cases hrk : r ≤ k
        · rw [HDN.out, Nat.min_eq_left hrk] at HDO
          have HRD := kept (read_no d 0 10 wr (by omega) (has_dead d S 0 wr HD.out (by rw [HF.out]; omega)))
          go_wp2_with (first | (go_at_call 19; (with_reducible refine (HDO.out).mono ?_); rintro e w4 ⟨rfl, rfl⟩) | (go_at_call 12; (with_reducible refine (HRD.out).mono ?_); rintro e w4 ⟨rfl, rfl⟩))
          have BB := HB.out
          go_wp2_with (first | (go_at_call 14; (with_reducible refine (crash_any d S none 0 0 [] wr HD.out (kp_nil wr) (by omega)).mono ?_); rintro e w4 ⟨rfl, h4⟩))
          have HD4 : Hid (Dsk w4 d (S.crash []) ∧ Turned wr w4 d.own) := kept h4.out
          clear h4
          go_wp2_with (first | (go_at_call 16; (with_reducible refine (filled_any 4 _ (by omega) (by omega)).mono ?_); rintro e w5 ⟨b5, rfl, hk5, hn5, hb5⟩; have HK5 := kept hk5; have HB5 := kept hb5; clear hk5 hn5 hb5))
          have HW := kept (write_ok d (S.crash []) 1 (some ⟨b5, 0, none⟩) 256 (fill 4) w5 (HD4.out.1.below HB5.out) (by show (-1 : Int) ≠ 0; omega) (by omega) (by rw [crash_len, HL.out]; omega) (HK5.out.rd (fill_length 4)) (by show S.done ≤ _; rw [HDN.out]; omega))
          go_wp2_with (first | (go_at_call 15; (with_reducible refine (HW.out).mono ?_); rintro e w6 ⟨rfl, h6⟩))
          go_ret
          have B4 : Below w.heap.size w w4 := Turned.only_new BB HD4.out.2 BB.size HN1.out
          have B5 := B4.trans (HB5.out.mono B4.size)
          exact ⟨rfl, Turned.only_new B5 h6.out.2 B5.size HN1.out⟩
        · have hkr : k < r := by omega
          rw [HDN.out, Nat.min_eq_right (Nat.le_of_lt hkr)] at HDO
          have HRD := kept (read_ok d S 0 wr HD.out (by rw [HF.out]; omega) (by omega) (by rw [HL.out]; omega))
          go_wp2_with (first | (go_at_call 19; (with_reducible refine (HDO.out).mono ?_); rintro e w4 ⟨rfl, rfl⟩) | (go_at_call 12; (with_reducible refine (HRD.out).mono ?_); rintro e w7 ⟨b7, rfl, hk7, hn7, hb7⟩; have HB7 := kept hb7; clear hk7 hn7 hb7))
          have BB := HB.out.trans (HB7.out.mono HB.out.size)
          go_wp2_with (first | (go_at_call 14; (with_reducible refine (crash_any d S none 0 0 [] w7 (HD.out.below HB7.out) (kp_nil w7) (by omega)).mono ?_); rintro e w4 ⟨rfl, h4⟩))
          have HD4 : Hid (Dsk w4 d (S.crash []) ∧ Turned w7 w4 d.own) := kept h4.out
          clear h4
          go_wp2_with (first | (go_at_call 16; (with_reducible refine (filled_any 4 _ (by omega) (by omega)).mono ?_); rintro e w5 ⟨b5, rfl, hk5, hn5, hb5⟩; have HK5 := kept hk5; have HB5 := kept hb5; clear hk5 hn5 hb5))
          have HW := kept (write_ok d (S.crash []) 1 (some ⟨b5, 0, none⟩) 256 (fill 4) w5 (HD4.out.1.below HB5.out) (by show (-1 : Int) ≠ 0; omega) (by omega) (by rw [crash_len, HL.out]; omega) (HK5.out.rd (fill_length 4)) (by show S.done ≤ _; rw [HDN.out]; omega))
          go_wp2_with (first | (go_at_call 15; (with_reducible refine (HW.out).mono ?_); rintro e w6 ⟨rfl, h6⟩))
          go_ret
          have B4 : Below w.heap.size w w4 := Turned.only_new BB HD4.out.2 BB.size HN1.out
          have B5 := B4.trans (HB5.out.mono B4.size)
          exact ⟨rfl, Turned.only_new B5 h6.out.2 B5.size HN1.out⟩
end diskBurns
end Go.Proofs.Ytfmljiidgaoihaa
