/-
  The walk of the law DiskStays.
-/
import Derived.Test.YtfmljiidgaoihaaDiskSyncsWalk
import Derived.Test.YtfmljiidgaoihaaDiskBurnsWalk
namespace Go.Proofs.Ytfmljiidgaoihaa.diskStays
open Go.ChangeShapes Go.WideShapes Go.ChangeAt Go.RowKit
set_option linter.unusedVariables false
/-- Page r is on the disk, and not in the cache. -/
def Has (S : St) (r : Nat) (X : List UInt8) : Prop := S.pages.getD r [] = X ∧ S.cache (r : Int) = none
theorem laid_has {S : St} {r : Nat} {X : List UInt8} (h : Has S r X) (new : Nat → List UInt8) : (S.laidAll new).getD r [] = X := by
  unfold St.laidAll
  by_cases hr : r < S.pages.length
  · rw [List.getD_eq_getElem?_getD, List.getElem?_eq_getElem (by rw [laid_length]; exact hr)]
    simp only [laid, List.getElem_map, List.getElem_range, Option.getD_some]
    rw [if_neg (by rw [h.2]; simp)]
    exact h.1
  · have h1 := h.1
    rw [List.getD_eq_getElem?_getD, List.getElem?_eq_none (by omega)] at h1
    rw [List.getD_eq_getElem?_getD, List.getElem?_eq_none (by rw [laid_length]; omega)]
    exact h1
theorem has_act {S : St} {r : Nat} {X : List UInt8} (h : Has S r X) (a : Ac) (hn : ¬ (a.k = 0 ∧ a.p = (r : Int))) : Has (S.act a) r X := by
  unfold St.act St.tryWrite St.trySync St.tryFuse
  split
  · rename_i k0
    split
    · exact h
    · split
      · exact h
      · refine ⟨h.1, ?_⟩
        show (if (r : Int) = a.p then some (fill a.x) else S.cache (r : Int)) = none
        rw [if_neg (fun e => hn ⟨k0, e.symm⟩)]
        exact h.2
  · split
    · split
      · exact h
      · exact ⟨laid_has h _, rfl⟩
    · split
      · split
        · exact h
        · exact h
      · split
        · exact ⟨laid_has h _, rfl⟩
        · exact h
def Loop (W : World) (d : Dk) (r : Nat) (X : List UInt8) (k : Nat) (wr : World) : Prop := ∃ S, Dsk wr d S ∧ S.pages.length = 32 ∧ S.done ≤ 2 + k ∧ Has S r X ∧ Below W.heap.size W wr
theorem Loop.on {W wr w' : World} {d : Dk} {r k : Nat} {X : List UInt8} (h : Loop W d r X k wr) (hb : Below wr.heap.size wr w') : Loop W d r X (k + 1) w' := by
  obtain ⟨S, h1, h2, h3, h4, h5⟩ := h
  exact ⟨S, h1.below hb, h2, by omega, h4, h5.trans (hb.mono h5.size)⟩
theorem first_sync {r : Nat} (hr : r < 32) (xs : List UInt8) : Has ((fresh 32).write (r : Int) xs).sync r xs := by
  refine ⟨?_, rfl⟩
  show (St.laidAll ((fresh 32).write (r : Int) xs) (fun i => St.page ((fresh 32).write (r : Int) xs) (i : Int))).getD r [] = xs
  unfold St.laidAll
  rw [List.getD_eq_getElem?_getD, List.getElem?_eq_getElem (by rw [laid_length, write_pages, fresh_len]; exact hr)]
  simp only [laid, List.getElem_map, List.getElem_range, Option.getD_some]
  have e : ((fresh 32).write (r : Int) xs).cache (r : Int) = some xs := by
    show (if (r : Int) = (r : Int) then some xs else (fresh 32).cache (r : Int)) = some xs
    rw [if_pos rfl]
  rw [if_pos ⟨trivial, by rw [e]; rfl⟩]
  exact write_page_same _ _ _
set_option maxHeartbeats 1000000 in
theorem walk (w : World) (a : Int) (wa : (Lit.int .i64 a).wf = true) (x : Int) (wx : (Lit.int .u8 x).wf = true) (A : Option Addr) (n c : Nat) (hnc : n ≤ c) (hcm : c ≤ maxLen) (K P N X : Nat → Int) (hr : RdActs w A n K P N X) :
    Calls Try.prog 4 #[.int .i64 a, .int .u8 x, .slice A n c] w fun e w' => e = .returned (.bool true) ∧ Below w.heap.size w w' := by
  obtain ⟨r, hr32, hat0⟩ := placed a 32 (by omega) (by omega)
  have hat : wrap64 ((IntKind.u64.wrap a).tmod 32) = (r : Int) := hat0
  have hx : 0 ≤ x ∧ x ≤ 255 := by simpa [Lit.wf, IntKind.min, IntKind.max, IntKind.signed, IntKind.bits] using wx
  obtain ⟨x0, x1⟩ := hx
  have hm : n ≤ 9223372036854775807 := by unfold maxLen at hcm; omega
  have HR := kept hr
  clear hr hcm hat0 wx
  go_enter Try.func4, Try.ntmps4
  go_wp2_with (first | (go_at_call 10; (with_reducible refine (new32 _).mono ?_); rintro e w1 ⟨d, rfl, hd1, hn1, hb1⟩; have HD1 := kept hd1; have HN1 := kept hn1; have HB1 := kept hb1; clear hd1 hn1 hb1))
  go_wp2_with (first | (go_at_call 11; (with_reducible refine (lives_any _).mono ?_); rintro e w2 ⟨rfl, hb2⟩; have HB2 := kept hb2; clear hb2))
  simp only [hat]
  clear hat
  generalize (IntKind.u64.wrap a).tmod 32 = r26
  generalize IntKind.u64.wrap a = r25
  have HFL := kept (filled_any x w2 x0 x1)
  with_reducible refine HFL.out.mono ?_
  rintro e w3 ⟨b3, rfl, hk3, hn3, hb3⟩
  have HK3 := kept hk3
  have HB3 := kept hb3
  clear hk3 hn3 hb3
  have HW := kept (write_ok d (fresh 32) (r : Int) (some ⟨b3, 0, none⟩) 256 (fill x) w3 ((HD1.out.below HB2.out).below HB3.out) (by simp [fresh]) (by omega) (by rw [fresh_len]; omega) (HK3.out.rd (fill_length x)) (by simp [fresh]))
  go_wp2_with (first | (go_at_call 15; (with_reducible refine (HW.out).mono ?_); rintro e w4 ⟨rfl, h4⟩))
  have HB12 : Hid (Below w.heap.size w w3) := kept ((HB1.out.trans (HB2.out.mono HB1.out.size)).trans (HB3.out.mono (Nat.le_trans HB1.out.size HB2.out.size)))
  have HB4 : Hid (Below w.heap.size w w4) := kept (Turned.only_new HB12.out h4.out.2 HB12.out.size HN1.out)
  have HSY := kept (sync_ok d _ w4 h4.out.1 (by rw [write_fuse _ _ _ rfl]; omega) (by rw [write_done]; simp [fresh]))
  go_wp2_with (first | (go_at_call 17; (with_reducible refine (HSY.out).mono ?_); rintro e w5 ⟨rfl, h5⟩))
  have HS : Hid (Loop w d r (fill x) 0 w5) := kept ⟨_, h5.out.1, by rw [sync_len, write_pages, fresh_len], Nat.le_refl _, first_sync hr32 _, Turned.only_new HB4.out h5.out.2 HB4.out.size HN1.out⟩
  clear h4 h5
  go_loopw [36] (fun i wr => ∃ k : Nat, k ≤ n ∧ k ≤ 100 ∧ i = .int .i64 (k : Int) ∧ Loop w d r (fill x) k wr) (fun i _ => n - (intOf i).toNat)
  case atStart => exact ⟨0, Nat.zero_le _, by omega, rfl, HS.out⟩
  case round =>
    obtain ⟨k, hkn, hk100, rfl, S, hd, hl, hdn, hh, hb⟩ := hrel
    have HD := kept hd
    have HL := kept hl
    have HDN := kept hdn
    have HH := kept hh
    have HB := kept hb
    have HLO : Hid (Loop w d r (fill x) k wr) := kept ⟨S, hd, hl, hdn, hh, hb⟩
    clear hd hl hdn hh hb
    by_cases hlt : k < n
    · obtain ⟨b, o, rfl, c0, c1, c2, c3⟩ := (HR.out.below HB.out).there hlt
      by_cases h100 : 100 ≤ k
      · skip
        go_wp2_with (first | (go_at_call 14; (with_reducible refine (crash_any d S none 0 0 [] (wr.alloc (.cells #[.int .i64 (K k), .int .i64 (P k), .int .i64 (N k), .int .u8 (X k)] 42)) (HD.out.below ((Below.refl _ wr).alloc (Nat.le_refl _) _)) (kp_nil _) (by omega)).mono ?_); rintro e w6 ⟨rfl, h6⟩))
        have HD6 : Hid (Dsk w6 d (S.crash [])) := kept h6.out.1
        have HB6 : Hid (Below w.heap.size w w6) := kept (Turned.only_new (HB.out.alloc HB.out.size _) h6.out.2 ((HB.out.alloc HB.out.size _)).size HN1.out)
        have HH6 : Hid ((S.crash []).page (r : Int) = fill x) := kept (by
          have h1 := has_act HH.out ⟨4, 0, 0, 0⟩ (by simp)
          show ((S.crash []).cache (r : Int)).getD ((S.crash []).pages.getD (Int.toNat (r : Int)) []) = fill x
          rw [Int.toNat_natCast]
          show (S.laidAll (S.torn [])).getD r [] = fill x
          exact laid_has HH.out _)
        clear h6
        have HRD := kept (read_ok d (S.crash []) (r : Int) w6 HD6.out (by show (-1 : Int) ≠ 0; omega) (by omega) (by rw [crash_len, HL.out]; omega))
        go_wp2_with (first | (go_at_call 12; (with_reducible refine (HRD.out).mono ?_); rintro e w7 ⟨b7, rfl, hk7, hn7, hb7⟩; have HK7 := kept hk7; have HB7 := kept hb7; clear hk7 hn7 hb7) | (go_at_call 16; (with_reducible refine (filled_any x _ x0 x1).mono ?_); rintro e w8 ⟨b8, rfl, hk8, hn8, hb8⟩; have HK8 := kept hk8; have HB8 := kept hb8; clear hk8 hn8 hb8))
        have HSM := kept (same_any (some ⟨b7, 0, none⟩) (some ⟨b8, 0, none⟩) 256 256 256 256 (fill x) (fill x) w8 ((Blk.rd (by rw [← HH6.out]; exact HK7.out) (fill_length x)).below HB8.out) (HK8.out.rd (fill_length x)) true (by simp))
        go_wp2_with (first | (go_at_call 25; (with_reducible refine (HSM.out).mono ?_); rintro e w' ⟨rfl, rfl⟩))
        go_ret
        exact ⟨rfl, (HB6.out.trans (HB7.out.mono HB6.out.size)).trans (HB8.out.mono (Nat.le_trans HB6.out.size HB7.out.size))⟩
      · by_cases hk0 : K k = 0
        · rw [hk0] at c0
          by_cases hpr : P k = (r : Int)
          · rw [hpr] at c1
            have HE : Hid (Loop w d r (fill x) (k + 1) (wr.alloc (.cells #[.int .i64 0, .int .i64 (r : Int), .int .i64 (N k), .int .u8 (X k)] 42))) := kept (HLO.out.on ((Below.refl _ wr).alloc (Nat.le_refl _) _))
            clear hk0 hpr
            go_wp2
            go_roundw
            case rel => exact ⟨k + 1, by omega, by omega, by go_num, HE.out⟩
            case measure => simp [intOf]; omega
          · have hpb : (P k == (r : Int)) = false := by simp [hpr]
            have HPR := kept hpr
            have HK0 := kept hk0
            clear hk0 hpr
            have HDO := kept (do_act d S 0 (P k) (N k) (X k) (wr.alloc (.cells #[.int .i64 0, .int .i64 (P k), .int .i64 (N k), .int .u8 (X k)] 42)) (HD.out.below ((Below.refl _ wr).alloc (Nat.le_refl _) _)) (by have := acOf_ok HR.out hlt; unfold acOf at this; rw [HK0.out] at this; exact this) (by have := HDN.out; omega))
            go_wp2_with (first | (go_at_call 30; (with_reducible refine (HDO.out).mono ?_); rintro e w6 ⟨rfl, h6⟩))
            have B1 : Below w.heap.size w (wr.alloc (.cells #[.int .i64 0, .int .i64 (P k), .int .i64 (N k), .int .u8 (X k)] 42)) := HB.out.alloc HB.out.size _
            have HE : Hid (Loop w d r (fill x) (k + 1) w6) := kept ⟨_, h6.out.1, (act_len _ _).trans HL.out, Nat.le_trans (act_done _ _) (by have := HDN.out; omega), has_act HH.out _ (fun e => HPR.out e.2), Turned.only_new B1 h6.out.2 B1.size HN1.out⟩
            clear h6 B1
            go_roundw
            case rel => exact ⟨k + 1, by omega, by omega, by go_num, HE.out⟩
            case measure => simp [intOf]; omega
        · have hkb : (K k == 0) = false := by simp [hk0]
          have HK0 := kept hk0
          clear hk0
          have HDO := kept (do_act d S (K k) (P k) (N k) (X k) (wr.alloc (.cells #[.int .i64 (K k), .int .i64 (P k), .int .i64 (N k), .int .u8 (X k)] 42)) (HD.out.below ((Below.refl _ wr).alloc (Nat.le_refl _) _)) (acOf_ok HR.out hlt) (by have := HDN.out; omega))
          go_wp2_with (first | (go_at_call 30; (with_reducible refine (HDO.out).mono ?_); rintro e w6 ⟨rfl, h6⟩))
          have B1 : Below w.heap.size w (wr.alloc (.cells #[.int .i64 (K k), .int .i64 (P k), .int .i64 (N k), .int .u8 (X k)] 42)) := HB.out.alloc HB.out.size _
          have HE : Hid (Loop w d r (fill x) (k + 1) w6) := kept ⟨_, h6.out.1, (act_len _ _).trans HL.out, Nat.le_trans (act_done _ _) (by have := HDN.out; omega), has_act HH.out _ (fun e => HK0.out e.1), Turned.only_new B1 h6.out.2 B1.size HN1.out⟩
          clear h6 B1
          go_roundw
          case rel => exact ⟨k + 1, by omega, by omega, by go_num, HE.out⟩
          case measure => simp [intOf]; omega
    · obtain rfl : k = n := by omega
      go_wp2_with (first | (go_at_call 14; (with_reducible refine (crash_any d S none 0 0 [] (wr) HD.out (kp_nil _) (by omega)).mono ?_); rintro e w6 ⟨rfl, h6⟩))
      have HD6 : Hid (Dsk w6 d (S.crash [])) := kept h6.out.1
      have HB6 : Hid (Below w.heap.size w w6) := kept (Turned.only_new HB.out h6.out.2 (HB.out).size HN1.out)
      have HH6 : Hid ((S.crash []).page (r : Int) = fill x) := kept (by
        have h1 := has_act HH.out ⟨4, 0, 0, 0⟩ (by simp)
        show ((S.crash []).cache (r : Int)).getD ((S.crash []).pages.getD (Int.toNat (r : Int)) []) = fill x
        rw [Int.toNat_natCast]
        show (S.laidAll (S.torn [])).getD r [] = fill x
        exact laid_has HH.out _)
      clear h6
      have HRD := kept (read_ok d (S.crash []) (r : Int) w6 HD6.out (by show (-1 : Int) ≠ 0; omega) (by omega) (by rw [crash_len, HL.out]; omega))
      go_wp2_with (first | (go_at_call 12; (with_reducible refine (HRD.out).mono ?_); rintro e w7 ⟨b7, rfl, hk7, hn7, hb7⟩; have HK7 := kept hk7; have HB7 := kept hb7; clear hk7 hn7 hb7) | (go_at_call 16; (with_reducible refine (filled_any x _ x0 x1).mono ?_); rintro e w8 ⟨b8, rfl, hk8, hn8, hb8⟩; have HK8 := kept hk8; have HB8 := kept hb8; clear hk8 hn8 hb8))
      have HSM := kept (same_any (some ⟨b7, 0, none⟩) (some ⟨b8, 0, none⟩) 256 256 256 256 (fill x) (fill x) w8 ((Blk.rd (by rw [← HH6.out]; exact HK7.out) (fill_length x)).below HB8.out) (HK8.out.rd (fill_length x)) true (by simp))
      go_wp2_with (first | (go_at_call 25; (with_reducible refine (HSM.out).mono ?_); rintro e w' ⟨rfl, rfl⟩))
      go_ret
      exact ⟨rfl, (HB6.out.trans (HB7.out.mono HB6.out.size)).trans (HB8.out.mono (Nat.le_trans HB6.out.size HB7.out.size))⟩
end Go.Proofs.Ytfmljiidgaoihaa.diskStays
