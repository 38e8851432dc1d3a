/-
  The walk of the law DiskTorn.
-/
import Derived.Test.YtfmljiidgaoihaaDiskStaysWalk
import Derived.Test.YtfmljiidgaoihaaDq
namespace Go.Proofs.Ytfmljiidgaoihaa
open Go.ChangeShapes Go.WideShapes Go.ChangeAt Go.RowKit
set_option linter.unusedVariables false
theorem CachedV.none_ {S : St} {w w' : World} {e : Ending} (hc : ∀ x, S.cache x = none) (h : CachedV S w e w') : ∃ A c, e = .returned (.slice A 0 c) ∧ Below w.heap.size w w' := by
  obtain ⟨A, c, ks, he, _, hm, _, hb⟩ := h
  have : ks = [] := List.eq_nil_iff_forall_not_mem.2 fun x hx => by have := (hm x).1 hx; rw [hc] at this; cases this
  subst this
  exact ⟨A, c, he, hb⟩
theorem sync_fuse (S : St) (h : S.fuse = -1) : S.sync.fuse = -1 := by simp [St.sync, St.count, h]
namespace diskTorn
def before (r : Nat) (x y : Int) : St := (((fresh 16).write (r : Int) (fill x)).sync).write (r : Int) (fill y)
def after (r : Nat) (x y n : Int) : St := (before r x y).crash [((r : Int), n)]
theorem before_len (r : Nat) (x y : Int) : (before r x y).pages.length = 16 := by
  unfold before
  rw [write_pages, sync_len, write_pages, fresh_len]
theorem before_pages {r : Nat} (hr : r < 16) (x y : Int) : (before r x y).pages.getD r [] = fill x := by
  show (St.laidAll ((fresh 16).write (r : Int) (fill x)) (fun i => St.page ((fresh 16).write (r : Int) (fill x)) (i : Int))).getD r [] = fill x
  unfold St.laidAll
  rw [List.getD_eq_getElem?_getD, List.getElem?_eq_getElem (by rw [laid_length, write_pages, fresh_len]; exact hr)]
  simp only [laid, List.getElem_map, List.getElem_range, Option.getD_some]
  have e : ((fresh 16).write (r : Int) (fill x)).cache (r : Int) = some (fill x) := by
    show (if (r : Int) = (r : Int) then some (fill x) else (fresh 16).cache (r : Int)) = some (fill x)
    rw [if_pos rfl]
  rw [if_pos ⟨trivial, by rw [e]; rfl⟩]
  exact write_page_same _ _ _
theorem after_page {r : Nat} (hr : r < 16) (x y n : Int) : (after r x y n).page (r : Int) = (fill y).take (clampK n).toNat ++ (fill x).drop (clampK n).toNat := by
  have e : (before r x y).cache (r : Int) = some (fill y) := by
    show (if (r : Int) = (r : Int) then some (fill y) else _) = some (fill y)
    rw [if_pos rfl]
  have e1 : (after r x y n).page (r : Int) = (St.laidAll (before r x y) (St.torn (before r x y) [((r : Int), n)])).getD r [] := rfl
  rw [e1]
  unfold St.laidAll
  rw [List.getD_eq_getElem?_getD, List.getElem?_eq_getElem (by rw [laid_length, before_len]; exact hr)]
  simp only [laid, List.getElem_map, List.getElem_range, Option.getD_some]
  rw [if_pos ⟨trivial, by rw [e]; rfl⟩]
  have e2 : St.keptN (before r x y) [((r : Int), n)] r = (clampK n).toNat := by simp [St.keptN, kf]
  unfold St.torn
  rw [e2, before_pages hr, show (before r x y).page (r : Int) = fill y from write_page_same _ _ _]
/-- What stands at each place of the page. -/
theorem torn_cell {w : World} {b : Nat} {x y : Int} {q : Nat} (x0 : 0 ≤ x) (x1 : x ≤ 255) (y0 : 0 ≤ y) (y1 : y ≤ 255) (hq : q ≤ 256) (h : Blk w b 75 (cellsOf ((fill y).take q ++ (fill x).drop q))) {k : Nat} (hk : k < 256) :
    w.cell? ⟨b, k, none⟩ = some (.int .u8 (if k < q then y else x)) := by
  rw [h.cell, cellsOf_append]
  have e1 : cellsOf ((fill y).take q) = (List.replicate 256 (Value.int .u8 y)).take q := by rw [← fill_cells y y0 y1]; simp [cellsOf]
  have e2 : cellsOf ((fill x).drop q) = (List.replicate 256 (Value.int .u8 x)).drop q := by rw [← fill_cells x x0 x1]; simp [cellsOf]
  rw [e1, e2, List.take_replicate, List.drop_replicate, Nat.min_eq_left hq]
  by_cases hkq : k < q
  · rw [if_pos hkq, List.getElem?_append_left (by rw [List.length_replicate]; exact hkq), List.getElem?_replicate, if_pos hkq]
  · rw [if_neg hkq, List.getElem?_append_right (by rw [List.length_replicate]; omega), List.length_replicate, List.getElem?_replicate, if_pos (by omega)]
set_option maxRecDepth 100000 in
set_option maxHeartbeats 1000000 in
theorem walk_lo (w : World) (a : Int) (n : Int) (wn : Wf n) (x y : Int) (x0 : 0 ≤ x) (x1 : x ≤ 255) (y0 : 0 ≤ y) (y1 : y ≤ 255) (hn : n < 0) :
    Calls Try.prog 5 #[.int .i64 a, .int .i64 n, .int .u8 x, .int .u8 y] w fun e w' => e = .returned (.bool true) ∧ Below w.heap.size w w' := by
  obtain ⟨r, hr16, hat0⟩ := placed a 16 (by omega) (by omega)
  have hat : wrap64 ((IntKind.u64.wrap a).tmod 16) = (r : Int) := hat0
  clear hat0
  have HWN := kept wn
  clear wn
  go_enter Try.func5, Try.ntmps5
  go_wp2_with (first | (go_at_call 10; (with_reducible refine (new16 _).mono ?_); rintro e w1 ⟨d, rfl, hd1, hn1, hb1⟩; have HD1 := kept hd1; have HN1 := kept hn1; have HB1 := kept hb1; clear hd1 hn1 hb1))
  go_wp2_with (first | (go_at_call 11; (with_reducible refine (lives_any _).mono ?_); rintro e w2 ⟨rfl, hb2⟩; have HB2 := kept hb2; clear hb2))
  simp only [hat]
  clear hat
  generalize (IntKind.u64.wrap a).tmod 16 = r26
  generalize IntKind.u64.wrap a = r25
  have HFL := kept (filled_any x w2 x0 x1)
  with_reducible refine HFL.out.mono ?_
  rintro e w3 ⟨b3, rfl, hk3, hn3, hb3⟩
  have HK3 := kept hk3
  have HB3 := kept hb3
  clear hk3 hn3 hb3
  have HW := kept (write_ok d (fresh 16) (r : Int) (some ⟨b3, 0, none⟩) 256 (fill x) w3 ((HD1.out.below HB2.out).below HB3.out) (by simp [fresh]) (by omega) (by rw [fresh_len]; omega) (HK3.out.rd (fill_length x)) (by simp [fresh]))
  go_wp2_with (first | (go_at_call 15; (with_reducible refine (HW.out).mono ?_); rintro e w4 ⟨rfl, h4⟩))
  have HB12 : Hid (Below w.heap.size w w3) := kept ((HB1.out.trans (HB2.out.mono HB1.out.size)).trans (HB3.out.mono (Nat.le_trans HB1.out.size HB2.out.size)))
  have HB4 : Hid (Below w.heap.size w w4) := kept (Turned.only_new HB12.out h4.out.2 HB12.out.size HN1.out)
  have HSY := kept (sync_ok d _ w4 h4.out.1 (by rw [write_fuse _ _ _ rfl]; omega) (by rw [write_done]; simp [fresh]))
  clear h4
  go_wp2_with (first | (go_at_call 17; (with_reducible refine (HSY.out).mono ?_); rintro e w5 ⟨rfl, h5⟩))
  have HD5 := kept h5.out.1
  have HB5 : Hid (Below w.heap.size w w5) := kept (Turned.only_new HB4.out h5.out.2 HB4.out.size HN1.out)
  clear h5
  go_wp2_with (first | (go_at_call 16; (with_reducible refine (filled_any y _ y0 y1).mono ?_); rintro e w6 ⟨b6, rfl, hk6, hn6, hb6⟩; have HK6 := kept hk6; have HB6 := kept hb6; clear hk6 hn6 hb6))
  have HW2 := kept (write_ok d _ (r : Int) (some ⟨b6, 0, none⟩) 256 (fill y) w6 (HD5.out.below HB6.out) (by rw [sync_fuse _ (write_fuse _ _ _ rfl)]; omega) (by omega) (by rw [sync_len, write_pages, fresh_len]; omega) (HK6.out.rd (fill_length y)) (by show 0 + 1 + 1 ≤ _; omega))
  go_wp2_with (first | (go_at_call 15; (with_reducible refine (HW2.out).mono ?_); rintro e w7 ⟨rfl, h7⟩))
  have HD7 : Hid (Dsk w7 d (before r x y)) := kept h7.out.1
  have HB7 : Hid (Below w.heap.size w w7) := kept (Turned.only_new (HB5.out.trans (HB6.out.mono HB5.out.size)) h7.out.2 (Nat.le_trans HB5.out.size HB6.out.size) HN1.out)
  clear h7
  have HK8 : Hid (Kp (w7.alloc (.cells #[.int .i64 (r : Int), .int .i64 n] 46)) (some ⟨w7.heap.size, 0, none⟩) 1 [((r : Int), n)]) := kept (kp_one (Blk.new w7 46 #[.int .i64 (r : Int), .int .i64 n]) (by unfold Wf; omega) HWN.out)
  have HCR := kept (crash_any d (before r x y) (some ⟨w7.heap.size, 0, none⟩) 1 1 [((r : Int), n)] _ (HD7.out.below ((Below.refl _ w7).alloc (Nat.le_refl _) _)) HK8.out (by omega))
  go_wp2_with (first | (go_at_call 14; (with_reducible refine (HCR.out).mono ?_); rintro e w8 ⟨rfl, h8⟩))
  have HD8 : Hid (Dsk w8 d (after r x y n)) := kept h8.out.1
  have B7 : Below w.heap.size w (w7.alloc (.cells #[.int .i64 (r : Int), .int .i64 n] 46)) := HB7.out.alloc HB7.out.size _
  have HB8 : Hid (Below w.heap.size w w8) := kept (Turned.only_new B7 h8.out.2 B7.size HN1.out)
  clear h8 B7
  have HRD := kept (read_ok d (after r x y n) (r : Int) w8 HD8.out (by show (-1 : Int) ≠ 0; omega) (by omega) (by unfold after; rw [crash_len, before_len]; omega))
  go_wp2_with (first | (go_at_call 12; (with_reducible refine (HRD.out).mono ?_); rintro e w9 ⟨b9, rfl, hk9, hn9, hb9⟩; have HK9 := kept hk9; have HB9 := kept hb9; clear hk9 hn9 hb9))
  have HCA := kept (((cached_any d (after r x y n) w9 (HD8.out.below HB9.out) (by show 0 + 1 + 1 + 1 ≤ _; omega)).mono fun e w' h => CachedV.none_ (fun _ => rfl) h))
  go_wp2_with (first | (go_at_call 20; (with_reducible refine (HCA.out).mono ?_); rintro e w10 ⟨A10, c10, rfl, hb10⟩; have HB10 := kept hb10; clear hb10))
  have HKB : Hid (Blk w10 b9 75 (cellsOf ((fill y).take 0 ++ (fill x).drop 0))) := kept (by
    have h1 := HK9.out
    rw [after_page hr16, show (clampK n).toNat = 0 from (by simp [clampK, hn])] at h1
    exact h1.below HB10.out h1.lt)
  go_loopw [67] (fun i wr => ∃ k : Nat, k ≤ 256 ∧ i = .int .i64 (k : Int) ∧ wr = w10) (fun i _ => 256 - (intOf i).toNat)
  case atStart => exact ⟨0, by omega, rfl, rfl⟩
  case round =>
    obtain ⟨k, hk, rfl, rfl⟩ := hrel
    by_cases hlt : k < 256
    · have hc := torn_cell (q := 0) x0 x1 y0 y1 (by omega) HKB.out hlt
      rw [if_neg (by omega)] at hc
      have h1 : ¬ (k : Int) < 0 := by omega
      go_wp2
      go_roundw
      case rel => exact ⟨k + 1, by omega, by go_num, trivial⟩
      case measure => simp [intOf]; omega
    · obtain rfl : k = 256 := by omega
      go_wp2
      go_ret
      exact ⟨rfl, (HB8.out.trans (HB9.out.mono HB8.out.size)).trans (HB10.out.mono (Nat.le_trans HB8.out.size HB9.out.size))⟩
set_option maxRecDepth 100000 in
set_option maxHeartbeats 1000000 in
theorem walk_hi (w : World) (a : Int) (n : Int) (wn : Wf n) (x y : Int) (x0 : 0 ≤ x) (x1 : x ≤ 255) (y0 : 0 ≤ y) (y1 : y ≤ 255) (hn : 256 < n) :
    Calls Try.prog 5 #[.int .i64 a, .int .i64 n, .int .u8 x, .int .u8 y] w fun e w' => e = .returned (.bool true) ∧ Below w.heap.size w w' := by
  obtain ⟨r, hr16, hat0⟩ := placed a 16 (by omega) (by omega)
  have hat : wrap64 ((IntKind.u64.wrap a).tmod 16) = (r : Int) := hat0
  clear hat0
  have HWN := kept wn
  clear wn
  go_enter Try.func5, Try.ntmps5
  go_wp2_with (first | (go_at_call 10; (with_reducible refine (new16 _).mono ?_); rintro e w1 ⟨d, rfl, hd1, hn1, hb1⟩; have HD1 := kept hd1; have HN1 := kept hn1; have HB1 := kept hb1; clear hd1 hn1 hb1))
  go_wp2_with (first | (go_at_call 11; (with_reducible refine (lives_any _).mono ?_); rintro e w2 ⟨rfl, hb2⟩; have HB2 := kept hb2; clear hb2))
  simp only [hat]
  clear hat
  generalize (IntKind.u64.wrap a).tmod 16 = r26
  generalize IntKind.u64.wrap a = r25
  have HFL := kept (filled_any x w2 x0 x1)
  with_reducible refine HFL.out.mono ?_
  rintro e w3 ⟨b3, rfl, hk3, hn3, hb3⟩
  have HK3 := kept hk3
  have HB3 := kept hb3
  clear hk3 hn3 hb3
  have HW := kept (write_ok d (fresh 16) (r : Int) (some ⟨b3, 0, none⟩) 256 (fill x) w3 ((HD1.out.below HB2.out).below HB3.out) (by simp [fresh]) (by omega) (by rw [fresh_len]; omega) (HK3.out.rd (fill_length x)) (by simp [fresh]))
  go_wp2_with (first | (go_at_call 15; (with_reducible refine (HW.out).mono ?_); rintro e w4 ⟨rfl, h4⟩))
  have HB12 : Hid (Below w.heap.size w w3) := kept ((HB1.out.trans (HB2.out.mono HB1.out.size)).trans (HB3.out.mono (Nat.le_trans HB1.out.size HB2.out.size)))
  have HB4 : Hid (Below w.heap.size w w4) := kept (Turned.only_new HB12.out h4.out.2 HB12.out.size HN1.out)
  have HSY := kept (sync_ok d _ w4 h4.out.1 (by rw [write_fuse _ _ _ rfl]; omega) (by rw [write_done]; simp [fresh]))
  clear h4
  go_wp2_with (first | (go_at_call 17; (with_reducible refine (HSY.out).mono ?_); rintro e w5 ⟨rfl, h5⟩))
  have HD5 := kept h5.out.1
  have HB5 : Hid (Below w.heap.size w w5) := kept (Turned.only_new HB4.out h5.out.2 HB4.out.size HN1.out)
  clear h5
  go_wp2_with (first | (go_at_call 16; (with_reducible refine (filled_any y _ y0 y1).mono ?_); rintro e w6 ⟨b6, rfl, hk6, hn6, hb6⟩; have HK6 := kept hk6; have HB6 := kept hb6; clear hk6 hn6 hb6))
  have HW2 := kept (write_ok d _ (r : Int) (some ⟨b6, 0, none⟩) 256 (fill y) w6 (HD5.out.below HB6.out) (by rw [sync_fuse _ (write_fuse _ _ _ rfl)]; omega) (by omega) (by rw [sync_len, write_pages, fresh_len]; omega) (HK6.out.rd (fill_length y)) (by show 0 + 1 + 1 ≤ _; omega))
  go_wp2_with (first | (go_at_call 15; (with_reducible refine (HW2.out).mono ?_); rintro e w7 ⟨rfl, h7⟩))
  have HD7 : Hid (Dsk w7 d (before r x y)) := kept h7.out.1
  have HB7 : Hid (Below w.heap.size w w7) := kept (Turned.only_new (HB5.out.trans (HB6.out.mono HB5.out.size)) h7.out.2 (Nat.le_trans HB5.out.size HB6.out.size) HN1.out)
  clear h7
  have HK8 : Hid (Kp (w7.alloc (.cells #[.int .i64 (r : Int), .int .i64 n] 46)) (some ⟨w7.heap.size, 0, none⟩) 1 [((r : Int), n)]) := kept (kp_one (Blk.new w7 46 #[.int .i64 (r : Int), .int .i64 n]) (by unfold Wf; omega) HWN.out)
  have HCR := kept (crash_any d (before r x y) (some ⟨w7.heap.size, 0, none⟩) 1 1 [((r : Int), n)] _ (HD7.out.below ((Below.refl _ w7).alloc (Nat.le_refl _) _)) HK8.out (by omega))
  go_wp2_with (first | (go_at_call 14; (with_reducible refine (HCR.out).mono ?_); rintro e w8 ⟨rfl, h8⟩))
  have HD8 : Hid (Dsk w8 d (after r x y n)) := kept h8.out.1
  have B7 : Below w.heap.size w (w7.alloc (.cells #[.int .i64 (r : Int), .int .i64 n] 46)) := HB7.out.alloc HB7.out.size _
  have HB8 : Hid (Below w.heap.size w w8) := kept (Turned.only_new B7 h8.out.2 B7.size HN1.out)
  clear h8 B7
  have HRD := kept (read_ok d (after r x y n) (r : Int) w8 HD8.out (by show (-1 : Int) ≠ 0; omega) (by omega) (by unfold after; rw [crash_len, before_len]; omega))
  go_wp2_with (first | (go_at_call 12; (with_reducible refine (HRD.out).mono ?_); rintro e w9 ⟨b9, rfl, hk9, hn9, hb9⟩; have HK9 := kept hk9; have HB9 := kept hb9; clear hk9 hn9 hb9))
  have HCA := kept (((cached_any d (after r x y n) w9 (HD8.out.below HB9.out) (by show 0 + 1 + 1 + 1 ≤ _; omega)).mono fun e w' h => CachedV.none_ (fun _ => rfl) h))
  go_wp2_with (first | (go_at_call 20; (with_reducible refine (HCA.out).mono ?_); rintro e w10 ⟨A10, c10, rfl, hb10⟩; have HB10 := kept hb10; clear hb10))
  have HKB : Hid (Blk w10 b9 75 (cellsOf ((fill y).take 256 ++ (fill x).drop 256))) := kept (by
    have h1 := HK9.out
    rw [after_page hr16, show (clampK n).toNat = 256 from (by simp [clampK, hn, show ¬ n < 0 by omega])] at h1
    exact h1.below HB10.out h1.lt)
  go_loopw [67] (fun i wr => ∃ k : Nat, k ≤ 256 ∧ i = .int .i64 (k : Int) ∧ wr = w10) (fun i _ => 256 - (intOf i).toNat)
  case atStart => exact ⟨0, by omega, rfl, rfl⟩
  case round =>
    obtain ⟨k, hk, rfl, rfl⟩ := hrel
    by_cases hlt : k < 256
    · have hc := torn_cell (q := 256) x0 x1 y0 y1 (by omega) HKB.out hlt
      rw [if_pos hlt] at hc
      have h1 : (k : Int) < 256 := by omega
      go_wp2
      go_roundw
      case rel => exact ⟨k + 1, by omega, by go_num, trivial⟩
      case measure => simp [intOf]; omega
    · obtain rfl : k = 256 := by omega
      go_wp2
      go_ret
      exact ⟨rfl, (HB8.out.trans (HB9.out.mono HB8.out.size)).trans (HB10.out.mono (Nat.le_trans HB8.out.size HB9.out.size))⟩
set_option maxRecDepth 100000 in
set_option maxHeartbeats 1000000 in
theorem walk_mid (w : World) (a : Int) (n : Int) (wn : Wf n) (x y : Int) (x0 : 0 ≤ x) (x1 : x ≤ 255) (y0 : 0 ≤ y) (y1 : y ≤ 255) (q : Nat) (hq : q ≤ 256) (hnq : n = (q : Int)) :
    Calls Try.prog 5 #[.int .i64 a, .int .i64 n, .int .u8 x, .int .u8 y] w fun e w' => e = .returned (.bool true) ∧ Below w.heap.size w w' := by
  subst hnq
  obtain ⟨r, hr16, hat0⟩ := placed a 16 (by omega) (by omega)
  have hat : wrap64 ((IntKind.u64.wrap a).tmod 16) = (r : Int) := hat0
  clear hat0
  have HWN := kept wn
  clear wn
  go_enter Try.func5, Try.ntmps5
  go_wp2_with (first | (go_at_call 10; (with_reducible refine (new16 _).mono ?_); rintro e w1 ⟨d, rfl, hd1, hn1, hb1⟩; have HD1 := kept hd1; have HN1 := kept hn1; have HB1 := kept hb1; clear hd1 hn1 hb1))
  go_wp2_with (first | (go_at_call 11; (with_reducible refine (lives_any _).mono ?_); rintro e w2 ⟨rfl, hb2⟩; have HB2 := kept hb2; clear hb2))
  simp only [hat]
  clear hat
  generalize (IntKind.u64.wrap a).tmod 16 = r26
  generalize IntKind.u64.wrap a = r25
  have HFL := kept (filled_any x w2 x0 x1)
  with_reducible refine HFL.out.mono ?_
  rintro e w3 ⟨b3, rfl, hk3, hn3, hb3⟩
  have HK3 := kept hk3
  have HB3 := kept hb3
  clear hk3 hn3 hb3
  have HW := kept (write_ok d (fresh 16) (r : Int) (some ⟨b3, 0, none⟩) 256 (fill x) w3 ((HD1.out.below HB2.out).below HB3.out) (by simp [fresh]) (by omega) (by rw [fresh_len]; omega) (HK3.out.rd (fill_length x)) (by simp [fresh]))
  go_wp2_with (first | (go_at_call 15; (with_reducible refine (HW.out).mono ?_); rintro e w4 ⟨rfl, h4⟩))
  have HB12 : Hid (Below w.heap.size w w3) := kept ((HB1.out.trans (HB2.out.mono HB1.out.size)).trans (HB3.out.mono (Nat.le_trans HB1.out.size HB2.out.size)))
  have HB4 : Hid (Below w.heap.size w w4) := kept (Turned.only_new HB12.out h4.out.2 HB12.out.size HN1.out)
  have HSY := kept (sync_ok d _ w4 h4.out.1 (by rw [write_fuse _ _ _ rfl]; omega) (by rw [write_done]; simp [fresh]))
  clear h4
  go_wp2_with (first | (go_at_call 17; (with_reducible refine (HSY.out).mono ?_); rintro e w5 ⟨rfl, h5⟩))
  have HD5 := kept h5.out.1
  have HB5 : Hid (Below w.heap.size w w5) := kept (Turned.only_new HB4.out h5.out.2 HB4.out.size HN1.out)
  clear h5
  go_wp2_with (first | (go_at_call 16; (with_reducible refine (filled_any y _ y0 y1).mono ?_); rintro e w6 ⟨b6, rfl, hk6, hn6, hb6⟩; have HK6 := kept hk6; have HB6 := kept hb6; clear hk6 hn6 hb6))
  have HW2 := kept (write_ok d _ (r : Int) (some ⟨b6, 0, none⟩) 256 (fill y) w6 (HD5.out.below HB6.out) (by rw [sync_fuse _ (write_fuse _ _ _ rfl)]; omega) (by omega) (by rw [sync_len, write_pages, fresh_len]; omega) (HK6.out.rd (fill_length y)) (by show 0 + 1 + 1 ≤ _; omega))
  go_wp2_with (first | (go_at_call 15; (with_reducible refine (HW2.out).mono ?_); rintro e w7 ⟨rfl, h7⟩))
  have HD7 : Hid (Dsk w7 d (before r x y)) := kept h7.out.1
  have HB7 : Hid (Below w.heap.size w w7) := kept (Turned.only_new (HB5.out.trans (HB6.out.mono HB5.out.size)) h7.out.2 (Nat.le_trans HB5.out.size HB6.out.size) HN1.out)
  clear h7
  have HK8 : Hid (Kp (w7.alloc (.cells #[.int .i64 (r : Int), .int .i64 (q : Int)] 46)) (some ⟨w7.heap.size, 0, none⟩) 1 [((r : Int), (q : Int))]) := kept (kp_one (Blk.new w7 46 #[.int .i64 (r : Int), .int .i64 (q : Int)]) (by unfold Wf; omega) HWN.out)
  have HCR := kept (crash_any d (before r x y) (some ⟨w7.heap.size, 0, none⟩) 1 1 [((r : Int), (q : Int))] _ (HD7.out.below ((Below.refl _ w7).alloc (Nat.le_refl _) _)) HK8.out (by omega))
  go_wp2_with (first | (go_at_call 14; (with_reducible refine (HCR.out).mono ?_); rintro e w8 ⟨rfl, h8⟩))
  have HD8 : Hid (Dsk w8 d (after r x y (q : Int))) := kept h8.out.1
  have B7 : Below w.heap.size w (w7.alloc (.cells #[.int .i64 (r : Int), .int .i64 (q : Int)] 46)) := HB7.out.alloc HB7.out.size _
  have HB8 : Hid (Below w.heap.size w w8) := kept (Turned.only_new B7 h8.out.2 B7.size HN1.out)
  clear h8 B7
  have HRD := kept (read_ok d (after r x y (q : Int)) (r : Int) w8 HD8.out (by show (-1 : Int) ≠ 0; omega) (by omega) (by unfold after; rw [crash_len, before_len]; omega))
  go_wp2_with (first | (go_at_call 12; (with_reducible refine (HRD.out).mono ?_); rintro e w9 ⟨b9, rfl, hk9, hn9, hb9⟩; have HK9 := kept hk9; have HB9 := kept hb9; clear hk9 hn9 hb9))
  have HCA := kept (((cached_any d (after r x y (q : Int)) w9 (HD8.out.below HB9.out) (by show 0 + 1 + 1 + 1 ≤ _; omega)).mono fun e w' h => CachedV.none_ (fun _ => rfl) h))
  go_wp2_with (first | (go_at_call 20; (with_reducible refine (HCA.out).mono ?_); rintro e w10 ⟨A10, c10, rfl, hb10⟩; have HB10 := kept hb10; clear hb10))
  have HKB : Hid (Blk w10 b9 75 (cellsOf ((fill y).take q ++ (fill x).drop q))) := kept (by
    have h1 := HK9.out
    rw [after_page hr16, show (clampK (q : Int)).toNat = q from (by unfold clampK; rw [if_neg (by omega), if_neg (by omega)]; omega)] at h1
    exact h1.below HB10.out h1.lt)
  go_loopw [67] (fun i wr => ∃ k : Nat, k ≤ 256 ∧ i = .int .i64 (k : Int) ∧ wr = w10) (fun i _ => 256 - (intOf i).toNat)
  case atStart => exact ⟨0, by omega, rfl, rfl⟩
  case round =>
    obtain ⟨k, hk, rfl, rfl⟩ := hrel
    by_cases hlt : k < 256
    · have hc := torn_cell (q := q) x0 x1 y0 y1 (by omega) HKB.out hlt
      by_cases hkq : k < q
      · rw [if_pos hkq] at hc
        have h1 : (k : Int) < (q : Int) := by omega
        go_wp2
        go_roundw
        case rel => exact ⟨k + 1, by omega, by go_num, trivial⟩
        case measure => simp [intOf]; omega
      · rw [if_neg hkq] at hc
        have h1 : ¬ (k : Int) < (q : Int) := by omega
        go_wp2
        go_roundw
        case rel => exact ⟨k + 1, by omega, by go_num, trivial⟩
        case measure => simp [intOf]; omega
    · obtain rfl : k = 256 := by omega
      go_wp2
      go_ret
      exact ⟨rfl, (HB8.out.trans (HB9.out.mono HB8.out.size)).trans (HB10.out.mono (Nat.le_trans HB8.out.size HB9.out.size))⟩
theorem walk (w : World) (a : Int) (wa : (Lit.int .i64 a).wf = true) (n : Int) (wn : (Lit.int .i64 n).wf = true) (x : Int) (wx : (Lit.int .u8 x).wf = true) (y : Int) (wy : (Lit.int .u8 y).wf = true) :
    Calls Try.prog 5 #[.int .i64 a, .int .i64 n, .int .u8 x, .int .u8 y] w fun e w' => e = .returned (.bool true) ∧ Below w.heap.size w w' := by
  have hx : 0 ≤ x ∧ x ≤ 255 := by simpa [Lit.wf, IntKind.min, IntKind.max, IntKind.signed, IntKind.bits] using wx
  have hy : 0 ≤ y ∧ y ≤ 255 := by simpa [Lit.wf, IntKind.min, IntKind.max, IntKind.signed, IntKind.bits] using wy
  by_cases h0 : n < 0
  · exact walk_lo w a n (Wf.of_wf wn) x y hx.1 hx.2 hy.1 hy.2 h0
  by_cases h1 : 256 < n
  · exact walk_hi w a n (Wf.of_wf wn) x y hx.1 hx.2 hy.1 hy.2 h1
  · exact walk_mid w a n (Wf.of_wf wn) x y hx.1 hx.2 hy.1 hy.2 n.toNat (by omega) (by omega)
end diskTorn
end Go.Proofs.Ytfmljiidgaoihaa
