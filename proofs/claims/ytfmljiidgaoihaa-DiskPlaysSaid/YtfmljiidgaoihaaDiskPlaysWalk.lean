/-
  The walk of the law DiskPlays.
-/
import Derived.Test.YtfmljiidgaoihaaPla
import Derived.Deep.RegionHeld3
namespace Go.Proofs.Ytfmljiidgaoihaa.diskPlays
open Go.ChangeShapes Go.WideShapes Go.ChangeAt Go.RowKit
set_option linter.unusedVariables false
set_option linter.unusedSimpArgs false
theorem fill_first (c : Int) (h0 : 0 ≤ c) (h1 : c ≤ 255) : (cellsOf (fill c))[0]? = some (.int .u8 c) := by
  rw [fill_cells c h0 h1, List.getElem?_replicate, if_pos (by omega)]
theorem kp_two {w : World} {b : Nat} {t : TypeId} {p n q : Int} (h : Blk w b t [.int .i64 p, .int .i64 n, .int .i64 q, .int .i64 n]) (hp : Wf p) (hn : Wf n) (hq : Wf q) : Kp w (some ⟨b, 0, none⟩) 2 [(p, n), (q, n)] := by
  refine ⟨rfl, (fun x hx => by simp at hx; rcases hx with rfl | rfl <;> (constructor <;> assumption)), .inr ⟨b, 0, rfl, fun i hi => ?_⟩⟩
  have h2 : i < 2 := hi
  rcases (show i = 0 ∨ i = 1 by omega) with rfl | rfl
  · exact ⟨h.cell 0, h.cell 1⟩
  · exact ⟨h.cell 2, h.cell 3⟩
theorem rcrash_two (base r : Nat) (S : St) (R : RSt) (p q n : Int) (w : World) (h : RefD w base r R) (hs : Sim S R) (ho : S.ok) (hd : S.done ≤ 10000) :
    Calls Try.prog 28 #[.pointer (some ⟨r, 0, none⟩), .slice (some ⟨w.heap.size, 0, none⟩) 2 2, .slice (some ⟨w.heap.size + 1, 0, none⟩) 2 2] ((w.alloc (.cells #[.int .i64 p, .int .i64 q] 3)).alloc (.cells #[.int .i64 n, .int .i64 n] 3)) fun e w' => e = .returned (.tuple #[]) ∧ Hid (RLeft ((w.alloc (.cells #[.int .i64 p, .int .i64 q] 3)).alloc (.cells #[.int .i64 n, .int .i64 n] 3)) base r (S.crash [(p, n), (q, n)]) w') := by
  have hB : Below w.heap.size w ((w.alloc (.cells #[.int .i64 p, .int .i64 q] 3)).alloc (.cells #[.int .i64 n, .int .i64 n] 3)) := ((Below.refl _ w).alloc (Nat.le_refl _) _).alloc (alloc_le _ _) _
  have b1 : Blk ((w.alloc (.cells #[.int .i64 p, .int .i64 q] 3)).alloc (.cells #[.int .i64 n, .int .i64 n] 3)) w.heap.size 3 [.int .i64 p, .int .i64 q] := (Blk.new w 3 #[.int .i64 p, .int .i64 q]).alloc _
  have b2 : Blk ((w.alloc (.cells #[.int .i64 p, .int .i64 q] 3)).alloc (.cells #[.int .i64 n, .int .i64 n] 3)) (w.heap.size + 1) 3 [.int .i64 n, .int .i64 n] := by
    have := Blk.new (w.alloc (.cells #[.int .i64 p, .int .i64 q] 3)) 3 #[.int .i64 n, .int .i64 n]
    rw [World.size_alloc] at this
    exact this
  refine rcrash_any base r S R [(p, n), (q, n)] 2 w.heap.size 2 (w.heap.size + 1) 2 (fun j => if j = 0 then p else q) (fun _ => n) _ (h.below hB) hs ho hd rfl (by omega) (fun j hj => ?_) b1 (by decide) b2 (by decide) (fun i hi => ?_) (fun i hi => ?_)
  · have hj2 : j < 2 := hj
    rcases (show j = 0 ∨ j = 1 by omega) with rfl | rfl <;> rfl
  · rcases (show i = 0 ∨ i = 1 by omega) with rfl | rfl
    · exact b1.cell 0
    · exact b1.cell 1
  · rcases (show i = 0 ∨ i = 1 by omega) with rfl | rfl
    · exact b2.cell 0
    · exact b2.cell 1
/-- Behind both calls of one kind. -/
theorem play_on {W w : World} {d : Dk} {base r m k : Nat} {S : St} {R : RSt} (h : Trio W d base r S R w) (hs : Sim S R) (hl : S.pages.length = m) (hd : S.done ≤ k) {w' : World} (hb : Below w.heap.size w w') : Play W d base r m k w' := ⟨S, R, h.below hb, hs, hl, hd⟩
set_option maxRecDepth 100000 in
set_option maxHeartbeats 16000000 in
theorem walk_good (w : World) (m : Nat) (h8 : 8 ≤ m) (h1024 : m ≤ 1024) (A : Option Addr) (n c : Nat) (hnc : n ≤ c) (hcm : c ≤ maxLen) (K P N X : Nat → Int) (hr : RdActs w A n K P N X) :
    Calls Try.prog 3 #[.int .i64 (m : Int), .slice A n c] w fun e w' => e = .returned (.bool true) ∧ Below w.heap.size w w' := by
  have hm : n ≤ 9223372036854775807 := by unfold maxLen at hcm; omega
  have HR := kept hr
  have HNEW := kept (new_any m w h8 h1024)
  clear hr hcm
  go_enter Try.func3, Try.ntmps3
  go_wp2_with (first | (go_at_call 10; (with_reducible refine (HNEW.out).mono ?_); rintro e w1 ⟨d, rfl, hd1, hn1, hb1⟩; have HD1 := kept hd1; have HN1 := kept hn1; have HB1 := kept hb1; clear hd1 hn1 hb1) | (go_at_call 11; (with_reducible refine (lives_any _).mono ?_); rintro e w2 ⟨rfl, hb2⟩; have HB2 := kept hb2; clear hb2) | (go_at_call 22; (with_reducible refine (rnew_any m w2 h8 h1024).mono ?_); rintro e w3 ⟨rfl, h3⟩; have H3 := kept h3.out; clear h3))
  have HBS : Hid (w.heap.size ≤ w2.heap.size) := kept (Nat.le_trans HB1.out.size HB2.out.size)
  have HP0 : Hid (Play w d w2.heap.size w2.heap.size m 0 w3) := kept ⟨fresh m, _, ⟨(HD1.out.below HB2.out).below H3.out.2.2, H3.out.1, below_on H3.out.2.2 (below_on HB2.out HB1.out)⟩, H3.out.2.1, fresh_len m, Nat.le_refl _⟩
  clear HD1 H3
  obtain ⟨base, hbase⟩ : ∃ base, w2.heap.size = base := ⟨_, rfl⟩
  rw [hbase] at HP0 HBS
  simp only [hbase]
  clear hbase HB2 HNEW
  go_loopw [85] (fun i wr => ∃ k : Nat, k ≤ n ∧ k ≤ 60 ∧ i = .int .i64 (k : Int) ∧ Hid (Play w d base base m k wr)) (fun i _ => n - (intOf i).toNat)
  case atStart => exact ⟨0, Nat.zero_le _, by omega, rfl, HP0⟩
  case round =>
    obtain ⟨k, hkn, hk60, rfl, HP⟩ := hrel
    obtain ⟨S, R, ht, hs, hl, hdn⟩ := HP.out
    have HT := kept ht
    have HS := kept hs
    have HL := kept hl
    have HDN : Hid (S.done ≤ 10000) := kept (by omega)
    have HDK := kept hdn
    have HOK : Hid S.ok := kept ht.1.1
    clear ht hs hl hdn HP HP0
    by_cases hlt : k < n
    · obtain ⟨b, o, rfl, c0, c1, c2, c3⟩ := (HR.out.below HT.out.2.2).there hlt
      by_cases h60 : 60 ≤ k
      · have hkb : (60 : Int) ≤ (k : Int) := by omega
        have HTE : Hid (Trio w d base base S R (wr.alloc (.cells #[.int .i64 (K k), .int .i64 (P k), .int .i64 (N k), .int .u8 (X k)] 42))) := kept (HT.out.below ((Below.refl _ wr).alloc (Nat.le_refl _) _))
        obtain ⟨q, hq, hqm, hq40⟩ : ∃ q : Nat, (if (m : Int) ≤ 40 then (m : Int) else 40) = (q : Int) ∧ q ≤ m ∧ q ≤ 40 := by
          by_cases h : m ≤ 40
          · exact ⟨m, if_pos (by omega), Nat.le_refl _, h⟩
          · exact ⟨40, if_neg (by omega), by omega, Nat.le_refl _⟩
        by_cases hf : S.fuse = 0
        · have HDE : Hid (R.dead = true) := kept (by rw [HS.out.dead, hf]; rfl)
          have HSY : Hid (∀ X', Trio w d base base S R X' → Calls Try.prog 17 #[.pointer (some ⟨d.r, 0, none⟩)] X' fun e w' => e = .returned (.int .i64 10) ∧ X' = w') := kept (fun X' hT => sync_no d S X' hT.1 hf)
          have e3 : (wr.alloc (.cells #[.int .i64 (K k), .int .i64 (P k), .int .i64 (N k), .int .u8 (X k)] 42)).cell? ⟨base, 3, none⟩ = some (.bool true) := by
            obtain ⟨_, _, _, _, _, _, _, h3, _⟩ := HTE.out.2.1.cells
            rw [HDE.out] at h3
            exact h3
          clear hf
          go_wp2_with fail
          with_reducible refine (HSY.out _ HTE.out).mono ?_
          rintro e w' ⟨rfl, rfl⟩
          go_wp2
          go_ret
          exact ⟨rfl, HTE.out.2.2⟩
        · have HDE : Hid (R.dead = false) := kept (by rw [HS.out.dead]; simp [hf])
          have HF := kept hf
          have e3 : (wr.alloc (.cells #[.int .i64 (K k), .int .i64 (P k), .int .i64 (N k), .int .u8 (X k)] 42)).cell? ⟨base, 3, none⟩ = some (.bool false) := by
            obtain ⟨_, _, _, _, _, _, _, h3, _⟩ := HTE.out.2.1.cells
            rw [HDE.out] at h3
            exact h3
          clear hf
          go_wp2
          go_loopw [230] (fun i wx => ∃ j : Nat, j ≤ q ∧ i = .int .i64 (j : Int) ∧ Hid (Below (wr.alloc (.cells #[.int .i64 (K k), .int .i64 (P k), .int .i64 (N k), .int .u8 (X k)] 42)).heap.size (wr.alloc (.cells #[.int .i64 (K k), .int .i64 (P k), .int .i64 (N k), .int .u8 (X k)] 42)) wx)) (fun i _ => q - (intOf i).toNat)
          case atStart => exact ⟨0, Nat.zero_le _, rfl, kept (Below.refl _ _)⟩
          case round =>
            obtain ⟨j, hjq, rfl, HBX⟩ := hrel
            rename World => wx
            by_cases hlq : j < q
            · have HTX : Hid (Trio w d base base S R wx) := kept (HTE.out.below HBX.out)
              have HLT : Hid ((j : Int) < (S.pages.length : Int)) := kept (by rw [HL.out]; omega)
              have HLN : Hid ((S.page (j : Int)).length = 256) := kept (HTX.out.1.page_len (by have := HLT.out; omega))
              have HRO := kept (read_ok d S (j : Int) wx HTX.out.1 HF.out (by omega) HLT.out)
              go_wp2_with fail
              with_reducible refine HRO.out.mono ?_
              rintro e w6 ⟨b6, rfl, hk6, hn6, hb6⟩
              have HK6 : Hid (Blk w6 b6 75 (cellsOf (S.page (j : Int)))) := kept hk6
              have HB6 := kept hb6
              clear hk6 hn6 hb6
              have HRR := kept (rread_ok base base S R (j : Int) w6 (HTX.out.below HB6.out).2.1 HS.out HF.out (by omega) HLT.out HDN.out)
              go_wp2_with fail
              with_reducible refine HRR.out.mono ?_
              rintro e w7 ⟨A7, c7, rfl, h7⟩
              have HSM := kept (same_any (some ⟨b6, 0, none⟩) A7 256 256 256 c7 (S.page (j : Int)) (S.page (j : Int)) w7 ((HK6.out.below h7.out.2 HK6.out.lt).rd HLN.out) h7.out.1 true (by simp))
              have HB7 : Hid (Below (wr.alloc (.cells #[.int .i64 (K k), .int .i64 (P k), .int .i64 (N k), .int .u8 (X k)] 42)).heap.size (wr.alloc (.cells #[.int .i64 (K k), .int .i64 (P k), .int .i64 (N k), .int .u8 (X k)] 42)) w7) := kept (below_on h7.out.2 (below_on HB6.out HBX.out))
              clear h7
              go_wp2_with (first | (go_at_call 25; (with_reducible refine (HSM.out).mono ?_); rintro e w' ⟨rfl, rfl⟩))
              go_roundw
              case rel => exact ⟨j + 1, by omega, by go_num, HB7⟩
              case measure => simp [intOf]; omega
            · obtain rfl : j = q := by omega
              go_wp2
              go_ret
              exact ⟨rfl, below_on HBX.out HTE.out.2.2⟩
      · have hkb : ¬ (60 : Int) ≤ (k : Int) := by omega
        have hwf := acOf_ok HR.out hlt
        have hx0 : 0 ≤ X k := hwf.2.2.2.1
        have hx1 : X k ≤ 255 := hwf.2.2.2.2
        have HWP : Hid (Wf (P k)) := kept hwf.2.1
        have HWN : Hid (Wf (N k)) := kept hwf.2.2.1
        clear hwf h60
        by_cases hk0 : K k = 0
        · skip
          rw [hk0] at c0
          clear hk0
          go_wp2_with fail
          generalize hwa : (wr.alloc (.cells #[.int .i64 0, .int .i64 (P k), .int .i64 (N k), .int .u8 (X k)] 42)) = wa
          have HBA : Hid (Below wr.heap.size wr wa) := kept (by rw [← hwa]; exact (Below.refl _ wr).alloc (Nat.le_refl _) _)
          have HBK : Hid (Blk wa wr.heap.size 42 [.int .i64 0, .int .i64 (P k), .int .i64 (N k), .int .u8 (X k)]) := kept (by rw [← hwa]; exact Blk.new wr 42 #[.int .i64 0, .int .i64 (P k), .int .i64 (N k), .int .u8 (X k)])
          clear hwa
          have HTA : Hid (Trio w d base base S R wa) := kept (HT.out.below HBA.out)
          have a0 : wa.cell? ⟨wr.heap.size, 0, none⟩ = some (.int .i64 0) := HBK.out.cell 0
          have a1 : wa.cell? ⟨wr.heap.size, 1, none⟩ = some (.int .i64 (P k)) := HBK.out.cell 1
          have a2 : wa.cell? ⟨wr.heap.size, 2, none⟩ = some (.int .i64 (N k)) := HBK.out.cell 2
          have a3 : wa.cell? ⟨wr.heap.size, 3, none⟩ = some (.int .u8 (X k)) := HBK.out.cell 3
          have HTA' := HTA
          with_reducible refine (filled_any (X k) _ hx0 hx1).mono ?_
          rintro e w4 ⟨b4, rfl, hk4, hn4, hb4⟩
          have HK4 : Hid (Blk w4 b4 5 (cellsOf (fill (X k)))) := kept hk4
          have HT4 : Hid (Trio w d base base S R w4) := kept (HTA.out.below hb4)
          have HB4 : Hid (Below wr.heap.size wr w4) := kept (below_on hb4 HBA.out)
          have HA4 : Hid (Blk w4 wr.heap.size 42 [.int .i64 0, .int .i64 (P k), .int .i64 (N k), .int .u8 (X k)]) := kept (HBK.out.below hb4 HBK.out.lt)
          have HN4 : Hid (wr.heap.size < b4) := kept (Nat.lt_of_lt_of_le HBK.out.lt hn4)
          clear hk4 hn4 hb4 a0 a1 a2 a3 c0 c1 c2 c3
          have d1 : w4.cell? ⟨wr.heap.size, 1, none⟩ = some (.int .i64 (P k)) := HA4.out.cell 1
          obtain ⟨ev, hev⟩ : ∃ ev, writeE S (P k) 256 = ev := ⟨_, rfl⟩
          have HW5 := kept (write_any d S (P k) (some ⟨b4, 0, none⟩) 256 (fill (X k)) w4 HT4.out.1 (HK4.out.rd (fill_length _)) (by have := HDN.out; omega))
          have HWR : Hid (∀ X' A' c', Trio w d base base (S.tryWrite (P k) (fill (X k))) R X' → Rd X' A' 256 (fill (X k)) → Calls Try.prog 23 #[.pointer (some ⟨base, 0, none⟩), .int .i64 (P k), .slice A' 256 c'] X' fun e w' => e = .returned (.int .i64 ev) ∧ Hid (RLeft X' base base (S.tryWrite (P k) (fill (X k))) w')) := kept (fun X' A' c' hT hR => by rw [← hev]; exact rwrite_any base base S R (P k) A' c' (fill (X k)) X' hT.2.1 HS.out hR HDN.out)
          rw [hev] at HW5
          clear hev
          go_wp2_with fail
          with_reducible refine HW5.out.mono ?_
          rintro e w5 ⟨rfl, h5⟩
          have H5 : Hid (Left w4 d (S.tryWrite (P k) (fill (X k))) w5) := kept h5.out
          have HK5 : Hid (Blk w5 b4 5 (cellsOf (fill (X k)))) := kept (h5.out.2.blk HK4.out (HT4.out.1.not_own HK4.out (by decide) (by decide)))
          have HA5 : Hid (Blk w5 wr.heap.size 42 [.int .i64 0, .int .i64 (P k), .int .i64 (N k), .int .u8 (X k)]) := kept (h5.out.2.blk HA4.out (HT4.out.1.not_own HA4.out (by decide) (by decide)))
          have z0 : w5.cell? ⟨b4, 0, none⟩ = some (.int .u8 (X k)) := (HK5.out.cell 0).trans (fill_first _ hx0 hx1)
          have z1 : w5.frozen? ⟨b4, 0, none⟩ = false := HK5.out.frozen 0
          clear h5 d1
          go_wp2
          have HT6 : Hid (∀ u, Trio w d base base (S.tryWrite (P k) (fill (X k))) R (w5.setCell ⟨b4, 0, none⟩ u)) := kept (fun u => HT.out.spoil HN1.out HB4.out H5.out HK4.out (by decide) (by decide) (Nat.le_of_lt HN4.out) 0 u)
          have y1 : ∀ u, (w5.setCell ⟨b4, 0, none⟩ u).cell? ⟨wr.heap.size, 1, none⟩ = some (.int .i64 (P k)) := fun u => (HA5.out.far (p := ⟨b4, 0, none⟩) (Nat.ne_of_lt HN4.out) u).cell 1
          have y3 : ∀ u, (w5.setCell ⟨b4, 0, none⟩ u).cell? ⟨wr.heap.size, 3, none⟩ = some (.int .u8 (X k)) := fun u => (HA5.out.far (p := ⟨b4, 0, none⟩) (Nat.ne_of_lt HN4.out) u).cell 3
          have HA6 : Hid (∀ u, Blk (w5.setCell ⟨b4, 0, none⟩ u) wr.heap.size 42 [.int .i64 0, .int .i64 (P k), .int .i64 (N k), .int .u8 (X k)]) := kept (fun u => HA5.out.far (p := ⟨b4, 0, none⟩) (Nat.ne_of_lt HN4.out) u)
          clear z0 z1
          go_region_held3 (fun W' => W'.cell? ⟨wr.heap.size, 1, none⟩ = some (.int .i64 (P k)) ∧ W'.cell? ⟨wr.heap.size, 3, none⟩ = some (.int .u8 (X k))) ((first | exact ⟨y1 _, y3 _⟩ | exact ⟨v1, v3⟩ | exact ⟨x1', x3'⟩))
            (first
              | (go_at_call 16; (with_reducible refine (filled_any (X k) _ hx0 hx1).mono ?_); rintro e w7 ⟨b7, rfl, hk7, hn7, hb7⟩; have HK7 := kept hk7; have HT7 : Hid (Trio w d base base (S.tryWrite (P k) (fill (X k))) R w7) := kept ((HT6.out _).below (below_of_drew hb7)); have HA7 : Hid (Blk w7 wr.heap.size 42 [.int .i64 0, .int .i64 (P k), .int .i64 (N k), .int .u8 (X k)]) := kept ((HA6.out _).below (below_of_drew hb7) (HA6.out _).lt); have v1 := HA7.out.cell 1; have v3 := HA7.out.cell 3; clear hk7 hn7 hb7)
              | (go_at_call 23; (with_reducible refine (HWR.out _ _ _ HT7.out (HK7.out.rd (fill_length _))).mono ?_); rintro e w8 ⟨rfl, h8⟩; have H8 := h8; have HA8 : Hid (Blk w8 wr.heap.size 42 [.int .i64 0, .int .i64 (P k), .int .i64 (N k), .int .u8 (X k)]) := kept (HA7.out.ref (by decide) h8.out.choose_spec.2.2); have x1' := HA8.out.cell 1; have x3' := HA8.out.cell 3; clear h8))
          obtain ⟨R8, hT8, hS8⟩ := HT7.out.right HBS.out H8.out
          have HTX := kept hT8
          have HSX := kept hS8
          clear hT8 hS8 y1 y3
          have HAL := kept (alike_any d base base (S.tryWrite (P k) (fill (X k))) R8 _ HTX.out.1 HTX.out.2.1 HSX.out HTX.out.1.1 (Nat.le_trans (tryWrite_done S (P k) (fill (X k))) (by have := HDK.out; omega)))
          go_wp2_with (first | (go_at_call 29; (with_reducible refine (HAL.out).mono ?_); rintro e w9 ⟨rfl, hb9⟩; have HB9 := kept hb9; clear hb9))
          have HE : Hid (Play w d base base m (k + 1) w9) := kept ⟨(S.tryWrite (P k) (fill (X k))), R8, HTX.out.below HB9.out, HSX.out, (tryWrite_len _ _ _).trans HL.out, Nat.le_trans (tryWrite_done S (P k) (fill (X k))) (Nat.succ_le_succ HDK.out)⟩
          go_roundw
          case rel => exact ⟨k + 1, by omega, by omega, by go_num, HE⟩
          case measure => simp [intOf]; omega
        by_cases hk1 : K k = 1
        · skip
          have hkb0 : (K k == 0) = false := by simp [hk0]
          rw [hk1] at c0
          clear hk0 hk1
          by_cases hE : readE S (P k) = 0
          · obtain ⟨hf, hp0, hp1⟩ := readE_ok hE
            have HF := kept hf
            have HPP : Hid (0 ≤ P k ∧ P k < (S.pages.length : Int)) := kept ⟨hp0, hp1⟩
            clear hE hf hp0 hp1
            go_wp2_with fail
            generalize hwa : (wr.alloc (.cells #[.int .i64 1, .int .i64 (P k), .int .i64 (N k), .int .u8 (X k)] 42)) = wa
            have HBA : Hid (Below wr.heap.size wr wa) := kept (by rw [← hwa]; exact (Below.refl _ wr).alloc (Nat.le_refl _) _)
            have HBK : Hid (Blk wa wr.heap.size 42 [.int .i64 1, .int .i64 (P k), .int .i64 (N k), .int .u8 (X k)]) := kept (by rw [← hwa]; exact Blk.new wr 42 #[.int .i64 1, .int .i64 (P k), .int .i64 (N k), .int .u8 (X k)])
            clear hwa
            have HTA : Hid (Trio w d base base S R wa) := kept (HT.out.below HBA.out)
            have a0 : wa.cell? ⟨wr.heap.size, 0, none⟩ = some (.int .i64 1) := HBK.out.cell 0
            have a1 : wa.cell? ⟨wr.heap.size, 1, none⟩ = some (.int .i64 (P k)) := HBK.out.cell 1
            have a2 : wa.cell? ⟨wr.heap.size, 2, none⟩ = some (.int .i64 (N k)) := HBK.out.cell 2
            have a3 : wa.cell? ⟨wr.heap.size, 3, none⟩ = some (.int .u8 (X k)) := HBK.out.cell 3
            have HRO := kept (read_ok d S (P k) wa HTA.out.1 HF.out HPP.out.1 HPP.out.2)
            with_reducible refine HRO.out.mono ?_
            rintro e w4 ⟨b4, rfl, hk4, hn4, hb4⟩
            have HK4 : Hid (Blk w4 b4 75 (cellsOf (S.page (P k)))) := kept hk4
            have HLN : Hid ((S.page (P k)).length = 256) := kept (by obtain ⟨q, hq⟩ := Int.eq_ofNat_of_zero_le HPP.out.1; rw [hq]; exact HTA.out.1.page_len (by have := HPP.out.2; omega))
            have HT4 : Hid (Trio w d base base S R w4) := kept (HTA.out.below hb4)
            have HB4 : Hid (Below wr.heap.size wr w4) := kept (below_on hb4 HBA.out)
            have HA4 : Hid (Blk w4 wr.heap.size 42 [.int .i64 1, .int .i64 (P k), .int .i64 (N k), .int .u8 (X k)]) := kept (HBK.out.below hb4 HBK.out.lt)
            have HN4 : Hid (wr.heap.size < b4) := kept (Nat.lt_of_lt_of_le HBK.out.lt hn4)
            clear hk4 hn4 hb4 a0 a1 a2 a3 c0 c1 c2 c3
            have d1 : w4.cell? ⟨wr.heap.size, 1, none⟩ = some (.int .i64 (P k)) := HA4.out.cell 1
            have HRR := kept (rread_ok base base S R (P k) w4 HT4.out.2.1 HS.out HF.out HPP.out.1 HPP.out.2 HDN.out)
            go_wp2_with fail
            with_reducible refine HRR.out.mono ?_
            rintro e w5 ⟨A5, c5, rfl, h5⟩
            have HB5 : Hid (Below wr.heap.size wr w5) := kept (below_on h5.out.2 HB4.out)
            have HK5 : Hid (Blk w5 b4 75 (cellsOf (S.page (P k)))) := kept (HK4.out.below h5.out.2 HK4.out.lt)
            have HSM := kept (same_any (some ⟨b4, 0, none⟩) A5 256 256 256 c5 (S.page (P k)) (S.page (P k)) w5 (HK5.out.rd HLN.out) h5.out.1 true (by simp))
            obtain ⟨v0, hv0⟩ : ∃ v0, (cellsOf (S.page (P k)))[0]? = some (.int .u8 v0) := by
              cases hx : S.page (P k) with
              | nil => have := HLN.out; rw [hx] at this; simp at this
              | cons y ys => exact ⟨_, rfl⟩
            have z0 : w5.cell? ⟨b4, 0, none⟩ = some (.int .u8 v0) := (HK5.out.cell 0).trans hv0
            have z1 : w5.frozen? ⟨b4, 0, none⟩ = false := HK5.out.frozen 0
            clear h5 d1 hv0
            have HTX : Hid (∀ u, Trio w d base base S R (w5.setCell ⟨b4, 0, none⟩ u)) := kept (fun u => HT.out.below (HB5.out.setCell (p := ⟨b4, 0, none⟩) (Nat.le_of_lt HN4.out) u))
            have HAL : Hid (∀ u, Calls Try.prog 29 #[.pointer (some ⟨d.r, 0, none⟩), .pointer (some ⟨base, 0, none⟩)] (w5.setCell ⟨b4, 0, none⟩ u) fun e w' => e = .returned (.bool true) ∧ Hid (Play w d base base m (k + 1) w')) := kept (fun u => (alike_any d base base S R _ (HTX.out u).1 (HTX.out u).2.1 HS.out HOK.out HDN.out).mono fun e w' hh => ⟨hh.1, kept ⟨S, R, (HTX.out u).below hh.2, HS.out, HL.out, Nat.le_succ_of_le HDK.out⟩⟩)
            go_wp2_with (first | (go_at_call 25; (with_reducible refine (HSM.out).mono ?_); rintro e w' ⟨rfl, rfl⟩) | (go_at_call 29; (with_reducible refine (HAL.out _).mono ?_); rintro e w9 ⟨rfl, HE⟩))
            go_roundw
            case rel => exact ⟨k + 1, by omega, by omega, by go_num, HE⟩
            case measure => simp [intOf]; omega
          · have HC1 := hE
            obtain ⟨ev, hev⟩ : ∃ ev, readE S (P k) = ev := ⟨_, rfl⟩
            have HEV := kept hev
            have HNE := kept HC1
            clear hE HC1 hev
            go_wp2_with fail
            generalize hwa : (wr.alloc (.cells #[.int .i64 1, .int .i64 (P k), .int .i64 (N k), .int .u8 (X k)] 42)) = wa
            have HBA : Hid (Below wr.heap.size wr wa) := kept (by rw [← hwa]; exact (Below.refl _ wr).alloc (Nat.le_refl _) _)
            have HBK : Hid (Blk wa wr.heap.size 42 [.int .i64 1, .int .i64 (P k), .int .i64 (N k), .int .u8 (X k)]) := kept (by rw [← hwa]; exact Blk.new wr 42 #[.int .i64 1, .int .i64 (P k), .int .i64 (N k), .int .u8 (X k)])
            clear hwa
            have HTA : Hid (Trio w d base base S R wa) := kept (HT.out.below HBA.out)
            have a0 : wa.cell? ⟨wr.heap.size, 0, none⟩ = some (.int .i64 1) := HBK.out.cell 0
            have a1 : wa.cell? ⟨wr.heap.size, 1, none⟩ = some (.int .i64 (P k)) := HBK.out.cell 1
            have a2 : wa.cell? ⟨wr.heap.size, 2, none⟩ = some (.int .i64 (N k)) := HBK.out.cell 2
            have a3 : wa.cell? ⟨wr.heap.size, 3, none⟩ = some (.int .u8 (X k)) := HBK.out.cell 3
            have HRA := kept (read_bad d S (P k) wa HTA.out.1 HNE.out)
            have HRB := kept (rread_bad base base S R (P k) wa HTA.out.2.1 HS.out HNE.out)
            rw [HEV.out] at HRA HRB
            have HSM := kept (same_any none none 0 0 0 0 [] [] wa ⟨rfl, fun h => absurd h (by simp)⟩ ⟨rfl, fun h => absurd h (by simp)⟩ true (by simp))
            clear c0 c1 c2 c3
            have HTX := HTA
            have HSX := HS
            with_reducible refine HRA.out.mono ?_
            rintro e w' ⟨rfl, rfl⟩
            go_wp2_with fail
            with_reducible refine HRB.out.mono ?_
            rintro e w' ⟨rfl, rfl⟩
            go_wp2_with (first | (go_at_call 25; (with_reducible refine (HSM.out).mono ?_); rintro e w' ⟨rfl, rfl⟩))
            have HAL := kept (alike_any d base base S R _ HTX.out.1 HTX.out.2.1 HSX.out HTX.out.1.1 (Nat.le_trans (Nat.le_succ S.done) (by have := HDK.out; omega)))
            go_wp2_with (first | (go_at_call 29; (with_reducible refine (HAL.out).mono ?_); rintro e w9 ⟨rfl, hb9⟩; have HB9 := kept hb9; clear hb9))
            have HE : Hid (Play w d base base m (k + 1) w9) := kept ⟨S, R, HTX.out.below HB9.out, HSX.out, HL.out, Nat.le_trans (Nat.le_succ S.done) (Nat.succ_le_succ HDK.out)⟩
            go_roundw
            case rel => exact ⟨k + 1, by omega, by omega, by go_num, HE⟩
            case measure => simp [intOf]; omega
        by_cases hk2 : K k = 2
        · skip
          have hkb0 : (K k == 0) = false := by simp [hk0]
          have hkb1 : (K k == 1) = false := by simp [hk1]
          rw [hk2] at c0
          clear hk0 hk1 hk2
          go_wp2_with fail
          generalize hwa : (wr.alloc (.cells #[.int .i64 2, .int .i64 (P k), .int .i64 (N k), .int .u8 (X k)] 42)) = wa
          have HBA : Hid (Below wr.heap.size wr wa) := kept (by rw [← hwa]; exact (Below.refl _ wr).alloc (Nat.le_refl _) _)
          have HBK : Hid (Blk wa wr.heap.size 42 [.int .i64 2, .int .i64 (P k), .int .i64 (N k), .int .u8 (X k)]) := kept (by rw [← hwa]; exact Blk.new wr 42 #[.int .i64 2, .int .i64 (P k), .int .i64 (N k), .int .u8 (X k)])
          clear hwa
          have HTA : Hid (Trio w d base base S R wa) := kept (HT.out.below HBA.out)
          have a0 : wa.cell? ⟨wr.heap.size, 0, none⟩ = some (.int .i64 2) := HBK.out.cell 0
          have a1 : wa.cell? ⟨wr.heap.size, 1, none⟩ = some (.int .i64 (P k)) := HBK.out.cell 1
          have a2 : wa.cell? ⟨wr.heap.size, 2, none⟩ = some (.int .i64 (N k)) := HBK.out.cell 2
          have a3 : wa.cell? ⟨wr.heap.size, 3, none⟩ = some (.int .u8 (X k)) := HBK.out.cell 3
          have HSY := kept (sync_any d S wa HTA.out.1 (by have := HDN.out; omega))
          have HRY : Hid (∀ X', Trio w d base base S.trySync R X' → Calls Try.prog 26 #[.pointer (some ⟨base, 0, none⟩)] X' fun e w' => e = .returned (.int .i64 (syncE S)) ∧ Hid (RLeft X' base base S.trySync w')) := kept (fun X' hT => rsync_any base base S R X' hT.2.1 HS.out HOK.out HDN.out)
          obtain ⟨ev, hev⟩ : ∃ ev, syncE S = ev := ⟨_, rfl⟩
          rw [hev] at HSY HRY
          clear hev c0 c1 c2 c3 a0 a1 a2 a3
          with_reducible refine HSY.out.mono ?_
          rintro e w4 ⟨rfl, h4⟩
          have HT4 : Hid (Trio w d base base S.trySync R w4) := kept (HTA.out.left HN1.out h4.out)
          clear h4
          go_wp2_with fail
          with_reducible refine (HRY.out w4 HT4.out).mono ?_
          rintro e w5 ⟨rfl, h5⟩
          obtain ⟨R8, hT8, hS8⟩ := HT4.out.right HBS.out h5.out
          have HTX := kept hT8
          have HSX := kept hS8
          clear hT8 hS8 h5
          have HAL := kept (alike_any d base base S.trySync R8 _ HTX.out.1 HTX.out.2.1 HSX.out HTX.out.1.1 (Nat.le_trans (trySync_done S) (by have := HDK.out; omega)))
          go_wp2_with (first | (go_at_call 29; (with_reducible refine (HAL.out).mono ?_); rintro e w9 ⟨rfl, hb9⟩; have HB9 := kept hb9; clear hb9))
          have HE : Hid (Play w d base base m (k + 1) w9) := kept ⟨S.trySync, R8, HTX.out.below HB9.out, HSX.out, (trySync_len _).trans HL.out, Nat.le_trans (trySync_done S) (Nat.succ_le_succ HDK.out)⟩
          go_roundw
          case rel => exact ⟨k + 1, by omega, by omega, by go_num, HE⟩
          case measure => simp [intOf]; omega
        by_cases hk3 : K k = 3
        · skip
          have hkb0 : (K k == 0) = false := by simp [hk0]
          have hkb1 : (K k == 1) = false := by simp [hk1]
          have hkb2 : (K k == 2) = false := by simp [hk2]
          rw [hk3] at c0
          clear hk0 hk1 hk2 hk3
          go_wp2_with fail
          generalize hwa : (wr.alloc (.cells #[.int .i64 3, .int .i64 (P k), .int .i64 (N k), .int .u8 (X k)] 42)) = wa
          have HBA : Hid (Below wr.heap.size wr wa) := kept (by rw [← hwa]; exact (Below.refl _ wr).alloc (Nat.le_refl _) _)
          have HBK : Hid (Blk wa wr.heap.size 42 [.int .i64 3, .int .i64 (P k), .int .i64 (N k), .int .u8 (X k)]) := kept (by rw [← hwa]; exact Blk.new wr 42 #[.int .i64 3, .int .i64 (P k), .int .i64 (N k), .int .u8 (X k)])
          clear hwa
          have HTA : Hid (Trio w d base base S R wa) := kept (HT.out.below HBA.out)
          have a0 : wa.cell? ⟨wr.heap.size, 0, none⟩ = some (.int .i64 3) := HBK.out.cell 0
          have a1 : wa.cell? ⟨wr.heap.size, 1, none⟩ = some (.int .i64 (P k)) := HBK.out.cell 1
          have a2 : wa.cell? ⟨wr.heap.size, 2, none⟩ = some (.int .i64 (N k)) := HBK.out.cell 2
          have a3 : wa.cell? ⟨wr.heap.size, 3, none⟩ = some (.int .u8 (X k)) := HBK.out.cell 3
          have HSY := kept (fuse_any d S (N k) wa HTA.out.1 HWN.out.2)
          have HRY : Hid (∀ X', Trio w d base base (S.tryFuse (N k)) R X' → Calls Try.prog 27 #[.pointer (some ⟨base, 0, none⟩), .int .i64 (N k)] X' fun e w' => e = .returned (.tuple #[]) ∧ Hid (RLeft X' base base (S.tryFuse (N k)) w')) := kept (fun X' hT => rfuse_any base base S R (N k) X' hT.2.1 HS.out HWN.out.2)
          clear c0 c1 c2 c3
          with_reducible refine HSY.out.mono ?_
          rintro e w4 ⟨rfl, h4⟩
          have HT4 : Hid (Trio w d base base (S.tryFuse (N k)) R w4) := kept (HTA.out.left HN1.out h4.out)
          have HA4 : Hid (Blk w4 wr.heap.size 42 [.int .i64 3, .int .i64 (P k), .int .i64 (N k), .int .u8 (X k)]) := kept (h4.out.2.blk HBK.out (HTA.out.1.not_own HBK.out (by decide) (by decide)))
          have d2 : w4.cell? ⟨wr.heap.size, 2, none⟩ = some (.int .i64 (N k)) := HA4.out.cell 2
          clear h4 a0 a1 a2 a3
          go_wp2_with fail
          with_reducible refine (HRY.out w4 HT4.out).mono ?_
          rintro e w5 ⟨rfl, h5⟩
          obtain ⟨R8, hT8, hS8⟩ := HT4.out.right HBS.out h5.out
          have HTX := kept hT8
          have HSX := kept hS8
          clear hT8 hS8 h5 d2
          have HAL := kept (alike_any d base base (S.tryFuse (N k)) R8 _ HTX.out.1 HTX.out.2.1 HSX.out HTX.out.1.1 (Nat.le_trans (Nat.le_trans (Nat.le_of_eq (tryFuse_done S (N k))) (Nat.le_succ _)) (by have := HDK.out; omega)))
          go_wp2_with (first | (go_at_call 29; (with_reducible refine (HAL.out).mono ?_); rintro e w9 ⟨rfl, hb9⟩; have HB9 := kept hb9; clear hb9))
          have HE : Hid (Play w d base base m (k + 1) w9) := kept ⟨(S.tryFuse (N k)), R8, HTX.out.below HB9.out, HSX.out, (tryFuse_len _ _).trans HL.out, Nat.le_trans (Nat.le_trans (Nat.le_of_eq (tryFuse_done S (N k))) (Nat.le_succ _)) (Nat.succ_le_succ HDK.out)⟩
          go_roundw
          case rel => exact ⟨k + 1, by omega, by omega, by go_num, HE⟩
          case measure => simp [intOf]; omega
        by_cases hk4 : K k = 4
        · skip
          have hkb0 : (K k == 0) = false := by simp [hk0]
          have hkb1 : (K k == 1) = false := by simp [hk1]
          have hkb2 : (K k == 2) = false := by simp [hk2]
          have hkb3 : (K k == 3) = false := by simp [hk3]
          rw [hk4] at c0
          clear hk0 hk1 hk2 hk3 hk4
          obtain ⟨q, hq, hat0⟩ := placed (P k) 1024 (by omega) (by omega)
          have hat : wrap64 ((IntKind.u64.wrap (P k)).tmod 1024) = (q : Int) := hat0
          clear hat0
          go_wp2_with fail
          generalize hwa : (wr.alloc (.cells #[.int .i64 4, .int .i64 (P k), .int .i64 (N k), .int .u8 (X k)] 42)) = wa
          have HBA : Hid (Below wr.heap.size wr wa) := kept (by rw [← hwa]; exact (Below.refl _ wr).alloc (Nat.le_refl _) _)
          have HBK : Hid (Blk wa wr.heap.size 42 [.int .i64 4, .int .i64 (P k), .int .i64 (N k), .int .u8 (X k)]) := kept (by rw [← hwa]; exact Blk.new wr 42 #[.int .i64 4, .int .i64 (P k), .int .i64 (N k), .int .u8 (X k)])
          have HSZ : Hid (wa.heap.size = wr.heap.size + 1) := kept (by rw [← hwa]; exact World.size_alloc _ _)
          clear hwa
          have HTA : Hid (Trio w d base base S R wa) := kept (HT.out.below HBA.out)
          have a0 : wa.cell? ⟨wr.heap.size, 0, none⟩ = some (.int .i64 4) := HBK.out.cell 0
          have a1 : wa.cell? ⟨wr.heap.size, 1, none⟩ = some (.int .i64 (P k)) := HBK.out.cell 1
          have a2 : wa.cell? ⟨wr.heap.size, 2, none⟩ = some (.int .i64 (N k)) := HBK.out.cell 2
          have a3 : wa.cell? ⟨wr.heap.size, 3, none⟩ = some (.int .u8 (X k)) := HBK.out.cell 3
          clear hat
          have HKB : Hid (Blk (wa.alloc (.cells #[.int .i64 (P k), .int .i64 (N k), .int .i64 (q : Int), .int .i64 (N k)] 46)) (wr.heap.size + 1) 46 [.int .i64 (P k), .int .i64 (N k), .int .i64 (q : Int), .int .i64 (N k)]) := kept (by rw [← HSZ.out]; exact Blk.new wa 46 #[.int .i64 (P k), .int .i64 (N k), .int .i64 (q : Int), .int .i64 (N k)])
          have HTK : Hid (Trio w d base base S R (wa.alloc (.cells #[.int .i64 (P k), .int .i64 (N k), .int .i64 (q : Int), .int .i64 (N k)] 46))) := kept (HTA.out.below ((Below.refl _ wa).alloc (Nat.le_refl _) _))
          have HAK : Hid (Blk (wa.alloc (.cells #[.int .i64 (P k), .int .i64 (N k), .int .i64 (q : Int), .int .i64 (N k)] 46)) wr.heap.size 42 [.int .i64 4, .int .i64 (P k), .int .i64 (N k), .int .u8 (X k)]) := kept (HBK.out.alloc _)
          have HCR := kept (crash_any d S (some ⟨wr.heap.size + 1, 0, none⟩) 2 2 [(P k, N k), ((q : Int), N k)] _ HTK.out.1 (kp_two HKB.out HWP.out HWN.out (by unfold Wf; omega)) (by omega))
          clear c0 c1 c2 c3 a0 a1 a2 a3
          with_reducible refine HCR.out.mono ?_
          rintro e w5 ⟨rfl, h5⟩
          have HT5 : Hid (Trio w d base base (S.crash [(P k, N k), ((q : Int), N k)]) R w5) := kept (HTK.out.left HN1.out h5.out)
          have HA5 : Hid (Blk w5 wr.heap.size 42 [.int .i64 4, .int .i64 (P k), .int .i64 (N k), .int .u8 (X k)]) := kept (h5.out.2.blk HAK.out (HTK.out.1.not_own HAK.out (by decide) (by decide)))
          have d1 : w5.cell? ⟨wr.heap.size, 1, none⟩ = some (.int .i64 (P k)) := HA5.out.cell 1
          have d2 : w5.cell? ⟨wr.heap.size, 2, none⟩ = some (.int .i64 (N k)) := HA5.out.cell 2
          have HA51 : Hid (wr.heap.size < w5.heap.size) := kept HA5.out.lt
          have dd : ∀ o, (w5.alloc o).cell? ⟨wr.heap.size, 2, none⟩ = some (.int .i64 (N k)) := fun o => (World.cell?_alloc_lt w5 o ⟨wr.heap.size, 2, none⟩ HA51.out).trans d2
          have HCQ := kept (rcrash_two base base S R (P k) (q : Int) (N k) w5 HT5.out.2.1 HS.out HOK.out HDN.out)
          have HT6 : Hid (∀ o1 o2, Trio w d base base (S.crash [(P k, N k), ((q : Int), N k)]) R ((w5.alloc o1).alloc o2)) := kept (fun o1 o2 => HT5.out.below (((Below.refl _ w5).alloc (Nat.le_refl _) o1).alloc (alloc_le _ _) o2))
          clear h5
          go_wp2_with fail
          with_reducible refine HCQ.out.mono ?_
          rintro e w8 ⟨rfl, h8⟩
          obtain ⟨R8, hT8, hS8⟩ := (HT6.out _ _).right HBS.out h8.out
          have HTX := kept hT8
          have HSX := kept hS8
          clear hT8 hS8 h8 d1 d2 dd
          have HAL := kept (alike_any d base base (S.crash [(P k, N k), ((q : Int), N k)]) R8 _ HTX.out.1 HTX.out.2.1 HSX.out HTX.out.1.1 (Nat.le_trans (Nat.le_succ S.done) (by have := HDK.out; omega)))
          go_wp2_with (first | (go_at_call 29; (with_reducible refine (HAL.out).mono ?_); rintro e w9 ⟨rfl, hb9⟩; have HB9 := kept hb9; clear hb9))
          have HE : Hid (Play w d base base m (k + 1) w9) := kept ⟨(S.crash [(P k, N k), ((q : Int), N k)]), R8, HTX.out.below HB9.out, HSX.out, (crash_len _ _).trans HL.out, Nat.le_trans (Nat.le_succ S.done) (Nat.succ_le_succ HDK.out)⟩
          go_roundw
          case rel => exact ⟨k + 1, by omega, by omega, by go_num, HE⟩
          case measure => simp [intOf]; omega
        · skip
          have hkb0 : (K k == 0) = false := by simp [hk0]
          have hkb1 : (K k == 1) = false := by simp [hk1]
          have hkb2 : (K k == 2) = false := by simp [hk2]
          have hkb3 : (K k == 3) = false := by simp [hk3]
          have hkb4 : (K k == 4) = false := by simp [hk4]
          clear hk0 hk1 hk2 hk3 hk4
          obtain ⟨q, hq, hat0⟩ := placed (N k) 600 (by omega) (by omega)
          have hat : wrap64 ((IntKind.u64.wrap (N k)).tmod 600) = (q : Int) := hat0
          clear hat0
          go_wp2_with fail
          generalize hwa : (wr.alloc (.cells #[.int .i64 (K k), .int .i64 (P k), .int .i64 (N k), .int .u8 (X k)] 42)) = wa
          have HBA : Hid (Below wr.heap.size wr wa) := kept (by rw [← hwa]; exact (Below.refl _ wr).alloc (Nat.le_refl _) _)
          have HBK : Hid (Blk wa wr.heap.size 42 [.int .i64 (K k), .int .i64 (P k), .int .i64 (N k), .int .u8 (X k)]) := kept (by rw [← hwa]; exact Blk.new wr 42 #[.int .i64 (K k), .int .i64 (P k), .int .i64 (N k), .int .u8 (X k)])
          have HSZ : Hid (wa.heap.size = wr.heap.size + 1) := kept (by rw [← hwa]; exact World.size_alloc _ _)
          clear hwa
          have HTA : Hid (Trio w d base base S R wa) := kept (HT.out.below HBA.out)
          have a0 : wa.cell? ⟨wr.heap.size, 0, none⟩ = some (.int .i64 (K k)) := HBK.out.cell 0
          have a1 : wa.cell? ⟨wr.heap.size, 1, none⟩ = some (.int .i64 (P k)) := HBK.out.cell 1
          have a2 : wa.cell? ⟨wr.heap.size, 2, none⟩ = some (.int .i64 (N k)) := HBK.out.cell 2
          have a3 : wa.cell? ⟨wr.heap.size, 3, none⟩ = some (.int .u8 (X k)) := HBK.out.cell 3
          clear hat hkb0 hkb1 hkb2 hkb3 hkb4 c0 c1 c2 c3 a0 a2 a3
          obtain ⟨Z, hZ, hmk⟩ := make_noughts q hq
          have B1 : Hid (∀ o, Below wa.heap.size wa (wa.alloc o).drew) := kept (fun o => ((Below.refl _ wa).alloc (Nat.le_refl _) o).drew)
          have B2 : Hid (∀ o o', Below wa.heap.size wa ((wa.alloc o).alloc o').drew) := kept (fun o o' => (((Below.refl _ wa).alloc (Nat.le_refl _) o).alloc (alloc_le _ _) o').drew)
          have y1 : ∀ o, (wa.alloc o).cell? ⟨wr.heap.size, 1, none⟩ = some (.int .i64 (P k)) := fun o => (World.cell?_alloc_lt wa o ⟨wr.heap.size, 1, none⟩ HBK.out.lt).trans a1
          have y2 : ∀ o o', ((wa.alloc o).alloc o').cell? ⟨wr.heap.size, 1, none⟩ = some (.int .i64 (P k)) := fun o o' => (World.cell?_alloc_lt (wa.alloc o) o' ⟨wr.heap.size, 1, none⟩ (Nat.lt_of_lt_of_le HBK.out.lt (alloc_le _ _))).trans (y1 o)
          by_cases h256 : q = 256
          · subst h256
            have HZB : Hid (∀ V : World, Blk (V.alloc Z) V.heap.size 5 (cellsOf noughts)) := kept (fun V => by rw [hZ, noughts_made]; exact Blk.new V 5 _)
            clear hZ hq
            have hmk6 : ∀ V : World, (Instr.makeSlice 26 (.int .i64 256) (.int .i64 256)).run Try.prog V = .ok (.slice (some ⟨V.heap.size, 0, none⟩) 256 256) (V.alloc Z) := hmk
            clear hmk
            obtain ⟨ev, hev⟩ : ∃ ev, writeE S (P k) 256 = ev := ⟨_, rfl⟩
            have HWD : Hid (∀ X' A' c', Trio w d base base S R X' → Rd X' A' 256 noughts → Calls Try.prog 15 #[.pointer (some ⟨d.r, 0, none⟩), .int .i64 (P k), .slice A' 256 c'] X' fun e w' => e = .returned (.int .i64 ev) ∧ Hid (Left X' d (S.tryWrite (P k) noughts) w')) := kept (fun X' A' c' hT hR => by rw [← hev]; exact write_any d S (P k) A' c' noughts X' hT.1 hR (by have := HDN.out; omega))
            have HWR : Hid (∀ X' A' c', Trio w d base base (S.tryWrite (P k) noughts) R X' → Rd X' A' 256 noughts → Calls Try.prog 23 #[.pointer (some ⟨base, 0, none⟩), .int .i64 (P k), .slice A' 256 c'] X' fun e w' => e = .returned (.int .i64 ev) ∧ Hid (RLeft X' base base (S.tryWrite (P k) noughts) w')) := kept (fun X' A' c' hT hR => by rw [← hev]; exact rwrite_any base base S R (P k) A' c' noughts X' hT.2.1 HS.out hR HDN.out)
            clear hev
            have HT1 : Hid (Trio w d base base S R (wa.alloc Z).drew) := kept (HTA.out.below (B1.out Z))
            have HT2 : Hid (Trio w d base base S R ((wa.alloc Z).alloc Z).drew) := kept (HTA.out.below (B2.out Z Z))
            have K1 : Hid (Blk (wa.alloc Z).drew wa.heap.size 5 (cellsOf noughts)) := kept (HZB.out wa)
            have K2 : Hid (Blk ((wa.alloc Z).alloc Z).drew wa.heap.size 5 (cellsOf noughts)) := kept ((HZB.out wa).alloc Z)
            have K3 : Hid (Blk ((wa.alloc Z).alloc Z).drew (wa.heap.size + 1) 5 (cellsOf noughts)) := kept (by have := HZB.out (wa.alloc Z); rw [World.size_alloc] at this; exact this)
            have HA1 : Hid (Blk (wa.alloc Z).drew wr.heap.size 42 [.int .i64 (K k), .int .i64 (P k), .int .i64 (N k), .int .u8 (X k)]) := kept (HBK.out.alloc Z)
            have HA2 : Hid (Blk ((wa.alloc Z).alloc Z).drew wr.heap.size 42 [.int .i64 (K k), .int .i64 (P k), .int .i64 (N k), .int .u8 (X k)]) := kept ((HBK.out.alloc Z).alloc Z)
            go_region_held3 (fun W' => W'.cell? ⟨wr.heap.size, 1, none⟩ = some (.int .i64 (P k))) ((first | exact a1 | exact y1 _ | exact y2 _ _ | exact v1 | exact v2 _ | exact v3))
              (first
                | (go_at_call 15; (with_reducible refine (HWD.out (wa.alloc Z).drew (some ⟨wa.heap.size, 0, none⟩) 256 HT1.out (K1.out.rd noughts_length)).mono ?_); rintro e w5 ⟨rfl, h5⟩; have HT5 : Hid (Trio w d base base (S.tryWrite (P k) noughts) R w5) := kept (HT1.out.left HN1.out h5.out); have HA5 : Hid (Blk w5 wr.heap.size 42 [.int .i64 (K k), .int .i64 (P k), .int .i64 (N k), .int .u8 (X k)]) := kept (h5.out.2.blk HA1.out (HT1.out.1.not_own HA1.out (by decide) (by decide))); have HT6 : Hid (Trio w d base base (S.tryWrite (P k) noughts) R (w5.alloc Z)) := kept (HT5.out.below ((Below.refl _ w5).alloc (Nat.le_refl _) Z)); have HA6 : Hid (Blk (w5.alloc Z) wr.heap.size 42 [.int .i64 (K k), .int .i64 (P k), .int .i64 (N k), .int .u8 (X k)]) := kept (HA5.out.alloc Z); have HK6 : Hid (Rd (w5.alloc Z) (some ⟨w5.heap.size, 0, none⟩) 256 noughts) := kept ((HZB.out w5).rd noughts_length); have v1 := HA5.out.cell 1; have v2 : ∀ o, (w5.alloc o).cell? ⟨wr.heap.size, 1, none⟩ = some (.int .i64 (P k)) := fun o => (HA5.out.alloc o).cell 1; clear h5)
                | (go_at_call 15; (with_reducible refine (HWD.out ((wa.alloc Z).alloc Z).drew (some ⟨wa.heap.size, 0, none⟩) 256 HT2.out (K2.out.rd noughts_length)).mono ?_); rintro e w5 ⟨rfl, h5⟩; have HT6 : Hid (Trio w d base base (S.tryWrite (P k) noughts) R w5) := kept (HT2.out.left HN1.out h5.out); have HA6 : Hid (Blk w5 wr.heap.size 42 [.int .i64 (K k), .int .i64 (P k), .int .i64 (N k), .int .u8 (X k)]) := kept (h5.out.2.blk HA2.out (HT2.out.1.not_own HA2.out (by decide) (by decide))); have HK6 : Hid (Rd w5 (some ⟨wa.heap.size + 1, 0, none⟩) 256 noughts) := kept ((h5.out.2.blk K3.out (HT2.out.1.not_own K3.out (by decide) (by decide))).rd noughts_length); have v1 := HA6.out.cell 1; clear h5)
                | (go_at_call 15; (with_reducible refine (HWD.out ((wa.alloc Z).alloc Z).drew (some ⟨wa.heap.size + 1, 0, none⟩) 256 HT2.out (K3.out.rd noughts_length)).mono ?_); rintro e w5 ⟨rfl, h5⟩; have HT6 : Hid (Trio w d base base (S.tryWrite (P k) noughts) R w5) := kept (HT2.out.left HN1.out h5.out); have HA6 : Hid (Blk w5 wr.heap.size 42 [.int .i64 (K k), .int .i64 (P k), .int .i64 (N k), .int .u8 (X k)]) := kept (h5.out.2.blk HA2.out (HT2.out.1.not_own HA2.out (by decide) (by decide))); have HK6 : Hid (Rd w5 (some ⟨wa.heap.size, 0, none⟩) 256 noughts) := kept ((h5.out.2.blk K2.out (HT2.out.1.not_own K2.out (by decide) (by decide))).rd noughts_length); have v1 := HA6.out.cell 1; clear h5)
                | (go_at_call 23; (with_reducible refine (HWR.out _ _ _ HT6.out HK6.out).mono ?_); rintro e w8 ⟨rfl, h8⟩; have H8 := h8; have HA8 : Hid (Blk w8 wr.heap.size 42 [.int .i64 (K k), .int .i64 (P k), .int .i64 (N k), .int .u8 (X k)]) := kept (HA6.out.ref (by decide) h8.out.choose_spec.2.2); have v3 := HA8.out.cell 1; clear h8))
            all_goals
              obtain ⟨R8, hT8, hS8⟩ := HT6.out.right HBS.out H8.out
              have HTX := kept hT8
              have HSX := kept hS8
              clear hT8 hS8
              have HAL := kept (alike_any d base base (S.tryWrite (P k) noughts) R8 _ HTX.out.1 HTX.out.2.1 HSX.out HTX.out.1.1 (Nat.le_trans (tryWrite_done S (P k) noughts) (by have := HDK.out; omega)))
              go_wp2_with (first | (go_at_call 29; (with_reducible refine (HAL.out).mono ?_); rintro e w9 ⟨rfl, hb9⟩; have HB9 := kept hb9; clear hb9))
              have HE : Hid (Play w d base base m (k + 1) w9) := kept ⟨(S.tryWrite (P k) noughts), R8, HTX.out.below HB9.out, HSX.out, (tryWrite_len _ _ _).trans HL.out, Nat.le_trans (tryWrite_done S (P k) noughts) (Nat.succ_le_succ HDK.out)⟩
              go_roundw
              case rel => exact ⟨k + 1, by omega, by omega, by go_num, HE⟩
              case measure => simp [intOf]; omega
          · clear hZ
            obtain ⟨ev, hev⟩ : ∃ ev, writeE S (P k) q = ev := ⟨_, rfl⟩
            have HWD : Hid (∀ X' A' c', Trio w d base base S R X' → Calls Try.prog 15 #[.pointer (some ⟨d.r, 0, none⟩), .int .i64 (P k), .slice A' q c'] X' fun e w' => e = .returned (.int .i64 ev) ∧ X' = w') := kept (fun X' A' c' hT => by rw [← hev]; exact writeN_any d S (P k) A' q c' X' hT.1 h256)
            have HWR : Hid (∀ X' A' c', Trio w d base base S R X' → Calls Try.prog 23 #[.pointer (some ⟨base, 0, none⟩), .int .i64 (P k), .slice A' q c'] X' fun e w' => e = .returned (.int .i64 ev) ∧ X' = w') := kept (fun X' A' c' hT => by rw [← hev]; exact rwrite_any' base base S R (P k) A' q c' X' hT.2.1 HS.out h256)
            clear hev h256
            have HT1 : Hid (Trio w d base base S R (wa.alloc Z).drew) := kept (HTA.out.below (B1.out Z))
            have HT2 : Hid (Trio w d base base S R ((wa.alloc Z).alloc Z).drew) := kept (HTA.out.below (B2.out Z Z))
            go_region_held3 (fun W' => W'.cell? ⟨wr.heap.size, 1, none⟩ = some (.int .i64 (P k))) ((first | exact a1 | exact y1 _ | exact y2 _ _))
              (first
                | (go_at_call 15; (with_reducible refine (HWD.out (wa.alloc Z).drew _ _ HT1.out).mono ?_); rintro e w' ⟨rfl, rfl⟩)
                | (go_at_call 15; (with_reducible refine (HWD.out ((wa.alloc Z).alloc Z).drew _ _ HT2.out).mono ?_); rintro e w' ⟨rfl, rfl⟩)
                | (go_at_call 23; (with_reducible refine (HWR.out ((wa.alloc Z).alloc Z).drew _ _ HT2.out).mono ?_); rintro e w' ⟨rfl, rfl⟩))
            all_goals
              have HTX := HT2
              have HSX := HS
              have HAL := kept (alike_any d base base S R _ HTX.out.1 HTX.out.2.1 HSX.out HTX.out.1.1 (Nat.le_trans (Nat.le_succ S.done) (by have := HDK.out; omega)))
              go_wp2_with (first | (go_at_call 29; (with_reducible refine (HAL.out).mono ?_); rintro e w9 ⟨rfl, hb9⟩; have HB9 := kept hb9; clear hb9))
              have HE : Hid (Play w d base base m (k + 1) w9) := kept ⟨S, R, HTX.out.below HB9.out, HSX.out, HL.out, Nat.le_trans (Nat.le_succ S.done) (Nat.succ_le_succ HDK.out)⟩
              go_roundw
              case rel => exact ⟨k + 1, by omega, by omega, by go_num, HE⟩
              case measure => simp [intOf]; omega
    · obtain rfl : k = n := by omega
      have HTE := HT
      obtain ⟨q, hq, hqm, hq40⟩ : ∃ q : Nat, (if (m : Int) ≤ 40 then (m : Int) else 40) = (q : Int) ∧ q ≤ m ∧ q ≤ 40 := by
        by_cases h : m ≤ 40
        · exact ⟨m, if_pos (by omega), Nat.le_refl _, h⟩
        · exact ⟨40, if_neg (by omega), by omega, Nat.le_refl _⟩
      by_cases hf : S.fuse = 0
      · have HDE : Hid (R.dead = true) := kept (by rw [HS.out.dead, hf]; rfl)
        have HSY : Hid (∀ X', Trio w d base base S R X' → Calls Try.prog 17 #[.pointer (some ⟨d.r, 0, none⟩)] X' fun e w' => e = .returned (.int .i64 10) ∧ X' = w') := kept (fun X' hT => sync_no d S X' hT.1 hf)
        have e3 : wr.cell? ⟨base, 3, none⟩ = some (.bool true) := by
          obtain ⟨_, _, _, _, _, _, _, h3, _⟩ := HTE.out.2.1.cells
          rw [HDE.out] at h3
          exact h3
        clear hf
        go_wp2_with fail
        with_reducible refine (HSY.out _ HTE.out).mono ?_
        rintro e w' ⟨rfl, rfl⟩
        go_wp2
        go_ret
        exact ⟨rfl, HTE.out.2.2⟩
      · have HDE : Hid (R.dead = false) := kept (by rw [HS.out.dead]; simp [hf])
        have HF := kept hf
        have e3 : wr.cell? ⟨base, 3, none⟩ = some (.bool false) := by
          obtain ⟨_, _, _, _, _, _, _, h3, _⟩ := HTE.out.2.1.cells
          rw [HDE.out] at h3
          exact h3
        clear hf
        go_wp2
        go_loopw [230] (fun i wx => ∃ j : Nat, j ≤ q ∧ i = .int .i64 (j : Int) ∧ Hid (Below wr.heap.size wr wx)) (fun i _ => q - (intOf i).toNat)
        case atStart => exact ⟨0, Nat.zero_le _, rfl, kept (Below.refl _ _)⟩
        case round =>
          obtain ⟨j, hjq, rfl, HBX⟩ := hrel
          rename World => wx
          by_cases hlq : j < q
          · have HTX : Hid (Trio w d base base S R wx) := kept (HTE.out.below HBX.out)
            have HLT : Hid ((j : Int) < (S.pages.length : Int)) := kept (by rw [HL.out]; omega)
            have HLN : Hid ((S.page (j : Int)).length = 256) := kept (HTX.out.1.page_len (by have := HLT.out; omega))
            have HRO := kept (read_ok d S (j : Int) wx HTX.out.1 HF.out (by omega) HLT.out)
            go_wp2_with fail
            with_reducible refine HRO.out.mono ?_
            rintro e w6 ⟨b6, rfl, hk6, hn6, hb6⟩
            have HK6 : Hid (Blk w6 b6 75 (cellsOf (S.page (j : Int)))) := kept hk6
            have HB6 := kept hb6
            clear hk6 hn6 hb6
            have HRR := kept (rread_ok base base S R (j : Int) w6 (HTX.out.below HB6.out).2.1 HS.out HF.out (by omega) HLT.out HDN.out)
            go_wp2_with fail
            with_reducible refine HRR.out.mono ?_
            rintro e w7 ⟨A7, c7, rfl, h7⟩
            have HSM := kept (same_any (some ⟨b6, 0, none⟩) A7 256 256 256 c7 (S.page (j : Int)) (S.page (j : Int)) w7 ((HK6.out.below h7.out.2 HK6.out.lt).rd HLN.out) h7.out.1 true (by simp))
            have HB7 : Hid (Below wr.heap.size wr w7) := kept (below_on h7.out.2 (below_on HB6.out HBX.out))
            clear h7
            go_wp2_with (first | (go_at_call 25; (with_reducible refine (HSM.out).mono ?_); rintro e w' ⟨rfl, rfl⟩))
            go_roundw
            case rel => exact ⟨j + 1, by omega, by go_num, HB7⟩
            case measure => simp [intOf]; omega
          · obtain rfl : j = q := by omega
            go_wp2
            go_ret
            exact ⟨rfl, below_on HBX.out HTE.out.2.2⟩
theorem walk (w : World) (a : Int) (wa : (Lit.int .i64 a).wf = true) (A : Option Addr) (n c : Nat) (hnc : n ≤ c) (hcm : c ≤ maxLen) (K P N X : Nat → Int) (hr : RdActs w A n K P N X) :
    Calls Try.prog 3 #[.int .i64 a, .slice A n c] w fun e w' => e = .returned (.bool true) ∧ Below w.heap.size w w' := by
  by_cases hbad : a < 8 ∨ 1024 < a
  · exact walk_bad w a hbad A n c
  · obtain ⟨m, rfl⟩ := Int.eq_ofNat_of_zero_le (show 0 ≤ a by omega)
    exact walk_good w m (by omega) (by omega) A n c hnc hcm K P N X hr
end Go.Proofs.Ytfmljiidgaoihaa.diskPlays
