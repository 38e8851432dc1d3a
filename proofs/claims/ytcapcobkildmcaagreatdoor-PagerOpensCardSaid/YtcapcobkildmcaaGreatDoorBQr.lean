/- Qr Za Zc Qq Qu -/
import Derived.Test.YtcapcobkildmcaaGreatDoorBQh
import Derived.Test.YtcapcobkildmcaaGreatDoorBPReadsWalk
section
namespace Go.Proofs.YtcapcobkildmcaaGreatDoor
open Go.ChangeShapes Go.WideShapes Go.ChangeAt Go.RowKit
set_option linter.unusedVariables false
set_option linter.unusedSimpArgs false
set_option maxRecDepth 100000
set_option maxHeartbeats 16000000
theorem OwSh.two (w : World) (a b : Int) (A B : Option Addr) (c d : Nat) (xs ys : List UInt8) (hA : OwB w A 256 c xs) (hB : OwB w B 256 d ys) : OwSh (w.alloc (.cells #[.int .i64 a, .slice A 256 c, .int .i64 b, .slice B 256 d] 116)) (some ⟨w.heap.size, 0, none⟩) 2 2 [(a, xs), (b, ys)] := by
 refine ⟨[⟨a, A, c⟩, ⟨b, B, d⟩], rfl, rfl, ?_, fun k h1 h2 => ?_⟩
 · exact ⟨rfl, .inr ⟨w.heap.size, 2, _, rfl, Nat.zero_le _, heap_alloc_new w _, Nat.le_refl _, by decide, rfl, rfl⟩⟩
 · have hb := (Below.refl w.heap.size w).alloc (Nat.le_refl _) (.cells #[.int .i64 a, .slice A 256 c, .int .i64 b, .slice B 256 d] 116); have h1 : k < 2 := h1; rcases (show k = 0 ∨ k = 1 by omega) with rfl | rfl
   · exact ⟨rfl, hA.below hb⟩
   · exact ⟨rfl, hB.below hb⟩
def allIds (z : Nat) : List Int := (List.range (z - 2)).map fun i : Nat => ((i + 2 : Nat) : Int)
theorem allIds_length (z : Nat) : (allIds z).length = z - 2 := by simp [allIds]
theorem allIds_rising (z : Nat) : Rising (allIds z) := by
 unfold allIds; refine List.pairwise_map.2 ?_; exact List.pairwise_lt_range.imp fun h => by omega
theorem mem_allIds {z : Nat} {x : Int} : x ∈ allIds z ↔ 2 ≤ x ∧ x < (z : Int) := by
 unfold allIds; rw [List.mem_map]; constructor
 · rintro ⟨i, hi, rfl⟩; rw [List.mem_range] at hi; omega
 · intro h; exact ⟨x.toNat - 2, by rw [List.mem_range]; omega, by omega⟩
theorem allIds_take (z k : Nat) (h : k < z - 2) : (allIds z).take (k + 1) = (allIds z).take k ++ [((k + 2 : Nat) : Int)] := by
 rw [List.take_succ_eq_append_getElem (by rw [allIds_length]; exact h)]; simp [allIds]
def meta0 (z : Nat) : Mt := ⟨0, 0, 0, (z : Int)⟩
def meta1 (z : Nat) : Mt := ⟨1, 0, 2, (z : Int)⟩
def formatL (z : Nat) : List Sheet := [(0, sealed (bodyM (meta0 z))), (1, sealed (bodyM (meta1 z)))] ++ layC 1 ((allIds z).take (needN (z - 2))) ((allIds z).drop (needN (z - 2)))
theorem needN_le (n : Nat) (h : 1 ≤ n) : needN n ≤ n ∧ 1 ≤ needN n := by unfold needN; omega
theorem meta_right (z : Nat) (h1 : 8 ≤ z) (h2 : z ≤ 1024) : rightM (meta0 z) = true ∧ rightM (meta1 z) = true := by
 unfold rightM meta0 meta1 beginsB; simp; omega
theorem layMeta0_any (z : Nat) (h : rightM (meta0 z) = true) (W : World) (hF : Fours W) :
 Calls Tryz.prog 52 #[.agg #[.int .u64 0, .int .i64 0, .int .i64 0, .int .i64 (z : Int)]] W fun e w' => ∃ A c, e = .returned (.tuple #[.agg #[.int .i64 0, .slice A 256 c], .int .i64 0]) ∧ Hid (OwB w' A 256 c (sealed (bodyM (meta0 z)))) ∧ Below W.heap.size W w' := by
 have hl := layMeta_any (meta0 z) 0 (by rw [h]; rfl) W (by show (0 : Nat) < _; omega) hF; refine Calls.mono hl ?_; rintro e w' ⟨A, n, c, rfl, h2, hb⟩; obtain ⟨rfl, ho, _⟩ := h2.out rfl; exact ⟨A, c, rfl, kept ho, hb⟩
theorem layMeta1_any (z : Nat) (h : rightM (meta1 z) = true) (W : World) (hF : Fours W) :
 Calls Tryz.prog 52 #[.agg #[.int .u64 1, .int .i64 0, .int .i64 2, .int .i64 (z : Int)]] W fun e w' => ∃ A c, e = .returned (.tuple #[.agg #[.int .i64 1, .slice A 256 c], .int .i64 0]) ∧ Hid (OwB w' A 256 c (sealed (bodyM (meta1 z)))) ∧ Below W.heap.size W w' := by
 have hl := layMeta_any (meta1 z) 0 (by rw [h]; rfl) W (by show (1 : Nat) < _; omega) hF; refine Calls.mono hl ?_; rintro e w' ⟨A, n, c, rfl, h2, hb⟩; obtain ⟨rfl, ho, _⟩ := h2.out rfl; exact ⟨A, c, rfl, kept ho, hb⟩
theorem format_nil (w : World) : Calls Tryz.prog 36 #[.pointer none] w fun e w' => e = .returned (.int .i64 1) ∧ w = w' := by
 go_enter Tryz.func36, Tryz.ntmps36; go_wp2; go_ret; exact ⟨rfl, rfl⟩
def FmK (w : World) (d : Dk) (S : St) (z k : Nat) (A : Option Addr) (c : Nat) (wr : World) : Prop := OwI wr A k c ((allIds z).take k) ∧ Below w.heap.size w wr ∧ ∀ g, blkOf A = some g → w.heap.size ≤ g
theorem fm_next {w wr w4 : World} {d : Dk} {S : St} {z j : Nat} {A A4 : Option Addr} {c c4 : Nat} {o : Obj} (h : FmK w d S z j A c wr) (hk : (allIds z).take (j + 1) = (allIds z).take j ++ [((j + 2 : Nat) : Int)]) (h4 : OwI w4 A4 (j + 1) c4 ((allIds z).take j ++ [(j : Int) + 2])) (t4 : Turned (wr.alloc o) w4 (fun i => blkOf A = some i)) (g4 : ∀ g, blkOf A4 = some g → blkOf A = some g ∨ (wr.alloc o).heap.size ≤ g) : FmK w d S z (j + 1) A4 c4 w4 := by
 have hb : Below w.heap.size w (wr.alloc o) := h.2.1.alloc h.2.1.size _; refine ⟨by rw [hk]; exact h4, t4.only_new hb hb.size (fun i hi => h.2.2 i hi), fun g e => ?_⟩; rcases g4 g e with k | k
 · exact h.2.2 g k
 · exact Nat.le_trans hb.size k
theorem format_any (d : Dk) (S : St) (w : World) (h : Dsk w d S) (hd : S.done ≤ 800000) (hF : Fours w) :
 Calls Tryz.prog 36 #[.pointer (some ⟨d.r, 0, none⟩)] w fun e w' => e = .returned (.int .i64 (putS S (formatL S.pages.length)).2) ∧ Hid (Left w d (putS S (formatL S.pages.length)).1 w') := by
 have H := kept h; have HSZ := kept (size_any d S w h); have hz8 := h.1.1; have hz1024 := h.1.2.1; obtain ⟨z, hz⟩ : ∃ z, S.pages.length = z := ⟨_, rfl⟩
 rw [hz] at HSZ hz8 hz1024 ⊢; obtain ⟨n, hn⟩ : ∃ n, z - 2 = n := ⟨_, rfl⟩
 have hzn : n + 2 = z := by omega
 obtain ⟨k, hk⟩ : ∃ k, needN n = k := ⟨_, rfl⟩
 have hkz : k ≤ n := by have := (needN_le n (by omega)).1; omega
 have HFL : Hid (formatL z = [(0, sealed (bodyM (meta0 z))), (1, sealed (bodyM (meta1 z)))] ++ layC 1 ((allIds z).take k) ((allIds z).drop k)) := kept (by unfold formatL; rw [hn, hk]); rw [HFL.out]; have HCN := fun W => kept (chainLength_any n W (by omega))
 rw [hk] at HCN; have hm := meta_right z hz8 hz1024; have HM0 := kept (fun (W : World) (hb : Below w.heap.size w W) => layMeta0_any z hm.1 W (hF.below hb)); have HM1 := kept (fun (W : World) (hb : Below w.heap.size w W) => layMeta1_any z hm.2 W (hF.below hb)); have HLY := kept (fun (W : World) (A B : Option Addr) (c d : Nat) (hb : Below w.heap.size w W) (r1 : RdI W A k ((allIds z).take k)) (r2 : RdI W B (n - k) ((allIds z).drop k)) (hc : k ≤ c) (hd : n - k ≤ d) => layChain_any 1 k c (n - k) d A B ((allIds z).take k) ((allIds z).drop k) W r1 r2 (by omega) (by omega) hc hd (by decide) (List.Pairwise.sublist (List.drop_sublist _ _) (allIds_rising z)) (fun x hx => by have := mem_allIds.1 (List.mem_of_mem_drop hx); simp [isPg]; omega) (fun x hx => by have := mem_allIds.1 (List.mem_of_mem_take hx); simp [isPg]; omega) (hF.below hb)); have HPT := kept (fun (W : World) (A : Option Addr) (n c : Nat) (l : List Sheet) (hb : Below w.heap.size w W) (hs : RdSh W A n l) (hn : n ≤ 5000) => put_any d S A n c l W (H.out.below hb) hs hn (by omega)); have H0 : Hid (FmK w d S z 0 none 0 w) := kept ⟨OwI.nil_ _, Below.refl _ _, fun g e => (by cases e)⟩; clear h hz hk hm hF HFL hn; go_enter Tryz.func36, Tryz.ntmps36; go_wp2_with (first | (go_at_call 59; (with_reducible refine (HSZ.out).mono ?_); rintro e w1 ⟨rfl, rfl⟩))
 go_loopw [4, 5] (fun ps i wr => ∃ (j : Nat) (A : Option Addr) (c : Nat), j ≤ n ∧ i = .int .i64 ((j : Int) + 2) ∧ ps = .slice A j c ∧ Hid (FmK w d S z j A c wr)) (fun _ i _ => z - (intOf i).toNat)
 case atStart => exact ⟨0, none, 0, Nat.zero_le _, by simp, rfl, H0⟩
 case round =>
  obtain ⟨j, A, c, hj, rfl, rfl, HL⟩ := hrel; clear H0; by_cases hlt : j < n
  · have hin : (j : Int) + 2 < (z : Int) := by omega
    have hwj : IntKind.i64.wrap ((j : Int) + 2 + 1) = (j : Int) + 2 + 1 := by simp [IntKind.wrap_i64]; omega
    have HTK := kept (allIds_take z j (by omega)); have hjm : j + 1 ≤ 1000000 := by omega
    go_wp2_with (first | (at_builtin; refine wpList_append_i rfl _ _ rfl rfl rfl (HL.out.1.alloc _) (RdI.one7 wr ((j : Int) + 2)) hjm ?_; intro A4 c4 w4 h4 t4 g4; have HE : Hid (FmK w d S z (j + 1) A4 c4 w4) := kept (fm_next HL.out HTK.out h4 t4 g4); clear h4 t4 g4))
    go_roundw
    case rel => exact ⟨j + 1, A4, c4, by omega, by simp; omega, rfl, HE⟩
    case measure => simp [intOf]; omega
  · obtain rfl : j = n := by omega
    have hcmp : ¬ ((j : Int) + 2 < (z : Int)) := by omega
    have HAL : Hid ((allIds z).take j = allIds z) := kept (List.take_of_length_le (by rw [allIds_length]; omega)); have HLB := kept HL.out.2.1; go_wp2_with fail
    with_reducible refine (HCN _).out.mono ?_
    rintro e w1 ⟨rfl, rfl⟩; go_wp2_with fail
    with_reducible refine (HM0.out _ HLB.out).mono ?_
    rintro e w2 ⟨A2, c2, rfl, ho2, hb2⟩; have HO2 := ho2; have HB2 := kept (HL.out.2.1.trans (hb2.mono HL.out.2.1.size)); have HB2L := kept hb2; have HBA := kept (HB2.out.alloc HB2.out.size (.cells #[.int .i64 0, .slice A2 256 c2] 116)); clear ho2 hb2; go_wp2_with fail
    with_reducible refine (HM1.out _ HBA.out).mono ?_
    rintro e w3 ⟨A3, c3, rfl, ho3, hb3⟩; have HO3 := ho3; have HB3 := kept hb3; clear ho3 hb3; go_wp2; have HZ4 : Hid (Blk (w3.alloc (.cells #[.int .i64 1, .slice A3 256 c3] 116)) w2.heap.size 116 [.int .i64 0, .slice A2 256 c2]) := kept (((Blk.new w2 116 #[.int .i64 0, .slice A2 256 c2]).below HB3.out (by simp)).alloc _); have HO4 : Hid (Blk (w3.alloc (.cells #[.int .i64 1, .slice A3 256 c3] 116)) w3.heap.size 116 [.int .i64 1, .slice A3 256 c3]) := kept (Blk.new w3 116 #[.int .i64 1, .slice A3 256 c3]); have hb3 : Below w2.heap.size w2 w3 := ((Below.refl _ w2).alloc (Nat.le_refl _) _).trans (HB3.out.mono (by simp)); have HBY : Hid (OwB (w3.alloc (.cells #[.int .i64 1, .slice A3 256 c3] 116)) A2 256 c2 (sealed (bodyM (meta0 z))) ∧ OwB (w3.alloc (.cells #[.int .i64 1, .slice A3 256 c3] 116)) A3 256 c3 (sealed (bodyM (meta1 z)))) := kept ⟨(HO2.out.below hb3).below ((Below.refl _ _).alloc (Nat.le_refl _) _), HO3.out.below ((Below.refl _ _).alloc (Nat.le_refl _) _)⟩; have HBW4 : Hid (Below w.heap.size w (w3.alloc (.cells #[.int .i64 1, .slice A3 256 c3] 116))) := kept ((HB2.out.trans (hb3.mono HB2.out.size)).alloc (HB2.out.trans (hb3.mono HB2.out.size)).size _); have HPG : Hid (OwI (w3.alloc (.cells #[.int .i64 1, .slice A3 256 c3] 116)) A j c (allIds z)) := kept (by
     have h1 := HL.out.1; rw [HAL.out] at h1; exact ((h1.below HB2L.out).below hb3).alloc _)
    clear hb3; generalize (w3.alloc (.cells #[.int .i64 1, .slice A3 256 c3] 116)) = W4 at HZ4 HO4 HBY HBW4 HPG ⊢; obtain ⟨g, hA⟩ := HPG.out.head (by omega); subst hA; have hjc : j ≤ c := HPG.out.cap; have HS : Hid (∀ W, Below W4.heap.size W4 W → W.cell? ⟨w2.heap.size, 0, none⟩ = some (.int .i64 0) ∧ W.cell? ⟨w2.heap.size, 1, none⟩ = some (.slice A2 256 c2) ∧ W.cell? ⟨w3.heap.size, 0, none⟩ = some (.int .i64 1) ∧ W.cell? ⟨w3.heap.size, 1, none⟩ = some (.slice A3 256 c3)) := kept (fun W hb => ⟨(HZ4.out.below hb HZ4.out.lt).cell 0, (HZ4.out.below hb HZ4.out.lt).cell 1, (HO4.out.below hb HO4.out.lt).cell 0, (HO4.out.below hb HO4.out.lt).cell 1⟩); obtain ⟨P, hP⟩ : ∃ P, (if c = k then some (⟨g, 0, none⟩ : Addr) else some ⟨g, k, none⟩) = P := ⟨_, rfl⟩
    have HL4 : Hid (∀ W, Below W4.heap.size W4 W → Calls Tryz.prog 55 #[.int .u64 1, .slice (some ⟨g, 0, none⟩) k c, .slice P (j - k) (c - k)] W fun e w' => ∃ A' c', e = .returned (.slice A' k c') ∧ Hid (SaySh W w' A' k c' (layC 1 ((allIds z).take k) ((allIds z).drop k)))) := kept (fun W hb => by
     have hr := (HPG.out.below hb).reads; have hcut := hr.cut (k := k) hkz hjc; rw [Nat.zero_add, hP] at hcut; exact HLY.out W _ _ c (c - k) (HBW4.out.trans (hb.mono HBW4.out.size)) (hr.take hkz) hcut (by omega) (by omega))
    have HOT : Hid (∀ W, Below W4.heap.size W4 W → OwSh (W.alloc (.cells #[.int .i64 0, .slice A2 256 c2, .int .i64 1, .slice A3 256 c3] 116)) (some ⟨W.heap.size, 0, none⟩) 2 2 [(0, sealed (bodyM (meta0 z))), (1, sealed (bodyM (meta1 z)))]) := kept (fun W hb => OwSh.two W 0 1 A2 A3 c2 c3 _ _ (HBY.out.1.below hb) (HBY.out.2.below hb)); have HPU : Hid (∀ (W : World) (A : Option Addr) (c : Nat), Below W4.heap.size W4 W → OwSh W A (2 + k) c ([(0, sealed (bodyM (meta0 z))), (1, sealed (bodyM (meta1 z)))] ++ layC 1 ((allIds z).take k) ((allIds z).drop k)) → Calls Tryz.prog 82 #[.pointer (some ⟨d.r, 0, none⟩), .slice A (2 + k) c] W fun e w' => e = .returned (.int .i64 (putS S ([(0, sealed (bodyM (meta0 z))), (1, sealed (bodyM (meta1 z)))] ++ layC 1 ((allIds z).take k) ((allIds z).drop k))).2) ∧ Hid (Left w d (putS S ([(0, sealed (bodyM (meta0 z))), (1, sealed (bodyM (meta1 z)))] ++ layC 1 ((allIds z).take k) ((allIds z).drop k))).1 w') ∧ Hid (Turned W w' d.own)) := kept (fun W A c hb ho => by
     have hbw := HBW4.out.trans (hb.mono HBW4.out.size); exact (HPT.out W A (2 + k) c _ hbw ho.reads (by omega)).mono fun e w' ⟨h1, h2⟩ => ⟨h1, kept ⟨h2.out.1, (Turned.of_below hbw _).trans h2.out.2⟩, kept h2.out.2⟩)
    have HS9 : Hid (∀ W W', Below W4.heap.size W4 W → Turned W W' d.own → W'.cell? ⟨w2.heap.size, 0, none⟩ = some (.int .i64 0) ∧ W'.cell? ⟨w2.heap.size, 1, none⟩ = some (.slice A2 256 c2) ∧ W'.cell? ⟨w3.heap.size, 0, none⟩ = some (.int .i64 1) ∧ W'.cell? ⟨w3.heap.size, 1, none⟩ = some (.slice A3 256 c3)) := kept (fun W W' hb ht => by
     have hdw := H.out.below (HBW4.out.trans (hb.mono HBW4.out.size)); have z1 := ht.blk (HZ4.out.below hb HZ4.out.lt) (fun hj => hdw.own_cl (HZ4.out.below hb HZ4.out.lt).cl (by decide) (by decide) hj); have o1 := ht.blk (HO4.out.below hb HO4.out.lt) (fun hj => hdw.own_cl (HO4.out.below hb HO4.out.lt).cl (by decide) (by decide) hj); exact ⟨z1.cell 0, z1.cell 1, o1.cell 0, o1.cell 1⟩)
    have hk0 : (0 : Int) ≤ (k : Int) := by omega
    have hk1 : (k : Int) ≤ (j : Int) := by omega
    have hk2 : (k : Int) ≤ (c : Int) := by omega
    have hk3 : (j : Int) ≤ (c : Int) := by omega
    have hkc : k ≤ c := by omega
    clear HZ4 HO4 HBY HPG HLY HPT HO2 HO3 HB2 HB3 HBA HB2L; refine wp_region_held_drew (S := (fun W' => W'.cell? ⟨w2.heap.size, 0, none⟩ = some (.int .i64 0) ∧ W'.cell? ⟨w2.heap.size, 1, none⟩ = some (.slice A2 256 c2) ∧ W'.cell? ⟨w3.heap.size, 0, none⟩ = some (.int .i64 1) ∧ W'.cell? ⟨w3.heap.size, 1, none⟩ = some (.slice A3 256 c3))) (by kernel_rfl) ?_ (fun hHeld => ?_)
    · ((try dsimp only); (with_reducible first | exact HS.out _ (Below.refl _ _).drew | exact HS.out _ (below_ad _ _) | exact HS.out _ HB6.out | exact HS.out _ (HB6.out.alloc HB6.out.size _) | exact HS.out _ HB8.out | exact HS9.out _ _ HB8.out h9t.out))
    refine hT 0 (some 39) ?_; refine hT 1 (some 40) ?_; refine hT 2 (some 41) ?_; refine hT 4 (some 43) ?_; refine hT 5 (some 44) ?_; refine hT 6 (some 45) ?_; refine hT 7 (some 46) ?_; refine hT 8 (some 47) ?_; refine hT 9 (some 48) ?_; refine hV 3 10 (fun K hK => ?_) (fun K hK => ?_)
    · skip; go_simp; refine hK.out _ _ ?_ (fun hHeld => ?_)
      · ((try dsimp only); (with_reducible first | exact HS.out _ (Below.refl _ _).drew | exact HS.out _ (below_ad _ _) | exact HS.out _ HB6.out | exact HS.out _ (HB6.out.alloc HB6.out.size _) | exact HS.out _ HB8.out | exact HS9.out _ _ HB8.out h9t.out))
      clear hK K; (try simp only [Act.put, hA, h0, h1]); refine hR 10 (fun K hK => ?_); go_simp
      ((go_at_call 55; first | ((with_reducible refine (HL4.out _ (below_ad _ _)).mono ?_); rintro e w6 ⟨A7, c7, rfl, h7⟩; have HB6 : Hid (Below W4.heap.size W4 w6) := kept ((below_ad W4 _).trans (h7.out.2.1.mono (below_ad W4 _).size)); have HOA := kept (((HOT.out W4 (Below.refl _ _)).below (Below.refl _ _).drew).below h7.out.2.1); have HSA := kept h7.out.1.reads) | ((with_reducible refine (HL4.out _ (Below.refl _ _).drew).mono ?_); rintro e w6 ⟨A7, c7, rfl, h7⟩; have HB6 : Hid (Below W4.heap.size W4 w6) := kept (below_from_drew h7.out.2.1); have HOB := kept (HOT.out w6 HB6.out); have HSB := kept (h7.out.1.reads.below ((Below.refl _ _).alloc (Nat.le_refl _) (.cells #[.int .i64 0, .slice A2 256 c2, .int .i64 1, .slice A3 256 c3] 116))))))
      (try go_wp2_with fail); refine hK.out _ _ ?_ (fun hHeld => ?_)
      · ((try dsimp only); (with_reducible first | exact HS.out _ (Below.refl _ _).drew | exact HS.out _ (below_ad _ _) | exact HS.out _ HB6.out | exact HS.out _ (HB6.out.alloc HB6.out.size _) | exact HS.out _ HB8.out | exact HS9.out _ _ HB8.out h9t.out))
      clear hK K; (try simp only [Act.put, hA, h0, h1]); refine hR 11 (fun K hK => ?_)
      (first | (refine wp_append_sh (.tmp 42) (.tmp 49) rfl rfl rfl HOA.out HSA.out (by omega) ?_; intro A8 c8 w8 h8 t8 g8; have HB8 : Hid (Below W4.heap.size W4 w8) := kept (t8.only_new HB6.out HB6.out.size (fun i hi => by cases hi; exact Nat.le_refl _))) | (refine wp_append_sh (.tmp 42) (.tmp 49) rfl rfl rfl HOB.out HSB.out (by omega) ?_; intro A8 c8 w8 h8 t8 g8; have HB8 : Hid (Below W4.heap.size W4 w8) := kept (t8.only_new (HB6.out.alloc HB6.out.size _) (HB6.out.alloc HB6.out.size _).size (fun i hi => by cases hi; exact HB6.out.size)))); have H8 := kept h8; clear h8 t8 g8
      refine hK.out _ _ ?_ (fun hHeld => ?_)
      · ((try dsimp only); (with_reducible first | exact HS.out _ (Below.refl _ _).drew | exact HS.out _ (below_ad _ _) | exact HS.out _ HB6.out | exact HS.out _ (HB6.out.alloc HB6.out.size _) | exact HS.out _ HB8.out | exact HS9.out _ _ HB8.out h9t.out))
      clear hK K; (try simp only [Act.put, hA, h0, h1]); refine hR 12 (fun K hK => ?_); go_simp
      ((go_at_call 82; (with_reducible refine (HPU.out _ _ _ HB8.out H8.out).mono ?_); rintro e w9 ⟨rfl, h9, h9t⟩))
      (try go_wp2_with fail); refine hK.out _ _ ?_ (fun hHeld => ?_)
      · ((try dsimp only); (with_reducible first | exact HS.out _ (Below.refl _ _).drew | exact HS.out _ (below_ad _ _) | exact HS.out _ HB6.out | exact HS.out _ (HB6.out.alloc HB6.out.size _) | exact HS.out _ HB8.out | exact HS9.out _ _ HB8.out h9t.out))
      clear hK K; (try simp only [Act.put, hA, h0, h1]); refine hT 13 (some 2) ?_; refine wpAnyH_done (by kernel_rfl) ?_ _
      (go_wp2; go_ret; exact ⟨rfl, h9⟩)
    · skip; go_simp
      ((go_at_call 55; first | ((with_reducible refine (HL4.out _ (below_ad _ _)).mono ?_); rintro e w6 ⟨A7, c7, rfl, h7⟩; have HB6 : Hid (Below W4.heap.size W4 w6) := kept ((below_ad W4 _).trans (h7.out.2.1.mono (below_ad W4 _).size)); have HOA := kept (((HOT.out W4 (Below.refl _ _)).below (Below.refl _ _).drew).below h7.out.2.1); have HSA := kept h7.out.1.reads) | ((with_reducible refine (HL4.out _ (Below.refl _ _).drew).mono ?_); rintro e w6 ⟨A7, c7, rfl, h7⟩; have HB6 : Hid (Below W4.heap.size W4 w6) := kept (below_from_drew h7.out.2.1); have HOB := kept (HOT.out w6 HB6.out); have HSB := kept (h7.out.1.reads.below ((Below.refl _ _).alloc (Nat.le_refl _) (.cells #[.int .i64 0, .slice A2 256 c2, .int .i64 1, .slice A3 256 c3] 116))))))
      (try go_wp2_with fail); refine hK.out _ _ ?_ (fun hHeld => ?_)
      · ((try dsimp only); (with_reducible first | exact HS.out _ (Below.refl _ _).drew | exact HS.out _ (below_ad _ _) | exact HS.out _ HB6.out | exact HS.out _ (HB6.out.alloc HB6.out.size _) | exact HS.out _ HB8.out | exact HS9.out _ _ HB8.out h9t.out))
      clear hK K; (try simp only [Act.put, hA, h0, h1]); refine hR 3 (fun K hK => ?_); go_simp; refine hK.out _ _ ?_ (fun hHeld => ?_)
      · ((try dsimp only); (with_reducible first | exact HS.out _ (Below.refl _ _).drew | exact HS.out _ (below_ad _ _) | exact HS.out _ HB6.out | exact HS.out _ (HB6.out.alloc HB6.out.size _) | exact HS.out _ HB8.out | exact HS9.out _ _ HB8.out h9t.out))
      clear hK K; (try simp only [Act.put, hA, h0, h1]); refine hR 11 (fun K hK => ?_)
      (first | (refine wp_append_sh (.tmp 42) (.tmp 49) rfl rfl rfl HOA.out HSA.out (by omega) ?_; intro A8 c8 w8 h8 t8 g8; have HB8 : Hid (Below W4.heap.size W4 w8) := kept (t8.only_new HB6.out HB6.out.size (fun i hi => by cases hi; exact Nat.le_refl _))) | (refine wp_append_sh (.tmp 42) (.tmp 49) rfl rfl rfl HOB.out HSB.out (by omega) ?_; intro A8 c8 w8 h8 t8 g8; have HB8 : Hid (Below W4.heap.size W4 w8) := kept (t8.only_new (HB6.out.alloc HB6.out.size _) (HB6.out.alloc HB6.out.size _).size (fun i hi => by cases hi; exact HB6.out.size)))); have H8 := kept h8; clear h8 t8 g8
      refine hK.out _ _ ?_ (fun hHeld => ?_)
      · ((try dsimp only); (with_reducible first | exact HS.out _ (Below.refl _ _).drew | exact HS.out _ (below_ad _ _) | exact HS.out _ HB6.out | exact HS.out _ (HB6.out.alloc HB6.out.size _) | exact HS.out _ HB8.out | exact HS9.out _ _ HB8.out h9t.out))
      clear hK K; (try simp only [Act.put, hA, h0, h1]); refine hR 12 (fun K hK => ?_); go_simp
      ((go_at_call 82; (with_reducible refine (HPU.out _ _ _ HB8.out H8.out).mono ?_); rintro e w9 ⟨rfl, h9, h9t⟩))
      (try go_wp2_with fail); refine hK.out _ _ ?_ (fun hHeld => ?_)
      · ((try dsimp only); (with_reducible first | exact HS.out _ (Below.refl _ _).drew | exact HS.out _ (below_ad _ _) | exact HS.out _ HB6.out | exact HS.out _ (HB6.out.alloc HB6.out.size _) | exact HS.out _ HB8.out | exact HS9.out _ _ HB8.out h9t.out))
      clear hK K; (try simp only [Act.put, hA, h0, h1]); refine hT 13 (some 2) ?_; refine wpAnyH_done (by kernel_rfl) ?_ _
      (go_wp2; go_ret; exact ⟨rfl, h9⟩)
theorem refDecode_dec (n : Nat) (A : Option Addr) (c : Nat) (ys : List UInt8) (w : World) (hr : Rd w A n ys) (hc : n ≤ c) :
 Calls Tryz.prog 94 #[.slice A n c] w (fun e w' => Decs w (decPg ys).1 (decPg ys).2 e w' ∧ ((decPg ys).1.kind = 4 → New4 w e)) := by
 have hy : ys.length = n := hr.1; have hz : ∀ (w : World) (er : Int) (e : Ending) (w' : World), e = .returned (.tuple #[zeroV, .int .i64 er]) ∧ Below w.heap.size w w' → Decs w zeroPg er e w' ∧ (zeroPg.kind = 4 → New4 w e) := fun w er e w' h => ⟨⟨zeroLay, h.1, kept (zero_rd w'), ⟨Nat.zero_le _, Nat.zero_le _⟩, h.2⟩, fun hk => absurd hk (by decide)⟩
 by_cases hn : n = 256
 · subst hn; have hl : ¬ ys.length ≠ 256 := by rw [hr.1]; simp
   by_cases hw : num (ys.take 4) 0 = csum (ys.drop 4)
   · by_cases hd : (rpage (ys.drop 4) (0, 0)).2.2 = 0 ∧ zeroB ((ys.drop 4).drop (rpage (ys.drop 4) (0, 0)).2.1) = true ∧ rightB (rpage (ys.drop 4) (0, 0)).1 = true
     · have e : decPg ys = ((rpage (ys.drop 4) (0, 0)).1, 0) := by unfold decPg; rw [if_neg hl, if_neg (by simpa using hw), if_pos hd]
       rw [e]; have hP : DecP (ys.drop 4) (rpage (ys.drop 4) (0, 0)).1 := ⟨rfl, hd.1, hd.2.1, hd.2.2⟩
       have hl2 : (ys.drop 4).length = 252 := by rw [List.length_drop, hy]
       obtain ⟨hb, hrp, t0, t1⟩ := body_is hl2 hP; generalize (rpage (ys.drop 4) (0, 0)).1 = P at hP hb hrp t0 t1 ⊢; have key : ∀ (e : Ending) (w' : World), DecAns w ys e w' → Decs w P 0 e w' := by
        rintro e w' ⟨hbl, h⟩; rw [hrp] at h; rcases h with ⟨_, l, he, hrd, h1, h2, h4⟩ | ⟨hno, _⟩
        · exact ⟨l, he, hrd, ⟨h1, h2⟩, hbl⟩
        · exact absurd ⟨hP.2.2.2, hb⟩ hno
       by_cases k4 : (rnum (ys.drop 4) 1 (0, 0)).1 = 4
       · exact (refDecode_ids A c ys w hr hc hw k4).mono fun e w' h => ⟨key e w' h.1, fun _ => h.2⟩
       · exact (refDecode_body A c ys w hr hc hw).mono fun e w' h => ⟨key e w' h, fun hk => absurd (show ((rnum (ys.drop 4) 1 (0, 0)).1 : Int) = 4 by rw [← hk, ← hrp]; rfl) (fun h => k4 (by exact_mod_cast h))⟩
     · have e : decPg ys = (zeroPg, 4) := by unfold decPg; rw [if_neg hl, if_neg (by simpa using hw), if_neg hd]
       rw [e]; have hd' : ∀ P, ¬ DecP (ys.drop 4) P := fun P hP => hd (by obtain ⟨rfl, h1, h2, h3⟩ := hP; exact ⟨h1, h2, h3⟩)
       refine (refDecode_body A c ys w hr hc hw).mono ?_; rintro e w' ⟨hbl, ⟨⟨h1, h2⟩, l, _, hrd, _⟩ | ⟨_, he⟩⟩
       · have h3 := body_reads h1 hrd.out.t0 hrd.out.t1; rw [h2] at h3; exact absurd h3 (hd' _)
       · exact hz w 4 e w' ⟨he, hbl⟩
   · have e : decPg ys = (zeroPg, 6) := by unfold decPg; rw [if_neg hl, if_pos hw]
     rw [e]; exact (refDecode_sum A c ys w hr hc hw).mono fun e w' h => hz w 6 e w' h
 · have e : decPg ys = (zeroPg, 4) := by unfold decPg; rw [if_pos (by rw [hr.1]; exact hn)]
   rw [e]; exact (refDecode_size A n c w hn).mono fun e w' h => hz w 4 e w' h
structure LayR where
 t : Nat
 nx : Int
 a : Option Addr
 n : Nat
 c : Nat
def kPg : Sort' LayR Pg where
 size := 7
 cells L := [.int .i64 4, .int .u64 (L.t : Int), .int .i64 L.nx, .slice none 0 0, .slice none 0 0, .slice none 0 0, .slice L.a L.n L.c]
 R w L x := x = spareP L.t L.nx x.ids ∧ RdI w L.a L.n x.ids ∧ (∀ g, blkOf L.a = some g → Cl w g 3)
 apart L g := blkOf L.a ≠ some g
 pos := by decide
 len _ := rfl
 one L u h := by
  simp only [List.mem_cons, List.not_mem_nil, or_false] at h; rcases h with rfl | rfl | rfl | rfl | rfl | rfl | rfl <;> rfl
 fresh h hg := fun e => by have := (h.2.2 _ e).lt; omega
 keep h ha hg := ⟨h.1, h.2.1.turned (Turned.of_grown hg (fun j hj => hj)) (fun g e h => ha (by rw [e]; exact h.symm)), fun g e => by
  have hc := h.2.2 g e; unfold Cl at hc ⊢; rw [hg.block g (h.2.2 g e).lt (fun e' => ha (by rw [e]; exact e'))]; exact hc⟩
theorem rneed_any (n : Nat) (w : World) (hn : n ≤ 100000) :
 Calls Tryz.prog 83 #[.int .i64 (n : Int)] w fun e w' => e = .returned (.int .i64 ((needN n : Nat) : Int)) ∧ w = w' := by
 go_enter Tryz.func83, Tryz.ntmps83; go_wp2; go_loop [3] (fun i => ∃ k : Nat, k ≤ needN n ∧ i = .int .i64 (k : Int)) (fun i => n - (intOf i).toNat)
 case atStart => exact ⟨0, Nat.zero_le _, rfl⟩
 case round =>
  obtain ⟨k, hk, rfl⟩ := hrel; have hk' : k ≤ (n + 59) / 60 := hk; by_cases hlt : k < (n + 59) / 60
  · have h1 : 59 * (k : Int) < (n : Int) - (k : Int) := by omega
    go_wp2; go_round
    case rel => exact ⟨k + 1, by unfold needN; omega, by go_num⟩
    case measure => simp [intOf]; omega
  · have h1 : ¬ 59 * (k : Int) < (n : Int) - (k : Int) := by omega
    have hkn : k = needN n := by unfold needN; omega
    go_wp2; go_ret; exact ⟨rfl, rfl⟩
def linkP (t : Nat) (C I : List Int) (k : Nat) : Pg := spareP t (headN (C.drop (k + 1))) ((I.drop (59 * k)).take 59)
def linksL (t : Nat) (C I : List Int) (k : Nat) : List Pg := (List.range k).map (linkP t C I)
theorem linksL_snoc (t : Nat) (C I : List Int) (k : Nat) : linksL t C I (k + 1) = linksL t C I k ++ [linkP t C I k] := by simp [linksL, List.range_succ]
theorem linksL_get (t : Nat) (C I : List Int) {n k : Nat} (h : k < (linksL t C I n).length) : (linksL t C I n)[k] = linkP t C I k := by simp [linksL]
theorem refPgInfo : (Tryz.prog.info? 197).map (fun i => (i.zero, i.size, i.bytes)) = some (some (.agg #[.int .i64 0, .int .u64 0, .int .i64 0, .slice none 0 0, .slice none 0 0, .slice none 0 0, .slice none 0 0]), 7, 120) := by kernel_rfl
theorem Ow.none_pg (w : World) (F : Nat → Prop) (hF : ∀ g, F g → g < w.heap.size) : Ow kPg (w.alloc (.cells #[] 197)) w.heap.size 197 F (some ⟨w.heap.size, 0, none⟩) 0 0 [] := by
 have h := World.ownsRow_made (base := w.heap.size) (e := 197) (size := 7) w #[] 0 (Nat.le_refl _) (Nat.zero_le _) rfl; refine ⟨[], rfl, rfl, (by show World.ownsRow _ _ _ 7 _ 0 []; simpa using h), fun k h => absurd h (by simp), fun g hg => ⟨fun L hL => absurd hL (by simp), fun hf => ?_⟩, fun g _ L hL => absurd hL (by simp)⟩; have := hF g hf; simp only [Value.ownBlock, Option.some.injEq] at hg; omega
theorem new_cells7 (w : World) (a b c d e f g : Value) (t : TypeId) : ∀ j u, [a, b, c, d, e, f, g][j]? = some u → (w.alloc (.cells #[a, b, c, d, e, f, g] t)).cell? ((⟨w.heap.size, 0, none⟩ : Addr).add j) = some u := fun j u hu => by
 have hb := Blk.new w t #[a, b, c, d, e, f, g]; rw [add_at, Nat.zero_add, hb.cell]; exact hu
structure LkI (wi : World) (txn : Nat) (nx : Int) (J : List Int) (q : Nat) (A : Option Addr) (c : Nat) (wr : World) : Prop where
 box : Blk wr wi.heap.size 197 [.int .i64 4, .int .u64 (txn : Int), .int .i64 nx, .slice none 0 0, .slice none 0 0, .slice none 0 0, .slice A q c]
 ids : OwI wr A q c (J.take q)
 new : ∀ g, blkOf A = some g → wi.heap.size ≤ g
 below : Below wi.heap.size wi wr
theorem LkI.start (wi : World) (txn : Nat) (x : Int) (J : List Int) : LkI wi txn x J 0 none 0 (wi.alloc (.cells #[.int .i64 4, .int .u64 (txn : Int), .int .i64 x, .slice none 0 0, .slice none 0 0, .slice none 0 0, .slice none 0 0] 197)) :=
 ⟨Blk.new wi 197 #[.int .i64 4, .int .u64 (txn : Int), .int .i64 x, .slice none 0 0, .slice none 0 0, .slice none 0 0, .slice none 0 0], OwI.nil_ _, fun g e => (by cases e), (Below.refl _ _).alloc (Nat.le_refl _) _⟩
theorem LkI.more {wi wr w7 : World} {txn : Nat} {nx : Int} {J : List Int} {q : Nat} {A A7 : Option Addr} {c c7 : Nat} {v : Int} (h : LkI wi txn nx J q A c wr) (hv : J.take (q + 1) = J.take q ++ [v]) {o : Obj} (h7 : OwI w7 A7 (q + 1) c7 (J.take q ++ [v])) (t : Turned (wr.alloc o).drew w7 (fun j => blkOf A = some j)) (hg : ∀ g, blkOf A7 = some g → blkOf A = some g ∨ (wr.alloc o).drew.heap.size ≤ g) :
 Blk w7 wi.heap.size 197 [.int .i64 4, .int .u64 (txn : Int), .int .i64 nx, .slice none 0 0, .slice none 0 0, .slice none 0 0, .slice A q c] ∧ Below wi.heap.size wi w7 ∧ LkI wi txn nx J (q + 1) A7 c7 (w7.setCell ⟨wi.heap.size, 6, none⟩ (.slice A7 (q + 1) c7)) := by
 have hb := below_ad wr o; have hB : Below wi.heap.size wi (wr.alloc o).drew := h.below.trans (hb.mono h.below.size); have hcl : ∀ g, blkOf A = some g → Cl wr g 3 := fun g e => h.ids.cl e
 have hk := (h.box.below hb h.box.lt)
 have hk7 := t.blk hk (fun hj => absurd ((hcl _ hj).uniq h.box.cl) (by decide)); have hB7 : Below wi.heap.size wi w7 := t.only_new hB hB.size (fun i hi => h.new i hi); refine ⟨hk7, hB7, ⟨hk7.set_ 6 (.slice A7 (q + 1) c7), ?_, fun g e => ?_, hB7.setCell (p := ⟨wi.heap.size, 6, none⟩) (Nat.le_refl _) _⟩⟩
 · rw [hv]; have t0 : Turned w7 (w7.setCell ⟨wi.heap.size, 6, none⟩ (.slice A7 (q + 1) c7)) (fun j => j = wi.heap.size) := (Turned.refl w7 (fun j => j = wi.heap.size)).setCell (T := fun j => j = wi.heap.size) (p := ⟨wi.heap.size, 6, none⟩) (fun _ => rfl) _; exact h7.turned t0 (fun g e hj => absurd ((hj ▸ h7.cl e).uniq hk7.cl) (by decide))
 · rcases hg g e with k | k
   · exact h.new g k
   · exact Nat.le_trans hB.size k
theorem rlinks_any (txn n c m d : Nat) (A B : Option Addr) (C I : List Int) (w : World) (hC : RdI w A n C) (hI : RdI w B m I) (hn : n ≤ 2000) (hm : m ≤ 2000) (ht : txn < 18446744073709551616) :
 Calls Tryz.prog 85 #[.slice A n c, .slice B m d, .int .u64 (txn : Int)] w fun e w' => ∃ A' c', e = .returned (.slice A' n c') ∧ Hid (Ow kPg w' w.heap.size 197 (fun _ => False) A' n c' (linksL txn C I n) ∧ Below w.heap.size w w') := by
 have HC := kept hC; have HI := kept hI; have H0 : Hid (Ow kPg (w.alloc (.cells #[] 197)) w.heap.size 197 (fun _ => False) (some ⟨w.heap.size, 0, none⟩) 0 0 (linksL txn C I 0) ∧ Below w.heap.size w (w.alloc (.cells #[] 197))) := kept ⟨Ow.none_pg w _ (fun g h => h.elim), (Below.refl _ _).alloc (Nat.le_refl _) _⟩; clear hC hI; go_enter Tryz.func85, Tryz.ntmps85; go_wp2; go_loopw [7, 14] (fun out i wr => ∃ (k : Nat) (A' : Option Addr) (c' : Nat), k ≤ n ∧ i = .int .i64 (k : Int) ∧ out = .slice A' k c' ∧ Hid (Ow kPg wr w.heap.size 197 (fun _ => False) A' k c' (linksL txn C I k) ∧ Below w.heap.size w wr)) (fun _ i _ => n - (intOf i).toNat)
 case atStart => exact ⟨0, _, 0, Nat.zero_le _, rfl, rfl, H0⟩
 case round =>
  obtain ⟨k, A', c', hk, rfl, rfl, HL⟩ := hrel; clear H0; by_cases hlt : k < n
  · obtain ⟨W1, hW1⟩ : ∃ W1, W1 = wr.alloc (.cells #[.int .i64 4, .int .u64 (txn : Int), .int .i64 0, .slice none 0 0, .slice none 0 0, .slice none 0 0, .slice none 0 0] 197) := ⟨_, rfl⟩
    have HW1 := kept hW1; obtain ⟨J, hJ⟩ : ∃ J, I.drop (59 * k) = J := ⟨_, rfl⟩
    have HK1 : Hid (LkI wr txn 0 J 0 none 0 W1) := kept (by rw [hW1]; exact LkI.start wr txn 0 J); have HIW : Hid (RdI wr B m I) := kept (HI.out.below HL.out.2); have HLK := kept (show linkP txn C I k = spareP txn (headN (C.drop (k + 1))) (J.take 59) by rw [← hJ]; rfl); have HJL : Hid (J.length = m - 59 * k) := kept (by rw [← hJ, List.length_drop, HI.out.1]); have HJG : Hid (∀ (q : Nat) (h : 59 * k + q < m) (h' : 59 * k + q < I.length), J.take (q + 1) = J.take q ++ [I[59 * k + q]]) := kept (fun q h h' => by
     rw [← hJ, List.take_succ_eq_append_getElem (by rw [List.length_drop, HI.out.1]; omega), List.getElem_drop])
    obtain ⟨s, hs⟩ : ∃ s : Nat, 59 * k = s := ⟨_, rfl⟩
    obtain ⟨t, hst⟩ : ∃ t : Nat, s + 59 = t := ⟨_, rfl⟩
    have hw0 : IntKind.i64.wrap (59 * (k : Int)) = (s : Int) := by rw [IntKind.wrap_i64]; omega
    have hw1 : IntKind.i64.wrap ((s : Int) + 59) = (t : Int) := by rw [IntKind.wrap_i64]; omega
    have hwn : IntKind.i64.wrap ((n : Int) - 1) = (n : Int) - 1 := by rw [IntKind.wrap_i64]; omega
    rw [hs] at HJL HJG; clear hJ hs; by_cases hlast : k + 1 < n
    · have hc0 : (k : Int) < (n : Int) - 1 := by omega
      obtain ⟨b, o, hA, hcell⟩ := (HC.out.below HL.out.2).at_ hlast; have hx0 : headN (C.drop (k + 1)) = C[k + 1]'(by rw [HC.out.1]; exact hlast) := by
       rw [List.drop_eq_getElem_cons (by rw [HC.out.1]; exact hlast)]; rfl
      generalize C[k + 1]'(by rw [HC.out.1]; exact hlast) = x at hcell hx0; have HX0 := kept hx0; have hcell1 : (wr.alloc (.cells #[.int .i64 4, .int .u64 (txn : Int), .int .i64 0, .slice none 0 0, .slice none 0 0, .slice none 0 0, .slice none 0 0] 197)).cell? ⟨b, o + (k + 1), none⟩ = some (.int .i64 x) := by
       exact (((Below.refl wr.heap.size wr).alloc (Nat.le_refl _) _).cell (p := ⟨b, o + (k + 1), none⟩) (World.block_lt_of_cell? wr _ hcell)).trans hcell
      have hwk : IntKind.i64.wrap ((k : Int) + 1) = ((k + 1 : Nat) : Int) := by rw [IntKind.wrap_i64]; omega
      have hkn1 : ((k + 1 : Nat) : Int) < (n : Int) := by omega
      have HK2 : Hid (LkI wr txn x J 0 none 0 (wr.alloc (.cells #[.int .i64 4, .int .u64 (txn : Int), .int .i64 x, .slice none 0 0, .slice none 0 0, .slice none 0 0, .slice none 0 0] 197))) := kept (LkI.start wr txn x J); have hfz : (wr.alloc (.cells #[.int .i64 4, .int .u64 (txn : Int), .int .i64 0, .slice none 0 0, .slice none 0 0, .slice none 0 0, .slice none 0 0] 197)).frozen? ⟨wr.heap.size, 2, none⟩ = false := hW1 ▸ HK1.out.box.frozen 2; have hold2 : (wr.alloc (.cells #[.int .i64 4, .int .u64 (txn : Int), .int .i64 0, .slice none 0 0, .slice none 0 0, .slice none 0 0, .slice none 0 0] 197)).cell? ⟨wr.heap.size, 2, none⟩ = some (.int .i64 0) := hW1 ▸ HK1.out.box.cell 2; subst hA; clear hcell hx0 hW1; go_wp2; clear hcell1 hfz hold2; go_loopw [10] (fun j wx => ∃ (p q : Nat) (A4 : Option Addr) (c4 : Nat), j = .int .i64 (p : Int) ∧ p = s + q ∧ q ≤ 59 ∧ (q = 0 ∨ p ≤ m) ∧ Hid (LkI wr txn x J q A4 c4 wx)) (fun j _ => t - (intOf j).toNat)
      case atStart => exact ⟨s, 0, none, 0, rfl, rfl, Nat.zero_le _, .inl rfl, HK2⟩
      case round =>
       obtain ⟨p, q, A4, c4, rfl, hp, hq, hqm, HX⟩ := hrel
       rename World => wx
       have HP := kept hp; by_cases hin : p < t ∧ p < m
       · obtain ⟨h1, h2⟩ := hin; obtain ⟨bi, oi, hB, hci⟩ := HIW.out.at_ h2; have hvt : J.take (q + 1) = J.take q ++ [I[p]'(by rw [HIW.out.1]; exact h2)] := by
          subst hp; exact HJG.out q (by omega) (by rw [HIW.out.1]; omega)
         generalize I[p]'(by rw [HIW.out.1]; exact h2) = v at hci hvt; have HVT := kept hvt; have HXI : Hid (∀ W : World, Below wr.heap.size wr W → W.cell? ⟨bi, oi + p, none⟩ = some (.int .i64 v)) := kept (fun W hb => (hb.cell (p := ⟨bi, oi + p, none⟩) (World.block_lt_of_cell? wr _ hci)).trans hci); have HIO : Hid (∀ o, OwI (wx.alloc o).drew A4 q c4 (J.take q)) := kept (fun o => HX.out.ids.below (below_ad wx o)); have p6 : wx.drew.cell? ⟨wr.heap.size, 6, none⟩ = some (.slice A4 q c4) := HX.out.box.cell 6; have p6' : (wx.alloc (.cells #[.int .i64 v] 3)).cell? ⟨wr.heap.size, 6, none⟩ = some (.slice A4 q c4) := (HX.out.box.below ((Below.refl _ wx).alloc (Nat.le_refl _) _) HX.out.box.lt).cell 6; have p6'' : wx.cell? ⟨wr.heap.size, 6, none⟩ = some (.slice A4 q c4) := HX.out.box.cell 6; have HBD : Hid (Below wr.heap.size wr wx.drew) := kept HX.out.below.drew; have HBA : Hid (Below wr.heap.size wr (wx.alloc (.cells #[.int .i64 v] 3)).drew) := kept (HX.out.below.alloc HX.out.below.size _).drew; have HRI : Hid (RdI (wx.alloc (.cells #[.int .i64 v] 3)).drew (some ⟨wx.heap.size, 0, none⟩) 1 [v]) := kept ((RdI.oneI wx v).below (Below.refl _ _).drew); have hcd := HXI.out _ HBD.out; have hg1 : (p : Int) < (t : Int) := by omega
         have hg2 : (p : Int) < (m : Int) := by omega
         have hq1 : decide ((p : Int) < (t : Int)) = true := by simp; omega
         have hq2 : decide ((p : Int) < (m : Int)) = true := by simp; omega
         have hq6 : q + 1 ≤ 1000000 := by omega
         subst hB; clear hci hvt hp; go_upto_region 11 with fail
         refine wp_region_held_drew (S := (fun W' => W'.cell? ⟨bi, oi + p, none⟩ = some (.int .i64 v))) (by kernel_rfl) ?_ (fun hHeld => ?_)
         · ((try dsimp only); (with_reducible first | exact HXI.out _ HBD.out | exact HXI.out _ HBA.out | exact HXI.out _ HB7.out | exact HXI.out _ HE7.out.below))
         refine hT 0 (some 45) ?_; refine hT 2 (some 47) ?_; refine hT 3 (some 48) ?_; refine hT 4 (some 49) ?_; refine hT 5 (some 50) ?_; refine hV 1 6 (fun K hK => ?_) (fun K hK => ?_)
         · skip; go_simp; refine hK.out _ _ ?_ (fun hHeld => ?_)
           · ((try dsimp only); (with_reducible first | exact HXI.out _ HBD.out | exact HXI.out _ HBA.out | exact HXI.out _ HB7.out | exact HXI.out _ HE7.out.below))
           clear hK K; (try simp only [Act.put, hA, h0, h1]); refine hR 6 (fun K hK => ?_); go_simp; refine hK.out _ _ ?_ (fun hHeld => ?_)
           · ((try dsimp only); (with_reducible first | exact HXI.out _ HBD.out | exact HXI.out _ HBA.out | exact HXI.out _ HB7.out | exact HXI.out _ HE7.out.below))
           clear hK K; (try simp only [Act.put, hA, h0, h1]); refine hR 7 (fun K hK => ?_)
           (refine wp_append_i (.tmp 46) (.tmp 51) rfl rfl rfl (HIO.out _) HRI.out hq6 ?_; intro A7 c7 w7 h7 t7 g7; obtain ⟨hk7, hb7, he7⟩ := HX.out.more HVT.out h7 t7 g7; have HB7 := kept hb7; have HE7 := kept he7; have e6 : w7.cell? ⟨wr.heap.size, 6, none⟩ = some (.slice A4 q c4) := hk7.cell 6; have f6 := hk7.frozen 6; clear h7 t7 g7 hk7 hb7 he7)
           refine hK.out _ _ ?_ (fun hHeld => ?_)
           · ((try dsimp only); (with_reducible first | exact HXI.out _ HBD.out | exact HXI.out _ HBA.out | exact HXI.out _ HB7.out | exact HXI.out _ HE7.out.below))
           clear hK K; (try simp only [Act.put, hA, h0, h1]); refine hT 8 (some 53) ?_; refine hR 9 (fun K hK => ?_); go_simp; refine hK.out _ _ ?_ (fun hHeld => ?_)
           · ((try dsimp only); (with_reducible first | exact HXI.out _ HBD.out | exact HXI.out _ HBA.out | exact HXI.out _ HB7.out | exact HXI.out _ HE7.out.below))
           clear hK K; (try simp only [Act.put, hA, h0, h1]); refine wpAnyH_done (by kernel_rfl) ?_ _
           (go_wp2; go_roundw; (case rel => exact ⟨p + 1, q + 1, A7, c7, by go_num, by have := HP.out; omega, by have := HP.out; omega, .inr (by omega), HE7⟩); (case measure => simp [intOf]; omega))
         · skip; go_simp; refine hK.out _ _ ?_ (fun hHeld => ?_)
           · ((try dsimp only); (with_reducible first | exact HXI.out _ HBD.out | exact HXI.out _ HBA.out | exact HXI.out _ HB7.out | exact HXI.out _ HE7.out.below))
           clear hK K; (try simp only [Act.put, hA, h0, h1]); refine hR 1 (fun K hK => ?_); go_simp; refine hK.out _ _ ?_ (fun hHeld => ?_)
           · ((try dsimp only); (with_reducible first | exact HXI.out _ HBD.out | exact HXI.out _ HBA.out | exact HXI.out _ HB7.out | exact HXI.out _ HE7.out.below))
           clear hK K; (try simp only [Act.put, hA, h0, h1]); refine hR 7 (fun K hK => ?_)
           (refine wp_append_i (.tmp 46) (.tmp 51) rfl rfl rfl (HIO.out _) HRI.out hq6 ?_; intro A7 c7 w7 h7 t7 g7; obtain ⟨hk7, hb7, he7⟩ := HX.out.more HVT.out h7 t7 g7; have HB7 := kept hb7; have HE7 := kept he7; have e6 : w7.cell? ⟨wr.heap.size, 6, none⟩ = some (.slice A4 q c4) := hk7.cell 6; have f6 := hk7.frozen 6; clear h7 t7 g7 hk7 hb7 he7)
           refine hK.out _ _ ?_ (fun hHeld => ?_)
           · ((try dsimp only); (with_reducible first | exact HXI.out _ HBD.out | exact HXI.out _ HBA.out | exact HXI.out _ HB7.out | exact HXI.out _ HE7.out.below))
           clear hK K; (try simp only [Act.put, hA, h0, h1]); refine hT 8 (some 53) ?_; refine hR 9 (fun K hK => ?_); go_simp; refine hK.out _ _ ?_ (fun hHeld => ?_)
           · ((try dsimp only); (with_reducible first | exact HXI.out _ HBD.out | exact HXI.out _ HBA.out | exact HXI.out _ HB7.out | exact HXI.out _ HE7.out.below))
           clear hK K; (try simp only [Act.put, hA, h0, h1]); refine wpAnyH_done (by kernel_rfl) ?_ _
           (go_wp2; go_roundw; (case rel => exact ⟨p + 1, q + 1, A7, c7, by go_num, by have := HP.out; omega, by have := HP.out; omega, .inr (by omega), HE7⟩); (case measure => simp [intOf]; omega))
       · have HFQ : Hid (J.take q = J.take 59) := kept (by
          have hjl := HJL.out; by_cases h59 : q = 59
          · rw [h59]
          · rw [List.take_of_length_le (by omega), List.take_of_length_le (by omega)])
         have hqq : ((p : Int) < (t : Int) && decide ((p : Int) < (m : Int))) = false := by
          simp; omega
         have HOW : Hid (∀ o, Ow kPg (wx.alloc o) w.heap.size 197 (fun _ => False) A' k c' (linksL txn C I k)) := kept (fun o => (HL.out.1.below HX.out.below).below ((Below.refl _ wx).alloc (Nat.le_refl _) o)); have HKR : Hid (∀ o, kPg.R (wx.alloc o) ⟨txn, x, A4, q, c4⟩ (linkP txn C I k)) := kept (fun o => by
          have hi : OwI (wx.alloc o) A4 q c4 (J.take q) := HX.out.ids.below ((Below.refl _ wx).alloc (Nat.le_refl _) o); refine ⟨?_, ?_, fun g e => hi.cl e⟩
          · rw [HLK.out, HX0.out]
          · rw [HLK.out]; show RdI _ A4 q (J.take 59); rw [← HFQ.out]; exact hi.reads)
         have HAP : Hid (∀ g, (Value.slice A' k c').ownBlock = some g → kPg.apart ⟨txn, x, A4, q, c4⟩ g) := kept (fun g hg e => by
          have h1 := (HL.out.1.lt hg).2; have h2 := HX.out.new g e
          omega)
         have z0 : wx.cell? ⟨wr.heap.size, 0, none⟩ = some (.int .i64 4) := HX.out.box.cell 0; have z1 : wx.cell? ⟨wr.heap.size, 1, none⟩ = some (.int .u64 (txn : Int)) := HX.out.box.cell 1; have z2 : wx.cell? ⟨wr.heap.size, 2, none⟩ = some (.int .i64 x) := HX.out.box.cell 2; have z3 : wx.cell? ⟨wr.heap.size, 3, none⟩ = some (.slice none 0 0) := HX.out.box.cell 3; have z4 : wx.cell? ⟨wr.heap.size, 4, none⟩ = some (.slice none 0 0) := HX.out.box.cell 4; have z5 : wx.cell? ⟨wr.heap.size, 5, none⟩ = some (.slice none 0 0) := HX.out.box.cell 5; have z6 : wx.cell? ⟨wr.heap.size, 6, none⟩ = some (.slice A4 q c4) := HX.out.box.cell 6; have hbase : w.heap.size ≤ wx.heap.size := Nat.le_trans HL.out.2.size HX.out.below.size; have HBX := kept (HL.out.2.trans (HX.out.below.mono HL.out.2.size)); have hd1 : decide ((p : Int) < (t : Int)) = decide (p < t) := by simp
         have HHP := kept (And.intro hin hqm); clear hqq hd1 hqm; by_cases hpt : p < t
         · have hq1 : decide ((p : Int) < (t : Int)) = true := by simp; omega
           have hq2 : decide ((p : Int) < (m : Int)) = false := by simp; omega
           have hg1 : (p : Int) < (t : Int) := by omega
           have hg2 : ¬ (p : Int) < (m : Int) := by omega
           clear hp hin; go_wp2_with (first | (at_builtin; refine wpList_append_ow (K := kPg) (F := fun _ => False) rfl (.tmp 54) (.tmp 56) 192 rfl Tryz.underlying192 refPgInfo rfl rfl (HOW.out _) ⟨wx.heap.size, 0, none⟩ 1 ⟨txn, x, A4, q, c4⟩ (linkP txn C I k) rfl (fun j u hu => new_cells7 wx _ _ _ _ _ _ _ 197 j u hu) (HKR.out _) HAP.out (fun g h => h.elim) (fun g h => h.elim) (by unfold maxLen; omega) (by omega) (by simp; omega) ?_; intro A9 c9 w9 h9 hb9 _; have HE9 : Hid (Ow kPg w9 w.heap.size 197 (fun _ => False) A9 (k + 1) c9 (linksL txn C I (k + 1)) ∧ Below w.heap.size w w9) := kept ⟨by rw [linksL_snoc]; exact h9, (HBX.out.alloc HBX.out.size _).trans hb9⟩; clear h9 hb9))
           go_roundw
           case rel => exact ⟨k + 1, A9, c9, by omega, by go_num, rfl, HE9⟩
           case measure => simp [intOf]; omega
         · have hq1 : decide ((p : Int) < (t : Int)) = false := by simp; omega
           have hg1 : ¬ (p : Int) < (t : Int) := by omega
           clear hp hin; go_wp2_with (first | (at_builtin; refine wpList_append_ow (K := kPg) (F := fun _ => False) rfl (.tmp 54) (.tmp 56) 192 rfl Tryz.underlying192 refPgInfo rfl rfl (HOW.out _) ⟨wx.heap.size, 0, none⟩ 1 ⟨txn, x, A4, q, c4⟩ (linkP txn C I k) rfl (fun j u hu => new_cells7 wx _ _ _ _ _ _ _ 197 j u hu) (HKR.out _) HAP.out (fun g h => h.elim) (fun g h => h.elim) (by unfold maxLen; omega) (by omega) (by simp; omega) ?_; intro A9 c9 w9 h9 hb9 _; have HE9 : Hid (Ow kPg w9 w.heap.size 197 (fun _ => False) A9 (k + 1) c9 (linksL txn C I (k + 1)) ∧ Below w.heap.size w w9) := kept ⟨by rw [linksL_snoc]; exact h9, (HBX.out.alloc HBX.out.size _).trans hb9⟩; clear h9 hb9))
           go_roundw
           case rel => exact ⟨k + 1, A9, c9, by omega, by go_num, rfl, HE9⟩
           case measure => simp [intOf]; omega
    · have hc0 : ¬ (k : Int) < (n : Int) - 1 := by omega
      have hx0 : headN (C.drop (k + 1)) = 0 := by
       rw [List.drop_of_length_le (by rw [HC.out.1]; omega)]; rfl
      have HX0 := kept hx0; have HK2 := HK1; clear hx0; go_wp2; rw [← HW1.out]; clear hW1; go_loopw [10] (fun j wx => ∃ (p q : Nat) (A4 : Option Addr) (c4 : Nat), j = .int .i64 (p : Int) ∧ p = s + q ∧ q ≤ 59 ∧ (q = 0 ∨ p ≤ m) ∧ Hid (LkI wr txn 0 J q A4 c4 wx)) (fun j _ => t - (intOf j).toNat)
      case atStart => exact ⟨s, 0, none, 0, rfl, rfl, Nat.zero_le _, .inl rfl, HK2⟩
      case round =>
       obtain ⟨p, q, A4, c4, rfl, hp, hq, hqm, HX⟩ := hrel
       rename World => wx
       have HP := kept hp; by_cases hin : p < t ∧ p < m
       · obtain ⟨h1, h2⟩ := hin; obtain ⟨bi, oi, hB, hci⟩ := HIW.out.at_ h2; have hvt : J.take (q + 1) = J.take q ++ [I[p]'(by rw [HIW.out.1]; exact h2)] := by
          subst hp; exact HJG.out q (by omega) (by rw [HIW.out.1]; omega)
         generalize I[p]'(by rw [HIW.out.1]; exact h2) = v at hci hvt; have HVT := kept hvt; have HXI : Hid (∀ W : World, Below wr.heap.size wr W → W.cell? ⟨bi, oi + p, none⟩ = some (.int .i64 v)) := kept (fun W hb => (hb.cell (p := ⟨bi, oi + p, none⟩) (World.block_lt_of_cell? wr _ hci)).trans hci); have HIO : Hid (∀ o, OwI (wx.alloc o).drew A4 q c4 (J.take q)) := kept (fun o => HX.out.ids.below (below_ad wx o)); have p6 : wx.drew.cell? ⟨wr.heap.size, 6, none⟩ = some (.slice A4 q c4) := HX.out.box.cell 6; have p6' : (wx.alloc (.cells #[.int .i64 v] 3)).cell? ⟨wr.heap.size, 6, none⟩ = some (.slice A4 q c4) := (HX.out.box.below ((Below.refl _ wx).alloc (Nat.le_refl _) _) HX.out.box.lt).cell 6; have p6'' : wx.cell? ⟨wr.heap.size, 6, none⟩ = some (.slice A4 q c4) := HX.out.box.cell 6; have HBD : Hid (Below wr.heap.size wr wx.drew) := kept HX.out.below.drew; have HBA : Hid (Below wr.heap.size wr (wx.alloc (.cells #[.int .i64 v] 3)).drew) := kept (HX.out.below.alloc HX.out.below.size _).drew; have HRI : Hid (RdI (wx.alloc (.cells #[.int .i64 v] 3)).drew (some ⟨wx.heap.size, 0, none⟩) 1 [v]) := kept ((RdI.oneI wx v).below (Below.refl _ _).drew); have hcd := HXI.out _ HBD.out; have hg1 : (p : Int) < (t : Int) := by omega
         have hg2 : (p : Int) < (m : Int) := by omega
         have hq1 : decide ((p : Int) < (t : Int)) = true := by simp; omega
         have hq2 : decide ((p : Int) < (m : Int)) = true := by simp; omega
         have hq6 : q + 1 ≤ 1000000 := by omega
         subst hB; clear hci hvt hp; go_upto_region 11 with fail
         refine wp_region_held_drew (S := (fun W' => W'.cell? ⟨bi, oi + p, none⟩ = some (.int .i64 v))) (by kernel_rfl) ?_ (fun hHeld => ?_)
         · ((try dsimp only); (with_reducible first | exact HXI.out _ HBD.out | exact HXI.out _ HBA.out | exact HXI.out _ HB7.out | exact HXI.out _ HE7.out.below))
         refine hT 0 (some 45) ?_; refine hT 2 (some 47) ?_; refine hT 3 (some 48) ?_; refine hT 4 (some 49) ?_; refine hT 5 (some 50) ?_; refine hV 1 6 (fun K hK => ?_) (fun K hK => ?_)
         · skip; go_simp; refine hK.out _ _ ?_ (fun hHeld => ?_)
           · ((try dsimp only); (with_reducible first | exact HXI.out _ HBD.out | exact HXI.out _ HBA.out | exact HXI.out _ HB7.out | exact HXI.out _ HE7.out.below))
           clear hK K; (try simp only [Act.put, hA, h0, h1]); refine hR 6 (fun K hK => ?_); go_simp; refine hK.out _ _ ?_ (fun hHeld => ?_)
           · ((try dsimp only); (with_reducible first | exact HXI.out _ HBD.out | exact HXI.out _ HBA.out | exact HXI.out _ HB7.out | exact HXI.out _ HE7.out.below))
           clear hK K; (try simp only [Act.put, hA, h0, h1]); refine hR 7 (fun K hK => ?_)
           (refine wp_append_i (.tmp 46) (.tmp 51) rfl rfl rfl (HIO.out _) HRI.out hq6 ?_; intro A7 c7 w7 h7 t7 g7; obtain ⟨hk7, hb7, he7⟩ := HX.out.more HVT.out h7 t7 g7; have HB7 := kept hb7; have HE7 := kept he7; have e6 : w7.cell? ⟨wr.heap.size, 6, none⟩ = some (.slice A4 q c4) := hk7.cell 6; have f6 := hk7.frozen 6; clear h7 t7 g7 hk7 hb7 he7)
           refine hK.out _ _ ?_ (fun hHeld => ?_)
           · ((try dsimp only); (with_reducible first | exact HXI.out _ HBD.out | exact HXI.out _ HBA.out | exact HXI.out _ HB7.out | exact HXI.out _ HE7.out.below))
           clear hK K; (try simp only [Act.put, hA, h0, h1]); refine hT 8 (some 53) ?_; refine hR 9 (fun K hK => ?_); go_simp; refine hK.out _ _ ?_ (fun hHeld => ?_)
           · ((try dsimp only); (with_reducible first | exact HXI.out _ HBD.out | exact HXI.out _ HBA.out | exact HXI.out _ HB7.out | exact HXI.out _ HE7.out.below))
           clear hK K; (try simp only [Act.put, hA, h0, h1]); refine wpAnyH_done (by kernel_rfl) ?_ _
           (go_wp2; go_roundw; (case rel => exact ⟨p + 1, q + 1, A7, c7, by go_num, by have := HP.out; omega, by have := HP.out; omega, .inr (by omega), HE7⟩); (case measure => simp [intOf]; omega))
         · skip; go_simp; refine hK.out _ _ ?_ (fun hHeld => ?_)
           · ((try dsimp only); (with_reducible first | exact HXI.out _ HBD.out | exact HXI.out _ HBA.out | exact HXI.out _ HB7.out | exact HXI.out _ HE7.out.below))
           clear hK K; (try simp only [Act.put, hA, h0, h1]); refine hR 1 (fun K hK => ?_); go_simp; refine hK.out _ _ ?_ (fun hHeld => ?_)
           · ((try dsimp only); (with_reducible first | exact HXI.out _ HBD.out | exact HXI.out _ HBA.out | exact HXI.out _ HB7.out | exact HXI.out _ HE7.out.below))
           clear hK K; (try simp only [Act.put, hA, h0, h1]); refine hR 7 (fun K hK => ?_)
           (refine wp_append_i (.tmp 46) (.tmp 51) rfl rfl rfl (HIO.out _) HRI.out hq6 ?_; intro A7 c7 w7 h7 t7 g7; obtain ⟨hk7, hb7, he7⟩ := HX.out.more HVT.out h7 t7 g7; have HB7 := kept hb7; have HE7 := kept he7; have e6 : w7.cell? ⟨wr.heap.size, 6, none⟩ = some (.slice A4 q c4) := hk7.cell 6; have f6 := hk7.frozen 6; clear h7 t7 g7 hk7 hb7 he7)
           refine hK.out _ _ ?_ (fun hHeld => ?_)
           · ((try dsimp only); (with_reducible first | exact HXI.out _ HBD.out | exact HXI.out _ HBA.out | exact HXI.out _ HB7.out | exact HXI.out _ HE7.out.below))
           clear hK K; (try simp only [Act.put, hA, h0, h1]); refine hT 8 (some 53) ?_; refine hR 9 (fun K hK => ?_); go_simp; refine hK.out _ _ ?_ (fun hHeld => ?_)
           · ((try dsimp only); (with_reducible first | exact HXI.out _ HBD.out | exact HXI.out _ HBA.out | exact HXI.out _ HB7.out | exact HXI.out _ HE7.out.below))
           clear hK K; (try simp only [Act.put, hA, h0, h1]); refine wpAnyH_done (by kernel_rfl) ?_ _
           (go_wp2; go_roundw; (case rel => exact ⟨p + 1, q + 1, A7, c7, by go_num, by have := HP.out; omega, by have := HP.out; omega, .inr (by omega), HE7⟩); (case measure => simp [intOf]; omega))
       · have HFQ : Hid (J.take q = J.take 59) := kept (by
          have hjl := HJL.out; by_cases h59 : q = 59
          · rw [h59]
          · rw [List.take_of_length_le (by omega), List.take_of_length_le (by omega)])
         have hqq : ((p : Int) < (t : Int) && decide ((p : Int) < (m : Int))) = false := by
          simp; omega
         have HOW : Hid (∀ o, Ow kPg (wx.alloc o) w.heap.size 197 (fun _ => False) A' k c' (linksL txn C I k)) := kept (fun o => (HL.out.1.below HX.out.below).below ((Below.refl _ wx).alloc (Nat.le_refl _) o)); have HKR : Hid (∀ o, kPg.R (wx.alloc o) ⟨txn, 0, A4, q, c4⟩ (linkP txn C I k)) := kept (fun o => by
          have hi : OwI (wx.alloc o) A4 q c4 (J.take q) := HX.out.ids.below ((Below.refl _ wx).alloc (Nat.le_refl _) o); refine ⟨?_, ?_, fun g e => hi.cl e⟩
          · rw [HLK.out, HX0.out]
          · rw [HLK.out]; show RdI _ A4 q (J.take 59); rw [← HFQ.out]; exact hi.reads)
         have HAP : Hid (∀ g, (Value.slice A' k c').ownBlock = some g → kPg.apart ⟨txn, 0, A4, q, c4⟩ g) := kept (fun g hg e => by
          have h1 := (HL.out.1.lt hg).2; have h2 := HX.out.new g e
          omega)
         have z0 : wx.cell? ⟨wr.heap.size, 0, none⟩ = some (.int .i64 4) := HX.out.box.cell 0; have z1 : wx.cell? ⟨wr.heap.size, 1, none⟩ = some (.int .u64 (txn : Int)) := HX.out.box.cell 1; have z2 : wx.cell? ⟨wr.heap.size, 2, none⟩ = some (.int .i64 0) := HX.out.box.cell 2; have z3 : wx.cell? ⟨wr.heap.size, 3, none⟩ = some (.slice none 0 0) := HX.out.box.cell 3; have z4 : wx.cell? ⟨wr.heap.size, 4, none⟩ = some (.slice none 0 0) := HX.out.box.cell 4; have z5 : wx.cell? ⟨wr.heap.size, 5, none⟩ = some (.slice none 0 0) := HX.out.box.cell 5; have z6 : wx.cell? ⟨wr.heap.size, 6, none⟩ = some (.slice A4 q c4) := HX.out.box.cell 6; have hbase : w.heap.size ≤ wx.heap.size := Nat.le_trans HL.out.2.size HX.out.below.size; have HBX := kept (HL.out.2.trans (HX.out.below.mono HL.out.2.size)); have hd1 : decide ((p : Int) < (t : Int)) = decide (p < t) := by simp
         have HHP := kept (And.intro hin hqm); clear hqq hd1 hqm; by_cases hpt : p < t
         · have hq1 : decide ((p : Int) < (t : Int)) = true := by simp; omega
           have hq2 : decide ((p : Int) < (m : Int)) = false := by simp; omega
           have hg1 : (p : Int) < (t : Int) := by omega
           have hg2 : ¬ (p : Int) < (m : Int) := by omega
           clear hp hin; go_wp2_with (first | (at_builtin; refine wpList_append_ow (K := kPg) (F := fun _ => False) rfl (.tmp 54) (.tmp 56) 192 rfl Tryz.underlying192 refPgInfo rfl rfl (HOW.out _) ⟨wx.heap.size, 0, none⟩ 1 ⟨txn, 0, A4, q, c4⟩ (linkP txn C I k) rfl (fun j u hu => new_cells7 wx _ _ _ _ _ _ _ 197 j u hu) (HKR.out _) HAP.out (fun g h => h.elim) (fun g h => h.elim) (by unfold maxLen; omega) (by omega) (by simp; omega) ?_; intro A9 c9 w9 h9 hb9 _; have HE9 : Hid (Ow kPg w9 w.heap.size 197 (fun _ => False) A9 (k + 1) c9 (linksL txn C I (k + 1)) ∧ Below w.heap.size w w9) := kept ⟨by rw [linksL_snoc]; exact h9, (HBX.out.alloc HBX.out.size _).trans hb9⟩; clear h9 hb9))
           go_roundw
           case rel => exact ⟨k + 1, A9, c9, by omega, by go_num, rfl, HE9⟩
           case measure => simp [intOf]; omega
         · have hq1 : decide ((p : Int) < (t : Int)) = false := by simp; omega
           have hg1 : ¬ (p : Int) < (t : Int) := by omega
           clear hp hin; go_wp2_with (first | (at_builtin; refine wpList_append_ow (K := kPg) (F := fun _ => False) rfl (.tmp 54) (.tmp 56) 192 rfl Tryz.underlying192 refPgInfo rfl rfl (HOW.out _) ⟨wx.heap.size, 0, none⟩ 1 ⟨txn, 0, A4, q, c4⟩ (linkP txn C I k) rfl (fun j u hu => new_cells7 wx _ _ _ _ _ _ _ 197 j u hu) (HKR.out _) HAP.out (fun g h => h.elim) (fun g h => h.elim) (by unfold maxLen; omega) (by omega) (by simp; omega) ?_; intro A9 c9 w9 h9 hb9 _; have HE9 : Hid (Ow kPg w9 w.heap.size 197 (fun _ => False) A9 (k + 1) c9 (linksL txn C I (k + 1)) ∧ Below w.heap.size w w9) := kept ⟨by rw [linksL_snoc]; exact h9, (HBX.out.alloc HBX.out.size _).trans hb9⟩; clear h9 hb9))
           go_roundw
           case rel => exact ⟨k + 1, A9, c9, by omega, by go_num, rfl, HE9⟩
           case measure => simp [intOf]; omega
  · obtain rfl : k = n := by omega
    go_wp2; go_ret; exact ⟨A', c', rfl, HL⟩
def commitL (P : PSt) : List Sheet := adSh P.add ++ layC (P.M.txn + 1) (settleC P) (settleL P).S
def commitR (P : PSt) (S : St) : St × Int := storeS S (commitL P) ((((P.M.txn + 1) % 2 : Nat) : Int), sealed (bodyM (nextM P)))
def CLeft (w w' : World) (p : Pgl) (P : PSt) (R : St × Int) : Prop := Dsk w' p.d R.1 ∧ Turned w w' p.all ∧ (R.2 = 0 → PLeft w w' p (nextP P) R.1)
theorem Beside.below_ {a w w' : World} {r : Nat} {s : FSt} {A : Option Addr} {n c : Nat} {Z : List Int} (h : Beside a w r s A n c Z) (hb : Below w.heap.size w w') : Beside a w' r s A n c Z := by
 obtain ⟨f, rfl, hl, hn, ha⟩ := h.lst; exact ⟨h.own.below hb, h.new, ⟨f, rfl, hl.below hb, hn, ha⟩, h.below.trans (hb.mono h.below.size)⟩
theorem Beside.spare_ {a w : World} {r : Nat} {s : FSt} {A : Option Addr} {n c : Nat} {Z : List Int} (h : Beside a w r s A n c Z) : Calls Tryz.prog 56 #[.pointer (some ⟨r, 0, none⟩)] w fun e w' => ∃ A' c', e = .returned (.slice A' s.S.length c') ∧ Hid (Says w w' s.S A' c') := by
 obtain ⟨f, rfl, hl, hk⟩ := h.step; exact spare_any f s w hl
theorem SaySh.on {a w w' : World} {A : Option Addr} {n c : Nat} {l : List Sheet} (h : SaySh a w A n c l) (hb : Below w.heap.size w w') : SaySh a w' A n c l := ⟨h.1.below hb, h.2.1.trans (hb.mono h.2.1.size), h.2.2⟩
theorem tryWrite_len (S : St) (p : Int) (xs : List UInt8) : (S.tryWrite p xs).pages.length = S.pages.length := by
 unfold St.tryWrite
 repeat' split
 all_goals rfl
theorem trySync_len (S : St) : S.trySync.pages.length = S.pages.length := by
 unfold St.trySync
 split
 · rfl
 · exact sync_len S
theorem putS_len : ∀ (l : List Sheet) (S : St), (putS S l).1.pages.length = S.pages.length
 | [], S => trySync_len S
 | x :: r, S => by
   unfold putS
   split
   · rw [putS_len r, tryWrite_len]
   · rfl
theorem storeS_len (S : St) (l : List Sheet) (t : Sheet) : (storeS S l t).1.pages.length = S.pages.length := by
 unfold storeS
 split
 · rw [putS_len, putS_len]
 · exact putS_len l S
structure Com (w : World) (b1 b3 q : Nat) (root hdn size i : Int) (A3 : Option Addr) (c3 : Nat) (xs : List UInt8) (r1 : Nat) (L : FSt) (A1 : Option Addr) (K c1 : Nat) (C : List Int) (W : World) : Prop where
 m : Blk W b1 109 [.int .u64 (q : Int), .int .i64 root, .int .i64 hdn, .int .i64 size]
 t : Blk W b3 116 [.int .i64 i, .slice A3 256 c3]
 o : OwB W A3 256 c3 xs
 l : Beside w W r1 L A1 K c1 C
section
variable {w W W' : World} {b1 b3 q : Nat} {root hdn size i : Int} {A3 : Option Addr} {c3 : Nat} {xs : List UInt8} {r1 : Nat} {L : FSt} {A1 : Option Addr} {K c1 : Nat} {C : List Int}
theorem Com.below (h : Com w b1 b3 q root hdn size i A3 c3 xs r1 L A1 K c1 C W) (hb : Below W.heap.size W W') : Com w b1 b3 q root hdn size i A3 c3 xs r1 L A1 K c1 C W' :=
 ⟨h.m.below hb h.m.lt, h.t.below hb h.t.lt, h.o.below hb, h.l.below_ hb⟩
theorem Com.s (h : Com w b1 b3 q root hdn size i A3 c3 xs r1 L A1 K c1 C W) : W.cell? ⟨b1, 0, none⟩ = some (.int .u64 (q : Int)) ∧ W.cell? ⟨b3, 0, none⟩ = some (.int .i64 i) ∧ W.cell? ⟨b3, 1, none⟩ = some (.slice A3 256 c3) := ⟨h.m.cell 0, h.t.cell 0, h.t.cell 1⟩
theorem Com.left {d : Dk} {S S' : St} (h : Com w b1 b3 q root hdn size i A3 c3 xs r1 L A1 K c1 C W) (hd : Dsk W d S) (k : Left W d S' W') : Blk W' b1 109 [.int .u64 (q : Int), .int .i64 root, .int .i64 hdn, .int .i64 size] ∧ Blk W' b3 116 [.int .i64 i, .slice A3 256 c3] ∧ OwI W' A1 K c1 C ∧ ListOf w W' r1 L A1 := by
 refine ⟨k.2.blk h.m (fun hj => hd.own_cl h.m.cl (by decide) (by decide) hj), k.2.blk h.t (fun hj => hd.own_cl h.t.cl (by decide) (by decide) hj), h.l.own.turned k.2 (fun g hg hj => hd.own_cl (h.l.own.cl hg) (by decide) (by decide) hj), ?_⟩; obtain ⟨f, e, hl, hn, ha⟩ := h.l.lst; refine ⟨f, e, hl.turned k.2 (fun j hj hk => ?_), hn, ha⟩; rcases hl.own_cl hj with hc | hc <;> exact hd.own_cl hc (by decide) (by decide) hk
end
theorem com_end {w w8 w9 w10 : World} {p : Pgl} {P : PSt} {S S1 : St} {q r1 N c1 : Nat} {A1 : Option Addr} {hdn : Int} (h8 : Pgr w8 p P S) (hb : Below w.heap.size w w8) (h9 : Left w8 p.d S1 w9) (ho : OwI w9 A1 N c1 (settleC P)) (hl : ListOf w w9 r1 (settleL P) A1) (hq : P.M.txn + 1 = q) (hhd : headN (settleC P) = hdn)
 (hok : (nextP P).ok S1.pages.length) (hnew : ∀ g, blkOf A1 = some g → w.heap.size ≤ g)
 (h10 : ∃ mb, w9.heap.size ≤ mb ∧ Blk w10 p.r 111 [.pointer (some ⟨p.d.r, 0, none⟩), .int .u64 (q : Int), .int .i64 P.root, .int .i64 hdn, .int .i64 P.M.size, .slice A1 N c1, .bool false, .int .i64 P.root, .pointer (some ⟨r1, 0, none⟩), .map (some mb)] ∧ Mv w10 mb 1022 (fun _ => none) ∧ Turned w9 w10 (fun j => j = p.r)) :
 CLeft w w10 p P (S1, 0) := by
 obtain ⟨mb, hmb, hbk, hmv, ht⟩ := h10; obtain ⟨f, rfl, hlst, hfn, hfa⟩ := hl; have t9 : Turned w w9 p.all := (Turned.of_below hb _).trans (h9.2.mono (fun k _ hk => .inr hk)); have t10 : Turned w w10 p.all := t9.trans (ht.mono (fun k _ e => .inl (.inl e))); have hx9 : Blk w9 p.r 111 (pgCells p P) := h9.2.blk h8.blk (fun hj => h8.dsk.own_cl h8.blk.cl (by decide) (by decide) hj); have hd10 : Dsk w10 p.d S1 := h9.1.turned ht (fun i hi e => h9.1.own_cl hx9.cl (by decide) (by decide) (e ▸ hi)); refine ⟨hd10, t10, fun _ => ⟨{ p with Ac := A1, cc := c1, f := f, m := mb, V := fun _ => none }, rfl, rfl, ⟨hok, ?_, hd10, ?_, hlst.turned ht (fun j hj e => ?_), ⟨hmv, AdV.empty _⟩, hfa, ?_⟩, t10, fun j hj => ?_⟩⟩
 · show Blk w10 p.r _ [.pointer (some ⟨p.d.r, 0, none⟩), .int .u64 ((P.M.txn + 1 : Nat) : Int), .int .i64 P.root, .int .i64 (headN (settleC P)), .int .i64 P.M.size, .slice A1 (settleC P).length c1, .bool false, .int .i64 P.root, .pointer (some ⟨f.r, 0, none⟩), .map (some mb)]; rw [hq, hhd, ho.1]; exact hbk
 · show OwI w10 A1 (settleC P).length c1 (settleC P); rw [ho.1]; exact ho.turned ht (fun g hg e => absurd ((ho.cl hg).uniq (e ▸ hx9.cl)) (by decide))
 · rcases hlst.own_cl hj with hc | hc <;> exact absurd (hc.uniq (e ▸ hx9.cl)) (by decide)
 · intro e; have h1 := h9.1.lt p.d.m (.inr (.inr rfl)); have h2 : mb = p.d.m := e; omega
 · rcases hj with hj | hj | hj | hj
   · exact .inl (.inl hj)
   · exact .inr (hnew j hj)
   · exact .inr (hfn j hj)
   · refine .inr ?_; have h2 : j = mb := hj; have := t9.size; omega
theorem commit_any {w : World} {p : Pgl} {P : PSt} {S : St} (h : Pgr w p P S) (hKS : needN (P.L.S.length + P.L.H.length + P.chain.length) ≤ P.L.S.length) (ht : P.M.txn + 1 < 18446744073709551616) (hr : rightM (nextM P) = true) (hd : S.done ≤ 700000) (hF : Fours w) :
 Calls Tryz.prog 14 #[.pointer (some ⟨p.r, 0, none⟩)] w fun e w' => e = .returned (.int .i64 (commitR P S).2) ∧ Hid (CLeft w w' p P (commitR P S)) := by
 have H := kept h; have HA := kept (palive_any h); obtain ⟨N, hNN⟩ : ∃ N, needN (P.L.S.length + P.L.H.length + P.chain.length) = N := ⟨_, rfl⟩
 have HST := kept (settle_ok h N hNN (by omega)); obtain ⟨q, hq⟩ : ∃ q : Nat, P.M.txn + 1 = q := ⟨_, rfl⟩
 have hwq : IntKind.u64.wrap ((P.M.txn : Int) + 1) = (q : Int) := by rw [IntKind.wrap_u64]; omega
 have HP := kept (fun (W : World) (hb : Below w.heap.size w W) => h.below hb); have hlt := h.blk.lt; have hKb : N ≤ 1022 := by have := h.lst.1.short.1; omega
 obtain ⟨hdn, hhd⟩ : ∃ x, headN (settleC P) = x := ⟨_, rfl⟩
 have HM : Hid (nextM P = ⟨q, P.root, hdn, P.M.size⟩) := kept (by unfold nextM; rw [hq, hhd]); have HLM := kept (fun (W : World) (hb : Below w.heap.size w W) => layMeta_any (nextM P) 0 (by rw [hr]; rfl) W (by show P.M.txn + 1 < _; exact ht) (hF.below hb)); rw [HM.out] at HLM; have HFI := kept (fun (W : World) (A : Option Addr) (c : Nat) (hr : RdI W A N (settleC P)) => first_any A N c (settleC P) W hr); rw [hhd] at HFI; have HF := kept hF; have HHD := kept hhd; have HQ := kept hq; have HTX := kept ht; have HDN := kept hd; have hcz : ∀ x ∈ P.chain, 2 ≤ x ∧ x < P.L.z := fun x hx => by rw [h.ok.lz]; exact h.ok.cb x hx
 have hz1024 : (S.pages.length : Int) ≤ 1024 := by have := h.dsk.1.2.1; omega
 have HNO := kept (nextP_ok h.ok h.lst.1 ht); have hLS : (settleL P).ok := by
  rw [settleL_is hcz]; have hl := h.lst.1; refine ⟨hl.1, hl.2.1, Rising.addAll (Rising.addAll (List.Pairwise.sublist (List.drop_sublist _ _) hl.2.2.1) _) _, Rising.nil_, fun x hx => ?_, fun x hx => by cases hx⟩; rcases mem_addAll.1 hx with hx | hx
  · rcases mem_addAll.1 hx with hx | hx
    · exact hl.2.2.2.2.1 x (List.mem_of_mem_drop hx)
    · exact hl.2.2.2.2.2 x hx
  · exact hcz x hx
 have hLz : (settleL P).z ≤ 1024 := hLS.2.1; have HCP : Hid (Rising (settleL P).S ∧ (∀ x ∈ (settleL P).S, isPg x = true) ∧ (∀ x ∈ settleC P, isPg x = true) ∧ (settleL P).S.length ≤ 2000) := kept ⟨hLS.2.2.1, fun x hx => by have := hLS.2.2.2.2.1 x hx; simp [isPg]; omega, fun x hx => by have h1 := h.lst.1.2.2.2.2.1 x (List.mem_of_mem_take hx); have h2 := h.lst.1.2.1; simp [isPg]; omega, by have := hLS.short.1; omega⟩; have HCR : Hid (commitR P S = storeS S (adSh P.add ++ layC q (settleC P) (settleL P).S) ((q : Int) % 2, sealed (bodyM ⟨q, P.root, hdn, P.M.size⟩))) := kept (by
  have e : (((q % 2 : Nat) : Int)) = (q : Int) % 2 := by omega
  unfold commitR commitL; rw [HM.out, hq, e])
 have HLN := kept (storeS_len S (adSh P.add ++ layC q (settleC P) (settleL P).S) ((q : Int) % 2, sealed (bodyM ⟨q, P.root, hdn, P.M.size⟩))); have htq : q < 18446744073709551616 := by omega
 rw [HCR.out]; obtain ⟨R, hR⟩ : ∃ R, storeS S (adSh P.add ++ layC q (settleC P) (settleL P).S) ((q : Int) % 2, sealed (bodyM ⟨q, P.root, hdn, P.M.size⟩)) = R := ⟨_, rfl⟩
 have HR := kept hR; rw [hR] at HLN ⊢; obtain ⟨S1, er⟩ := R; have HSTO := kept (fun (W : World) (A8 : Option Addr) (n8 c8 : Nat) (A3 : Option Addr) (c3 : Nat) (hb : Below w.heap.size w W) (h8 : RdSh W A8 n8 (adSh P.add ++ layC q (settleC P) (settleL P).S)) (h3 : OwB W A3 256 c3 (sealed (bodyM ⟨q, P.root, hdn, P.M.size⟩))) (hn : n8 ≤ 5000) => store_any (HP.out W hb) A8 n8 c8 _ ((q : Int) % 2) A3 c3 _ h8 h3 hn (by have := HDN.out; omega)); rw [hR] at HSTO; have HLAY := kept (fun (W : World) (A1 A6 : Option Addr) (c1 c6 : Nat) (hb : Below w.heap.size w W) (o1 : OwI W A1 N c1 (settleC P)) (o6 : OwI W A6 (settleL P).S.length c6 (settleL P).S) => layChain_any q N c1 (settleL P).S.length c6 A1 A6 (settleC P) (settleL P).S W o1.reads o6.reads (by omega) HCP.out.2.2.2 o1.cap o6.cap htq HCP.out.1 HCP.out.2.1 HCP.out.2.2.1 (hF.below hb)); clear h hKS hr hd hF hhd hq hNN hcz hz1024 hLS hLz hR; go_enter Tryz.func14, Tryz.ntmps14; go_wp2_with fail
 with_reducible refine HA.out.mono ?_
 rintro e w0 ⟨rfl, rfl⟩; go_wp2_with fail
 with_reducible refine HST.out.mono ?_
 rintro e w1 ⟨A1, c1, r1, rfl, h1⟩; have HP1 := kept (HP.out w1 h1.out.below); have x1 : w1.drew.cell? ⟨p.r, 1, none⟩ = some (.int .u64 (P.M.txn : Int)) := HP1.out.c 1; have x4 : w1.drew.cell? ⟨p.r, 4, none⟩ = some (.int .i64 P.M.size) := HP1.out.c 4; have x7 : w1.drew.cell? ⟨p.r, 7, none⟩ = some (.int .i64 P.root) := HP1.out.c 7; have HXA : Hid (∀ o : Obj, (w1.alloc o).drew.cell? ⟨p.r, 1, none⟩ = some (.int .u64 (P.M.txn : Int)) ∧ (w1.alloc o).drew.cell? ⟨p.r, 4, none⟩ = some (.int .i64 P.M.size) ∧ (w1.alloc o).drew.cell? ⟨p.r, 7, none⟩ = some (.int .i64 P.root)) := kept (fun o => ⟨(HP1.out.below (below_ad w1 o)).c 1, (HP1.out.below (below_ad w1 o)).c 4, (HP1.out.below (below_ad w1 o)).c 7⟩); have HF1 : Hid (∀ W : World, Below w1.heap.size w1 W → Calls Tryz.prog 51 #[.slice A1 N c1] W fun e w' => e = .returned (.int .i64 hdn) ∧ W = w') := kept (fun W hb => HFI.out W A1 c1 (h1.out.own.below hb).reads); clear HA HST HFI; go_wp2
 go_region_held3 (fun W' => W'.cell? ⟨p.r, 1, none⟩ = some (.int .u64 (P.M.txn : Int)) ∧ W'.cell? ⟨p.r, 4, none⟩ = some (.int .i64 P.M.size) ∧ W'.cell? ⟨p.r, 7, none⟩ = some (.int .i64 P.root)) ((first | with_reducible exact ⟨x1, x4, x7⟩ | with_reducible exact HXA.out _)) (first | (go_at_call 51; (with_reducible refine (HF1.out _ (Below.refl _ _).drew).mono ?_); rintro e w2 ⟨rfl, rfl⟩) | (go_at_call 51; (with_reducible refine (HF1.out _ (below_ad _ _)).mono ?_); rintro e w2 ⟨rfl, rfl⟩) | (go_at_call 51; (with_reducible refine (HF1.out _ (below_da _ _)).mono ?_); rintro e w2 ⟨rfl, rfl⟩))
 all_goals
  have HB2 : Hid (Below w1.heap.size w1 (w1.alloc (.cells #[.int .u64 (q : Int), .int .i64 P.root, .int .i64 hdn, .int .i64 P.M.size] 109)).drew) := kept (below_ad w1 _); have HK2 : Hid (Blk (w1.alloc (.cells #[.int .u64 (q : Int), .int .i64 P.root, .int .i64 hdn, .int .i64 P.M.size] 109)).drew w1.heap.size 109 [.int .u64 (q : Int), .int .i64 P.root, .int .i64 hdn, .int .i64 P.M.size]) := kept (show Blk _ _ _ _ from Blk.new w1 109 #[.int .u64 (q : Int), .int .i64 P.root, .int .i64 hdn, .int .i64 P.M.size]); generalize (w1.alloc (.cells #[.int .u64 (q : Int), .int .i64 P.root, .int .i64 hdn, .int .i64 P.M.size] 109)).drew = W2 at HB2 HK2 ⊢; have m0 : W2.cell? ⟨w1.heap.size, 0, none⟩ = some (.int .u64 (q : Int)) := HK2.out.cell 0; have m1 : W2.cell? ⟨w1.heap.size, 1, none⟩ = some (.int .i64 P.root) := HK2.out.cell 1; have m2 : W2.cell? ⟨w1.heap.size, 2, none⟩ = some (.int .i64 hdn) := HK2.out.cell 2; have m3 : W2.cell? ⟨w1.heap.size, 3, none⟩ = some (.int .i64 P.M.size) := HK2.out.cell 3; have hb02 : Below w.heap.size w W2 := h1.out.below.trans (HB2.out.mono h1.out.below.size); have HL2 := kept (HLM.out W2 hb02); clear hb02; go_wp2_with (first | (go_at_call 52; (with_reducible refine HL2.out.mono ?_); rintro e w3 ⟨A3, n3, c3, rfl, h3, hb3⟩; have HH3 := h3.out trivial; obtain ⟨rfl, ho3, hg3⟩ := HH3; have HO3 := kept ho3; have HB3 := kept hb3; clear h3 ho3 hg3 hb3))
  have HC4 : Hid (Com w w1.heap.size w3.heap.size q P.root hdn P.M.size ((q : Int) % 2) A3 c3 (sealed (bodyM ⟨q, P.root, hdn, P.M.size⟩)) r1 (settleL P) A1 N c1 (settleC P) (w3.alloc (.cells #[.int .i64 ((q : Int) % 2), .slice A3 256 c3] 116))) := kept (by
   have hb := (Below.refl w3.heap.size w3).alloc (Nat.le_refl _) (.cells #[.int .i64 ((q : Int) % 2), .slice A3 256 c3] 116); have hm3 := HK2.out.below HB3.out HK2.out.lt; exact ⟨hm3.alloc _, Blk.new w3 116 #[.int .i64 ((q : Int) % 2), .slice A3 256 c3], HO3.out.below hb, (((h1.out.below_ HB2.out).below_ HB3.out).below_ hb)⟩)
  generalize (w3.alloc (.cells #[.int .i64 ((q : Int) % 2), .slice A3 256 c3] 116)) = W4 at HC4 ⊢; clear HL2 HO3 HB3 HB2 HK2 m0 m1 m2 m3; have HPW := kept (HP.out W4 HC4.out.l.below); have HLA := kept (layAdded_any (w := W4.drew) (HPW.out.drewN 1)); refine wp_region_held_drew (S := (fun W' => W'.cell? ⟨w1.heap.size, 0, none⟩ = some (.int .u64 (q : Int)) ∧ W'.cell? ⟨w3.heap.size, 0, none⟩ = some (.int .i64 ((q : Int) % 2)) ∧ W'.cell? ⟨w3.heap.size, 1, none⟩ = some (.slice A3 256 c3))) (by kernel_rfl) ?_ (fun hHeld => ?_)
  · ((try dsimp only); (with_reducible first | exact (HC4.out.below (Below.refl _ _).drew).s | exact (HC4.out.below HB5.out).s | exact (HC4.out.below HB6.out).s | exact (HC4.out.below HB7.out).s | exact (HC4.out.below HB8.out).s | exact HS9.out))
  refine hT 0 (some 51) ?_; refine hT 1 (some 52) ?_; refine hT 3 (some 54) ?_; refine hT 4 (some 55) ?_; refine hT 5 (some 56) ?_; refine hT 6 (some 57) ?_; refine hT 10 (some 61) ?_; refine hR 2 (fun K hK => ?_); go_simp
  ((go_at_call 54; (with_reducible refine HLA.out.mono ?_); rintro e w5 ⟨A5, n5, c5, rfl, hn5, h5⟩); have HB5 : Hid (Below W4.heap.size W4 w5) := kept (below_from_drew h5.out.2.1); have HSP := kept (HC4.out.below HB5.out).l.spare_)
  (try go_wp2_with fail); refine hK.out _ _ ?_ (fun hHeld => ?_)
  · ((try dsimp only); (with_reducible first | exact (HC4.out.below (Below.refl _ _).drew).s | exact (HC4.out.below HB5.out).s | exact (HC4.out.below HB6.out).s | exact (HC4.out.below HB7.out).s | exact (HC4.out.below HB8.out).s | exact HS9.out))
  clear hK K; (try simp only [Act.put, hA, h0, h1]); refine hR 7 (fun K hK => ?_); go_simp
  ((go_at_call 56; (with_reducible refine HSP.out.mono ?_); rintro e w6 ⟨A6, c6, rfl, h6⟩); have HB6 : Hid (Below W4.heap.size W4 w6) := kept (HB5.out.trans (h6.out.2.1.mono HB5.out.size)); have HLC := kept (HLAY.out w6 A1 A6 c1 c6 (HC4.out.below HB6.out).l.below (HC4.out.below HB6.out).l.own h6.out.1))
  (try go_wp2_with fail); refine hK.out _ _ ?_ (fun hHeld => ?_)
  · ((try dsimp only); (with_reducible first | exact (HC4.out.below (Below.refl _ _).drew).s | exact (HC4.out.below HB5.out).s | exact (HC4.out.below HB6.out).s | exact (HC4.out.below HB7.out).s | exact (HC4.out.below HB8.out).s | exact HS9.out))
  clear hK K; (try simp only [Act.put, hA, h0, h1]); refine hR 8 (fun K hK => ?_); go_simp
  ((go_at_call 55; (with_reducible refine HLC.out.mono ?_); rintro e w7 ⟨A7, c7, rfl, h7⟩); have HB7 : Hid (Below W4.heap.size W4 w7) := kept (HB6.out.trans (h7.out.2.1.mono HB6.out.size)); have H57 := kept ((h5.out.on h6.out.2.1).on h7.out.2.1))
  (try go_wp2_with fail); refine hK.out _ _ ?_ (fun hHeld => ?_)
  · ((try dsimp only); (with_reducible first | exact (HC4.out.below (Below.refl _ _).drew).s | exact (HC4.out.below HB5.out).s | exact (HC4.out.below HB6.out).s | exact (HC4.out.below HB7.out).s | exact (HC4.out.below HB8.out).s | exact HS9.out))
  clear hK K; (try simp only [Act.put, hA, h0, h1]); refine hR 9 (fun K hK => ?_)
  (refine wp_append_sh (.tmp 53) (.tmp 59) rfl rfl rfl H57.out.1 h7.out.1.reads (by omega) ?_; intro A8 c8 w8 h8 t8 g8; have H8 := kept (H57.out.step (Below.refl _ _) h8 t8 g8); have HB8 : Hid (Below W4.heap.size W4 w8) := kept (below_from_drew H8.out.2.1); have HST8 := kept (HSTO.out w8 A8 (n5 + N) c8 A3 c3 (HC4.out.below HB8.out).l.below H8.out.1.reads (HC4.out.below HB8.out).o (by omega)); clear h8 t8 g8)
  refine hK.out _ _ ?_ (fun hHeld => ?_)
  · ((try dsimp only); (with_reducible first | exact (HC4.out.below (Below.refl _ _).drew).s | exact (HC4.out.below HB5.out).s | exact (HC4.out.below HB6.out).s | exact (HC4.out.below HB7.out).s | exact (HC4.out.below HB8.out).s | exact HS9.out))
  clear hK K; (try simp only [Act.put, hA, h0, h1]); refine hR 11 (fun K hK => ?_); go_simp
  ((go_at_call 53; (with_reducible refine HST8.out.mono ?_); rintro e w9 ⟨rfl, h9⟩); have HP8 := kept (HP.out w8 (HC4.out.below HB8.out).l.below); have HC9 := kept ((HC4.out.below HB8.out).left HP8.out.dsk h9.out); have HS9 : Hid (w9.cell? ⟨w1.heap.size, 0, none⟩ = some (.int .u64 (q : Int)) ∧ w9.cell? ⟨w3.heap.size, 0, none⟩ = some (.int .i64 ((q : Int) % 2)) ∧ w9.cell? ⟨w3.heap.size, 1, none⟩ = some (.slice A3 256 c3)) := kept ⟨HC9.out.1.cell 0, HC9.out.2.1.cell 0, HC9.out.2.1.cell 1⟩)
  (try go_wp2_with fail); refine hK.out _ _ ?_ (fun hHeld => ?_)
  · ((try dsimp only); (with_reducible first | exact (HC4.out.below (Below.refl _ _).drew).s | exact (HC4.out.below HB5.out).s | exact (HC4.out.below HB6.out).s | exact (HC4.out.below HB7.out).s | exact (HC4.out.below HB8.out).s | exact HS9.out))
  clear hK K; (try simp only [Act.put, hA, h0, h1]); refine hT 12 (some 9) ?_; refine wpAnyH_done (by kernel_rfl) ?_ _; have HX9 : Hid (Blk w9 p.r 111 (pgCells p P)) := kept (h9.out.2.blk HP8.out.blk (fun hj => HP8.out.dsk.own_cl HP8.out.blk.cl (by decide) (by decide) hj)); have HSC : Hid (∀ g, blkOf A1 = some g → w.heap.size ≤ g) := kept HC4.out.l.new; have HB08 : Hid (Below w.heap.size w w8) := kept (HC4.out.below HB8.out).l.below; have HT9 : Hid (Turned w w9 p.all) := kept ((Turned.of_below HB08.out _).trans (h9.out.2.mono (fun k _ hk => .inr hk))); have HD9 := kept h9.out.1; have h6c : w9.cell? ⟨p.r, 6, none⟩ = some (.bool false) := HX9.out.cell 6; have h6z := HX9.out.frozen 6; by_cases he : er = 0
  · subst he; have m0 : w9.cell? ⟨w1.heap.size, 0, none⟩ = some (.int .u64 (q : Int)) := HC9.out.1.cell 0; have m1 : w9.cell? ⟨w1.heap.size, 1, none⟩ = some (.int .i64 P.root) := HC9.out.1.cell 1; have m2 : w9.cell? ⟨w1.heap.size, 2, none⟩ = some (.int .i64 hdn) := HC9.out.1.cell 2; have m3 : w9.cell? ⟨w1.heap.size, 3, none⟩ = some (.int .i64 P.M.size) := HC9.out.1.cell 3; have HBG := kept (begin_any p.r r1 _ _ _ _ _ _ _ _ _ _ HX9.out ⟨q, P.root, hdn, P.M.size⟩ A1 N c1); go_wp2_with (first | (go_at_call 57; (with_reducible refine HBG.out.mono ?_); rintro e w10 ⟨rfl, h10⟩))
    go_ret; exact ⟨rfl, kept (com_end HP8.out HB08.out h9.out HC9.out.2.2.1 HC9.out.2.2.2 HQ.out HHD.out (by rw [HLN.out]; exact HNO.out) HSC.out h10.out)⟩
  · have heb : (er != 0) = true := by simpa using he
    have HE := kept he; clear he; go_wp2; go_ret; have t6 : Turned w9 (w9.setCell ⟨p.r, 6, none⟩ (.bool true)) (fun j => j = p.r) := (Turned.refl w9 (fun j => j = p.r)).setCell (fun _ => rfl) _; exact ⟨rfl, kept ⟨HD9.out.turned t6 (fun i hi e => HD9.out.own_cl HX9.out.cl (by decide) (by decide) (e ▸ hi)), HT9.out.trans (t6.mono fun k _ e => .inl (.inl e)), fun h0 => absurd h0 HE.out⟩⟩
def inR (S : St) (y : Int) : Prop := 0 ≤ y ∧ y < (S.pages.length : Int)
theorem write_page (S : St) (p y : Int) (xs : List UInt8) : (S.write p xs).page y = if y = p then xs else S.page y := by
 unfold St.write St.count St.page; simp only; by_cases h : y = p <;> simp [h]
theorem laidAll_page {S : St} {new : Nat → List UInt8} {fu : Int} {dn : Nat} {y : Int} (h : inR S y) : (⟨S.laidAll new, fun _ => none, fu, dn⟩ : St).page y = if (S.cache y).isSome then new y.toNat else S.page y := by
 unfold St.page; obtain ⟨k, rfl⟩ := Int.eq_ofNat_of_zero_le h.1; have hk : k < S.pages.length := by have := h.2; omega
 show (S.laidAll new).getD k [] = _; unfold St.laidAll laid; rw [List.getD_eq_getElem?_getD, List.getElem?_map, List.getElem?_range hk]; simp only [Option.map_some, Option.getD_some, true_and]; cases hc : S.cache (k : Int) with
 | none => simp
 | some v => simp
theorem sync_page {S : St} {y : Int} (h : inR S y) : S.sync.page y = S.page y := by
 have := laidAll_page (S := S) (new := fun i => S.page (i : Int)) (fu := S.sync.fuse) (dn := S.sync.done) h; have e : S.sync = ⟨S.laidAll (fun i => S.page (i : Int)), fun _ => none, S.sync.fuse, S.sync.done⟩ := rfl; rw [e, this]
 split
 · rw [show ((y.toNat : Nat) : Int) = y by have := h.1; omega]
 · rfl
def ids (l : List Sheet) : List Int := l.map (·.1)
theorem tryWrite_eq {S : St} {p : Int} {xs : List UInt8} (h : writeE S p 256 = 0) : S.tryWrite p xs = S.write p xs := by
 unfold writeE at h; unfold St.tryWrite
 split at h
 · omega
 · rename_i h1
   split at h
   · omega
   · rename_i h2
     rw [if_neg h1, if_neg h2]
theorem writeE_dead {S : St} {p : Int} (hp : inR S p) (h : writeE S p 256 ≠ 0) : writeE S p 256 = 10 ∧ S.fuse = 0 := by
 unfold writeE at h ⊢; unfold inR at hp; by_cases hf : S.fuse = 0
 · rw [if_pos hf]; exact ⟨rfl, hf⟩
 · rw [if_neg hf, if_neg (by omega), if_pos rfl] at h; exact absurd rfl h
structure PutSpec (S : St) (l : List Sheet) (R : St × Int) : Prop where
 er : R.2 = 0 ∨ R.2 = 10
 len : R.1.pages.length = S.pages.length
 good : R.2 = 0 → (∀ y, R.1.cache y = none) ∧ ∀ y, inR S y → y ∉ ids l → R.1.page y = S.page y
 bad : R.2 ≠ 0 → R.1.pages = S.pages ∧ ∀ y, y ∉ ids l → R.1.cache y = S.cache y
theorem putS_spec : ∀ (l : List Sheet) (S : St), (∀ x ∈ l, inR S x.1) → PutSpec S l (putS S l)
 | [], S, _ => by
   have e : putS S [] = (S.trySync, syncE S) := rfl; rw [e]; unfold St.trySync syncE; by_cases hf : S.fuse = 0
   · rw [if_pos hf, if_pos hf]; exact ⟨.inr rfl, rfl, fun h => absurd (show (10 : Int) = 0 from h) (by decide), fun _ => ⟨rfl, fun y _ => rfl⟩⟩
   · rw [if_neg hf, if_neg hf]; exact ⟨.inl rfl, sync_len S, fun _ => ⟨fun y => rfl, fun y hy _ => sync_page hy⟩, fun h => absurd rfl h⟩
 | x :: r, S, hl => by
   have hx := hl x (List.mem_cons_self ..); unfold putS; by_cases he : writeE S x.1 256 = 0
   · rw [if_pos he, tryWrite_eq he]; have hlen : (S.write x.1 x.2).pages.length = S.pages.length := rfl; have ih := putS_spec r (S.write x.1 x.2) (fun y hy => by unfold inR; rw [hlen]; exact hl y (List.mem_cons_of_mem _ hy)); refine ⟨ih.er, ih.len.trans hlen, fun h0 => ⟨(ih.good h0).1, fun y hy hn => ?_⟩, fun h0 => ⟨(ih.bad h0).1, fun y hn => ?_⟩⟩
     · have hn' : y ≠ x.1 ∧ y ∉ ids r := by simpa [ids] using hn
       rw [(ih.good h0).2 y (by unfold inR; rw [hlen]; exact hy) hn'.2, write_page, if_neg hn'.1]
     · have hn' : y ≠ x.1 ∧ y ∉ ids r := by simpa [ids] using hn
       rw [(ih.bad h0).2 y hn'.2]; show (if y = x.1 then some x.2 else S.cache y) = _; rw [if_neg hn'.1]
   · rw [if_neg he]; obtain ⟨h1, h2⟩ := writeE_dead hx he; exact ⟨.inr h1, rfl, fun h0 => absurd h0 he, fun _ => ⟨rfl, fun y _ => rfl⟩⟩
theorem putS_has : ∀ (l : List Sheet) (S : St), (∀ x ∈ l, inR S x.1) → (ids l).Nodup → (putS S l).2 = 0 → ∀ x ∈ l, (putS S l).1.page x.1 = x.2
 | [], S, _, _, _ => fun x hx => by cases hx
 | x :: r, S, hl, hn, h0 => by
   have hx := hl x (List.mem_cons_self ..); have hn2 : x.1 ∉ ids r ∧ (ids r).Nodup := by simpa [ids] using hn
   unfold putS at h0 ⊢; by_cases he : writeE S x.1 256 = 0
   · rw [if_pos he] at h0 ⊢; rw [tryWrite_eq he] at h0 ⊢; have hr : ∀ y ∈ r, inR (S.write x.1 x.2) y.1 := fun y hy => hl y (List.mem_cons_of_mem _ hy)
     intro y hy; rcases List.mem_cons.1 hy with rfl | hy
     · rw [((putS_spec r (S.write y.1 y.2) hr).good h0).2 y.1 hx hn2.1, write_page, if_pos rfl]
     · exact putS_has r (S.write x.1 x.2) hr hn2.2 h0 y hy
   · rw [if_neg he] at h0; exact absurd h0 he
theorem addAll_nil {I : List Int} (h : Rising I) : addAll [] I = I := Rising.uniq (Rising.addAll Rising.nil_ _) h fun z => by rw [mem_addAll]; simp
theorem isPg_of {x : Int} {z : Nat} (h : 2 ≤ x ∧ x < (z : Int)) (hz : z ≤ 1024) : isPg x = true := by simp [isPg]; omega
theorem rchain_laid (S : St) (t : Nat) (ht : t < 18446744073709551616) (hz : S.pages.length ≤ 1024) : ∀ (C I C0 I0 : List Int) (k : Nat), (∀ x ∈ layC t C I, S.page x.1 = x.2) → (C0 ++ C).Nodup → (∀ x ∈ C, 2 ≤ x ∧ x < (S.pages.length : Int)) → Rising I → (∀ x ∈ I, isPg x = true) → I.length ≤ 59 * C.length → C.length < k →
 rchain S k (headN C) C0 I0 = (0, C0 ++ C, I0 ++ I)
 | [], I, C0, I0, k, _, _, _, _, _, hl, hk => by
   obtain ⟨k', rfl⟩ : ∃ k', k = k' + 1 := ⟨k - 1, by simp at hk; omega⟩
   have : I = [] := List.eq_nil_of_length_eq_zero (by simpa using hl); subst this; simp [rchain, headN]
 | c :: r, I, C0, I0, k, hp, hn, hb, hr, hi, hl, hk => by
   obtain ⟨k', rfl⟩ : ∃ k', k = k' + 1 := ⟨k - 1, by simp at hk; omega⟩
   have hc := hb c (List.mem_cons_self ..); have hpc : S.page c = sealed (bodyOf (spareP t (headN r) (I.take 59))) := hp _ (by rw [layC]; exact List.mem_cons_self ..); have hrt : rightB (spareP t (headN r) (I.take 59)) = true := right_spare (headN_ok fun x hx => isPg_of (hb x (List.mem_cons_of_mem _ hx)) hz) (hr.sublist (List.take_sublist _ _)) (fun x hx => hi x (List.mem_of_mem_take hx)) (List.length_take_le ..); have hd : decPg (S.page c) = (spareP t (headN r) (I.take 59), 0) := by
    rw [hpc]; exact decPg_sealed hrt (by show (0 : Int) ≤ (t : Int); omega) (by show (t : Int) < _; omega)
   have hnc : c ∉ C0 := fun h => by
    rw [List.nodup_append] at hn; exact hn.2.2 c h c (List.mem_cons_self ..) rfl
   show rchain S (k' + 1) c C0 I0 = _; rw [rchain, if_neg (by omega), if_neg (by simp [finB]; omega), if_neg hnc, hd, if_neg (by simp), if_neg (by simp)]; have ih := rchain_laid S t ht hz r (I.drop 59) (C0 ++ [c]) (I0 ++ I.take 59) k' (fun x hx => hp x (by rw [layC]; exact List.mem_cons_of_mem _ hx)) (by rw [List.append_assoc]; exact hn) (fun x hx => hb x (List.mem_cons_of_mem _ hx)) (hr.sublist (List.drop_sublist _ _)) (fun x hx => hi x (List.mem_of_mem_drop hx)) (by simp at hl ⊢; omega) (by simp at hk; omega); show rchain S k' (headN r) _ _ = _; rw [ih]; simp [List.append_assoc, List.take_append_drop]
structure Bas (z : Nat) (B : PSt) : Prop where
 ok : B.ok z
 z1 : 8 ≤ z
 z2 : z ≤ 1024
 H : B.L.H = []
 ri : Rising B.L.S
 sb : ∀ x ∈ B.L.S, 2 ≤ x ∧ x < (z : Int)
 root : B.root = B.M.root
 sp : B.M.spare = headN B.chain
 none_ : B.add = fun _ => none
 cl : B.L.S.length ≤ 59 * B.chain.length
def ChainOn (S : St) (B : PSt) : Prop := ∃ t : Nat, t < 18446744073709551616 ∧ ∀ x ∈ layC t B.chain B.L.S, S.page x.1 = x.2
theorem open_of {S : St} {B : PSt} (hb : Bas S.pages.length B) (hc : ChainOn S B) (hm : chooseM (S.page 0) (S.page 1) = (B.M, 0)) : openE S = 0 ∧ openS S = B := by
 obtain ⟨t, ht, hp⟩ := hc; have hcl : B.chain.length ≤ 1022 := nodup_short hb.ok.cn hb.ok.cb hb.z2; have hr := rchain_laid S t ht hb.z2 B.chain B.L.S [] [] 1100 hp (by simpa using hb.ok.cn) hb.ok.cb hb.ri (fun x hx => isPg_of (hb.sb x hx) hb.z2) hb.cl (by omega); rw [List.nil_append, List.nil_append] at hr; have hne : newErr (S.pages.length : Int) (B.chain ++ B.L.S) = 0 := by
  unfold newErr; rw [if_neg (by have := hb.z1; have := hb.z2; omega), if_pos (List.all_eq_true.2 (fun x hx => by
   rcases List.mem_append.1 hx with hx | hx
   · have := hb.ok.cb x hx; simp [finB]; omega
   · have := hb.sb x hx; simp [finB]; omega)), if_pos]
  rw [List.nodup_append]; refine ⟨hb.ok.cn, hb.ri.imp fun h => by omega, fun x hx y hy e => (hb.ok.cs x hx).1 (e ▸ hy)⟩
 constructor
 · unfold openE; rw [hm]; simp only; rw [if_neg (by simp), if_neg (by simpa using hb.ok.mz), hb.sp, hr, if_neg (by simp), hb.ok.mz, if_neg (by simpa using hne)]
 · unfold openS; rw [hm]; simp only; rw [hb.sp, hr, addAll_nil hb.ri, hb.ok.mz, ← hb.root]; have h1 := hb.ok.lz; have h2 := hb.H; have h3 := hb.none_; obtain ⟨M, C, root, ⟨lz, lS, lH⟩, add⟩ := B; simp only at h1 h2 h3 ⊢; rw [h1, h2, h3]
theorem choose_two {e l : Mt} (re : rightM e = true) (rl : rightM l = true) (tl : l.txn < 18446744073709551616) (tx : e.txn + 1 = l.txn) :
 (if l.txn % 2 = 0 then chooseM (sealed (bodyM l)) (sealed (bodyM e)) else chooseM (sealed (bodyM e)) (sealed (bodyM l))) = (l, 0) := by
 by_cases hp : l.txn % 2 = 0
 · rw [if_pos hp]; unfold chooseM; rw [stand_yes (by omega) re (k := 1) (by omega), stand_yes tl rl (k := 0) (by omega)]; simp; omega
 · rw [if_neg hp]; unfold chooseM; rw [stand_yes (by omega) re (k := 0) (by omega), stand_yes tl rl (k := 1) (by omega)]; simp; omega
structure OnDisk (S : St) (B : PSt) (el : Mt) : Prop where
 bas : Bas S.pages.length B
 cache : ∀ y, S.cache y = none
 rl : rightM B.M = true
 re : rightM el = true
 tx : el.txn + 1 = B.M.txn
 pl : S.page ((B.M.txn % 2 : Nat) : Int) = sealed (bodyM B.M)
 pe : S.page ((el.txn % 2 : Nat) : Int) = sealed (bodyM el)
 chain : ChainOn S B
theorem choose_pages {S : St} {l e : Mt} (re : rightM e = true) (rl : rightM l = true) (tl : l.txn < 18446744073709551616) (tx : e.txn + 1 = l.txn) (pl : S.page ((l.txn % 2 : Nat) : Int) = sealed (bodyM l)) (pe : S.page ((e.txn % 2 : Nat) : Int) = sealed (bodyM e)) : chooseM (S.page 0) (S.page 1) = (l, 0) := by
 have h := choose_two re rl tl tx; by_cases hp : l.txn % 2 = 0
 · rw [if_pos hp] at h; rw [hp] at pl; rw [show e.txn % 2 = 1 by omega] at pe; rw [show S.page 0 = sealed (bodyM l) from pl, show S.page 1 = sealed (bodyM e) from pe]; exact h
 · rw [if_neg hp] at h; rw [show l.txn % 2 = 1 by omega] at pl; rw [show e.txn % 2 = 0 by omega] at pe; rw [show S.page 1 = sealed (bodyM l) from pl, show S.page 0 = sealed (bodyM e) from pe]; exact h
theorem OnDisk.opens {S : St} {B : PSt} {el : Mt} (h : OnDisk S B el) : openE S = 0 ∧ openS S = B :=
 open_of h.bas h.chain (choose_pages h.re h.rl h.bas.ok.tx h.tx h.pl h.pe)
theorem putS_alive : ∀ (l : List Sheet) (S : St), S.fuse = -1 → (∀ x ∈ l, inR S x.1) → (putS S l).2 = 0 ∧ (putS S l).1.fuse = -1
 | [], S, hf, _ => by
   have e : putS S [] = (S.trySync, syncE S) := rfl; rw [e]; unfold St.trySync syncE; rw [if_neg (by omega), if_neg (by omega)]; refine ⟨rfl, ?_⟩; show (if 0 < S.fuse then S.fuse - 1 else S.fuse) = -1; rw [if_neg (by omega), hf]
 | x :: r, S, hf, hl => by
   have hx := hl x (List.mem_cons_self ..); have he : writeE S x.1 256 = 0 := by
    unfold inR at hx; unfold writeE; rw [if_neg (by omega), if_neg (by omega), if_pos rfl]
   unfold putS; rw [if_pos he, tryWrite_eq he]; refine putS_alive r (S.write x.1 x.2) ?_ (fun y hy => hl y (List.mem_cons_of_mem _ hy)); show (if 0 < S.fuse then S.fuse - 1 else S.fuse) = -1; rw [if_neg (by omega), hf]
theorem ids_layC (t : Nat) : ∀ (C I : List Int), ids (layC t C I) = C
 | [], _ => rfl
 | c :: r, I => by
   show c :: ids (layC t r (I.drop 59)) = _; rw [ids_layC t r]
def baseP (z : Nat) : PSt := ⟨meta1 z, (allIds z).take (needN (z - 2)), 0, ⟨(z : Int), (allIds z).drop (needN (z - 2)), []⟩, fun _ => none⟩
def formatted (z : Nat) : St := (putS (fresh z) (formatL z)).1
theorem allIds_nodup (z : Nat) : (allIds z).Nodup := (allIds_rising z).imp fun h => by omega
theorem formatL_ids (z : Nat) : ids (formatL z) = 0 :: 1 :: (allIds z).take (needN (z - 2)) := by
 unfold formatL; show 0 :: 1 :: ids (layC 1 _ _) = _; rw [ids_layC]
theorem formatL_in (z : Nat) (h1 : 8 ≤ z) : ∀ x ∈ formatL z, inR (fresh z) x.1 := fun x hx => by
 have hm : x.1 ∈ ids (formatL z) := List.mem_map_of_mem hx; rw [formatL_ids] at hm; have hl : ((fresh z).pages.length : Int) = (z : Int) := by rw [fresh_len]
 unfold inR; rw [hl]; rcases List.mem_cons.1 hm with h | hm
 · omega
 · rcases List.mem_cons.1 hm with h | hm
   · omega
   · have := mem_allIds.1 (List.mem_of_mem_take hm); omega
theorem formatted_spec (z : Nat) (h1 : 8 ≤ z) (h2 : z ≤ 1024) : (putS (fresh z) (formatL z)).2 = 0 ∧ (formatted z).fuse = -1 ∧ (formatted z).pages.length = z ∧ (formatted z).done ≤ 2000 ∧ OnDisk (formatted z) (baseP z) (meta0 z) := by
 have hin := formatL_in z h1; have hal := putS_alive (formatL z) (fresh z) rfl hin; have hsp := putS_spec (formatL z) (fresh z) hin; have hlen : (formatted z).pages.length = z := hsp.len.trans (fresh_len z); have hk := needN_le (z - 2) (by omega); have hnd : (ids (formatL z)).Nodup := by
  rw [formatL_ids]; have hb : ∀ x ∈ (allIds z).take (needN (z - 2)), 2 ≤ x := fun x hx => (mem_allIds.1 (List.mem_of_mem_take hx)).1
  refine List.nodup_cons.2 ⟨fun h => ?_, List.nodup_cons.2 ⟨fun h => ?_, (allIds_nodup z).sublist (List.take_sublist _ _)⟩⟩
  · rcases List.mem_cons.1 h with h | h
    · omega
    · have := hb _ h; omega
  · have := hb _ h; omega
 have hhas := putS_has (formatL z) (fresh z) hin hnd hal.1; have hm := meta_right z h1 h2; refine ⟨hal.1, hal.2, hlen, ?_, ⟨?_, (hsp.good hal.1).1, hm.2, hm.1, rfl, ?_, ?_, ⟨1, by omega, fun x hx => hhas x ?_⟩⟩⟩
 · have hd := putS_done (formatL z) (fresh z); have hl : (formatL z).length = 2 + needN (z - 2) := by
    unfold formatL; simp only [List.length_append, layC_length, List.length_take, allIds_length, List.length_cons, List.length_nil]; omega
   have h0 : (fresh z).done = 0 := rfl; show (putS (fresh z) (formatL z)).1.done ≤ _; omega
 · rw [hlen]; have hbd : ∀ x ∈ allIds z, 2 ≤ x ∧ x < (z : Int) := fun x hx => mem_allIds.1 hx
   have hdis : ∀ x ∈ (allIds z).take (needN (z - 2)), x ∉ (allIds z).drop (needN (z - 2)) := fun x hx hy => by
    have h3 := allIds_nodup z; rw [← List.take_append_drop (needN (z - 2)) (allIds z), List.nodup_append] at h3; exact h3.2.2 x hx x hy rfl
   refine ⟨⟨rfl, rfl, by show (1 : Nat) < _; omega, (allIds_nodup z).sublist (List.take_sublist _ _), fun x hx => hbd x (List.mem_of_mem_take hx), fun x hx => ⟨hdis x hx, fun h => (by cases h)⟩, fun x _ h => (by cases h), fun x bs e => (by cases e)⟩, h1, h2, rfl, (allIds_rising z).sublist (List.drop_sublist _ _), fun x hx => hbd x (List.mem_of_mem_drop hx), rfl, ?_, rfl, ?_⟩
   · show (2 : Int) = headN ((allIds z).take (needN (z - 2))); obtain ⟨k, hk'⟩ : ∃ k, needN (z - 2) = k + 1 := ⟨needN (z - 2) - 1, by omega⟩
     obtain ⟨n, hn'⟩ : ∃ n, z - 2 = n + 1 := ⟨z - 3, by omega⟩
     rw [hk']; unfold allIds; rw [hn', List.range_succ_eq_map]; rfl
   · show ((allIds z).drop (needN (z - 2))).length ≤ 59 * ((allIds z).take (needN (z - 2))).length; rw [List.length_drop, List.length_take, allIds_length]; have : needN (z - 2) = (z - 2 + 59) / 60 := rfl; omega
 · exact hhas (1, sealed (bodyM (meta1 z))) (by unfold formatL; simp)
 · exact hhas (0, sealed (bodyM (meta0 z))) (by unfold formatL; simp)
 · unfold formatL; exact List.mem_append_right _ hx
end Go.Proofs.YtcapcobkildmcaaGreatDoor
end
