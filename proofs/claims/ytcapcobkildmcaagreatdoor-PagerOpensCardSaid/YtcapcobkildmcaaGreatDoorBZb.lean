/- Zb Qv -/
import Derived.Test.YtcapcobkildmcaaGreatDoorBQh
import Derived.Test.YtcapcobkildmcaaGreatDoorBQr
section
namespace Go.Proofs.YtcapcobkildmcaaGreatDoor
open Go.ChangeShapes Go.WideShapes Go.ChangeAt Go.RowKit
set_option linter.unusedVariables false
set_option linter.unusedSimpArgs false
set_option maxRecDepth 100000
set_option maxHeartbeats 16000000
theorem rchain_props (S : St) : ∀ (k : Nat) (a : Int) (C I : List Int), C.Nodup → (∀ x ∈ C, 2 ≤ x ∧ x < (S.pages.length : Int)) → I.length ≤ 59 * C.length →
 (rchain S k a C I).2.1.Nodup ∧ (∀ x ∈ (rchain S k a C I).2.1, 2 ≤ x ∧ x < (S.pages.length : Int)) ∧ (rchain S k a C I).2.2.length ≤ 59 * (rchain S k a C I).2.1.length := by
 have hz : ((4 : Int), ([] : List Int), ([] : List Int)).2.1.Nodup ∧ (∀ x ∈ ((4 : Int), ([] : List Int), ([] : List Int)).2.1, 2 ≤ x ∧ x < (S.pages.length : Int)) ∧ ((4 : Int), ([] : List Int), ([] : List Int)).2.2.length ≤ 59 * ((4 : Int), ([] : List Int), ([] : List Int)).2.1.length := ⟨List.nodup_nil, (fun x hx => by cases hx), Nat.le_refl _⟩
 intro k
 induction k with
 | zero => intro a C I h1 h2 h3; exact hz
 | succ k ih =>
   intro a C I h1 h2 h3; unfold rchain
   split
   · exact ⟨h1, h2, h3⟩
   · split
     · exact hz
     · rename_i hfb
       split
       · exact hz
       · rename_i hac
         split
         · exact ⟨List.nodup_nil, (fun x hx => by cases hx), Nat.le_refl _⟩
         · split
           · exact hz
           · refine ih _ _ _ (nodup_snoc.2 ⟨h1, hac⟩) (fun x hx => ?_) ?_
             · rcases List.mem_append.1 hx with hx | hx
               · exact h2 x hx
               · rw [List.mem_singleton.1 hx]; simpa [finB] using hfb
             · have := decPg_ids (S.page a); simp only [List.length_append, List.length_singleton]; omega
theorem rchain_short (S : St) (hz : S.pages.length ≤ 1024) (a : Int) : (rchain S 1100 a [] []).2.1.length ≤ 1022 ∧ (rchain S 1100 a [] []).2.2.length ≤ 60298 := by
 obtain ⟨h1, h2, h3⟩ := rchain_props S 1100 a [] [] List.nodup_nil (fun x hx => by cases hx) (Nat.le_refl _); have := nodup_short h1 h2 hz; exact ⟨this, by omega⟩
theorem open_bad (d : Dk) (S : St) (w : World) (h : Dsk w d S) (hf : S.fuse ≠ 0) (hF : Fours w) (hE : openE S ≠ 0) :
 Calls Tryz.prog 16 #[.pointer (some ⟨d.r, 0, none⟩)] w fun e w' => e = .returned (.tuple #[.pointer none, .int .i64 (openE S)]) ∧ Below w.heap.size w w' := by
 have H := kept h; have HNW := kept (newest_any d S w h hf hF); have hz1024 : S.pages.length ≤ 1024 := h.1.2.1; have HOE : Hid (openE S = if (chooseM (S.page 0) (S.page 1)).2 ≠ 0 then (chooseM (S.page 0) (S.page 1)).2
 else if (chooseM (S.page 0) (S.page 1)).1.size ≠ (S.pages.length : Int) then 4
 else if (rchain S 1100 (chooseM (S.page 0) (S.page 1)).1.spare [] []).1 ≠ 0 then (rchain S 1100 (chooseM (S.page 0) (S.page 1)).1.spare [] []).1
 else if newErr (chooseM (S.page 0) (S.page 1)).1.size ((rchain S 1100 (chooseM (S.page 0) (S.page 1)).1.spare [] []).2.1 ++ (rchain S 1100 (chooseM (S.page 0) (S.page 1)).1.spare [] []).2.2) ≠ 0 then 4 else 0) := kept rfl
 generalize openE S = E at hE HOE ⊢; generalize chooseM (S.page 0) (S.page 1) = D at HNW HOE; obtain ⟨⟨t, rt, sp, sz⟩, er⟩ := D; simp only at HNW HOE; by_cases h1 : er = 0
 case neg =>
  have hEe : E = er := by rw [HOE.out, if_pos h1]
  subst hEe; have hne : (E != 0) = true := by simpa using h1
  clear HOE hE h hf hF; go_enter Tryz.func16, Tryz.ntmps16; go_wp2_with fail
  with_reducible refine HNW.out.mono ?_
  rintro e w1 ⟨rfl, hb1⟩; have HB1 := kept hb1; clear hb1 HNW; go_wp2; go_returns; exact ⟨rfl, HB1.out.alloc HB1.out.size _⟩
 subst h1; have HRC := kept (fun (W : World) (hb : Below w.heap.size w W) => readChain_any d S sp W (h.below hb) hf (hF.below hb)); have HSH := kept (rchain_short S hz1024 sp); generalize rchain S 1100 sp [] [] = R at HRC HOE HSH; obtain ⟨er, C, I⟩ := R; simp only at HRC HOE HSH; obtain ⟨z, hz⟩ : ∃ z, S.pages.length = z := ⟨_, rfl⟩
 have HSZ := kept (fun (W : World) (hb : Below w.heap.size w W) => size_any d S W (h.below hb)); rw [hz] at HSZ HOE; by_cases h2 : sz = (z : Int)
 case neg =>
  have hEe : E = 4 := by rw [HOE.out, if_neg (by simp), if_pos h2]
  subst hEe; have hne : (sz != (z : Int)) = true := by simpa using h2
  clear HOE hE h hf hF HRC HSH; go_enter Tryz.func16, Tryz.ntmps16; go_wp2_with fail
  with_reducible refine HNW.out.mono ?_
  rintro e w1 ⟨rfl, hb1⟩; have HB1 := kept hb1; clear hb1 HNW; go_wp2; have HM2 : Hid (Blk (w1.alloc (.cells #[.int .u64 (t : Int), .int .i64 rt, .int .i64 sp, .int .i64 sz] 109)) w1.heap.size 109 [.int .u64 (t : Int), .int .i64 rt, .int .i64 sp, .int .i64 sz]) := kept (Blk.new w1 109 #[.int .u64 (t : Int), .int .i64 rt, .int .i64 sp, .int .i64 sz]); have HB2 : Hid (Below w.heap.size w (w1.alloc (.cells #[.int .u64 (t : Int), .int .i64 rt, .int .i64 sp, .int .i64 sz] 109))) := kept (HB1.out.alloc HB1.out.size _); generalize (w1.alloc (.cells #[.int .u64 (t : Int), .int .i64 rt, .int .i64 sp, .int .i64 sz] 109)) = W2 at HM2 HB2 ⊢; have d3 : W2.drew.cell? ⟨w1.heap.size, 3, none⟩ = some (.int .i64 sz) := HM2.out.cell 3; have HSZ2 := kept (HSZ.out W2.drew HB2.out.drew); clear HSZ; refine wp_region_held_drew (S := (fun W' => W'.cell? ⟨w1.heap.size, 3, none⟩ = some (.int .i64 sz))) (by kernel_rfl) ?_ (fun hHeld => ?_)
  · ((try dsimp only); (with_reducible exact d3))
  refine hT 0 (some 21) ?_; refine hT 1 (some 22) ?_; refine hT 2 (some 23) ?_; refine hR 3 (fun K hK => ?_); go_simp
  ((go_at_call 59; (with_reducible refine HSZ2.out.mono ?_); rintro e w3 ⟨rfl, rfl⟩))
  (try go_wp2_with fail); refine hK.out _ _ ?_ (fun hHeld => ?_)
  · ((try dsimp only); (with_reducible exact d3))
  clear hK K; (try simp only [Act.put, hA, h0, h1]); refine hT 4 (some 25) ?_; refine wpAnyH_done (by kernel_rfl) ?_ _; go_wp2; go_returns; exact ⟨rfl, HB2.out.drew⟩
 subst h2; by_cases h3 : er = 0
 case neg =>
  have hEe : E = er := by rw [HOE.out, if_neg (by simp), if_neg (by simp), if_pos h3]
  subst hEe; have hne : (E != 0) = true := by simpa using h3
  clear HOE hE h hf hF HSH; go_enter Tryz.func16, Tryz.ntmps16; go_wp2_with fail
  with_reducible refine HNW.out.mono ?_
  rintro e w1 ⟨rfl, hb1⟩; have HB1 := kept hb1; clear hb1 HNW; go_wp2; have HM2 : Hid (Blk (w1.alloc (.cells #[.int .u64 (t : Int), .int .i64 rt, .int .i64 sp, .int .i64 (z : Int)] 109)) w1.heap.size 109 [.int .u64 (t : Int), .int .i64 rt, .int .i64 sp, .int .i64 (z : Int)]) := kept (Blk.new w1 109 #[.int .u64 (t : Int), .int .i64 rt, .int .i64 sp, .int .i64 (z : Int)]); have HB2 : Hid (Below w.heap.size w (w1.alloc (.cells #[.int .u64 (t : Int), .int .i64 rt, .int .i64 sp, .int .i64 (z : Int)] 109))) := kept (HB1.out.alloc HB1.out.size _); generalize (w1.alloc (.cells #[.int .u64 (t : Int), .int .i64 rt, .int .i64 sp, .int .i64 (z : Int)] 109)) = W2 at HM2 HB2 ⊢; have d3 : W2.drew.cell? ⟨w1.heap.size, 3, none⟩ = some (.int .i64 (z : Int)) := HM2.out.cell 3; have d2 : W2.drew.cell? ⟨w1.heap.size, 2, none⟩ = some (.int .i64 sp) := HM2.out.cell 2; have HSZ2 := kept (HSZ.out W2.drew HB2.out.drew); have HRC2 := kept (HRC.out W2.drew HB2.out.drew); clear HRC HSZ; refine wp_region_held_drew (S := (fun W' => W'.cell? ⟨w1.heap.size, 3, none⟩ = some (.int .i64 (z : Int)))) (by kernel_rfl) ?_ (fun hHeld => ?_)
  · ((try dsimp only); (with_reducible exact d3))
  refine hT 0 (some 21) ?_; refine hT 1 (some 22) ?_; refine hT 2 (some 23) ?_; refine hR 3 (fun K hK => ?_); go_simp
  ((go_at_call 59; (with_reducible refine HSZ2.out.mono ?_); rintro e w3 ⟨rfl, rfl⟩))
  (try go_wp2_with fail); refine hK.out _ _ ?_ (fun hHeld => ?_)
  · ((try dsimp only); (with_reducible exact d3))
  clear hK K; (try simp only [Act.put, hA, h0, h1]); refine hT 4 (some 25) ?_; refine wpAnyH_done (by kernel_rfl) ?_ _; go_wp2_with (first | (go_at_call 60; (with_reducible refine HRC2.out.mono ?_); rintro e w3 ⟨A, n, c, B, m, c', rfl, h3⟩))
  go_returns; exact ⟨rfl, HB2.out.trans ((below_from_drew h3.out.below).mono HB2.out.size)⟩
 subst h3; have h4 : newErr (z : Int) (C ++ I) ≠ 0 := fun h4 => hE (by rw [HOE.out, if_neg (by simp), if_neg (by simp), if_neg (by simp), if_neg (by simpa using h4)])
 have hEe : E = 4 := by rw [HOE.out, if_neg (by simp), if_neg (by simp), if_neg (by simp), if_pos h4]
 subst hEe; obtain ⟨er, her⟩ : ∃ er, newErr (z : Int) (C ++ I) = er := ⟨_, rfl⟩
 rw [her] at h4; have HER := kept her; have HNE := kept h4; have hne : (er != 0) = true := by simpa using h4
 clear HOE hE h hf hF her; go_enter Tryz.func16, Tryz.ntmps16; go_wp2_with fail
 with_reducible refine HNW.out.mono ?_
 rintro e w1 ⟨rfl, hb1⟩; have HB1 := kept hb1; clear hb1 HNW; go_wp2; have HM2 : Hid (Blk (w1.alloc (.cells #[.int .u64 (t : Int), .int .i64 rt, .int .i64 sp, .int .i64 (z : Int)] 109)) w1.heap.size 109 [.int .u64 (t : Int), .int .i64 rt, .int .i64 sp, .int .i64 (z : Int)]) := kept (Blk.new w1 109 #[.int .u64 (t : Int), .int .i64 rt, .int .i64 sp, .int .i64 (z : Int)]); have HB2 : Hid (Below w.heap.size w (w1.alloc (.cells #[.int .u64 (t : Int), .int .i64 rt, .int .i64 sp, .int .i64 (z : Int)] 109))) := kept (HB1.out.alloc HB1.out.size _); generalize (w1.alloc (.cells #[.int .u64 (t : Int), .int .i64 rt, .int .i64 sp, .int .i64 (z : Int)] 109)) = W2 at HM2 HB2 ⊢; have d3 : W2.drew.cell? ⟨w1.heap.size, 3, none⟩ = some (.int .i64 (z : Int)) := HM2.out.cell 3; have d2 : W2.drew.cell? ⟨w1.heap.size, 2, none⟩ = some (.int .i64 sp) := HM2.out.cell 2; have HSZ2 := kept (HSZ.out W2.drew HB2.out.drew); have HRC2 := kept (HRC.out W2.drew HB2.out.drew); clear HRC HSZ; refine wp_region_held_drew (S := (fun W' => W'.cell? ⟨w1.heap.size, 3, none⟩ = some (.int .i64 (z : Int)))) (by kernel_rfl) ?_ (fun hHeld => ?_)
 · ((try dsimp only); (with_reducible exact d3))
 refine hT 0 (some 21) ?_; refine hT 1 (some 22) ?_; refine hT 2 (some 23) ?_; refine hR 3 (fun K hK => ?_); go_simp
 ((go_at_call 59; (with_reducible refine HSZ2.out.mono ?_); rintro e w3 ⟨rfl, rfl⟩))
 (try go_wp2_with fail); refine hK.out _ _ ?_ (fun hHeld => ?_)
 · ((try dsimp only); (with_reducible exact d3))
 clear hK K; (try simp only [Act.put, hA, h0, h1]); refine hT 4 (some 25) ?_; refine wpAnyH_done (by kernel_rfl) ?_ _; go_wp2_with (first | (go_at_call 60; (with_reducible refine HRC2.out.mono ?_); rintro e w3 ⟨A, n, c, B, m, c', rfl, h3⟩))
 have HT := kept h3.out; clear h3 HRC2 HSZ2; have hn : n + m ≤ 62000 := by have h1 := HT.out.ca.1; have h2 := HT.out.ib.1; have h3 := HSH.out; omega
 have HB3 : Hid (Below w.heap.size w w3) := kept (HB2.out.trans ((below_from_drew HT.out.below).mono HB2.out.size)); have HM3 := kept (HM2.out.below (below_from_drew HT.out.below) HM2.out.lt); have d3' : w3.drew.cell? ⟨w1.heap.size, 3, none⟩ = some (.int .i64 (z : Int)) := HM3.out.cell 3; have HMW : Hid (∀ W : World, Below w3.heap.size w3 W → W.cell? ⟨w1.heap.size, 3, none⟩ = some (.int .i64 (z : Int))) := kept (fun W hb => (HM3.out.below hb HM3.out.lt).cell 3); have HCC : Hid (Calls Tryz.prog 62 #[.slice (some ⟨w3.heap.size, 0, none⟩) 2 2] (w3.alloc (.cells #[.slice A n c, .slice B m c'] 60)).drew fun e w' => ∃ A' c'', e = .returned (.slice A' (n + m) c'') ∧ Hid (Says (w3.alloc (.cells #[.slice A n c, .slice B m c'] 60)).drew w' (C ++ I) A' c'')) := kept (by
  have hb := below_ad w3 (.cells #[.slice A n c, .slice B m c'] 60); have hk : Blk (w3.alloc (.cells #[.slice A n c, .slice B m c'] 60)).drew w3.heap.size 60 [.slice A n c, .slice B m c'] := (show Blk _ _ _ _ from Blk.new w3 60 #[.slice A n c, .slice B m c'])
  exact concat2 _ w3.heap.size A B n c m c' C I (hk.cell 0) (hk.cell 1) (HT.out.ca.below hb).reads (HT.out.ib.below hb).reads (by have h1 := HT.out.ca.1; have h2 := HT.out.ib.1; omega))
 refine wp_region_held_drew (S := (fun W' => W'.cell? ⟨w1.heap.size, 3, none⟩ = some (.int .i64 (z : Int)))) (by kernel_rfl) ?_ (fun hHeld => ?_)
 · ((try dsimp only); (with_reducible first | exact d3' | exact HMW.out _ (below_ad _ _) | exact HMW.out _ HB4.out | exact HMW.out _ HB5.out))
 refine hT 0 (some 38) ?_; refine hT 1 (some 39) ?_; refine hT 2 (some 40) ?_; refine hT 3 (some 41) ?_; refine hR 4 (fun K hK => ?_); go_simp; refine hK.out _ _ ?_ (fun hHeld => ?_)
 · ((try dsimp only); (with_reducible first | exact d3' | exact HMW.out _ (below_ad _ _) | exact HMW.out _ HB4.out | exact HMW.out _ HB5.out))
 clear hK K; (try simp only [Act.put, hA, h0, h1]); refine hR 5 (fun K hK => ?_); go_simp
 ((go_at_call 62; (with_reducible refine HCC.out.mono ?_); rintro e w4 ⟨A4, c4, rfl, h4⟩); have HB4 : Hid (Below w3.heap.size w3 w4) := kept ((below_ad w3 _).trans (h4.out.2.1.mono (below_ad w3 _).size)); have hl4 : (C ++ I).length = n + m := (by rw [List.length_append, HT.out.ca.1, HT.out.ib.1]); have HNG : Hid (Calls Tryz.prog 61 #[.int .i64 (z : Int), .slice A4 (n + m) c4] w4 fun e w' => e = .returned (.tuple #[.pointer none, .int .i64 er]) ∧ Hid (Below w4.heap.size w4 w')) := kept (fnew_bad (z : Int) A4 (n + m) c4 (C ++ I) er w4 (by rw [← hl4]; exact h4.out.1.reads) (by omega) HER.out HNE.out))
 (try go_wp2_with fail); refine hK.out _ _ ?_ (fun hHeld => ?_)
 · ((try dsimp only); (with_reducible first | exact d3' | exact HMW.out _ (below_ad _ _) | exact HMW.out _ HB4.out | exact HMW.out _ HB5.out))
 clear hK K; (try simp only [Act.put, hA, h0, h1]); refine hR 6 (fun K hK => ?_); go_simp
 ((go_at_call 61; (with_reducible refine HNG.out.mono ?_); rintro e w5 ⟨rfl, h5⟩); have HB5 : Hid (Below w3.heap.size w3 w5) := kept (HB4.out.trans (h5.out.mono HB4.out.size)))
 (try go_wp2_with fail); refine hK.out _ _ ?_ (fun hHeld => ?_)
 · ((try dsimp only); (with_reducible first | exact d3' | exact HMW.out _ (below_ad _ _) | exact HMW.out _ HB4.out | exact HMW.out _ HB5.out))
 clear hK K; (try simp only [Act.put, hA, h0, h1]); refine hT 7 (some 37) ?_; refine hT 8 (some 45) ?_; refine hT 9 (some 46) ?_; refine hT 10 (some 8) ?_; refine hT 11 (some 9) ?_; refine wpAnyH_done (by kernel_rfl) ?_ _; go_wp2; go_returns; exact ⟨rfl, HB3.out.trans (HB5.out.mono HB3.out.size)⟩
structure InTr (B P : PSt) : Prop where
 M : P.M = B.M
 ch : P.chain = B.chain
 s : ∀ x ∈ P.L.S, x ∈ B.L.S
 a : ∀ x, (P.add x).isSome = true → x ∈ B.L.S
theorem InTr.refl {B : PSt} (h : B.add = fun _ => none) : InTr B B := ⟨rfl, rfl, fun x h => h, fun x hx => by rw [h] at hx; cases hx⟩
def RoomOk (P : PSt) : Prop := needN (P.L.S.length + P.L.H.length + P.chain.length) ≤ P.L.S.length
theorem add_range {P : PSt} {z : Nat} (h : P.ok z) (hz : z ≤ 1024) (x : Int) (hx : (P.add x).isSome = true) : 2 ≤ x ∧ x < 1024 := by
 obtain ⟨bs, e⟩ := Option.isSome_iff_exists.1 hx; have := h.ab x bs e; omega
theorem ids_adSh (add : Adds) : ids (adSh add) = keysL add := by
 unfold ids adSh; rw [List.map_map]; exact List.map_id'' (fun _ => rfl) _
theorem commitL_ids (P : PSt) : ids (commitL P) = keysL P.add ++ settleC P := by
 unfold commitL ids; rw [List.map_append]; show ids (adSh P.add) ++ ids (layC (P.M.txn + 1) (settleC P) (settleL P).S) = _; rw [ids_adSh, ids_layC]
section
variable {B P : PSt} {S : St} {el : Mt} {z : Nat}
theorem commitL_sub (h : P.ok z) (hz : z ≤ 1024) (hi : InTr B P) : ∀ y ∈ ids (commitL P), y ∈ B.L.S := fun y hy => by
 rw [commitL_ids] at hy; rcases List.mem_append.1 hy with hy | hy
 · exact hi.a y ((mem_keysL (add_range h hz) y).1 hy)
 · exact hi.s y (List.mem_of_mem_take hy)
theorem commitL_nodup (h : P.ok z) (hz : z ≤ 1024) (hr : Rising P.L.S) : (ids (commitL P)).Nodup := by
 rw [commitL_ids, List.nodup_append]; refine ⟨(keysL_rising P.add).imp fun h => by omega, (hr.imp fun h => by omega : P.L.S.Nodup).sublist (List.take_sublist _ _), fun x hx y hy e => ?_⟩; obtain ⟨bs, eb⟩ := Option.isSome_iff_exists.1 ((mem_keysL (add_range h hz) x).1 hx); exact (h.ab x bs eb).2.2.2.1 (e ▸ List.mem_of_mem_take hy)
theorem settleC_len (hk : RoomOk P) : (settleC P).length = needN (P.L.S.length + P.L.H.length + P.chain.length) := by
 unfold settleC; rw [List.length_take]; unfold RoomOk at hk; omega
theorem length_addAll_le (S H : List Int) : (addAll S H).length ≤ S.length + H.length := by
 induction H generalizing S with
 | nil => exact Nat.le_refl _
 | cons x r ih =>
   have h1 := ih (addI x S); have h2 : (addI x S).length ≤ S.length + 1 := by
    unfold addI
    split
    · omega
    · rw [ins_length]; omega
   show (addAll (addI x S) r).length ≤ _; simp only [List.length_cons]; omega
theorem next_bas (h : P.ok z) (hl : P.L.ok) (h1 : 8 ≤ z) (h2 : z ≤ 1024) (ht : P.M.txn + 1 < 18446744073709551616) (hk : RoomOk P) : Bas z (nextP P) := by
 have hc : ∀ x ∈ P.chain, 2 ≤ x ∧ x < P.L.z := fun x hx => by rw [h.lz]; exact h.cb x hx
 have hL : (nextP P).L = _ := settleL_is hc; refine ⟨nextP_ok h hl ht, h1, h2, by rw [hL], ?_, fun x hx => ?_, rfl, rfl, rfl, ?_⟩
 · rw [hL]; exact Rising.addAll (Rising.addAll (List.Pairwise.sublist (List.drop_sublist _ _) hl.2.2.1) _) _
 · rcases (mem_settleL hc x).1 hx with hx | hx | hx
   · have := hl.2.2.2.2.1 x (List.mem_of_mem_drop hx); rw [h.lz] at this; exact this
   · have := hl.2.2.2.2.2 x hx; rw [h.lz] at this; exact this
   · exact h.cb x hx
 · rw [hL]; show (addAll (addAll _ _) _).length ≤ 59 * (settleC P).length; rw [settleC_len hk]; have a1 := length_addAll_le (addAll (P.L.S.drop (needN (P.L.S.length + P.L.H.length + P.chain.length))) P.L.H) P.chain; have a2 := length_addAll_le (P.L.S.drop (needN (P.L.S.length + P.L.H.length + P.chain.length))) P.L.H; rw [List.length_drop] at a2; unfold RoomOk at hk; unfold needN at *; omega
structure After (S : St) (P : PSt) (S' : St) : Prop where
 new : ∀ x bs, P.add x = some bs → S'.page x = bs
 old : ∀ y, inR S y → 2 ≤ y → y ∉ ids (commitL P) → S'.page y = S.page y
theorem place_in (h1 : 8 ≤ S.pages.length) (q : Nat) : inR S ((q % 2 : Nat) : Int) := by unfold inR; omega
theorem first_put (hd : OnDisk S B el) (h : P.ok S.pages.length) (hl : P.L.ok) (hi : InTr B P) : (∀ x ∈ commitL P, inR S x.1) ∧ PutSpec S (commitL P) (putS S (commitL P)) ∧ ((putS S (commitL P)).2 = 0 → ∀ x ∈ commitL P, (putS S (commitL P)).1.page x.1 = x.2) := by
 have hin : ∀ x ∈ commitL P, inR S x.1 := fun x hx => by
  have h1 := hd.bas.sb x.1 (commitL_sub h hd.bas.z2 hi x.1 (List.mem_map_of_mem hx)); exact ⟨by omega, h1.2⟩
 exact ⟨hin, putS_spec _ _ hin, fun h0 => putS_has _ _ hin (commitL_nodup h hd.bas.z2 hl.2.2.1) h0⟩
theorem storeS_cases (S : St) (l : List Sheet) (t : Sheet) (h : (storeS S l t).2 = 0) : (putS S l).2 = 0 ∧ storeS S l t = putS (putS S l).1 [t] := by
 unfold storeS at h ⊢; by_cases h1 : (putS S l).2 = 0
 · rw [if_pos h1]; exact ⟨h1, rfl⟩
 · rw [if_neg h1] at h; exact absurd h h1
theorem commit_done (hd : OnDisk S B el) (h : P.ok S.pages.length) (hl : P.L.ok) (hi : InTr B P) (ht : P.M.txn + 1 < 18446744073709551616) (hr : rightM (nextM P) = true) (hk : RoomOk P) (h0 : (commitR P S).2 = 0) :
 OnDisk (commitR P S).1 (nextP P) B.M ∧ After S P (commitR P S).1 ∧ (commitR P S).1.pages.length = S.pages.length := by
 obtain ⟨hin, hsp, hhas⟩ := first_put hd h hl hi; obtain ⟨top, htop⟩ : ∃ t : Sheet, t = ((((P.M.txn + 1) % 2 : Nat) : Int), sealed (bodyM (nextM P))) := ⟨_, rfl⟩
 have hCR : commitR P S = storeS S (commitL P) top := by rw [htop]; rfl
 rw [hCR] at h0 ⊢; obtain ⟨h1, hR⟩ := storeS_cases S (commitL P) top h0; have hg := hsp.good h1; have hH := hhas h1; have hlenR := storeS_len S (commitL P) top; rw [hR] at h0 hlenR ⊢; subst htop; have hz8 := hd.bas.z1; have hl1 : (putS S (commitL P)).1.pages.length = S.pages.length := hsp.len; generalize (putS S (commitL P)).1 = S1 at hg hH hl1 h0 hlenR ⊢; have hin2 : ∀ x ∈ [((((P.M.txn + 1) % 2 : Nat) : Int), sealed (bodyM (nextM P)))], inR S1 x.1 := fun x hx => by
  rw [List.mem_singleton.1 hx]; exact place_in (by omega) _
 have hsp2 := putS_spec _ S1 hin2; have hg2 := hsp2.good h0; have hh2 := putS_has _ S1 hin2 (by simp [ids]) h0 _ (List.mem_singleton.2 rfl); generalize (putS S1 [((((P.M.txn + 1) % 2 : Nat) : Int), sealed (bodyM (nextM P)))]).1 = S2 at hg2 hh2 hlenR ⊢; have hsub := commitL_sub h hd.bas.z2 hi; have hge : ∀ y ∈ ids (commitL P), 2 ≤ y := fun y hy => (hd.bas.sb y (hsub y hy)).1
 have p2 : ∀ y, inR S y → 2 ≤ y → S2.page y = S1.page y := fun y hy h2 => hg2.2 y (by unfold inR at *; rw [hl1]; exact hy) (by simp [ids]; omega)
 have hb := next_bas h hl hd.bas.z1 hd.bas.z2 ht hk; refine ⟨⟨by rw [hlenR]; exact hb, hg2.1, hr, hd.rl, by rw [← hi.M]; rfl, hh2, ?_, ⟨P.M.txn + 1, ht, fun x hx => ?_⟩⟩, ⟨fun x bs e => ?_, fun y hy h2 hn => ?_⟩, hlenR⟩
 · rw [hg2.2 _ (by unfold inR; rw [hl1]; omega) (by simp [ids]; rw [hi.M]; omega), hg.2 _ (by unfold inR; omega) (fun hm => by have := hge _ hm; omega)]; exact hd.pl
 · have hm : x ∈ commitL P := by unfold commitL; exact List.mem_append_right _ hx
   rw [p2 x.1 (hin x hm) (hge _ (List.mem_map_of_mem hm))]; exact hH x hm
 · have hm : (x, bs) ∈ commitL P := by
    unfold commitL; refine List.mem_append_left _ ?_; unfold adSh; exact List.mem_map.2 ⟨x, (mem_keysL (add_range h hd.bas.z2) x).2 (by rw [e]; rfl), by rw [e]; rfl⟩
   rw [p2 x (hin _ hm) (hge _ (List.mem_map_of_mem hm))]; exact hH _ hm
 · rw [p2 y hy h2]; exact hg.2 y hy hn
end
end Go.Proofs.YtcapcobkildmcaaGreatDoor
end
