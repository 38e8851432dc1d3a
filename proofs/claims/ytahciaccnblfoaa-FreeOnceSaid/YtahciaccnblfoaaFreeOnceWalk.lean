/-
  The walk of the law FreeOnce.
-/
import Derived.Test.YtahciaccnblfoaaFk
namespace Go.Proofs.Ytahciaccnblfoaa
open Go.ChangeShapes Go.WideShapes Go.ChangeAt Go.RowKit
open Go.ChangeMaps Go.MapKept
set_option linter.unusedVariables false
set_option linter.unusedSimpArgs false
namespace freeOnce
theorem length_addAll_le (S Z : List Int) : (addAll S Z).length ≤ S.length + Z.length := by
  induction Z generalizing S with
  | nil => exact Nat.le_refl _
  | cons y r ih =>
    show (addAll (addI y S) r).length ≤ _
    have h1 := ih (addI y S)
    have h2 := length_addI y S
    rw [List.length_cons]
    split at h2 <;> omega
/-- What a round leaves for the test at its end. -/
structure Fit (w : World) (r ms mh : Nat) (sn : FSt) (L1 L2 : Nat) : Prop where
  len : ∀ W, FO w r ms mh sn sn.S sn.H W → (Builtin.len_ #[44] 3 #[.map (some ms)]).run Try.prog W = .ok (.int .i64 (L1 : Int)) W ∧ (Builtin.len_ #[44] 3 #[.map (some mh)]).run Try.prog W = .ok (.int .i64 (L2 : Int)) W
  room : ∀ W, FO w r ms mh sn sn.S sn.H W → Calls Try.prog 15 #[.pointer (some ⟨r, 0, none⟩)] W fun e w' => e = .returned (.int .i64 (L1 : Int)) ∧ W = w'
  held : ∀ W, FO w r ms mh sn sn.S sn.H W → Calls Try.prog 17 #[.pointer (some ⟨r, 0, none⟩)] W fun e w' => ∃ A c, e = .returned (.slice A L2 c) ∧ Hid (FO w r ms mh sn sn.S sn.H w')
theorem Fit.of {w : World} {r ms mh : Nat} (sn : FSt) : Fit w r ms mh sn sn.S.length sn.H.length := ⟨fun W h => ⟨h.one.len _, h.two.len _⟩, fun W h => room_fo h, fun W h => held_fo h⟩
set_option maxRecDepth 100000 in
set_option maxHeartbeats 4000000 in
theorem walk (w : World) (A : Option Addr) (n c : Nat) (hnc : n ≤ c) (hcm : c ≤ maxLen) (Z : Nat → Int) (hr : RdVals w A n (fun i => .int .i64 (Z i)) ∧ ∀ i, i < n → (Lit.int .i64 (Z i)).wf = true)
    (A1 : Option Addr) (n1 c1 : Nat) (hnc1 : n1 ≤ c1) (hcm1 : c1 ≤ maxLen) (K1 N1 : Nat → Int) (hr1 : RdPairs w A1 n1 K1 N1) :
    Calls Try.prog 4 #[.slice A n c, .slice A1 n1 c1] w fun e w' => e = .returned (.bool true) ∧ Below w.heap.size w w' := by
  have HR := kept (RdI.of_vals hr.1)
  have HR1 := kept hr1
  have hm : n ≤ maxLen := Nat.le_trans hnc hcm
  have hm1 : n1 ≤ maxLen := Nat.le_trans hnc1 hcm1
  unfold maxLen at hm hm1
  clear hr hr1 hcm hcm1
  by_cases hbig : (1100 : Int) < (n : Int)
  · go_enter Try.func4, Try.ntmps4
    go_wp2_with fail
    with_reducible refine (lives_any _).mono ?_
    rintro e w1 ⟨rfl, hb1⟩
    have HB1 := kept hb1
    clear hb1
    go_wp2_with fail
    with_reducible refine (lives_any _).mono ?_
    rintro e w2 ⟨rfl, hb2⟩
    have HB2 := kept hb2
    clear hb2
    go_wp2
    go_ret
    exact ⟨rfl, HB1.out.trans (HB2.out.mono HB1.out.size)⟩
  have hn : n ≤ 1100 := by omega
  by_cases he : newErr 64 (lstOf Z n) = 0
  · have HN := kept (fun W (hb : Below w.heap.size w W) => new_mine 64 A n c (lstOf Z n) w W hb (HR.out.below hb) (by omega) he)
    have hz := newErr_zero he
    have HWF : Hid (∀ x ∈ lstOf Z n, Wf x) := kept (fun x hx => by
      have := hz.2.1 x hx
      unfold Wf; omega)
    clear he hz
    have hmm := @run_makeMap Try.prog
    go_enter Try.func4, Try.ntmps4
    go_wp2_with (first | (go_at_call 8; (with_reducible refine (lives_any _).mono ?_); rintro e w1 ⟨rfl, hb1⟩; have HB1 := kept hb1 ; clear hb1) | (go_at_call 9; (with_reducible refine (HN.out _ HB1.out).mono ?_); rintro e w2 ⟨r, rfl, h2⟩))
    have H0 : Hid (FO w r w2.heap.size (w2.heap.size + 1) ⟨64, addAll [] (lstOf Z n), []⟩ (addAll [] ((lstOf Z n).take 0)) [] ((w2.alloc (.map #[] 0)).alloc (.map #[] 0))) := kept (FO.made h2.out.1)
    clear h2 HN HB1
    generalize w2.heap.size = ms at H0 ⊢
    generalize ms + 1 = mh at H0 ⊢
    generalize ((w2.alloc (.map #[] 0)).alloc (.map #[] 0)) = w3 at H0 ⊢
    go_loopw [37] (fun i wr => ∃ k : Nat, k ≤ n ∧ i = .int .i64 (k : Int) ∧ Hid (FO w r ms mh ⟨64, addAll [] (lstOf Z n), []⟩ (addAll [] ((lstOf Z n).take k)) [] wr)) (fun i _ => n - (intOf i).toNat)
    case atStart => exact ⟨0, Nat.zero_le _, rfl, H0⟩
    case round =>
      obtain ⟨k, hk, rfl, HF⟩ := hrel
      clear H0
      by_cases hlt : k < n
      · have hkZ : k < (lstOf Z n).length := by rw [HR.out.1]; exact hlt
        obtain ⟨b, o, rfl, hc⟩ := (HR.out.below HF.out.bel).at_ hlt
        have HT := kept (addAll_take [] (lstOf Z n) k hkZ)
        have HWX := kept (HWF.out _ (List.getElem_mem hkZ))
        have HLN : Hid ((addAll [] ((lstOf Z n).take k)).length < maxLen) := kept (by
          have h1 := length_addAll_le [] ((lstOf Z n).take k)
          have h2 : ((lstOf Z n).take k).length ≤ n := by rw [List.length_take, lstOf_length]; omega
          simp only [List.length_nil] at h1
          unfold maxLen; omega)
        generalize (lstOf Z n)[k] = x at hc HT HWX
        clear hkZ
        go_wp2_with (first | ((at_mapUpdate; refine wpList_put_ms rfl _ _ _ rfl HF.out.one HLN.out rfl x rfl HWX.out rfl ?_; intro w4 hm4 hg4; have HE : Hid (FO w r ms mh ⟨64, addAll [] (lstOf Z n), []⟩ (addAll [] ((lstOf Z n).take (k + 1))) [] w4) := kept (by rw [HT.out]; exact HF.out.put1 hm4 hg4); clear hm4 hg4 hc)))
        go_roundw
        case rel => exact ⟨k + 1, by omega, by go_num, HE⟩
        case measure => simp [intOf]; omega
      · obtain rfl : k = n := by omega
        have ht : (lstOf Z k).take k = lstOf Z k := List.take_of_length_le (by rw [HR.out.1]; exact Nat.le_refl _)
        rw [ht] at HF
        have H0 : Hid (FOD w r ms mh ⟨64, addAll [] (lstOf Z k), []⟩ wr) := kept ⟨HF.out, fun x _ h => by simp at h⟩
        clear ht HF HWF hlt hk HR
        generalize (⟨64, addAll [] (lstOf Z k), []⟩ : FSt) = s0 at H0
        go_wp2
        go_loopw [46, 8] (fun i h wx => ∃ (j mh : Nat) (s : FSt), j ≤ n1 ∧ i = .int .i64 (j : Int) ∧ h = .map (some mh) ∧ Hid (FOD w r ms mh s wx)) (fun i _ _ => n1 - (intOf i).toNat)
        case atStart => exact ⟨0, mh, s0, Nat.zero_le _, rfl, rfl, H0⟩
        case round =>
          obtain ⟨j, mh, s, hj, rfl, rfl, HF⟩ := hrel
          clear H0
          by_cases hlt : j < n1
          · by_cases h80 : (80 : Int) ≤ (j : Int)
            · obtain ⟨b, o, rfl, p0, p1⟩ := (HR1.out.below HF.out.fo.bel).there hlt
              go_wp2
              go_ret
              exact ⟨rfl, (HF.out.fo.alloc _).bel⟩
            · obtain ⟨b, o, rfl, p0, p1⟩ := (HR1.out.below HF.out.fo.bel).there hlt
              have HWN := kept (Wf.of_wf (HR1.out.fits j hlt).2)
              generalize K1 j = K at p0
              generalize N1 j = N at p1 HWN
              by_cases k0 : K = 0
              · subst k0
                have HDI := kept HF.out.dis
                have HOK := kept HF.out.fo.mine.ok
                obtain ⟨z, S, H⟩ := s
                cases S with
                | nil =>
                  have HT : Hid (Calls Try.prog 11 #[.pointer (some ⟨r, 0, none⟩)] (wr.alloc (.cells #[.int .i64 0, .int .i64 N] 39)) fun e w' => e = .returned (.tuple #[.int .i64 0, .int .i64 9]) ∧ Hid (FO w r ms mh ⟨z, [], H⟩ [] H w')) := kept (take_fo (HF.out.fo.alloc _))
                  go_wp2_with (first | (go_at_call 11; (with_reducible refine (HT.out).mono ?_); rintro e w4 ⟨rfl, h4⟩; have hl1 : (Builtin.len_ #[44] 3 #[.map (some ms)]).run Try.prog w4 = .ok (.int .i64 0) w4 := h4.out.one.len _) | (at_delete; refine wpList_del_ms rfl _ _ rfl h4.out.one rfl 0 rfl (by unfold Wf; omega) ?_; intro w5 hm5 hg5; have HE5 : Hid (FOD w r ms mh ⟨z, [], H⟩ w5) := kept ⟨h4.out.put1 hm5 hg5, HDI.out⟩; clear hm5 hg5 hl1 h4 p0 p1; obtain ⟨L1, L2, HFT⟩ : ∃ L1 L2, Hid (Fit w r ms mh (⟨z, [], H⟩ : FSt) L1 L2) := ⟨_, _, kept (Fit.of _)⟩; have HDS := kept HE5.out.dis; obtain ⟨hl1, hl2⟩ := HFT.out.len _ HE5.out.fo) | (go_at_call 15; (with_reducible refine (HFT.out.room _ HE5.out.fo).mono ?_); rintro e w' ⟨rfl, rfl⟩) | (go_at_call 17; (with_reducible refine (HFT.out.held _ HE5.out.fo).mono ?_); rintro e w6 ⟨A6, c6, rfl, h6⟩; clear hl1 hl2))
                  have HN6 : Hid (FOD w r ms mh (⟨z, [], H⟩ : FSt) w6) := kept ⟨h6.out, HDS.out⟩
                  clear h6 HE5 HDS HFT
                  go_roundw
                  case rel => exact ⟨j + 1, mh, (⟨z, [], H⟩ : FSt), by omega, by go_num, rfl, HN6⟩
                  case measure => simp [intOf]; omega
                | cons x S =>
                  have HT : Hid (Calls Try.prog 11 #[.pointer (some ⟨r, 0, none⟩)] (wr.alloc (.cells #[.int .i64 0, .int .i64 N] 39)) fun e w' => e = .returned (.tuple #[.int .i64 x, .int .i64 0]) ∧ Hid (FO w r ms mh ⟨z, S, H⟩ (x :: S) H w')) := kept (take_fo (HF.out.fo.alloc _))
                  have hwx : Wf x := HOK.out.wf.1 x (List.mem_cons_self ..)
                  have hd1 : decide (x ∈ x :: S) = true := by simp
                  have hd2 : decide (x ∈ H) = false := by simpa using HDI.out x (List.mem_cons_self ..)
                  go_wp2_with (first | (go_at_call 11; (with_reducible refine (HT.out).mono ?_); rintro e w4 ⟨rfl, h4⟩; have hl1 : (Instr.lookup 44 (.map (some ms)) (.int .i64 x) false).run Try.prog w4 = .ok (.bool true) w4 := (h4.out.one.look hwx).trans (by rw [hd1]) ; have hl2 : (Instr.lookup 44 (.map (some mh)) (.int .i64 x) false).run Try.prog w4 = .ok (.bool false) w4 := (h4.out.two.look hwx).trans (by rw [hd2])) | (at_delete; refine wpList_del_ms rfl _ _ rfl h4.out.one rfl x rfl hwx ?_; intro w5 hm5 hg5; have HE5 : Hid (FOD w r ms mh ⟨z, S, H⟩ w5) := kept ⟨by have h5 := h4.out.put1 hm5 hg5; rw [delI_head (HOK.out.2.2.1)] at h5; exact h5, fun y hy => HDI.out y (List.mem_cons_of_mem _ hy)⟩; clear hm5 hg5 hl1 hl2 h4 p0 p1 hd1 hd2 hwx; obtain ⟨L1, L2, HFT⟩ : ∃ L1 L2, Hid (Fit w r ms mh (⟨z, S, H⟩ : FSt) L1 L2) := ⟨_, _, kept (Fit.of _)⟩; have HDS := kept HE5.out.dis; obtain ⟨hl1, hl2⟩ := HFT.out.len _ HE5.out.fo) | (go_at_call 15; (with_reducible refine (HFT.out.room _ HE5.out.fo).mono ?_); rintro e w' ⟨rfl, rfl⟩) | (go_at_call 17; (with_reducible refine (HFT.out.held _ HE5.out.fo).mono ?_); rintro e w6 ⟨A6, c6, rfl, h6⟩; clear hl1 hl2))
                  have HN6 : Hid (FOD w r ms mh (⟨z, S, H⟩ : FSt) w6) := kept ⟨h6.out, HDS.out⟩
                  clear h6 HE5 HDS HFT
                  go_roundw
                  case rel => exact ⟨j + 1, mh, (⟨z, S, H⟩ : FSt), by omega, by go_num, rfl, HN6⟩
                  case measure => simp [intOf]; omega
              by_cases k1 : K = 1
              · subst k1
                have HDI := kept HF.out.dis
                have HOK := kept HF.out.fo.mine.ok
                have HT := kept (give_fo (HF.out.fo.alloc (.cells #[.int .i64 1, .int .i64 N] 39)) N)
                have HBK := kept (Blk.new wr 39 #[.int .i64 1, .int .i64 N])
                by_cases hmay : s.may N = 0
                · have HM := kept (may_zero hmay)
                  have HG : Hid (s.give N = { s with S := addI N s.S }) := kept (by unfold FSt.give; rw [if_pos hmay])
                  rw [hmay] at HT
                  clear hmay
                  go_wp2_with (first | (go_at_call 13; (with_reducible refine (HT.out).mono ?_); rintro e w4 ⟨rfl, h4⟩; have p2 : w4.cell? ⟨wr.heap.size, 1, none⟩ = some (.int .i64 N) := (h4.out.2 _ _ HBK.out).cell 1) | (at_mapUpdate; refine wpList_put_ms rfl _ _ _ rfl h4.out.1.one (HOK.out.wf.2.2.1) rfl N rfl HWN.out rfl ?_; intro w5 hm5 hg5; have HE5 : Hid (FOD w r ms mh { s with S := addI N s.S } w5) := kept ⟨by have h5 := h4.out.1.put1 hm5 hg5; rw [HG.out] at h5; exact h5, fun y hy hz => by rcases mem_addI.1 hy with rfl | hy; exact HM.out.2.2 hz; exact HDI.out y hy hz⟩; clear hm5 hg5 h4 p0 p1 p2; obtain ⟨L1, L2, HFT⟩ : ∃ L1 L2, Hid (Fit w r ms mh ({ s with S := addI N s.S } : FSt) L1 L2) := ⟨_, _, kept (Fit.of _)⟩; have HDS := kept HE5.out.dis; obtain ⟨hl1, hl2⟩ := HFT.out.len _ HE5.out.fo) | (go_at_call 15; (with_reducible refine (HFT.out.room _ HE5.out.fo).mono ?_); rintro e w' ⟨rfl, rfl⟩) | (go_at_call 17; (with_reducible refine (HFT.out.held _ HE5.out.fo).mono ?_); rintro e w6 ⟨A6, c6, rfl, h6⟩; clear hl1 hl2))
                  have HN6 : Hid (FOD w r ms mh ({ s with S := addI N s.S } : FSt) w6) := kept ⟨h6.out, HDS.out⟩
                  clear h6 HE5 HDS HFT
                  go_roundw
                  case rel => exact ⟨j + 1, mh, ({ s with S := addI N s.S } : FSt), by omega, by go_num, rfl, HN6⟩
                  case measure => simp [intOf]; omega
                · have hb : (s.may N == 0) = false := by simpa using hmay
                  have HG : Hid (s.give N = s) := kept (by unfold FSt.give; rw [if_neg hmay])
                  generalize s.may N = q at HT hb
                  clear hmay
                  go_wp2_with (first | (go_at_call 13; (with_reducible refine (HT.out).mono ?_); rintro e w5 ⟨rfl, h4⟩; have HE5 : Hid (FOD w r ms mh s w5) := kept ⟨by have h5 := h4.out.1; rw [HG.out] at h5; exact h5, HDI.out⟩; clear h4 p0 p1; obtain ⟨L1, L2, HFT⟩ : ∃ L1 L2, Hid (Fit w r ms mh s L1 L2) := ⟨_, _, kept (Fit.of _)⟩; have HDS := kept HE5.out.dis; obtain ⟨hl1, hl2⟩ := HFT.out.len _ HE5.out.fo) | (go_at_call 15; (with_reducible refine (HFT.out.room _ HE5.out.fo).mono ?_); rintro e w' ⟨rfl, rfl⟩) | (go_at_call 17; (with_reducible refine (HFT.out.held _ HE5.out.fo).mono ?_); rintro e w6 ⟨A6, c6, rfl, h6⟩; clear hl1 hl2))
                  have HN6 : Hid (FOD w r ms mh s w6) := kept ⟨h6.out, HDS.out⟩
                  clear h6 HE5 HDS HFT
                  go_roundw
                  case rel => exact ⟨j + 1, mh, s, by omega, by go_num, rfl, HN6⟩
                  case measure => simp [intOf]; omega
              by_cases k2 : K = 2
              · subst k2
                have HDI := kept HF.out.dis
                have HOK := kept HF.out.fo.mine.ok
                have HT := kept (hold_fo (HF.out.fo.alloc (.cells #[.int .i64 2, .int .i64 N] 39)) N)
                have HBK := kept (Blk.new wr 39 #[.int .i64 2, .int .i64 N])
                by_cases hmay : s.may N = 0
                · have HM := kept (may_zero hmay)
                  have HG : Hid (s.hold N = { s with H := addI N s.H }) := kept (by unfold FSt.hold; rw [if_pos hmay])
                  rw [hmay] at HT
                  clear hmay
                  go_wp2_with (first | (go_at_call 14; (with_reducible refine (HT.out).mono ?_); rintro e w4 ⟨rfl, h4⟩; have p2 : w4.cell? ⟨wr.heap.size, 1, none⟩ = some (.int .i64 N) := (h4.out.2 _ _ HBK.out).cell 1) | (at_mapUpdate; refine wpList_put_ms rfl _ _ _ rfl h4.out.1.two (HOK.out.wf.2.2.2) rfl N rfl HWN.out rfl ?_; intro w5 hm5 hg5; have HE5 : Hid (FOD w r ms mh { s with H := addI N s.H } w5) := kept ⟨by have h5 := h4.out.1.put2 hm5 hg5; rw [HG.out] at h5; exact h5, fun y hy hz => by rcases mem_addI.1 hz with rfl | hz; exact HM.out.2.1 hy; exact HDI.out y hy hz⟩; clear hm5 hg5 h4 p0 p1 p2; obtain ⟨L1, L2, HFT⟩ : ∃ L1 L2, Hid (Fit w r ms mh ({ s with H := addI N s.H } : FSt) L1 L2) := ⟨_, _, kept (Fit.of _)⟩; have HDS := kept HE5.out.dis; obtain ⟨hl1, hl2⟩ := HFT.out.len _ HE5.out.fo) | (go_at_call 15; (with_reducible refine (HFT.out.room _ HE5.out.fo).mono ?_); rintro e w' ⟨rfl, rfl⟩) | (go_at_call 17; (with_reducible refine (HFT.out.held _ HE5.out.fo).mono ?_); rintro e w6 ⟨A6, c6, rfl, h6⟩; clear hl1 hl2))
                  have HN6 : Hid (FOD w r ms mh ({ s with H := addI N s.H } : FSt) w6) := kept ⟨h6.out, HDS.out⟩
                  clear h6 HE5 HDS HFT
                  go_roundw
                  case rel => exact ⟨j + 1, mh, ({ s with H := addI N s.H } : FSt), by omega, by go_num, rfl, HN6⟩
                  case measure => simp [intOf]; omega
                · have hb : (s.may N == 0) = false := by simpa using hmay
                  have HG : Hid (s.hold N = s) := kept (by unfold FSt.hold; rw [if_neg hmay])
                  generalize s.may N = q at HT hb
                  clear hmay
                  go_wp2_with (first | (go_at_call 14; (with_reducible refine (HT.out).mono ?_); rintro e w5 ⟨rfl, h4⟩; have HE5 : Hid (FOD w r ms mh s w5) := kept ⟨by have h5 := h4.out.1; rw [HG.out] at h5; exact h5, HDI.out⟩; clear h4 p0 p1; obtain ⟨L1, L2, HFT⟩ : ∃ L1 L2, Hid (Fit w r ms mh s L1 L2) := ⟨_, _, kept (Fit.of _)⟩; have HDS := kept HE5.out.dis; obtain ⟨hl1, hl2⟩ := HFT.out.len _ HE5.out.fo) | (go_at_call 15; (with_reducible refine (HFT.out.room _ HE5.out.fo).mono ?_); rintro e w' ⟨rfl, rfl⟩) | (go_at_call 17; (with_reducible refine (HFT.out.held _ HE5.out.fo).mono ?_); rintro e w6 ⟨A6, c6, rfl, h6⟩; clear hl1 hl2))
                  have HN6 : Hid (FOD w r ms mh s w6) := kept ⟨h6.out, HDS.out⟩
                  clear h6 HE5 HDS HFT
                  go_roundw
                  case rel => exact ⟨j + 1, mh, s, by omega, by go_num, rfl, HN6⟩
                  case measure => simp [intOf]; omega
              have b0 : (K == 0) = false := by simpa using k0
              have b1 : (K == 1) = false := by simpa using k1
              have b2 : (K == 2) = false := by simpa using k2
              clear k0 k1 k2
              have HT := kept (settle_fo (HF.out.fo.alloc (.cells #[.int .i64 K, .int .i64 N] 39)))
              have HOK := kept HF.out.fo.mine.ok
              have HOS := kept (fun W (h : FO w r ms mh s.settle s.S s.H W) => h.mine.ok)
              go_wp2_with (first | (go_at_call 12; (with_reducible refine (HT.out).mono ?_); rintro e w4 ⟨rfl, h4⟩) | (at_range; refine wpList_range_mv rfl 44 4 _ rfl boolU h4.out.two.mv rfl ?_; intro w0 cnt0 hrg0 hg0 hs0; have HP0 := kept (Pour.start h4.out hrg0 hg0); clear hrg0 hg0 hs0))
              go_frame
              generalize hit : w4.heap.size = it at HP0 ⊢
              clear hit h4 p0 p1
              go_loopw [60] (fun _ wx => ∃ lf Z cnt, Hid (Pour w r ms mh it s.settle s.S s.H lf Z cnt wx)) (fun _ wx => wx.rangeLeft mh it)
              case atStart => exact ⟨_, _, _, HP0⟩
              case round =>
                obtain ⟨lf, Z, cnt, HP⟩ := hrel
                clear HP0
                go_wp2_with (at_next; refine wpList_next_mv rfl _ rfl HP.out.rg rfl ?_ ?_)
                · intro hl0
                  have HE5 : Hid (FOD w r ms wr.heap.size s.settle (wr.alloc (.map #[] 0))) := kept ⟨(HP.out.done hl0 HOK.out.2.2.1).renew, fun x _ h => by simp [FSt.settle] at h⟩
                  clear hl0
                  obtain ⟨L1, L2, HFT⟩ : ∃ L1 L2, Hid (Fit w r ms wr.heap.size s.settle L1 L2) := ⟨_, _, kept (Fit.of _)⟩; have HDS := kept HE5.out.dis; obtain ⟨hl1, hl2⟩ := HFT.out.len _ HE5.out.fo
                  go_wp2_with (first | (go_at_call 15; (with_reducible refine (HFT.out.room _ HE5.out.fo).mono ?_); rintro e w' ⟨rfl, rfl⟩) | (go_at_call 17; (with_reducible refine (HFT.out.held _ HE5.out.fo).mono ?_); rintro e w6 ⟨A6, c6, rfl, h6⟩; clear hl1 hl2))
                  have HN6 : Hid (FOD w r ms wr.heap.size s.settle w6) := kept ⟨h6.out, HDS.out⟩
                  clear h6 HE5 HDS HFT
                  go_roundw
                  case rel => exact ⟨j + 1, wr.heap.size, s.settle, by omega, by go_num, rfl, HN6⟩
                  case measure => simp [intOf]; omega
                · intro p v w5 cnt5 hwp hf hl hr5 hlt5 hg5 hs5 hen
                  have hv : v = .bool true := by
                    unfold setF at hf
                    split at hf
                    · exact (Option.some.inj hf).symm
                    · cases hf
                  subst hv
                  have HFX := kept (HP.out.next hg5)
                  have HR5 := kept hr5
                  have HLT := kept hlt5
                  have HPL := kept hl
                  have HZL : Hid (Z.length < maxLen) := kept (by
                    have hb : ∀ y ∈ Z, 2 ≤ y ∧ y < s.z := fun y hy => by
                      rcases (HP.out.mem y).1 hy with h | h
                      · exact HOK.out.2.2.2.2.1 y h
                      · exact HOK.out.2.2.2.2.2 y h.1
                    have h1 := HOK.out.2.1
                    rcases HP.out.fo.one.1.length_le (fun y hy => (hb y hy).1) (fun y hy => (hb y hy).2) with h | h
                    · rw [h]; unfold maxLen; simp
                    · unfold maxLen; omega)
                  clear hf hr5 hlt5 hg5 hs5 hl
                  go_wp2_with (first | ((at_mapUpdate; refine wpList_put_ms rfl _ _ _ rfl HFX.out.one HZL.out rfl p rfl hwp rfl ?_; intro w6 hm6 hg6; have HE : Hid (Pour w r ms mh it s.settle s.S s.H (fun y => lf y && !decide (y = p)) (addI p Z) cnt5 w6) := kept (HP.out.step HPL.out HFX.out HR5.out hm6 hg6); clear hm6 hg6 hen; go_frame)))
                  go_roundw
                  case rel => exact ⟨_, _, _, HE⟩
                  case measure =>
                    rw [HE.out.rg.size, HP.out.rg.size]
                    exact HLT.out
          · obtain rfl : j = n1 := by omega
            go_wp2
            go_ret
            exact ⟨rfl, HF.out.fo.bel⟩
  · have HN := kept (fun W (hb : Below w.heap.size w W) => new_bad 64 A n c (lstOf Z n) _ W (HR.out.below hb) (by omega) rfl he)
    have hb : (newErr 64 (lstOf Z n) != 0) = true := by simpa using he
    generalize newErr 64 (lstOf Z n) = m at HN hb
    clear he
    go_enter Try.func4, Try.ntmps4
    go_wp2_with (first | (go_at_call 8; (with_reducible refine (lives_any _).mono ?_); rintro e w1 ⟨rfl, hb1⟩; have HB1 := kept hb1 ; clear hb1) | (go_at_call 9; (with_reducible refine (HN.out _ HB1.out).mono ?_); rintro e w2 ⟨rfl, h2⟩))
    go_ret
    exact ⟨rfl, HB1.out.trans (h2.out.mono HB1.out.size)⟩
end freeOnce
end Go.Proofs.Ytahciaccnblfoaa
