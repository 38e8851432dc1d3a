/-
  The walk of the law DiskCopies.
-/
import Derived.Test.YtfmljiidgaoihaaDiskSyncsWalk
import Derived.Test.YtfmljiidgaoihaaDy
namespace Go.Proofs.Ytfmljiidgaoihaa
open Go.ChangeShapes Go.WideShapes Go.ChangeAt Go.RowKit
set_option linter.unusedVariables false
/-- What image answers, dead or not. -/
def imgN (S : St) : Nat := if S.fuse = 0 then 0 else S.pages.length * 256
def imgX (S : St) : List UInt8 := if S.fuse = 0 then [] else img S S.pages.length
def deadB (S : St) : Bool := decide (S.fuse = 0)
theorem image_any (d : Dk) (S : St) (w : World) (h : Dsk w d S) :
    Calls Try.prog 31 #[.pointer (some ⟨d.r, 0, none⟩)] w fun e w' => ∃ A c, e = .returned (.tuple #[.slice A (imgN S) c, .bool (deadB S)]) ∧ Hid (Rd w' A (imgN S) (imgX S) ∧ Below w.heap.size w w' ∧ ∀ a, A = some a → w.heap.size ≤ a.block) := by
  unfold imgN imgX deadB
  by_cases hf : S.fuse = 0
  · simp only [hf, if_true]
    exact (image_dead d S w h hf).mono fun e w' ⟨a, b⟩ => ⟨none, 0, a, by subst b; exact kept ⟨Rd.nil_ _ _, Below.refl _ _, fun a e => by cases e⟩⟩
  · simp only [hf, if_false]
    exact (image_ok d S w h hf).mono fun e w' ⟨A, c, a, b1, b2, b3⟩ => ⟨A, c, a, kept ⟨b1, b2, b3⟩⟩
namespace diskCopies

theorem do_loop {W wr w3 : World} {d : Dk} {S : St} {k : Nat} {o : Obj} {a : Ac} (hl : S.pages.length = 16) (hd : S.done ≤ k) (hb : Below W.heap.size W wr) (hn : ∀ i, d.own i → W.heap.size ≤ i) (h3 : Left (wr.alloc o) d (S.act a) w3) : diskSyncs.Loop W d (k + 1) w3 := by
  have B1 : Below W.heap.size W (wr.alloc o) := hb.alloc hb.size _
  exact ⟨_, h3.1, (act_len _ _).trans hl, Nat.le_trans (act_done _ _) (by omega), Turned.only_new B1 h3.2 B1.size hn⟩
/-- The second loop's round's head: the copy in whatever state, the disk as it was. -/
def Second (W : World) (d c : Dk) (S : St) (A : Option Addr) (k : Nat) (wr : World) : Prop := (∃ T, Dsk wr c T ∧ T.done ≤ 60 + k) ∧ Dsk wr d S ∧ Rd wr A (imgN S) (imgX S) ∧ Below W.heap.size W wr
theorem Second.step {W wr w3 : World} {d c : Dk} {S T : St} {A : Option Addr} {k : Nat} {o : Obj} {a : Ac} (hT : Dsk wr c T) (hd : T.done ≤ 60 + k) (hD : Dsk wr d S) (hR : Rd wr A (imgN S) (imgX S)) (hb : Below W.heap.size W wr) (hn : ∀ i, c.own i → W.heap.size ≤ i) (hap : ∀ i, d.own i → ¬ c.own i)
    (hA : ∀ a, A = some a → ¬ c.own a.block) (h3 : Left (wr.alloc o) c (T.act a) w3) : Second W d c S A (k + 1) w3 := by
  have B1 : Below W.heap.size W (wr.alloc o) := hb.alloc hb.size _
  refine ⟨⟨_, h3.1, Nat.le_trans (act_done _ _) (by omega)⟩, (hD.below ((Below.refl _ wr).alloc (Nat.le_refl _) o)).turned h3.2 hap, h3.2.rd (hR.alloc o) hA, Turned.only_new B1 h3.2 B1.size hn⟩
set_option maxRecDepth 100000 in
set_option maxHeartbeats 1000000 in
theorem walk (w : World) (A1 : Option Addr) (n1 c1 : Nat) (hnc1 : n1 ≤ c1) (hcm1 : c1 ≤ maxLen) (K1 P1 N1 X1 : Nat → Int) (hr1 : RdActs w A1 n1 K1 P1 N1 X1) (A2 : Option Addr) (n2 c2 : Nat) (hnc2 : n2 ≤ c2) (hcm2 : c2 ≤ maxLen) (K2 P2 N2 X2 : Nat → Int) (hr2 : RdActs w A2 n2 K2 P2 N2 X2) :
    Calls Try.prog 7 #[.slice A1 n1 c1, .slice A2 n2 c2] w fun e w' => e = .returned (.bool true) ∧ Below w.heap.size w w' := by
  by_cases g1 : 60 < n1
  · have hd : (60 : Int) < (n1 : Int) := by omega
    clear hr1 hr2 hcm1 hcm2
    go_enter Try.func7, Try.ntmps7
    go_wp2_with (first | (go_at_call 10; (with_reducible refine (new16 _).mono ?_); rintro e w1 ⟨d, rfl, hd1, hn1, hb1⟩; have HB1 := kept hb1; clear hd1 hn1 hb1))
    go_wp2_with fail
    with_reducible refine (lives_any _).mono ?_
    rintro e w2 ⟨rfl, hb2⟩
    have HB2 := kept hb2
    clear hb2
    go_wp2_with fail
    with_reducible refine (lives_any _).mono ?_
    rintro e w3 ⟨rfl, hb3⟩
    have HB3 := kept hb3
    clear hb3
    go_wp2
    go_ret
    exact ⟨rfl, (HB1.out.trans (HB2.out.mono HB1.out.size)).trans (HB3.out.mono (Nat.le_trans HB1.out.size HB2.out.size))⟩
  by_cases g2 : 60 < n2
  · have hd : ¬ (60 : Int) < (n1 : Int) := by omega
    have hd2 : (60 : Int) < (n2 : Int) := by omega
    clear hr1 hr2 hcm1 hcm2
    go_enter Try.func7, Try.ntmps7
    go_wp2_with (first | (go_at_call 10; (with_reducible refine (new16 _).mono ?_); rintro e w1 ⟨d, rfl, hd1, hn1, hb1⟩; have HB1 := kept hb1; clear hd1 hn1 hb1))
    go_wp2_with fail
    with_reducible refine (lives_any _).mono ?_
    rintro e w2 ⟨rfl, hb2⟩
    have HB2 := kept hb2
    clear hb2
    go_wp2_with fail
    with_reducible refine (lives_any _).mono ?_
    rintro e w3 ⟨rfl, hb3⟩
    have HB3 := kept hb3
    clear hb3
    go_wp2
    go_ret
    exact ⟨rfl, (HB1.out.trans (HB2.out.mono HB1.out.size)).trans (HB3.out.mono (Nat.le_trans HB1.out.size HB2.out.size))⟩
  · have hd : ¬ (60 : Int) < (n1 : Int) := by omega
    have hd2 : ¬ (60 : Int) < (n2 : Int) := by omega
    have HR := kept hr1
    have HR2 := kept hr2
    clear hr1 hr2 hcm1 hcm2
    go_enter Try.func7, Try.ntmps7
    go_wp2_with (first | (go_at_call 10; (with_reducible refine (new16 _).mono ?_); rintro e w1 ⟨d, rfl, hd1, hn1, hb1⟩; have HD1 := kept hd1; have HN1 := kept hn1; have HB1 := kept hb1; clear hd1 hn1 hb1))
    go_wp2_with (first | (go_at_call 11; (with_reducible refine (lives_any _).mono ?_); rintro e w2 ⟨rfl, hb2⟩; have HB2 := kept hb2; clear hb2))
    have HS : Hid (diskSyncs.Loop w d 0 w2) := kept ⟨_, HD1.out.below HB2.out, fresh_len 16, Nat.le_refl _, HB1.out.trans (HB2.out.mono HB1.out.size)⟩
    go_loopw [38] (fun i wr => ∃ k : Nat, k ≤ n1 ∧ i = .int .i64 (k : Int) ∧ diskSyncs.Loop w d k wr) (fun i _ => n1 - (intOf i).toNat)
    case atStart => exact ⟨0, Nat.zero_le _, rfl, HS.out⟩
    case round =>
      obtain ⟨k, hkn, rfl, S, hd, hl, hdn, hb⟩ := hrel
      have HD := kept hd
      have HL := kept hl
      have HDN := kept hdn
      have HB := kept hb
      clear hd hl hdn hb
      by_cases hlt : k < n1
      · obtain ⟨b, o, rfl, c0, c1', c2', c3⟩ := (HR.out.below HB.out).there hlt
        have HDO := kept (do_act d S (K1 k) (P1 k) (N1 k) (X1 k) (wr.alloc (.cells #[.int .i64 (K1 k), .int .i64 (P1 k), .int .i64 (N1 k), .int .u8 (X1 k)] 42)) (HD.out.below ((Below.refl _ wr).alloc (Nat.le_refl _) _)) (acOf_ok HR.out hlt) (by have := HDN.out; omega))
        go_wp2_with (first | (go_at_call 30; (with_reducible refine (HDO.out).mono ?_); rintro e w3 ⟨rfl, h3⟩))
        have HE : Hid (diskSyncs.Loop w d (k + 1) w3) := kept (do_loop HL.out HDN.out HB.out HN1.out h3.out)
        clear h3
        go_roundw
        case rel => exact ⟨k + 1, by omega, by go_num, HE.out⟩
        case measure => simp [intOf]; omega
      · obtain rfl : k = n1 := by omega
        go_wp2_with (first | (go_at_call 21; (with_reducible refine (copy_any d S wr HD.out).mono ?_); rintro e w3 ⟨c, rfl, hc3, hn3, hb3⟩; have HC3 := kept hc3; have HN3 := kept hn3; have HB3 := kept hb3; clear hc3 hn3 hb3))
        have HIM := kept (image_any d S w3 (HD.out.below HB3.out))
        go_wp2_with (first | (go_at_call 31; (with_reducible refine (HIM.out).mono ?_); rintro e w4 ⟨A4, c4, rfl, h4⟩))
        have HD4 := kept ((HD.out.below HB3.out).below h4.out.2.1)
        have HC4 := kept (HC3.out.below h4.out.2.1)
        have HDO := kept (done_any d S w4 HD4.out)
        have HIC := kept (image_any c S w4 HC4.out)
        go_wp2_with (first | (go_at_call 19; (with_reducible refine (HDO.out).mono ?_); rintro e w' ⟨rfl, rfl⟩) | (go_at_call 31; (with_reducible refine (HIC.out).mono ?_); rintro e w5 ⟨A5, c5, rfl, h5⟩))
        have HSM := kept (same_any A5 A4 (imgN S) (imgN S) c5 c4 _ _ w5 h5.out.1 (h4.out.1.below h5.out.2.1) true (by simp))
        go_wp2_with (first | (go_at_call 25; (with_reducible refine (HSM.out).mono ?_); rintro e w' ⟨rfl, rfl⟩))
        have HB5 : Hid (Below w.heap.size w w5) := kept (((HB.out.trans (HB3.out.mono HB.out.size)).trans (h4.out.2.1.mono (Nat.le_trans HB.out.size HB3.out.size))).trans (h5.out.2.1.mono (Nat.le_trans (Nat.le_trans HB.out.size HB3.out.size) h4.out.2.1.size)))
        have HAP : Hid (∀ i, d.own i → ¬ c.own i) := kept (fun i h1 h2 => by have := HD.out.lt i h1; have := HN3.out i h2; omega)
        have HAA : Hid (∀ a, A4 = some a → ¬ c.own a.block) := kept (fun a h1 h2 => by have := HC3.out.lt _ h2; have := h4.out.2.2 a h1; omega)
        have HNC : Hid (∀ i, c.own i → w.heap.size ≤ i) := kept (fun i hi => Nat.le_trans HB.out.size (HN3.out i hi))
        have HS2 : Hid (Second w d c S A4 0 w5) := kept ⟨⟨S, HC4.out.below h5.out.2.1, by have := HDN.out; omega⟩, HD4.out.below h5.out.2.1, h4.out.1.below h5.out.2.1, HB5.out⟩
        clear h4 h5
        go_loopw [71] (fun i wx => ∃ k : Nat, k ≤ n2 ∧ i = .int .i64 (k : Int) ∧ Second w d c S A4 k wx) (fun i _ => n2 - (intOf i).toNat)
        case atStart => exact ⟨0, Nat.zero_le _, rfl, HS2.out⟩
        case round =>
          obtain ⟨j, hjn, rfl, ⟨T, ht, htd⟩, hd, hrd, hb⟩ := hrel
          rename World => wx
          have HT := kept ht
          have HTD := kept htd
          have HDX := kept hd
          have HRX := kept hrd
          have HBX := kept hb
          clear ht htd hd hrd hb
          by_cases hlt2 : j < n2
          · obtain ⟨b, o, rfl, c0, c1', c2', c3⟩ := (HR2.out.below HBX.out).there hlt2
            have HDO2 := kept (do_act c T (K2 j) (P2 j) (N2 j) (X2 j) (wx.alloc (.cells #[.int .i64 (K2 j), .int .i64 (P2 j), .int .i64 (N2 j), .int .u8 (X2 j)] 42)) (HT.out.below ((Below.refl _ wx).alloc (Nat.le_refl _) _)) (acOf_ok HR2.out hlt2) (by have := HTD.out; omega))
            go_wp2_with (first | (go_at_call 30; (with_reducible refine (HDO2.out).mono ?_); rintro e w6 ⟨rfl, h6⟩))
            have HE : Hid (Second w d c S A4 (j + 1) w6) := kept (Second.step HT.out HTD.out HDX.out HRX.out HBX.out HNC.out HAP.out HAA.out h6.out)
            clear h6
            go_roundw
            case rel => exact ⟨j + 1, by omega, by go_num, HE.out⟩
            case measure => simp [intOf]; omega
          · obtain rfl : j = n2 := by omega
            have HI7 := kept (image_any d S wx HDX.out)
            go_wp2_with (first | (go_at_call 31; (with_reducible refine (HI7.out).mono ?_); rintro e w7 ⟨A7, c7, rfl, h7⟩))
            have HSM2 := kept (same_any A7 A4 (imgN S) (imgN S) c7 c4 _ _ w7 h7.out.1 (HRX.out.below h7.out.2.1) true (by simp))
            have HDO7 := kept (done_any d S w7 (HDX.out.below h7.out.2.1))
            go_wp2_with (first | (go_at_call 25; (with_reducible refine (HSM2.out).mono ?_); rintro e w' ⟨rfl, rfl⟩) | (go_at_call 19; (with_reducible refine (HDO7.out).mono ?_); rintro e w' ⟨rfl, rfl⟩))
            go_ret
            exact ⟨rfl, HBX.out.trans (h7.out.2.1.mono HBX.out.size)⟩
end diskCopies
end Go.Proofs.Ytfmljiidgaoihaa
