/-
  The walk of the law DiskReads.
-/
import Derived.Test.YtfmljiidgaoihaaDiskCopiesWalk
import Derived.Test.YtfmljiidgaoihaaDq
namespace Go.Proofs.Ytfmljiidgaoihaa
open Go.ChangeShapes Go.WideShapes Go.ChangeAt Go.RowKit
set_option linter.unusedVariables false
/-- A read, whatever it answers: new memory alone. -/
theorem read_quiet (d : Dk) (S : St) (p : Int) (w : World) (h : Dsk w d S) :
    Calls Try.prog 12 #[.pointer (some ⟨d.r, 0, none⟩), .int .i64 p] w fun e w' => ∃ v, e = .returned v ∧ Hid (Below w.heap.size w w') := by
  by_cases hf : S.fuse = 0
  · exact (read_no d p 10 w (by omega) (has_dead d S p w h hf)).mono fun e w' ⟨a, b⟩ => ⟨_, a, by subst b; exact kept (Below.refl _ _)⟩
  by_cases hp : p < 0 ∨ (S.pages.length : Int) ≤ p
  · exact (read_no d p 2 w (by omega) (has_range d S p w h hf hp)).mono fun e w' ⟨a, b⟩ => ⟨_, a, by subst b; exact kept (Below.refl _ _)⟩
  · exact (read_ok d S p w h hf (by omega) (by omega)).mono fun e w' ⟨b, a, _, _, hb⟩ => ⟨_, a, kept hb⟩
theorem cached_quiet (d : Dk) (S : St) (w : World) (h : Dsk w d S) (hd : S.done ≤ 1000000) :
    Calls Try.prog 20 #[.pointer (some ⟨d.r, 0, none⟩)] w fun e w' => ∃ v, e = .returned v ∧ Hid (Below w.heap.size w w') :=
  (cached_any d S w h hd).mono fun e w' ⟨_, _, _, a, _, _, _, hb⟩ => ⟨_, a, kept hb⟩
namespace diskReads
/-- Both disks, alike. -/
def Twins (W : World) (c d : Dk) (k : Nat) (wr : World) : Prop := ∃ S, Dsk wr c S ∧ Dsk wr d S ∧ S.done ≤ k ∧ Below W.heap.size W wr
/-- Behind the act on both. -/
theorem Twins.step {W wr w3 w4 : World} {c d : Dk} {S : St} {k : Nat} {o : Obj} {a : Ac} (hC : Dsk wr c S) (hD : Dsk wr d S) (hd : S.done ≤ k) (hb : Below W.heap.size W wr) (hnc : ∀ i, c.own i → W.heap.size ≤ i) (hnd : ∀ i, d.own i → W.heap.size ≤ i) (hap : ∀ i, c.own i → ¬ d.own i)
    (h3 : Left (wr.alloc o) c (S.act a) w3) (h4 : Left w3 d (S.act a) w4) : Twins W c d (k + 1) w4 := by
  have B1 : Below W.heap.size W (wr.alloc o) := hb.alloc hb.size _
  have B3 := Turned.only_new B1 h3.2 B1.size hnc
  exact ⟨S.act a, h3.1.turned h4.2 hap, h4.1, Nat.le_trans (act_done _ _) (by omega), Turned.only_new B3 h4.2 B3.size hnd⟩
theorem Twins.on {W w4 w5 : World} {c d : Dk} {k : Nat} (h : Twins W c d k w4) (hb : Below w4.heap.size w4 w5) : Twins W c d k w5 := by
  obtain ⟨S, h1, h2, h3, h4⟩ := h
  exact ⟨S, h1.below hb, h2.below hb, h3, h4.trans (hb.mono h4.size)⟩
/-- The act's own block stays, while the first disk is turned. -/
theorem act_stays {wr w3 : World} {c : Dk} {S T : St} {cs : List Value} {t : TypeId} (hC : Dsk wr c S) (h : Blk (wr.alloc (.cells cs.toArray t)) wr.heap.size t cs) (h3 : Left (wr.alloc (.cells cs.toArray t)) c T w3) : Blk w3 wr.heap.size t cs :=
  h3.2.blk h (fun ho => by have := hC.lt _ ho; omega)
set_option maxRecDepth 100000 in
set_option maxHeartbeats 1000000 in
theorem walk (w : World) (A1 : Option Addr) (n1 c1 : Nat) (hnc1 : n1 ≤ c1) (hcm1 : c1 ≤ maxLen) (K1 P1 N1 X1 : Nat → Int) (hr1 : RdActs w A1 n1 K1 P1 N1 X1) (A2 : Option Addr) (n2 c2 : Nat) (hnc2 : n2 ≤ c2) (hcm2 : c2 ≤ maxLen) (Z2 : Nat → Int) (hr2 : RdVals w A2 n2 (fun i => .int .i64 (Z2 i)) ∧ ∀ i, i < n2 → (Lit.int .i64 (Z2 i)).wf = true) :
    Calls Try.prog 8 #[.slice A1 n1 c1, .slice A2 n2 c2] w fun e w' => e = .returned (.bool true) ∧ Below w.heap.size w w' := by
  by_cases g1 : 60 < n1
  · have hd : (60 : Int) < (n1 : Int) := by omega
    clear hr1 hr2 hcm1 hcm2
    go_enter Try.func8, Try.ntmps8
    go_wp2_with fail
    with_reducible refine (new16 _).mono ?_
    rintro e w1 ⟨c, rfl, hd1, hn1, hb1⟩
    have HB1 := kept hb1
    clear hd1 hn1 hb1
    go_wp2_with fail
    with_reducible refine (new16 _).mono ?_
    rintro e w2 ⟨d, rfl, hd2, hn2, hb2⟩
    have HB2 := kept (HB1.out.trans (hb2.mono HB1.out.size))
    clear hd2 hn2 hb2
    go_wp2_with fail
    with_reducible refine (lives_any _).mono ?_
    rintro e w3 ⟨rfl, hb3⟩
    have HB3 := kept (HB2.out.trans (hb3.mono HB2.out.size))
    clear hb3
    go_wp2_with fail
    with_reducible refine (lives_any _).mono ?_
    rintro e w4 ⟨rfl, hb4⟩
    have HB4 := kept (HB3.out.trans (hb4.mono HB3.out.size))
    clear hb4
    go_wp2
    go_ret
    exact ⟨rfl, HB4.out⟩
  by_cases g2 : 60 < n2
  · have hd : ¬ (60 : Int) < (n1 : Int) := by omega
    have hd2 : (60 : Int) < (n2 : Int) := by omega
    clear hr1 hr2 hcm1 hcm2
    go_enter Try.func8, Try.ntmps8
    go_wp2_with fail
    with_reducible refine (new16 _).mono ?_
    rintro e w1 ⟨c, rfl, hd1, hn1, hb1⟩
    have HB1 := kept hb1
    clear hd1 hn1 hb1
    go_wp2_with fail
    with_reducible refine (new16 _).mono ?_
    rintro e w2 ⟨d, rfl, hd2, hn2, hb2⟩
    have HB2 := kept (HB1.out.trans (hb2.mono HB1.out.size))
    clear hd2 hn2 hb2
    go_wp2_with fail
    with_reducible refine (lives_any _).mono ?_
    rintro e w3 ⟨rfl, hb3⟩
    have HB3 := kept (HB2.out.trans (hb3.mono HB2.out.size))
    clear hb3
    go_wp2_with fail
    with_reducible refine (lives_any _).mono ?_
    rintro e w4 ⟨rfl, hb4⟩
    have HB4 := kept (HB3.out.trans (hb4.mono HB3.out.size))
    clear hb4
    go_wp2
    go_ret
    exact ⟨rfl, HB4.out⟩
  · have hd : ¬ (60 : Int) < (n1 : Int) := by omega
    have hd2 : ¬ (60 : Int) < (n2 : Int) := by omega
    have HR := kept hr1
    have HR2 := kept hr2.1
    clear hr1 hr2 hcm1 hcm2
    go_enter Try.func8, Try.ntmps8
    go_wp2_with fail
    with_reducible refine (new16 _).mono ?_
    rintro e w1 ⟨c, rfl, hc1, hn1, hb1⟩
    have HC1 := kept hc1
    have HN1 := kept hn1
    have HB1 := kept hb1
    clear hc1 hn1 hb1
    go_wp2_with fail
    with_reducible refine (new16 _).mono ?_
    rintro e w2 ⟨d, rfl, hd2', hn2, hb2⟩
    have HD2 := kept hd2'
    have HN2 := kept hn2
    have HB2 := kept hb2
    clear hd2' hn2 hb2
    go_wp2_with (first | (go_at_call 11; (with_reducible refine (lives_any _).mono ?_); rintro e w3 ⟨rfl, hb3⟩; have HB3 := kept hb3; clear hb3))
    have HAP : Hid (∀ i, c.own i → ¬ d.own i) := kept (fun i h1 h2 => by have := HC1.out.lt i h1; have := HN2.out i h2; omega)
    have HND : Hid (∀ i, d.own i → w.heap.size ≤ i) := kept (fun i hi => Nat.le_trans HB1.out.size (HN2.out i hi))
    have HS : Hid (Twins w c d 0 w3) := kept ⟨_, (HC1.out.below HB2.out).below HB3.out, HD2.out.below HB3.out, Nat.le_refl _, (HB1.out.trans (HB2.out.mono HB1.out.size)).trans (HB3.out.mono (Nat.le_trans HB1.out.size HB2.out.size))⟩
    go_loopw [30] (fun i wr => ∃ k : Nat, k ≤ n1 ∧ i = .int .i64 (k : Int) ∧ Twins w c d k wr) (fun i _ => n1 - (intOf i).toNat)
    case atStart => exact ⟨0, Nat.zero_le _, rfl, HS.out⟩
    case round =>
      obtain ⟨k, hkn, rfl, S, hc, hd, hdn, hb⟩ := hrel
      have HC := kept hc
      have HD := kept hd
      have HDN := kept hdn
      have HB := kept hb
      clear hc hd hdn hb
      by_cases hlt : k < n1
      · obtain ⟨b, o, rfl, c0, c1', c2', c3⟩ := (HR.out.below HB.out).there hlt
        have HDO := kept (do_act c S (K1 k) (P1 k) (N1 k) (X1 k) (wr.alloc (.cells #[.int .i64 (K1 k), .int .i64 (P1 k), .int .i64 (N1 k), .int .u8 (X1 k)] 42)) (HC.out.below ((Below.refl _ wr).alloc (Nat.le_refl _) _)) (acOf_ok HR.out hlt) (by have := HDN.out; omega))
        have HBK : Hid (Blk (wr.alloc (.cells #[.int .i64 (K1 k), .int .i64 (P1 k), .int .i64 (N1 k), .int .u8 (X1 k)] 42)) wr.heap.size 42 [.int .i64 (K1 k), .int .i64 (P1 k), .int .i64 (N1 k), .int .u8 (X1 k)]) := kept (Blk.new wr 42 #[.int .i64 (K1 k), .int .i64 (P1 k), .int .i64 (N1 k), .int .u8 (X1 k)])
        go_wp2_with fail
        with_reducible refine HDO.out.mono ?_
        rintro e w4 ⟨rfl, h4⟩
        have H4 : Hid (Left (wr.alloc (.cells #[.int .i64 (K1 k), .int .i64 (P1 k), .int .i64 (N1 k), .int .u8 (X1 k)] 42)) c (S.act ⟨K1 k, P1 k, N1 k, X1 k⟩) w4) := kept h4.out
        have HK4 : Hid (Blk w4 wr.heap.size 42 [.int .i64 (K1 k), .int .i64 (P1 k), .int .i64 (N1 k), .int .u8 (X1 k)]) := kept (h4.out.2.blk HBK.out (fun ho => by have := HC.out.lt _ ho; omega))
        have hD4 : Dsk w4 d S := (HD.out.below ((Below.refl _ wr).alloc (Nat.le_refl _) (.cells #[.int .i64 (K1 k), .int .i64 (P1 k), .int .i64 (N1 k), .int .u8 (X1 k)] 42))).turned h4.out.2 (fun i hi ho => HAP.out i ho hi)
        have HDO2 := kept (do_act d S (K1 k) (P1 k) (N1 k) (X1 k) w4 hD4 (acOf_ok HR.out hlt) (by have := HDN.out; omega))
        have e0 : w4.cell? ⟨wr.heap.size, 0, none⟩ = some (.int .i64 (K1 k)) := HK4.out.cell 0
        have e1 : w4.cell? ⟨wr.heap.size, 1, none⟩ = some (.int .i64 (P1 k)) := HK4.out.cell 1
        have e2 : w4.cell? ⟨wr.heap.size, 2, none⟩ = some (.int .i64 (N1 k)) := HK4.out.cell 2
        have e3 : w4.cell? ⟨wr.heap.size, 3, none⟩ = some (.int .u8 (X1 k)) := HK4.out.cell 3
        clear h4 hD4 c0 c1' c2' c3
        go_wp2_with fail
        with_reducible refine HDO2.out.mono ?_
        rintro e w5 ⟨rfl, h5⟩
        have HE5 : Hid (Twins w c d (k + 1) w5) := kept (Twins.step HC.out HD.out HDN.out HB.out (fun i hi => HN1.out i hi) HND.out HAP.out H4.out h5.out)
        clear h5 e0 e1 e2 e3
        by_cases h2 : k < n2
        · obtain ⟨A2a, rfl, hz⟩ := (HR2.out.below HE5.out.choose_spec.2.2.2).at_ h2
          obtain ⟨T, hTc, hTd, hTn, hTb⟩ := HE5.out
          have HTD := kept hTd
          have HTN := kept hTn
          have HRQ := kept (read_quiet d T (Z2 k) w5 hTd)
          clear hTc hTd hTn hTb
          go_wp2_with (first | (go_at_call 12; (with_reducible refine (HRQ.out).mono ?_); rintro e w6 ⟨v6, rfl, h6⟩))
          have HCQ := kept (cached_quiet d T w6 (HTD.out.below h6.out) (by have := HTN.out; omega))
          go_wp2_with (first | (go_at_call 20; (with_reducible refine (HCQ.out).mono ?_); rintro e w7 ⟨v7, rfl, h7⟩))
          have HE : Hid (Twins w c d (k + 1) w7) := kept ((HE5.out.on h6.out).on h7.out)
          clear h6 h7
          go_roundw
          case rel => exact ⟨k + 1, by omega, by go_num, HE.out⟩
          case measure => simp [intOf]; omega
        · have HE := HE5
          go_wp2
          go_roundw
          case rel => exact ⟨k + 1, by omega, by go_num, HE.out⟩
          case measure => simp [intOf]; omega
      · obtain rfl : k = n1 := by omega
        have HIC := kept (image_any c S wr HC.out)
        go_wp2_with (first | (go_at_call 31; (with_reducible refine (HIC.out).mono ?_); rintro e w4 ⟨A4, c4, rfl, h4⟩))
        have HD4 := kept (HD.out.below h4.out.2.1)
        have HC4 := kept (HC.out.below h4.out.2.1)
        have HID := kept (image_any d S w4 HD4.out)
        go_wp2_with (first | (go_at_call 31; (with_reducible refine (HID.out).mono ?_); rintro e w5 ⟨A5, c5, rfl, h5⟩))
        have HSM := kept (same_any A4 A5 (imgN S) (imgN S) c4 c5 _ _ w5 (h4.out.1.below h5.out.2.1) h5.out.1 true (by simp))
        have HDC := kept (done_any c S w5 (HC4.out.below h5.out.2.1))
        have HDD := kept (done_any d S w5 (HD4.out.below h5.out.2.1))
        go_wp2_with (first | (go_at_call 25; (with_reducible refine (HSM.out).mono ?_); rintro e w' ⟨rfl, rfl⟩) | (go_at_call 19; (with_reducible refine (HDC.out).mono ?_); rintro e w' ⟨rfl, rfl⟩) | (go_at_call 19; (with_reducible refine (HDD.out).mono ?_); rintro e w' ⟨rfl, rfl⟩))
        go_ret
        exact ⟨rfl, (HB.out.trans (h4.out.2.1.mono HB.out.size)).trans (h5.out.2.1.mono (Nat.le_trans HB.out.size h4.out.2.1.size))⟩
end diskReads
end Go.Proofs.Ytfmljiidgaoihaa
