/-
  The walk of the law GensCopies.
-/
import Derived.Test.YthpaliagmnclfaaHg
import Derived.Test.YthpaliagmnclfaaGt
namespace Go.Proofs.Ythpaliagmnclfaa
open Go.ChangeShapes Go.WideShapes Go.ChangeAt Go.RowKit Go.Deep
set_option linter.unusedVariables false
set_option linter.unusedSimpArgs false
namespace gensCopies
theorem blk_notT {w : World} {b v : Nat} {s : TypeId} {cs : List Value} (h : Blk w v s cs) (h1 : s ≠ 46) (h2 : s ≠ 83) : ¬ OfT b w v := by
  rintro ⟨_, c, u, f, e, hu⟩
  rcases hu with rfl | rfl
  · exact ne_of_types (show w.heap[v]? = some _ from h) e h1 rfl
  · exact ne_of_types (show w.heap[v]? = some _ from h) e h2 rfl
/-- The history as it was, and a copy on which acts are done. -/
structure MC (w wr : World) (r0 : Nat) (F0 : Nat → Prop) (gs0 : List Gn) (f : Rv × Int × Int) (v r b j : Nat) (F : Nat → Prop) (gs : List Gn) (nn : Nat) : Prop where
  one : One w wr r0 F0 gs0
  g : Gs wr r F gs
  inv : GInv gs
  bd : BdG gs (80 + min j 80)
  v_ : VOk gs
  rf : RF wr b nn
  nn : nn ≤ min j 80
  lo : ∀ q, F q → w.heap.size ≤ q
  lb : w.heap.size ≤ b
  d : ∀ q, F0 q → ¬ F q
  k : Blk wr v 33 [.int .i64 f.1.1, .int .i64 f.1.2, .int .i64 f.2.1, .int .i64 f.2.2]
  dv : ¬ F v
theorem MC.below {w wr w' : World} {r0 v r b j nn : Nat} {F0 F : Nat → Prop} {gs0 gs : List Gn} {f : Rv × Int × Int} (h : MC w wr r0 F0 gs0 f v r b j F gs nn) (hb : Below wr.heap.size wr w') : MC w w' r0 F0 gs0 f v r b j F gs nn :=
  ⟨h.one.below hb, h.g.below hb, h.inv, h.bd, h.v_, h.rf.below hb, h.nn, h.lo, h.lb, h.d, h.k.below hb h.k.lt, h.dv⟩
theorem MC.more {w wr : World} {r0 v r b j nn : Nat} {F0 F : Nat → Prop} {gs0 gs : List Gn} {f : Rv × Int × Int} (h : MC w wr r0 F0 gs0 f v r b j F gs nn) : MC w wr r0 F0 gs0 f v r b (j + 1) F gs nn :=
  ⟨h.one, h.g, h.inv, h.bd.mono (by omega), h.v_, h.rf, by have := h.nn; omega, h.lo, h.lb, h.d, h.k, h.dv⟩
theorem MC.step {w wr w' : World} {r0 v r b j nn : Nat} {F0 F : Nat → Prop} {gs0 gs : List Gn} {f : Rv × Int × Int} (h : MC w wr r0 F0 gs0 f v r b j F gs nn) (hj : j < 80) {a : Ac} (hw : wrap64 a.v = a.v) {e : Ending} (hd : DoR wr r F gs b nn a e w') : ∃ (last' : Int) (t : Bool) (F' : Nat → Prop) (gs' : List Gn) (nn' : Nat), e = .returned (.tuple #[.int .i64 last', .bool t]) ∧ MC w w' r0 F0 gs0 f v r b (j + 1) F' gs' nn' := by
  obtain ⟨q, last', t, F', n', he, k1, k2, k3, k4, k5⟩ := hd
  obtain ⟨s1, s2, s3⟩ := step_keeps h.inv a.k q a.c a.v hw h.bd h.v_
  have hsz := h.one.bel.size
  have hF : ∀ j, F' j → w.heap.size ≤ j := fun j hj => by
    rcases k2 j hj with e | e
    · exact h.lo j e
    · omega
  refine ⟨last', t, F', _, n', he, ⟨h.one.g.turned k5 (fun j hj hn => ?_), h.one.lo, bel_left h.one.bel k5 (fun j hj => ?_)⟩, k1, s1, s2.mono (by omega), s3, k3, by have := h.nn; omega, hF, h.lb, fun j h1 h2 => ?_, k5.blk h.k (fun hn => ?_), fun hv => ?_⟩
  · rcases hn with e | e
    · exact h.d j hj e
    · exact h.one.g.notT hj e
  · rcases hj with e | e
    · exact h.lo j e
    · exact Nat.le_trans h.lb e.1
  · rcases k2 j h2 with e | e
    · exact h.d j h1 e
    · have := h.one.g.lt h1; omega
  · rcases hn with e | e
    · exact h.dv e
    · exact blk_notT h.k (by decide) (by decide) e
  · rcases k2 v hv with e | e
    · exact h.dv e
    · have := h.k.lt; omega
theorem MC.new {w w2 w3 : World} {r0 v r : Nat} {F0 F : Nat → Prop} {gs : List Gn} {f : Rv × Int × Int} (h : One w w2 r0 F0 gs) (hi : GInv gs) (hb : BdG gs 80) (hv : VOk gs) (k : Blk w2 v 33 [.int .i64 f.1.1, .int .i64 f.1.2, .int .i64 f.2.1, .int .i64 f.2.2])
    (hg : Gs w3 r F gs) (hf : ∀ j, F j → w2.heap.size ≤ j) (hb3 : Below w2.heap.size w2 w3) : MC w (w3.alloc (.cells #[.slice none 0 0] 46)) r0 F0 gs f v r w3.heap.size 0 F gs 0 := by
  have hba := (Below.refl _ w3).alloc (Nat.le_refl _) (.cells #[.slice none 0 0] 46)
  have hk := Blk.new w3 46 #[.slice none 0 0]
  have hc := One.copy h.bel hg hf hb3
  refine ⟨(h.below hb3).below hba, hg.below hba, hi, hb.mono (by omega), hv, ⟨none, 0, [], hk, World.ownsRow_nil _ _ _ _, rfl⟩, Nat.zero_le _, hc.lo, hc.bel.size, apart_of h.g hf, (k.below hb3 k.lt).below hba (k.below hb3 k.lt).lt, fun hv => ?_⟩
  have := hf v hv
  have := k.lt
  omega
theorem since_len {w : World} {r : Nat} {F : Nat → Prop} {gs : List Gn} (h : Gs w r F gs) (hi : GInv gs) (hN : BdG gs 80) (m : Int) {n : Nat} (hn : (sinceG gs m).length = n) :
    Calls Try.prog 12 #[.pointer (some ⟨r, 0, none⟩), .int .i64 m] w fun e w' => ∃ A' c', e = .returned (.slice A' n c') ∧ Below w.heap.size w w' :=
  (gsince_any h hi hN (by omega) m).mono fun e w' ⟨A', c', he, _, hb⟩ => ⟨A', c', by rw [he, hn], hb⟩
set_option maxHeartbeats 4000000 in
theorem walk (w : World) (A : Option Addr) (n c : Nat) (hnc : n ≤ c) (hcm : c ≤ maxLen) (X : Nat → Ac) (hX : RdAc w A n X) (A1 : Option Addr) (n1 c1 : Nat) (hnc1 : n1 ≤ c1) (hcm1 : c1 ≤ maxLen) (X1 : Nat → Ac) (hX1 : RdAc w A1 n1 X1) (at_ : Int) (wa : (Lit.int .i64 at_).wf = true) :
    Calls Try.prog 5 #[.slice A n c, .slice A1 n1 c1, .int .i64 at_] w fun e w' => e = .returned (.bool true) ∧ Below w.heap.size w w' := by
  have HL := kept (lives_any w)
  have HM := fun W (h : Below w.heap.size w W) => kept (made_any (hX.keeps (Keeps.of_below h)) hnc hcm (fun _ => True) trivial (fun _ _ _ _ _ _ => trivial))
  have HX1 := kept hX1
  have hn1 : (n1 : Int) ≤ 9223372036854775807 := by unfold maxLen at hcm1; omega
  clear hX hnc hcm wa hX1 hcm1 hnc1
  go_enter Try.func5, Try.ntmps5
  go_wp2_with (first | (go_at_call 7; (with_reducible refine (HL.out).mono ?_); rintro e w1 ⟨rfl, hb⟩; have HB1 := kept hb; clear hb) | (go_at_call 8; (with_reducible refine ((HM _ HB1.out).out).mono ?_); rintro e w2 hm; obtain ⟨r, F0, gs, last, rfl, hg, hi, hbd, hv, _, hF, hb⟩ := hm; have H2 := kept (And.intro (One.mk hg (fun j hj => Nat.le_trans HB1.out.size (hF j hj)) (bel_to hb HB1.out) : One w w2 r F0 gs) (And.intro hi (And.intro hbd hv))); obtain ⟨o0, ho0⟩ : ∃ o, getG gs at_ = o := ⟨_, rfl⟩; obtain ⟨sn, hsn⟩ : ∃ k, (sinceG gs 0).length = k := ⟨_, rfl⟩; have HE := kept (And.intro ho0 hsn); have HGB := kept (get_f hg hi hbd (by omega) at_ ho0); clear hb hg hi hbd hv hF ho0 hsn) | (go_at_call 11; (with_reducible refine (HGB.out).mono ?_); rintro e w3 ⟨rfl, hb⟩; have HB3 := kept (bel_to ((Below.refl w3.heap.size w3).alloc (Nat.le_refl _) (.cells #[.int .i64 (fnd o0).1.1, .int .i64 (fnd o0).1.2, .int .i64 (fnd o0).2.1, .int .i64 (fnd o0).2.2] 33)) hb); have HF3 := kept (Blk.new w3 33 #[.int .i64 (fnd o0).1.1, .int .i64 (fnd o0).1.2, .int .i64 (fnd o0).2.1, .int .i64 (fnd o0).2.2]); clear hb) | (go_at_call 12; (with_reducible refine ((since_len (H2.out.1.g.below HB3.out) H2.out.2.1 H2.out.2.2.1 0 HE.out.2)).mono ?_); rintro e w4 hs; obtain ⟨A4, c4, rfl, hb⟩ := hs; have HB4 := kept (bel_to hb HB3.out); have HF4 := kept (HF3.out.below hb HF3.out.lt); clear hb) | (go_at_call 9; (with_reducible refine ((gcopy_any (H2.out.1.g.below HB4.out) H2.out.2.2.1 (by omega))).mono ?_); rintro e w5 hc; obtain ⟨r', F', rfl, hg, hf, hb⟩ := hc; have HMC := kept (MC.new (H2.out.1.below HB4.out) H2.out.2.1 H2.out.2.2.1 H2.out.2.2.2 HF4.out hg hf hb); clear hg hf hb))
  have H0 : Hid (∃ F gs' nn, MC w (w5.alloc (.cells #[.slice none 0 0] 46)) r F0 gs (fnd o0) w3.heap.size r' w5.heap.size 0 F gs' nn) := kept ⟨_, _, _, HMC.out⟩
  generalize w5.alloc (.cells #[.slice none 0 0] 46) = W0 at H0 ⊢
  clear HMC HF4 HB4 HF3 HB3 HGB HM HL HB1
  go_loopw [40, 8] (fun i l wr => ∃ (j : Nat) (last : Int), j ≤ n1 ∧ i = .int .i64 (j : Int) ∧ l = .int .i64 last ∧ Hid (∃ F gs' nn, MC w wr r F0 gs (fnd o0) w3.heap.size r' w5.heap.size j F gs' nn)) (fun i _ _ => n1 - (intOf i).toNat)
  case atStart => exact ⟨0, last, Nat.zero_le _, rfl, rfl, H0⟩
  case round =>
    obtain ⟨j, last2, hj, rfl, rfl, HI⟩ := hrel
    clear H0
    by_cases hjn : j < n1
    · obtain ⟨F, gs', nn, hm⟩ := HI.out
      obtain ⟨g, o, hA, a0, a1, a2, a3, a4, a5⟩ := (HX1.out.keeps (Keeps.of_below hm.one.bel)).1 j hjn
      have HV := kept (HX1.out.2 j hjn)
      generalize X1 j = x at a0 a1 a2 a3 a4 a5 HV
      subst hA
      have hba : Below wr.heap.size wr (wr.alloc (.cells #[.int .i64 x.k, .bool x.nx, .int .i64 x.m, .int .i64 x.s, .int .i64 x.c, .int .i64 x.v] 39)) := (Below.refl _ wr).alloc (Nat.le_refl _) _
      have hm2 := hm.below hba
      have hj0 : (0 : Int) ≤ (j : Int) := by omega
      have hjn' : (j : Int) < (n1 : Int) := by omega
      have hwj : wrap64 ((j : Int) + 1) = (j : Int) + 1 := IntWalk.wrap64_in _ ⟨by omega, by omega⟩
      have HJ := kept hjn
      by_cases h80 : j < 80
      · have h80' : (j : Int) < 80 := by omega
        have HD := fun last => kept (do_any hm2.g hm2.rf hm2.inv hm2.bd (by omega) (by have := hm2.nn; omega) x last)
        have HM := kept (And.intro hm2 h80)
        clear hba hm hm2 HI hj hjn h80
        go_wp2_with (first | (go_at_call 13; (with_reducible refine ((HD _).out).mono ?_); rintro e w6 hd; obtain ⟨last', t, F', gs', nn', rfl, hm3⟩ := HM.out.1.step HM.out.2 HV.out hd; have HM3 : Hid (∃ F gs' nn, MC w w6 r F0 gs (fnd o0) w3.heap.size r' w5.heap.size (j + 1) F gs' nn) := kept ⟨F', gs', nn', hm3⟩; clear hd hm3))
        clear HM HD HV a0 a1 a2 a3 a4 a5
        go_roundw
        case rel => exact ⟨j + 1, last', by have := HJ.out; omega, by go_num, rfl, HM3⟩
        case measure => have := HJ.out; simp [intOf]; omega
      · have h80' : ¬ (j : Int) < 80 := by omega
        have HM3 : Hid (∃ F gs' nn, MC w (wr.alloc (.cells #[.int .i64 x.k, .bool x.nx, .int .i64 x.m, .int .i64 x.s, .int .i64 x.c, .int .i64 x.v] 39)) r F0 gs (fnd o0) w3.heap.size r' w5.heap.size (j + 1) F gs' nn) := kept ⟨F, gs', nn, hm2.more⟩
        clear hba hm hm2 HI hj hjn h80 HV
        go_wp2
        go_roundw
        case rel => exact ⟨j + 1, last2, by have := HJ.out; omega, by go_num, rfl, HM3⟩
        case measure => have := HJ.out; simp [intOf]; omega
    · obtain rfl : j = n1 := by omega
      obtain ⟨F, gs', nn, hm⟩ := HI.out
      have HM := kept hm
      clear hm HI hj hjn
      go_wp2_with fail
      with_reducible refine (get_f HM.out.one.g H2.out.2.1 H2.out.2.2.1 (by omega) at_ HE.out.1).mono ?_
      rintro e w7 ⟨rfl, hb⟩
      have hba : Below w7.heap.size w7 (w7.alloc (.cells #[.int .i64 (fnd o0).1.1, .int .i64 (fnd o0).1.2, .int .i64 (fnd o0).2.1, .int .i64 (fnd o0).2.2] 33)) := (Below.refl _ _).alloc (Nat.le_refl _) _
      have h7 := Blk.new w7 33 #[.int .i64 (fnd o0).1.1, .int .i64 (fnd o0).1.2, .int .i64 (fnd o0).2.1, .int .i64 (fnd o0).2.2]
      have HM8 := kept ((HM.out.below hb).below hba)
      go_upto_region 15 with fail
      generalize w7.alloc (.cells #[.int .i64 (fnd o0).1.1, .int .i64 (fnd o0).1.2, .int .i64 (fnd o0).2.1, .int .i64 (fnd o0).2.2] 33) = W8 at hba h7 HM8 ⊢
      obtain ⟨c0, c1, c2, c3⟩ : W8.cell? ⟨w7.heap.size, 0, none⟩ = some (.int .i64 (fnd o0).1.1) ∧ W8.cell? ⟨w7.heap.size, 1, none⟩ = some (.int .i64 (fnd o0).1.2) ∧ W8.cell? ⟨w7.heap.size, 2, none⟩ = some (.int .i64 (fnd o0).2.1) ∧ W8.cell? ⟨w7.heap.size, 3, none⟩ = some (.int .i64 (fnd o0).2.2) := ⟨h7.cell 0, h7.cell 1, h7.cell 2, h7.cell 3⟩
      obtain ⟨d0, d1, d2, d3⟩ : W8.cell? ⟨w3.heap.size, 0, none⟩ = some (.int .i64 (fnd o0).1.1) ∧ W8.cell? ⟨w3.heap.size, 1, none⟩ = some (.int .i64 (fnd o0).1.2) ∧ W8.cell? ⟨w3.heap.size, 2, none⟩ = some (.int .i64 (fnd o0).2.1) ∧ W8.cell? ⟨w3.heap.size, 3, none⟩ = some (.int .i64 (fnd o0).2.2) := ⟨HM8.out.k.cell 0, HM8.out.k.cell 1, HM8.out.k.cell 2, HM8.out.k.cell 3⟩
      have hef := fun W => eql_found (fnd o0).1.1 (fnd o0).1.2 (fnd o0).2.1 (fnd o0).2.2 (fnd o0).1.1 (fnd o0).1.2 (fnd o0).2.1 (fnd o0).2.2 W
      simp only [decide_true, and_self] at hef
      have HSL := fun W => kept (fun (h : Below W8.heap.size W8 W) => since_len (HM8.out.one.g.below h) H2.out.2.1 H2.out.2.2.1 0 HE.out.2)
      have HB8 := kept (Below.refl W8.heap.size W8)
      clear hba h7 hb
      go_wp2_with (first | (go_at_call 12; (with_reducible refine (((HSL _).out HB8.out)).mono ?_); rintro e w9 hs; obtain ⟨A9, c9, rfl, hb9⟩ := hs; have HB9 := kept (bel_to hb9 HM8.out.one.bel); clear hb9))
      go_returns
      exact ⟨rfl, HB9.out⟩
end gensCopies
end Go.Proofs.Ythpaliagmnclfaa
