/-
  The walk of the law GensCompacts.
-/
import Derived.Test.YthpaliagmnclfaaHg
import Derived.BigQuiet
namespace Go.Proofs.Ythpaliagmnclfaa
open Go.ChangeShapes Go.WideShapes Go.ChangeAt Go.RowKit Go.Deep
set_option linter.unusedVariables false
set_option linter.unusedSimpArgs false
namespace gensCompacts
/-- Behind Compact: both histories, and what the one was. -/
structure Cp (w W : World) (r r' : Nat) (F F' : Nat → Prop) (gs : List Gn) (at_ : Int) : Prop where
  a : One w W r F (compactG gs at_)
  b : One w W r' F' gs
  inv : GInv gs
  bd : BdG gs 80
  v : VOk gs
theorem Cp.below {w W W' : World} {r r' : Nat} {F F' : Nat → Prop} {gs : List Gn} {at_ : Int} (h : Cp w W r r' F F' gs at_) (hb : Below W.heap.size W W') : Cp w W' r r' F F' gs at_ := ⟨h.a.below hb, h.b.below hb, h.inv, h.bd, h.v⟩
theorem Cp.bd2 {w W : World} {r r' : Nat} {F F' : Nat → Prop} {gs : List Gn} {at_ : Int} (h : Cp w W r r' F F' gs at_) : BdG (compactG gs at_) 80 := by
  obtain ⟨_, k2, k3⟩ := compact_inv h.inv at_
  refine ⟨Nat.le_trans k3 h.bd.1, fun x hx => ?_⟩
  obtain ⟨y, hy, hl⟩ := k2 x hx
  exact Nat.le_trans hl (h.bd.2 y hy)
theorem Cp.geta {w W : World} {r r' : Nat} {F F' : Nat → Prop} {gs : List Gn} {at_ m : Int} (h : Cp w W r r' F F' gs at_) {o : Option (Rv × Int × Int)} (ho : getG (compactG gs at_) m = o) :
    Calls Try.prog 11 #[.pointer (some ⟨r, 0, none⟩), .int .i64 m] W fun e w' => e = .returned (.tuple #[.agg #[.int .i64 (fnd o).1.1, .int .i64 (fnd o).1.2, .int .i64 (fnd o).2.1, .int .i64 (fnd o).2.2], .bool o.isSome]) ∧ Below W.heap.size W w' :=
  get_f h.a.g (compact_inv h.inv at_).1 h.bd2 (by omega) m ho
theorem Cp.getb {w W : World} {r r' : Nat} {F F' : Nat → Prop} {gs : List Gn} {at_ m : Int} (h : Cp w W r r' F F' gs at_) {o : Option (Rv × Int × Int)} (ho : getG gs m = o) :
    Calls Try.prog 11 #[.pointer (some ⟨r', 0, none⟩), .int .i64 m] W fun e w' => e = .returned (.tuple #[.agg #[.int .i64 (fnd o).1.1, .int .i64 (fnd o).1.2, .int .i64 (fnd o).2.1, .int .i64 (fnd o).2.2], .bool o.isSome]) ∧ Below W.heap.size W w' :=
  get_f h.b.g h.inv h.bd (by omega) m ho
theorem Cp.after {w w2 w3 w4 : World} {r r' : Nat} {F F' : Nat → Prop} {gs : List Gn} {at_ : Int} (h : One w w2 r F gs) (hi : GInv gs) (hbd : BdG gs 80) (hv : VOk gs) (hg : Gs w3 r' F' gs) (hf : ∀ j, F' j → w2.heap.size ≤ j) (hb : Below w2.heap.size w2 w3) (hl : GLeft w3 r F (compactG gs at_) w4) : ∃ F4, Cp w w4 r r' F4 F' gs at_ := by
  have h3 := h.below hb
  have hc := One.copy h.bel hg hf hb
  obtain ⟨F4, k1, k2⟩ := h3.left hl
  exact ⟨F4, k1, hc.other h3 (fun j h1 h2 => apart_of h.g hf j h2 h1) hl, hi, hbd, hv⟩
/-- One more copy, compacted or not yet, beside both; the revision that Compact told stands in block v. -/
structure Ag (w W : World) (r r' r2 : Nat) (F F' F2 : Nat → Prop) (gs : List Gn) (at_ look : Int) (v : Nat) (o0 o : Option (Rv × Int × Int)) (b : Bool) : Prop where
  p : Cp w W r r' F F' gs at_
  a : One w W r2 F2 (compactG gs at_)
  d : ∀ j, F j → ¬ F2 j
  d' : ∀ j, F' j → ¬ F2 j
  k : Blk W v 29 [.int .i64 (fnd o0).1.1, .int .i64 (fnd o0).1.2]
  dv : ¬ F2 v
  e0 : getG gs at_ = o0
  e : getG (compactG gs at_) look = o
  eb : o0.isSome = b
theorem Ag.below {w W W' : World} {r r' r2 : Nat} {F F' F2 : Nat → Prop} {gs : List Gn} {at_ look : Int} {v : Nat} {o0 o : Option (Rv × Int × Int)} {b : Bool} (h : Ag w W r r' r2 F F' F2 gs at_ look v o0 o b) (hb : Below W.heap.size W W') : Ag w W' r r' r2 F F' F2 gs at_ look v o0 o b :=
  ⟨h.p.below hb, h.a.below hb, h.d, h.d', h.k.below hb h.k.lt, h.dv, h.e0, h.e, h.eb⟩
theorem Ag.copy {w W W' : World} {r r' r2 : Nat} {F F' F2 : Nat → Prop} {gs : List Gn} {at_ look : Int} {v : Nat} {o0 o : Option (Rv × Int × Int)} {b : Bool} (h : Cp w W r r' F F' gs at_) (k : Blk W v 29 [.int .i64 (fnd o0).1.1, .int .i64 (fnd o0).1.2]) (e0 : getG gs at_ = o0) (e : getG (compactG gs at_) look = o) (eb : o0.isSome = b) (hg : Gs W' r2 F2 (compactG gs at_)) (hf : ∀ j, F2 j → W.heap.size ≤ j) (hb : Below W.heap.size W W') : Ag w W' r r' r2 F F' F2 gs at_ look v o0 o b :=
  ⟨h.below hb, One.copy h.a.bel hg hf hb, apart_of h.a.g hf, apart_of h.b.g hf, k.below hb k.lt, fun hv => by have := hf v hv; have := k.lt; omega, e0, e, eb⟩
theorem Ag.compact {w W : World} {r r' r2 : Nat} {F F' F2 : Nat → Prop} {gs : List Gn} {at_ look : Int} {v : Nat} {o0 o : Option (Rv × Int × Int)} {b : Bool} (h : Ag w W r r' r2 F F' F2 gs at_ look v o0 o b) :
    Calls Try.prog 10 #[.pointer (some ⟨r2, 0, none⟩), .int .i64 at_] W fun e W' => ∃ F3, Ag w W' r r' r2 F F' F3 gs at_ look v o0 o b ∧ e = .returned (.tuple #[.agg #[.int .i64 (fnd o0).1.1, .int .i64 (fnd o0).1.2], .bool b]) := by
  have he : getG (compactG gs at_) at_ = o0 := by rw [get_compact h.p.inv (Int.le_refl _)]; exact h.e0
  have hc := compact_f h.a.g (compact_inv h.p.inv at_).1 h.p.bd2 (by omega) at_ he
  rw [compact_twice h.p.inv at_ h.p.v, h.eb] at hc
  refine hc.mono fun e W' ⟨he, hl⟩ => ?_
  obtain ⟨F3, k1, k2⟩ := h.a.left hl
  refine ⟨F3, ⟨⟨h.p.a.other h.a h.d hl, h.p.b.other h.a h.d' hl, h.p.inv, h.p.bd, h.p.v⟩, k1, fun j h1 h2 => ?_, fun j h1 h2 => ?_, ?_, fun hv => ?_, h.e0, h.e, h.eb⟩, he⟩
  · rcases k2 j h2 with q | q
    · exact h.d j h1 q
    · have := h.p.a.g.lt h1; omega
  · rcases k2 j h2 with q | q
    · exact h.d' j h1 q
    · have := h.p.b.g.lt h1; omega
  · obtain ⟨_, _, _, t⟩ := hl
    exact t.blk h.k h.dv
  · rcases k2 v hv with q | q
    · exact h.dv q
    · have := h.k.lt; omega
theorem Ag.getx {w W : World} {r r' r2 : Nat} {F F' F2 : Nat → Prop} {gs : List Gn} {at_ look : Int} {v : Nat} {o0 o : Option (Rv × Int × Int)} {b : Bool} (h : Ag w W r r' r2 F F' F2 gs at_ look v o0 o b) :
    Calls Try.prog 11 #[.pointer (some ⟨r2, 0, none⟩), .int .i64 look] W fun e w' => e = .returned (.tuple #[.agg #[.int .i64 (fnd o).1.1, .int .i64 (fnd o).1.2, .int .i64 (fnd o).2.1, .int .i64 (fnd o).2.2], .bool o.isSome]) ∧ Below W.heap.size W w' :=
  get_f h.a.g (compact_inv h.p.inv at_).1 h.p.bd2 (by omega) look h.e
set_option maxHeartbeats 4000000 in
theorem walk (w : World) (A : Option Addr) (n c : Nat) (hnc : n ≤ c) (hcm : c ≤ maxLen) (X : Nat → Ac) (hX : RdAc w A n X) (at_ : Int) (wa : (Lit.int .i64 at_).wf = true) (look : Int) (wl : (Lit.int .i64 look).wf = true) :
    Calls Try.prog 3 #[.slice A n c, .int .i64 at_, .int .i64 look] w fun e w' => e = .returned (.bool true) ∧ Below w.heap.size w w' := by
  have HL := kept (lives_any w)
  have HM := fun W (h : Below w.heap.size w W) => kept (made_any (hX.keeps (Keeps.of_below h)) hnc hcm (fun _ => True) trivial (fun _ _ _ _ _ _ => trivial))
  clear hX hnc hcm wa wl
  go_enter Try.func3, Try.ntmps3
  go_wp2_with (first | (go_at_call 7; (with_reducible refine (HL.out).mono ?_); rintro e w1 ⟨rfl, hb⟩; have HB1 := kept hb; clear hb) | (go_at_call 8; (with_reducible refine ((HM _ HB1.out).out).mono ?_); rintro e w2 hm; obtain ⟨r, F, gs, last, rfl, hg, hi, hbd, hv, _, hF, hb⟩ := hm; have H2 := kept (And.intro (One.mk hg (fun j hj => Nat.le_trans HB1.out.size (hF j hj)) (bel_to hb HB1.out) : One w w2 r F gs) (And.intro hi (And.intro hbd hv))); clear hb hg hi hbd hv hF) | (go_at_call 9; (with_reducible refine ((gcopy_any H2.out.1.g H2.out.2.2.1 (by omega))).mono ?_); rintro e w3 hc; obtain ⟨r', F', rfl, hg, hf, hb⟩ := hc; have HCO := kept (And.intro hg (And.intro hf hb)); obtain ⟨o0, ho0⟩ : ∃ o, getG gs at_ = o := ⟨_, rfl⟩; have HCM := kept (compact_f (H2.out.1.g.below hb) H2.out.2.1 H2.out.2.2.1 (by omega) at_ ho0); clear hb hg hf) | (go_at_call 10; (with_reducible refine (HCM.out).mono ?_); rintro e w4 ⟨rfl, hl⟩; obtain ⟨F4, hcp⟩ := Cp.after H2.out.1 H2.out.2.1 H2.out.2.2.1 H2.out.2.2.2 HCO.out.1 HCO.out.2.1 HCO.out.2.2 hl; have HCP := kept hcp; have HT := fun x y => kept (two_new w4 29 x y); have HBA := fun o => kept ((Below.refl w4.heap.size w4).alloc (Nat.le_refl _) o); have HRV := fun x y => kept (Blk.new w4 29 #[.int .i64 x, .int .i64 y]); clear hl hcp HCM HCO H2 HM HL HB1))
  with_reducible refine ((HCP.out.below (HBA _).out).getb ho0).mono ?_
  rintro e w5 ⟨rfl, hb5⟩
  have hbf : Below w5.heap.size w5 (w5.alloc (.cells #[.int .i64 (fnd o0).1.1, .int .i64 (fnd o0).1.2, .int .i64 (fnd o0).2.1, .int .i64 (fnd o0).2.2] 33)) := (Below.refl _ _).alloc (Nat.le_refl _) _
  have hfk := Blk.new w5 33 #[.int .i64 (fnd o0).1.1, .int .i64 (fnd o0).1.2, .int .i64 (fnd o0).2.1, .int .i64 (fnd o0).2.2]
  have hrk := ((HRV (fnd o0).1.1 (fnd o0).1.2).out.below hb5 (HRV _ _).out.lt).below hbf (((HRV (fnd o0).1.1 (fnd o0).1.2).out.below hb5 (HRV _ _).out.lt).lt)
  have hcp5 := ((HCP.out.below (HBA _).out).below hb5).below hbf
  go_upto_region 7 with fail
  generalize w5.alloc (.cells #[.int .i64 (fnd o0).1.1, .int .i64 (fnd o0).1.2, .int .i64 (fnd o0).2.1, .int .i64 (fnd o0).2.2] 33) = W5 at hbf hfk hrk hcp5 ⊢
  have HRK := kept hrk
  have HCP5 := kept hcp5
  obtain ⟨⟨v0, v1⟩, ⟨f0, f1, f2, f3⟩⟩ : (W5.cell? ⟨w4.heap.size, 0, none⟩ = some (.int .i64 (fnd o0).1.1) ∧ W5.cell? ⟨w4.heap.size, 1, none⟩ = some (.int .i64 (fnd o0).1.2)) ∧ W5.cell? ⟨w5.heap.size, 0, none⟩ = some (.int .i64 (fnd o0).1.1) ∧ W5.cell? ⟨w5.heap.size, 1, none⟩ = some (.int .i64 (fnd o0).1.2) ∧ W5.cell? ⟨w5.heap.size, 2, none⟩ = some (.int .i64 (fnd o0).2.1) ∧ W5.cell? ⟨w5.heap.size, 3, none⟩ = some (.int .i64 (fnd o0).2.2) := ⟨⟨hrk.cell 0, hrk.cell 1⟩, hfk.cell 0, hfk.cell 1, hfk.cell 2, hfk.cell 3⟩
  have hnr := fun W => neq_rv ((fnd o0).1.1, (fnd o0).1.2) ((fnd o0).1.1, (fnd o0).1.2) W
  simp only [decide_true, Bool.not_true] at hnr
  clear hrk hcp5 hbf hfk hb5 HCP HT HBA HRV
  cases hs0 : o0.isSome
  · go_wp2
    have hzz := Blk.new W5 2 #[.int .i64 look, .int .i64 at_, .int .i64 last, .int .i64 (wrap64 (last.tdiv 2))]
    have hbz : Below W5.heap.size W5 (W5.alloc (.cells #[.int .i64 look, .int .i64 at_, .int .i64 last, .int .i64 (wrap64 (last.tdiv 2))] 2)) := (Below.refl _ _).alloc (Nat.le_refl _) _
    have HRK6 := kept (HRK.out.below hbz HRK.out.lt)
    have HCP6 := kept (HCP5.out.below hbz)
    obtain ⟨Z, HZ⟩ : ∃ Z : Nat → Int, Hid (∀ j, j < 4 → (W5.alloc (.cells #[.int .i64 look, .int .i64 at_, .int .i64 last, .int .i64 (wrap64 (last.tdiv 2))] 2)).cell? ⟨W5.heap.size, j, none⟩ = some (.int .i64 (Z j))) := ⟨fun j => match j with | 0 => look | 1 => at_ | 2 => last | _ => wrap64 (last.tdiv 2), kept (fun j hj => by
      match j, hj with
      | 0, _ => exact hzz.cell 0
      | 1, _ => exact hzz.cell 1
      | 2, _ => exact hzz.cell 2
      | 3, _ => exact hzz.cell 3)⟩
    generalize W5.alloc (.cells #[.int .i64 look, .int .i64 at_, .int .i64 last, .int .i64 (wrap64 (last.tdiv 2))] 2) = W6 at HRK6 HCP6 HZ ⊢
    clear hzz hbz v0 v1 f0 f1 f2 f3 HRK HCP5 hnr
    have H0 : Hid (Below W6.heap.size W6 W6) := kept (Below.refl _ _)
    go_loopw [67] (fun i wr => ∃ (j : Nat), j ≤ 4 ∧ i = .int .i64 (j : Int) ∧ Hid (Below W6.heap.size W6 wr)) (fun i _ => 4 - (intOf i).toNat)
    case atStart => exact ⟨0, by omega, rfl, H0⟩
    case round =>
      obtain ⟨j, hj, rfl, HI⟩ := hrel
      clear H0
      by_cases hjn : j < 4
      · have hwj : wrap64 ((j : Int) + 1) = (j : Int) + 1 := IntWalk.wrap64_in _ ⟨by omega, by omega⟩
        have hj0 : (0 : Int) ≤ (j : Int) := by omega
        have hjn' : (j : Int) < 4 := by omega
        have hz := (Keeps.of_below HI.out).cell_ (HZ.out j hjn)
        generalize Z j = m at hz
        have HJ := kept hjn
        by_cases hlt : m < at_
        · clear hjn hj
          go_wp2
          go_roundw
          case rel => exact ⟨j + 1, by have := HJ.out; omega, by go_num, HI⟩
          case measure => have := HJ.out; simp [intOf]; omega
        · obtain ⟨o, ho⟩ : ∃ o, getG gs m = o := ⟨_, rfl⟩
          have ho2 : getG (compactG gs at_) m = o := by rw [get_compact HCP6.out.inv (by omega)]; exact ho
          have HGA := kept ((HCP6.out.below HI.out).geta ho2)
          have HGB := fun W (h : Below wr.heap.size wr W) => kept ((((HCP6.out.below HI.out).below h)).getb ho)
          have HN := fun W => neq_found (fnd o).1.1 (fnd o).1.2 (fnd o).2.1 (fnd o).2.2 (fnd o).1.1 (fnd o).1.2 (fnd o).2.1 (fnd o).2.2 W
          simp only [and_self, decide_true, Bool.not_true] at HN
          clear hjn hj ho ho2
          generalize fnd o = f at HGA HGB HN
          generalize o.isSome = b at HGA HGB
          obtain ⟨⟨q1, q2⟩, fc, fv⟩ := f
          simp only at HGA HGB HN
          go_wp2_with (first | (go_at_call 11; (with_reducible refine (HGA.out).mono ?_); rintro e w7 ⟨rfl, hb⟩; have HB7 := kept hb; have HF7 := kept (Blk.new w7 33 #[.int .i64 q1, .int .i64 q2, .int .i64 fc, .int .i64 fv]); have HB8 := kept ((Below.refl w7.heap.size w7).alloc (Nat.le_refl _) (.cells #[.int .i64 q1, .int .i64 q2, .int .i64 fc, .int .i64 fv] 33)); clear hb))
          with_reducible refine ((HGB _ (bel_to HB8.out HB7.out)).out).mono ?_
          rintro e w9 ⟨rfl, hb9⟩
          have hba : Below w9.heap.size w9 (w9.alloc (.cells #[.int .i64 q1, .int .i64 q2, .int .i64 fc, .int .i64 fv] 33)) := (Below.refl _ _).alloc (Nat.le_refl _) _
          have h7 := (HF7.out.below hb9 HF7.out.lt).below hba (HF7.out.below hb9 HF7.out.lt).lt
          have h9 := Blk.new w9 33 #[.int .i64 q1, .int .i64 q2, .int .i64 fc, .int .i64 fv]
          have HB10 := kept (bel_to hba (bel_to hb9 (bel_to HB8.out (bel_to HB7.out HI.out))))
          go_upto_region 15 with fail
          generalize w9.alloc (.cells #[.int .i64 q1, .int .i64 q2, .int .i64 fc, .int .i64 fv] 33) = W10 at hba h7 h9 HB10 ⊢
          obtain ⟨a0, a1, a2, a3⟩ : W10.cell? ⟨w7.heap.size, 0, none⟩ = some (.int .i64 q1) ∧ W10.cell? ⟨w7.heap.size, 1, none⟩ = some (.int .i64 q2) ∧ W10.cell? ⟨w7.heap.size, 2, none⟩ = some (.int .i64 fc) ∧ W10.cell? ⟨w7.heap.size, 3, none⟩ = some (.int .i64 fv) := ⟨h7.cell 0, h7.cell 1, h7.cell 2, h7.cell 3⟩
          obtain ⟨c0, c1, c2, c3⟩ : W10.cell? ⟨w9.heap.size, 0, none⟩ = some (.int .i64 q1) ∧ W10.cell? ⟨w9.heap.size, 1, none⟩ = some (.int .i64 q2) ∧ W10.cell? ⟨w9.heap.size, 2, none⟩ = some (.int .i64 fc) ∧ W10.cell? ⟨w9.heap.size, 3, none⟩ = some (.int .i64 fv) := ⟨h9.cell 0, h9.cell 1, h9.cell 2, h9.cell 3⟩
          clear hba h7 h9 hb9
          go_wp2
          go_roundw
          case rel => exact ⟨j + 1, by have := HJ.out; omega, by go_num, HB10⟩
          case measure => have := HJ.out; simp [intOf]; omega
      · obtain rfl : j = 4 := by omega
        obtain ⟨o, ho⟩ : ∃ o, getG (compactG gs at_) look = o := ⟨_, rfl⟩
        have HPR := kept (HCP6.out.below HI.out)
        have HRKr := kept (HRK6.out.below HI.out HRK6.out.lt)
        have HOE := kept (And.intro ho0 (And.intro ho hs0))
        clear ho ho0 hs0 hjn hj
        go_wp2_with (first | (go_at_call 9; (with_reducible refine ((gcopy_any HPR.out.a.g HPR.out.bd2 (by omega))).mono ?_); rintro e w7 hc; obtain ⟨r2, F2, rfl, hg, hf, hb⟩ := hc; have HAG := kept (Ag.copy HPR.out HRKr.out HOE.out.1 HOE.out.2.1 HOE.out.2.2 hg hf hb); clear hg hf hb) | (go_at_call 10; (with_reducible refine (HAG.out.compact).mono ?_); rintro e w8 hl; obtain ⟨F3, hal, rfl⟩ := hl; have HAL := kept hal; have HV8 := kept (Blk.new w8 29 #[.int .i64 (fnd o0).1.1, .int .i64 (fnd o0).1.2]); have HB8 := kept ((Below.refl w8.heap.size w8).alloc (Nat.le_refl _) (.cells #[.int .i64 (fnd o0).1.1, .int .i64 (fnd o0).1.2] 29)); clear hal) | (go_at_call 11; (with_reducible refine ((HAL.out.below HB8.out).getx).mono ?_); rintro e w9 ⟨rfl, hb⟩; have HB9 := kept hb; have HF9 := kept (Blk.new w9 33 #[.int .i64 (fnd o).1.1, .int .i64 (fnd o).1.2, .int .i64 (fnd o).2.1, .int .i64 (fnd o).2.2]); have HB10 := kept ((Below.refl w9.heap.size w9).alloc (Nat.le_refl _) (.cells #[.int .i64 (fnd o).1.1, .int .i64 (fnd o).1.2, .int .i64 (fnd o).2.1, .int .i64 (fnd o).2.2] 33)); clear hb))
        with_reducible refine ((((HAL.out.below HB8.out).below HB9.out).below HB10.out).p.geta HAL.out.e).mono ?_
        rintro e w12 ⟨rfl, hb12⟩
        have hba : Below w12.heap.size w12 (w12.alloc (.cells #[.int .i64 (fnd o).1.1, .int .i64 (fnd o).1.2, .int .i64 (fnd o).2.1, .int .i64 (fnd o).2.2] 33)) := (Below.refl _ _).alloc (Nat.le_refl _) _
        have h9 := (HF9.out.below hb12 HF9.out.lt).below hba (HF9.out.below hb12 HF9.out.lt).lt
        have h12 := Blk.new w12 33 #[.int .i64 (fnd o).1.1, .int .i64 (fnd o).1.2, .int .i64 (fnd o).2.1, .int .i64 (fnd o).2.2]
        have hv9 := (HV8.out.below HB9.out HV8.out.lt).below HB10.out (HV8.out.below HB9.out HV8.out.lt).lt
        have h8 := (hv9.below hb12 hv9.lt).below hba (hv9.below hb12 hv9.lt).lt
        have hal := ((((HAL.out.below HB8.out).below HB9.out).below HB10.out).below hb12).below hba
        go_upto_region 22 with fail
        generalize w12.alloc (.cells #[.int .i64 (fnd o).1.1, .int .i64 (fnd o).1.2, .int .i64 (fnd o).2.1, .int .i64 (fnd o).2.2] 33) = W13 at hba h9 h12 h8 hal ⊢
        have HE := kept hal.p.a.bel
        obtain ⟨⟨a0, a1⟩, ⟨b0, b1⟩⟩ : (W13.cell? ⟨w8.heap.size, 0, none⟩ = some (.int .i64 (fnd o0).1.1) ∧ W13.cell? ⟨w8.heap.size, 1, none⟩ = some (.int .i64 (fnd o0).1.2)) ∧ W13.cell? ⟨w4.heap.size, 0, none⟩ = some (.int .i64 (fnd o0).1.1) ∧ W13.cell? ⟨w4.heap.size, 1, none⟩ = some (.int .i64 (fnd o0).1.2) := ⟨⟨h8.cell 0, h8.cell 1⟩, hal.k.cell 0, hal.k.cell 1⟩
        obtain ⟨c0, c1, c2, c3⟩ : W13.cell? ⟨w9.heap.size, 0, none⟩ = some (.int .i64 (fnd o).1.1) ∧ W13.cell? ⟨w9.heap.size, 1, none⟩ = some (.int .i64 (fnd o).1.2) ∧ W13.cell? ⟨w9.heap.size, 2, none⟩ = some (.int .i64 (fnd o).2.1) ∧ W13.cell? ⟨w9.heap.size, 3, none⟩ = some (.int .i64 (fnd o).2.2) := ⟨h9.cell 0, h9.cell 1, h9.cell 2, h9.cell 3⟩
        obtain ⟨d0, d1, d2, d3⟩ : W13.cell? ⟨w12.heap.size, 0, none⟩ = some (.int .i64 (fnd o).1.1) ∧ W13.cell? ⟨w12.heap.size, 1, none⟩ = some (.int .i64 (fnd o).1.2) ∧ W13.cell? ⟨w12.heap.size, 2, none⟩ = some (.int .i64 (fnd o).2.1) ∧ W13.cell? ⟨w12.heap.size, 3, none⟩ = some (.int .i64 (fnd o).2.2) := ⟨h12.cell 0, h12.cell 1, h12.cell 2, h12.cell 3⟩
        have her := fun W => eql_rv ((fnd o0).1.1, (fnd o0).1.2) ((fnd o0).1.1, (fnd o0).1.2) W
        have hef := fun W => eql_found (fnd o).1.1 (fnd o).1.2 (fnd o).2.1 (fnd o).2.2 (fnd o).1.1 (fnd o).1.2 (fnd o).2.1 (fnd o).2.2 W
        simp only [decide_true, and_self] at her hef
        clear hba h9 h12 hv9 h8 hal hb12 HAL HF9 HV8 HB8 HB9 HB10
        go_wp2
        go_returns
        exact ⟨by simp, HE.out⟩
  · go_wp2
    have hzz := Blk.new W5 2 #[.int .i64 look, .int .i64 at_, .int .i64 last, .int .i64 (wrap64 (last.tdiv 2))]
    have hbz : Below W5.heap.size W5 (W5.alloc (.cells #[.int .i64 look, .int .i64 at_, .int .i64 last, .int .i64 (wrap64 (last.tdiv 2))] 2)) := (Below.refl _ _).alloc (Nat.le_refl _) _
    have HRK6 := kept (HRK.out.below hbz HRK.out.lt)
    have HCP6 := kept (HCP5.out.below hbz)
    obtain ⟨Z, HZ⟩ : ∃ Z : Nat → Int, Hid (∀ j, j < 4 → (W5.alloc (.cells #[.int .i64 look, .int .i64 at_, .int .i64 last, .int .i64 (wrap64 (last.tdiv 2))] 2)).cell? ⟨W5.heap.size, j, none⟩ = some (.int .i64 (Z j))) := ⟨fun j => match j with | 0 => look | 1 => at_ | 2 => last | _ => wrap64 (last.tdiv 2), kept (fun j hj => by
      match j, hj with
      | 0, _ => exact hzz.cell 0
      | 1, _ => exact hzz.cell 1
      | 2, _ => exact hzz.cell 2
      | 3, _ => exact hzz.cell 3)⟩
    generalize W5.alloc (.cells #[.int .i64 look, .int .i64 at_, .int .i64 last, .int .i64 (wrap64 (last.tdiv 2))] 2) = W6 at HRK6 HCP6 HZ ⊢
    clear hzz hbz v0 v1 f0 f1 f2 f3 HRK HCP5 hnr
    have H0 : Hid (Below W6.heap.size W6 W6) := kept (Below.refl _ _)
    go_loopw [67] (fun i wr => ∃ (j : Nat), j ≤ 4 ∧ i = .int .i64 (j : Int) ∧ Hid (Below W6.heap.size W6 wr)) (fun i _ => 4 - (intOf i).toNat)
    case atStart => exact ⟨0, by omega, rfl, H0⟩
    case round =>
      obtain ⟨j, hj, rfl, HI⟩ := hrel
      clear H0
      by_cases hjn : j < 4
      · have hwj : wrap64 ((j : Int) + 1) = (j : Int) + 1 := IntWalk.wrap64_in _ ⟨by omega, by omega⟩
        have hj0 : (0 : Int) ≤ (j : Int) := by omega
        have hjn' : (j : Int) < 4 := by omega
        have hz := (Keeps.of_below HI.out).cell_ (HZ.out j hjn)
        generalize Z j = m at hz
        have HJ := kept hjn
        by_cases hlt : m < at_
        · clear hjn hj
          go_wp2
          go_roundw
          case rel => exact ⟨j + 1, by have := HJ.out; omega, by go_num, HI⟩
          case measure => have := HJ.out; simp [intOf]; omega
        · obtain ⟨o, ho⟩ : ∃ o, getG gs m = o := ⟨_, rfl⟩
          have ho2 : getG (compactG gs at_) m = o := by rw [get_compact HCP6.out.inv (by omega)]; exact ho
          have HGA := kept ((HCP6.out.below HI.out).geta ho2)
          have HGB := fun W (h : Below wr.heap.size wr W) => kept ((((HCP6.out.below HI.out).below h)).getb ho)
          have HN := fun W => neq_found (fnd o).1.1 (fnd o).1.2 (fnd o).2.1 (fnd o).2.2 (fnd o).1.1 (fnd o).1.2 (fnd o).2.1 (fnd o).2.2 W
          simp only [and_self, decide_true, Bool.not_true] at HN
          clear hjn hj ho ho2
          generalize fnd o = f at HGA HGB HN
          generalize o.isSome = b at HGA HGB
          obtain ⟨⟨q1, q2⟩, fc, fv⟩ := f
          simp only at HGA HGB HN
          go_wp2_with (first | (go_at_call 11; (with_reducible refine (HGA.out).mono ?_); rintro e w7 ⟨rfl, hb⟩; have HB7 := kept hb; have HF7 := kept (Blk.new w7 33 #[.int .i64 q1, .int .i64 q2, .int .i64 fc, .int .i64 fv]); have HB8 := kept ((Below.refl w7.heap.size w7).alloc (Nat.le_refl _) (.cells #[.int .i64 q1, .int .i64 q2, .int .i64 fc, .int .i64 fv] 33)); clear hb))
          with_reducible refine ((HGB _ (bel_to HB8.out HB7.out)).out).mono ?_
          rintro e w9 ⟨rfl, hb9⟩
          have hba : Below w9.heap.size w9 (w9.alloc (.cells #[.int .i64 q1, .int .i64 q2, .int .i64 fc, .int .i64 fv] 33)) := (Below.refl _ _).alloc (Nat.le_refl _) _
          have h7 := (HF7.out.below hb9 HF7.out.lt).below hba (HF7.out.below hb9 HF7.out.lt).lt
          have h9 := Blk.new w9 33 #[.int .i64 q1, .int .i64 q2, .int .i64 fc, .int .i64 fv]
          have HB10 := kept (bel_to hba (bel_to hb9 (bel_to HB8.out (bel_to HB7.out HI.out))))
          go_upto_region 15 with fail
          generalize w9.alloc (.cells #[.int .i64 q1, .int .i64 q2, .int .i64 fc, .int .i64 fv] 33) = W10 at hba h7 h9 HB10 ⊢
          obtain ⟨a0, a1, a2, a3⟩ : W10.cell? ⟨w7.heap.size, 0, none⟩ = some (.int .i64 q1) ∧ W10.cell? ⟨w7.heap.size, 1, none⟩ = some (.int .i64 q2) ∧ W10.cell? ⟨w7.heap.size, 2, none⟩ = some (.int .i64 fc) ∧ W10.cell? ⟨w7.heap.size, 3, none⟩ = some (.int .i64 fv) := ⟨h7.cell 0, h7.cell 1, h7.cell 2, h7.cell 3⟩
          obtain ⟨c0, c1, c2, c3⟩ : W10.cell? ⟨w9.heap.size, 0, none⟩ = some (.int .i64 q1) ∧ W10.cell? ⟨w9.heap.size, 1, none⟩ = some (.int .i64 q2) ∧ W10.cell? ⟨w9.heap.size, 2, none⟩ = some (.int .i64 fc) ∧ W10.cell? ⟨w9.heap.size, 3, none⟩ = some (.int .i64 fv) := ⟨h9.cell 0, h9.cell 1, h9.cell 2, h9.cell 3⟩
          clear hba h7 h9 hb9
          go_wp2
          go_roundw
          case rel => exact ⟨j + 1, by have := HJ.out; omega, by go_num, HB10⟩
          case measure => have := HJ.out; simp [intOf]; omega
      · obtain rfl : j = 4 := by omega
        obtain ⟨o, ho⟩ : ∃ o, getG (compactG gs at_) look = o := ⟨_, rfl⟩
        have HPR := kept (HCP6.out.below HI.out)
        have HRKr := kept (HRK6.out.below HI.out HRK6.out.lt)
        have HOE := kept (And.intro ho0 (And.intro ho hs0))
        clear ho ho0 hs0 hjn hj
        go_wp2_with (first | (go_at_call 9; (with_reducible refine ((gcopy_any HPR.out.a.g HPR.out.bd2 (by omega))).mono ?_); rintro e w7 hc; obtain ⟨r2, F2, rfl, hg, hf, hb⟩ := hc; have HAG := kept (Ag.copy HPR.out HRKr.out HOE.out.1 HOE.out.2.1 HOE.out.2.2 hg hf hb); clear hg hf hb) | (go_at_call 10; (with_reducible refine (HAG.out.compact).mono ?_); rintro e w8 hl; obtain ⟨F3, hal, rfl⟩ := hl; have HAL := kept hal; have HV8 := kept (Blk.new w8 29 #[.int .i64 (fnd o0).1.1, .int .i64 (fnd o0).1.2]); have HB8 := kept ((Below.refl w8.heap.size w8).alloc (Nat.le_refl _) (.cells #[.int .i64 (fnd o0).1.1, .int .i64 (fnd o0).1.2] 29)); clear hal) | (go_at_call 11; (with_reducible refine ((HAL.out.below HB8.out).getx).mono ?_); rintro e w9 ⟨rfl, hb⟩; have HB9 := kept hb; have HF9 := kept (Blk.new w9 33 #[.int .i64 (fnd o).1.1, .int .i64 (fnd o).1.2, .int .i64 (fnd o).2.1, .int .i64 (fnd o).2.2]); have HB10 := kept ((Below.refl w9.heap.size w9).alloc (Nat.le_refl _) (.cells #[.int .i64 (fnd o).1.1, .int .i64 (fnd o).1.2, .int .i64 (fnd o).2.1, .int .i64 (fnd o).2.2] 33)); clear hb))
        with_reducible refine ((((HAL.out.below HB8.out).below HB9.out).below HB10.out).p.geta HAL.out.e).mono ?_
        rintro e w12 ⟨rfl, hb12⟩
        have hba : Below w12.heap.size w12 (w12.alloc (.cells #[.int .i64 (fnd o).1.1, .int .i64 (fnd o).1.2, .int .i64 (fnd o).2.1, .int .i64 (fnd o).2.2] 33)) := (Below.refl _ _).alloc (Nat.le_refl _) _
        have h9 := (HF9.out.below hb12 HF9.out.lt).below hba (HF9.out.below hb12 HF9.out.lt).lt
        have h12 := Blk.new w12 33 #[.int .i64 (fnd o).1.1, .int .i64 (fnd o).1.2, .int .i64 (fnd o).2.1, .int .i64 (fnd o).2.2]
        have hv9 := (HV8.out.below HB9.out HV8.out.lt).below HB10.out (HV8.out.below HB9.out HV8.out.lt).lt
        have h8 := (hv9.below hb12 hv9.lt).below hba (hv9.below hb12 hv9.lt).lt
        have hal := ((((HAL.out.below HB8.out).below HB9.out).below HB10.out).below hb12).below hba
        go_upto_region 22 with fail
        generalize w12.alloc (.cells #[.int .i64 (fnd o).1.1, .int .i64 (fnd o).1.2, .int .i64 (fnd o).2.1, .int .i64 (fnd o).2.2] 33) = W13 at hba h9 h12 h8 hal ⊢
        have HE := kept hal.p.a.bel
        obtain ⟨⟨a0, a1⟩, ⟨b0, b1⟩⟩ : (W13.cell? ⟨w8.heap.size, 0, none⟩ = some (.int .i64 (fnd o0).1.1) ∧ W13.cell? ⟨w8.heap.size, 1, none⟩ = some (.int .i64 (fnd o0).1.2)) ∧ W13.cell? ⟨w4.heap.size, 0, none⟩ = some (.int .i64 (fnd o0).1.1) ∧ W13.cell? ⟨w4.heap.size, 1, none⟩ = some (.int .i64 (fnd o0).1.2) := ⟨⟨h8.cell 0, h8.cell 1⟩, hal.k.cell 0, hal.k.cell 1⟩
        obtain ⟨c0, c1, c2, c3⟩ : W13.cell? ⟨w9.heap.size, 0, none⟩ = some (.int .i64 (fnd o).1.1) ∧ W13.cell? ⟨w9.heap.size, 1, none⟩ = some (.int .i64 (fnd o).1.2) ∧ W13.cell? ⟨w9.heap.size, 2, none⟩ = some (.int .i64 (fnd o).2.1) ∧ W13.cell? ⟨w9.heap.size, 3, none⟩ = some (.int .i64 (fnd o).2.2) := ⟨h9.cell 0, h9.cell 1, h9.cell 2, h9.cell 3⟩
        obtain ⟨d0, d1, d2, d3⟩ : W13.cell? ⟨w12.heap.size, 0, none⟩ = some (.int .i64 (fnd o).1.1) ∧ W13.cell? ⟨w12.heap.size, 1, none⟩ = some (.int .i64 (fnd o).1.2) ∧ W13.cell? ⟨w12.heap.size, 2, none⟩ = some (.int .i64 (fnd o).2.1) ∧ W13.cell? ⟨w12.heap.size, 3, none⟩ = some (.int .i64 (fnd o).2.2) := ⟨h12.cell 0, h12.cell 1, h12.cell 2, h12.cell 3⟩
        have her := fun W => eql_rv ((fnd o0).1.1, (fnd o0).1.2) ((fnd o0).1.1, (fnd o0).1.2) W
        have hef := fun W => eql_found (fnd o).1.1 (fnd o).1.2 (fnd o).2.1 (fnd o).2.2 (fnd o).1.1 (fnd o).1.2 (fnd o).2.1 (fnd o).2.2 W
        simp only [decide_true, and_self] at her hef
        clear hba h9 h12 hv9 h8 hal hb12 HAL HF9 HV8 HB8 HB9 HB10
        go_wp2
        go_returns
        exact ⟨by simp, HE.out⟩
end gensCompacts
end Go.Proofs.Ythpaliagmnclfaa
