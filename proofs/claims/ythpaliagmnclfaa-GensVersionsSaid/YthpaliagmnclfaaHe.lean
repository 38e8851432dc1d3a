/-
  The law's own helper made: a history of acts, with whatever each act keeps.
-/
import Derived.Test.YthpaliagmnclfaaHd
namespace Go.Proofs.Ythpaliagmnclfaa
open Go.ChangeShapes Go.WideShapes Go.ChangeAt Go.RowKit Go.Deep
set_option linter.unusedVariables false
set_option linter.unusedSimpArgs false

/-- What made answers. -/
def MadeR (P : List Gn → Prop) (w : World) (e : Ending) (w' : World) : Prop := ∃ (r : Nat) (F : Nat → Prop) (gs : List Gn) (last : Int), e = .returned (.tuple #[.pointer (some ⟨r, 0, none⟩), .int .i64 last]) ∧ Gs w' r F gs ∧ GInv gs ∧ BdG gs 80 ∧ VOk gs ∧ P gs ∧ (∀ j, F j → w.heap.size ≤ j) ∧ Below w.heap.size w w'
/-- Between two acts. -/
structure MI (P : List Gn → Prop) (w wr : World) (r b j : Nat) (F : Nat → Prop) (gs : List Gn) (nn : Nat) : Prop where
  g : Gs wr r F gs
  inv : GInv gs
  bd : BdG gs (min j 80)
  v : VOk gs
  p : P gs
  rf : RF wr b nn
  nn : nn ≤ min j 80
  lo : ∀ q, F q → w.heap.size ≤ q
  bel : Below w.heap.size w wr
theorem MI.below {P : List Gn → Prop} {w wr w' : World} {r b j : Nat} {F : Nat → Prop} {gs : List Gn} {nn : Nat} (h : MI P w wr r b j F gs nn) (hb : Below wr.heap.size wr w') : MI P w w' r b j F gs nn :=
  ⟨h.g.below hb, h.inv, h.bd, h.v, h.p, h.rf.below hb, h.nn, h.lo, bel_to hb h.bel⟩
theorem MI.more {P : List Gn → Prop} {w wr : World} {r b j : Nat} {F : Nat → Prop} {gs : List Gn} {nn : Nat} (h : MI P w wr r b j F gs nn) : MI P w wr r b (j + 1) F gs nn :=
  ⟨h.g, h.inv, h.bd.mono (by omega), h.v, h.p, h.rf, by have := h.nn; omega, h.lo, h.bel⟩
theorem MI.step {P : List Gn → Prop} {w wr w' : World} {r b j : Nat} {F : Nat → Prop} {gs : List Gn} {nn : Nat} (h : MI P w wr r b j F gs nn) (hj : j < 80) (hb : w.heap.size ≤ b) {a : Ac} (hw : wrap64 a.v = a.v) (hP : ∀ q, P (stepG gs a.k q a.c a.v)) {e : Ending} (hd : DoR wr r F gs b nn a e w') : ∃ (last' : Int) (t : Bool) (F' : Nat → Prop) (gs' : List Gn) (nn' : Nat), e = .returned (.tuple #[.int .i64 last', .bool t]) ∧ MI P w w' r b (j + 1) F' gs' nn' := by
  obtain ⟨q, last', t, F', n', he, k1, k2, k3, k4, k5⟩ := hd
  obtain ⟨s1, s2, s3⟩ := step_keeps h.inv a.k q a.c a.v hw h.bd h.v
  have hsz := h.bel.size
  refine ⟨last', t, F', _, n', he, k1, s1, s2.mono (by omega), s3, hP q, k3, by have := h.nn; omega, fun j hj => ?_, ?_⟩
  · rcases k2 j hj with e | e
    · exact h.lo j e
    · omega
  · refine ((Turned.of_below h.bel (fun _ => False)).chain k5 (fun j hj e => ?_)).below_
    rcases e with e | e
    · have := h.lo j e; omega
    · have := e.1; omega
theorem MI.new (P : List Gn → Prop) (hP : P []) (w : World) : MI P w ((w.alloc (.cells #[.slice none 0 0] 54)).alloc (.cells #[.slice none 0 0] 46)) w.heap.size (w.heap.size + 1) 0 (footG w.heap.size none 0 0 []) [] 0 := by
  have hb := (Below.refl _ (w.alloc (.cells #[.slice none 0 0] 54))).alloc (Nat.le_refl _) (.cells #[.slice none 0 0] 46)
  have hk := Blk.new (w.alloc (.cells #[.slice none 0 0] 54)) 46 #[.slice none 0 0]
  rw [World.size_alloc] at hk
  have hg : Gs (w.alloc (.cells #[.slice none 0 0] 54)) w.heap.size (footG w.heap.size none 0 0 []) [] := ⟨none, 0, 0, [], ⟨Blk.new w 54 #[.slice none 0 0], rfl, rfl, World.ownsRow_nil _ _ _ _, fun i h1 => absurd h1 (by simp), fun i j h1 => absurd h1 (by simp)⟩, fun _ => Iff.rfl⟩
  refine ⟨hg.below hb, GInv.nil, ⟨Nat.zero_le _, fun x hx => absurd hx (by simp)⟩, fun x hx => absurd hx (by simp), hP, ⟨none, 0, [], hk, World.ownsRow_nil _ _ _ _, rfl⟩, Nat.zero_le _, fun j hj => ?_, bel_to hb ((Below.refl _ w).alloc (Nat.le_refl _) _)⟩
  rcases hj with e | e | ⟨L, hL, _⟩
  · omega
  · cases e
  · simp at hL
set_option maxHeartbeats 4000000 in
theorem made_any {w : World} {A : Option Addr} {n c : Nat} {X : Nat → Ac} (hX : RdAc w A n X) (hnc : n ≤ c) (hc : c ≤ maxLen) (P : List Gn → Prop) (hP0 : P []) (hPs : ∀ i, i < n → ∀ gs q, GInv gs → P gs → P (stepG gs (X i).k q (X i).c (X i).v)) :
    Calls Try.prog 8 #[.slice A n c] w (MadeR P w) := by
  have H0 : Hid (∃ F gs nn, MI P w ((w.alloc (.cells #[.slice none 0 0] 54)).alloc (.cells #[.slice none 0 0] 46)) w.heap.size (w.heap.size + 1) 0 F gs nn) := kept ⟨_, _, _, MI.new P hP0 w⟩
  have HX := kept hX
  have HPS := kept hPs
  have hn : (n : Int) ≤ 9223372036854775807 := by unfold maxLen at hc; omega
  clear hX hP0 hPs hnc hc
  go_enter Try.func8, Try.ntmps8
  go_wp2
  generalize (w.alloc (.cells #[.slice none 0 0] 54)).alloc (.cells #[.slice none 0 0] 46) = W0 at H0 ⊢
  go_loopw [15, 6] (fun i l wr => ∃ (j : Nat) (last : Int), j ≤ n ∧ i = .int .i64 (j : Int) ∧ l = .int .i64 last ∧ Hid (∃ F gs nn, MI P w wr w.heap.size (w.heap.size + 1) j F gs nn)) (fun i _ _ => n - (intOf i).toNat)
  case atStart => exact ⟨0, 1, Nat.zero_le _, rfl, rfl, H0⟩
  case round =>
    obtain ⟨j, last, hj, rfl, rfl, HI⟩ := hrel
    clear H0
    by_cases hjn : j < n
    · obtain ⟨F, gs, nn, hm⟩ := HI.out
      obtain ⟨g, o, hA, a0, a1, a2, a3, a4, a5⟩ := (HX.out.keeps (Keeps.of_below hm.bel)).1 j hjn
      have HV := kept (And.intro (HX.out.2 j hjn) (fun q => HPS.out j hjn gs q hm.inv hm.p))
      generalize X j = x at a0 a1 a2 a3 a4 a5 HV
      subst hA
      have hba : Below wr.heap.size wr (wr.alloc (.cells #[.int .i64 x.k, .bool x.nx, .int .i64 x.m, .int .i64 x.s, .int .i64 x.c, .int .i64 x.v] 39)) := (Below.refl _ wr).alloc (Nat.le_refl _) _
      have hm2 := hm.below hba
      have hj0 : (0 : Int) ≤ (j : Int) := by omega
      have hjn' : (j : Int) < (n : Int) := by omega
      have hwj : wrap64 ((j : Int) + 1) = (j : Int) + 1 := IntWalk.wrap64_in _ ⟨by omega, by omega⟩
      have HJ := kept hjn
      by_cases h80 : j < 80
      · have h80' : (j : Int) < 80 := by omega
        have HD := fun last => kept (do_any hm2.g hm2.rf hm2.inv hm2.bd (by omega) (by have := hm2.nn; omega) x last)
        have HM := kept (And.intro hm2 h80)
        clear hba hm hm2 HI hj hjn h80
        go_wp2_with (first | (go_at_call 13; (with_reducible refine ((HD _).out).mono ?_); rintro e w3 hd; obtain ⟨last', t, F', gs', nn', rfl, hm3⟩ := HM.out.1.step HM.out.2 (Nat.le_succ _) HV.out.1 HV.out.2 hd; have HM3 : Hid (∃ F gs nn, MI P w w3 w.heap.size (w.heap.size + 1) (j + 1) F gs nn) := kept ⟨F', gs', nn', hm3⟩; clear hd hm3))
        clear HM HD HV a0 a1 a2 a3 a4 a5
        go_roundw
        case rel => exact ⟨j + 1, last', by have := HJ.out; omega, by go_num, rfl, HM3⟩
        case measure => have := HJ.out; simp [intOf]; omega
      · have h80' : ¬ (j : Int) < 80 := by omega
        have HM3 : Hid (∃ F gs nn, MI P w (wr.alloc (.cells #[.int .i64 x.k, .bool x.nx, .int .i64 x.m, .int .i64 x.s, .int .i64 x.c, .int .i64 x.v] 39)) w.heap.size (w.heap.size + 1) (j + 1) F gs nn) := kept ⟨F, gs, nn, hm2.more⟩
        clear hba hm hm2 HI hj hjn h80 HV
        go_wp2
        go_roundw
        case rel => exact ⟨j + 1, last, by have := HJ.out; omega, by go_num, rfl, HM3⟩
        case measure => have := HJ.out; simp [intOf]; omega
    · obtain rfl : j = n := by omega
      go_wp2
      go_returns
      obtain ⟨F, gs, nn, hm⟩ := HI.out
      exact ⟨w.heap.size, F, gs, last, rfl, hm.g, hm.inv, hm.bd.mono (by omega), hm.v, hm.p, hm.lo, hm.bel⟩
end Go.Proofs.Ythpaliagmnclfaa
