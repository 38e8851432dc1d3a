/-
  package gens: slices.Backward over generations; endedBelow, upTo.
-/
import Derived.Test.YthpaliagmnclfaaGe
import Derived.Test.YthpaliagmnclfaaDown
import Derived.RangeFuncNested
import Derived.RangeFuncBound
import Derived.RangeFuncCalls
import Derived.RangeFuncLeaves
import Derived.RangeFuncBox
import Derived.Shelf.Abstract
import Derived.Shelf.RegionOpen
import Derived.OwnWalkIn
import Derived.TacticsInMore
import Derived.LoopNIn
import Derived.LoopIn
namespace Go.Proofs.Ythpaliagmnclfaa
open Go.ChangeShapes Go.WideShapes Go.ChangeAt Go.RowKit
set_option linter.unusedVariables false
set_option linter.unusedSimpArgs false
attribute [local go_sem] Oper.semAt_some
/-- A generation, as a value. -/
abbrev gnV (t : Nat → Value) : Value := .agg #[t 0, t 1, t 2, t 3, t 4]
set_option maxRecDepth 100000 in
set_option maxHeartbeats 1000000 in
theorem gback_in (F : Fence) (n : Nat) (hf : F.fn 46) (hro : F.round = none) (hn : 1 ≤ n) (l Bs b o len cap : Nat) (A : Option Addr) (hA : 0 < len → A = some ⟨b, o, none⟩) (T : Nat → Nat → Value) (hlen : len ≤ 1000000) (J Jx : List Nat → World → Prop)
    (hY : ∀ pre (x : Nat) W, J pre W → x < len → pre.length < len → YieldAt F (n - 1) Try.prog l #[.int .i64 (x : Int), gnV (T x)] W fun e W' =>
      (e = .returned (.bool true) ∧ J (pre ++ [x]) W' ∧ Two2 Bs b W W') ∨ (e = .returned (.bool false) ∧ Jx (pre ++ [x]) W'))
    (W : World) (hBs : W.cell? ⟨Bs, 0, none⟩ = some (.slice A len cap)) (hc : ∀ j, j < len → ∀ i, i < 5 → W.cell? ⟨b, o + j * 5 + i, none⟩ = some (T j i)) (h0 : J [] W) :
    CallsIn F n Try.prog 46 #[.func (.yield l) #[] #[], .pointer (some ⟨Bs, 0, none⟩)] W fun e W' => (∃ v, e = .returned v) ∧
      ((∃ ys, ys = downTo len 0 ∧ J ys W') ∨ (∃ pre, (∃ q, q ≤ len ∧ pre = downTo len q) ∧ Jx pre W')) := by
  have h0' : J (downTo len len) W := by rw [downTo_self]; exact h0
  refine callsIn_of_wp Try.func46 rfl hf ?_ hro
  simp only [Try.ntmps46, List.size_toArray, List.length_cons, List.length_nil, Nat.reduceAdd, Nat.reduceSub, Array.replicate_succ, Array.replicate_zero, List.push_toArray, List.append_toArray, List.nil_append, List.cons_append]
  gi_wp2
  gi_loopw [3] (fun i wr => ∃ q : Nat, q ≤ len ∧ i = .int .i64 ((q : Int) - 1) ∧ J (downTo len q) wr ∧ Two2 Bs b W wr) (fun i _ => (intOf i + 1).toNat)
  case atStart => exact ⟨len, Nat.le_refl _, rfl, h0', rfl, rfl⟩
  case round =>
    obtain ⟨q, hq, rfl, hJs, hk⟩ := hrel
    have hbs := (hk.c (p := ⟨Bs, 0, none⟩) (.inl rfl)).trans hBs
    cases q with
    | zero =>
      gi_wp2
      go_end0
      exact ⟨⟨_, rfl⟩, .inl ⟨_, rfl, hJs⟩⟩
    | succ q =>
      have hA' := hA (by omega)
      subst hA'
      have hcx0 : wr.cell? ⟨b, o + q * 5, none⟩ = some (T q 0) := (hk.c (p := ⟨b, o + q * 5 + 0, none⟩) (.inr rfl)).trans (hc q (by omega) 0 (by decide))
      have hcx1 : wr.cell? ⟨b, o + q * 5 + 1, none⟩ = some (T q 1) := (hk.c (p := ⟨b, o + q * 5 + 1, none⟩) (.inr rfl)).trans (hc q (by omega) 1 (by decide))
      have hcx2 : wr.cell? ⟨b, o + q * 5 + 2, none⟩ = some (T q 2) := (hk.c (p := ⟨b, o + q * 5 + 2, none⟩) (.inr rfl)).trans (hc q (by omega) 2 (by decide))
      have hcx3 : wr.cell? ⟨b, o + q * 5 + 3, none⟩ = some (T q 3) := (hk.c (p := ⟨b, o + q * 5 + 3, none⟩) (.inr rfl)).trans (hc q (by omega) 3 (by decide))
      have hcx4 : wr.cell? ⟨b, o + q * 5 + 4, none⟩ = some (T q 4) := (hk.c (p := ⟨b, o + q * 5 + 4, none⟩) (.inr rfl)).trans (hc q (by omega) 4 (by decide))
      obtain ⟨i, hi⟩ : ∃ i : Int, ((q + 1 : Nat) : Int) - 1 = i := ⟨_, rfl⟩
      obtain rfl : i = (q : Int) := by omega
      rw [hi]
      clear hi
      obtain ⟨fn, tmps, assign, body, hy, hR⟩ := hY _ q wr hJs (by omega) (by rw [downTo_length]; omega)
      have hst := downTo_step (len := len) (q := q) (by omega)
      gi_wp2
      refine hR.mono ?_
      rintro e W3 (⟨rfl, hJ3, hk3⟩ | ⟨rfl, hJx3⟩)
      · rw [← hst] at hJ3
        clear hst hy hR hY
        gi_wp2
        go_roundw
        case rel => exact ⟨q, by omega, rfl, hJ3, hk.t hk3⟩
        case measure => simp [intOf]
      · rw [← hst] at hJx3
        clear hst hy hR hY
        gi_wp2
        refine bodyPost_ret (results_none rfl _ _ _) rfl ?_
        exact ⟨⟨_, rfl⟩, .inr ⟨_, ⟨q, by omega, rfl⟩, hJx3⟩⟩
/-- The iterator's word, where the body knows that an index is one. -/
theorem gback_stops (F : Fence) (n : Nat) (hf : F.fn 46) (hro : F.round = none) (hn : 1 ≤ n) (Bs b o len cap : Nat) (A : Option Addr) (hA : 0 < len → A = some ⟨b, o, none⟩) (T : Nat → Nat → Value) (hlen : len ≤ 1000000) (w : World) (h1 : w.cell? ⟨Bs, 0, none⟩ = some (.slice A len cap)) (hc : ∀ j, j < len → ∀ i, i < 5 → w.cell? ⟨b, o + j * 5 + i, none⟩ = some (T j i)) :
    SeqStopsK F n Try.prog 46 #[.pointer (some ⟨Bs, 0, none⟩)] (fun x : { x : Nat // x < len } => #[.int .i64 (x.1 : Int), gnV (T x.1)]) (Two2 Bs b) (fun ys => ys.map (·.1) = downTo len 0) (fun pre => ∃ q, q ≤ len ∧ pre.map (·.1) = downTo len q) len w := fun l J Jx W hW _ _ hY h0 => by
  have := gback_in F n hf hro hn l Bs b o len cap A hA T hlen (fun pre W => ∃ pre' : List { x : Nat // x < len }, pre'.map (·.1) = pre ∧ J pre' W) (fun pre W => ∃ pre' : List { x : Nat // x < len }, pre'.map (·.1) = pre ∧ Jx pre' W) (fun pre x W1 hj hx hl => by
      obtain ⟨pre', e, hj⟩ := hj
      have hl' : pre'.length < len := by rw [← e, List.length_map] at hl; exact hl
      refine (hY pre' ⟨x, hx⟩ W1 hj hl').mono ?_
      rintro e2 W' (⟨he, h2, h3⟩ | ⟨he, h2⟩)
      · exact .inl ⟨he, ⟨pre' ++ [⟨x, hx⟩], by rw [List.map_append, e]; rfl, h2⟩, h3⟩
      · exact .inr ⟨he, pre' ++ [⟨x, hx⟩], by rw [List.map_append, e]; rfl, h2⟩) W ((Keeps.of_below hW).cell_ h1) (fun j hj i hi => (Keeps.of_below hW).cell_ (hc j hj i hi)) ⟨[], rfl, h0⟩
  refine this.mono ?_
  rintro e W' ⟨hv, hh⟩
  refine ⟨hv, ?_⟩
  rcases hh with ⟨ys, rfl, pre', e1, hj⟩ | ⟨pre, ⟨q, hq, rfl⟩, pre', e1, hj⟩
  · exact .inl ⟨pre', e1, hj⟩
  · exact .inr ⟨pre', ⟨q, hq, e1⟩, hj⟩
end Go.Proofs.Ythpaliagmnclfaa
