/- Th -/
import Derived.RangeFuncNested
import Derived.RangeFuncBound
import Derived.RangeFuncCalls
import Derived.RangeFuncLeaves
import Derived.Shelf.Abstract
import Derived.Shelf.RegionOpen
import Derived.OwnWalkIn
import Derived.TacticsInMore
import Derived.LoopNIn
import Derived.LoopIn
import Derived.Test.YtblbhhijddcbeaaGreatDoorBTg
section
namespace Go.Proofs.YtblbhhijddcbeaaGreatDoor
open Go.ChangeShapes Go.WideShapes Go.ChangeAt Go.RowKit
set_option linter.unusedVariables false
set_option linter.unusedSimpArgs false
set_option maxRecDepth 100000
set_option maxHeartbeats 16000000
attribute [local go_sem] Oper.semAt_some
def downTo (len q : Nat) : List Nat := (List.range (len - q)).map fun i => len - 1 - i
theorem downTo_self (len : Nat) : downTo len len = [] := by simp [downTo]
theorem downTo_step {len q : Nat} (h : q < len) : downTo len q = downTo len (q + 1) ++ [q] := by
 unfold downTo; rw [show len - q = len - (q + 1) + 1 by omega, List.range_succ, List.map_append]
 congr 1
 simp; omega
theorem downTo_length (len q : Nat) : (downTo len q).length = len - q := by simp [downTo]
def Two2 (x y : Nat) (W W' : World) : Prop := W'.heap[x]? = W.heap[x]? ∧ W'.heap[y]? = W.heap[y]?
theorem Two2.t {x y : Nat} {A B C : World} (h : Two2 x y A B) (k : Two2 x y B C) : Two2 x y A C := ⟨k.1.trans h.1, k.2.trans h.2⟩
theorem Two2.c {x y : Nat} {A B : World} (h : Two2 x y A B) {p : Addr} (hp : p.block = x ∨ p.block = y) : B.cell? p = A.cell? p := by
 refine World.cell?_of_block ?_; rcases hp with e | e <;> rw [e]
 · exact h.1
 · exact h.2
theorem bback_in (F : Fence) (n : Nat) (hf : F.fn 149) (hro : F.round = none) (hn : 1 ≤ n) (l Bs b o len cap : Nat) (V : Nat → Value) (hlen : len ≤ 1000000) (J Jx : List Nat → World → Prop)
 (hY : ∀ pre (x : Nat) W, J pre W → x < len → pre.length < len → YieldAt F (n - 1) Tryz.prog l #[.int .i64 (x : Int), V x] W fun e W' =>
  (e = .returned (.bool true) ∧ J (pre ++ [x]) W' ∧ Two2 Bs b W W') ∨ (e = .returned (.bool false) ∧ Jx (pre ++ [x]) W'))
 (W : World) (hBs : W.cell? ⟨Bs, 0, none⟩ = some (.slice (some ⟨b, o, none⟩) len cap)) (hc : ∀ j, j < len → W.cell? ⟨b, o + j, none⟩ = some (V j)) (h0 : J [] W) :
 CallsIn F n Tryz.prog 149 #[.func (.yield l) #[] #[], .pointer (some ⟨Bs, 0, none⟩)] W fun e W' => (∃ v, e = .returned v) ∧
  ((∃ ys, ys = downTo len 0 ∧ J ys W') ∨ (∃ pre, (∃ q, q ≤ len ∧ pre = downTo len q) ∧ Jx pre W')) := by
 have h0' : J (downTo len len) W := by rw [downTo_self]; exact h0
 refine callsIn_of_wp Tryz.func149 rfl hf ?_ hro; simp only [Tryz.ntmps149, List.size_toArray, List.length_cons, List.length_nil, Nat.reduceAdd, Nat.reduceSub, Array.replicate_succ, Array.replicate_zero, List.push_toArray, List.append_toArray, List.nil_append, List.cons_append]
 gi_wp2
 gi_loopw [3] (fun i wr => ∃ q : Nat, q ≤ len ∧ i = .int .i64 ((q : Int) - 1) ∧ J (downTo len q) wr ∧ Two2 Bs b W wr) (fun i _ => (intOf i + 1).toNat)
 case atStart => exact ⟨len, Nat.le_refl _, rfl, h0', rfl, rfl⟩
 case round =>
  obtain ⟨q, hq, rfl, hJs, hk⟩ := hrel; have hbs := (hk.c (p := ⟨Bs, 0, none⟩) (.inl rfl)).trans hBs; cases q with
  | zero =>
    gi_wp2
    go_end0
    exact ⟨⟨_, rfl⟩, .inl ⟨_, rfl, hJs⟩⟩
  | succ q =>
    have hcx : wr.cell? ⟨b, o + q, none⟩ = some (V q) := (hk.c (p := ⟨b, o + q, none⟩) (.inr rfl)).trans (hc q (by omega)); obtain ⟨i, hi⟩ : ∃ i : Int, ((q + 1 : Nat) : Int) - 1 = i := ⟨_, rfl⟩
    obtain rfl : i = (q : Int) := by omega
    rw [hi]; clear hi; obtain ⟨fn, tmps, assign, body, hy, hR⟩ := hY _ q wr hJs (by omega) (by rw [downTo_length]; omega); have hst := downTo_step (len := len) (q := q) (by omega)
    gi_wp2
    refine hR.mono ?_; rintro e W3 (⟨rfl, hJ3, hk3⟩ | ⟨rfl, hJx3⟩)
    · rw [← hst] at hJ3; clear hst hy hR hY
      gi_wp2
      go_roundw
      case rel => exact ⟨q, by omega, rfl, hJ3, hk.t hk3⟩
      case measure => simp [intOf]
    · rw [← hst] at hJx3; clear hst hy hR hY
      gi_wp2
      refine bodyPost_ret (results_none rfl _ _ _) rfl ?_; exact ⟨⟨_, rfl⟩, .inr ⟨_, ⟨q, by omega, rfl⟩, hJx3⟩⟩
theorem bback_stops (F : Fence) (n : Nat) (hf : F.fn 149) (hro : F.round = none) (hn : 1 ≤ n) (Bs b o len cap : Nat) (V : Nat → Value) (hlen : len ≤ 1000000) (w : World) (h1 : w.cell? ⟨Bs, 0, none⟩ = some (.slice (some ⟨b, o, none⟩) len cap)) (hc : ∀ j, j < len → w.cell? ⟨b, o + j, none⟩ = some (V j)) :
 SeqStopsK F n Tryz.prog 149 #[.pointer (some ⟨Bs, 0, none⟩)] (fun x : { x : Nat // x < len } => #[.int .i64 (x.1 : Int), V x.1]) (Two2 Bs b) (fun ys => ys.map (·.1) = downTo len 0) (fun pre => ∃ q, q ≤ len ∧ pre.map (·.1) = downTo len q) len w := fun l J Jx W hW _ _ hY h0 => by
 have := bback_in F n hf hro hn l Bs b o len cap V hlen (fun pre W => ∃ pre' : List { x : Nat // x < len }, pre'.map (·.1) = pre ∧ J pre' W) (fun pre W => ∃ pre' : List { x : Nat // x < len }, pre'.map (·.1) = pre ∧ Jx pre' W) (fun pre x W1 hj hx hl => by
  obtain ⟨pre', e, hj⟩ := hj; have hl' : pre'.length < len := by rw [← e, List.length_map] at hl; exact hl
  refine (hY pre' ⟨x, hx⟩ W1 hj hl').mono ?_; rintro e2 W' (⟨he, h2, h3⟩ | ⟨he, h2⟩)
  · exact .inl ⟨he, ⟨pre' ++ [⟨x, hx⟩], by rw [List.map_append, e]; rfl, h2⟩, h3⟩
  · exact .inr ⟨he, pre' ++ [⟨x, hx⟩], by rw [List.map_append, e]; rfl, h2⟩) W (cell_below hW h1) (fun j hj => cell_below hW (hc j hj)) ⟨[], rfl, h0⟩
 refine this.mono ?_; rintro e W' ⟨hv, hh⟩; refine ⟨hv, ?_⟩; rcases hh with ⟨ys, rfl, pre', e1, hj⟩ | ⟨pre, ⟨q, hq, rfl⟩, pre', e1, hj⟩
 · exact .inl ⟨pre', e1, hj⟩
 · exact .inr ⟨pre', ⟨q, hq, e1⟩, hj⟩
end Go.Proofs.YtblbhhijddcbeaaGreatDoor
end
