/- Ti -/
import Derived.Test.YtblbhhijddcbeaaGreatDoorBTh
import Derived.RegionIn
import Derived.BigRegionIn
section
namespace Go.Proofs.YtblbhhijddcbeaaGreatDoor
open Go.ChangeShapes Go.WideShapes Go.ChangeAt Go.RowKit
set_option linter.unusedVariables false
set_option linter.unusedSimpArgs false
set_option maxRecDepth 100000
set_option maxHeartbeats 16000000
attribute [local go_sem] Oper.semAt_some
def pieceN (len k : Nat) : Nat := if 237 ≤ len - 237 * k then 237 else len - 237 * k
def pieceV (b o len k : Nat) : Value := .slice (some ⟨b, o + 237 * k, none⟩) (pieceN len k) (pieceN len k)
def pieces (len : Nat) : Nat := (len + 236) / 237
theorem chunk_in (F : Fence) (n : Nat) (hf : F.fn 151) (hro : F.round = none) (hn : 1 ≤ n) (l B1 B2 b o len cap : Nat) (hlen : len ≤ 100000) (hcap : len ≤ cap) (J Jx : List Nat → World → Prop)
 (hJd : ∀ pre W, J pre W → J pre W.drew)
 (hY : ∀ pre (x : Nat) W, J pre W → pre.length < pieces len → YieldAt F (n - 1) Tryz.prog l #[pieceV b o len x] W fun e W' =>
  (e = .returned (.bool true) ∧ J (pre ++ [x]) W' ∧ Two2 B1 B2 W W') ∨ (e = .returned (.bool false) ∧ Jx (pre ++ [x]) W'))
 (W : World) (h1 : W.cell? ⟨B1, 0, none⟩ = some (.slice (some ⟨b, o, none⟩) len cap)) (h2 : W.cell? ⟨B2, 0, none⟩ = some (.int .i64 237)) (h0 : J [] W) :
 CallsIn F n Tryz.prog 151 #[.func (.yield l) #[] #[], .pointer (some ⟨B1, 0, none⟩), .pointer (some ⟨B2, 0, none⟩)] W fun e W' => (∃ v, e = .returned v) ∧
  ((∃ ys, ys = List.range (pieces len) ∧ J ys W') ∨ (∃ pre, (∃ q, q ≤ pieces len ∧ pre = List.range q) ∧ Jx pre W')) := by
 have h0' : J (List.range 0) W := h0; refine callsIn_of_wp Tryz.func151 rfl hf ?_ hro; simp only [Tryz.ntmps151, List.size_toArray, List.length_cons, List.length_nil, Nat.reduceAdd, Nat.reduceSub, Array.replicate_succ, Array.replicate_zero, List.push_toArray, List.append_toArray, List.nil_append, List.cons_append]
 gi_wp2
 gi_loopw [4] (fun i wr => ∃ k : Nat, k ≤ pieces len ∧ i = .int .i64 ((237 * k : Nat) : Int) ∧ J (List.range k) wr ∧ Two2 B1 B2 W wr) (fun i _ => (len + 237) - (intOf i).toNat)
 case atStart => exact ⟨0, Nat.zero_le _, rfl, h0', rfl, rfl⟩
 case round =>
  obtain ⟨k, hk, rfl, hJs, hkp⟩ := hrel; have c1 := (hkp.c (p := ⟨B1, 0, none⟩) (.inl rfl)).trans h1; have c2 := (hkp.c (p := ⟨B2, 0, none⟩) (.inr rfl)).trans h2; by_cases hlt : 237 * k < len
  · obtain ⟨i, hi⟩ : ∃ i : Nat, 237 * k = i := ⟨_, rfl⟩
    obtain ⟨m, hm⟩ : ∃ m : Nat, pieceN len k = m := ⟨_, rfl⟩
    have hmin : min (237 : Int) ((len - i : Nat) : Int) = (m : Int) := by
     have := hm; unfold pieceN at this; rw [hi] at this; split at this <;> omega
    have hmb : i + m ≤ len ∧ 1 ≤ m := by have := hm; unfold pieceN at this; rw [hi] at this; split at this <;> omega
    have hmi : ((i : Int) + (m : Int)) ≤ (cap : Int) := by omega
    rw [hi] at hlt ⊢; have hlt' : (i : Int) < (len : Int) := by omega
    have hpv : pieceV b o len k = .slice (some ⟨b, o + i, none⟩) m m := by unfold pieceV; rw [hm, hi]
    have HPV := kept hpv; have HK := kept (And.intro hi (And.intro hm hmb)); clear hpv hi hm; have hci : ¬ cap = i := by omega
    have hli : i ≤ len := by omega
    have hk1 : k < pieces len := by unfold pieces; have := HK.out.1; omega
    obtain ⟨fn, tmps, assign, body, hy, hR⟩ := hY _ k wr.drew (hJd _ _ hJs) (by rw [List.length_range]; exact hk1); rw [HPV.out] at hy; have hrs : List.range (k + 1) = List.range k ++ [k] := List.range_succ; rw [← hrs] at hR; have hnx : (237 * (k + 1) : Nat) = i + 237 := by have := HK.out.1; omega
    have hw1 : IntKind.i64.wrap ((i : Int) + (m : Int)) = (i : Int) + (m : Int) := by rw [IntKind.wrap_i64]; omega
    gi_wp2
    gi_region
    all_goals
     gi_wp2
     refine hR.mono ?_; rintro e W3 (⟨rfl, hJ3, hk3⟩ | ⟨rfl, hJx3⟩)
     · have hk4 := hkp.t (show Two2 B1 B2 wr W3 from hk3); have c2' := (hk4.c (p := ⟨B2, 0, none⟩) (.inr rfl)).trans h2; clear hy hR hY c1 c2 hrs
       gi_wp2
       go_roundw
       case rel => exact ⟨k + 1, by omega, by rw [hnx]; go_num, hJ3, hk4⟩
       case measure => simp [intOf]; omega
     · clear hy hR hY c1 c2 hrs
       gi_wp2
       refine bodyPost_ret (results_none rfl _ _ _) rfl ?_; exact ⟨⟨_, rfl⟩, .inr ⟨_, ⟨k + 1, by omega, rfl⟩, hJx3⟩⟩
  · obtain rfl : k = pieces len := by unfold pieces at hk ⊢; omega
    obtain ⟨i, hi⟩ : ∃ i : Nat, 237 * pieces len = i := ⟨_, rfl⟩
    rw [hi] at hlt ⊢; have hlt' : ¬ (i : Int) < (len : Int) := by omega
    clear hi hY
    gi_wp2
    go_end0
    first | exact ⟨⟨_, rfl⟩, .inl ⟨_, rfl, hJs⟩⟩ | exact ⟨⟨_, rfl⟩, .inl hJs⟩
end Go.Proofs.YtblbhhijddcbeaaGreatDoor
end
