/- Qb -/
import Derived.Test.YtblbhhijddcbeaaGreatDoorBFr6
import Derived.Lib.AppendZeros
section
namespace Go.Proofs.YtblbhhijddcbeaaGreatDoor
open Go.ChangeShapes Go.WideShapes Go.ChangeAt Go.RowKit
set_option linter.unusedVariables false
set_option linter.unusedSimpArgs false
set_option maxRecDepth 100000
set_option maxHeartbeats 16000000
theorem index_any (A : Option Addr) (n c : Nat) (Z : List Int) (x : Int) (w : World) (h : RdI w A n Z) (hn : n ≤ 1000000) :
 Calls Tryz.prog 134 #[.slice A n c, .int .i64 x] w fun e w' => ∃ v : Int, e = .returned (.int .i64 v) ∧ (0 ≤ v ↔ x ∈ Z) ∧ w = w' := by
 have HR := kept h; have HL := kept h.1; clear h; go_enter Tryz.func134, Tryz.ntmps134; go_wp2; go_loop [8] (fun i => ∃ k : Nat, k ≤ n ∧ i = .int .i64 (k : Int) ∧ Hid (x ∉ Z.take k)) (fun i => n - (intOf i).toNat)
 case atStart => exact ⟨0, Nat.zero_le _, rfl, kept (by simp)⟩
 case round =>
  obtain ⟨k, hk, rfl, HT⟩ := hrel; by_cases hlt : k < n
  · obtain ⟨b, o, rfl, hc⟩ := HR.out.at_ hlt; have hkl : k < Z.length := by rw [HL.out]; exact hlt
    have HTK : Hid (Z.take (k + 1) = Z.take k ++ [Z[k]]) := kept (List.take_succ_eq_append_getElem hkl); have HIX : Hid (Z[k] ∈ Z) := kept (List.getElem_mem hkl); generalize Z[k] = y at hc HTK HIX; by_cases hxy : x = y
    · subst hxy; have HE : Hid (0 ≤ (k : Int) ↔ x ∈ Z) := kept (by have := HIX.out; simp [this]); clear HIX HTK hkl; go_wp2; go_ret; exact ⟨_, rfl, HE.out, rfl⟩
    · have hxb : (x == y) = false := by simpa using hxy
      have HE : Hid (x ∉ Z.take (k + 1)) := kept (by rw [HTK.out, List.mem_append]; simp [HT.out, hxy]); clear hxy HTK HIX hkl; go_wp2; go_round
      case rel => exact ⟨k + 1, by omega, by go_num, HE⟩
      case measure => simp [intOf]; omega
  · obtain rfl : k = n := by omega
    have HE : Hid (0 ≤ (-1 : Int) ↔ x ∈ Z) := kept (by
     have := HT.out; rw [List.take_of_length_le (by rw [HL.out]; exact Nat.le_refl _)] at this; simp [this])
    go_wp2; go_ret; exact ⟨_, rfl, HE.out, rfl⟩
theorem decide_eq_of {p q : Prop} [Decidable p] [Decidable q] (h : p ↔ q) : Hid (decide p = decide q) := by
 show _ = _; by_cases hq : q
 · rw [decide_eq_true hq, decide_eq_true (h.2 hq)]
 · rw [decide_eq_false hq, decide_eq_false (fun hp => hq (h.1 hp))]
theorem contains_any (A : Option Addr) (n c : Nat) (Z : List Int) (x : Int) (w : World) (h : RdI w A n Z) (hn : n ≤ 1000000) :
 Calls Tryz.prog 84 #[.slice A n c, .int .i64 x] w fun e w' => e = .returned (.bool (decide (x ∈ Z))) ∧ w = w' := by
 have HI := kept (index_any A n c Z x w h hn); clear h; go_enter Tryz.func84, Tryz.ntmps84; go_wp2_with (first | (go_at_call 134; (with_reducible refine (HI.out).mono ?_); rintro e w' ⟨v, rfl, hv, rfl⟩; have HV : Hid (decide (0 ≤ v) = decide (x ∈ Z)) := decide_eq_of hv; clear hv))
 go_ret; exact ⟨by rw [← HV.out]; rfl, rfl⟩
theorem OwI.empty (w : World) (g cap : Nat) (Z : Array Value) (h : w.heap[g]? = some (.cells Z 3 (0, 0))) (hz : Z.size = cap) (hc : cap ≤ maxLen) : OwI w (some ⟨g, 0, none⟩) 0 cap [] :=
 ⟨rfl, ⟨by simp [ints], .inr ⟨g, cap, Z, rfl, Nat.zero_le _, h, Nat.zero_le _, hc, by omega, by simp [ints]⟩⟩⟩
theorem grow_nil_i (n : Nat) (w : World) (hn : n ≤ 1000000) :
 Calls Tryz.prog 88 #[.slice none 0 0, .int .i64 (n : Int)] w fun e w' => ∃ A c, e = .returned (.slice A 0 c) ∧ OwI w' A 0 c [] ∧ Below w.heap.size w w' ∧ ∀ g, blkOf A = some g → w.heap.size ≤ g := by
 rcases Nat.eq_zero_or_pos n with h0 | h0
 · subst h0; go_enter Tryz.func88, Tryz.ntmps88; go_wp2; go_ret; exact ⟨none, 0, rfl, OwI.nil_ _, Below.refl _ _, fun g hg => by cases hg⟩
 · obtain ⟨i0, hi, hz0, hz1, hz2⟩ := info_parts intinfo; have happ := Lib.run_append_nil_zeros (P := Tryz.prog) w 60 3 60 3 i0 (.int .i64 0) .i64 .i64 Tryz.underlying60 Tryz.underlying3 hi hz0 n h0 (by omega) (by omega) (by rw [hz2]; omega); have hcap := grownCap_ge w n 0 3; have hcm := grownCap_le_maxLen w n 0 3 (by unfold maxLen; omega); have hZ : (Builtin.zeroCells (Value.int .i64 0).cells n ++ Builtin.zeroCells (Value.int .i64 0).cells (grownCap w n 0 3 - n)).size = grownCap w n 0 3 := by
    rw [Array.size_append, size_zeroCells, size_zeroCells]; simp [Value.cells]; omega
   generalize (Builtin.zeroCells (Value.int .i64 0).cells n ++ Builtin.zeroCells (Value.int .i64 0).cells (grownCap w n 0 3 - n)) = Z at happ hZ; generalize grownCap w n 0 3 = G at happ hcap hcm hZ; have hown := kept (OwI.empty (w.drew.alloc (.cells Z 3)) w.heap.size G Z (heap_alloc_new w.drew (.cells Z 3)) hZ hcm); have hb := kept ((Below.refl w.heap.size w).drew.alloc (Nat.le_refl _) (.cells Z 3)); have hG : G ≤ 9223372036854775807 := by unfold maxLen at hcm; omega
   clear hZ hcm; go_enter Tryz.func88, Tryz.ntmps88; go_wp2_with (at_builtin; refine Lib.wpList_append_run _ rfl _ _ _ _ rfl _ _ rfl rfl _ _ happ ?_)
   go_ret; exact ⟨_, _, rfl, hown.out, hb.out, fun g hg => by cases hg; exact Nat.le_refl _⟩
def catI (X : Nat → List Int) : Nat → List Int
 | 0 => []
 | k + 1 => catI X k ++ X k
theorem catI_le (X : Nat → List Int) {k m : Nat} (h : k ≤ m) : (catI X k).length ≤ (catI X m).length := by
 induction m with
 | zero => obtain rfl : k = 0 := by omega
           exact Nat.le_refl _
 | succ m ih =>
   rcases Nat.lt_succ_iff_lt_or_eq.1 (Nat.lt_succ_of_le h) with h' | h'
   · have := ih (by omega); rw [show catI X (m + 1) = catI X m ++ X m from rfl, List.length_append]; omega
   · subst h'; exact Nat.le_refl _
def RowsI (w : World) (g n : Nat) (B : Nat → Option Addr) (C : Nat → Nat) (X : Nat → List Int) : Prop := ∀ k, k < n → w.cell? ⟨g, k, none⟩ = some (.slice (B k) (X k).length (C k)) ∧ RdI w (B k) (X k).length (X k)
theorem RowsI.below {w w' : World} {g n : Nat} {B : Nat → Option Addr} {C : Nat → Nat} {X : Nat → List Int} (h : RowsI w g n B C X) (hb : Below w.heap.size w w') : RowsI w' g n B C X := fun k hk => by
 obtain ⟨h1, h2⟩ := h k hk; exact ⟨(hb.cell (World.block_lt_of_cell? w _ h1)).trans h1, h2.below hb⟩
theorem concat_any_i (g n : Nat) (B : Nat → Option Addr) (C : Nat → Nat) (X : Nat → List Int) (w : World) (hr : RowsI w g n B C X) (hn : n ≤ 1000000) (hl : (catI X n).length ≤ 1000000) :
 Calls Tryz.prog 50 #[.slice (some ⟨g, 0, none⟩) n n] w fun e w' => ∃ A' c', e = .returned (.slice A' (catI X n).length c') ∧ Hid (Says w w' (catI X n) A' c') := by
 have HR := kept hr; have HL := kept hl; clear hr hl; go_enter Tryz.func50, Tryz.ntmps50; go_wp2; go_loop [3, 11] (fun v i => ∃ k : Nat, k ≤ n ∧ i = .int .i64 k ∧ v = .int .i64 (((catI X k).length : Nat) : Int)) (fun _ i => n - (intOf i).toNat)
 case atStart => exact ⟨0, by omega, rfl, rfl⟩
 case round =>
  obtain ⟨k, hk, rfl, rfl⟩ := hrel; by_cases hlt : k < n
  · have hck := (HR.out k hlt).1; have HN : Hid ((catI X (k + 1)).length = (catI X k).length + (X k).length) := List.length_append; have hle := catI_le X (Nat.succ_le_of_lt hlt); have HLE := Nat.le_trans hle HL.out; rw [show k.succ = k + 1 from rfl, HN.out] at HLE; generalize (catI X k).length = u at HN HLE; generalize (X k).length = v at HN HLE hck; have hneg : decide (((u : Int) + (v : Int)) < 0) = false := by simp; omega
    have hwr : IntKind.i64.wrap ((u : Int) + (v : Int)) = (u : Int) + (v : Int) := IntWalk.i64_in _ ⟨by omega, by omega⟩; clear hle; go_wp2; go_round
    case rel => exact ⟨k + 1, by omega, by go_num, by rw [HN.out]; simp⟩
    case measure => simp [intOf]; omega
  · obtain rfl : k = n := by omega
    have HG := kept (grow_nil_i (catI X k).length w HL.out); go_wp2_with (first | (go_at_call 88; (with_reducible refine (HG.out).mono ?_); rintro e w1 ⟨A1, c1, rfl, hown, hb, hg⟩; have HO := kept hown; have HB := kept hb; have HGN := kept hg; clear hown hb hg))
    go_loopw [6, 27] (fun o i wr => ∃ (j : Nat) (A2 : Option Addr) (c2 : Nat), j ≤ k ∧ i = .int .i64 j ∧ o = .slice A2 (catI X j).length c2 ∧ Hid (Says w wr (catI X j) A2 c2)) (fun _ i _ => k - (intOf i).toNat)
    case atStart => exact ⟨0, A1, c1, by omega, rfl, rfl, kept ⟨HO.out, HB.out, HGN.out⟩⟩
    case round =>
     obtain ⟨j, A2, c2, hj, rfl, rfl, hsay⟩ := hrel; by_cases hjk : j < k
     · have HRR := HR.out.below hsay.out.2.1; have hcj := (HRR j hjk).1; have HROW := kept (HRR j hjk).2; have HN : Hid ((catI X (j + 1)).length = (catI X j).length + (X j).length) := List.length_append; have HCAT : Hid (catI X (j + 1) = catI X j ++ X j) := rfl; have HLE := kept (show (catI X j).length + (X j).length ≤ 1000000 by
        have hle := catI_le X (Nat.succ_le_of_lt hjk); have h2 := Nat.le_trans hle HL.out; rw [show j.succ = j + 1 from rfl, HN.out] at h2; exact h2)
       clear HRR; go_wp2_with (first | (at_builtin; refine wpList_append_i rfl _ _ rfl rfl rfl hsay.out.1 HROW.out HLE.out ?_; intro A3 c3 w3 hown3 ht3 hg3))
       have HE : Hid (Says w w3 (catI X (j + 1)) A3 c3) := kept (by
        refine ⟨by rw [HCAT.out, List.length_append]; exact hown3, ?_, fun g hg => ?_⟩
        · exact ht3.only_new hsay.out.2.1 hsay.out.2.1.size (fun i hi => hsay.out.2.2 i hi)
        · rcases hg3 g hg with h | h
          · exact hsay.out.2.2 g h
          · exact Nat.le_trans hsay.out.2.1.size h)
       clear hown3 ht3 hg3; go_roundw
       case rel => exact ⟨j + 1, A3, c3, by omega, by go_num, by rw [HN.out], HE⟩
       case measure => simp [intOf]; omega
     · obtain rfl : j = k := by omega
       go_wp2; go_ret; exact ⟨A2, c2, rfl, hsay⟩
end Go.Proofs.YtblbhhijddcbeaaGreatDoor
end
