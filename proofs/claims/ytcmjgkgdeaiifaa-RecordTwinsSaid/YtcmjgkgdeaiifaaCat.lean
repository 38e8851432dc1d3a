/-
  What the library's slices.Grow of nil and slices.Concat of rows of bytes answer.
-/
import Derived.Test.YtcmjgkgdeaiifaaPart
import Derived.Test.YtcmjgkgdeaiifaaPut
import Derived.Lib.AppendZeros
namespace Go.Proofs.Ytcmjgkgdeaiifaa
open Go.ChangeShapes Go.WideShapes Go.ChangeAt Go.RowKit
set_option linter.unusedVariables false

theorem own_empty (w : World) (g cap : Nat) (Z : Array Value) (e : TypeId) (h : w.heap[g]? = some (.cells Z e (0, 0))) (hz : Z.size = cap) (hc : cap ≤ maxLen) {base : Nat} (hb : base ≤ g) : w.ownsRow base e 1 (.slice (some ⟨g, 0, none⟩) 0 cap) 0 (cellsOf []) :=
  ⟨by simp [cellsOf], .inr ⟨g, cap, Z, rfl, hb, h, Nat.zero_le _, hc, by omega, by simp [cellsOf]⟩⟩
set_option maxRecDepth 100000 in
theorem grow_nil (n : Nat) (w : World) (hn : n ≤ 140737488355328) :
    Calls Try.prog 40 #[.slice none 0 0, .int .i64 (n : Int)] w fun e w' => ∃ A c, e = .returned (.slice A 0 c) ∧ w'.ownsRow w.heap.size 5 1 (.slice A 0 c) 0 (cellsOf []) ∧ Below w.heap.size w w' := by
  rcases Nat.eq_zero_or_pos n with h0 | h0
  · subst h0
    go_enter Try.func40, Try.ntmps40
    go_wp2
    go_ret
    exact ⟨none, 0, rfl, World.ownsRow_nil _ _ _ _, Below.refl _ _⟩
  · obtain ⟨i0, hi, hz0, hz1, hz2⟩ := info_parts u8info
    have happ := Lib.run_append_nil_zeros (P := Try.prog) w 22 3 22 5 i0 (.int .u8 0) .i64 .i64 Try.underlying22 Try.underlying3 hi hz0 n h0 (by omega) (by omega) (by rw [hz2]; omega)
    have hcap := grownCap_ge w n 0 5
    have hcm := grownCap_le_maxLen w n 0 5 (by unfold maxLen; omega)
    have hZ : (Builtin.zeroCells (Value.int .u8 0).cells n ++ Builtin.zeroCells (Value.int .u8 0).cells (grownCap w n 0 5 - n)).size = grownCap w n 0 5 := by
      rw [Array.size_append, size_zeroCells, size_zeroCells]
      simp [Value.cells]
      omega
    generalize (Builtin.zeroCells (Value.int .u8 0).cells n ++ Builtin.zeroCells (Value.int .u8 0).cells (grownCap w n 0 5 - n)) = Z at happ hZ
    generalize grownCap w n 0 5 = G at happ hcap hcm hZ
    have hown := kept (own_empty (w.drew.alloc (.cells Z 5)) w.heap.size G Z 5 (heap_alloc_new w.drew (.cells Z 5)) hZ hcm (Nat.le_refl _))
    have hb := kept ((Below.refl w.heap.size w).drew.alloc (Nat.le_refl _) (.cells Z 5))
    have hG : G ≤ 9223372036854775807 := by unfold maxLen at hcm; omega
    clear hZ hcm
    go_enter Try.func40, Try.ntmps40
    go_wp2_with (at_builtin; refine Lib.wpList_append_run _ rfl _ _ _ _ rfl _ _ rfl rfl _ _ happ ?_)
    go_ret
    exact ⟨_, _, rfl, hown.out, hb.out⟩

/-- The first k rows, one behind the other; how many bytes these are. -/
def catX (X : Nat → List UInt8) : Nat → List UInt8
  | 0 => []
  | k + 1 => catX X k ++ X k
theorem catX_le (X : Nat → List UInt8) {k m : Nat} (h : k ≤ m) : (catX X k).length ≤ (catX X m).length := by
  induction m with
  | zero => obtain rfl : k = 0 := by omega
            exact Nat.le_refl _
  | succ m ih =>
    rcases Nat.lt_succ_iff_lt_or_eq.1 (Nat.lt_succ_of_le h) with h' | h'
    · have := ih (by omega)
      rw [show catX X (m + 1) = catX X m ++ X m from rfl, List.length_append]
      omega
    · subst h'; exact Nat.le_refl _
theorem catX_list (L : List Part) : catX (fun i => (L.getD i .none).xs) L.length = (L.map Part.xs).flatten := by
  have key : ∀ k, k ≤ L.length → catX (fun i => (L.getD i .none).xs) k = ((L.take k).map Part.xs).flatten := by
    intro k
    induction k with
    | zero => intro _; rfl
    | succ k ih =>
      intro hk
      rw [catX, ih (by omega), List.take_succ_eq_append_getElem (by omega), List.map_append, List.flatten_append]
      simp [show k < L.length by omega]
  have := key L.length (Nat.le_refl _)
  rwa [List.take_length] at this
theorem RdRows.below {w w' : World} {A : Option Addr} {n : Nat} {B : Nat → Option Addr} {C : Nat → Nat} {X : Nat → List UInt8} (h : RdRows w A n B C X) (hb : Below w.heap.size w w') : RdRows w' A n B C X :=
  ⟨fun hn => by
    obtain ⟨a, e, hc⟩ := h.cell hn
    exact ⟨a, e, fun i hi => (hb.cell (World.block_lt_of_cell? w _ (hc i hi))).trans (hc i hi)⟩, fun i hi => (h.row i hi).below hb, h.room⟩
set_option maxRecDepth 100000 in
theorem concat_any (A : Option Addr) (n c : Nat) (B : Nat → Option Addr) (C : Nat → Nat) (X : Nat → List UInt8) (w : World) (hr : RdRows w A n B C X) (hn : n ≤ 140737488355328) (hl : (catX X n).length ≤ 140737488355328) :
    Calls Try.prog 23 #[.slice A n c] w fun e w' => ∃ A' c', e = .returned (.slice A' (catX X n).length c') ∧ w'.ownsRow w.heap.size 5 1 (.slice A' (catX X n).length c') (catX X n).length (cellsOf (catX X n)) ∧ Below w.heap.size w w' := by
  have HR := kept hr
  have HL := kept hl
  clear hr hl
  go_enter Try.func23, Try.ntmps23
  go_wp2
  go_loop [3, 11] (fun v i => ∃ k : Nat, k ≤ n ∧ i = .int .i64 k ∧ v = .int .i64 (((catX X k).length : Nat) : Int)) (fun _ i => n - (intOf i).toNat)
  case atStart => exact ⟨0, by omega, rfl, rfl⟩
  case round =>
    obtain ⟨k, hk, rfl, rfl⟩ := hrel
    by_cases hlt : k < n
    · obtain ⟨a, ea, hca⟩ := HR.out.cell (by omega)
      subst ea
      have hck := hca k hlt
      have HN : Hid ((catX X (k + 1)).length = (catX X k).length + (X k).length) := List.length_append
      have hle := catX_le X (Nat.succ_le_of_lt hlt)
      have HLE := Nat.le_trans hle HL.out
      rw [show k.succ = k + 1 from rfl, HN.out] at HLE
      generalize (catX X k).length = u at HN HLE
      generalize (X k).length = v at HN HLE hck
      have hneg : decide (((u : Int) + (v : Int)) < 0) = false := by simp; omega
      have hwr : IntKind.i64.wrap ((u : Int) + (v : Int)) = (u : Int) + (v : Int) := IntWalk.i64_in _ ⟨by omega, by omega⟩
      clear hle hca
      go_wp2
      go_round
      case rel => exact ⟨k + 1, by omega, by go_num, by rw [HN.out]; simp⟩
      case measure => simp [intOf]; omega
    · obtain rfl : k = n := by omega
      have HG := kept (grow_nil (catX X k).length w HL.out)
      go_wp2_with (first | (go_at_call 40; (with_reducible refine (HG.out).mono ?_); rintro e w1 ⟨A1, c1, rfl, hown, hb⟩; have HO := kept hown; have HB := kept hb; clear hown hb))
      have HRW := kept (HR.out.below HB.out)
      have HSZ := kept HB.out.size
      go_loopw [6, 27] (fun o i wr => ∃ (j : Nat) (A2 : Option Addr) (c2 : Nat), j ≤ k ∧ i = .int .i64 j ∧ o = .slice A2 (catX X j).length c2 ∧ Hid (wr.ownsRow w.heap.size 5 1 (.slice A2 (catX X j).length c2) (catX X j).length (cellsOf (catX X j))) ∧ Below w.heap.size w wr) (fun _ i _ => k - (intOf i).toNat)
      case atStart => exact ⟨0, A1, c1, by omega, rfl, rfl, HO, HB.out⟩
      case round =>
        obtain ⟨j, A2, c2, hj, rfl, rfl, hown, hbw⟩ := hrel
        by_cases hjk : j < k
        · have HRR := HR.out.below hbw
          obtain ⟨a, ea, hca⟩ := HRR.cell (by omega)
          subst ea
          have hcj := hca j hjk
          have HN : Hid ((catX X (j + 1)).length = (catX X j).length + (X j).length) := List.length_append
          have HCAT : Hid (catX X (j + 1) = catX X j ++ X j) := rfl
          have HLE := kept (show (catX X j).length + (X j).length ≤ 140737488355328 by
            have hle := catX_le X (Nat.succ_le_of_lt hjk)
            have h2 := Nat.le_trans hle HL.out
            rw [show j.succ = j + 1 from rfl, HN.out] at h2
            exact h2)
          have HROW := kept (HRR.row j hjk)
          have HBW := kept hbw
          clear hca HRR hbw
          go_wp2_with (first | (at_builtin; refine wpList_append_rd rfl _ _ 22 rfl w.heap.size 5 rfl rfl Try.underlying22 u8info hown.out HROW.out HLE.out HBW.out.size ?_; intro A3 c3 w3 hown3 hb3; have HO3 := kept hown3; have HB3 := kept (HBW.out.trans hb3); clear hown3 hb3))
          go_roundw
          case rel => exact ⟨j + 1, A3, c3, by omega, by go_num, by rw [HN.out], by rw [HN.out, HCAT.out]; exact HO3, HB3.out⟩
          case measure => simp [intOf]; omega
        · obtain rfl : j = k := by omega
          go_wp2
          go_ret
          exact ⟨A2, c2, rfl, hown.out, hbw⟩
/-- Of a row of rows that the call has just laid. -/
theorem concat_list (L : List Part) (t : TypeId) (f : Nat × Nat) (c m : Nat) (w : World) (h : ∀ p ∈ L, Rd w p.at_ p.xs.length p.xs ∧ p.xs.length ≤ p.room) (hl : L.length ≤ 140737488355328) (xs : List UInt8) (hx : (L.map Part.xs).flatten = xs) (hm : xs.length = m) (hb : m ≤ 140737488355328) :
    Calls Try.prog 23 #[.slice (some ⟨w.heap.size, 0, none⟩) L.length c] (w.alloc (.cells (L.map Part.val).toArray t f)) fun e w' => ∃ A' c', e = .returned (.slice A' m c') ∧ w'.ownsRow (w.heap.size + 1) 5 1 (.slice A' m c') m (cellsOf xs) ∧ Below (w.heap.size + 1) (w.alloc (.cells (L.map Part.val).toArray t f)) w' := by
  subst hx hm
  have := concat_any _ L.length c _ _ _ _ (rows_new w t f L h) hl (by rw [catX_list]; exact hb)
  rw [catX_list, World.size_alloc] at this
  exact this
end Go.Proofs.Ytcmjgkgdeaiifaa
