/-
  The law SumSums walked: for every list of rows of bytes it returns true and writes nothing that was there.
-/
import Derived.Test.YtnnngjcakljceaaDoorSeal
namespace Go.Proofs.YtnnngjcakljceaaDoor.sumSums
open Go.ChangeShapes Go.WideShapes Go.ChangeAt Go.RowKit Crc
set_option linter.unusedVariables false

/-- The first k rows, one behind the other. -/
def cat (X : Nat → List UInt8) : Nat → List UInt8
  | 0 => []
  | k + 1 => cat X k ++ X k
theorem reg_cat (X : Nat → List UInt8) (k : Nat) : reg X k = crc 4294967295 (cat X k) := by
  induction k with
  | zero => rfl
  | succ k ih => rw [reg, cat, crc_append, ih]
theorem rows_below {w w' : World} {A : Option Addr} {n : Nat} {B : Nat → Option Addr} {C : Nat → Nat} {X : Nat → List UInt8} (h : RdRows w A n B C X) (hb : Below w.heap.size w w') : RdRows w' A n B C X := by
  refine ⟨fun hn => ?_, fun i hi => (h.row i hi).below hb, h.room⟩
  obtain ⟨a, e, hc⟩ := h.cell hn
  exact ⟨a, e, fun i hi => (hb.cell (World.block_lt_of_cell? w _ (hc i hi))).trans (hc i hi)⟩

theorem walk (w : World) (hf : Fours w) (A : Option Addr) (n c : Nat) (hnc : n ≤ c) (hcm : c ≤ maxLen) (B : Nat → Option Addr) (C : Nat → Nat) (X : Nat → List UInt8) (hr : RdRows w A n B C X) :
    Calls Tryd.prog 3 #[.slice A n c] w fun e w' => e = .returned (.bool true) ∧ Below w.heap.size w w' := by
  have HL := kept (lives_any w hf)
  have HF := kept hf
  have HR := kept hr
  have hnm : n ≤ 9223372036854775807 := by unfold maxLen at hcm; omega
  clear hf hr hcm
  by_cases hbig : 100 < n
  · go_enter Tryd.func3, Tryd.ntmps3
    go_wp2_with fail
    with_reducible refine HL.out.mono ?_
    rintro e w1 ⟨rfl, hb⟩
    have HB := kept hb
    have HL2 := kept (lives_any w1 (HF.out.below hb))
    clear hb
    go_wp2_with fail
    with_reducible refine HL2.out.mono ?_
    rintro e w2 ⟨rfl, hb2⟩
    have HB2 := kept (HB.out.trans (hb2.mono HB.out.size))
    clear hb2
    go_wp2
    go_ret
    exact ⟨rfl, HB2.out⟩
  · have hsm : n ≤ 100 := by omega
    have hbd : decide ((100 : Int) < (n : Int)) = false := by simp; omega
    clear hbig
    go_enter Tryd.func3, Tryd.ntmps3
    go_wp2_with fail
    with_reducible refine HL.out.mono ?_
    rintro e w1 ⟨rfl, hb⟩
    have HB1 := kept hb
    clear hb
    go_wp2
    go_loopw [3, 16] (fun b i wr => ∃ (k : Nat) (Ab : Option Addr) (nb cb : Nat), k ≤ n ∧ nb ≤ 8192 ∧ i = .int .i64 k ∧ b = .slice Ab nb cb ∧ Hid (wr.ownsRow w.heap.size 5 1 (.slice Ab nb cb) nb (cellsOf (cat X k))) ∧ Hid (Below w.heap.size w wr) ∧ Hid (∀ i, i < k → (X i).length ≤ 4096)) (fun _ i _ => n - (intOf i).toNat)
    case atStart => exact ⟨0, none, 0, 0, Nat.zero_le _, Nat.zero_le _, rfl, rfl, World.ownsRow_nil _ _ _ _, HB1.out, fun i hi => absurd hi (by omega)⟩
    case round =>
      obtain ⟨k, Ab, nb, cb, hk, hnb, rfl, rfl, HO, HB, HX⟩ := hrel
      by_cases hlt : k < n
      · obtain ⟨a, rfl, hc⟩ := HR.out.cell (by omega)
        have hck : wr.cell? (a.add k) = some (.slice (B k) (X k).length (C k)) := (HB.out.cell (p := a.add k) (World.block_lt_of_cell? w _ (hc k hlt))).trans (hc k hlt)
        have hi1 : (0 : Int) ≤ (k : Int) := by omega
        have hi2 : (k : Int) < (n : Int) := by omega
        have HROW := kept (HR.out.row k hlt)
        generalize hm : (X k).length = m at hck HROW
        have HM := kept hm
        clear hc hm
        by_cases hbig : 4096 < m
        · go_wp2
          go_ret
          exact ⟨rfl, HB.out⟩
        · have hm40 : m ≤ 4096 := by omega
          have hmd : decide ((4096 : Int) < (m : Int)) = false := by simp; omega
          clear hbig
          by_cases hall : 4096 < nb
          · go_wp2
            go_ret
            exact ⟨rfl, HB.out⟩
          · have hn40 : nb ≤ 4096 := by omega
            have hnd : decide ((4096 : Int) < (nb : Int)) = false := by simp; omega
            clear hall
            go_wp2_with (first | (at_builtin; refine wpList_append_rd rfl _ _ 24 rfl w.heap.size 5 rfl rfl Tryd.underlying24 u8info HO.out (HROW.out.below HB.out) (by omega) HB.out.size ?_; intro A3 c3 w3 hown3 hb3; have HO3 := kept hown3; have HB3 := kept (HB.out.trans hb3); clear hown3 hb3))
            go_roundw
            case rel =>
              refine ⟨k + 1, A3, _, c3, by omega, ?_, by go_num, rfl, HO3.out, HB3, fun i hi => ?_⟩
              · omega
              · rcases Nat.lt_succ_iff_lt_or_eq.1 hi with h | h
                · exact HX.out i h
                · subst h; have := HM.out; omega
            case measure => simp [intOf]; omega
      · obtain rfl : k = n := by omega
        have HSUM := kept (sum_any A k c B C X wr (rows_below HR.out HB.out) (by omega) (fun i hi => by have := HX.out i hi; omega) (HF.out.below HB.out))
        have hrs := refSum_any Ab nb cb (cat X k) wr (Rd.of_own HO.out) (by omega)
        rw [← reg_cat] at hrs
        have HREF := kept hrs
        generalize fin (reg X k) = s at HSUM HREF
        clear hrs
        go_wp2_with fail
        with_reducible refine HSUM.out.mono ?_
        rintro e w2 ⟨rfl, rfl⟩
        go_wp2_with fail
        with_reducible refine HREF.out.mono ?_
        rintro e w3 ⟨rfl, rfl⟩
        go_wp2
        go_ret
        exact ⟨rfl, HB.out⟩
end Go.Proofs.YtnnngjcakljceaaDoor.sumSums
