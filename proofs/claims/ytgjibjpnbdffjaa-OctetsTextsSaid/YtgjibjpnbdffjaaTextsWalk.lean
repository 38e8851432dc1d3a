/-
  The law OctetsTexts walked: for all lists of texts it returns true and writes nothing that was there.
-/
import Derived.Test.YtgjibjpnbdffjaaReader3
import Derived.Test.YtgjibjpnbdffjaaRows2
namespace Go.Proofs.Ytgjibjpnbdffjaa.octetsTexts
open Go.ChangeShapes Go.WideShapes Go.ChangeAt Go.RowKit
set_option linter.unusedVariables false

/-- The texts with their lengths ahead, the first k of them. -/
def enc (X : Nat → List UInt8) : Nat → List UInt8
  | 0 => []
  | k + 1 => enc X k ++ (be (X k).length 2 ++ X k)
theorem enc_length (X : Nat → List UInt8) (k : Nat) (h : ∀ i, i < k → (X i).length ≤ 3000) : (enc X k).length ≤ k * 3002 := by
  induction k with
  | zero => simp [enc]
  | succ k ih =>
    have := ih fun i hi => h i (by omega)
    have := h k (by omega)
    simp [enc, be_length]
    omega
theorem enc_step (X : Nat → List UInt8) (k : Nat) : (enc X (k + 1)).length = (enc X k).length + 2 + (X k).length := by
  simp [enc, be_length]
  omega
/-- What stands behind the first k of them begins with the next one. -/
theorem enc_rest (X : Nat → List UInt8) (k l : Nat) (h : k < l) : ∃ r, enc X l = enc X k ++ (be (X k).length 2 ++ X k) ++ r := by
  induction l with
  | zero => omega
  | succ l ih =>
    by_cases e : k = l
    · subst e; exact ⟨[], by simp [enc]⟩
    · obtain ⟨r, hr⟩ := ih (by omega)
      exact ⟨r ++ (be (X l).length 2 ++ X l), by rw [enc, hr]; simp [List.append_assoc]⟩
theorem part_at (a b r : List UInt8) {p s : Nat} (hp : a.length = p) (hs : b.length = s) : part (a ++ b ++ r) p s = b := by
  subst hp; subst hs
  unfold part
  rw [List.append_assoc, List.drop_left, List.take_left]
theorem own_keep {w w' : World} {base : Nat} {e : TypeId} {A : Option Addr} {n c : Nat} {xs : List Value} (h : w.ownsRow base e 1 (.slice A n c) n xs) (hb : Below w.heap.size w w') : w'.ownsRow base e 1 (.slice A n c) n xs := by
  refine h.kept (row := none) ⟨hb.os, hb.tape, hb.output, hb.size, fun i hi _ => hb.block i hi⟩ ?_
  cases A
  · exact .inl rfl
  · exact .inr (by simp [Value.ownBlock])

theorem put_two (m : Nat) (w : World) (hm : m ≤ 3000) :
    Calls Try.prog 12 #[.int .u64 (m : Int), .int .i64 2] w fun e w' => ∃ A c, e = .returned (.tuple #[.slice A 2 c, .int .i64 0]) ∧ w'.ownsRow w.heap.size 5 1 (.slice A 2 c) 2 (cellsOf (be m 2)) ∧ Below w.heap.size w w' :=
  put_ok m 2 w (by omega) (by omega) (by omega)
/-- One text read: the call's facts, from where it stands. -/
theorem read_one (X : Nat → List UInt8) (n k m nb : Nat) (hk : k < n) (hm : (X k).length = m) (h3 : m ≤ 3000) (hnb : (enc X n).length = nb) :
    (enc X k).length + 2 + m ≤ nb ∧ num (part (enc X n) (enc X k).length 2) 0 = m ∧ part (enc X n) ((enc X k).length + 2) m = X k := by
  obtain ⟨r, hr⟩ := enc_rest X k n hk
  refine ⟨?_, ?_, ?_⟩
  · rw [← hnb, hr]
    simp [be_length, hm]
    omega
  · have e : enc X n = enc X k ++ be (X k).length 2 ++ (X k ++ r) := by rw [hr]; simp [List.append_assoc]
    rw [e, part_at _ _ _ rfl (be_length _ _), hm]
    exact num_be m 2 (by omega)
  · have e : enc X n = (enc X k ++ be (X k).length 2) ++ X k ++ r := by rw [hr]; simp [List.append_assoc]
    rw [e]
    exact part_at _ _ _ (by simp [be_length]) hm

theorem walk (w : World) (A : Option Addr) (n c : Nat) (hnc : n ≤ c) (hcm : c ≤ maxLen) (B : Nat → Option Addr) (C : Nat → Nat) (X : Nat → List UInt8) (hr : RdRows w A n B C X) :
    Calls Try.prog 11 #[.slice A n c] w fun e w' => e = .returned (.bool true) ∧ Below w.heap.size w w' := by
  have HR := kept hr
  have hnm : n ≤ 9223372036854775807 := by unfold maxLen at hcm; omega
  clear hr hcm
  by_cases hbig : 30 < n
  · go_enter Try.func11, Try.ntmps11
    go_wp2
    go_ret
    exact ⟨rfl, Below.refl _ _⟩
  · have hn30 : n ≤ 30 := by omega
    clear hbig
    go_enter Try.func11, Try.ntmps11
    go_wp2
    go_loopw [3, 16] (fun b i wr => ∃ (k : Nat) (Ab : Option Addr) (nb cb : Nat), k ≤ n ∧ i = .int .i64 k ∧ b = .slice Ab nb cb ∧ Hid (wr.ownsRow w.heap.size 5 1 (.slice Ab nb cb) nb (cellsOf (enc X k))) ∧ Hid (Below w.heap.size w wr) ∧ Hid (∀ i, i < k → (X i).length ≤ 3000)) (fun _ i _ => n - (intOf i).toNat)
    case atStart => exact ⟨0, none, 0, 0, Nat.zero_le _, rfl, rfl, World.ownsRow_nil _ _ _ _, Below.refl _ _, fun i hi => absurd hi (by omega)⟩
    case round =>
      obtain ⟨k, Ab, nb, cb, hk, rfl, rfl, HO, HB, HX⟩ := hrel
      by_cases hlt : k < n
      · obtain ⟨a, rfl, hc⟩ := HR.out.cell (by omega)
        have hck : wr.cell? (a.add k) = some (.slice (B k) (X k).length (C k)) := (HB.out.cell (p := a.add k) (World.block_lt_of_cell? w _ (hc k hlt))).trans (hc k hlt)
        have hi1 : (0 : Int) ≤ (k : Int) := by omega
        have hi2 : (k : Int) < (n : Int) := by omega
        have HLN : Hid (nb = (enc X k).length) := by have := HO.out.1; rw [cellsOf_length] at this; show nb = _; omega
        have hle := enc_length X k HX.out
        have hnb : nb ≤ 90060 := by have := HLN.out; omega
        have HROW := kept (HR.out.row k hlt)
        generalize hm : (X k).length = m at hck HROW
        have HM := kept hm
        clear hc hle hm
        by_cases hbig : 3000 < m
        · go_wp2
          go_ret
          exact ⟨rfl, HB.out⟩
        · have hm30 : m ≤ 3000 := by omega
          have HPUT := kept (put_two m wr hm30)
          clear hbig
          go_wp2_with fail
          with_reducible refine HPUT.out.mono ?_
          rintro e w1 ⟨A1, c1, rfl, hown1, hb1⟩
          have HO1 := kept (own_keep HO.out hb1)
          have HR1 := kept (Rd.of_own hown1)
          have HB1 := kept (HB.out.trans (hb1.mono HB.out.size))
          clear hown1 hb1
          go_wp2_with (first | (at_builtin; refine wpList_append_rd rfl (.tmp 30) (.tmp 31) 23 rfl w.heap.size 5 rfl rfl Try.underlying23 u8info HO1.out HR1.out (by omega) HB1.out.size ?_; intro A2 c2 w2 hown2 hb2; have HO2 := kept hown2; have HB2 := kept (HB1.out.trans hb2); clear hown2 hb2) | (at_builtin; refine wpList_append_rd rfl (.tmp 32) (.tmp 33) 23 rfl w.heap.size 5 rfl rfl Try.underlying23 u8info HO2.out (HROW.out.below HB2.out) (by omega) HB2.out.size ?_; intro A3 c3 w3 hown3 hb3; have HO3 := kept hown3; have HB3 := kept (HB2.out.trans hb3); clear hown3 hb3))
          go_roundw
          case rel =>
            refine ⟨k + 1, A3, _, c3, by omega, by go_num, rfl, ?_, HB3, fun i hi => ?_⟩
            · have h := HO3.out
              have e : enc X k ++ be m 2 ++ X k = enc X (k + 1) := by rw [enc, HM.out, List.append_assoc]
              rw [e] at h
              exact h
            · rcases Nat.lt_succ_iff_lt_or_eq.1 hi with h | h
              · exact HX.out i h
              · subst h; have := HM.out; omega
          case measure => simp [intOf]; omega
      · obtain rfl : k = n := by omega
        have HLN : Hid ((enc X k).length = nb) := by have := HO.out.1; rw [cellsOf_length] at this; show _ = nb; omega
        have hle := enc_length X k HX.out
        have hnb : nb ≤ 90060 := by have := HLN.out; omega
        have HNR := kept (newReader_any Ab nb cb (enc X k) wr (Rd.of_own HO.out) (by omega))
        clear hle
        go_wp2_with fail
        with_reducible refine HNR.out.mono ?_
        rintro e w1 ⟨r, A1, c1, rfl, H1, hc1, hr1, hb1⟩
        have HRDR := kept H1
        have HB1 := kept (HB.out.trans (hb1.mono HB.out.size))
        have HRW := kept (Nat.le_trans HB.out.size hr1)
        clear H1 hb1
        go_wp2
        go_loopw [40] (fun i wr => ∃ j : Nat, j ≤ k ∧ i = .int .i64 j ∧ Hid (Rdr wr r A1 nb c1 (enc X k) (enc X j).length 0) ∧ Hid (Below w.heap.size w wr)) (fun i _ => k - (intOf i).toNat)
        case atStart => exact ⟨0, Nat.zero_le _, rfl, HRDR, HB1⟩
        case round =>
          obtain ⟨j, hj, rfl, HD, HBB⟩ := hrel
          by_cases hjk : j < k
          · obtain ⟨a, rfl, hc⟩ := HR.out.cell (by omega)
            have hck : wr.cell? (a.add j) = some (.slice (B j) (X j).length (C j)) := (HBB.out.cell (p := a.add j) (World.block_lt_of_cell? w _ (hc j hjk))).trans (hc j hjk)
            have hi1 : (0 : Int) ≤ (j : Int) := by omega
            have hi2 : (j : Int) < (k : Int) := by omega
            have HROW := kept (HR.out.row j hjk)
            have h3 := HX.out j hjk
            generalize hm : (X j).length = m at hck HROW h3
            obtain ⟨g1, g2, g3⟩ := read_one X k j m nb hjk hm h3 HLN.out
            have HT := kept (text_ok r A1 nb c1 (enc X k) (enc X j).length 3000 wr HD.out (by omega) hc1 m g1 g2 (by omega))
            have HS := enc_step X j
            rw [hm] at HS
            have HSTEP := kept HS
            have HPART := kept g3
            clear hc hm g1 g2 g3 HS
            go_wp2_with fail
            with_reducible refine HT.out.mono ?_
            rintro e w2 ⟨A2, c2, rfl, HR2, H2⟩
            have HB2 := kept (Only.below HBB.out H2.out.2 HBB.out.size HRW.out)
            have HSAME := kept (same_any A2 (B j) m m c2 (C j) _ _ w2 HR2.out (HROW.out.below HB2.out) true (by simp [HPART.out]))
            go_wp2_with (first | (go_at_call 14; (with_reducible refine (HSAME.out).mono ?_); rintro e w' ⟨rfl, rfl⟩))
            go_roundw
            case rel => exact ⟨j + 1, by omega, by go_num, by rw [HSTEP.out]; exact H2.out.1, HB2⟩
            case measure => simp [intOf]; omega
          · obtain rfl : j = k := by omega
            have HE := kept (endR_any r A1 nb c1 (enc X j) (enc X j).length 0 wr HD.out (by omega) (by have := HLN.out; omega))
            have he : endE nb (enc X j).length 0 = 0 := by have := HLN.out; simp [endE]; omega
            rw [he] at HE
            have HAT := fun q => kept (at_any r A1 nb c1 (enc X j) (enc X j).length 0 (wr.drewN q) (HD.out.drewN q))
            rw [HLN.out] at HAT
            clear he
            go_wp2_with (first | (go_at_call 27; (with_reducible refine (HE.out).mono ?_); rintro e w' ⟨rfl, q, rfl⟩) | (go_at_call 28; (with_reducible refine ((HAT _).out).mono ?_); rintro e w' ⟨rfl, rfl⟩))
            go_ret
            exact ⟨rfl, drewN_below HBB.out _⟩
end Go.Proofs.Ytgjibjpnbdffjaa.octetsTexts
