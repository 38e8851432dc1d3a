/-
  What the document's own package of revisions answers (Encode, Decode, Low, Ahead), rev.Compare, and the fact that every law of the layer begins with.
-/
import Derived.Test.YtaknhbklopmojaaVc
namespace Go.Proofs.Ytaknhbklopmojaa
open Go.ChangeShapes Go.WideShapes Go.ChangeAt Go.RowKit
set_option linter.unusedVariables false
set_option linter.unusedSimpArgs false

theorem refPut_8 (n : Nat) (w : World) (hn : n < 18446744073709551616) :
    Calls Try.prog 24 #[.int .u64 (n : Int), .int .i64 8] w fun e w' => ∃ A c, e = .returned (.slice A 8 c) ∧ w'.ownsRow w.heap.size 5 1 (.slice A 8 c) 8 (cellsOf (be n 8)) ∧ Below w.heap.size w w' := refPut_own n 8 w hn (by omega)
theorem Two.far {B : Nat} {W W' : World} {b : Nat} {x y : Int} (h : Two W b x y) (hb : Below B W W') (hB : b < B) : Two W' b x y := ⟨(hb.cell (p := ⟨b, 0, none⟩) hB).trans h.1, (hb.cell (p := ⟨b, 1, none⟩) hB).trans h.2⟩
theorem refEnc_any (m s : Nat) (t : Bool) (w : World) (hm : m ≤ 4611686018427387904) (hs : s ≤ 4611686018427387904) :
    Calls Try.prog 14 #[.agg #[.int .i64 (m : Int), .int .i64 (s : Int)], .bool t] w fun e w' => ∃ A c, e = .returned (.slice A (revN t) c) ∧ w'.ownsRow w.heap.size 5 1 (.slice A (revN t) c) (revN t) (cellsOf (revB m s (signB t))) ∧ Below w.heap.size w w' := by
  have HP1 := fun w => kept (refPut_8 m w (by omega))
  have HP2 := fun w => kept (refPut_8 s w (by omega))
  have hm1 : (m : Int) ≤ 4611686018427387904 := by omega
  have hs1 : (s : Int) ≤ 4611686018427387904 := by omega
  have HB0 := kept ((Below.refl w.heap.size w).alloc (Nat.le_refl _) (.cells #[.int .i64 (m : Int), .int .i64 (s : Int)] 23))
  have HT0 := kept (two_new w 23 (m : Int) (s : Int))
  have HSZ : Hid ((w.alloc (.cells #[.int .i64 (m : Int), .int .i64 (s : Int)] 23)).heap.size = w.heap.size + 1) := by simp [Hid]
  clear hm hs
  cases t
  all_goals
    go_enter Try.func14, Try.ntmps14
    go_wp2_with fail
    with_reducible refine (HP1 _).out.mono ?_
    rintro e w1 ⟨A1, c1, rfl, hown, hb⟩
    have HT1 := kept (HT0.out.keeps (Keeps.of_below hb))
    have HB1 := kept (bel_to hb HB0.out)
    have hsz := hb.size
    rw [HSZ.out] at hown hsz
    have HZ1 := kept hsz
    have HO1 := kept hown
    clear hown hb hsz
    go_wp2_with (at_builtin; refine wpList_append_str (ys := [95]) rfl _ _ rfl (w.heap.size + 1) rfl HO1.out rfl (by simp) HZ1.out 9 (be m 8 ++ [95]) rfl rfl (by omega) ?_; intro A2 c2 w2 hown hb; have HO2 := kept hown; have HB2 := kept (HB1.out.trans (hb.mono (Nat.le_succ _))); have HT2 := kept (HT1.out.far hb (Nat.lt_succ_self _)); have HZ2 := kept (Nat.le_trans HZ1.out hb.size); obtain ⟨e0, e1⟩ := HT2.out; clear hown hb)
    with_reducible refine (HP2 _).out.mono ?_
    rintro e w3 ⟨A3, c3, rfl, hown, hb⟩
    have HO3 := kept (own_stays HO2.out hb)
    have HR3 := kept (Rd.of_own hown)
    have HB3 := kept (bel_to hb HB2.out)
    have HZ3 := kept (Nat.le_trans HZ2.out hb.size)
    clear hown hb
    go_wp2_with (first | (at_builtin; refine wpList_append_to rfl _ _ 25 rfl (w.heap.size + 1) 5 rfl rfl Try.underlying25 u8info HO3.out HR3.out (by omega) HZ3.out 17 (revB m s []) rfl (by simp [revB]) ?_; intro A4 c4 w4 hown hb; have HO4 := kept hown; have HB4 := kept (HB3.out.trans (hb.mono (Nat.le_succ _))); have HZ4 := kept (Nat.le_trans HZ3.out hb.size); clear hown hb) | (at_builtin; refine wpList_append_str (ys := [116]) rfl _ _ rfl (w.heap.size + 1) rfl HO4.out rfl (by simp) HZ4.out 18 (revB m s [116]) rfl (by simp [revB]) (by omega) ?_; intro A5 c5 w5 hown hb; have HO5 := kept hown; have HB5 := kept (HB4.out.trans (hb.mono (Nat.le_succ _))); clear hown hb))
    go_ret
    first | exact ⟨_, _, rfl, own_mono HO4.out (Nat.le_succ _), HB4.out⟩ | exact ⟨_, _, rfl, own_mono HO5.out (Nat.le_succ _), HB5.out⟩
theorem refEnc_f (m s : Nat) (w : World) (hm : m ≤ 4611686018427387904) (hs : s ≤ 4611686018427387904) :
    Calls Try.prog 14 #[.agg #[.int .i64 (m : Int), .int .i64 (s : Int)], .bool false] w fun e w' => ∃ A c, e = .returned (.slice A 17 c) ∧ w'.ownsRow w.heap.size 5 1 (.slice A 17 c) 17 (cellsOf (revB m s [])) ∧ Below w.heap.size w w' := refEnc_any m s false w hm hs
theorem refEnc_0 (m : Nat) (w : World) (hm : m ≤ 4611686018427387904) :
    Calls Try.prog 14 #[.agg #[.int .i64 (m : Int), .int .i64 0], .bool false] w fun e w' => ∃ A c, e = .returned (.slice A 17 c) ∧ w'.ownsRow w.heap.size 5 1 (.slice A 17 c) 17 (cellsOf (revB m 0 [])) ∧ Below w.heap.size w w' := refEnc_any m 0 false w hm (by omega)
theorem refEnc_u (w : World) :
    Calls Try.prog 14 #[.agg #[.int .i64 4611686018427387904, .int .i64 4611686018427387904], .bool false] w fun e w' => ∃ A c, e = .returned (.slice A 17 c) ∧ w'.ownsRow w.heap.size 5 1 (.slice A 17 c) 17 (cellsOf (revB 4611686018427387904 4611686018427387904 [])) ∧ Below w.heap.size w w' := refEnc_any 4611686018427387904 4611686018427387904 false w (by omega) (by omega)
theorem one_rd {X : World} {x : UInt8} : Rd (X.alloc (.cells #[.int .u8 (x.toNat : Int)] 5)) (some ⟨X.heap.size, 0, none⟩) 1 [x] := Rd.marked X 5 [x] (0, 0)
theorem refLow_any (M : Int) (w : World) :
    Calls Try.prog 22 #[.int .i64 M] w fun e w' => ∃ A n c, e = .returned (.slice A n c) ∧ Rd w' A n (lowB M) ∧ Below w.heap.size w w' := by
  by_cases h1 : M < 1
  · have e : Hid (lowB M = []) := by show _ = _; unfold lowB; rw [if_pos h1]
    have HB0 := kept ((Below.refl w.heap.size w).alloc (Nat.le_refl _) (.cells #[] 5))
    go_enter Try.func22, Try.ntmps22
    go_wp2
    go_ret
    exact ⟨_, 0, 0, rfl, by rw [e.out]; exact Rd.nil_ _ _, HB0.out⟩
  · by_cases h2 : 4611686018427387904 < M
    · have e : Hid (lowB M = revB 4611686018427387904 4611686018427387904 [117]) := by show _ = _; unfold lowB; rw [if_neg h1, if_pos h2]
      have HR := fun w => kept (refEnc_u w)
      have g1 : 1 ≤ M := by omega
      go_enter Try.func22, Try.ntmps22
      go_wp2_with fail
      with_reducible refine (HR _).out.mono ?_
      rintro e w1 ⟨A1, c1, rfl, hown, hb⟩
      have HO1 := kept (own_stays hown ((Below.refl _ _).alloc (Nat.le_refl _) (.cells #[.int .u8 117] 5)))
      have HB1 := kept (hb.alloc hb.size (.cells #[.int .u8 117] 5))
      have HR1 := kept (one_rd (X := w1) (x := 117))
      clear hown hb
      go_wp2_with (first | (at_builtin; refine wpList_append_to rfl _ _ 25 rfl w.heap.size 5 rfl rfl Try.underlying25 u8info HO1.out HR1.out (by omega) HB1.out.size 18 (revB 4611686018427387904 4611686018427387904 [117]) rfl (by simp [revB]) ?_; intro A4 c4 w4 hown hb; have HO4 := kept hown; have HB4 := kept (HB1.out.trans hb); clear hown hb))
      go_ret
      exact ⟨_, 18, _, rfl, by rw [e.out]; exact Rd.of_own HO4.out, HB4.out⟩
    · obtain ⟨m, rfl⟩ : ∃ k : Nat, M = (k : Int) := ⟨M.toNat, by omega⟩
      have e : Hid (lowB (m : Int) = revB m 0 []) := by show _ = _; unfold lowB; rw [if_neg h1, if_neg h2, Int.toNat_natCast]
      have HR := fun w => kept (refEnc_0 m w (by omega))
      have g1 : 1 ≤ m := by omega
      have g2 : m ≤ 4611686018427387904 := by omega
      clear h1 h2
      go_enter Try.func22, Try.ntmps22
      go_wp2_with (first | (go_at_call 14; (with_reducible refine ((HR _).out).mono ?_); rintro e w2 ⟨A2, c2, rfl, hown, hb⟩; have HO := kept hown; have HB2 := kept hb; clear hown hb))
      go_ret
      exact ⟨A2, 17, c2, rfl, by rw [e.out]; exact Rd.of_own HO.out, HB2.out⟩
end Go.Proofs.Ytaknhbklopmojaa
