/-
  The package's reader from any state, whatever its error: Num and Text; record's readNumber, readRest and Decode.
-/
import Derived.Test.YtcmjgkgdeaiifaaNb
import Derived.Test.YtcmjgkgdeaiifaaReader3
import Derived.Test.YtcmjgkgdeaiifaaRs
namespace Go.Proofs.Ytcmjgkgdeaiifaa
open Go.ChangeShapes Go.WideShapes Go.ChangeAt Go.RowKit
set_option linter.unusedVariables false
set_option linter.unusedSimpArgs false
attribute [local go_sem ↓] Go.wp_at_zero Go.wp_at_succ

theorem text_new (r : Nat) (A : Option Addr) (n c : Nat) (xs : List UInt8) (pos : Nat) (most : Int) (w : World) (h : Rdr w r A n c xs pos 0) (hl : n ≤ 140737488355328) (hnc : n ≤ c) (v : Nat) (hp : pos + 2 + v ≤ n) (hv : num (part xs pos 2) 0 = v) (hm : (v : Int) ≤ most) :
    Calls Try.prog 33 #[.pointer (some ⟨r, 0, none⟩), .int .i64 most] w fun e w' => ∃ A' c', e = .returned (.slice A' v c') ∧ Hid (Rd w' A' v (part xs (pos + 2) v) ∧ New A' v w.heap.size ∧ v ≤ c') ∧ Hid (Rdr w' r A n c xs (pos + 2 + v) 0 ∧ Only w w' r) := by
  have hb := num_part_lt xs pos 2 (by rw [h.2.1]; omega)
  have hN := num_two r A n c xs pos w h hl (by omega)
  rw [hv] at hN hb
  have hb2 : v < 65536 := hb
  have HN := kept hN
  have HS := kept (stopped_no r A n c xs pos w h)
  have h1 := h.place
  have hd : decide (most < (v : Int)) = false := by simp; omega
  clear h hv hN hb hm
  go_enter Try.func33, Try.ntmps33
  go_wp2_with fail
  with_reducible refine HS.out.mono ?_
  rintro e w' ⟨rfl, rfl⟩
  go_wp2_with fail
  with_reducible refine HN.out.mono ?_
  rintro e w1 ⟨rfl, H1⟩
  have g2 := H1.out.1.error
  have HB := kept (bytes_new r A n c xs (pos + 2) v w1 H1.out.1 hl hnc hp)
  go_wp2_with fail
  with_reducible refine HB.out.mono ?_
  rintro e w2 ⟨A2, c2, rfl, HR2, H2⟩
  have k2 := H2.out.1.error
  have HO := kept (H1.out.2.trans H2.out.2)
  go_wp2
  go_ret
  exact ⟨A2, c2, rfl, ⟨HR2.out.1, fun g hg => HR2.out.2.1 g (Nat.lt_of_lt_of_le hg H1.out.2.size), HR2.out.2.2⟩, H2.out.1, HO.out⟩
/-- A reader in a state (place, error). -/
def RX (w : World) (r : Nat) (A : Option Addr) (n c : Nat) (xs : List UInt8) (s : Nat × Int) : Prop := Rdr w r A n c xs s.1 s.2 ∧ s.1 ≤ n ∧ n ≤ c ∧ n ≤ 140737488355328
section
variable {w w' : World} {r g : Nat} {A : Option Addr} {n c : Nat} {xs : List UInt8} {s : Nat × Int}
theorem RX.below (h : RX w r A n c xs s) (hb : Below w.heap.size w w') : RX w' r A n c xs s := ⟨h.1.below hb, h.2⟩
theorem RX.lt (h : RX w r A n c xs s) : r < w.heap.size := h.1.1.lt
theorem RX.set_ (h : RX w r A n c xs s) (hg : r ≠ g) (ha : apartA A n g) (i : Nat) (u : Value) : RX (w.setCell ⟨g, i, none⟩ u) r A n c xs s :=
  ⟨⟨h.1.1.far hg u, h.1.2.grown ha ((Only.refl w g).setCell i u)⟩, h.2⟩
theorem RX.apart (h : RX w r A n c xs s) (hg : w.heap.size ≤ g) : apartA A n g := h.1.2.fresh hg
end
theorem numX_any (r : Nat) (A : Option Addr) (n c : Nat) (xs : List UInt8) (s : Nat × Int) (k : Nat) (w : World) (h : RX w r A n c xs s) (h1 : 1 ≤ k) (h2 : k ≤ 8) :
    Calls Try.prog 32 #[.pointer (some ⟨r, 0, none⟩), .int .i64 (k : Int)] w fun e w' => e = .returned (.int .u64 (((rnumX xs k s).1 : Nat) : Int)) ∧ Hid (RX w' r A n c xs (rnumX xs k s).2 ∧ Only w w' r) := by
  obtain ⟨pos, err⟩ := s
  have hl := h.1.2.1
  obtain ⟨hr, hp, hc, hb⟩ := h
  simp only at hr hp
  by_cases h0 : err = 0
  · subst h0
    by_cases hk : pos + k ≤ n
    · refine (num_ok r A n c xs pos k w hr hb h1 h2 hk).mono ?_
      rintro e w' ⟨rfl, hR, hO⟩
      simp only [rnumX, hl, hk, if_true, ne_eq, not_true_eq_false, if_false]
      exact ⟨by first | trivial | rfl, ⟨hR, hk, hc, hb⟩, hO⟩
    · refine (num_bad r A n c xs pos k 0 3 w hr (by decide) (fun W _ => get_short A n c pos k W (by omega) (by omega) hb (.inr (by omega)) (by omega))).mono ?_
      rintro e w' ⟨rfl, hR, hO⟩
      simp only [rnumX, hl, hk, ne_eq, not_true_eq_false, if_false]
      exact ⟨by first | trivial | rfl, ⟨hR, hp, hc, hb⟩, hO⟩
  · refine (num_stopped r A n c xs pos err k w hr h0).mono ?_
    rintro e w' ⟨rfl, rfl⟩
    simp only [rnumX, ne_eq, h0, not_false_eq_true, if_true]
    exact ⟨by first | trivial | rfl, ⟨hr, hp, hc, hb⟩, Only.refl _ _⟩
theorem numX1 (r : Nat) (A : Option Addr) (n c : Nat) (xs : List UInt8) (s : Nat × Int) (w : World) (h : RX w r A n c xs s) :
    Calls Try.prog 32 #[.pointer (some ⟨r, 0, none⟩), .int .i64 1] w fun e w' => e = .returned (.int .u64 (((rnumX xs 1 s).1 : Nat) : Int)) ∧ Hid (RX w' r A n c xs (rnumX xs 1 s).2 ∧ Only w w' r) := numX_any r A n c xs s 1 w h (by omega) (by omega)
theorem numX8 (r : Nat) (A : Option Addr) (n c : Nat) (xs : List UInt8) (s : Nat × Int) (w : World) (h : RX w r A n c xs s) :
    Calls Try.prog 32 #[.pointer (some ⟨r, 0, none⟩), .int .i64 8] w fun e w' => e = .returned (.int .u64 (((rnumX xs 8 s).1 : Nat) : Int)) ∧ Hid (RX w' r A n c xs (rnumX xs 8 s).2 ∧ Only w w' r) := numX_any r A n c xs s 8 w h (by omega) (by omega)
theorem textX_any (r : Nat) (A : Option Addr) (n c : Nat) (xs : List UInt8) (s : Nat × Int) (most : Nat) (w : World) (h : RX w r A n c xs s) (hm : most ≤ 65535) :
    Calls Try.prog 33 #[.pointer (some ⟨r, 0, none⟩), .int .i64 (most : Int)] w fun e w' => ∃ A' n' c', e = .returned (.slice A' n' c') ∧ Hid (Rd w' A' n' (rtextX xs most s).1 ∧ New A' n' w.heap.size ∧ n' ≤ c' ∧ n' ≤ 65535) ∧ Hid (RX w' r A n c xs (rtextX xs most s).2 ∧ Only w w' r) := by
  obtain ⟨pos, err⟩ := s
  have hl := h.1.2.1
  obtain ⟨hr, hp, hc, hb⟩ := h
  simp only at hr hp
  by_cases h0 : err = 0
  · subst h0
    by_cases hk : pos + 2 ≤ n
    · by_cases hv : num (part xs pos 2) 0 ≤ most
      · by_cases hk2 : pos + 2 + num (part xs pos 2) 0 ≤ n
        · refine (text_new r A n c xs pos most w hr hb hc _ hk2 rfl (by omega)).mono ?_
          rintro e w' ⟨A', c', rfl, ⟨hR1, hR2, hR3⟩, hR, hO⟩
          simp only [rtextX, hl, hk, hv, hk2, if_true, ne_eq, not_true_eq_false, if_false]
          exact ⟨A', _, c', rfl, ⟨hR1, hR2, hR3, by omega⟩, ⟨hR, hk2, hc, hb⟩, hO⟩
        · refine (text_short r A n c xs pos most w hr hb hk _ rfl (by omega) (by omega)).mono ?_
          rintro e w' ⟨rfl, hR, hO⟩
          simp only [rtextX, hl, hk, hv, hk2, if_true, ne_eq, not_true_eq_false, if_false]
          exact ⟨none, 0, 0, rfl, ⟨Rd.nil_ _ _, New.nil_ _ _, Nat.le_refl _, Nat.zero_le _⟩, ⟨hR, hp, hc, hb⟩, hO⟩
      · refine (text_long r A n c xs pos most w hr hb hk _ rfl (by omega)).mono ?_
        rintro e w' ⟨rfl, hR, hO⟩
        simp only [rtextX, hl, hk, hv, if_true, ne_eq, not_true_eq_false, if_false]
        exact ⟨none, 0, 0, rfl, ⟨Rd.nil_ _ _, New.nil_ _ _, Nat.le_refl _, Nat.zero_le _⟩, ⟨hR, hp, hc, hb⟩, hO⟩
    · refine (text_bare r A n c xs pos most w hr hb hp (by omega)).mono ?_
      rintro e w' ⟨rfl, hR, hO⟩
      simp only [rtextX, hl, hk, ne_eq, not_true_eq_false, if_false]
      exact ⟨none, 0, 0, rfl, ⟨Rd.nil_ _ _, New.nil_ _ _, Nat.le_refl _, Nat.zero_le _⟩, ⟨hR, hp, hc, hb⟩, hO⟩
  · refine (text_stopped r A n c xs pos err most w hr h0).mono ?_
    rintro e w' ⟨rfl, rfl⟩
    simp only [rtextX, ne_eq, h0, not_false_eq_true, if_true]
    exact ⟨none, 0, 0, rfl, ⟨Rd.nil_ _ _, New.nil_ _ _, Nat.le_refl _, Nat.zero_le _⟩, ⟨hr, hp, hc, hb⟩, Only.refl _ _⟩
theorem textX64 (r : Nat) (A : Option Addr) (n c : Nat) (xs : List UInt8) (s : Nat × Int) (w : World) (h : RX w r A n c xs s) :
    Calls Try.prog 33 #[.pointer (some ⟨r, 0, none⟩), .int .i64 64] w fun e w' => ∃ A' n' c', e = .returned (.slice A' n' c') ∧ Hid (Rd w' A' n' (rtextX xs 64 s).1 ∧ New A' n' w.heap.size ∧ n' ≤ c' ∧ n' ≤ 65535) ∧ Hid (RX w' r A n c xs (rtextX xs 64 s).2 ∧ Only w w' r) := textX_any r A n c xs s 64 w h (by omega)
theorem textX1024 (r : Nat) (A : Option Addr) (n c : Nat) (xs : List UInt8) (s : Nat × Int) (w : World) (h : RX w r A n c xs s) :
    Calls Try.prog 33 #[.pointer (some ⟨r, 0, none⟩), .int .i64 1024] w fun e w' => ∃ A' n' c', e = .returned (.slice A' n' c') ∧ Hid (Rd w' A' n' (rtextX xs 1024 s).1 ∧ New A' n' w.heap.size ∧ n' ≤ c' ∧ n' ≤ 65535) ∧ Hid (RX w' r A n c xs (rtextX xs 1024 s).2 ∧ Only w w' r) := textX_any r A n c xs s 1024 w h (by omega)
theorem readNumber_any (r : Nat) (A : Option Addr) (n c : Nat) (xs : List UInt8) (s : Nat × Int) (w : World) (h : RX w r A n c xs s) :
    Calls Try.prog 45 #[.pointer (some ⟨r, 0, none⟩)] w fun e w' => e = .returned (.int .i64 (wrap64 (((rnumX xs 8 s).1 : Nat) : Int))) ∧ Hid (RX w' r A n c xs (rnumX xs 8 s).2 ∧ Only w w' r) := by
  have HN := numX8 r A n c xs s w h
  obtain ⟨v, hv⟩ : ∃ v, (rnumX xs 8 s).1 = v := ⟨_, rfl⟩
  obtain ⟨s', hs⟩ : ∃ s', (rnumX xs 8 s).2 = s' := ⟨_, rfl⟩
  rw [hv, hs] at HN
  rw [hv, hs]
  have HN := kept HN
  clear h hv hs
  go_enter Try.func45, Try.ntmps45
  go_wp2_with (first | (go_at_call 32; (with_reducible refine (HN.out).mono ?_); rintro e w2 ⟨rfl, h2⟩))
  go_ret
  exact ⟨rfl, h2⟩
end Go.Proofs.Ytcmjgkgdeaiifaa
