/-
  The law OctetsRanges walked: for all keys and ends it returns true and writes nothing that was there.
-/
import Derived.Test.YtgjibjpnbdffjaaEnd
namespace Go.Proofs.Ytgjibjpnbdffjaa.octetsRanges
open Go.ChangeShapes Go.WideShapes Go.ChangeAt Go.RowKit
set_option linter.unusedVariables false

/-- What End and the document's End answer of one prefix: the same bytes, at least one. -/
theorem end_alike (n : Nat) (ys : List UInt8) (hy : ys.length = n) (hl : n ≤ 140737488355328) :
    ∃ (k : Nat) (es : List UInt8), 0 < k ∧ k ≤ n + 1 ∧ es.length = k ∧
      (∀ (A : Option Addr) (c : Nat) (w : World), n ≤ c → Rd w A n ys → Calls Try.prog 22 #[.slice A n c] w fun e w' => ∃ A' c', e = .returned (.slice A' k c') ∧ w'.ownsRow w.heap.size 5 1 (.slice A' k c') k (cellsOf es) ∧ Below w.heap.size w w') ∧
      (∀ (A : Option Addr) (c : Nat) (w : World), Rd w A n ys → Calls Try.prog 23 #[.slice A n c] w fun e w' => ∃ A' c', e = .returned (.slice A' k c') ∧ Rd w' A' k es ∧ Below w.heap.size w w') := by
  rcases tail_cases ys with h | ⟨p, x, t, rfl, hx⟩
  · exact ⟨1, [0], by omega, by omega, rfl, fun A c w _ hr => end_full A n c ys w hr hl h, fun A c w hr => refEnd_full A n c ys w hr hl h⟩
  · exact ⟨p.length + 1, p ++ [x + 1], by omega, by simp at hy; omega, by simp, fun A c w hc hr => end_found A n c p x t w hr hl hc hx, fun A c w hr => refEnd_found A n c p x t w hr hl hx⟩

theorem own_cap {w : World} {base : Nat} {e : TypeId} {A : Option Addr} {n c : Nat} {xs : List Value} (h : w.ownsRow base e 1 (.slice A n c) n xs) : n ≤ c := by
  rcases h.2 with ⟨_, h0⟩ | ⟨g, cap, cur, hv, _, _, h1, _⟩
  · omega
  · injection hv with _ _ hc
    omega

theorem walk (w : World) (A : Option Addr) (n c : Nat) (xs : List UInt8) (h1 : Rd w A n xs) (hnc : n ≤ c) (hn : n ≤ 140737488351232)
    (B : Option Addr) (m d : Nat) (ys : List UInt8) (h2 : Rd w B m ys) (hmd : m ≤ d) (hm : m ≤ 140737488351232)
    (C : Option Addr) (l f : Nat) (zs : List UInt8) (h3 : Rd w C l zs) (hlf : l ≤ f) (hl : l ≤ 140737488351232) :
    Calls Try.prog 7 #[.slice A n c, .slice B m d, .slice C l f] w fun e w' => e = .returned (.bool true) ∧ Below w.heap.size w w' := by
  obtain ⟨k, es, hk0, hk1, hes, he, hre⟩ := end_alike m ys h2.1 (by omega)
  have HE := kept he
  have HRE := kept hre
  have HX := kept h1
  have HY := kept h2
  have HZ := kept h3
  have HT := kept (twin_any B m d ys w h2 (by omega))
  obtain ⟨x0, es', rfl⟩ : ∃ x0 es', es = x0 :: es' := by
    cases es with
    | nil => simp at hes; omega
    | cons a b => exact ⟨a, b, rfl⟩
  clear h1 h2 h3 he hre hes
  go_enter Try.func7, Try.ntmps7
  go_wp2_with fail
  with_reducible refine HT.out.mono ?_
  rintro e w1 ⟨A1, c1, rfl, hown1, hb1⟩
  have HO1 := kept hown1
  have HB1 := kept hb1
  have HY1 := kept (Rd.of_own hown1)
  have HYO1 := kept (HY.out.below hb1)
  have HCC := kept (own_cap hown1)
  clear hown1 hb1
  go_wp2_with fail
  with_reducible refine (HE.out _ _ _ HCC.out HY1.out).mono ?_
  rintro e w2 ⟨A2, c2, rfl, hown2, hb2⟩
  obtain ⟨g, cap, hv, hbg, hglt⟩ := hown2.form hk0
  obtain ⟨rfl, rfl⟩ : A2 = some ⟨g, 0, none⟩ ∧ c2 = cap := by simpa using hv
  have HO2 := kept hown2
  have HE2 := kept (Rd.of_own hown2)
  have HB2 := kept hb2
  have HW2 := kept (HB1.out.trans (hb2.mono HB1.out.size))
  have HY2 := kept (HY1.out.below hb2)
  have HYO2 := kept (HYO1.out.below hb2)
  clear hown2 hb2 hv
  go_wp2_with fail
  with_reducible refine (HRE.out _ _ _ HYO2.out).mono ?_
  rintro e w3 ⟨A3, c3, rfl, hr3, hb3⟩
  have HO3 := kept (HO2.out.kept (w' := w3) (row := none) ⟨hb3.os, hb3.tape, hb3.output, hb3.size, fun i hi _ => hb3.block i hi⟩ (.inr (by simp [Value.ownBlock])))
  have HE3 := kept (HE2.out.below hb3)
  have HR3 := kept hr3
  have HW3 := kept (HW2.out.trans (hb3.mono HW2.out.size))
  have HY3 := kept (HY2.out.below hb3)
  have HYO3 := kept (HYO2.out.below hb3)
  have HX1 := kept (HX.out.below HB1.out)
  have HZ1 := kept (HZ.out.below HB1.out)
  have HB13 := kept (HB2.out.trans (hb3.mono HB2.out.size))
  have hc0 : w3.cell? ⟨g, 0, none⟩ = some (.int .u8 (x0.toNat : Int)) := by
    rw [HO3.out.cellAt 0 (by omega)]
    rfl
  have hf0 : w3.frozen? ⟨g, 0, none⟩ = false := HO3.out.frozenAt 0
  have HB4 := fun v => kept (HB13.out.setCell (p := ⟨g, 0, none⟩) hbg v)
  have HW4 := fun v => kept (HW3.out.setCell (p := ⟨g, 0, none⟩) (Nat.le_trans HB1.out.size hbg) v)
  have hxb := x0.toNat_lt
  clear hr3 hb3
  go_wp2_with (first | (go_at_call 14; (with_reducible refine (same_any _ _ _ _ _ _ _ _ _ HE3.out HR3.out true (by simp)).mono ?_); rintro e w' ⟨rfl, rfl⟩) | (go_at_call 14; (with_reducible refine (same_any _ _ _ _ _ _ _ _ _ HY3.out HYO3.out true (by simp)).mono ?_); rintro e w' ⟨rfl, rfl⟩) | (go_at_call 14; (with_reducible refine (same_any _ _ _ _ _ _ _ _ _ (HY1.out.below (HB4 _).out) (HYO1.out.below (HB4 _).out) true (by simp)).mono ?_); rintro e w' ⟨rfl, rfl⟩) | (go_at_call 24; (with_reducible refine (in_any _ _ _ _ _ _ _ _ _ _ _ _ _ (HX1.out.below (HB4 _).out) (HYO1.out.below (HB4 _).out) (HZ1.out.below (HB4 _).out) (by omega) (by omega) (by omega)).mono ?_); rintro e w' ⟨rfl, rfl⟩) | (go_at_call 25; (with_reducible refine (refIn_any _ _ _ _ _ _ _ _ _ _ _ _ _ (HX1.out.below (HB4 _).out) (HYO1.out.below (HB4 _).out) (HZ1.out.below (HB4 _).out) (by omega) (by omega) (by omega)).mono ?_); rintro e w5 ⟨rfl, hb5⟩; have HB5 := kept hb5; clear hb5))
  go_ret
  exact ⟨by simp, (HW4 _).out.trans (HB5.out.mono (HW4 _).out.size)⟩
end Go.Proofs.Ytgjibjpnbdffjaa.octetsRanges
