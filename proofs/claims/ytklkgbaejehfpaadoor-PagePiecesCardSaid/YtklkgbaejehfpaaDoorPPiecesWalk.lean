/-
  The law PagePieces walked.
-/
import Derived.Test.YtklkgbaejehfpaaDoorBk
import Derived.Test.YtklkgbaejehfpaaDoorLv
namespace Go.Proofs.YtklkgbaejehfpaaDoor.pagePieces
open Go.ChangeShapes Go.WideShapes Go.ChangeAt Go.RowKit
set_option linter.unusedVariables false
set_option linter.unusedSimpArgs false

theorem place (a : Int) : ∃ t : Nat, t < 1024 ∧ wrap64 ((IntKind.u64.wrap a).tmod 1024) = (t : Int) := by
  rw [IntKind.wrap_u64]
  have h1 : 0 ≤ a % 18446744073709551616 := by omega
  have e : (a % 18446744073709551616).tmod 1024 = a % 18446744073709551616 % 1024 := Int.tmod_eq_emod_of_nonneg h1
  rw [e]
  generalize hr : a % 18446744073709551616 % 1024 = r
  refine ⟨r.toNat, by omega, ?_⟩
  rw [IntWalk.wrap64_in r ⟨by omega, by omega⟩]
  omega
def pc (txn : Int) (t : Nat) (xs : List UInt8) : Pg := ⟨3, txn, (t : Int), [], [], xs, []⟩
theorem pc_right (txn : Int) (t : Nat) (xs : List UInt8) (ht : t < 1024) : rightB (pc txn t xs) = (decide (1 ≤ xs.length) && decide (xs.length ≤ 237)) := by
  have hn : nextB (pc txn t xs) = true := by
    unfold nextB isPg pc
    simp
    omega
  have hh : thingsB (pc txn t xs) = true := rfl
  unfold rightB
  rw [hn, hh]
  unfold ownB usedN pc
  simp only [List.length_nil, List.map_nil, List.sum_nil, Nat.zero_mul, Nat.add_zero, Nat.zero_add]
  rw [Bool.eq_iff_iff]
  simp only [Bool.and_eq_true, Bool.or_eq_true, decide_eq_true_eq]
  constructor
  · intro h
    omega
  · intro h
    obtain ⟨h1, h2⟩ := h
    have h0 : 0 < xs.length := by omega
    refine ⟨⟨⟨⟨⟨⟨⟨⟨⟨by omega, by omega⟩, ?_⟩, ?_⟩, ?_⟩, ?_⟩, ?_⟩, trivial⟩, trivial⟩, ?_⟩
    all_goals first | exact .inl rfl | exact .inr rfl | exact .inr h0 | omega | (simp <;> omega)
theorem walk (w : World) (hf : Fours w) (A : Option Addr) (n c : Nat) (xs : List UInt8) (hr : Rd w A n xs) (hc : n ≤ c) (hl : n ≤ 140737488351232) (a1 : Int) (w1 : (Lit.int .u64 a1).wf = true) (a2 : Int) (w2 : (Lit.int .i64 a2).wf = true) :
    Calls Tryd.prog 8 #[.slice A n c, .int .u64 a1, .int .i64 a2] w fun e w' => e = .returned (.bool true) ∧ Below w.heap.size w w' := by
  obtain ⟨b1, b2⟩ := bounds_u64 w1
  clear w1 w2
  have HL := fun {X : World} (hX : Below w.heap.size w X) => kept (lives_any X (hf.below hX))
  by_cases h1000 : 1000 < n
  · have hd : decide (1000 < (n : Int)) = true := by simp; omega
    clear hf hr
    go_enter Tryd.func8, Tryd.ntmps8
    go_wp2_with fail
    with_reducible refine (HL (Below.refl _ _)).out.mono ?_
    rintro e w1 ⟨rfl, hb1⟩
    go_wp2_with fail
    with_reducible refine (HL hb1).out.mono ?_
    rintro e w2 ⟨rfl, hb2⟩
    have HB := kept (below_to hb2 hb1)
    clear hb1 hb2
    go_wp2
    go_ret
    exact ⟨rfl, HB.out⟩
  · obtain ⟨t, ht, hat⟩ := place a2
    have hRD : ∀ {X : World}, Below w.heap.size w X → RdPg X ⟨3, a1, (t : Int), none, 0, 0, none, 0, 0, A, n, c, none, 0, 0⟩ (pc a1 t xs) := fun {X} hX => ⟨rfl, rfl, rfl, RdItems.nil_ _ _, RdKids.nil_ _ _, hr.below hX, RdNums.nil_ _ _, by show 0 ≤ a1; omega, by show a1 < _; omega, Nat.zero_le _, Nat.zero_le _, by show n ≤ _; omega, Nat.zero_le _⟩
    have hRT := pc_right a1 t xs ht
    rw [hr.1] at hRT
    have hd : decide (1000 < (n : Int)) = false := by simp; omega
    by_cases hok : 1 ≤ n ∧ n ≤ 237
    · have hR : rightB (pc a1 t xs) = true := by rw [hRT]; simp; omega
      have HE := fun {X : World} (hX : Below w.heap.size w X) => kept (encode_right _ _ X (hRD hX) hR (hf.below hX))
      have HXL : Hid ((bodyOf (pc a1 t xs)).length = 252) := kept (bodyOf_length (right_parts hR).2.2.2)
      have HBR : Hid (DecP (bodyOf (pc a1 t xs)) (pc a1 t xs)) := kept (body_reads hR (by show 0 ≤ a1; omega) (by show a1 < _; omega))
      have HRD := kept hr
      have HFF := kept hf
      have g1 : decide ((n : Int) < 1) = false := by simp; omega
      have g2 : decide (237 < (n : Int)) = false := by simp; omega
      generalize hys : bodyOf (pc a1 t xs) = ys at HE HXL HBR
      clear hys hRD hRT hR hr hf hok
      go_enter Tryd.func8, Tryd.ntmps8
      go_wp2_with fail
      with_reducible refine (HL (Below.refl _ _)).out.mono ?_
      rintro e w1 ⟨rfl, hb1⟩
      go_wp2_with fail
      with_reducible refine (HE hb1).out.mono ?_
      rintro e w2 ⟨A2, c2, rfl, hown2, hb2⟩
      have hb2 := below_to hb2 hb1
      have HDC := kept (decode_right A2 c2 (sealed ys) (pc a1 t xs) w2 (Rd.of_own hown2) (own_cap hown2) (HFF.out.below hb2) (by rw [sealed_num, sealed_drop]) (by rw [sealed_drop]; exact HBR.out))
      clear hown2
      go_wp2_with fail
      with_reducible refine HDC.out.mono ?_
      rintro e w3 ⟨⟨kind, txn, next, x1, n1, k1, x2, n2, k2, x3, n3, k3, x4, n4, k4⟩, rfl, hrp, hb3⟩
      have hb3 := below_to hb3 hb2
      obtain rfl : (3 : Int) = kind := hrp.kind
      obtain rfl : a1 = txn := hrp.txn
      obtain rfl : (t : Int) = next := hrp.next
      have HSM := fun o => kept (same_any x3 A n3 n k3 c xs xs (w3.alloc o) (hrp.data.alloc o) ((HRD.out.below hb3).alloc o) true (by simp))
      have HB3 := fun o => kept (hb3.alloc hb3.size o)
      clear hb1 hb2 hb3 hrp
      go_wp2_with fail
      with_reducible refine (HSM _).out.mono ?_
      rintro e w4 ⟨rfl, rfl⟩
      go_wp2
      go_ret
      exact ⟨rfl, (HB3 _).out⟩
    · have hR : rightB (pc a1 t xs) = false := by
        rw [hRT]
        simp
        omega
      have HE := fun {X : World} (hX : Below w.heap.size w X) => kept (encode_wrong _ _ X (hRD hX) hR)
      have hg : (decide ((n : Int) < 1) = true) ∨ (decide ((n : Int) < 1) = false ∧ decide (237 < (n : Int)) = true) := by
        simp only [decide_eq_true_eq, decide_eq_false_iff_not]
        omega
      clear hRD hRT hR hr hf hok
      rcases hg with g1 | ⟨g1, g2⟩
      all_goals
        go_enter Tryd.func8, Tryd.ntmps8
        go_wp2_with fail
        with_reducible refine (HL (Below.refl _ _)).out.mono ?_
        rintro e w1 ⟨rfl, hb1⟩
        go_wp2_with fail
        with_reducible refine (HE hb1).out.mono ?_
        rintro e w2 ⟨rfl, hb2⟩
        have HB := kept (below_to hb2 hb1)
        clear hb1 hb2
        go_wp2
        go_ret
        exact ⟨rfl, HB.out⟩
end Go.Proofs.YtklkgbaejehfpaaDoor.pagePieces
