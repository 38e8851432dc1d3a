/-
  The law OctetsKeys walked: for all two keys it returns true and writes nothing that was there.
-/
import Derived.Test.YtgjibjpnbdffjaaPut
import Derived.Test.YtgjibjpnbdffjaaCmp
import Derived.Lib.SlBytesConst
namespace Go.Proofs.Ytgjibjpnbdffjaa.octetsKeys
open Go.ChangeShapes Go.WideShapes Go.ChangeAt Go.RowKit
set_option linter.unusedVariables false

theorem same_left {A B : Option Addr} {n m c d : Nat} {xs ys : List UInt8} {w : World} (h1 : Rd w A n xs) (h2 : Rd w B m ys) (b : Bool) (hb : decide (xs = ys) = b) (q : Nat) :
    Calls Try.prog 14 #[.slice A n c, .slice B m d] (w.drewN q) fun e w' => e = .returned (.bool b) ∧ w' = w.drewN q :=
  (same_any A B n m c d xs ys (w.drewN q) h1 h2 b hb).mono fun _ _ ⟨he, hw⟩ => ⟨he, hw.symm⟩

/-- What is alike is alike as texts; the next ones part. -/
theorem common_facts {w : World} {A B : Option Addr} {n m : Nat} {xs ys : List UInt8} (h1 : Rd w A n xs) (h2 : Rd w B m ys) :
    ∃ k : Nat, common xs ys = k ∧ k ≤ n ∧ k ≤ m ∧ Hid (xs.take k = ys.take k) ∧
      ((k < n ∧ k < m ∧ ∃ (a b : Addr) (x y : Nat), A = some a ∧ B = some b ∧ w.cell? (a.add k) = some (.int .u8 (x : Int)) ∧ w.cell? (b.add k) = some (.int .u8 (y : Int)) ∧ x ≠ y) ∨ (k < n ∧ ¬ k < m) ∨ ¬ k < n) := by
  have hx := h1.1
  have hy := h2.1
  have hle := common_le xs ys
  have hal : Alike xs ys (common xs ys) := common_alike xs ys
  refine ⟨common xs ys, rfl, by omega, by omega, ?_, ?_⟩
  · apply List.ext_getElem (by simp; omega)
    intro i hi1 hi2
    simp only [List.length_take] at hi1
    obtain ⟨_, _, e⟩ := hal i (by omega)
    simpa using e
  · by_cases hn : common xs ys < n
    · by_cases hm : common xs ys < m
      · refine .inl ⟨hn, hm, ?_⟩
        obtain ⟨a, b, x, y, ea, eb, hca, hcb, _, _, hc⟩ := alike_next h1 h2 hal hn hm
        refine ⟨a, b, x, y, ea, eb, hca, hcb, ?_⟩
        rcases hc with ⟨_, h⟩ | ⟨h, _⟩
        · exfalso
          have hk : ∀ (l : Nat), common xs ys = l → Alike xs ys (l + 1) → False := fun l hl h => by
            obtain ⟨g1, g2, e⟩ := h l (by omega)
            have := ahead_common xs ys
            have hno := common_next xs ys
            subst hl
            exact hno g1 g2 e
          exact hk _ rfl h
        · exact h
      · exact .inr (.inl ⟨hn, hm⟩)
    · exact .inr (.inr hn)

theorem Rd.marked (W : World) (t : TypeId) (xs : List UInt8) (f : Nat × Nat) : Rd (W.alloc (.cells (cellsOf xs).toArray t f)) (some ⟨W.heap.size, 0, none⟩) xs.length xs := by
  refine ⟨rfl, fun _ => ⟨_, rfl, fun j hj => ?_⟩⟩
  have hadd : (⟨W.heap.size, 0, none⟩ : Addr).add j = ⟨W.heap.size, j, none⟩ := by unfold Addr.add; split <;> simp_all
  rw [hadd, cell_of_row _ W.heap.size j (cellsOf xs).toArray t f (heap_alloc_new W _)]
  simpa using cellsOf_get xs j hj
theorem compare_lits (W : World) : Calls Try.prog 19 #[.slice (some ⟨W.heap.size, 0, none⟩) 1 1, .slice (some ⟨W.heap.size + 1, 0, none⟩) 2 2]
    ((W.alloc (.cells #[.int .u8 97] 5 (1, 2))).alloc (.cells #[.int .u8 97, .int .u8 98] 5 (2, 3))) fun e w' => e = .returned (.int .i64 (-1)) ∧ (W.alloc (.cells #[.int .u8 97] 5 (1, 2))).alloc (.cells #[.int .u8 97, .int .u8 98] 5 (2, 3)) = w' := by
  have h1 := Rd.marked W 5 [97] (1, 2)
  have h2 := Rd.marked (W.alloc (.cells (cellsOf [97]).toArray 5 (1, 2))) 5 [97, 98] (2, 3)
  rw [World.size_alloc] at h2
  exact compare_any _ _ 1 2 1 2 [97] [97, 98] _ (h1.alloc _) h2

theorem conv_lit (w : World) (C : Array Value) (n c : Nat) : (convert 23 23 (.slice (some ⟨w.heap.size, 0, none⟩) n c)).run Try.prog (w.alloc (.cells C 5)) = .ok (.slice (some ⟨w.heap.size, 0, none⟩) n c) (w.alloc (.cells C 5 (C.size, C.size + 1))) :=
  Lib.run_convert_bytes_const (P := Try.prog) w 23 5 C n c Try.underlying23 Try.underlying5
theorem conv_lit2 (w : World) (o : Obj) (C : Array Value) (n c : Nat) : (convert 23 23 (.slice (some ⟨w.heap.size + 1, 0, none⟩) n c)).run Try.prog ((w.alloc o).alloc (.cells C 5)) = .ok (.slice (some ⟨w.heap.size + 1, 0, none⟩) n c) ((w.alloc o).alloc (.cells C 5 (C.size, C.size + 1))) := by
  have := conv_lit (w.alloc o) C n c
  rw [World.size_alloc] at this
  exact this

set_option maxHeartbeats 400000 in
theorem walk1 (w : World) (A : Option Addr) (n c : Nat) (xs : List UInt8) (hnc : n ≤ c) (hl : n ≤ 140737488351232)
    (B : Option Addr) (m d : Nat) (ys : List UInt8) (hmd : m ≤ d) (hk : m ≤ 140737488351232) (k : Nat) (HA : Hid (Rd w A n xs)) (HB : Hid (Rd w B m ys))
    (HC : Hid (Calls Try.prog 20 #[.slice A n c, .slice B m d] w fun e w' => e = .returned (.int .i64 (k : Int)) ∧ Hid (∃ q, w' = w.drewN q)))
    (hi0 : (0 : Int) ≤ (k : Int)) (hi1 : (k : Int) ≤ (c : Int)) (hi2 : (k : Int) ≤ (d : Int)) (hd1 : decide (n < k) = false) (hd2 : decide (m < k) = false) (hd0 : decide ((k : Int) < 0) = false)
    (HT : Hid (xs.take k = ys.take k)) (hkn : k ≤ n) (hkm : k ≤ m) (hln : k < n) (hlm : k < m) (a b : Addr) (x y : Nat) (ea : A = some a) (eb : B = some b) (hca : w.cell? (a.add k) = some (.int .u8 (x : Int))) (hcb : w.cell? (b.add k) = some (.int .u8 (y : Int))) (hne : x ≠ y) :
    Calls Try.prog 6 #[.slice A n c, .slice B m d] w fun e w' => e = .returned (.bool true) ∧ Below w.heap.size w w' := by
  subst ea
  subst eb
  have hj1 : (k : Int) < (n : Int) := by omega
  have hj2 : (k : Int) < (m : Int) := by omega
  have hxy : ((x : Int) == (y : Int)) = false := by simp; omega
  have hj3 : decide (k < n) = true := by simp; omega
  have hj4 : decide (k < m) = true := by simp; omega
  have kc := conv_lit
  have kc2 := conv_lit2
  go_enter Try.func6, Try.ntmps6
  go_wp2_with fail
  with_reducible refine HC.out.mono ?_
  rintro e w1 ⟨rfl, HW⟩
  obtain ⟨q, hq⟩ := HW.out
  have HA1 : Hid (Rd w1 (some a) n xs) := by rw [hq]; exact HA.out
  have HB1 : Hid (Rd w1 (some b) m ys) := by rw [hq]; exact HB.out
  have HW1 : Hid (Below w.heap.size w w1) := by rw [hq]; exact drewN_below (Below.refl _ _) q
  have hca1 : w1.cell? (a.add k) = some (.int .u8 (x : Int)) := by rw [hq]; exact hca
  have hcb1 : w1.cell? (b.add k) = some (.int .u8 (y : Int)) := by rw [hq]; exact hcb
  clear hq HW hca hcb hne
  go_wp2
  go_quiet ((go_at_call 14; exact Calls.quiet_of_same (same_left (HA1.out.take (by omega)) (HB1.out.take (by omega)) true (by simp [HT.out]) _)))
  go_wp2_with (first | (go_at_call 19; (with_reducible refine (compare_any _ _ _ _ _ _ _ _ _ (HA1.out.drewN _) (HB1.out.drewN _)).mono ?_); rintro e w' ⟨rfl, rfl⟩) | (go_at_call 21; (with_reducible refine (refCompare_any _ _ _ _ _ _ _ _ _ (HA1.out.drewN _) (HB1.out.drewN _) (by omega) (by omega)).mono ?_); rintro e w2 ⟨rfl, HW2⟩) | (go_at_call 19; (with_reducible refine (compare_lits _).mono ?_); rintro e w' ⟨rfl, rfl⟩))
  go_ret
  obtain ⟨q2, rfl⟩ := HW2.out
  exact ⟨rfl, ((drewN_below (drewN_below HW1.out _) _).alloc HW1.out.size _).alloc (by have := HW1.out.size; simp; omega) _⟩
set_option maxHeartbeats 400000 in
theorem walk2 (w : World) (A : Option Addr) (n c : Nat) (xs : List UInt8) (hnc : n ≤ c) (hl : n ≤ 140737488351232)
    (B : Option Addr) (m d : Nat) (ys : List UInt8) (hmd : m ≤ d) (hk : m ≤ 140737488351232) (k : Nat) (HA : Hid (Rd w A n xs)) (HB : Hid (Rd w B m ys))
    (HC : Hid (Calls Try.prog 20 #[.slice A n c, .slice B m d] w fun e w' => e = .returned (.int .i64 (k : Int)) ∧ Hid (∃ q, w' = w.drewN q)))
    (hi0 : (0 : Int) ≤ (k : Int)) (hi1 : (k : Int) ≤ (c : Int)) (hi2 : (k : Int) ≤ (d : Int)) (hd1 : decide (n < k) = false) (hd2 : decide (m < k) = false) (hd0 : decide ((k : Int) < 0) = false)
    (HT : Hid (xs.take k = ys.take k)) (hkn : k ≤ n) (hkm : k ≤ m) (hln : k < n) (hlm : ¬ k < m) :
    Calls Try.prog 6 #[.slice A n c, .slice B m d] w fun e w' => e = .returned (.bool true) ∧ Below w.heap.size w w' := by
  have hj1 : decide (k < n) = true := by simp; omega
  have hj2 : decide (k < m) = false := by simp; omega
  have hj3 : (k : Int) < (n : Int) := by omega
  have hj4 : ¬ (k : Int) < (m : Int) := by omega
  have kc := conv_lit
  have kc2 := conv_lit2
  have hzA := map_add_zero A
  have hzB := map_add_zero B
  go_enter Try.func6, Try.ntmps6
  go_wp2_with fail
  with_reducible refine HC.out.mono ?_
  rintro e w1 ⟨rfl, HW⟩
  obtain ⟨q, hq⟩ := HW.out
  have HA1 : Hid (Rd w1 A n xs) := by rw [hq]; exact HA.out
  have HB1 : Hid (Rd w1 B m ys) := by rw [hq]; exact HB.out
  have HW1 : Hid (Below w.heap.size w w1) := by rw [hq]; exact drewN_below (Below.refl _ _) q
  clear hq HW
  go_wp2
  go_quiet ((go_at_call 14; exact Calls.quiet_of_same (same_left (HA1.out.take (by omega)) (HB1.out.take (by omega)) true (by simp [HT.out]) _)))
  go_wp2_with (first | (go_at_call 19; (with_reducible refine (compare_any _ _ _ _ _ _ _ _ _ (HA1.out.drewN _) (HB1.out.drewN _)).mono ?_); rintro e w' ⟨rfl, rfl⟩) | (go_at_call 21; (with_reducible refine (refCompare_any _ _ _ _ _ _ _ _ _ (HA1.out.drewN _) (HB1.out.drewN _) (by omega) (by omega)).mono ?_); rintro e w2 ⟨rfl, HW2⟩) | (go_at_call 19; (with_reducible refine (compare_lits _).mono ?_); rintro e w' ⟨rfl, rfl⟩))
  go_ret
  obtain ⟨q2, rfl⟩ := HW2.out
  exact ⟨rfl, ((drewN_below (drewN_below HW1.out _) _).alloc HW1.out.size _).alloc (by have := HW1.out.size; simp; omega) _⟩
set_option maxHeartbeats 400000 in
theorem walk3 (w : World) (A : Option Addr) (n c : Nat) (xs : List UInt8) (hnc : n ≤ c) (hl : n ≤ 140737488351232)
    (B : Option Addr) (m d : Nat) (ys : List UInt8) (hmd : m ≤ d) (hk : m ≤ 140737488351232) (k : Nat) (HA : Hid (Rd w A n xs)) (HB : Hid (Rd w B m ys))
    (HC : Hid (Calls Try.prog 20 #[.slice A n c, .slice B m d] w fun e w' => e = .returned (.int .i64 (k : Int)) ∧ Hid (∃ q, w' = w.drewN q)))
    (hi0 : (0 : Int) ≤ (k : Int)) (hi1 : (k : Int) ≤ (c : Int)) (hi2 : (k : Int) ≤ (d : Int)) (hd1 : decide (n < k) = false) (hd2 : decide (m < k) = false) (hd0 : decide ((k : Int) < 0) = false)
    (HT : Hid (xs.take k = ys.take k)) (hkn : k ≤ n) (hkm : k ≤ m) (hln : ¬ k < n) :
    Calls Try.prog 6 #[.slice A n c, .slice B m d] w fun e w' => e = .returned (.bool true) ∧ Below w.heap.size w w' := by
  have hj1 : decide (k < n) = false := by simp; omega
  have hj3 : ¬ (k : Int) < (n : Int) := by omega
  have kc := conv_lit
  have kc2 := conv_lit2
  have hzA := map_add_zero A
  have hzB := map_add_zero B
  go_enter Try.func6, Try.ntmps6
  go_wp2_with fail
  with_reducible refine HC.out.mono ?_
  rintro e w1 ⟨rfl, HW⟩
  obtain ⟨q, hq⟩ := HW.out
  have HA1 : Hid (Rd w1 A n xs) := by rw [hq]; exact HA.out
  have HB1 : Hid (Rd w1 B m ys) := by rw [hq]; exact HB.out
  have HW1 : Hid (Below w.heap.size w w1) := by rw [hq]; exact drewN_below (Below.refl _ _) q
  clear hq HW
  go_wp2
  go_quiet ((go_at_call 14; exact Calls.quiet_of_same (same_left (HA1.out.take (by omega)) (HB1.out.take (by omega)) true (by simp [HT.out]) _)))
  go_wp2_with (first | (go_at_call 19; (with_reducible refine (compare_any _ _ _ _ _ _ _ _ _ (HA1.out.drewN _) (HB1.out.drewN _)).mono ?_); rintro e w' ⟨rfl, rfl⟩) | (go_at_call 21; (with_reducible refine (refCompare_any _ _ _ _ _ _ _ _ _ (HA1.out.drewN _) (HB1.out.drewN _) (by omega) (by omega)).mono ?_); rintro e w2 ⟨rfl, HW2⟩) | (go_at_call 19; (with_reducible refine (compare_lits _).mono ?_); rintro e w' ⟨rfl, rfl⟩))
  go_ret
  obtain ⟨q2, rfl⟩ := HW2.out
  exact ⟨rfl, ((drewN_below (drewN_below HW1.out _) _).alloc HW1.out.size _).alloc (by have := HW1.out.size; simp; omega) _⟩
theorem walk (w : World) (A : Option Addr) (n c : Nat) (xs : List UInt8) (hr : Rd w A n xs) (hnc : n ≤ c) (hl : n ≤ 140737488351232)
    (B : Option Addr) (m d : Nat) (ys : List UInt8) (hs : Rd w B m ys) (hmd : m ≤ d) (hk : m ≤ 140737488351232) :
    Calls Try.prog 6 #[.slice A n c, .slice B m d] w fun e w' => e = .returned (.bool true) ∧ Below w.heap.size w w' := by
  have HC := kept (common_any A B n m c d xs ys w hr hs (by omega) (by omega))
  obtain ⟨k, hkc, hkn, hkm, HT, hcase⟩ := common_facts hr hs
  rw [hkc] at HC
  rcases hcase with ⟨hln, hlm, a, b, x, y, ea, eb, hca, hcb, hne⟩ | ⟨hln, hlm⟩ | hln
  · exact walk1 w A n c xs hnc hl B m d ys hmd hk k hr hs HC (by omega) (by omega) (by omega) (by simp; omega) (by simp; omega) (by simp) HT hkn hkm hln hlm a b x y ea eb hca hcb hne
  · exact walk2 w A n c xs hnc hl B m d ys hmd hk k hr hs HC (by omega) (by omega) (by omega) (by simp; omega) (by simp; omega) (by simp) HT hkn hkm hln hlm
  · exact walk3 w A n c xs hnc hl B m d ys hmd hk k hr hs HC (by omega) (by omega) (by omega) (by simp; omega) (by simp; omega) (by simp) HT hkn hkm hln
end Go.Proofs.Ytgjibjpnbdffjaa.octetsKeys
