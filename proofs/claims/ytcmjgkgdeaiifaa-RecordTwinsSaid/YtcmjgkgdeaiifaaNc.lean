/-
  What record's text, head, Encode and Tomb answer.
-/
import Derived.Test.YtcmjgkgdeaiifaaNb
namespace Go.Proofs.Ytcmjgkgdeaiifaa
open Go.ChangeShapes Go.WideShapes Go.ChangeAt Go.RowKit
set_option linter.unusedVariables false
set_option linter.unusedSimpArgs false

/-- Rows that the call has laid, put together. -/
theorem concat_two {A1 A2 : Option Addr} {n1 n2 c1 c2 : Nat} {x1 x2 : List UInt8} {ty : TypeId} {w W : World} (hW : W = w.alloc (.cells #[.slice A1 n1 c1, .slice A2 n2 c2] ty))
    (h1 : Has w A1 n1 c1 x1) (h2 : Has w A2 n2 c2 x2) (tot : Nat) (ht : n1 + n2 = tot) (hn : tot ≤ 140737488355328) :
    Calls Try.prog 23 #[.slice (some ⟨w.heap.size, 0, none⟩) 2 2] W fun e w' => ∃ A' c', e = .returned (.slice A' tot c') ∧ w'.ownsRow (w.heap.size + 1) 5 1 (.slice A' tot c') tot (cellsOf (x1 ++ x2)) ∧ Below W.heap.size W w' := by
  subst hW
  have l1 := h1.1.1
  have l2 := h2.1.1
  have := concat_list [⟨A1, c1, x1⟩, ⟨A2, c2, x2⟩] ty (0, 0) 2 tot w (by
    intro p hp
    simp only [List.mem_cons, List.not_mem_nil, or_false] at hp
    rcases hp with rfl | rfl
    · exact ⟨by rw [l1]; exact h1.1, by rw [l1]; exact h1.2⟩
    · exact ⟨by rw [l2]; exact h2.1, by rw [l2]; exact h2.2⟩) (by simp) (x1 ++ x2) (by simp) (by simp; omega) hn
  simpa [Part.val, l1, l2] using this
theorem concat_three {A1 A2 A3 : Option Addr} {n1 n2 n3 c1 c2 c3 : Nat} {x1 x2 x3 : List UInt8} {ty : TypeId} {w W : World} (hW : W = w.alloc (.cells #[.slice A1 n1 c1, .slice A2 n2 c2, .slice A3 n3 c3] ty))
    (h1 : Has w A1 n1 c1 x1) (h2 : Has w A2 n2 c2 x2) (h3 : Has w A3 n3 c3 x3) (tot : Nat) (ht : n1 + (n2 + n3) = tot) (hn : tot ≤ 140737488355328) :
    Calls Try.prog 23 #[.slice (some ⟨w.heap.size, 0, none⟩) 3 3] W fun e w' => ∃ A' c', e = .returned (.slice A' tot c') ∧ w'.ownsRow (w.heap.size + 1) 5 1 (.slice A' tot c') tot (cellsOf (x1 ++ (x2 ++ x3))) ∧ Below W.heap.size W w' := by
  subst hW
  have l1 := h1.1.1
  have l2 := h2.1.1
  have l3 := h3.1.1
  have := concat_list [⟨A1, c1, x1⟩, ⟨A2, c2, x2⟩, ⟨A3, c3, x3⟩] ty (0, 0) 3 tot w (by
    intro p hp
    simp only [List.mem_cons, List.not_mem_nil, or_false] at hp
    rcases hp with rfl | rfl | rfl
    · exact ⟨by rw [l1]; exact h1.1, by rw [l1]; exact h1.2⟩
    · exact ⟨by rw [l2]; exact h2.1, by rw [l2]; exact h2.2⟩
    · exact ⟨by rw [l3]; exact h3.1, by rw [l3]; exact h3.2⟩) (by simp) (x1 ++ (x2 ++ x3)) (by simp) (by simp; omega) hn
  simpa [Part.val, l1, l2, l3] using this
theorem concat_four {A1 A2 A3 A4 : Option Addr} {n1 n2 n3 n4 c1 c2 c3 c4 : Nat} {x1 x2 x3 x4 : List UInt8} {ty : TypeId} {w W : World} (hW : W = w.alloc (.cells #[.slice A1 n1 c1, .slice A2 n2 c2, .slice A3 n3 c3, .slice A4 n4 c4] ty))
    (h1 : Has w A1 n1 c1 x1) (h2 : Has w A2 n2 c2 x2) (h3 : Has w A3 n3 c3 x3) (h4 : Has w A4 n4 c4 x4) (tot : Nat) (ht : n1 + (n2 + (n3 + n4)) = tot) (hn : tot ≤ 140737488355328) :
    Calls Try.prog 23 #[.slice (some ⟨w.heap.size, 0, none⟩) 4 4] W fun e w' => ∃ A' c', e = .returned (.slice A' tot c') ∧ w'.ownsRow (w.heap.size + 1) 5 1 (.slice A' tot c') tot (cellsOf (x1 ++ (x2 ++ (x3 ++ x4)))) ∧ Below W.heap.size W w' := by
  subst hW
  have l1 := h1.1.1
  have l2 := h2.1.1
  have l3 := h3.1.1
  have l4 := h4.1.1
  have := concat_list [⟨A1, c1, x1⟩, ⟨A2, c2, x2⟩, ⟨A3, c3, x3⟩, ⟨A4, c4, x4⟩] ty (0, 0) 4 tot w (by
    intro p hp
    simp only [List.mem_cons, List.not_mem_nil, or_false] at hp
    rcases hp with rfl | rfl | rfl | rfl
    · exact ⟨by rw [l1]; exact h1.1, by rw [l1]; exact h1.2⟩
    · exact ⟨by rw [l2]; exact h2.1, by rw [l2]; exact h2.2⟩
    · exact ⟨by rw [l3]; exact h3.1, by rw [l3]; exact h3.2⟩
    · exact ⟨by rw [l4]; exact h4.1, by rw [l4]; exact h4.2⟩) (by simp) (x1 ++ (x2 ++ (x3 ++ x4))) (by simp) (by simp; omega) hn
  simpa [Part.val, l1, l2, l3, l4] using this
theorem concat_two_at (A1 A2 : Option Addr) (n1 n2 c1 c2 : Nat) (x1 x2 : List UInt8) (ty : TypeId) (w : World) (h1 : Has w A1 n1 c1 x1) (h2 : Has w A2 n2 c2 x2) (tot : Nat) (ht : n1 + n2 = tot) (hn : tot ≤ 140737488355328) :
    Calls Try.prog 23 #[.slice (some ⟨w.heap.size, 0, none⟩) 2 2] (w.alloc (.cells #[.slice A1 n1 c1, .slice A2 n2 c2] ty)) fun e w' => ∃ A' c', e = .returned (.slice A' tot c') ∧ w'.ownsRow (w.heap.size + 1) 5 1 (.slice A' tot c') tot (cellsOf (x1 ++ x2)) ∧ Below w.heap.size w w' :=
  (concat_two rfl h1 h2 tot ht hn).mono fun e w' ⟨A', c', he, ho, hb⟩ => ⟨A', c', he, ho, bel_to hb (below_alloc rfl)⟩

theorem text_k (A : Option Addr) (n c : Nat) (xs : List UInt8) (w : World) (h : Has w A n c xs) (hn : n < 65536) :
    Calls Try.prog 26 #[.slice A n c] w fun e w' => ∃ A' c', e = .returned (.slice A' (2 + n) c') ∧ w'.ownsRow w.heap.size 5 1 (.slice A' (2 + n) c') (2 + n) (cellsOf (textB xs)) ∧ Below w.heap.size w w' := by
  have HP := kept (row_k2 n w hn)
  have HH := kept h
  have HL : Hid (textB xs = be n 2 ++ xs) := by show _ = _; rw [← h.1.1]; rfl
  have hw : IntKind.u64.wrap (n : Int) = (n : Int) := IntWalk.u64_in _ ⟨by omega, by omega⟩
  have HN := kept hn
  clear h hn
  go_enter Try.func26, Try.ntmps26
  go_wp2_with (first | (go_at_call 41; (with_reducible refine (HP.out).mono ?_); rintro e w1 ⟨A1, c1, rfl, hown, hb⟩; have HO := kept (Has.of_own hown); have HX := kept (HH.out.keeps (Keeps.of_below hb)); have HB := kept hb; clear hown hb) | (go_at_call 23; (with_reducible refine (concat_two_at _ _ _ _ _ _ _ _ _ _ HO.out HX.out (2 + n) rfl (by have := HN.out; omega)).mono ?_); rintro e w2 ⟨A2, c2, rfl, hown, hb⟩; have HO2 := kept (own_mono hown (Nat.le_succ_of_le HB.out.size)); have HB2 := kept (bel_to hb HB.out); clear hown hb))
  go_ret
  exact ⟨A2, c2, rfl, by rw [HL.out]; exact HO2.out, HB2.out⟩
theorem head_k (kind : Nat) (A : Option Addr) (n c : Nat) (xs : List UInt8) (w : World) (h : Has w A n c xs) (hn : n < 65536) (hk : kind < 256) :
    Calls Try.prog 25 #[.int .u64 (kind : Int), .slice A n c] w fun e w' => ∃ A' c', e = .returned (.slice A' (3 + n) c') ∧ w'.ownsRow w.heap.size 5 1 (.slice A' (3 + n) c') (3 + n) (cellsOf (headB kind xs)) ∧ Below w.heap.size w w' := by
  have HP := kept (row_k1 kind w hk)
  have HH := kept h
  have HN := kept hn
  clear h hn hk
  go_enter Try.func25, Try.ntmps25
  go_wp2_with (first | (go_at_call 41; (with_reducible refine (HP.out).mono ?_); rintro e w1 ⟨A1, c1, rfl, hown, hb⟩; have HO := kept (Has.of_own hown); have HX := kept (HH.out.keeps (Keeps.of_below hb)); have HB := kept hb; clear hown hb) | (go_at_call 26; (with_reducible refine (text_k _ _ _ _ _ HX.out HN.out).mono ?_); rintro e w2 ⟨A2, c2, rfl, hown, hb⟩; have HO1 := kept (HO.out.keeps (Keeps.of_below hb)); have HO2 := kept (Has.of_own hown); have HB2 := kept (bel_to hb HB.out); clear hown hb) | (go_at_call 23; (with_reducible refine (concat_two_at _ _ _ _ _ _ _ _ _ _ HO1.out HO2.out (3 + n) (by omega) (by have := HN.out; omega)).mono ?_); rintro e w3 ⟨A3, c3, rfl, hown, hb⟩; have HO3 := kept (own_mono hown (Nat.le_succ_of_le HB2.out.size)); have HB3 := kept (bel_to hb HB2.out); clear hown hb))
  go_ret
  exact ⟨A3, c3, rfl, HO3.out, HB3.out⟩
theorem head_two (A : Option Addr) (n c : Nat) (xs : List UInt8) (w : World) (h : Has w A n c xs) (hn : n < 65536) :
    Calls Try.prog 25 #[.int .u64 2, .slice A n c] w fun e w' => ∃ A' c', e = .returned (.slice A' (3 + n) c') ∧ w'.ownsRow w.heap.size 5 1 (.slice A' (3 + n) c') (3 + n) (cellsOf (headB 2 xs)) ∧ Below w.heap.size w w' := head_k 2 A n c xs w h hn (by omega)
theorem head_one (A : Option Addr) (n c : Nat) (xs : List UInt8) (w : World) (h : Has w A n c xs) (hn : n < 65536) :
    Calls Try.prog 25 #[.int .u64 1, .slice A n c] w fun e w' => ∃ A' c', e = .returned (.slice A' (3 + n) c') ∧ w'.ownsRow w.heap.size 5 1 (.slice A' (3 + n) c') (3 + n) (cellsOf (headB 1 xs)) ∧ Below w.heap.size w w' := head_k 1 A n c xs w h hn (by omega)
theorem tomb_yes (A : Option Addr) (n c : Nat) (xs : List UInt8) (w : World) (h : Has w A n c xs) (hk : keyB n = true) :
    Calls Try.prog 11 #[.slice A n c] w fun e w' => ∃ A' c', e = .returned (.tuple #[.slice A' (3 + n) c', .int .i64 0]) ∧ w'.ownsRow w.heap.size 5 1 (.slice A' (3 + n) c') (3 + n) (cellsOf (headB 2 xs)) ∧ Below w.heap.size w w' := by
  have HK := fun W => kept (rightKey_any A n c true hk W)
  have HH := kept (head_two A n c xs w h (by have := keyB_le hk; omega))
  clear h hk
  go_enter Try.func11, Try.ntmps11
  go_wp2_with (first | (go_at_call 27; (with_reducible refine ((HK _).out).mono ?_); rintro e w1 ⟨rfl, rfl⟩) | (go_at_call 25; (with_reducible refine (HH.out).mono ?_); rintro e w3 ⟨A3, c3, rfl, hown, hb⟩; have HO3 := kept hown; have HB3 := kept hb; clear hown hb))
  go_ret2
  exact ⟨A3, c3, rfl, HO3.out, HB3.out⟩
theorem tomb_no (A : Option Addr) (n c : Nat) (w : World) (hk : keyB n = false) :
    Calls Try.prog 11 #[.slice A n c] w fun e w' => e = .returned (.tuple #[.slice none 0 0, .int .i64 4]) ∧ w = w' := by
  have HK := fun W => kept (rightKey_any A n c false hk W)
  clear hk
  go_enter Try.func11, Try.ntmps11
  go_wp2_with (first | (go_at_call 27; (with_reducible refine ((HK _).out).mono ?_); rintro e w1 ⟨rfl, rfl⟩))
  go_ret2
  exact ⟨rfl, rfl⟩
end Go.Proofs.Ytcmjgkgdeaiifaa
