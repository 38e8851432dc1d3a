/-
  The developers' list and the document's side by side: each call leaves the other.
-/
import Derived.Test.YtahciaccnblfoaaFq
namespace Go.Proofs.Ytahciaccnblfoaa
open Go.ChangeShapes Go.WideShapes Go.ChangeAt Go.RowKit
set_option linter.unusedVariables false

/-- The developers' list at r holds s, the document's at rr says s2; all of both is new to an elder world. -/
structure Both (a : World) (r rr gg : Nat) (s s2 : FSt) (w : World) : Prop where
  bel : Below a.heap.size a w
  lst : ∃ f : Fl, f.r = r ∧ Lst w f s ∧ ∀ j, f.own j → a.heap.size ≤ j ∧ j ≠ rr ∧ j ≠ gg
  ref : ∃ G, Rf w rr gg G ∧ SimG s2 G
  n1 : a.heap.size ≤ rr
  n2 : a.heap.size ≤ gg
def ActKept (w w' : World) : Prop := ∀ b cs, Blk w b 39 cs → Blk w' b 39 cs
section
variable {a w w' : World} {r rr gg : Nat} {s s' s2 : FSt}
theorem Both.below (h : Both a r rr gg s s2 w) (hb : Below w.heap.size w w') : Both a r rr gg s s2 w' := by
  obtain ⟨h1, ⟨f, h2, h3, h4⟩, ⟨G, h5, h6⟩, h7, h8⟩ := h
  exact ⟨h1.trans (hb.mono h1.size), ⟨f, h2, h3.below hb, h4⟩, ⟨G, h5.below hb, h6⟩, h7, h8⟩
theorem Both.alloc (h : Both a r rr gg s s2 w) (o : Obj) : Both a r rr gg s s2 (w.alloc o) := h.below ((Below.refl _ _).alloc (Nat.le_refl _) _)
theorem Both.drewN (h : Both a r rr gg s s2 w) (q : Nat) : Both a r rr gg s s2 (w.drewN q) := h.below ⟨rfl, rfl, rfl, Nat.le_refl _, fun _ _ => rfl⟩
theorem Both.drew (h : Both a r rr gg s s2 w) : Both a r rr gg s s2 w.drew := h.below ⟨rfl, rfl, rfl, Nat.le_refl _, fun _ _ => rfl⟩
theorem Both.left {f : Fl} (h : Both a r rr gg s s2 w) (hr : f.r = r) (hl : Lst w f s) (ho : ∀ j, f.own j → a.heap.size ≤ j ∧ j ≠ rr ∧ j ≠ gg) (l : LLeft w w' f s') : Both a r rr gg s' s2 w' ∧ ActKept w w' := by
  obtain ⟨G, h5, h6⟩ := h.ref
  have l' := l
  obtain ⟨f', l1, l2, l3, l4⟩ := l
  refine ⟨⟨Turned.only_new h.bel l3 h.bel.size (fun j hj => (ho j hj).1), ⟨f', l1.trans hr, l2, fun j hj => ?_⟩, ⟨G, h5.turned l3 (fun hj => (ho _ hj).2.1 rfl) (fun hj => (ho _ hj).2.2 rfl), h6⟩, h.n1, h.n2⟩, fun b cs hb => l'.act hl hb⟩
  rcases l4 j hj with h9 | h9
  · exact ho j h9
  · have h10 := h5.2.1.lt
    have h11 := h5.2.2.lt
    have := h.bel.size
    exact ⟨by omega, by omega, by omega⟩
theorem Both.right {s2' : FSt} (h : Both a r rr gg s s2 w) (l : ∃ G', Rf w' rr gg G' ∧ SimG s2' G' ∧ Turned w w' (fun j => j = gg)) : Both a r rr gg s s2' w' ∧ ActKept w w' := by
  obtain ⟨G, h5, h6⟩ := h.ref
  obtain ⟨f, h2, h3, h4⟩ := h.lst
  obtain ⟨G', l1, l2, l3⟩ := l
  refine ⟨⟨Turned.only_new h.bel l3 h.bel.size (fun j hj => by rw [hj]; exact h.n2), ⟨f, h2, h3.turned l3 (fun j hj e => (h4 j hj).2.2 e), h4⟩, ⟨G', l1, l2⟩, h.n1, h.n2⟩, fun b cs hb => l3.blk hb (fun e => ?_)⟩
  subst e
  have := h5.2.2
  unfold Blk at this hb
  rw [this] at hb
  injection hb with hb
  injection hb with _ hb _
  exact absurd hb (by decide)
theorem Both.ok (h : Both a r rr gg s s2 w) : s.ok := by
  obtain ⟨f, h2, h3, h4⟩ := h.lst
  exact h3.1
theorem take_b (h : Both a r rr gg s s2 w) : Calls Try.prog 11 #[.pointer (some ⟨r, 0, none⟩)] w fun e w' => e = .returned (.tuple #[.int .i64 s.taken.1, .int .i64 s.taken.2]) ∧ Hid (Both a r rr gg s.take s2 w' ∧ ActKept w w') := by
  obtain ⟨f, hr, h3, h4⟩ := h.lst
  rw [← hr]
  refine (take_any f s w h3).mono ?_
  rintro e w' ⟨rfl, l⟩
  exact ⟨rfl, kept (by rw [hr]; exact h.left hr h3 h4 l.out)⟩
theorem give_b (h : Both a r rr gg s s2 w) (x : Int) : Calls Try.prog 13 #[.pointer (some ⟨r, 0, none⟩), .int .i64 x] w fun e w' => e = .returned (.int .i64 (s.may x)) ∧ Hid (Both a r rr gg (s.give x) s2 w' ∧ ActKept w w') := by
  obtain ⟨f, hr, h3, h4⟩ := h.lst
  rw [← hr]
  refine (give_any f s x w h3).mono ?_
  rintro e w' ⟨rfl, l⟩
  exact ⟨rfl, kept (by rw [hr]; exact h.left hr h3 h4 l.out)⟩
theorem hold_b (h : Both a r rr gg s s2 w) (x : Int) : Calls Try.prog 14 #[.pointer (some ⟨r, 0, none⟩), .int .i64 x] w fun e w' => e = .returned (.int .i64 (s.may x)) ∧ Hid (Both a r rr gg (s.hold x) s2 w' ∧ ActKept w w') := by
  obtain ⟨f, hr, h3, h4⟩ := h.lst
  rw [← hr]
  refine (hold_any f s x w h3).mono ?_
  rintro e w' ⟨rfl, l⟩
  exact ⟨rfl, kept (by rw [hr]; exact h.left hr h3 h4 l.out)⟩
theorem settle_b (h : Both a r rr gg s s2 w) : Calls Try.prog 12 #[.pointer (some ⟨r, 0, none⟩)] w fun e w' => e = .returned (.tuple #[]) ∧ Hid (Both a r rr gg s.settle s2 w' ∧ ActKept w w') := by
  obtain ⟨f, hr, h3, h4⟩ := h.lst
  rw [← hr]
  refine (settle_any f s w h3).mono ?_
  rintro e w' ⟨rfl, l⟩
  exact ⟨rfl, kept (by rw [hr]; exact h.left hr h3 h4 l.out)⟩
theorem room_b (h : Both a r rr gg s s2 w) : Calls Try.prog 15 #[.pointer (some ⟨r, 0, none⟩)] w fun e w' => e = .returned (.int .i64 (s.S.length : Int)) ∧ w = w' := by
  obtain ⟨f, hr, h3, h4⟩ := h.lst
  rw [← hr]
  exact room_any f s w h3
/-- An answer of the call's own beside both lists. -/
def Got (a : World) (r rr gg : Nat) (s s2 : FSt) (w w' : World) (X : List Int) (A : Option Addr) (c : Nat) : Prop := Both a r rr gg s s2 w' ∧ Says w w' X A c
theorem spare_b (h : Both a r rr gg s s2 w) : Calls Try.prog 16 #[.pointer (some ⟨r, 0, none⟩)] w fun e w' => ∃ A c, e = .returned (.slice A s.S.length c) ∧ Hid (Got a r rr gg s s2 w w' s.S A c) := by
  obtain ⟨f, hr, h3, h4⟩ := h.lst
  rw [← hr]
  refine (spare_any f s w h3).mono ?_
  rintro e w' ⟨A, c, rfl, l⟩
  exact ⟨A, c, rfl, kept ⟨by rw [hr]; exact h.below l.out.2.1, l.out⟩⟩
theorem held_b (h : Both a r rr gg s s2 w) : Calls Try.prog 17 #[.pointer (some ⟨r, 0, none⟩)] w fun e w' => ∃ A c, e = .returned (.slice A s.H.length c) ∧ Hid (Got a r rr gg s s2 w w' s.H A c) := by
  obtain ⟨f, hr, h3, h4⟩ := h.lst
  rw [← hr]
  refine (held_any f s w h3).mono ?_
  rintro e w' ⟨A, c, rfl, l⟩
  exact ⟨A, c, rfl, kept ⟨by rw [hr]; exact h.below l.out.2.1, l.out⟩⟩
theorem rtake_b (h : Both a r rr gg s s2 w) (ho : s2.ok) (hd : Dis s2) : Calls Try.prog 19 #[.pointer (some ⟨rr, 0, none⟩)] w fun e w' => e = .returned (.tuple #[.int .i64 s2.taken.1, .int .i64 s2.taken.2]) ∧ Hid (Both a r rr gg s s2.take w' ∧ ActKept w w') := by
  obtain ⟨G, h5, h6⟩ := h.ref
  refine (rtake_any rr gg G s2 w h5 h6 ho hd).mono ?_
  rintro e w' ⟨rfl, l⟩
  exact ⟨rfl, kept (h.right l.out)⟩
theorem rgive_b (h : Both a r rr gg s s2 w) (x : Int) : Calls Try.prog 20 #[.pointer (some ⟨rr, 0, none⟩), .int .i64 x, .int .i64 1] w fun e w' => e = .returned (.int .i64 (s2.may x)) ∧ Hid (Both a r rr gg s (s2.give x) w' ∧ ActKept w w') := by
  obtain ⟨G, h5, h6⟩ := h.ref
  refine (rgive_any rr gg G s2 x w h5 h6).mono ?_
  rintro e w' ⟨rfl, l⟩
  exact ⟨rfl, kept (h.right l.out)⟩
theorem rhold_b (h : Both a r rr gg s s2 w) (x : Int) : Calls Try.prog 20 #[.pointer (some ⟨rr, 0, none⟩), .int .i64 x, .int .i64 2] w fun e w' => e = .returned (.int .i64 (s2.may x)) ∧ Hid (Both a r rr gg s (s2.hold x) w' ∧ ActKept w w') := by
  obtain ⟨G, h5, h6⟩ := h.ref
  refine (rhold_any rr gg G s2 x w h5 h6).mono ?_
  rintro e w' ⟨rfl, l⟩
  exact ⟨rfl, kept (h.right l.out)⟩
theorem rsettle_b (h : Both a r rr gg s s2 w) (ho : s2.ok) (hd : Dis s2) : Calls Try.prog 21 #[.pointer (some ⟨rr, 0, none⟩)] w fun e w' => e = .returned (.tuple #[]) ∧ Hid (Both a r rr gg s s2.settle w' ∧ ActKept w w') := by
  obtain ⟨G, h5, h6⟩ := h.ref
  refine (rsettle_any rr gg G s2 w h5 h6 ho hd).mono ?_
  rintro e w' ⟨rfl, l⟩
  exact ⟨rfl, kept (h.right l.out)⟩
theorem rall_b (h : Both a r rr gg s s2 w) (ho : s2.ok) (hd : Dis s2) (v : Int) (X : List Int) (hv : (v = 1 ∧ X = s2.S) ∨ (v = 2 ∧ X = s2.H)) : Calls Try.prog 22 #[.pointer (some ⟨rr, 0, none⟩), .int .i64 v] w fun e w' => ∃ A c, e = .returned (.slice A X.length c) ∧ Hid (Got a r rr gg s s2 w w' X A c) := by
  obtain ⟨G, h5, h6⟩ := h.ref
  have hl : G.length ≤ 1024 := by
    have := h6.1
    have := ho.2.1
    omega
  refine (rall_any rr gg G v w h5 hl).mono ?_
  rintro e w' ⟨A, m, c, rfl, l⟩
  have e : idx G v G.length = X := by
    rcases hv with ⟨rfl, rfl⟩ | ⟨rfl, rfl⟩
    · exact idx_one h6 ho
    · exact idx_two h6 ho hd
  obtain ⟨l1, l2, l3⟩ := l.out
  rw [e] at l1
  obtain rfl := l1.1
  exact ⟨A, c, rfl, kept ⟨h.below l2, l1, l2, l3⟩⟩
end
end Go.Proofs.Ytahciaccnblfoaa
