/-
  What the laws of layer 6 share: the lists that arguments read as, and plain facts on lists built up.
-/
import Derived.Test.YtahciaccnblfoaaFv
import Derived.Test.YtahciaccnblfoaaRows2
import Derived.Test.YtahciaccnblfoaaRows3
namespace Go.Proofs.Ytahciaccnblfoaa
open Go.ChangeShapes Go.WideShapes Go.ChangeAt Go.RowKit
set_option linter.unusedVariables false

def lstOf (Z : Nat → Int) (n : Nat) : List Int := (List.range n).map Z
theorem lstOf_length (Z : Nat → Int) (n : Nat) : (lstOf Z n).length = n := by simp [lstOf]
theorem lstOf_get (Z : Nat → Int) (n k : Nat) (h : k < (lstOf Z n).length) : (lstOf Z n)[k] = Z k := by simp [lstOf]
theorem vals_cell {w : World} {A : Option Addr} {n : Nat} {V : Nat → Value} (h : RdVals w A n V) (hn : 0 < n) : ∃ b o, A = some ⟨b, o, none⟩ ∧ ∀ j, j < n → w.cell? ⟨b, o + j, none⟩ = some (V j) := by
  obtain ⟨⟨b, o, s⟩, e, hc⟩ := h hn
  have hs : s = none := by
    have := World.cell?_spot (hc 0 (by omega))
    simpa [Addr.add] using this
  subst hs
  refine ⟨b, o, e, fun j hj => ?_⟩
  have := hc j hj
  rwa [show (⟨b, o, none⟩ : Addr).add j = ⟨b, o + j, none⟩ by unfold Addr.add; split <;> simp_all] at this
theorem RdI.of_vals {w : World} {A : Option Addr} {n : Nat} {Z : Nat → Int} (h : RdVals w A n (fun i => .int .i64 (Z i))) : RdI w A n (lstOf Z n) := by
  refine ⟨lstOf_length Z n, fun hn => ?_⟩
  obtain ⟨b, o, e, hc⟩ := vals_cell h hn
  exact ⟨b, o, e, fun j hj => by rw [lstOf_get]; exact hc j (by rwa [lstOf_length] at hj)⟩
theorem length_addAll {S Z : List Int} (hZ : Z.Nodup) (h : ∀ x ∈ Z, x ∉ S) : (addAll S Z).length = S.length + Z.length := by
  induction Z generalizing S with
  | nil => rfl
  | cons y r ih =>
    obtain ⟨h1, h2⟩ := List.nodup_cons.1 hZ
    have hy : y ∉ S := h y (List.mem_cons_self ..)
    show (addAll (addI y S) r).length = _
    rw [ih h2 (fun x hx hm => by
      rcases mem_addI.1 hm with rfl | hm
      · exact h1 hx
      · exact h x (List.mem_cons_of_mem _ hx) hm)]
    unfold addI
    rw [if_neg hy, ins_length, List.length_cons]
    omega
theorem newErr_zero {z : Int} {Z : List Int} (h : newErr z Z = 0) : (8 ≤ z ∧ z ≤ 1024) ∧ (∀ x ∈ Z, 2 ≤ x ∧ x < z) ∧ Z.Nodup := by
  unfold newErr at h
  split at h
  · cases h
  · split at h
    · split at h
      · rename_i h1 h2 h3
        refine ⟨by omega, fun x hx => ?_, h3⟩
        have := List.all_eq_true.1 h2 x hx
        simpa [inB] using this
      · cases h
    · cases h
theorem newErr_perm {z : Int} {Z Y : List Int} (h : Z.Perm Y) : newErr z Z = newErr z Y := by
  have h1 : Z.all (inB z) = Y.all (inB z) := by
    apply Bool.eq_iff_iff.2
    simp only [List.all_eq_true]
    exact ⟨fun k x hx => k x (h.mem_iff.2 hx), fun k x hx => k x (h.mem_iff.1 hx)⟩
  unfold newErr
  rw [h1]
  simp only [h.nodup_iff]
/-- A list of the caller's own, in a world behind an elder one. -/
def Mine (a : World) (r : Nat) (s : FSt) (w : World) : Prop := Below a.heap.size a w ∧ ∃ f : Fl, f.r = r ∧ Lst w f s ∧ ∀ j, f.own j → a.heap.size ≤ j
theorem LLeft.mine {a w w' : World} {f : Fl} {s : FSt} (h : LLeft w w' f s) (hb : Below a.heap.size a w) (ho : ∀ j, f.own j → a.heap.size ≤ j) : Mine a f.r s w' := h.only_new hb ho
theorem Mine.below {a w w' : World} {r : Nat} {s : FSt} (h : Mine a r s w) (hb : Below w.heap.size w w') : Mine a r s w' := by
  obtain ⟨h1, f, h2, h3, h4⟩ := h
  exact ⟨h1.trans (hb.mono h1.size), f, h2, h3.below hb, h4⟩
section
variable {a w : World} {r : Nat} {s : FSt}
theorem take_mine (h : Mine a r s w) : Calls Try.prog 11 #[.pointer (some ⟨r, 0, none⟩)] w fun e w' => e = .returned (.tuple #[.int .i64 s.taken.1, .int .i64 s.taken.2]) ∧ Hid (Mine a r s.take w') := by
  obtain ⟨h1, f, rfl, h3, h4⟩ := h
  refine (take_any f s w h3).mono ?_
  rintro e w' ⟨rfl, h⟩
  exact ⟨rfl, kept (h.out.mine h1 h4)⟩
theorem give_mine (h : Mine a r s w) (x : Int) : Calls Try.prog 13 #[.pointer (some ⟨r, 0, none⟩), .int .i64 x] w fun e w' => e = .returned (.int .i64 (s.may x)) ∧ Hid (Mine a r (s.give x) w') := by
  obtain ⟨h1, f, rfl, h3, h4⟩ := h
  refine (give_any f s x w h3).mono ?_
  rintro e w' ⟨rfl, h⟩
  exact ⟨rfl, kept (h.out.mine h1 h4)⟩
theorem hold_mine (h : Mine a r s w) (x : Int) : Calls Try.prog 14 #[.pointer (some ⟨r, 0, none⟩), .int .i64 x] w fun e w' => e = .returned (.int .i64 (s.may x)) ∧ Hid (Mine a r (s.hold x) w') := by
  obtain ⟨h1, f, rfl, h3, h4⟩ := h
  refine (hold_any f s x w h3).mono ?_
  rintro e w' ⟨rfl, h⟩
  exact ⟨rfl, kept (h.out.mine h1 h4)⟩
theorem settle_mine (h : Mine a r s w) : Calls Try.prog 12 #[.pointer (some ⟨r, 0, none⟩)] w fun e w' => e = .returned (.tuple #[]) ∧ Hid (Mine a r s.settle w') := by
  obtain ⟨h1, f, rfl, h3, h4⟩ := h
  refine (settle_any f s w h3).mono ?_
  rintro e w' ⟨rfl, h⟩
  exact ⟨rfl, kept (h.out.mine h1 h4)⟩
theorem room_mine (h : Mine a r s w) : Calls Try.prog 15 #[.pointer (some ⟨r, 0, none⟩)] w fun e w' => e = .returned (.int .i64 (s.S.length : Int)) ∧ w = w' := by
  obtain ⟨h1, f, rfl, h3, h4⟩ := h
  exact room_any f s w h3
theorem spare_mine (h : Mine a r s w) : Calls Try.prog 16 #[.pointer (some ⟨r, 0, none⟩)] w fun e w' => ∃ A c, e = .returned (.slice A s.S.length c) ∧ Hid (Says w w' s.S A c) := by
  obtain ⟨h1, f, rfl, h3, h4⟩ := h
  exact spare_any f s w h3
theorem held_mine (h : Mine a r s w) : Calls Try.prog 17 #[.pointer (some ⟨r, 0, none⟩)] w fun e w' => ∃ A c, e = .returned (.slice A s.H.length c) ∧ Hid (Says w w' s.H A c) := by
  obtain ⟨h1, f, rfl, h3, h4⟩ := h
  exact held_any f s w h3
theorem Mine.ok (h : Mine a r s w) : s.ok := by
  obtain ⟨h1, f, rfl, h3, h4⟩ := h
  exact h3.1
theorem Mine.lt (h : Mine a r s w) : a.heap.size ≤ r ∧ r < w.heap.size := by
  obtain ⟨h1, f, rfl, h3, h4⟩ := h
  exact ⟨h4 _ (.inl rfl), h3.lt (.inl rfl)⟩
end
theorem new_mine (z : Int) (A : Option Addr) (n c : Nat) (Z : List Int) (a w : World) (hb : Below a.heap.size a w) (h : RdI w A n Z) (hn : n ≤ 1000000) (he : newErr z Z = 0) :
    Calls Try.prog 9 #[.int .i64 z, .slice A n c] w fun e w' => ∃ r : Nat, e = .returned (.tuple #[.pointer (some ⟨r, 0, none⟩), .int .i64 0]) ∧ Hid (Mine a r ⟨z, addAll [] Z, []⟩ w' ∧ Below w.heap.size w w' ∧ w.heap.size ≤ r) := by
  refine (new_good z A n c Z w h hn he).mono ?_
  rintro e w' ⟨f, rfl, hr⟩
  obtain ⟨h1, h2, h3⟩ := hr.out
  exact ⟨f.r, rfl, kept ⟨⟨hb.trans (h2.mono hb.size), f, rfl, h1, fun j hj => Nat.le_trans hb.size (h3 j hj)⟩, h2, h3 _ (.inl rfl)⟩⟩
end Go.Proofs.Ytahciaccnblfoaa
