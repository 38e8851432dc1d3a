/-
  terrierlaw06.do, and acts one behind the other.
-/
import Derived.Test.YtahciaccnblfoaaFr6
namespace Go.Proofs.Ytahciaccnblfoaa
open Go.ChangeShapes Go.WideShapes Go.ChangeAt Go.RowKit
set_option linter.unusedVariables false

def FSt.act (s : FSt) (K N : Int) : FSt := if K = 0 then s.take else if K = 1 then s.give N else if K = 2 then s.hold N else s.settle
theorem Mine.alloc {a w : World} {r : Nat} {s : FSt} (h : Mine a r s w) (o : Obj) : Mine a r s (w.alloc o) := h.below ((Below.refl _ _).alloc (Nat.le_refl _) _)
theorem Lst.drewN {w : World} {f : Fl} {s : FSt} (h : Lst w f s) (q : Nat) : Lst (w.drewN q) f s := h
theorem Lst.alloc {w : World} {f : Fl} {s : FSt} (h : Lst w f s) (o : Obj) : Lst (w.alloc o) f s := h.below ((Below.refl _ _).alloc (Nat.le_refl _) _)
theorem LLeft.of_alloc {w w' : World} {o : Obj} {f : Fl} {s : FSt} (h : LLeft (w.alloc o) w' f s) : LLeft w w' f s := LLeft.step ((Turned.refl w _).alloc o) (fun _ hj => .inl hj) rfl h
theorem do_left {w : World} {f : Fl} {s : FSt} (h : Lst w f s) (K N : Int) : Calls Try.prog 24 #[.pointer (some ⟨f.r, 0, none⟩), .agg #[.int .i64 K, .int .i64 N]] w fun e w' => e = .returned (.tuple #[]) ∧ Hid (LLeft w w' f (s.act K N)) := by
  have H := kept (h.alloc (.cells #[.int .i64 K, .int .i64 N] 39))
  clear h
  by_cases h0 : K = 0
  · have HT := kept (take_any _ _ _ H.out)
    have HE : Hid (s.act K N = s.take) := kept (by unfold FSt.act; rw [if_pos h0])
    subst h0
    go_enter Try.func24, Try.ntmps24
    go_wp2_with (first | (go_at_call 11; (with_reducible refine (HT.out).mono ?_); rintro e w1 ⟨rfl, h1⟩))
    go_returns
    exact ⟨rfl, kept (by rw [HE.out]; exact h1.out.of_alloc)⟩
  by_cases h1 : K = 1
  · have HT := kept (give_any _ _ N _ H.out)
    have HE : Hid (s.act K N = s.give N) := kept (by unfold FSt.act; rw [if_neg h0, if_pos h1])
    subst h1
    go_enter Try.func24, Try.ntmps24
    go_wp2_with (first | (go_at_call 13; (with_reducible refine (HT.out).mono ?_); rintro e w1 ⟨rfl, h1⟩))
    go_returns
    exact ⟨rfl, kept (by rw [HE.out]; exact h1.out.of_alloc)⟩
  by_cases h2 : K = 2
  · have HT := kept (hold_any _ _ N _ H.out)
    have HE : Hid (s.act K N = s.hold N) := kept (by unfold FSt.act; rw [if_neg h0, if_neg h1, if_pos h2])
    subst h2
    go_enter Try.func24, Try.ntmps24
    go_wp2_with (first | (go_at_call 14; (with_reducible refine (HT.out).mono ?_); rintro e w1 ⟨rfl, h1⟩))
    go_returns
    exact ⟨rfl, kept (by rw [HE.out]; exact h1.out.of_alloc)⟩
  have HT := kept (settle_any _ _ _ H.out)
  have HE : Hid (s.act K N = s.settle) := kept (by unfold FSt.act; rw [if_neg h0, if_neg h1, if_neg h2])
  have b0 : (K == 0) = false := by simpa using h0
  have b1 : (K == 1) = false := by simpa using h1
  have b2 : (K == 2) = false := by simpa using h2
  clear h0 h1 h2
  go_enter Try.func24, Try.ntmps24
  go_wp2_with (first | (go_at_call 12; (with_reducible refine (HT.out).mono ?_); rintro e w1 ⟨rfl, h1⟩))
  go_returns
  exact ⟨rfl, kept (by rw [HE.out]; exact h1.out.of_alloc)⟩

theorem do_mine {a w : World} {r : Nat} {s : FSt} (h : Mine a r s w) (K N : Int) : Calls Try.prog 24 #[.pointer (some ⟨r, 0, none⟩), .agg #[.int .i64 K, .int .i64 N]] w fun e w' => e = .returned (.tuple #[]) ∧ Hid (Mine a r (s.act K N) w') := by
  obtain ⟨h1, f, rfl, h3, h4⟩ := h
  refine (do_left h3 K N).mono ?_
  rintro e w' ⟨rfl, h⟩
  exact ⟨rfl, kept (h.out.mine h1 h4)⟩

/-- The pairs at a slice, by block and place. -/
theorem RdPairs.there {w : World} {A : Option Addr} {n : Nat} {K N : Nat → Int} (h : RdPairs w A n K N) {k : Nat} (hk : k < n) :
    ∃ b o, A = some ⟨b, o, none⟩ ∧ w.cell? ⟨b, o + k * 2, none⟩ = some (.int .i64 (K k)) ∧ w.cell? ⟨b, o + k * 2 + 1, none⟩ = some (.int .i64 (N k)) := by
  obtain ⟨⟨b, o, s⟩, e, hc⟩ := h.cell (by omega)
  have hs : s = none := by
    have := World.cell?_spot (hc 0 (by omega)).1
    simpa [Addr.add] using this
  subst hs
  obtain ⟨h0, h1⟩ := hc k hk
  have ha : ∀ j, (⟨b, o, none⟩ : Addr).add j = ⟨b, o + j, none⟩ := fun j => by unfold Addr.add; split <;> simp_all
  rw [ha] at h0 h1
  exact ⟨b, o, e, h0, h1⟩
theorem RdPairs.below {w w' : World} {A : Option Addr} {n : Nat} {K N : Nat → Int} (h : RdPairs w A n K N) (hb : Below w.heap.size w w') : RdPairs w' A n K N := ⟨fun hn => by
  obtain ⟨a, e, hc⟩ := h.cell hn
  refine ⟨a, e, fun i hi => ?_⟩
  obtain ⟨h0, h1⟩ := hc i hi
  exact ⟨(hb.cell (World.block_lt_of_cell? w _ h0)).trans h0, (hb.cell (World.block_lt_of_cell? w _ h1)).trans h1⟩, h.fits⟩
/-- The first k acts done. -/
def FSt.acts (s : FSt) (K N : Nat → Int) : Nat → FSt
  | 0 => s
  | k + 1 => (s.acts K N k).act (K k) (N k)
end Go.Proofs.Ytahciaccnblfoaa
