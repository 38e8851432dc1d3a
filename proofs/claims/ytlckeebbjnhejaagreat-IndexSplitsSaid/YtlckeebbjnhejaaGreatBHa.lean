/-
  Texts laid together: Ha Hb.
-/
import Derived.Test.YtlckeebbjnhejaaGreatBGm
import Derived.Test.YtlckeebbjnhejaaGreatBGq
import Derived.Test.YtlckeebbjnhejaaGreatBGx
import Derived.Test.YtlckeebbjnhejaaGreatBGz
import Derived.Deep.DeepCutAuto
section
/-
  The law's own helpers: an act's revision; an act done on both histories.
-/
namespace Go.Proofs.YtlckeebbjnhejaaGreat
open Go.ChangeShapes Go.WideShapes Go.ChangeAt Go.RowKit Go.Deep
set_option linter.unusedVariables false
set_option linter.unusedSimpArgs false

theorem Gs.notT {w : World} {r : Nat} {F : Nat → Prop} {gs : List Gn} (h : Gs w r F gs) {b : Nat} {j : Nat} (hj : F j) : ¬ OfT b w j := by
  obtain ⟨A, n, k, Ls, h1, h2⟩ := h
  rintro ⟨_, cur, t, f, e, ht⟩
  have key : ∀ {cs : Array Value} {s : TypeId} {q : Nat × Nat}, w.heap[j]? = some (.cells cs s q) → s ≠ 118 → s ≠ 124 → False := fun h a b => by
    rcases ht with rfl | rfl
    · exact ne_of_types h e a rfl
    · exact ne_of_types h e b rfl
  rcases (h2 j).1 hj with rfl | hj | ⟨L, hL, hj⟩
  · exact key h1.box (by decide) (by decide)
  · obtain ⟨c, hc⟩ := gown_cl (k := 0) h1.own hj
    exact key hc (by decide) (by decide)
  · obtain ⟨c, hc⟩ := h1.row_cl hL hj
    exact key hc (by decide) (by decide)
theorem RF.after_g {w w' : World} {b n : Nat} {F : Nat → Prop} (h : RF w b b n) (t : Turned w w' F) (hF : ∀ j, F j → ¬ OfT b w j) : RF w' b b n := by
  obtain ⟨A, k, I, h1, h2, h3⟩ := h
  refine ⟨A, k, I, t.blk h1 (fun e => hF b e ⟨Nat.le_refl _, _, _, _, h1, .inl rfl⟩), gown_turned h2 t (fun j hj e => ?_), h3⟩
  obtain ⟨c, hc⟩ := gown_cl (k := 0) h2 hj
  exact hF j e ⟨(gown_lt h2 hj).1, _, _, _, hc, .inr rfl⟩
theorem Gs.after_r {w w' : World} {r : Nat} {F : Nat → Prop} {gs : List Gn} {b : Nat} (h : Gs w r F gs) (t : TurnR b w w') : Gs w' r F gs := h.turned t (fun j hj => h.notT hj)
/-- An act, as it lies. -/
structure Ac where
  k : Int
  nx : Bool
  m : Int
  s : Int
  c : Int
  v : Int
def Ac.cells (a : Ac) : List Value := [.int .i64 a.k, .bool a.nx, .int .i64 a.m, .int .i64 a.s, .int .i64 a.c, .int .i64 a.v]
abbrev acV (a : Ac) : Value := .agg #[.int .i64 a.k, .bool a.nx, .int .i64 a.m, .int .i64 a.s, .int .i64 a.c, .int .i64 a.v]
def ActR (w : World) (e : Ending) (w' : World) : Prop := ∃ q : Rv, e = .returned (.agg #[.int .i64 q.1, .int .i64 q.2]) ∧ Below w.heap.size w w'
end Go.Proofs.YtlckeebbjnhejaaGreat
end

section
/-
  The law's own helper do: an act on both histories.
-/
namespace Go.Proofs.YtlckeebbjnhejaaGreat
open Go.ChangeShapes Go.WideShapes Go.ChangeAt Go.RowKit Go.Deep
set_option linter.unusedVariables false
set_option linter.unusedSimpArgs false

/-- An act's step on the plain history. -/
def stepG (gs : List Gn) (k : Int) (q : Rv) (c v : Int) : List Gn := if k = 0 then putG gs q else if k = 1 then tombG gs q else if k = 2 then compactG gs q.1 else if k = 3 then restG gs q c v else tombG gs q
/-- What do leaves. -/
def DoR (w : World) (r : Nat) (F : Nat → Prop) (gs : List Gn) (b n : Nat) (a : Ac) (e : Ending) (w' : World) : Prop := ∃ (q : Rv) (last' : Int) (t : Bool) (F' : Nat → Prop) (n' : Nat), e = .returned (.tuple #[.int .i64 last', .bool t]) ∧
  Gs w' r F' (stepG gs a.k q a.c a.v) ∧ (∀ j, F' j → F j ∨ w.heap.size ≤ j) ∧ RF w' b b n' ∧ n' ≤ n + 1 ∧ Turned w w' (fun j => F j ∨ OfT b w j)
/-- Both calls of an act, one behind the other. -/
structure Two3 (w W : World) (r : Nat) (F : Nat → Prop) (gs' : List Gn) (b n : Nat) : Prop where
  out : ∃ (F' : Nat → Prop) (n' : Nat), Gs W r F' gs' ∧ (∀ j, F' j → F j ∨ w.heap.size ≤ j) ∧ RF W b b n' ∧ n' ≤ n + 1 ∧ Turned w W (fun j => F j ∨ OfT b w j)
theorem oft_back {b : Nat} {w W : World} {F : Nat → Prop} {j : Nat} (t : Turned w W F) (hj : j < w.heap.size) (hn : ¬ F j) (h : OfT b W j) : OfT b w j := by
  obtain ⟨hb, c, s, f, e, hs⟩ := h
  exact ⟨hb, c, s, f, by rw [← t.block j hj hn]; exact e, hs⟩
theorem TurnR.blk_ {b : Nat} {w w' : World} (t : TurnR b w w') {j : Nat} {s : TypeId} {cs : List Value} (h : Blk w j s cs) (h1 : s ≠ 118) (h2 : s ≠ 124) : Blk w' j s cs := Turned.blk t h (by
  rintro ⟨_, c, u, f, e, hu⟩
  rcases hu with rfl | rfl
  · exact ne_of_types (show w.heap[j]? = some _ from h) e h1 rfl
  · exact ne_of_types (show w.heap[j]? = some _ from h) e h2 rfl)
/-- First the one, then the document's. -/
theorem both_of {w W1 W2 W3 : World} {r : Nat} {F : Nat → Prop} {gs gs' : List Gn} {b n n' : Nat} (hb : Below w.heap.size w W1) (hg : Gs W1 r F gs) (hr : RF W1 b b n) (h1 : GLeft W1 r F gs' W2) (h2 : RF W3 b b n') (hn : n' ≤ n + 1) (h3 : TurnR b W2 W3) : Two3 w W3 r F gs' b n := by
  obtain ⟨F', k1, k2, k3⟩ := h1
  refine ⟨F', n', k1.after_r h3, fun j hj => (k2 j hj).imp id (fun e => Nat.le_trans hb.size e), h2, hn, ?_⟩
  refine ((Turned.of_below hb (fun j => F j ∨ OfT b w j)).chain (k3.mono (fun _ _ e => .inl e) : Turned W1 W2 (fun j => F j ∨ OfT b w j)) (fun j _ e => e)).chain h3 (fun j hj e => ?_)
  by_cases hF : F j
  · exact .inl hF
  · exact .inr (oft_back (Turned.of_below hb F) hj hF (oft_back k3 (Nat.lt_of_lt_of_le hj hb.size) hF e))
theorem Two3.later {w W W' : World} {r : Nat} {F : Nat → Prop} {gs' : List Gn} {b n : Nat} (h : Two3 w W r F gs' b n) (hb : Below W.heap.size W W') : Two3 w W' r F gs' b n := by
  obtain ⟨F', n', k1, k2, k3, k4, k5⟩ := h.out
  exact ⟨F', n', k1.below hb, k2, k3.below hb, k4, k5.trans (Turned.of_below hb _)⟩
end Go.Proofs.YtlckeebbjnhejaaGreat
end
