/-
  The law's own helpers: an act's revision; an act done on both histories.
-/
import Derived.Test.YthpaliagmnclfaaGm
import Derived.Test.YthpaliagmnclfaaGr
import Derived.Test.YthpaliagmnclfaaGy
import Derived.Test.YthpaliagmnclfaaGz
namespace Go.Proofs.Ythpaliagmnclfaa
open Go.ChangeShapes Go.WideShapes Go.ChangeAt Go.RowKit Go.Deep
set_option linter.unusedVariables false
set_option linter.unusedSimpArgs false

theorem Gs.notT {w : World} {r : Nat} {F : Nat → Prop} {gs : List Gn} (h : Gs w r F gs) {b : Nat} {j : Nat} (hj : F j) : ¬ OfT b w j := by
  obtain ⟨A, n, k, Ls, h1, h2⟩ := h
  rintro ⟨_, cur, t, f, e, ht⟩
  have key : ∀ {cs : Array Value} {s : TypeId} {q : Nat × Nat}, w.heap[j]? = some (.cells cs s q) → s ≠ 46 → s ≠ 83 → False := fun h a b => by
    rcases ht with rfl | rfl
    · exact ne_of_types h e a rfl
    · exact ne_of_types h e b rfl
  rcases (h2 j).1 hj with rfl | hj | ⟨L, hL, hj⟩
  · exact key h1.box (by decide) (by decide)
  · obtain ⟨c, hc⟩ := gown_cl (k := 0) h1.own hj
    exact key hc (by decide) (by decide)
  · obtain ⟨c, hc⟩ := h1.row_cl hL hj
    exact key hc (by decide) (by decide)
theorem RF.after_g {w w' : World} {b n : Nat} {F : Nat → Prop} (h : RF w b n) (t : Turned w w' F) (hF : ∀ j, F j → ¬ OfT b w j) : RF w' b n := by
  obtain ⟨A, k, I, h1, h2, h3⟩ := h
  refine ⟨A, k, I, t.blk h1 (fun e => hF b e ⟨Nat.le_refl _, _, _, _, h1, .inl rfl⟩), gown_turned h2 t (fun j hj e => ?_), h3⟩
  obtain ⟨c, hc⟩ := gown_cl (k := 0) h2 hj
  exact hF j e ⟨(gown_lt h2 hj).1, _, _, _, hc, .inr rfl⟩
theorem Gs.after_r {w w' : World} {r : Nat} {F : Nat → Prop} {gs : List Gn} {b : Nat} (h : Gs w r F gs) (t : TurnR b w w') : Gs w' r F gs := h.turned t (fun j hj => h.notT hj)
/-- An act, as it lies. -/
structure Ac where
  k : Int
  nx : Bool
  m : Int
  s : Int
  c : Int
  v : Int
def Ac.cells (a : Ac) : List Value := [.int .i64 a.k, .bool a.nx, .int .i64 a.m, .int .i64 a.s, .int .i64 a.c, .int .i64 a.v]
abbrev acV (a : Ac) : Value := .agg #[.int .i64 a.k, .bool a.nx, .int .i64 a.m, .int .i64 a.s, .int .i64 a.c, .int .i64 a.v]
def ActR (w : World) (e : Ending) (w' : World) : Prop := ∃ q : Rv, e = .returned (.agg #[.int .i64 q.1, .int .i64 q.2]) ∧ Below w.heap.size w w'
theorem actrev_any (a : Ac) (last : Int) (w : World) :
    Calls Try.prog 25 #[acV a, .int .i64 last] w (ActR w) := by
  obtain ⟨k, nx, m, s, c, v⟩ := a
  cases nx
  · have hx := two_new (w.alloc (.cells #[.int .i64 k, .bool false, .int .i64 m, .int .i64 s, .int .i64 c, .int .i64 v] 39)) 29 (m) (s)
    rw [World.size_alloc] at hx
    have hB := ((Below.refl w.heap.size w).alloc (Nat.le_refl _) (.cells #[.int .i64 k, .bool false, .int .i64 m, .int .i64 s, .int .i64 c, .int .i64 v] 39)).alloc (by simp) (.cells #[.int .i64 (m), .int .i64 (s)] 29)
    have HX := kept (And.intro hx hB)
    clear hx hB
    go_enter Try.func25, Try.ntmps25
    go_wp2
    generalize (w.alloc (.cells #[.int .i64 k, .bool false, .int .i64 m, .int .i64 s, .int .i64 c, .int .i64 v] 39)).alloc (.cells #[.int .i64 (m), .int .i64 (s)] 29) = X at HX ⊢
    obtain ⟨⟨v0, v1⟩, hB⟩ := HX.out
    exact bodyPost_ret (v := .agg #[.int .i64 (m), .int .i64 (s)]) (by simp [results, Try.results25, go_sem, v0, v1]) rfl ⟨(m, s), rfl, hB⟩
  · have hx := two_new (w.alloc (.cells #[.int .i64 k, .bool true, .int .i64 m, .int .i64 s, .int .i64 c, .int .i64 v] 39)) 29 (wrap64 (last + bits BinOp.and IntKind.i64 m 3)) (bits BinOp.and IntKind.i64 s 7)
    rw [World.size_alloc] at hx
    have hB := ((Below.refl w.heap.size w).alloc (Nat.le_refl _) (.cells #[.int .i64 k, .bool true, .int .i64 m, .int .i64 s, .int .i64 c, .int .i64 v] 39)).alloc (by simp) (.cells #[.int .i64 (wrap64 (last + bits BinOp.and IntKind.i64 m 3)), .int .i64 (bits BinOp.and IntKind.i64 s 7)] 29)
    have HX := kept (And.intro hx hB)
    clear hx hB
    go_enter Try.func25, Try.ntmps25
    go_wp2
    generalize (w.alloc (.cells #[.int .i64 k, .bool true, .int .i64 m, .int .i64 s, .int .i64 c, .int .i64 v] 39)).alloc (.cells #[.int .i64 (wrap64 (last + bits BinOp.and IntKind.i64 m 3)), .int .i64 (bits BinOp.and IntKind.i64 s 7)] 29) = X at HX ⊢
    obtain ⟨⟨v0, v1⟩, hB⟩ := HX.out
    exact bodyPost_ret (v := .agg #[.int .i64 (wrap64 (last + bits BinOp.and IntKind.i64 m 3)), .int .i64 (bits BinOp.and IntKind.i64 s 7)]) (by simp [results, Try.results25, go_sem, v0, v1]) rfl ⟨(wrap64 (last + bits BinOp.and IntKind.i64 m 3), bits BinOp.and IntKind.i64 s 7), rfl, hB⟩
end Go.Proofs.Ythpaliagmnclfaa
