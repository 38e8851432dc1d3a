/-
  package gens: the last generation, the one that goes on, the last revision, what may come, what comes next.
-/
import Derived.Test.YthpaliagmnclfaaGe
import Derived.Test.YthpaliagmnclfaaDown
import Derived.BigQuiet
namespace Go.Proofs.Ythpaliagmnclfaa
open Go.ChangeShapes Go.WideShapes Go.ChangeAt Go.RowKit Go.Deep
set_option linter.unusedVariables false
set_option linter.unusedSimpArgs false

theorem last_nil {w : World} {r : Nat} {A : Option Addr} {k : Nat} {Ls : List GL} {gs : List Gn} (h : GsL w r A 0 k Ls gs) :
    Calls Try.prog 45 #[.pointer (some ⟨r, 0, none⟩)] w fun e w' => e = .returned (.pointer none) ∧ Below w.heap.size w w' := by
  have hb := h.box.cell 0
  clear h
  go_enter Try.func45, Try.ntmps45
  go_wp2
  go_ret
  exact ⟨rfl, Below.refl _ _⟩
theorem last_some {w : World} {r g : Nat} {n k : Nat} {Ls : List GL} {gs : List Gn} (h : GsL w r (some ⟨g, 0, none⟩) (n + 1) k Ls gs) (hn : n + 1 ≤ 1000000) :
    Calls Try.prog 45 #[.pointer (some ⟨r, 0, none⟩)] w fun e w' => e = .returned (.pointer (some ⟨g, n * 5, none⟩)) ∧ Below w.heap.size w w' := by
  have hb := h.box.cell 0
  clear h
  obtain ⟨m, hm⟩ : ∃ m : Int, (m = (n : Int) + 1) := ⟨_, rfl⟩
  have hb' : w.cell? ⟨r, 0, none⟩ = some (.slice (some ⟨g, 0, none⟩) (n + 1) k) := hb
  clear hb
  have hwr : wrap64 ((n : Int)) = (n : Int) := IntWalk.wrap64_in _ ⟨by omega, by omega⟩
  have hn0 : ((n : Int) + 1 == 0) = false := by simp; omega
  go_enter Try.func45, Try.ntmps45
  go_wp2
  go_quiet (fail)
  go_wp2
  go_returns
  exact ⟨rfl, ((Turned.refl _ (fun _ => False)).drewN _).below_⟩
/-- A history with its last generation told apart. -/
structure Last (w : World) (r g m k : Nat) (Li : List GL) (L : GL) (gi : List Gn) (x : Gn) : Prop where
  gs : GsL w r (some ⟨g, 0, none⟩) (m + 1) k (Li ++ [L]) (gi ++ [x])
  lm : Li.length = m
  gm : gi.length = m
  at_ : GlAt w L x
  c0 : w.cell? ⟨g, m * 5, none⟩ = some (.int .i64 L.c)
  c1 : w.cell? ⟨g, m * 5 + 1, none⟩ = some (.int .i64 L.v)
  c2 : w.cell? ⟨g, m * 5 + 2, none⟩ = some (.slice L.A L.n L.k)
  c3 : w.cell? ⟨g, m * 5 + 3, none⟩ = some (.int .i64 L.e.1)
  c4 : w.cell? ⟨g, m * 5 + 4, none⟩ = some (.int .i64 L.e.2)
theorem GsL.snoc {w : World} {r : Nat} {A : Option Addr} {n k : Nat} {Ls : List GL} {gs : List Gn} (h : GsL w r A n k Ls gs) :
    (n = 0 ∧ gs = [] ∧ Ls = []) ∨ ∃ g m Li L gi x, A = some ⟨g, 0, none⟩ ∧ n = m + 1 ∧ Ls = Li ++ [L] ∧ gs = gi ++ [x] ∧ Last w r g m k Li L gi x := by
  rcases Nat.eq_zero_or_pos n with h0 | h0
  · subst h0
    exact .inl ⟨rfl, List.eq_nil_of_length_eq_zero h.gn, List.eq_nil_of_length_eq_zero h.ln⟩
  · have hl := h.ln
    have hg := h.gn
    obtain ⟨m, rfl⟩ : ∃ m, n = m + 1 := ⟨n - 1, by omega⟩
    rcases List.eq_nil_or_concat Ls with e | ⟨Li, L, e⟩
    · rw [e] at hl; simp at hl
    rcases List.eq_nil_or_concat gs with e' | ⟨gi, x, e'⟩
    · rw [e'] at hg; simp at hg
    rw [List.concat_eq_append] at e e'
    subst e e'
    simp only [List.length_append, List.length_cons, List.length_nil] at hl hg
    obtain ⟨g, rfl, _, _, _, _, hc⟩ := gown_at h.own h0
    have hat := h.el m (by simp; omega) (by simp; omega)
    have e1 : (Li ++ [L])[m]'(by simp; omega) = L := by rw [List.getElem_append_right (by omega)]; simp
    have e2 : (gi ++ [x])[m]'(by simp; omega) = x := by rw [List.getElem_append_right (by omega)]; simp
    rw [e1, e2] at hat
    have hcc := fun j (hj : j < 5) => glC_at (Li ++ [L]) m (by simp; omega) j hj
    simp only [e1] at hcc
    exact .inr ⟨g, m, Li, L, gi, x, rfl, rfl, rfl, rfl, h, by omega, by omega, hat, hc _ _ (hcc 0 (by omega)), hc _ _ (hcc 1 (by omega)), hc _ _ (hcc 2 (by omega)), hc _ _ (hcc 3 (by omega)), hc _ _ (hcc 4 (by omega))⟩
theorem Last.below {w w' : World} {r g m k : Nat} {Li : List GL} {L : GL} {gi : List Gn} {x : Gn} (h : Last w r g m k Li L gi x) (hb : Below w.heap.size w w') : Last w' r g m k Li L gi x :=
  ⟨h.gs.below hb, h.lm, h.gm, h.at_.below hb, (Keeps.of_below hb).cell_ h.c0, (Keeps.of_below hb).cell_ h.c1, (Keeps.of_below hb).cell_ h.c2, (Keeps.of_below hb).cell_ h.c3, (Keeps.of_below hb).cell_ h.c4⟩
theorem going_nil {w : World} {r : Nat} {A : Option Addr} {k : Nat} {Ls : List GL} {gs : List Gn} (h : GsL w r A 0 k Ls gs) :
    Calls Try.prog 32 #[.pointer (some ⟨r, 0, none⟩)] w fun e w' => e = .returned (.pointer none) ∧ Below w.heap.size w w' := by
  have HL := kept (last_nil h)
  clear h
  go_enter Try.func32, Try.ntmps32
  go_wp2_with (first | (go_at_call 45; (with_reducible refine (HL.out).mono ?_); rintro e w1 ⟨rfl, hb⟩; have HB := kept hb; clear hb))
  go_ret
  exact ⟨rfl, HB.out⟩
theorem going_some {w : World} {r g m k : Nat} {Li : List GL} {L : GL} {gi : List Gn} {x : Gn} (h : Last w r g m k Li L gi x) (hn : m + 1 ≤ 1000000) :
    Calls Try.prog 32 #[.pointer (some ⟨r, 0, none⟩)] w fun e w' => e = .returned (if x.ended then .pointer none else .pointer (some ⟨g, m * 5, none⟩)) ∧ Below w.heap.size w w' := by
  have HL := kept (last_some h.gs hn)
  have HE := fun W => kept (ended_any L x h.at_.e W)
  simp only [GL.val] at HE
  have H := kept h
  clear h
  generalize x.ended = b at HE ⊢
  cases b
  all_goals
    go_enter Try.func32, Try.ntmps32
    go_wp2_with (first | (go_at_call 45; (with_reducible refine (HL.out).mono ?_); rintro e w1 ⟨rfl, hb⟩; have HB := kept hb; have hc := H.out.below hb; have c0 := hc.c0; have c1 := hc.c1; have c2 := hc.c2; have c3 := hc.c3; have c4 := hc.c4; clear hb hc) | (go_at_call 24; (with_reducible refine ((HE _).out).mono ?_); rintro e w2 ⟨rfl, hb⟩; have HB2 := kept (bel_to hb HB.out); clear hb))
    go_ret
    exact ⟨rfl, HB2.out⟩
end Go.Proofs.Ythpaliagmnclfaa
