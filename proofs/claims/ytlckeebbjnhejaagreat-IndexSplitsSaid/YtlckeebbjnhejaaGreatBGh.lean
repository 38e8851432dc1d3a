/-
  Texts laid together: Gh Gi Gj Gw Gs Gk Gl.
-/
import Derived.Test.YtlckeebbjnhejaaGreatBGc
import Derived.Test.YtlckeebbjnhejaaGreatBDown
import Derived.BigQuiet
import Derived.Test.YtlckeebbjnhejaaGreatBHnd
section
/-
  package gens: the last generation, the one that goes on, the last revision, what may come, what comes next.
-/
namespace Go.Proofs.YtlckeebbjnhejaaGreat
open Go.ChangeShapes Go.WideShapes Go.ChangeAt Go.RowKit Go.Deep
set_option linter.unusedVariables false
set_option linter.unusedSimpArgs false

theorem last_nil {w : World} {r : Nat} {A : Option Addr} {k : Nat} {Ls : List GL} {gs : List Gn} (h : GsL w r A 0 k Ls gs) :
    Calls Tryz.prog 119 #[.pointer (some ⟨r, 0, none⟩)] w fun e w' => e = .returned (.pointer none) ∧ Below w.heap.size w w' := by
  have hb := h.box.cell 0
  clear h
  go_enter Tryz.func119, Tryz.ntmps119
  go_wp2
  go_ret
  exact ⟨rfl, Below.refl _ _⟩
theorem last_some {w : World} {r g : Nat} {n k : Nat} {Ls : List GL} {gs : List Gn} (h : GsL w r (some ⟨g, 0, none⟩) (n + 1) k Ls gs) (hn : n + 1 ≤ 1000000) :
    Calls Tryz.prog 119 #[.pointer (some ⟨r, 0, none⟩)] w fun e w' => e = .returned (.pointer (some ⟨g, n * 5, none⟩)) ∧ Below w.heap.size w w' := by
  have hb := h.box.cell 0
  clear h
  obtain ⟨m, hm⟩ : ∃ m : Int, (m = (n : Int) + 1) := ⟨_, rfl⟩
  have hb' : w.cell? ⟨r, 0, none⟩ = some (.slice (some ⟨g, 0, none⟩) (n + 1) k) := hb
  clear hb
  have hwr : wrap64 ((n : Int)) = (n : Int) := IntWalk.wrap64_in _ ⟨by omega, by omega⟩
  have hn0 : ((n : Int) + 1 == 0) = false := by simp; omega
  go_enter Tryz.func119, Tryz.ntmps119
  go_wp2
  go_quiet (fail)
  go_wp2
  go_returns
  exact ⟨rfl, ((Turned.refl _ (fun _ => False)).drewN _).below_⟩
/-- A history with its last generation told apart. -/
structure Last (w : World) (r g m k : Nat) (Li : List GL) (L : GL) (gi : List Gn) (x : Gn) : Prop where
  gs : GsL w r (some ⟨g, 0, none⟩) (m + 1) k (Li ++ [L]) (gi ++ [x])
  lm : Li.length = m
  gm : gi.length = m
  at_ : GlAt w L x
  c0 : w.cell? ⟨g, m * 5, none⟩ = some (.int .i64 L.c)
  c1 : w.cell? ⟨g, m * 5 + 1, none⟩ = some (.int .i64 L.v)
  c2 : w.cell? ⟨g, m * 5 + 2, none⟩ = some (.slice L.A L.n L.k)
  c3 : w.cell? ⟨g, m * 5 + 3, none⟩ = some (.int .i64 L.e.1)
  c4 : w.cell? ⟨g, m * 5 + 4, none⟩ = some (.int .i64 L.e.2)
theorem GsL.snoc {w : World} {r : Nat} {A : Option Addr} {n k : Nat} {Ls : List GL} {gs : List Gn} (h : GsL w r A n k Ls gs) :
    (n = 0 ∧ gs = [] ∧ Ls = []) ∨ ∃ g m Li L gi x, A = some ⟨g, 0, none⟩ ∧ n = m + 1 ∧ Ls = Li ++ [L] ∧ gs = gi ++ [x] ∧ Last w r g m k Li L gi x := by
  rcases Nat.eq_zero_or_pos n with h0 | h0
  · subst h0
    exact .inl ⟨rfl, List.eq_nil_of_length_eq_zero h.gn, List.eq_nil_of_length_eq_zero h.ln⟩
  · have hl := h.ln
    have hg := h.gn
    obtain ⟨m, rfl⟩ : ∃ m, n = m + 1 := ⟨n - 1, by omega⟩
    rcases List.eq_nil_or_concat Ls with e | ⟨Li, L, e⟩
    · rw [e] at hl; simp at hl
    rcases List.eq_nil_or_concat gs with e' | ⟨gi, x, e'⟩
    · rw [e'] at hg; simp at hg
    rw [List.concat_eq_append] at e e'
    subst e e'
    simp only [List.length_append, List.length_cons, List.length_nil] at hl hg
    obtain ⟨g, rfl, _, _, _, _, hc⟩ := gown_at h.own h0
    have hat := h.el m (by simp; omega) (by simp; omega)
    have e1 : (Li ++ [L])[m]'(by simp; omega) = L := by rw [List.getElem_append_right (by omega)]; simp
    have e2 : (gi ++ [x])[m]'(by simp; omega) = x := by rw [List.getElem_append_right (by omega)]; simp
    rw [e1, e2] at hat
    have hcc := fun j (hj : j < 5) => glC_at (Li ++ [L]) m (by simp; omega) j hj
    simp only [e1] at hcc
    exact .inr ⟨g, m, Li, L, gi, x, rfl, rfl, rfl, rfl, h, by omega, by omega, hat, hc _ _ (hcc 0 (by omega)), hc _ _ (hcc 1 (by omega)), hc _ _ (hcc 2 (by omega)), hc _ _ (hcc 3 (by omega)), hc _ _ (hcc 4 (by omega))⟩
theorem Last.below {w w' : World} {r g m k : Nat} {Li : List GL} {L : GL} {gi : List Gn} {x : Gn} (h : Last w r g m k Li L gi x) (hb : Below w.heap.size w w') : Last w' r g m k Li L gi x :=
  ⟨h.gs.below hb, h.lm, h.gm, h.at_.below hb, (Keeps.of_below hb).cell_ h.c0, (Keeps.of_below hb).cell_ h.c1, (Keeps.of_below hb).cell_ h.c2, (Keeps.of_below hb).cell_ h.c3, (Keeps.of_below hb).cell_ h.c4⟩
theorem going_nil {w : World} {r : Nat} {A : Option Addr} {k : Nat} {Ls : List GL} {gs : List Gn} (h : GsL w r A 0 k Ls gs) :
    Calls Tryz.prog 85 #[.pointer (some ⟨r, 0, none⟩)] w fun e w' => e = .returned (.pointer none) ∧ Below w.heap.size w w' := by
  have HL := kept (last_nil h)
  clear h
  go_enter Tryz.func85, Tryz.ntmps85
  go_wp2_with (first | (go_at_call 119; (with_reducible refine (HL.out).mono ?_); rintro e w1 ⟨rfl, hb⟩; have HB := kept hb; clear hb))
  go_ret
  exact ⟨rfl, HB.out⟩
theorem going_some {w : World} {r g m k : Nat} {Li : List GL} {L : GL} {gi : List Gn} {x : Gn} (h : Last w r g m k Li L gi x) (hn : m + 1 ≤ 1000000) :
    Calls Tryz.prog 85 #[.pointer (some ⟨r, 0, none⟩)] w fun e w' => e = .returned (if x.ended then .pointer none else .pointer (some ⟨g, m * 5, none⟩)) ∧ Below w.heap.size w w' := by
  have HL := kept (last_some h.gs hn)
  have HE := fun W => kept (ended_any L x h.at_.e W)
  simp only [GL.val] at HE
  have H := kept h
  clear h
  generalize x.ended = b at HE ⊢
  cases b
  all_goals
    go_enter Tryz.func85, Tryz.ntmps85
    go_wp2_with (first | (go_at_call 119; (with_reducible refine (HL.out).mono ?_); rintro e w1 ⟨rfl, hb⟩; have HB := kept hb; have hc := H.out.below hb; have c0 := hc.c0; have c1 := hc.c1; have c2 := hc.c2; have c3 := hc.c3; have c4 := hc.c4; clear hb hc) | (go_at_call 78; (with_reducible refine ((HE _).out).mono ?_); rintro e w2 ⟨rfl, hb⟩; have HB2 := kept (bel_to hb HB.out); clear hb))
    go_ret
    exact ⟨rfl, HB2.out⟩
end Go.Proofs.YtlckeebbjnhejaaGreat
end

section
/-
  package gens: the last revision of all, what may come, what comes next.
-/
namespace Go.Proofs.YtlckeebbjnhejaaGreat
open Go.ChangeShapes Go.WideShapes Go.ChangeAt Go.RowKit Go.Deep
set_option linter.unusedVariables false
set_option linter.unusedSimpArgs false

theorem newest_last (gi : List Gn) {x : Gn} (h : x.ps ≠ []) : newestG (gi ++ [x]) = x.revs.getLastD (0, 0) := by
  unfold newestG
  rw [flat_snoc]
  have hx : x.revs ≠ [] := by
    unfold Gn.revs
    intro e
    exact h (List.append_eq_nil_iff.1 e).1
  rw [List.getLastD_eq_getLast?, List.getLastD_eq_getLast?, List.getLast?_append]
  cases hv : x.revs.getLast? with
  | none => exact absurd (List.getLast?_eq_none_iff.1 hv) hx
  | some y => simp
theorem gnewest_any {w : World} {r : Nat} {A : Option Addr} {n k : Nat} {Ls : List GL} {gs : List Gn} (h : GsL w r A n k Ls gs) (hi : GInv gs) {N : Nat} (hN : BdG gs N) (hn : N ≤ 1000000) :
    Calls Tryz.prog 118 #[.pointer (some ⟨r, 0, none⟩)] w fun e w' => e = .returned (.agg #[.int .i64 (newestG gs).1, .int .i64 (newestG gs).2]) ∧ Below w.heap.size w w' := by
  have hgn := h.gn
  have hB0 := (Below.refl w.heap.size w).alloc (Nat.le_refl _) (.cells #[.int .i64 0, .int .i64 0] 29)
  have HB0 := kept hB0
  have HK0 := kept (Blk.new w 29 #[.int .i64 0, .int .i64 0])
  have h0 := h.below hB0
  clear hB0 h
  rcases h0.snoc with ⟨rfl, rfl, rfl⟩ | ⟨g, m, Li, L, gi, x, rfl, rfl, rfl, rfl, hl⟩
  · have HL := kept (last_nil h0)
    clear h0
    show Calls _ _ _ _ fun e w' => e = .returned (.agg #[.int .i64 0, .int .i64 0]) ∧ Below w.heap.size w w'
    go_enter Tryz.func118, Tryz.ntmps118
    go_wp2_with fail
    generalize w.alloc (.cells #[.int .i64 0, .int .i64 0] 29) = W0 at HB0 HK0 HL ⊢
    with_reducible refine HL.out.mono ?_
    rintro e w1 ⟨rfl, hb⟩
    have hk := HK0.out.below hb HK0.out.lt
    have q0 : w1.cell? ⟨w.heap.size, 0, none⟩ = some (.int .i64 0) := hk.cell 0
    have q1 : w1.cell? ⟨w.heap.size, 1, none⟩ = some (.int .i64 0) := hk.cell 1
    have f0 := hk.frozen 0
    have f1 := hk.frozen 1
    have HB1 := kept (bel_to hb HB0.out)
    have HK1 := kept hk
    clear hb hk
    go_wp2
    have hx2 := gstore2 HK1.out HB1.out (Nat.le_refl _) (.int .i64 0) (.int .i64 0)
    generalize (w1.setCell ⟨w.heap.size, 0, none⟩ (.int .i64 0)).setCell ⟨w.heap.size, 1, none⟩ (.int .i64 0) = X at hx2 ⊢
    obtain ⟨⟨v0, v1⟩, hbx⟩ := hx2
    exact bodyPost_ret (v := .agg #[.int .i64 0, .int .i64 0]) (by simp [results, Tryz.results118, go_sem, v0, v1]) rfl ⟨rfl, hbx⟩
  · have hN1 := hN.1
    rw [hgn] at hN1
    have hxm : x ∈ gi ++ [x] := by simp
    have hxp := hi.ne x hxm
    have hxN := hN.2 x hxm
    have HL := kept (last_some h0 (by omega))
    rw [newest_last gi hxp]
    have HX := fun W (hb : RdR W L.A L.n x.ps) => kept (newestx_any L x hl.at_.e hl.at_.n W hb (by rw [hl.at_.n]; omega) hxp)
    simp only [GL.val] at HX
    generalize x.revs.getLastD (0, 0) = z at HX ⊢
    have HLL := kept hl
    clear h0 hl hxp hxm hxN hN1 hN hi hgn
    go_enter Tryz.func118, Tryz.ntmps118
    go_wp2_with fail
    generalize w.alloc (.cells #[.int .i64 0, .int .i64 0] 29) = W0 at HB0 HK0 HL HLL ⊢
    with_reducible refine HL.out.mono ?_
    rintro e w1 ⟨rfl, hb⟩
    have hl1 := HLL.out.below hb
    have c0 := hl1.c0
    have c1 := hl1.c1
    have c2 := hl1.c2
    have c3 := hl1.c3
    have c4 := hl1.c4
    have HX1 := kept (HX w1 (RdR.of_own hl1.at_.own)).out
    have hk := HK0.out.below hb HK0.out.lt
    have HB1 := kept (bel_to hb HB0.out)
    have HK1 := kept hk
    clear hb hk hl1
    go_wp2_with fail
    with_reducible refine HX1.out.mono ?_
    rintro e w2 ⟨rfl, hb⟩
    have hk := HK1.out.below hb HK1.out.lt
    have q0 : w2.cell? ⟨w.heap.size, 0, none⟩ = some (.int .i64 0) := hk.cell 0
    have q1 : w2.cell? ⟨w.heap.size, 1, none⟩ = some (.int .i64 0) := hk.cell 1
    have f0 := hk.frozen 0
    have f1 := hk.frozen 1
    have HB2 := kept (bel_to hb HB1.out)
    have HK2 := kept hk
    clear hb hk
    go_wp2
    have hx2 := gstore2 HK2.out HB2.out (Nat.le_refl _) (.int .i64 z.1) (.int .i64 z.2)
    generalize (w2.setCell ⟨w.heap.size, 0, none⟩ (.int .i64 z.1)).setCell ⟨w.heap.size, 1, none⟩ (.int .i64 z.2) = X at hx2 ⊢
    obtain ⟨⟨v0, v1⟩, hbx⟩ := hx2
    exact bodyPost_ret (v := .agg #[.int .i64 z.1, .int .i64 z.2]) (by simp [results, Tryz.results118, go_sem, v0, v1]) rfl ⟨rfl, hbx⟩
/-- May a change of this revision come? -/
def mcG (gs : List Gn) (q : Rv) : Int := if rightR q.1 q.2 = true then (if ltR (newestG gs) q = true then 0 else 8) else 2
theorem mayCome_any {w : World} {r : Nat} {A : Option Addr} {n k : Nat} {Ls : List GL} {gs : List Gn} (h : GsL w r A n k Ls gs) (hi : GInv gs) {N : Nat} (hN : BdG gs N) (hn : N ≤ 1000000) (q : Rv) :
    Calls Tryz.prog 82 #[.pointer (some ⟨r, 0, none⟩), .agg #[.int .i64 q.1, .int .i64 q.2]] w fun e w' => e = .returned (.int .i64 (mcG gs q)) ∧ Below w.heap.size w w' := by
  have hB0 := (Below.refl w.heap.size w).alloc (Nat.le_refl _) (.cells #[.int .i64 q.1, .int .i64 q.2] 29)
  have HT := kept (two_new w 29 q.1 q.2)
  obtain ⟨t0, t1⟩ := HT.out
  have HR := kept (right_r q.1 q.2 (w.alloc (.cells #[.int .i64 q.1, .int .i64 q.2] 29)))
  have H := kept (h.below hB0)
  have HB := kept hB0
  have HNW := fun W (hg : GsL W r A n k Ls gs) => kept (gnewest_any hg hi hN hn)
  have HC := fun W => kept (cmp_pair q (newestG gs) W)
  have hle := le_of_ordR (a := q) (b := newestG gs)
  clear hB0 h hi hN
  unfold mcG
  generalize newestG gs = z at HNW HC hle ⊢
  generalize ordR q.1 q.2 z.1 z.2 = o at HC hle
  generalize ltR z q = lt at hle ⊢
  cases hr : rightR q.1 q.2
  · rw [hr] at HR
    go_enter Tryz.func82, Tryz.ntmps82
    go_wp2_with (first | (go_at_call 104; (with_reducible refine (HR.out).mono ?_); rintro e w1 ⟨rfl, hb⟩; have HB1 := kept (bel_to hb HB.out); clear hb))
    go_ret
    exact ⟨rfl, HB1.out⟩
  · rw [hr] at HR
    have hle' : decide (o ≤ 0) = !lt := hle
    cases lt
    all_goals
      simp only [Bool.not_true, Bool.not_false] at hle'
      go_enter Tryz.func82, Tryz.ntmps82
      go_wp2_with fail
      with_reducible refine HR.out.mono ?_
      rintro e w1 ⟨rfl, hb⟩
      have HB1 := kept (bel_to hb HB.out)
      have HS0 := kept (show (fun W' : World => W'.cell? ⟨w.heap.size, 0, none⟩ = some (.int .i64 q.1) ∧ W'.cell? ⟨w.heap.size, 1, none⟩ = some (.int .i64 q.2)) w1.drew from ⟨(Keeps.of_below hb).cell_ HT.out.1, (Keeps.of_below hb).cell_ HT.out.2⟩)
      have H1 := kept (H.out.below hb)
      have hbd : Below w1.heap.size w1 w1.drew := (Below.refl _ _).drew
      have HN1 := HNW w1.drew (H1.out.below hbd)
      have HBD := kept hbd
      clear hb hbd t0 t1
      go_wp2
      refine wp_region_held_drew (S := (fun W' => W'.cell? ⟨w.heap.size, 0, none⟩ = some (.int .i64 q.1) ∧ W'.cell? ⟨w.heap.size, 1, none⟩ = some (.int .i64 q.2))) (by kernel_rfl) ?_ (fun hHeld => ?_)
      · ((try dsimp only); (first | with_reducible exact HS0.out | with_reducible exact HS1.out | with_reducible exact HS2.out))
      refine hand_take 0 (some 13) ?_ (by kernel_rfl) (by kernel_rfl) (by kernel_rfl) (by kernel_rfl) (by kernel_rfl) (fun _ _ _ h => h) ?_ (by assumption) ?_
      rotate_left
      · (intro o ho w hSw; (simp only [List.getElem?_toArray, List.getElem?_cons_succ, List.getElem?_cons_zero, Option.some.injEq] at ho); subst ho; (try dsimp only at hSw); go_simp; (first | done | with_reducible rfl))
      (try simp only [Act.put, List.setIfInBounds_toArray, List.set_cons_zero, List.set_cons_succ])
      refine hand_take 1 (some 14) ?_ (by kernel_rfl) (by kernel_rfl) (by kernel_rfl) (by kernel_rfl) (by kernel_rfl) (fun _ _ _ h => h) ?_ (by assumption) ?_
      rotate_left
      · (intro o ho w hSw; (simp only [List.getElem?_toArray, List.getElem?_cons_succ, List.getElem?_cons_zero, Option.some.injEq] at ho); subst ho; (try dsimp only at hSw); go_simp; (first | done | with_reducible rfl))
      (try simp only [Act.put, List.setIfInBounds_toArray, List.set_cons_zero, List.set_cons_succ])
      refine hand_ready 2 (by kernel_rfl) (by kernel_rfl) (fun o ho K hK => ?_)
      (simp only [List.getElem?_toArray, List.getElem?_cons_succ, List.getElem?_cons_zero, Option.some.injEq] at ho)
      subst ho
      go_simp
      (go_at_call 118; (with_reducible refine HN1.out.mono ?_); rintro e w2 ⟨rfl, hb⟩; have HS1 := kept (show (fun W' : World => W'.cell? ⟨w.heap.size, 0, none⟩ = some (.int .i64 q.1) ∧ W'.cell? ⟨w.heap.size, 1, none⟩ = some (.int .i64 q.2)) w2 from ⟨(Keeps.of_below hb).cell_ HS0.out.1, (Keeps.of_below hb).cell_ HS0.out.2⟩); have HB2 := kept (bel_to hb HB1.out.drew); clear hb)
      (try go_wp2_with fail)
      refine hK.out _ _ ?_ (fun hHeld => ?_)
      · ((try dsimp only); (first | with_reducible exact HS0.out | with_reducible exact HS1.out | with_reducible exact HS2.out))
      clear hK K
      (try simp only [Act.put, List.setIfInBounds_toArray, List.set_cons_zero, List.set_cons_succ])
      refine hand_ready 3 (by kernel_rfl) (by kernel_rfl) (fun o ho K hK => ?_)
      (simp only [List.getElem?_toArray, List.getElem?_cons_succ, List.getElem?_cons_zero, Option.some.injEq] at ho)
      subst ho
      go_simp
      (go_at_call 32; (with_reducible refine (HC _).out.mono ?_); rintro e w3 ⟨rfl, hb⟩; have HS2 := kept (show (fun W' : World => W'.cell? ⟨w.heap.size, 0, none⟩ = some (.int .i64 q.1) ∧ W'.cell? ⟨w.heap.size, 1, none⟩ = some (.int .i64 q.2)) w3 from ⟨(Keeps.of_below hb).cell_ HS1.out.1, (Keeps.of_below hb).cell_ HS1.out.2⟩); have HB3 := kept (bel_to hb HB2.out); clear hb)
      (try go_wp2_with fail)
      refine hK.out _ _ ?_ (fun hHeld => ?_)
      · ((try dsimp only); (first | with_reducible exact HS0.out | with_reducible exact HS1.out | with_reducible exact HS2.out))
      clear hK K
      (try simp only [Act.put, List.setIfInBounds_toArray, List.set_cons_zero, List.set_cons_succ])
      refine hand_take 4 (some 17) ?_ (by kernel_rfl) (by kernel_rfl) (by kernel_rfl) (by kernel_rfl) (by kernel_rfl) (fun _ _ _ h => h) ?_ (by assumption) ?_
      rotate_left
      · (intro o ho w hSw; (simp only [List.getElem?_toArray, List.getElem?_cons_succ, List.getElem?_cons_zero, Option.some.injEq] at ho); subst ho; (try dsimp only at hSw); go_simp; (first | done | with_reducible rfl))
      (try simp only [Act.put, List.setIfInBounds_toArray, List.set_cons_zero, List.set_cons_succ])
      refine hand_take 5 (some 12) ?_ (by kernel_rfl) (by kernel_rfl) (by kernel_rfl) (by kernel_rfl) (by kernel_rfl) (fun _ _ _ h => h) ?_ (by assumption) ?_
      rotate_left
      · (intro o ho w hSw; (simp only [List.getElem?_toArray, List.getElem?_cons_succ, List.getElem?_cons_zero, Option.some.injEq] at ho); subst ho; (try dsimp only at hSw); go_simp; (first | done | with_reducible rfl))
      (try simp only [Act.put, List.setIfInBounds_toArray, List.set_cons_zero, List.set_cons_succ])
      refine wpAnyH_done (by kernel_rfl) ?_ _
      clear hHeld
      go_wp2
      go_ret
      exact ⟨rfl, HB3.out⟩
end Go.Proofs.YtlckeebbjnhejaaGreat
end

section
/-
  package gens: what comes next, and a put that comes.
-/
namespace Go.Proofs.YtlckeebbjnhejaaGreat
open Go.ChangeShapes Go.WideShapes Go.ChangeAt Go.RowKit Go.Deep
set_option linter.unusedVariables false
set_option linter.unusedSimpArgs false

/-- append onto an own row, whatever it holds: what it leaves, and what has turned. -/
theorem run_append_g {P : Program} {w : World} (t ty e : TypeId) {z : Value} {sz bytes : Nat} {base n c : Nat} {xs : List Value} {A : Option Addr} {m k : Nat} {ys : List Value}
    (ht : P.underlying t = some (.slice e)) (hinfo : (P.info? e).map (fun i => (i.zero, i.size, i.bytes)) = some (some z, sz, bytes)) (hzs : z.cells.size = sz) (h0s : 0 < sz) (hb : bytes ≤ 1000)
    (hown : w.ownsRow base e sz (.slice A n c) n xs) (ad : Addr) (hl : ys.length = m * sz) (hnews : ∀ j u, ys[j]? = some u → w.cell? (ad.add j) = some u) (h1 : ∀ u ∈ ys, u.oneCell' = true) (hm : n + m ≤ 3000000) (hbase : base ≤ w.heap.size) (h0 : 0 ≤ n + m) :
    ∃ A' c' w', (Builtin.append_ #[t, t] ty #[.slice A n c, .slice (some ad) m k]).run P w = .ok (.slice A' (n + m) c') w' ∧ w'.ownsRow base e sz (.slice A' (n + m) c') (n + m) (xs ++ ys) ∧ w.grownBy w' (Value.slice A n c).ownBlock ∧ ((Value.slice A' (n + m) c').ownBlock = (Value.slice A n c).ownBlock ∨ (Value.slice A' (n + m) c').ownBlock = some w.heap.size) := by
  obtain ⟨i, hi, hz, hsz, hby⟩ := info_parts hinfo
  have hbb : (n + m) * bytes ≤ 140737488355328 := Nat.le_trans (Nat.mul_le_mul hm hb) (by decide)
  obtain ⟨v', w', hrun, hown', hgrow, _, hloc⟩ := run_append_own_at (P := P) w base t ty e i z sz bytes ht hi hz hsz hby hzs h0s _ n xs hown ad m k ys hl hnews h1 (by unfold maxLen; omega) hbb hbase
  have hv : ∃ A' c', v' = .slice A' (n + m) c' := by
    rcases hown'.2 with ⟨rfl, h⟩ | ⟨g, cap, cur, rfl, _⟩
    · exact ⟨none, 0, by rw [h]⟩
    · exact ⟨_, _, rfl⟩
  obtain ⟨A', c', rfl⟩ := hv
  exact ⟨A', c', w', hrun, hown', hgrow, hloc⟩
theorem wp_append_g {P : Program} {w : World} {o : Oper} {a : Act} {K : Act → World → Prop} {Q : Exit → Act → World → Prop} (s x : Operand) (t : TypeId) (ho : o.op = .call { callee := .builtin .append, args := #[s, x], argTypes := #[t, t] }) (e : TypeId) {z : Value} {sz bytes : Nat} {base n c : Nat} {xs : List Value} {A : Option Addr} {m k : Nat} {ys : List Value}
    (ad : Addr) (hs : a.eval s = .slice A n c) (hx : a.eval x = .slice (some ad) m k) (ht : P.underlying t = some (.slice e)) (hinfo : (P.info? e).map (fun i => (i.zero, i.size, i.bytes)) = some (some z, sz, bytes)) (hzs : z.cells.size = sz) (h0s : 0 < sz) (hb : bytes ≤ 1000)
    (hown : w.ownsRow base e sz (.slice A n c) n xs) (hl : ys.length = m * sz) (hnews : ∀ j u, ys[j]? = some u → w.cell? (ad.add j) = some u) (h1 : ∀ u ∈ ys, u.oneCell' = true) (hm : n + m ≤ 3000000) (hbase : base ≤ w.heap.size) (h0 : 0 ≤ n + m)
    (h : ∀ A' c' w', w'.ownsRow base e sz (.slice A' (n + m) c') (n + m) (xs ++ ys) → w.grownBy w' (Value.slice A n c).ownBlock → ((Value.slice A' (n + m) c').ownBlock = (Value.slice A n c).ownBlock ∨ (Value.slice A' (n + m) c').ownBlock = some w.heap.size) → K (a.put o.dst (.slice A' (n + m) c')) w') : o.wp P a w K Q := by
  obtain ⟨A', c', w', hrun, h2, h3, h4⟩ := run_append_g (P := P) (k := k) t o.type e ht hinfo hzs h0s hb hown ad hl hnews h1 hm hbase h0
  unfold Oper.wp execOp
  simp only [ho, resolve, invoke, builtin, Sem.run_bind, Sem.run_pure, Result.andThen_ok, List.map_toArray, List.map_cons, List.map_nil, hs, hx, hrun]
  exact h A' c' w' h2 h3 h4
theorem wpList_append_g {P : Program} {w : World} {ops : Array Oper} {rest : List Oper} {o : Oper} {a : Act} {Q : Exit → Act → World → Prop} (hgd : o.guard = none) (s x : Operand) (t : TypeId) (ho : o.op = .call { callee := .builtin .append, args := #[s, x], argTypes := #[t, t] }) (e : TypeId) {z : Value} {sz bytes : Nat} {base n c : Nat} {xs : List Value} {A : Option Addr} {m k : Nat} {ys : List Value}
    (ad : Addr) (hs : a.eval s = .slice A n c) (hx : a.eval x = .slice (some ad) m k) (ht : P.underlying t = some (.slice e)) (hinfo : (P.info? e).map (fun i => (i.zero, i.size, i.bytes)) = some (some z, sz, bytes)) (hzs : z.cells.size = sz) (h0s : 0 < sz) (hb : bytes ≤ 1000)
    (hown : w.ownsRow base e sz (.slice A n c) n xs) (hl : ys.length = m * sz) (hnews : ∀ j u, ys[j]? = some u → w.cell? (ad.add j) = some u) (h1 : ∀ u ∈ ys, u.oneCell' = true) (hm : n + m ≤ 3000000) (hbase : base ≤ w.heap.size)
    (h : ∀ A' c' w', w'.ownsRow base e sz (.slice A' (n + m) c') (n + m) (xs ++ ys) → w.grownBy w' (Value.slice A n c).ownBlock → ((Value.slice A' (n + m) c').ownBlock = (Value.slice A n c).ownBlock ∨ (Value.slice A' (n + m) c').ownBlock = some w.heap.size) → wpList P ops Q rest (a.put o.dst (.slice A' (n + m) c')) w') : wpList P ops Q (o :: rest) a w :=
  wpList_plain hgd fun _ hK => wp_append_g s x t ho e ad hs hx ht hinfo hzs h0s hb hown hl hnews h1 hm hbase (Nat.zero_le _) fun A' c' w' a1 a2 a3 => hK _ _ (h A' c' w' a1 a2 a3)
theorem revinfo : (Tryz.prog.info? 29).map (fun i => (i.zero, i.size, i.bytes)) = some (some (.agg #[.int .i64 0, .int .i64 0]), 2, 16) := by kernel_rfl
theorem geninfo : (Tryz.prog.info? 99).map (fun i => (i.zero, i.size, i.bytes)) = some (some (.agg #[.int .i64 0, .int .i64 0, .slice none 0 0, .int .i64 0, .int .i64 0]), 5, 56) := by kernel_rfl

/-- Create and version of a put that comes next. -/
def nextG (gs : List Gn) (q : Rv) : Int × Int := match gs.getLast? with
  | some x => if x.ended then (q.1, 1) else (x.c, wrap64 (x.v + (x.ps.length : Int)))
  | none => (q.1, 1)
theorem gcell_far {W : World} {b : Nat} {p p' : Addr} (u : Value) (hb : p.block = b) (h : p'.block ≠ b) : (W.setCell p u).cell? p' = W.cell? p' := World.cell?_of_block (Below.heap_setCell W p u _ (by rw [hb]; exact fun e => h e))
theorem gstore4 {B : Nat} {w W : World} {b : Nat} {t : TypeId} {x0 x1 x2 x3 : Value} (hq : Blk W b t [x0, x1, x2, x3]) (hb : Below B w W) (hB : B ≤ b) (u0 u1 u2 u3 : Value) :
    Blk ((((W.setCell ⟨b, 0, none⟩ u0).setCell ⟨b, 1, none⟩ u1).setCell ⟨b, 2, none⟩ u2).setCell ⟨b, 3, none⟩ u3) b t [u0, u1, u2, u3] ∧ Below B w ((((W.setCell ⟨b, 0, none⟩ u0).setCell ⟨b, 1, none⟩ u1).setCell ⟨b, 2, none⟩ u2).setCell ⟨b, 3, none⟩ u3) ∧ ∀ p : Addr, p.block ≠ b → ((((W.setCell ⟨b, 0, none⟩ u0).setCell ⟨b, 1, none⟩ u1).setCell ⟨b, 2, none⟩ u2).setCell ⟨b, 3, none⟩ u3).cell? p = W.cell? p :=
  ⟨(((hq.set_ 0 u0).set_ 1 u1).set_ 2 u2).set_ 3 u3, (((hb.setCell (p := ⟨b, 0, none⟩) hB u0).setCell (p := ⟨b, 1, none⟩) hB u1).setCell (p := ⟨b, 2, none⟩) hB u2).setCell (p := ⟨b, 3, none⟩) hB u3, fun p hp => (gcell_far (b := b) u3 rfl hp).trans ((gcell_far (b := b) u2 rfl hp).trans ((gcell_far (b := b) u1 rfl hp).trans (gcell_far (b := b) u0 rfl hp)))⟩
theorem next_new {w : World} {r : Nat} (q : Rv) (HG : ∀ W, Below w.heap.size w W → Hid (Calls Tryz.prog 85 #[.pointer (some ⟨r, 0, none⟩)] W fun e w' => e = .returned (.pointer none) ∧ Below W.heap.size W w')) :
    Calls Tryz.prog 84 #[.pointer (some ⟨r, 0, none⟩), .agg #[.int .i64 q.1, .int .i64 q.2]] w fun e w' => e = .returned (.agg #[.int .i64 q.1, .int .i64 q.2, .int .i64 q.1, .int .i64 1]) ∧ Below w.heap.size w w' := by
  have hB0 := ((Below.refl w.heap.size w).alloc (Nat.le_refl _) (.cells #[.int .i64 q.1, .int .i64 q.2] 29)).alloc (by simp) (.cells #[.int .i64 0, .int .i64 0, .int .i64 0, .int .i64 0] 31)
  have HT := kept ((two_new w 29 q.1 q.2).keeps (Keeps.alloc _ (.cells #[.int .i64 0, .int .i64 0, .int .i64 0, .int .i64 0] 31)))
  have HK := kept (Blk.new (w.alloc (.cells #[.int .i64 q.1, .int .i64 q.2] 29)) 31 #[.int .i64 0, .int .i64 0, .int .i64 0, .int .i64 0])
  rw [World.size_alloc] at HK
  have HG0 := HG _ hB0
  have HB := kept hB0
  clear HG hB0
  go_enter Tryz.func84, Tryz.ntmps84
  go_wp2_with fail
  generalize (w.alloc (.cells #[.int .i64 q.1, .int .i64 q.2] 29)).alloc (.cells #[.int .i64 0, .int .i64 0, .int .i64 0, .int .i64 0] 31) = W0 at HG0 HT HK HB ⊢
  with_reducible refine HG0.out.mono ?_
  rintro e w1 ⟨rfl, hb⟩
  obtain ⟨t0, t1⟩ := HT.out.keeps (Keeps.of_below hb)
  have hk := HK.out.below hb HK.out.lt
  have q0 : w1.cell? ⟨w.heap.size + 1, 0, none⟩ = some (.int .i64 0) := hk.cell 0
  have q1 : w1.cell? ⟨w.heap.size + 1, 1, none⟩ = some (.int .i64 0) := hk.cell 1
  have q2 : w1.cell? ⟨w.heap.size + 1, 2, none⟩ = some (.int .i64 0) := hk.cell 2
  have q3 : w1.cell? ⟨w.heap.size + 1, 3, none⟩ = some (.int .i64 0) := hk.cell 3
  have f0 := hk.frozen 0
  have f1 := hk.frozen 1
  have f2 := hk.frozen 2
  have f3 := hk.frozen 3
  have HB1 := kept (bel_to hb HB.out)
  have HK1 := kept hk
  clear hb hk
  go_wp2
  have hx2 := gstore4 HK1.out HB1.out (by omega) (.int .i64 q.1) (.int .i64 q.2) (.int .i64 q.1) (.int .i64 1)
  generalize (((w1.setCell ⟨w.heap.size + 1, 0, none⟩ (.int .i64 q.1)).setCell ⟨w.heap.size + 1, 1, none⟩ (.int .i64 q.2)).setCell ⟨w.heap.size + 1, 2, none⟩ (.int .i64 q.1)).setCell ⟨w.heap.size + 1, 3, none⟩ (.int .i64 1) = X at hx2 ⊢
  obtain ⟨hbk, hbx, _⟩ := hx2
  have v0 : X.cell? ⟨w.heap.size + 1, 0, none⟩ = some (.int .i64 q.1) := hbk.cell 0
  have v1 : X.cell? ⟨w.heap.size + 1, 1, none⟩ = some (.int .i64 q.2) := hbk.cell 1
  have v2 : X.cell? ⟨w.heap.size + 1, 2, none⟩ = some (.int .i64 q.1) := hbk.cell 2
  have v3 : X.cell? ⟨w.heap.size + 1, 3, none⟩ = some (.int .i64 1) := hbk.cell 3
  exact bodyPost_ret (v := .agg #[.int .i64 q.1, .int .i64 q.2, .int .i64 q.1, .int .i64 1]) (by simp [results, Tryz.results84, go_sem, v0, v1, v2, v3]) rfl ⟨rfl, hbx⟩
theorem next_on {w : World} {r g m k : Nat} {Li : List GL} {L : GL} {gi : List Gn} {x : Gn} (h : Last w r g m k Li L gi x) (hn : m + 1 ≤ 1000000) (hx : x.ended = false) (q : Rv) :
    Calls Tryz.prog 84 #[.pointer (some ⟨r, 0, none⟩), .agg #[.int .i64 q.1, .int .i64 q.2]] w fun e w' => e = .returned (.agg #[.int .i64 q.1, .int .i64 q.2, .int .i64 L.c, .int .i64 (wrap64 (L.v + (L.n : Int)))]) ∧ Below w.heap.size w w' := by
  have hB0 := ((Below.refl w.heap.size w).alloc (Nat.le_refl _) (.cells #[.int .i64 q.1, .int .i64 q.2] 29)).alloc (by simp) (.cells #[.int .i64 0, .int .i64 0, .int .i64 0, .int .i64 0] 31)
  have HT := kept ((two_new w 29 q.1 q.2).keeps (Keeps.alloc _ (.cells #[.int .i64 0, .int .i64 0, .int .i64 0, .int .i64 0] 31)))
  have HK := kept (Blk.new (w.alloc (.cells #[.int .i64 q.1, .int .i64 q.2] 29)) 31 #[.int .i64 0, .int .i64 0, .int .i64 0, .int .i64 0])
  rw [World.size_alloc] at HK
  have h0 := h.below hB0
  have HG0 := kept (going_some h0 hn)
  rw [hx] at HG0
  have HL := kept h0
  have HF := fun W => kept (found_any L q (L.n : Int) W)
  simp only [GL.val] at HF
  have HB := kept hB0
  have hgw : g < w.heap.size := (gown_lt h.gs.own rfl).2
  clear h h0 hB0 hx
  go_enter Tryz.func84, Tryz.ntmps84
  go_wp2_with fail
  generalize (w.alloc (.cells #[.int .i64 q.1, .int .i64 q.2] 29)).alloc (.cells #[.int .i64 0, .int .i64 0, .int .i64 0, .int .i64 0] 31) = W0 at HG0 HT HK HB HL ⊢
  with_reducible refine HG0.out.mono ?_
  rintro e w1 ⟨rfl, hb⟩
  have ht := HT.out.keeps (Keeps.of_below hb)
  have hl1 := HL.out.below hb
  have hk := HK.out.below hb HK.out.lt
  have HS0 := kept (show (fun W' : World => (W'.cell? ⟨w.heap.size, 0, none⟩ = some (.int .i64 q.1) ∧ W'.cell? ⟨w.heap.size, 1, none⟩ = some (.int .i64 q.2)) ∧ (W'.cell? ⟨g, m * 5, none⟩ = some (.int .i64 L.c) ∧ W'.cell? ⟨g, m * 5 + 1, none⟩ = some (.int .i64 L.v) ∧ W'.cell? ⟨g, m * 5 + 2, none⟩ = some (.slice L.A L.n L.k) ∧ W'.cell? ⟨g, m * 5 + 3, none⟩ = some (.int .i64 L.e.1) ∧ W'.cell? ⟨g, m * 5 + 4, none⟩ = some (.int .i64 L.e.2))) w1.drew from ⟨ht, hl1.c0, hl1.c1, hl1.c2, hl1.c3, hl1.c4⟩)
  have HB1 := kept (bel_to hb HB.out).drew
  have HK1 := kept (show Blk w1.drew _ _ _ from hk)
  clear hb hk ht hl1
  go_wp2
  refine wp_region_held_drew (S := (fun W' => (W'.cell? ⟨w.heap.size, 0, none⟩ = some (.int .i64 q.1) ∧ W'.cell? ⟨w.heap.size, 1, none⟩ = some (.int .i64 q.2)) ∧ (W'.cell? ⟨g, m * 5, none⟩ = some (.int .i64 L.c) ∧ W'.cell? ⟨g, m * 5 + 1, none⟩ = some (.int .i64 L.v) ∧ W'.cell? ⟨g, m * 5 + 2, none⟩ = some (.slice L.A L.n L.k) ∧ W'.cell? ⟨g, m * 5 + 3, none⟩ = some (.int .i64 L.e.1) ∧ W'.cell? ⟨g, m * 5 + 4, none⟩ = some (.int .i64 L.e.2)))) (by kernel_rfl) ?_ (fun hHeld => ?_)
  · ((try dsimp only); (first | with_reducible exact HS0.out | with_reducible exact HS1.out | (with_reducible exact HS2.out)))
  refine hand_take 0 (some 10) ?_ (by kernel_rfl) (by kernel_rfl) (by kernel_rfl) (by kernel_rfl) (by kernel_rfl) (fun _ _ _ h => h) ?_ (by assumption) ?_
  rotate_left
  · (intro o ho w hSw; (simp only [List.getElem?_toArray, List.getElem?_cons_succ, List.getElem?_cons_zero, Option.some.injEq] at ho); subst ho; (try dsimp only at hSw); go_simp; (first | done | with_reducible rfl))
  (try simp only [Act.put, List.setIfInBounds_toArray, List.set_cons_zero, List.set_cons_succ])
  refine hand_take 1 (some 11) ?_ (by kernel_rfl) (by kernel_rfl) (by kernel_rfl) (by kernel_rfl) (by kernel_rfl) (fun _ _ _ h => h) ?_ (by assumption) ?_
  rotate_left
  · (intro o ho w hSw; (simp only [List.getElem?_toArray, List.getElem?_cons_succ, List.getElem?_cons_zero, Option.some.injEq] at ho); subst ho; (try dsimp only at hSw); go_simp; (first | done | with_reducible rfl))
  (try simp only [Act.put, List.setIfInBounds_toArray, List.set_cons_zero, List.set_cons_succ])
  refine hand_take 2 (some 12) ?_ (by kernel_rfl) (by kernel_rfl) (by kernel_rfl) (by kernel_rfl) (by kernel_rfl) (fun _ _ _ h => h) ?_ (by assumption) ?_
  rotate_left
  · (intro o ho w hSw; (simp only [List.getElem?_toArray, List.getElem?_cons_succ, List.getElem?_cons_zero, Option.some.injEq] at ho); subst ho; (try dsimp only at hSw); go_simp; (first | done | with_reducible rfl))
  (try simp only [Act.put, List.setIfInBounds_toArray, List.set_cons_zero, List.set_cons_succ])
  refine hand_take 3 (some 13) ?_ (by kernel_rfl) (by kernel_rfl) (by kernel_rfl) (by kernel_rfl) (by kernel_rfl) (fun _ _ _ h => h) ?_ (by assumption) ?_
  rotate_left
  · (intro o ho w hSw; (simp only [List.getElem?_toArray, List.getElem?_cons_succ, List.getElem?_cons_zero, Option.some.injEq] at ho); subst ho; (try dsimp only at hSw); go_simp; (first | done | with_reducible rfl))
  (try simp only [Act.put, List.setIfInBounds_toArray, List.set_cons_zero, List.set_cons_succ])
  refine hand_take 4 (some 14) ?_ (by kernel_rfl) (by kernel_rfl) (by kernel_rfl) (by kernel_rfl) (by kernel_rfl) (fun _ _ _ h => h) ?_ (by assumption) ?_
  rotate_left
  · (intro o ho w hSw; (simp only [List.getElem?_toArray, List.getElem?_cons_succ, List.getElem?_cons_zero, Option.some.injEq] at ho); subst ho; (try dsimp only at hSw); go_simp; (first | done | with_reducible rfl))
  (try simp only [Act.put, List.setIfInBounds_toArray, List.set_cons_zero, List.set_cons_succ])
  refine hand_take 5 (some 15) ?_ (by kernel_rfl) (by kernel_rfl) (by kernel_rfl) (by kernel_rfl) (by kernel_rfl) (fun _ _ _ h => h) ?_ (by assumption) ?_
  rotate_left
  · (intro o ho w hSw; (simp only [List.getElem?_toArray, List.getElem?_cons_succ, List.getElem?_cons_zero, Option.some.injEq] at ho); subst ho; (try dsimp only at hSw); go_simp; (first | done | with_reducible rfl))
  (try simp only [Act.put, List.setIfInBounds_toArray, List.set_cons_zero, List.set_cons_succ])
  refine hand_take 6 (some 16) ?_ (by kernel_rfl) (by kernel_rfl) (by kernel_rfl) (by kernel_rfl) (by kernel_rfl) (fun _ _ _ h => h) ?_ (by assumption) ?_
  rotate_left
  · (intro o ho w hSw; (simp only [List.getElem?_toArray, List.getElem?_cons_succ, List.getElem?_cons_zero, Option.some.injEq] at ho); subst ho; (try dsimp only at hSw); go_simp; (first | done | with_reducible rfl))
  (try simp only [Act.put, List.setIfInBounds_toArray, List.set_cons_zero, List.set_cons_succ])
  refine hand_take 7 (some 17) ?_ (by kernel_rfl) (by kernel_rfl) (by kernel_rfl) (by kernel_rfl) (by kernel_rfl) (fun _ _ _ h => h) ?_ (by assumption) ?_
  rotate_left
  · (intro o ho w hSw; (simp only [List.getElem?_toArray, List.getElem?_cons_succ, List.getElem?_cons_zero, Option.some.injEq] at ho); subst ho; (try dsimp only at hSw); go_simp; (first | done | with_reducible rfl))
  (try simp only [Act.put, List.setIfInBounds_toArray, List.set_cons_zero, List.set_cons_succ])
  refine hand_take 8 (some 18) ?_ (by kernel_rfl) (by kernel_rfl) (by kernel_rfl) (by kernel_rfl) (by kernel_rfl) (fun _ _ _ h => h) ?_ (by assumption) ?_
  rotate_left
  · (intro o ho w hSw; (simp only [List.getElem?_toArray, List.getElem?_cons_succ, List.getElem?_cons_zero, Option.some.injEq] at ho); subst ho; (try dsimp only at hSw); go_simp; (first | done | with_reducible rfl))
  (try simp only [Act.put, List.setIfInBounds_toArray, List.set_cons_zero, List.set_cons_succ])
  refine hand_ready 9 (by kernel_rfl) (by kernel_rfl) (fun o ho K hK => ?_)
  (simp only [List.getElem?_toArray, List.getElem?_cons_succ, List.getElem?_cons_zero, Option.some.injEq] at ho)
  subst ho
  go_simp
  (go_at_call 54; (with_reducible refine (HF _).out.mono ?_); rintro e w2 ⟨rfl, hb⟩; (have hkp := Keeps.of_below hb); (have HS1 := kept (show (fun W' : World => (W'.cell? ⟨w.heap.size, 0, none⟩ = some (.int .i64 q.1) ∧ W'.cell? ⟨w.heap.size, 1, none⟩ = some (.int .i64 q.2)) ∧ (W'.cell? ⟨g, m * 5, none⟩ = some (.int .i64 L.c) ∧ W'.cell? ⟨g, m * 5 + 1, none⟩ = some (.int .i64 L.v) ∧ W'.cell? ⟨g, m * 5 + 2, none⟩ = some (.slice L.A L.n L.k) ∧ W'.cell? ⟨g, m * 5 + 3, none⟩ = some (.int .i64 L.e.1) ∧ W'.cell? ⟨g, m * 5 + 4, none⟩ = some (.int .i64 L.e.2))) w2 from ⟨⟨hkp.cell_ HS0.out.1.1, hkp.cell_ HS0.out.1.2⟩, hkp.cell_ HS0.out.2.1, hkp.cell_ HS0.out.2.2.1, hkp.cell_ HS0.out.2.2.2.1, hkp.cell_ HS0.out.2.2.2.2.1, hkp.cell_ HS0.out.2.2.2.2.2⟩)); have HB2 := kept (bel_to hb HB1.out); have HK2 := kept (HK1.out.below hb HK1.out.lt); (have q0 : w2.cell? ⟨w.heap.size + 1, 0, none⟩ = some (.int .i64 0) := HK2.out.cell 0); (have q1 : w2.cell? ⟨w.heap.size + 1, 1, none⟩ = some (.int .i64 0) := HK2.out.cell 1); (have q2 : w2.cell? ⟨w.heap.size + 1, 2, none⟩ = some (.int .i64 0) := HK2.out.cell 2); (have q3 : w2.cell? ⟨w.heap.size + 1, 3, none⟩ = some (.int .i64 0) := HK2.out.cell 3); have f0 := HK2.out.frozen 0; have f1 := HK2.out.frozen 1; have f2 := HK2.out.frozen 2; have f3 := HK2.out.frozen 3; clear hb hkp)
  (try go_wp2_with fail)
  refine hK.out _ _ ?_ (fun hHeld => ?_)
  · ((try dsimp only); (first | with_reducible exact HS0.out | with_reducible exact HS1.out | (with_reducible exact HS2.out)))
  clear hK K
  (try simp only [Act.put, List.setIfInBounds_toArray, List.set_cons_zero, List.set_cons_succ])
  refine hand_ready 10 (by kernel_rfl) (by kernel_rfl) (fun o ho K hK => ?_)
  (simp only [List.getElem?_toArray, List.getElem?_cons_succ, List.getElem?_cons_zero, Option.some.injEq] at ho)
  subst ho
  go_simp
  (have hx2 := gstore4 HK2.out HB2.out (by omega) (.int .i64 q.1) (.int .i64 q.2) (.int .i64 L.c) (.int .i64 (wrap64 (L.v + (L.n : Int)))); generalize (((w2.setCell ⟨w.heap.size + 1, 0, none⟩ (.int .i64 q.1)).setCell ⟨w.heap.size + 1, 1, none⟩ (.int .i64 q.2)).setCell ⟨w.heap.size + 1, 2, none⟩ (.int .i64 L.c)).setCell ⟨w.heap.size + 1, 3, none⟩ (.int .i64 (wrap64 (L.v + (L.n : Int)))) = X at hx2 ⊢; have HX := kept hx2; (have HS2 := kept (show (fun W' : World => (W'.cell? ⟨w.heap.size, 0, none⟩ = some (.int .i64 q.1) ∧ W'.cell? ⟨w.heap.size, 1, none⟩ = some (.int .i64 q.2)) ∧ (W'.cell? ⟨g, m * 5, none⟩ = some (.int .i64 L.c) ∧ W'.cell? ⟨g, m * 5 + 1, none⟩ = some (.int .i64 L.v) ∧ W'.cell? ⟨g, m * 5 + 2, none⟩ = some (.slice L.A L.n L.k) ∧ W'.cell? ⟨g, m * 5 + 3, none⟩ = some (.int .i64 L.e.1) ∧ W'.cell? ⟨g, m * 5 + 4, none⟩ = some (.int .i64 L.e.2))) X from (by obtain ⟨⟨s0, s1⟩, s2, s3, s4, s5, s6⟩ := HS1.out; have hf := hx2.2.2; exact ⟨⟨(hf _ (by show w.heap.size ≠ w.heap.size + 1; omega)).trans s0, (hf _ (by show w.heap.size ≠ w.heap.size + 1; omega)).trans s1⟩, (hf _ (by show g ≠ w.heap.size + 1; omega)).trans s2, (hf _ (by show g ≠ w.heap.size + 1; omega)).trans s3, (hf _ (by show g ≠ w.heap.size + 1; omega)).trans s4, (hf _ (by show g ≠ w.heap.size + 1; omega)).trans s5, (hf _ (by show g ≠ w.heap.size + 1; omega)).trans s6⟩))); clear hx2)
  refine hK.out _ _ ?_ (fun hHeld => ?_)
  · ((try dsimp only); (first | with_reducible exact HS0.out | with_reducible exact HS1.out | (with_reducible exact HS2.out)))
  clear hK K
  (try simp only [Act.put, List.setIfInBounds_toArray, List.set_cons_zero, List.set_cons_succ])
  refine wpAnyH_done (by kernel_rfl) ?_ _
  clear hHeld q0 q1 q2 q3 f0 f1 f2 f3
  go_wp2
  obtain ⟨hbk, hbx, _⟩ := HX.out
  have v0 : X.cell? ⟨w.heap.size + 1, 0, none⟩ = some (.int .i64 q.1) := hbk.cell 0
  have v1 : X.cell? ⟨w.heap.size + 1, 1, none⟩ = some (.int .i64 q.2) := hbk.cell 1
  have v2 : X.cell? ⟨w.heap.size + 1, 2, none⟩ = some (.int .i64 L.c) := hbk.cell 2
  have v3 : X.cell? ⟨w.heap.size + 1, 3, none⟩ = some (.int .i64 (wrap64 (L.v + (L.n : Int)))) := hbk.cell 3
  exact bodyPost_ret (v := .agg #[.int .i64 q.1, .int .i64 q.2, .int .i64 L.c, .int .i64 (wrap64 (L.v + (L.n : Int)))]) (by simp [results, Tryz.results84, go_sem, v0, v1, v2, v3]) rfl ⟨rfl, hbx⟩
end Go.Proofs.YtlckeebbjnhejaaGreat
end

section
/-
  package gens: what is left of a history when one of its generations, or its row of them, has turned.
-/
namespace Go.Proofs.YtlckeebbjnhejaaGreat
open Go.ChangeShapes Go.WideShapes Go.ChangeAt Go.RowKit Go.Deep
set_option linter.unusedVariables false
set_option linter.unusedSimpArgs false

theorem gown_cl {w : World} {base sz n k : Nat} {e : TypeId} {v : Value} {xs : List Value} (h : w.ownsRow base e sz v n xs) {g : Nat} (hg : v.ownBlock = some g) : ∃ cur, w.heap[g]? = some (.cells cur e (0, 0)) := by
  rcases h.2 with ⟨rfl, _⟩ | ⟨g', cap, cur, rfl, hb, hh, _⟩
  · cases hg
  · obtain rfl : g' = g := by simpa [Value.ownBlock] using hg
    exact ⟨cur, hh⟩
theorem gfrozen {w : World} {g : Nat} {e : TypeId} {cur : Array Value} (h : w.heap[g]? = some (.cells cur e (0, 0))) (i : Nat) : w.frozen? ⟨g, i, none⟩ = false := by simp [World.frozen?, h]
theorem gown_set {w : World} {base size g n k : Nat} {e : TypeId} {xs : List Value} (h : w.ownsRow base e size (.slice (some ⟨g, 0, none⟩) n k) n xs) (i : Nat) (u : Value) : (w.setCell ⟨g, i, none⟩ u).ownsRow base e size (.slice (some ⟨g, 0, none⟩) n k) n (xs.set i u) := by
  rcases h.2 with ⟨h0, _⟩ | ⟨g', cap', cur, hv, hbg, hg, hnc, hcm, hcs, htake⟩
  · simp at h0
  · simp only [Value.slice.injEq, Option.some.injEq, Addr.mk.injEq, and_true, true_and] at hv
    obtain ⟨rfl, rfl⟩ := hv
    have hB : Blk w g e cur.toList := by simpa [Blk] using hg
    have h2 := hB.set_ i u
    refine ⟨by simp [h.1], .inr ⟨g, k, (cur.toList.set i u).toArray, rfl, hbg, by simpa [Blk] using h2, hnc, hcm, by simpa using hcs, ?_⟩⟩
    rw [show ((cur.toList.set i u).toArray).toList = cur.toList.set i u from rfl, List.take_set, htake]
theorem glC_set : ∀ (Ls : List GL) (i : Nat) (h : i < Ls.length) (j : Nat) (u : Value) (L' : GL), j < 5 → L'.cells = Ls[i].cells.set j u → (glC Ls).set (i * 5 + j) u = glC (Ls.set i L')
  | L :: Ls, 0, _, j, u, L', hj, e => by
    have e : L'.cells = L.cells.set j u := e
    rw [List.set_cons_zero, glC_cons, glC_cons, e, List.set_append_left _ _ (by simp [GL.cells]; omega)]
    simp
  | L :: Ls, i + 1, h, j, u, L', hj, e => by
    have := glC_set Ls i (by simpa using h) j u L' hj (by simpa using e)
    rw [List.set_cons_succ, glC_cons, glC_cons, ← this, List.set_append_right _ _ (by simp [GL.cells]; omega)]
    congr 2
    simp [GL.cells]; omega
/-- Blocks of unlike types are unlike. -/
theorem ne_of_types {w : World} {a b : Nat} {s t : TypeId} {c d : Array Value} {f f' : Nat × Nat} (h : w.heap[a]? = some (.cells c s f)) (k : w.heap[b]? = some (.cells d t f')) (hst : s ≠ t) : a ≠ b := by
  rintro rfl
  rw [h] at k
  injection k with k
  injection k with _ k _
  exact hst k
section
variable {w W2 : World} {r : Nat} {A : Option Addr} {n k : Nat} {Ls : List GL} {gs : List Gn}
theorem GsL.row_cl (h : GsL w r A n k Ls gs) {L : GL} (hL : L ∈ Ls) {g : Nat} (hg : L.row.ownBlock = some g) : ∃ cur, w.heap[g]? = some (.cells cur 29 (0, 0)) := by
  obtain ⟨i, hi, rfl⟩ := List.getElem_of_mem hL
  exact gown_cl (k := 0) (h.el i hi (by rw [h.gn, ← h.ln]; exact hi)).own hg
theorem GsL.r_row (h : GsL w r A n k Ls gs) {L : GL} (hL : L ∈ Ls) : L.row.ownBlock ≠ some r := fun e => by
  obtain ⟨c, hc⟩ := h.row_cl hL e
  have hb : w.heap[r]? = some (.cells #[.slice A n k] 102 (0, 0)) := h.box
  exact ne_of_types hb hc (by decide) rfl
theorem GsL.r_own (h : GsL w r A n k Ls gs) : (Value.slice A n k).ownBlock ≠ some r := fun e => by
  obtain ⟨c, hc⟩ := gown_cl (k := 0) h.own e
  have hb : w.heap[r]? = some (.cells #[.slice A n k] 102 (0, 0)) := h.box
  exact ne_of_types hb hc (by decide) rfl
theorem GsL.own_row (h : GsL w r A n k Ls gs) {L : GL} (hL : L ∈ Ls) {g : Nat} (hg : (Value.slice A n k).ownBlock = some g) : L.row.ownBlock ≠ some g := fun e => by
  obtain ⟨c, hc⟩ := h.row_cl hL e
  obtain ⟨d, hd⟩ := gown_cl (k := 0) h.own hg
  exact ne_of_types hc hd (by decide) rfl
/-- One generation has turned. -/
theorem GsL.left_at (h : GsL w r A n k Ls gs) {g : Nat} (hA : A = some ⟨g, 0, none⟩) (i : Nat) (hi : i < Ls.length) (L' : GL) (x' : Gn) (hown : W2.ownsRow 0 99 5 (.slice A n k) n (glC (Ls.set i L'))) (hat : GlAt W2 L' x')
    (t : Turned w W2 (fun j => j = g ∨ Ls[i].row.ownBlock = some j)) (hloc : ∀ j, L'.row.ownBlock = some j → Ls[i].row.ownBlock = some j ∨ w.heap.size ≤ j) :
    GsL W2 r A n k (Ls.set i L') (gs.set i x') ∧ (∀ j, footG r A n k (Ls.set i L') j → footG r A n k Ls j ∨ w.heap.size ≤ j) ∧ Turned w W2 (footG r A n k Ls) := by
  have hg : (Value.slice A n k).ownBlock = some g := by rw [hA]; rfl
  have hsz := t.size
  refine ⟨⟨t.blk h.box (fun e => ?_), by simp [h.ln], by simp [h.gn], hown, fun j h1 h2 => ?_, fun a b h1 h2 hab q hq => ?_⟩, fun j hj => ?_, t.mono fun j _ hj => ?_⟩
  · rcases e with e | e
    · exact h.r_own (by rw [e]; exact hg)
    · exact h.r_row (List.getElem_mem hi) e
  · rw [List.length_set] at h1 h2
    rw [List.getElem_set, List.getElem_set]
    by_cases hj : i = j
    · subst hj
      rw [if_pos rfl, if_pos rfl]
      exact hat
    · rw [if_neg hj, if_neg hj]
      refine (h.el j h1 h2).turned t (fun q hq e => ?_)
      rcases e with e | e
      · exact h.own_row (List.getElem_mem h1) (by rw [← e] at hg; exact hg) hq
      · exact h.ap i j hi h1 hj q e hq
  · rw [List.length_set] at h1 h2
    rw [List.getElem_set] at hq ⊢
    by_cases ha : i = a
    · subst ha
      rw [if_pos rfl] at hq
      rw [if_neg hab]
      rcases hloc q hq with e | e
      · exact h.ap i b hi h2 hab q e
      · intro e2
        have := h.lt (.inr (.inr ⟨_, List.getElem_mem h2, e2⟩))
        omega
    · rw [if_neg ha] at hq
      by_cases hb : i = b
      · subst hb
        rw [if_pos rfl]
        intro e2
        rcases hloc q e2 with e | e
        · exact h.ap a i h1 hi (fun e => ha e.symm) q hq e
        · have := h.lt (.inr (.inr ⟨_, List.getElem_mem h1, hq⟩))
          omega
      · rw [if_neg hb]
        exact h.ap a b h1 h2 hab q hq
  · rcases hj with e | e | ⟨L, hL, e⟩
    · exact .inl (.inl e)
    · exact .inl (.inr (.inl e))
    · rcases List.mem_or_eq_of_mem_set hL with hL | rfl
      · exact .inl (.inr (.inr ⟨L, hL, e⟩))
      · rcases hloc j e with e | e
        · exact .inl (.inr (.inr ⟨_, List.getElem_mem hi, e⟩))
        · exact .inr e
  · rcases hj with e | e
    · exact .inr (.inl (by rw [e]; exact hg))
    · exact .inr (.inr ⟨_, List.getElem_mem hi, e⟩)
/-- One generation more. -/
theorem GsL.left_more (h : GsL w r A n k Ls gs) {A' : Option Addr} {k' : Nat} (L' : GL) (x' : Gn) (hown : W2.ownsRow 0 99 5 (.slice A' (n + 1) k') (n + 1) (glC (Ls ++ [L']))) (hat : GlAt W2 L' x') (hbox : Blk W2 r 102 [.slice A' (n + 1) k'])
    (t : Turned w W2 (fun j => j = r ∨ (Value.slice A n k).ownBlock = some j)) (hloc : ∀ j, L'.row.ownBlock = some j → w.heap.size ≤ j) (hlocA : ∀ j, (Value.slice A' (n + 1) k').ownBlock = some j → (Value.slice A n k).ownBlock = some j ∨ w.heap.size ≤ j) :
    GsL W2 r A' (n + 1) k' (Ls ++ [L']) (gs ++ [x']) ∧ (∀ j, footG r A' (n + 1) k' (Ls ++ [L']) j → footG r A n k Ls j ∨ w.heap.size ≤ j) ∧ Turned w W2 (footG r A n k Ls) := by
  refine ⟨⟨hbox, by simp [h.ln], by simp [h.gn], hown, fun j h1 h2 => ?_, fun a b h1 h2 hab q hq => ?_⟩, fun j hj => ?_, t.mono fun j _ hj => hj.elim .inl fun e => .inr (.inl e)⟩
  · by_cases hj : j < Ls.length
    · rw [List.getElem_append_left hj, List.getElem_append_left (by rw [h.gn, ← h.ln]; exact hj)]
      refine (h.el j hj (by rw [h.gn, ← h.ln]; exact hj)).turned t (fun q hq e => ?_)
      rcases e with e | e
      · exact h.r_row (List.getElem_mem hj) (by rw [← e]; exact hq)
      · exact h.own_row (List.getElem_mem hj) e hq
    · have e1 : j = Ls.length := by simp at h1; omega
      subst e1
      rw [List.getElem_append_right (Nat.le_refl _), List.getElem_append_right (by rw [h.gn, ← h.ln]; exact Nat.le_refl _)]
      simpa using hat
  · have hcase : ∀ a (h1 : a < (Ls ++ [L']).length), (∃ h : a < Ls.length, (Ls ++ [L'])[a] = Ls[a]) ∨ (a = Ls.length ∧ (Ls ++ [L'])[a] = L') := fun a h1 => by
      by_cases ha : a < Ls.length
      · exact .inl ⟨ha, List.getElem_append_left ha⟩
      · have e1 : a = Ls.length := by simp at h1; omega
        subst e1
        exact .inr ⟨rfl, by rw [List.getElem_append_right (Nat.le_refl _)]; simp⟩
    rcases hcase a h1 with ⟨ha, ea⟩ | ⟨ha, ea⟩ <;> rcases hcase b h2 with ⟨hb, eb⟩ | ⟨hb, eb⟩ <;> rw [ea] at hq <;> rw [eb]
    · exact h.ap a b ha hb hab q hq
    · intro e2
      have h1 := h.lt (.inr (.inr ⟨_, List.getElem_mem ha, hq⟩))
      have h2 := hloc q e2
      omega
    · intro e2
      have h1 := h.lt (.inr (.inr ⟨_, List.getElem_mem hb, e2⟩))
      have h2 := hloc q hq
      omega
    · exact absurd (ha.trans hb.symm) hab
  · rcases hj with e | e | ⟨L, hL, e⟩
    · exact .inl (.inl e)
    · exact (hlocA j e).imp (fun e => .inr (.inl e)) id
    · rcases List.mem_append.1 hL with hL | hL
      · exact .inl (.inr (.inr ⟨L, hL, e⟩))
      · rw [List.mem_singleton.1 hL] at e
        exact .inr (hloc j e)
end
end Go.Proofs.YtlckeebbjnhejaaGreat
end

section
/-
  package gens, call by call: slices.Clone of revisions and of generations; Copy.
-/
namespace Go.Proofs.YtlckeebbjnhejaaGreat
open Go.ChangeShapes Go.WideShapes Go.ChangeAt Go.RowKit Go.Deep
set_option linter.unusedVariables false
set_option linter.unusedSimpArgs false

set_option maxRecDepth 100000 in
theorem cloR_any (A : Option Addr) (n c : Nat) (V : List Value) (w : World) (h : w.ownsRow 0 29 2 (.slice A n c) n V) (h1c : ∀ u ∈ V, u.oneCell' = true) (hn : n ≤ 1000000) :
    Calls Tryz.prog 57 #[.slice A n c] w fun e w' => ∃ A' c', e = .returned (.slice A' n c') ∧ w'.ownsRow w.heap.size 29 2 (.slice A' n c') n V ∧ Below w.heap.size w w' := by
  have q : ∀ (w : World) (a : Option Addr) (n c n' c' : Nat), (binOp .eql 41 (.slice a n c) (.slice none n' c')).run Tryz.prog w = .ok (.bool a.isNone) w := fun w a n c n' c' => Lib.run_eql_slice_nil w _ _ a n c n' c' Tryz.underlying41
  obtain ⟨h1, h2, h3⟩ := gown_cap h
  have hl := h.1
  cases A with
  | none =>
    obtain ⟨rfl, rfl⟩ := h3 rfl
    obtain rfl : V = [] := List.eq_nil_of_length_eq_zero (by omega)
    clear h
    go_enter Tryz.func57, Tryz.ntmps57
    go_wp2
    go_ret
    exact ⟨none, 0, rfl, World.ownsRow_nil _ _ _ _, Below.refl _ _⟩
  | some ad =>
    have had : ∃ g, ad = ⟨g, 0, none⟩ := by
      rcases h.2 with ⟨e0, _⟩ | ⟨g, cap, cur, hv, _⟩
      · cases e0
      · injection hv with hA _ _
        exact ⟨g, by injection hA⟩
    obtain ⟨g, rfl⟩ := had
    have hb0 := (Below.refl w.heap.size w).alloc (Nat.le_refl _) (.cells #[] 29)
    have HC := kept (fun j u (hu : V[j]? = some u) => (Keeps.of_below hb0).cell_ (h.cells (g := g) rfl j u hu))
    have HO : Hid ((w.alloc (.cells #[] 29)).ownsRow w.heap.size 29 2 (.slice (some ⟨w.heap.size, 0, none⟩) 0 0) 0 []) := kept ⟨rfl, .inr ⟨w.heap.size, 0, #[], rfl, Nat.le_refl _, Blk.new w 29 #[], Nat.le_refl _, Nat.zero_le _, rfl, rfl⟩⟩
    have HB := kept hb0
    have HSZ := kept (show w.heap.size ≤ (w.alloc (.cells #[] 29)).heap.size by simp)
    clear h hb0 h3
    go_enter Tryz.func57, Tryz.ntmps57
    go_wp2_with (first | (at_builtin; refine wpList_append_g rfl _ _ 41 rfl 29 ⟨g, 0, none⟩ rfl rfl Tryz.underlying41 revinfo rfl (by decide) (by decide) HO.out (by exact hl) HC.out h1c (by omega) HSZ.out ?_; intro A8 c8 w8 h8 g8 loc8; have H8 := kept (And.intro h8 g8); clear h8 g8 loc8))
    go_returns
    obtain ⟨h8, g8⟩ := H8.out
    rw [Nat.zero_add, List.nil_append] at h8
    refine ⟨A8, c8, rfl, h8, HB.out.grown g8 HSZ.out (fun j hj => ?_)⟩
    simp [Value.ownBlock] at hj
    omega
set_option maxRecDepth 100000 in
theorem cloG_any (A : Option Addr) (n c : Nat) (V : List Value) (w : World) (h : w.ownsRow 0 99 5 (.slice A n c) n V) (h1c : ∀ u ∈ V, u.oneCell' = true) (hn : n ≤ 1000000) :
    Calls Tryz.prog 56 #[.slice A n c] w fun e w' => ∃ A' c', e = .returned (.slice A' n c') ∧ w'.ownsRow w.heap.size 99 5 (.slice A' n c') n V ∧ Below w.heap.size w w' := by
  have q : ∀ (w : World) (a : Option Addr) (n c n' c' : Nat), (binOp .eql 100 (.slice a n c) (.slice none n' c')).run Tryz.prog w = .ok (.bool a.isNone) w := fun w a n c n' c' => Lib.run_eql_slice_nil w _ _ a n c n' c' Tryz.underlying100
  obtain ⟨h1, h2, h3⟩ := gown_cap h
  have hl := h.1
  cases A with
  | none =>
    obtain ⟨rfl, rfl⟩ := h3 rfl
    obtain rfl : V = [] := List.eq_nil_of_length_eq_zero (by omega)
    clear h
    go_enter Tryz.func56, Tryz.ntmps56
    go_wp2
    go_ret
    exact ⟨none, 0, rfl, World.ownsRow_nil _ _ _ _, Below.refl _ _⟩
  | some ad =>
    have had : ∃ g, ad = ⟨g, 0, none⟩ := by
      rcases h.2 with ⟨e0, _⟩ | ⟨g, cap, cur, hv, _⟩
      · cases e0
      · injection hv with hA _ _
        exact ⟨g, by injection hA⟩
    obtain ⟨g, rfl⟩ := had
    have hb0 := (Below.refl w.heap.size w).alloc (Nat.le_refl _) (.cells #[] 99)
    have HC := kept (fun j u (hu : V[j]? = some u) => (Keeps.of_below hb0).cell_ (h.cells (g := g) rfl j u hu))
    have HO : Hid ((w.alloc (.cells #[] 99)).ownsRow w.heap.size 99 5 (.slice (some ⟨w.heap.size, 0, none⟩) 0 0) 0 []) := kept ⟨rfl, .inr ⟨w.heap.size, 0, #[], rfl, Nat.le_refl _, Blk.new w 99 #[], Nat.le_refl _, Nat.zero_le _, rfl, rfl⟩⟩
    have HB := kept hb0
    have HSZ := kept (show w.heap.size ≤ (w.alloc (.cells #[] 99)).heap.size by simp)
    clear h hb0 h3
    go_enter Tryz.func56, Tryz.ntmps56
    go_wp2_with (first | (at_builtin; refine wpList_append_g rfl _ _ 100 rfl 99 ⟨g, 0, none⟩ rfl rfl Tryz.underlying100 geninfo rfl (by decide) (by decide) HO.out (by exact hl) HC.out h1c (by omega) HSZ.out ?_; intro A8 c8 w8 h8 g8 loc8; have H8 := kept (And.intro h8 g8); clear h8 g8 loc8))
    go_returns
    obtain ⟨h8, g8⟩ := H8.out
    rw [Nat.zero_add, List.nil_append] at h8
    refine ⟨A8, c8, rfl, h8, HB.out.grown g8 HSZ.out (fun j hj => ?_)⟩
    simp [Value.ownBlock] at hj
    omega
theorem own_mono_ {w : World} {base base' : Nat} {e : TypeId} {sz : Nat} {v : Value} {n : Nat} {xs : List Value} (h : w.ownsRow base e sz v n xs) (hb : base' ≤ base) : w.ownsRow base' e sz v n xs := by
  refine ⟨h.1, ?_⟩
  rcases h.2 with h0 | ⟨g, cap, cur, hv, hg, r⟩
  · exact .inl h0
  · exact .inr ⟨g, cap, cur, hv, Nat.le_trans hb hg, r⟩
theorem gfrozen_ {w : World} {g : Nat} {e : TypeId} {cur : Array Value} (h : w.heap[g]? = some (.cells cur e (0, 0))) (i : Nat) : w.frozen? ⟨g, i, none⟩ = false := by simp [World.frozen?, h]
/-- Between two rounds of Copy: the first i rows are apart. -/
structure CpI (w : World) (A' : Option Addr) (n c' : Nat) (Ls : List GL) (gs : List Gn) (Ls' : List GL) (i : Nat) (wi : World) : Prop where
  len : Ls'.length = n
  own : wi.ownsRow w.heap.size 99 5 (.slice A' n c') n (glC Ls')
  at_ : ∀ j (h1 : j < Ls'.length) (h2 : j < gs.length), j < i → GlAt wi Ls'[j] gs[j] ∧ ∀ g, Ls'[j].row.ownBlock = some g → w.heap.size ≤ g
  same : ∀ j (h1 : j < Ls'.length) (h2 : j < Ls.length), i ≤ j → Ls'[j] = Ls[j]
  ap : ∀ a b (h1 : a < Ls'.length) (h2 : b < Ls'.length), a < i → b < i → a ≠ b → ∀ g, Ls'[a].row.ownBlock = some g → Ls'[b].row.ownBlock ≠ some g
  bel : Below w.heap.size w wi
theorem CpI.below {w wi w' : World} {A' : Option Addr} {n c' i : Nat} {Ls : List GL} {gs : List Gn} {Ls' : List GL} (h : CpI w A' n c' Ls gs Ls' i wi) (hb : Below wi.heap.size wi w') : CpI w A' n c' Ls gs Ls' i w' :=
  ⟨h.len, gown_turned h.own (Turned.of_below hb (fun _ => False)) (fun _ _ e => e), fun j h1 h2 hj => ⟨(h.at_ j h1 h2 hj).1.below hb, (h.at_ j h1 h2 hj).2⟩, h.same, h.ap, bel_to hb h.bel⟩
/-- One row more is apart. -/
theorem CpI.step {w wi w2 : World} {A' : Option Addr} {n c' i : Nat} {Ls : List GL} {gs : List Gn} {Ls' : List GL} (h : CpI w A' n c' Ls gs Ls' i wi) {g2 : Nat} (hA : A' = some ⟨g2, 0, none⟩) (hi : i < Ls'.length) (hg : i < gs.length) (hx : GlAt wi Ls'[i] gs[i]) (B : Option Addr) (k : Nat)
    (hb : Below wi.heap.size wi w2) (hown : w2.ownsRow wi.heap.size 29 2 (.slice B Ls'[i].n k) Ls'[i].n (rvC gs[i].ps)) :
    CpI w A' n c' Ls gs (Ls'.set i { Ls'[i] with A := B, k := k }) (i + 1) (w2.setCell ⟨g2, i * 5 + 2, none⟩ (.slice B Ls'[i].n k)) := by
  have h2 := h.below hb
  have ho2 := h2.own
  rw [hA] at ho2
  have hs := gown_set ho2 (i * 5 + 2) (.slice B Ls'[i].n k)
  rw [glC_set Ls' i hi 2 (.slice B Ls'[i].n k) { Ls'[i] with A := B, k := k } (by decide) rfl] at hs
  have hg2 : w.heap.size ≤ g2 ∧ g2 < wi.heap.size := by
    have := gown_lt h.own (g := g2) (by rw [hA]; rfl)
    exact this
  have tX : Turned w2 (w2.setCell ⟨g2, i * 5 + 2, none⟩ (.slice B Ls'[i].n k)) (fun j => j = g2) := (Turned.refl w2 (fun j => j = g2)).setCell (p := ⟨g2, i * 5 + 2, none⟩) (fun _ => rfl) _
  obtain ⟨cg, hcg⟩ := gown_cl (k := 0) ho2 (g := g2) rfl
  have hnew : ∀ j, (Value.slice B Ls'[i].n k).ownBlock = some j → wi.heap.size ≤ j := fun j hj => (gown_lt hown hj).1
  refine ⟨by simp [h.len], by rw [hA]; exact hs, fun j h1 h3 hj => ?_, fun j h1 h3 hj => ?_, fun a b h1 h3 ha hb' hab g hga => ?_, h2.bel.setCell (p := ⟨g2, i * 5 + 2, none⟩) hg2.1 _⟩
  · rw [List.length_set] at h1
    rw [List.getElem_set]
    by_cases hij : i = j
    · subst hij
      rw [if_pos rfl]
      refine ⟨⟨hx.c, hx.v, hx.e, hx.n, ?_⟩, fun g hg => Nat.le_trans h.bel.size (hnew g hg)⟩
      refine own_mono_ (gown_turned hown tX (fun j hj e => ?_)) (Nat.zero_le _)
      have := hnew j hj
      omega
    · rw [if_neg hij]
      obtain ⟨y1, y2⟩ := h2.at_ j h1 h3 (by omega)
      refine ⟨y1.turned tX (fun q hq e => ?_), y2⟩
      obtain ⟨cq, hcq⟩ := gown_cl (k := 0) y1.own hq
      exact ne_of_types hcq hcg (by decide) e
  · rw [List.length_set] at h1
    rw [List.getElem_set, if_neg (by omega)]
    exact h.same j h1 h3 (by omega)
  · rw [List.length_set] at h1 h3
    rw [List.getElem_set] at hga ⊢
    have hold : ∀ j (h1 : j < Ls'.length), j < i → ∀ g, Ls'[j].row.ownBlock = some g → g < wi.heap.size := fun j h1 hj g hg => (h.at_ j h1 (by rw [h.len] at h1 hi; omega) hj).1.lt hg
    by_cases hia : i = a
    · subst hia
      rw [if_pos rfl] at hga
      rw [if_neg hab]
      intro e2
      have y1 := hold b h3 (by omega) g e2
      have y2 := hnew g hga
      omega
    · rw [if_neg hia] at hga
      have y1 := hold a h1 (by omega) g hga
      by_cases hib : i = b
      · rw [if_pos hib]
        intro e2
        have y2 := hnew g e2
        omega
      · rw [if_neg hib]
        exact h.ap a b h1 h3 (by omega) (by omega) hab g hga
set_option maxRecDepth 100000 in
set_option maxHeartbeats 2000000 in
theorem gcopy_any {w : World} {r : Nat} {F : Nat → Prop} {gs : List Gn} (h : Gs w r F gs) {N : Nat} (hN : BdG gs N) (hn : N ≤ 900000) :
    Calls Tryz.prog 30 #[.pointer (some ⟨r, 0, none⟩)] w fun e w' => ∃ r' F', e = .returned (.pointer (some ⟨r', 0, none⟩)) ∧ Gs w' r' F' gs ∧ (∀ j, F' j → w.heap.size ≤ j) ∧ Below w.heap.size w w' := by
  obtain ⟨A, n, k, Ls, h, hF⟩ := h
  have hnN : n ≤ N := by rw [← h.gn]; exact hN.1
  have hNs := hN.2
  have HC := kept (cloG_any A n k (glC Ls) w h.own (glC_one _) (by omega))
  have hr : w.cell? ⟨r, 0, none⟩ = some (.slice A n k) := h.box.cell 0
  have HH := kept h
  have hnn : (n : Int) ≤ 900000 := by omega
  clear h hF hN
  go_enter Tryz.func30, Tryz.ntmps30
  go_wp2_with fail
  with_reducible refine HC.out.mono ?_
  rintro e w1 ⟨A', c', rfl, hown, hb⟩
  have H0 : Hid (CpI w A' n c' Ls gs Ls 0 w1) := kept ⟨HH.out.ln, hown, fun j _ _ hj => absurd hj (by omega), fun _ _ _ _ => rfl, fun a b _ _ ha => absurd ha (by omega), hb⟩
  clear hown hb HC hr
  go_wp2
  go_loopw [15] (fun i wr => ∃ j : Nat, j ≤ n ∧ i = .int .i64 (j : Int) ∧ ∃ Ls', Hid (CpI w A' n c' Ls gs Ls' j wr)) (fun i _ => n - (intOf i).toNat)
  case atStart => exact ⟨0, Nat.zero_le _, rfl, Ls, H0⟩
  case round =>
    obtain ⟨j, hj, rfl, Ls', HI⟩ := hrel
    clear H0
    by_cases hjn : j < n
    · have hi := HI.out
      have hl1 : j < Ls'.length := by rw [hi.len]; exact hjn
      have hl2 : j < gs.length := by rw [HH.out.gn]; exact hjn
      have hl3 : j < Ls.length := by rw [HH.out.ln]; exact hjn
      have hsame := hi.same j hl1 hl3 (Nat.le_refl _)
      have hx := (HH.out.below hi.bel).el j hl3 hl2
      rw [← hsame] at hx
      obtain ⟨g2, hA, _, hgl, _, _, hc⟩ := gown_at hi.own (by omega)
      have hcc := fun q (hq : q < 5) => glC_at Ls' j hl1 q hq
      have c0 := hc _ _ (hcc 0 (by omega))
      have c1 := hc _ _ (hcc 1 (by omega))
      have c2 := hc _ _ (hcc 2 (by omega))
      have c3 := hc _ _ (hcc 3 (by omega))
      have c4 := hc _ _ (hcc 4 (by omega))
      have hST := fun B k w2 hb ho => hi.step hA hl1 hl2 hx B k (w2 := w2) hb ho
      obtain ⟨cg, hcg⟩ := gown_cl (k := 0) hi.own (g := g2) (by rw [hA]; rfl)
      generalize hLd : Ls'[j] = L at hST hx c0 c1 c2 c3 c4
      have hxn : gs[j].ps.length ≤ 900000 := by have := hNs gs[j] (List.getElem_mem hl2); omega
      generalize gs[j] = x at hST hx hxn
      replace c0 : wr.cell? ⟨g2, j * 5, none⟩ = some (.int .i64 L.c) := c0
      replace c1 : wr.cell? ⟨g2, j * 5 + 1, none⟩ = some (.int .i64 L.v) := c1
      replace c2 : wr.cell? ⟨g2, j * 5 + 2, none⟩ = some (.slice L.A L.n L.k) := c2
      replace c3 : wr.cell? ⟨g2, j * 5 + 3, none⟩ = some (.int .i64 L.e.1) := c3
      replace c4 : wr.cell? ⟨g2, j * 5 + 4, none⟩ = some (.int .i64 L.e.2) := c4
      have hj0 : (0 : Int) ≤ (j : Int) := by omega
      have hjn' : (j : Int) < (n : Int) := by omega
      have hwj : wrap64 ((j : Int) + 1) = (j : Int) + 1 := IntWalk.wrap64_in _ ⟨by omega, by omega⟩
      have hbW : Below wr.heap.size wr (wr.alloc (.cells #[.int .i64 L.c, .int .i64 L.v, .slice L.A L.n L.k, .int .i64 L.e.1, .int .i64 L.e.2] 99)) := (Below.refl _ wr).alloc (Nat.le_refl _) _
      have HCL := kept (cloR_any L.A L.n L.k (rvC x.ps) (wr.alloc (.cells #[.int .i64 L.c, .int .i64 L.v, .slice L.A L.n L.k, .int .i64 L.e.1, .int .i64 L.e.2] 99)) (hx.below hbW).own (rvC_one _) (by rw [hx.n]; omega))
      have HST := kept hST
      have HCX := kept (And.intro hbW (And.intro hcg (And.intro hgl (show Blk (wr.alloc (.cells #[.int .i64 L.c, .int .i64 L.v, .slice L.A L.n L.k, .int .i64 L.e.1, .int .i64 L.e.2] 99)) wr.heap.size 99 [.int .i64 L.c, .int .i64 L.v, .slice L.A L.n L.k, .int .i64 L.e.1, .int .i64 L.e.2] from Blk.new wr 99 #[.int .i64 L.c, .int .i64 L.v, .slice L.A L.n L.k, .int .i64 L.e.1, .int .i64 L.e.2]))))
      have HC2 := kept c2
      subst hA
      clear hi hl1 hl2 hl3 hsame hx hgl hc hcc hST hcg hLd hbW hxn HI hjn hj
      go_wp2_with fail
      with_reducible refine HCL.out.mono ?_
      rintro e w2 ⟨B, k2, rfl, hown2, hb2⟩
      have hb12 := bel_to hb2 HCX.out.1
      have d2 := (Keeps.of_below hb12).cell_ HC2.out
      obtain ⟨hbW, hcg, hgl, hbk⟩ := HCX.out
      have f2 : w2.frozen? ⟨g2, j * 5 + 2, none⟩ = false := gfrozen_ ((hb12.block g2 hgl).trans hcg) (j * 5 + 2)
      have HN2 := kept (HST.out B k2 w2 hb12 (own_mono_ hown2 hbW.size))
      clear hown2 hb2 hb12 hbW hcg hgl hbk c0 c1 c2 c3 c4 HCL HST
      have HJ := kept (show j + 1 ≤ n by omega)
      have HJ2 := kept (show j < n by omega)
      go_wp2
      go_roundw
      case rel => exact ⟨j + 1, HJ.out, by go_num, _, HN2⟩
      case measure => have := HJ2.out; simp [intOf]; omega
    · obtain rfl : j = n := by omega
      have hi := HI.out
      have hb := (Below.refl wr.heap.size wr).alloc (Nat.le_refl _) (.cells #[.slice A' j c'] 102)
      have hi2 := hi.below hb
      have hbk := Blk.new wr 102 #[.slice A' j c']
      have hgs : GsL (wr.alloc (.cells #[.slice A' j c'] 102)) wr.heap.size A' j c' Ls' gs := by
        refine ⟨hbk, hi.len, HH.out.gn, own_mono_ hi2.own (Nat.zero_le _), fun a h1 h2 => (hi2.at_ a h1 h2 (by rw [← hi.len]; exact h1)).1, fun a b h1 h2 hab => hi2.ap a b h1 h2 (by rw [← hi.len]; exact h1) (by rw [← hi.len]; exact h2) hab⟩
      have HG := kept (And.intro hgs (And.intro (show ∀ q, footG wr.heap.size A' j c' Ls' q → w.heap.size ≤ q from fun q hq => by
        rcases hq with e | e | ⟨L, hL, e⟩
        · rw [e]; exact hi.bel.size
        · exact (gown_lt hi.own e).1
        · obtain ⟨a, ha, rfl⟩ := List.getElem_of_mem hL
          exact (hi.at_ a ha (by rw [HH.out.gn, ← hi.len]; exact ha) (by rw [← hi.len]; exact ha)).2 q e) (bel_to hb hi.bel)))
      clear hi hb hi2 hbk hgs HI
      go_wp2
      go_ret
      exact ⟨wr.heap.size, _, rfl, ⟨A', j, c', Ls', HG.out.1, fun _ => Iff.rfl⟩, HG.out.2.1, HG.out.2.2⟩
end Go.Proofs.YtlckeebbjnhejaaGreat
end

section
/-
  package gens: a put comes: add.
-/
namespace Go.Proofs.YtlckeebbjnhejaaGreat
open Go.ChangeShapes Go.WideShapes Go.ChangeAt Go.RowKit Go.Deep
set_option linter.unusedVariables false
set_option linter.unusedSimpArgs false
theorem last_set (Li : List GL) (L L' : GL) (m : Nat) (h : Li.length = m) : (Li ++ [L]).set m L' = Li ++ [L'] := by
  rw [List.set_append_right _ _ (by omega), h, Nat.sub_self]; rfl
theorem add_on {w : World} {r g m k : Nat} {Li : List GL} {L : GL} {gi : List Gn} {x : Gn} (h : Last w r g m k Li L gi x) (hn : m + 1 ≤ 1000000) (hn2 : L.n ≤ 1000000) (hx : x.ended = false) (q : Rv) (c v : Int) :
    Calls Tryz.prog 83 #[.pointer (some ⟨r, 0, none⟩), .agg #[.int .i64 q.1, .int .i64 q.2, .int .i64 c, .int .i64 v]] w fun e w' => e = .returned (.tuple #[]) ∧
      ∃ A' k', GsL w' r (some ⟨g, 0, none⟩) (m + 1) k ((Li ++ [L]).set m { L with A := A', n := L.n + 1, k := k' }) ((gi ++ [x]).set m { x with ps := x.ps ++ [q] }) ∧
        (∀ j, footG r (some ⟨g, 0, none⟩) (m + 1) k ((Li ++ [L]).set m { L with A := A', n := L.n + 1, k := k' }) j → footG r (some ⟨g, 0, none⟩) (m + 1) k (Li ++ [L]) j ∨ w.heap.size ≤ j) ∧ Turned w w' (footG r (some ⟨g, 0, none⟩) (m + 1) k (Li ++ [L])) := by
  have hB0 := (Below.refl w.heap.size w).alloc (Nat.le_refl _) (.cells #[.int .i64 q.1, .int .i64 q.2, .int .i64 c, .int .i64 v] 31)
  have h0 := h.below hB0
  have HK := kept (Blk.new w 31 #[.int .i64 q.1, .int .i64 q.2, .int .i64 c, .int .i64 v])
  have HG0 := kept (going_some h0 hn)
  rw [hx] at HG0
  have HL := kept h0
  have HB := kept hB0
  have HH := kept h
  clear h h0 hB0 hx
  go_enter Tryz.func83, Tryz.ntmps83
  go_wp2_with fail
  generalize w.alloc (.cells #[.int .i64 q.1, .int .i64 q.2, .int .i64 c, .int .i64 v] 31) = W0 at HG0 HK HB HL ⊢
  with_reducible refine HG0.out.mono ?_
  rintro e w1 ⟨rfl, hb⟩
  have hl1 := HL.out.below hb
  have hk := HK.out.below hb HK.out.lt
  have HS0 := kept (show (fun W' : World => (W'.cell? ⟨w.heap.size, 0, none⟩ = some (.int .i64 q.1) ∧ W'.cell? ⟨w.heap.size, 1, none⟩ = some (.int .i64 q.2)) ∧ W'.cell? ⟨g, m * 5 + 2, none⟩ = some (.slice L.A L.n L.k)) w1.drew from ⟨⟨hk.cell 0, hk.cell 1⟩, hl1.c2⟩)
  have hb01 := bel_to hb HB.out
  have hbX : Below w1.heap.size w1 (w1.alloc (.cells #[.int .i64 q.1, .int .i64 q.2] 29)).drew := ((Below.refl _ w1).alloc (Nat.le_refl _) _).drew
  have HX := kept (And.intro (hl1.below hbX) (And.intro (hk.below hbX hk.lt) (And.intro (bel_to hbX hb01) (show (w1.alloc (.cells #[.int .i64 q.1, .int .i64 q.2] 29)).drew.cell? ⟨w1.heap.size, 0, none⟩ = some (.int .i64 q.1) ∧ (w1.alloc (.cells #[.int .i64 q.1, .int .i64 q.2] 29)).drew.cell? ⟨w1.heap.size, 1, none⟩ = some (.int .i64 q.2) from two_new w1 29 q.1 q.2))))
  clear hb hk hl1 hb01 hbX
  go_wp2
  refine region_L [11] ((fun W' => (W'.cell? ⟨w.heap.size, 0, none⟩ = some (.int .i64 q.1) ∧ W'.cell? ⟨w.heap.size, 1, none⟩ = some (.int .i64 q.2)) ∧ W'.cell? ⟨g, m * 5 + 2, none⟩ = some (.slice L.A L.n L.k))) (by kernel_rfl) ?_ (fun hHeld => ?_)
  · ((try dsimp only); (first | with_reducible exact HS0.out | with_reducible exact HS1.out | (with_reducible exact HS2.out)))
  (try simp only [List.size_toArray, List.length_cons, List.length_nil, Nat.reduceAdd, Array.replicate_succ, Array.replicate_zero, List.push_toArray, List.append_toArray, List.nil_append, List.cons_append])
  refine take_P 0 (some 9) ?_ (by (intro o ho w; (simp only [List.getElem?_toArray, List.getElem?_cons_succ, List.getElem?_cons_zero, Option.some.injEq] at ho); subst ho; go_simp; (first | done | with_reducible rfl))) (by ((try simp only [Act.put, hA, h0, h1]); (first | done | rfl))) (by first | exact fun _ => by assumption | exact fun hE => absurd hE (by decide))
  (try simp only [Act.put, List.setIfInBounds_toArray, List.set_cons_zero, List.set_cons_succ])
  refine take_P 1 (some 10) ?_ (by (intro o ho w; (simp only [List.getElem?_toArray, List.getElem?_cons_succ, List.getElem?_cons_zero, Option.some.injEq] at ho); subst ho; go_simp; (first | done | with_reducible rfl))) (by ((try simp only [Act.put, hA, h0, h1]); (first | done | rfl))) (by first | exact fun _ => by assumption | exact fun hE => absurd hE (by decide))
  (try simp only [Act.put, List.setIfInBounds_toArray, List.set_cons_zero, List.set_cons_succ])
  refine take_P 2 (some 11) ?_ (by (intro o ho w; (simp only [List.getElem?_toArray, List.getElem?_cons_succ, List.getElem?_cons_zero, Option.some.injEq] at ho); subst ho; go_simp; (first | done | with_reducible rfl))) (by ((try simp only [Act.put, hA, h0, h1]); (first | done | rfl))) (by first | exact fun _ => by assumption | exact fun hE => absurd hE (by decide))
  (try simp only [Act.put, List.setIfInBounds_toArray, List.set_cons_zero, List.set_cons_succ])
  refine take_P 3 (some 12) ?_ (by (intro o ho w; (simp only [List.getElem?_toArray, List.getElem?_cons_succ, List.getElem?_cons_zero, Option.some.injEq] at ho); subst ho; go_simp; (first | done | with_reducible rfl))) (by ((try simp only [Act.put, hA, h0, h1]); (first | done | rfl))) (by first | exact fun _ => by assumption | exact fun hE => absurd hE (by decide))
  (try simp only [Act.put, List.setIfInBounds_toArray, List.set_cons_zero, List.set_cons_succ])
  refine take_L 4 (some 13) ?_ (by (intro o ho w hSw; (simp only [List.getElem?_toArray, List.getElem?_cons_succ, List.getElem?_cons_zero, Option.some.injEq] at ho); subst ho; (try dsimp only at hSw); go_simp; (first | done | with_reducible rfl))) (by ((try simp only [Act.put, hA, h0, h1]); (first | done | rfl)))
  (try simp only [Act.put, List.setIfInBounds_toArray, List.set_cons_zero, List.set_cons_succ])
  refine take_P 5 (some 14) ?_ (by (intro o ho w; (simp only [List.getElem?_toArray, List.getElem?_cons_succ, List.getElem?_cons_zero, Option.some.injEq] at ho); subst ho; go_simp; (first | done | with_reducible rfl))) (by ((try simp only [Act.put, hA, h0, h1]); (first | done | rfl))) (by first | exact fun _ => by assumption | exact fun hE => absurd hE (by decide))
  (try simp only [Act.put, List.setIfInBounds_toArray, List.set_cons_zero, List.set_cons_succ])
  refine take_L 6 (some 15) ?_ (by (intro o ho w hSw; (simp only [List.getElem?_toArray, List.getElem?_cons_succ, List.getElem?_cons_zero, Option.some.injEq] at ho); subst ho; (try dsimp only at hSw); go_simp; (first | done | with_reducible rfl))) (by ((try simp only [Act.put, hA, h0, h1]); (first | done | rfl)))
  (try simp only [Act.put, List.setIfInBounds_toArray, List.set_cons_zero, List.set_cons_succ])
  refine ready_L 7 (fun o ho K hK => ?_)
  (simp only [List.getElem?_toArray, List.getElem?_cons_succ, List.getElem?_cons_zero, Option.some.injEq] at ho)
  subst ho
  go_simp
  (generalize (w1.alloc (.cells #[.int .i64 q.1, .int .i64 q.2] 29)).drew = W7 at HX ⊢; (have HS1 := kept (show (fun W' : World => (W'.cell? ⟨w.heap.size, 0, none⟩ = some (.int .i64 q.1) ∧ W'.cell? ⟨w.heap.size, 1, none⟩ = some (.int .i64 q.2)) ∧ W'.cell? ⟨g, m * 5 + 2, none⟩ = some (.slice L.A L.n L.k)) W7 from ⟨⟨HX.out.2.1.cell 0, HX.out.2.1.cell 1⟩, HX.out.1.c2⟩)))
  refine hK.out _ _ ?_ (fun hHeld => ?_)
  · (first | exact fun hE => absurd hE (by decide) | (intro _; (try dsimp only); (first | with_reducible exact HS0.out | with_reducible exact HS1.out | (with_reducible exact HS2.out))))
  clear hK K
  (try replace hHeld := hHeld (by decide))
  (try simp only [Act.put, List.setIfInBounds_toArray, List.set_cons_zero, List.set_cons_succ])
  refine ready_L 8 (fun o ho K hK => ?_)
  (simp only [List.getElem?_toArray, List.getElem?_cons_succ, List.getElem?_cons_zero, Option.some.injEq] at ho)
  subst ho
  (refine wp_append_g (.tmp 13) (.tmp 16) 41 rfl 29 ⟨w1.heap.size, 0, none⟩ rfl rfl Tryz.underlying41 revinfo rfl (by decide) (by decide) HX.out.1.at_.own (ys := [.int .i64 q.1, .int .i64 q.2]) rfl (fun j u hj => ?_) (by intro u hu; simp only [List.mem_cons, List.not_mem_nil, or_false] at hu; rcases hu with rfl | rfl <;> rfl) (by omega) (Nat.zero_le _) (by omega) ?_; (match j with | 0 => (cases hj; rw [gadd_at]; exact HX.out.2.2.2.1) | 1 => (cases hj; rw [gadd_at]; exact HX.out.2.2.2.2) | (j + 2) => cases hj); intro A8 c8 w8 h8 g8 loc8; (have t8 : Turned W7 w8 (fun j => L.row.ownBlock = some j) := Turned.of_grown g8 (fun j e => e)); (have hLm : L ∈ Li ++ [L] := by simp); (have hg8 := gown_turned HX.out.1.gs.own t8 (fun j hj e => HX.out.1.gs.own_row hLm hj e)); (have hk8 := t8.blk HX.out.2.1 (fun e => by obtain ⟨cc, hcc⟩ := HX.out.1.gs.row_cl hLm e; exact ne_of_types hcc (show W7.heap[w.heap.size]? = some _ from HX.out.2.1) (by decide) rfl)); (have hc8 : w8.cell? ⟨g, m * 5 + 2, none⟩ = some (.slice L.A L.n L.k) := (World.cell?_of_block (t8.block g (HX.out.1.gs.lt (.inr (.inl rfl))) (fun e => HX.out.1.gs.own_row hLm rfl e))).trans HX.out.1.c2); (obtain ⟨cur8, hcur8⟩ := gown_cl (k := 0) hg8 (g := g) rfl); (have f8 := gfrozen hcur8 (m * 5 + 2)); (have HS2 := kept (show (fun W' : World => (W'.cell? ⟨w.heap.size, 0, none⟩ = some (.int .i64 q.1) ∧ W'.cell? ⟨w.heap.size, 1, none⟩ = some (.int .i64 q.2)) ∧ W'.cell? ⟨g, m * 5 + 2, none⟩ = some (.slice L.A L.n L.k)) w8 from ⟨⟨hk8.cell 0, hk8.cell 1⟩, hc8⟩)); (have HO8 := kept h8); (have HR8 := kept (And.intro hg8 (And.intro t8 loc8))); clear h8 g8 loc8 t8 hLm hg8 hk8 hcur8)
  refine hK.out _ _ ?_ (fun hHeld => ?_)
  · (first | exact fun hE => absurd hE (by decide) | (intro _; (try dsimp only); (first | with_reducible exact HS0.out | with_reducible exact HS1.out | (with_reducible exact HS2.out))))
  clear hK K
  (try replace hHeld := hHeld (by decide))
  (try simp only [Act.put, List.setIfInBounds_toArray, List.set_cons_zero, List.set_cons_succ])
  refine take_P 9 (some 18) ?_ (by (intro o ho w; (simp only [List.getElem?_toArray, List.getElem?_cons_succ, List.getElem?_cons_zero, Option.some.injEq] at ho); subst ho; go_simp; (first | done | with_reducible rfl))) (by ((try simp only [Act.put, hA, h0, h1]); (first | done | rfl))) (by first | exact fun _ => by assumption | exact fun hE => absurd hE (by decide))
  (try simp only [Act.put, List.setIfInBounds_toArray, List.set_cons_zero, List.set_cons_succ])
  refine take_P 10 (some 19) ?_ (by (intro o ho w; (simp only [List.getElem?_toArray, List.getElem?_cons_succ, List.getElem?_cons_zero, Option.some.injEq] at ho); subst ho; go_simp; (first | done | with_reducible rfl))) (by ((try simp only [Act.put, hA, h0, h1]); (first | done | rfl))) (by first | exact fun _ => by assumption | exact fun hE => absurd hE (by decide))
  (try simp only [Act.put, List.setIfInBounds_toArray, List.set_cons_zero, List.set_cons_succ])
  refine ready_L 11 (fun o ho K hK => ?_)
  (simp only [List.getElem?_toArray, List.getElem?_cons_succ, List.getElem?_cons_zero, Option.some.injEq] at ho)
  subst ho
  go_simp
  skip
  refine hK.out _ _ ?_ (fun hHeld => ?_)
  · (first | exact fun hE => absurd hE (by decide) | (intro _; (try dsimp only); (first | with_reducible exact HS0.out | with_reducible exact HS1.out | (with_reducible exact HS2.out))))
  clear hK K
  (try replace hHeld := hHeld (by decide))
  (try simp only [Act.put, List.setIfInBounds_toArray, List.set_cons_zero, List.set_cons_succ])
  refine done_L (by kernel_rfl) ?_ _
  clear hHeld hc8 f8
  go_wp2
  go_returns
  obtain ⟨hg8, t8, loc8⟩ := HR8.out
  have h := HH.out
  have hml : m < (Li ++ [L]).length := by rw [List.length_append, h.lm]; simp
  have e1 : (Li ++ [L])[m] = L := by rw [List.getElem_append_right (by rw [h.lm]; exact Nat.le_refl _)]; simp
  have hro : ∀ j, (Value.slice A8 (L.n + 1) c8).ownBlock = some j → j ≠ g := fun j hj => by
    obtain ⟨ca, hca⟩ := gown_cl (k := 0) HO8.out hj
    obtain ⟨cb, hcb⟩ := gown_cl (k := 0) hg8 (g := g) rfl
    exact ne_of_types hca hcb (by decide)
  have t9 : Turned w8 (w8.setCell ⟨g, m * 5 + 2, none⟩ (.slice A8 (L.n + 1) c8)) (fun j => j = g) := (Turned.refl w8 (fun j => j = g)).setCell (p := ⟨g, m * 5 + 2, none⟩) (fun _ => rfl) _
  have hset := gown_set hg8 (m * 5 + 2) (.slice A8 (L.n + 1) c8)
  rw [glC_set (Li ++ [L]) m hml 2 (.slice A8 (L.n + 1) c8) { L with A := A8, n := L.n + 1, k := c8 } (by decide) (by rw [e1]; rfl)] at hset
  have hb7 := HX.out.2.2.1
  refine ⟨rfl, A8, c8, ?_⟩
  refine h.gs.left_at rfl m hml _ { x with ps := x.ps ++ [q] } hset ⟨h.at_.c, h.at_.v, h.at_.e, by simp [h.at_.n], ?_⟩ ?_ ?_
  · rw [rvC_append]
    exact gown_turned HO8.out t9 hro
  · rw [e1]
    exact ((Turned.of_below hb7 (fun j => j = g ∨ L.row.ownBlock = some j)).trans (t8.mono (fun _ _ e => .inr e))).trans (t9.mono (fun _ _ e => .inl e))
  · rw [e1]
    intro j hj
    rcases loc8 with e | e
    · exact .inl (e.symm.trans hj)
    · have e2 := e.symm.trans hj
      exact .inr (by have := hb7.size; injection e2 with e2; omega)
/-- A new generation comes. -/
theorem add_new {w : World} {r : Nat} {A : Option Addr} {n k : Nat} {Ls : List GL} {gs : List Gn} (h : GsL w r A n k Ls gs) (hn : n ≤ 1000000) (HG : ∀ W, Below w.heap.size w W → Hid (Calls Tryz.prog 85 #[.pointer (some ⟨r, 0, none⟩)] W fun e w' => e = .returned (.pointer none) ∧ Below W.heap.size W w')) (q : Rv) (c v : Int) :
    Calls Tryz.prog 83 #[.pointer (some ⟨r, 0, none⟩), .agg #[.int .i64 q.1, .int .i64 q.2, .int .i64 c, .int .i64 v]] w fun e w' => e = .returned (.tuple #[]) ∧
      ∃ A' k' L', GsL w' r A' (n + 1) k' (Ls ++ [L']) (gs ++ [⟨c, v, [q], (0, 0)⟩]) ∧ (∀ j, footG r A' (n + 1) k' (Ls ++ [L']) j → footG r A n k Ls j ∨ w.heap.size ≤ j) ∧ Turned w w' (footG r A n k Ls) := by
  have hB0 := (Below.refl w.heap.size w).alloc (Nat.le_refl _) (.cells #[.int .i64 q.1, .int .i64 q.2, .int .i64 c, .int .i64 v] 31)
  have h0 := h.below hB0
  have HK := kept (Blk.new w 31 #[.int .i64 q.1, .int .i64 q.2, .int .i64 c, .int .i64 v])
  have HG0 := HG _ hB0
  have HL := kept h0
  have HB := kept hB0
  have HH := kept h
  clear h h0 hB0 HG
  go_enter Tryz.func83, Tryz.ntmps83
  go_wp2_with fail
  generalize w.alloc (.cells #[.int .i64 q.1, .int .i64 q.2, .int .i64 c, .int .i64 v] 31) = W0 at HG0 HK HB HL ⊢
  with_reducible refine HG0.out.mono ?_
  rintro e w1 ⟨rfl, hb⟩
  have hl1 := HL.out.below hb
  have hk := HK.out.below hb HK.out.lt
  have HS0 := kept (show (fun W' : World => (W'.cell? ⟨w.heap.size, 0, none⟩ = some (.int .i64 q.1) ∧ W'.cell? ⟨w.heap.size, 1, none⟩ = some (.int .i64 q.2) ∧ W'.cell? ⟨w.heap.size, 2, none⟩ = some (.int .i64 c) ∧ W'.cell? ⟨w.heap.size, 3, none⟩ = some (.int .i64 v)) ∧ W'.cell? ⟨r, 0, none⟩ = some (.slice A n k)) w1.drew from ⟨⟨hk.cell 0, hk.cell 1, hk.cell 2, hk.cell 3⟩, hl1.box.cell 0⟩)
  have HB1 := kept (bel_to hb HB.out)
  have HL1 := kept (And.intro hl1 hk)
  clear hb hk hl1
  go_wp2
  refine region_L [17] ((fun W' => (W'.cell? ⟨w.heap.size, 0, none⟩ = some (.int .i64 q.1) ∧ W'.cell? ⟨w.heap.size, 1, none⟩ = some (.int .i64 q.2) ∧ W'.cell? ⟨w.heap.size, 2, none⟩ = some (.int .i64 c) ∧ W'.cell? ⟨w.heap.size, 3, none⟩ = some (.int .i64 v)) ∧ W'.cell? ⟨r, 0, none⟩ = some (.slice A n k))) (by kernel_rfl) ?_ (fun hHeld => ?_)
  · ((try dsimp only); (first | with_reducible exact HS0.out | with_reducible exact HS1.out | (with_reducible exact HS2.out) | (with_reducible exact HS3.out)))
  (try simp only [List.size_toArray, List.length_cons, List.length_nil, Nat.reduceAdd, Array.replicate_succ, Array.replicate_zero, List.push_toArray, List.append_toArray, List.nil_append, List.cons_append])
  refine take_P 0 (some 20) ?_ (by (intro o ho w; (simp only [List.getElem?_toArray, List.getElem?_cons_succ, List.getElem?_cons_zero, Option.some.injEq] at ho); subst ho; go_simp; (first | done | with_reducible rfl))) (by ((try simp only [Act.put, hA, h0, h1]); (first | done | rfl))) (by first | exact fun _ => by assumption | exact fun hE => absurd hE (by decide))
  (try simp only [Act.put, List.setIfInBounds_toArray, List.set_cons_zero, List.set_cons_succ])
  refine take_P 1 (some 21) ?_ (by (intro o ho w; (simp only [List.getElem?_toArray, List.getElem?_cons_succ, List.getElem?_cons_zero, Option.some.injEq] at ho); subst ho; go_simp; (first | done | with_reducible rfl))) (by ((try simp only [Act.put, hA, h0, h1]); (first | done | rfl))) (by first | exact fun _ => by assumption | exact fun hE => absurd hE (by decide))
  (try simp only [Act.put, List.setIfInBounds_toArray, List.set_cons_zero, List.set_cons_succ])
  refine take_P 2 (some 22) ?_ (by (intro o ho w; (simp only [List.getElem?_toArray, List.getElem?_cons_succ, List.getElem?_cons_zero, Option.some.injEq] at ho); subst ho; go_simp; (first | done | with_reducible rfl))) (by ((try simp only [Act.put, hA, h0, h1]); (first | done | rfl))) (by first | exact fun _ => by assumption | exact fun hE => absurd hE (by decide))
  (try simp only [Act.put, List.setIfInBounds_toArray, List.set_cons_zero, List.set_cons_succ])
  refine take_P 3 (some 23) ?_ (by (intro o ho w; (simp only [List.getElem?_toArray, List.getElem?_cons_succ, List.getElem?_cons_zero, Option.some.injEq] at ho); subst ho; go_simp; (first | done | with_reducible rfl))) (by ((try simp only [Act.put, hA, h0, h1]); (first | done | rfl))) (by first | exact fun _ => by assumption | exact fun hE => absurd hE (by decide))
  (try simp only [Act.put, List.setIfInBounds_toArray, List.set_cons_zero, List.set_cons_succ])
  refine take_L 4 (some 24) ?_ (by (intro o ho w hSw; (simp only [List.getElem?_toArray, List.getElem?_cons_succ, List.getElem?_cons_zero, Option.some.injEq] at ho); subst ho; (try dsimp only at hSw); go_simp; (first | done | with_reducible rfl))) (by ((try simp only [Act.put, hA, h0, h1]); (first | done | rfl)))
  (try simp only [Act.put, List.setIfInBounds_toArray, List.set_cons_zero, List.set_cons_succ])
  refine take_P 5 (some 25) ?_ (by (intro o ho w; (simp only [List.getElem?_toArray, List.getElem?_cons_succ, List.getElem?_cons_zero, Option.some.injEq] at ho); subst ho; go_simp; (first | done | with_reducible rfl))) (by ((try simp only [Act.put, hA, h0, h1]); (first | done | rfl))) (by first | exact fun _ => by assumption | exact fun hE => absurd hE (by decide))
  (try simp only [Act.put, List.setIfInBounds_toArray, List.set_cons_zero, List.set_cons_succ])
  refine take_L 6 (some 26) ?_ (by (intro o ho w hSw; (simp only [List.getElem?_toArray, List.getElem?_cons_succ, List.getElem?_cons_zero, Option.some.injEq] at ho); subst ho; (try dsimp only at hSw); go_simp; (first | done | with_reducible rfl))) (by ((try simp only [Act.put, hA, h0, h1]); (first | done | rfl)))
  (try simp only [Act.put, List.setIfInBounds_toArray, List.set_cons_zero, List.set_cons_succ])
  refine take_P 7 (some 27) ?_ (by (intro o ho w; (simp only [List.getElem?_toArray, List.getElem?_cons_succ, List.getElem?_cons_zero, Option.some.injEq] at ho); subst ho; go_simp; (first | done | with_reducible rfl))) (by ((try simp only [Act.put, hA, h0, h1]); (first | done | rfl))) (by first | exact fun _ => by assumption | exact fun hE => absurd hE (by decide))
  (try simp only [Act.put, List.setIfInBounds_toArray, List.set_cons_zero, List.set_cons_succ])
  refine take_L 8 (some 28) ?_ (by (intro o ho w hSw; (simp only [List.getElem?_toArray, List.getElem?_cons_succ, List.getElem?_cons_zero, Option.some.injEq] at ho); subst ho; (try dsimp only at hSw); go_simp; (first | done | with_reducible rfl))) (by ((try simp only [Act.put, hA, h0, h1]); (first | done | rfl)))
  (try simp only [Act.put, List.setIfInBounds_toArray, List.set_cons_zero, List.set_cons_succ])
  refine take_P 9 (some 29) ?_ (by (intro o ho w; (simp only [List.getElem?_toArray, List.getElem?_cons_succ, List.getElem?_cons_zero, Option.some.injEq] at ho); subst ho; go_simp; (first | done | with_reducible rfl))) (by ((try simp only [Act.put, hA, h0, h1]); (first | done | rfl))) (by first | exact fun _ => by assumption | exact fun hE => absurd hE (by decide))
  (try simp only [Act.put, List.setIfInBounds_toArray, List.set_cons_zero, List.set_cons_succ])
  refine take_L 10 (some 30) ?_ (by (intro o ho w hSw; (simp only [List.getElem?_toArray, List.getElem?_cons_succ, List.getElem?_cons_zero, Option.some.injEq] at ho); subst ho; (try dsimp only at hSw); go_simp; (first | done | with_reducible rfl))) (by ((try simp only [Act.put, hA, h0, h1]); (first | done | rfl)))
  (try simp only [Act.put, List.setIfInBounds_toArray, List.set_cons_zero, List.set_cons_succ])
  refine ready_L 11 (fun o ho K hK => ?_)
  (simp only [List.getElem?_toArray, List.getElem?_cons_succ, List.getElem?_cons_zero, Option.some.injEq] at ho)
  subst ho
  go_simp
  (refine name_world (fun W11 hW11 => ?_); (have hb11 : Below w1.heap.size w1 W11 := by rw [hW11]; exact ((Below.refl _ w1).alloc (Nat.le_refl _) _).drew); (have hr11 : Blk W11 w1.heap.size 29 [.int .i64 q.1, .int .i64 q.2] := by rw [hW11]; exact Blk.new w1 29 #[.int .i64 q.1, .int .i64 q.2]); (have hk11 := HL1.out.2.below hb11 HL1.out.2.lt); have hl11 := HL1.out.1.below hb11; (have HS1 := kept (show (fun W' : World => (W'.cell? ⟨w.heap.size, 0, none⟩ = some (.int .i64 q.1) ∧ W'.cell? ⟨w.heap.size, 1, none⟩ = some (.int .i64 q.2) ∧ W'.cell? ⟨w.heap.size, 2, none⟩ = some (.int .i64 c) ∧ W'.cell? ⟨w.heap.size, 3, none⟩ = some (.int .i64 v)) ∧ W'.cell? ⟨r, 0, none⟩ = some (.slice A n k)) W11 from ⟨⟨hk11.cell 0, hk11.cell 1, hk11.cell 2, hk11.cell 3⟩, hl11.box.cell 0⟩)); have HW11 := kept (And.intro hb11 (And.intro hr11 (And.intro hk11 hl11))); clear hW11 hb11 hr11 hk11 hl11)
  refine hK.out _ _ ?_ (fun hHeld => ?_)
  · (first | exact fun hE => absurd hE (by decide) | (intro _; (try dsimp only); (first | with_reducible exact HS0.out | with_reducible exact HS1.out | (with_reducible exact HS2.out) | (with_reducible exact HS3.out))))
  clear hK K
  (try replace hHeld := hHeld (by decide))
  (try simp only [Act.put, List.setIfInBounds_toArray, List.set_cons_zero, List.set_cons_succ])
  refine take_P 12 (some 32) ?_ (by (intro o ho w; (simp only [List.getElem?_toArray, List.getElem?_cons_succ, List.getElem?_cons_zero, Option.some.injEq] at ho); subst ho; go_simp; (first | done | with_reducible rfl))) (by ((try simp only [Act.put, hA, h0, h1]); (first | done | rfl))) (by first | exact fun _ => by assumption | exact fun hE => absurd hE (by decide))
  (try simp only [Act.put, List.setIfInBounds_toArray, List.set_cons_zero, List.set_cons_succ])
  refine ready_L 13 (fun o ho K hK => ?_)
  (simp only [List.getElem?_toArray, List.getElem?_cons_succ, List.getElem?_cons_zero, Option.some.injEq] at ho)
  subst ho
  go_simp
  (refine name_world (fun W13 hW13 => ?_); (have hb13 : Below W11.heap.size W11 W13 := by rw [hW13]; exact ((Below.refl _ W11).alloc (Nat.le_refl _) _)); (have hg13 : Blk W13 W11.heap.size 99 [.int .i64 c, .int .i64 v, .slice (some ⟨w1.heap.size, 0, none⟩) 1 1, .int .i64 0, .int .i64 0] := by rw [hW13]; exact Blk.new W11 99 #[.int .i64 c, .int .i64 v, .slice (some ⟨w1.heap.size, 0, none⟩) 1 1, .int .i64 0, .int .i64 0]); (obtain ⟨hb11, hr11, hk11, hl11⟩ := HW11.out); (have hr13 := hr11.below hb13 hr11.lt); (have hk13 := hk11.below hb13 hk11.lt); have hl13 := hl11.below hb13; (have HS2 := kept (show (fun W' : World => (W'.cell? ⟨w.heap.size, 0, none⟩ = some (.int .i64 q.1) ∧ W'.cell? ⟨w.heap.size, 1, none⟩ = some (.int .i64 q.2) ∧ W'.cell? ⟨w.heap.size, 2, none⟩ = some (.int .i64 c) ∧ W'.cell? ⟨w.heap.size, 3, none⟩ = some (.int .i64 v)) ∧ W'.cell? ⟨r, 0, none⟩ = some (.slice A n k)) W13 from ⟨⟨hk13.cell 0, hk13.cell 1, hk13.cell 2, hk13.cell 3⟩, hl13.box.cell 0⟩)); have HW13 := kept (And.intro (bel_to hb13 hb11) (And.intro hr13 (And.intro hk13 (And.intro hl13 hg13)))); clear hW13 hb13 hg13 hb11 hr11 hk11 hl11 hr13 hk13 hl13)
  refine hK.out _ _ ?_ (fun hHeld => ?_)
  · (first | exact fun hE => absurd hE (by decide) | (intro _; (try dsimp only); (first | with_reducible exact HS0.out | with_reducible exact HS1.out | (with_reducible exact HS2.out) | (with_reducible exact HS3.out))))
  clear hK K
  (try replace hHeld := hHeld (by decide))
  (try simp only [Act.put, List.setIfInBounds_toArray, List.set_cons_zero, List.set_cons_succ])
  refine ready_L 14 (fun o ho K hK => ?_)
  (simp only [List.getElem?_toArray, List.getElem?_cons_succ, List.getElem?_cons_zero, Option.some.injEq] at ho)
  subst ho
  (refine wp_append_g (.tmp 24) (.tmp 33) 100 rfl 99 ⟨W11.heap.size, 0, none⟩ rfl rfl Tryz.underlying100 geninfo rfl (by decide) (by decide) HW13.out.2.2.2.1.own (ys := [.int .i64 c, .int .i64 v, .slice (some ⟨w1.heap.size, 0, none⟩) 1 1, .int .i64 0, .int .i64 0]) rfl (fun j u hj => ?_) (by intro u hu; simp only [List.mem_cons, List.not_mem_nil, or_false] at hu; rcases hu with rfl | rfl | rfl | rfl | rfl <;> rfl) (by omega) (Nat.zero_le _) (by omega) ?_; (rw [gadd_at, Nat.zero_add, HW13.out.2.2.2.2.cell j]; exact hj); intro A8 c8 w8 h8 g8 loc8; (have t8 : Turned W13 w8 (fun j => (Value.slice A n k).ownBlock = some j) := Turned.of_grown g8 (fun j e => e)); (obtain ⟨hb13, hr13, hk13, hl13, hg13⟩ := HW13.out); (have hbox8 := t8.blk hl13.box (fun e => hl13.r_own e)); (have hr8 := t8.blk hr13 (fun e => by obtain ⟨ca, hca⟩ := gown_cl (k := 0) hl13.own e; exact ne_of_types hca (show W13.heap[w1.heap.size]? = some _ from hr13) (by decide) rfl)); (have hk8 := t8.blk hk13 (fun e => by obtain ⟨ca, hca⟩ := gown_cl (k := 0) hl13.own e; exact ne_of_types hca (show W13.heap[w.heap.size]? = some _ from hk13) (by decide) rfl)); (have HS3 := kept (show (fun W' : World => (W'.cell? ⟨w.heap.size, 0, none⟩ = some (.int .i64 q.1) ∧ W'.cell? ⟨w.heap.size, 1, none⟩ = some (.int .i64 q.2) ∧ W'.cell? ⟨w.heap.size, 2, none⟩ = some (.int .i64 c) ∧ W'.cell? ⟨w.heap.size, 3, none⟩ = some (.int .i64 v)) ∧ W'.cell? ⟨r, 0, none⟩ = some (.slice A n k)) w8 from ⟨⟨hk8.cell 0, hk8.cell 1, hk8.cell 2, hk8.cell 3⟩, hbox8.cell 0⟩)); (have hc8 : w8.cell? ⟨r, 0, none⟩ = some (.slice A n k) := hbox8.cell 0); have f8 := hbox8.frozen 0; have HW8 := kept (And.intro h8 (And.intro t8 (And.intro loc8 (And.intro hbox8 (And.intro hr8 hb13))))); clear h8 g8 loc8 t8 hb13 hr13 hk13 hl13 hg13 hbox8 hr8 hk8)
  refine hK.out _ _ ?_ (fun hHeld => ?_)
  · (first | exact fun hE => absurd hE (by decide) | (intro _; (try dsimp only); (first | with_reducible exact HS0.out | with_reducible exact HS1.out | (with_reducible exact HS2.out) | (with_reducible exact HS3.out))))
  clear hK K
  (try replace hHeld := hHeld (by decide))
  (try simp only [Act.put, List.setIfInBounds_toArray, List.set_cons_zero, List.set_cons_succ])
  refine take_P 15 (some 35) ?_ (by (intro o ho w; (simp only [List.getElem?_toArray, List.getElem?_cons_succ, List.getElem?_cons_zero, Option.some.injEq] at ho); subst ho; go_simp; (first | done | with_reducible rfl))) (by ((try simp only [Act.put, hA, h0, h1]); (first | done | rfl))) (by first | exact fun _ => by assumption | exact fun hE => absurd hE (by decide))
  (try simp only [Act.put, List.setIfInBounds_toArray, List.set_cons_zero, List.set_cons_succ])
  refine take_P 16 (some 36) ?_ (by (intro o ho w; (simp only [List.getElem?_toArray, List.getElem?_cons_succ, List.getElem?_cons_zero, Option.some.injEq] at ho); subst ho; go_simp; (first | done | with_reducible rfl))) (by ((try simp only [Act.put, hA, h0, h1]); (first | done | rfl))) (by first | exact fun _ => by assumption | exact fun hE => absurd hE (by decide))
  (try simp only [Act.put, List.setIfInBounds_toArray, List.set_cons_zero, List.set_cons_succ])
  refine ready_L 17 (fun o ho K hK => ?_)
  (simp only [List.getElem?_toArray, List.getElem?_cons_succ, List.getElem?_cons_zero, Option.some.injEq] at ho)
  subst ho
  go_simp
  skip
  refine hK.out _ _ ?_ (fun hHeld => ?_)
  · (first | exact fun hE => absurd hE (by decide) | (intro _; (try dsimp only); (first | with_reducible exact HS0.out | with_reducible exact HS1.out | (with_reducible exact HS2.out) | (with_reducible exact HS3.out))))
  clear hK K
  (try replace hHeld := hHeld (by decide))
  (try simp only [Act.put, List.setIfInBounds_toArray, List.set_cons_zero, List.set_cons_succ])
  refine done_L (by kernel_rfl) ?_ _
  clear hHeld hc8 f8
  go_wp2
  go_returns
  obtain ⟨h8, t8, loc8, hbox8, hr8, hb13⟩ := HW8.out
  replace hb13 := bel_to hb13 HB1.out
  have h := HH.out
  have t9 : Turned w8 (w8.setCell ⟨r, 0, none⟩ (.slice A8 (n + 1) c8)) (fun j => j = r) := (Turned.refl w8 (fun j => j = r)).setCell (p := ⟨r, 0, none⟩) (fun _ => rfl) _
  have hnr : ∀ j, (Value.slice A8 (n + 1) c8).ownBlock = some j → j ≠ r := fun j hj => by
    obtain ⟨ca, hca⟩ := gown_cl (k := 0) h8 hj
    exact ne_of_types hca (show w8.heap[r]? = some _ from hbox8) (by decide)
  have hrr : w1.heap.size ≠ r := ne_of_types (show w8.heap[w1.heap.size]? = some _ from hr8) (show w8.heap[r]? = some _ from hbox8) (by decide)
  have h9 := gown_turned h8 t9 hnr
  rw [show glC Ls ++ [.int .i64 c, .int .i64 v, .slice (some ⟨w1.heap.size, 0, none⟩) 1 1, .int .i64 0, .int .i64 0] = glC (Ls ++ [⟨c, v, some ⟨w1.heap.size, 0, none⟩, 1, 1, (0, 0)⟩]) by rw [glC_append]; rfl] at h9
  have hr9 := t9.blk hr8 hrr
  refine ⟨rfl, A8, c8, ⟨c, v, some ⟨w1.heap.size, 0, none⟩, 1, 1, (0, 0)⟩, ?_⟩
  refine h.left_more ⟨c, v, some ⟨w1.heap.size, 0, none⟩, 1, 1, (0, 0)⟩ ⟨c, v, [q], (0, 0)⟩ h9 ⟨rfl, rfl, rfl, rfl, ?_⟩ (hbox8.set_ 0 _) ?_ (fun j hj => ?_) (fun j hj => ?_)
  · exact ⟨rfl, .inr ⟨w1.heap.size, 1, _, rfl, Nat.zero_le _, hr9, Nat.le_refl _, by decide, rfl, rfl⟩⟩
  · exact ((Turned.of_below hb13 (fun j => j = r ∨ (Value.slice A n k).ownBlock = some j)).trans (t8.mono (fun _ _ e => .inr e))).trans (t9.mono (fun _ _ e => .inl e))
  · obtain rfl : w1.heap.size = j := by simpa [GL.row, Value.ownBlock] using hj
    exact HB1.out.size
  · rcases loc8 with e | e
    · exact .inl (e.symm.trans hj)
    · have e2 := e.symm.trans hj
      exact .inr (by have := hb13.size; injection e2 with e2; omega)
end Go.Proofs.YtlckeebbjnhejaaGreat
end

section
/-
  package gens, call by call: Put, Tomb, Restore.
-/
namespace Go.Proofs.YtlckeebbjnhejaaGreat
open Go.ChangeShapes Go.WideShapes Go.ChangeAt Go.RowKit Go.Deep
set_option linter.unusedVariables false
set_option linter.unusedSimpArgs false

def goingG (gs : List Gn) : Bool := match gs.getLast? with | some x => !x.ended | none => false
def addG (gs : List Gn) (q : Rv) (c v : Int) : List Gn := match gs.getLast? with
  | some x => if x.ended then gs ++ [⟨c, v, [q], (0, 0)⟩] else gs.dropLast ++ [{ x with ps := x.ps ++ [q] }]
  | none => gs ++ [⟨c, v, [q], (0, 0)⟩]
def endG (gs : List Gn) (q : Rv) : List Gn := match gs.getLast? with
  | some x => gs.dropLast ++ [{ x with e := q }]
  | none => gs
theorem last_set' (gi : List Gn) (x x' : Gn) (m : Nat) (h : gi.length = m) : (gi ++ [x]).set m x' = gi ++ [x'] := by
  rw [List.set_append_right _ _ (by omega), h, Nat.sub_self]; rfl
theorem going_any {w : World} {r : Nat} {A : Option Addr} {n k : Nat} {Ls : List GL} {gs : List Gn} (h : GsL w r A n k Ls gs) (hn : n ≤ 1000000) (hg : goingG gs = false) :
    Calls Tryz.prog 85 #[.pointer (some ⟨r, 0, none⟩)] w fun e w' => e = .returned (.pointer none) ∧ Below w.heap.size w w' := by
  rcases h.snoc with ⟨rfl, rfl, rfl⟩ | ⟨g, m, Li, L, gi, x, rfl, rfl, rfl, rfl, hl⟩
  · exact going_nil h
  · have hx : x.ended = true := by simpa [goingG] using hg
    have := going_some hl hn
    rw [hx] at this
    exact this
theorem next_any {w : World} {r : Nat} {A : Option Addr} {n k : Nat} {Ls : List GL} {gs : List Gn} (h : GsL w r A n k Ls gs) (hn : n ≤ 1000000) (q : Rv) :
    Calls Tryz.prog 84 #[.pointer (some ⟨r, 0, none⟩), .agg #[.int .i64 q.1, .int .i64 q.2]] w fun e w' => e = .returned (.agg #[.int .i64 q.1, .int .i64 q.2, .int .i64 (nextG gs q).1, .int .i64 (nextG gs q).2]) ∧ Below w.heap.size w w' := by
  cases hg : goingG gs
  · have e : nextG gs q = (q.1, 1) := by
      unfold nextG
      unfold goingG at hg
      cases hl : gs.getLast? with
      | none => rfl
      | some x => rw [hl] at hg; simp only [Bool.not_eq_false'] at hg; simp [hg]
    rw [e]
    exact next_new q (fun W hb => kept (going_any (h.below hb) hn hg))
  · rcases h.snoc with ⟨rfl, rfl, rfl⟩ | ⟨g, m, Li, L, gi, x, rfl, rfl, rfl, rfl, hl⟩
    · simp [goingG] at hg
    · have hx : x.ended = false := by simpa [goingG] using hg
      have e : nextG (gi ++ [x]) q = (L.c, wrap64 (L.v + (L.n : Int))) := by
        simp [nextG, hx, hl.at_.c, hl.at_.v, hl.at_.n]
      rw [e]
      exact next_on hl hn hx q
theorem add_any {w : World} {r : Nat} {F : Nat → Prop} {gs : List Gn} (h : Gs w r F gs) {N : Nat} (hN : BdG gs N) (hn : N ≤ 900000) (q : Rv) (c v : Int) :
    Calls Tryz.prog 83 #[.pointer (some ⟨r, 0, none⟩), .agg #[.int .i64 q.1, .int .i64 q.2, .int .i64 c, .int .i64 v]] w fun e w' => e = .returned (.tuple #[]) ∧ GLeft w r F (addG gs q c v) w' := by
  obtain ⟨A, n, k, Ls, h, hF⟩ := h
  have hnN : n ≤ N := by rw [← h.gn]; exact hN.1
  cases hg : goingG gs
  · have e : addG gs q c v = gs ++ [⟨c, v, [q], (0, 0)⟩] := by
      unfold addG
      unfold goingG at hg
      cases hl : gs.getLast? with
      | none => rfl
      | some x => rw [hl] at hg; simp only [Bool.not_eq_false'] at hg; simp [hg]
    rw [e]
    refine (add_new h (by omega) (fun W hb => kept (going_any (h.below hb) (by omega) hg)) q c v).mono ?_
    rintro e w' ⟨rfl, A', k', L', h1, h2, h3⟩
    exact ⟨rfl, _, ⟨A', n + 1, k', _, h1, fun j => Iff.rfl⟩, fun j hj => (h2 j hj).imp (fun e => (hF j).2 e) id, h3.mono fun j _ e => (hF j).2 e⟩
  · rcases h.snoc with ⟨rfl, rfl, rfl⟩ | ⟨g, m, Li, L, gi, x, rfl, rfl, rfl, rfl, hl⟩
    · simp [goingG] at hg
    · have hx : x.ended = false := by simpa [goingG] using hg
      have e : addG (gi ++ [x]) q c v = (gi ++ [x]).set m { x with ps := x.ps ++ [q] } := by
        rw [last_set' _ _ _ _ hl.gm]
        simp [addG, hx]
      rw [e]
      have hxN := hN.2 x (by simp)
      refine (add_on hl (by omega) (by rw [hl.at_.n]; omega) hx q c v).mono ?_
      rintro e w' ⟨rfl, A', k', h1, h2, h3⟩
      exact ⟨rfl, _, ⟨_, m + 1, k, _, h1, fun j => Iff.rfl⟩, fun j hj => (h2 j hj).imp (fun e => (hF j).2 e) id, h3.mono fun j _ e => (hF j).2 e⟩
def putG (gs : List Gn) (q : Rv) : List Gn := if mcG gs q = 0 then addG gs q (nextG gs q).1 (nextG gs q).2 else gs
theorem mayCome_g {w : World} {r : Nat} {F : Nat → Prop} {gs : List Gn} (h : Gs w r F gs) (hi : GInv gs) {N : Nat} (hN : BdG gs N) (hn : N ≤ 900000) (q : Rv) :
    Calls Tryz.prog 82 #[.pointer (some ⟨r, 0, none⟩), .agg #[.int .i64 q.1, .int .i64 q.2]] w fun e w' => e = .returned (.int .i64 (mcG gs q)) ∧ Below w.heap.size w w' := by
  obtain ⟨A, n, k, Ls, h, hF⟩ := h
  exact mayCome_any h hi hN (by omega) q
theorem next_g {w : World} {r : Nat} {F : Nat → Prop} {gs : List Gn} (h : Gs w r F gs) {N : Nat} (hN : BdG gs N) (hn : N ≤ 900000) (q : Rv) :
    Calls Tryz.prog 84 #[.pointer (some ⟨r, 0, none⟩), .agg #[.int .i64 q.1, .int .i64 q.2]] w fun e w' => e = .returned (.agg #[.int .i64 q.1, .int .i64 q.2, .int .i64 (nextG gs q).1, .int .i64 (nextG gs q).2]) ∧ Below w.heap.size w w' := by
  obtain ⟨A, n, k, Ls, h, hF⟩ := h
  exact next_any h (by have := hN.1; rw [h.gn] at this; omega) q
theorem mcG_cases (gs : List Gn) (q : Rv) : mcG gs q = 0 ∨ mcG gs q = 8 ∨ mcG gs q = 2 := by
  unfold mcG
  split
  · split <;> simp
  · simp
/-- What only adds to memory first, then turns a history. -/
theorem GLeft.after {w w1 w' : World} {r : Nat} {F : Nat → Prop} {gs : List Gn} (hb : Below w.heap.size w w1) (h : GLeft w1 r F gs w') : GLeft w r F gs w' := by
  obtain ⟨F', h1, h2, h3⟩ := h
  exact ⟨F', h1, fun j hj => (h2 j hj).imp id (fun e => Nat.le_trans hb.size e), (Turned.of_below hb F).trans h3⟩
set_option maxHeartbeats 1000000 in
theorem gput_any {w : World} {r : Nat} {F : Nat → Prop} {gs : List Gn} (h : Gs w r F gs) (hi : GInv gs) {N : Nat} (hN : BdG gs N) (hn : N ≤ 900000) (q : Rv) :
    Calls Tryz.prog 48 #[.pointer (some ⟨r, 0, none⟩), .agg #[.int .i64 q.1, .int .i64 q.2]] w fun e w' => e = .returned (.int .i64 (mcG gs q)) ∧ GLeft w r F (putG gs q) w' := by
  have hB0 := (Below.refl w.heap.size w).alloc (Nat.le_refl _) (.cells #[.int .i64 q.1, .int .i64 q.2] 29)
  have HT := kept (two_new w 29 q.1 q.2)
  obtain ⟨t0, t1⟩ := HT.out
  have H := kept (h.below hB0)
  have HB := kept hB0
  have HM := kept (mayCome_g H.out hi hN hn q)
  have HNX := fun W (hb : Gs W r F gs) => kept (next_g hb hN hn q)
  have HA := fun W (hb : Gs W r F gs) => kept (add_any hb hN hn q (nextG gs q).1 (nextG gs q).2)
  have HPY : Hid (mcG gs q = 0 → putG gs q = addG gs q (nextG gs q).1 (nextG gs q).2) := kept (fun e => by unfold putG; rw [if_pos e])
  have HPN : Hid (mcG gs q ≠ 0 → putG gs q = gs) := kept (fun e => by unfold putG; rw [if_neg e])
  have hc := mcG_cases gs q
  generalize mcG gs q = e0 at HM HPY HPN hc ⊢
  generalize putG gs q = P at HPY HPN ⊢
  generalize addG gs q (nextG gs q).1 (nextG gs q).2 = P' at HA HPY
  generalize nextG gs q = nx at HNX HA
  clear hB0 h
  rcases hc with rfl | rfl | rfl
  · obtain rfl := HPY.out rfl
    clear HPY HPN
    go_enter Tryz.func48, Tryz.ntmps48
    go_wp2_with fail
    generalize w.alloc (.cells #[.int .i64 q.1, .int .i64 q.2] 29) = W0 at H HB HM HT t0 t1 ⊢
    with_reducible refine HM.out.mono ?_
    rintro e w1 ⟨rfl, hb⟩
    obtain ⟨u0, u1⟩ := HT.out.keeps (Keeps.of_below hb)
    have H1 := kept (H.out.below hb)
    have HB1 := kept (bel_to hb HB.out)
    clear hb t0 t1
    go_wp2_with (first | (go_at_call 84; (with_reducible refine ((HNX _ H1.out).out).mono ?_); rintro e w2 ⟨rfl, hb⟩; have H2 := kept (H1.out.below hb); have HB2 := kept (bel_to hb HB1.out); clear hb) | (go_at_call 83; (with_reducible refine ((HA _ H2.out).out).mono ?_); rintro e w3 ⟨rfl, hl⟩; have H3 := kept hl; clear hl))
    go_ret
    exact ⟨rfl, H3.out.after HB2.out⟩
  all_goals
    obtain rfl := HPN.out (by decide)
    clear HPY HPN
    go_enter Tryz.func48, Tryz.ntmps48
    go_wp2_with (first | (go_at_call 82; (with_reducible refine (HM.out).mono ?_); rintro e w1 ⟨rfl, hb⟩; have HX := kept (GLeft.after HB.out (GLeft.of_below H.out hb)); clear hb))
    go_ret
    exact ⟨rfl, HX.out⟩
/-- Tomb: what it answers, and what it leaves. -/
def tombC (gs : List Gn) (q : Rv) : Int := if mcG gs q = 0 then (if goingG gs then 0 else 7) else mcG gs q
def tombG (gs : List Gn) (q : Rv) : List Gn := if mcG gs q = 0 then (if goingG gs then endG gs q else gs) else gs
theorem tomb_no {w : World} {r : Nat} {F : Nat → Prop} {gs : List Gn} (h : Gs w r F gs) (hi : GInv gs) {N : Nat} (hN : BdG gs N) (hn : N ≤ 900000) (q : Rv) (hm : mcG gs q ≠ 0) :
    Calls Tryz.prog 50 #[.pointer (some ⟨r, 0, none⟩), .agg #[.int .i64 q.1, .int .i64 q.2]] w fun e w' => e = .returned (.int .i64 (mcG gs q)) ∧ Below w.heap.size w w' := by
  have hB0 := (Below.refl w.heap.size w).alloc (Nat.le_refl _) (.cells #[.int .i64 q.1, .int .i64 q.2] 29)
  have HM := kept (mayCome_g (h.below hB0) hi hN hn q)
  have HB := kept hB0
  have hc := mcG_cases gs q
  generalize mcG gs q = e0 at HM hc hm ⊢
  clear hB0 h
  rcases hc with rfl | rfl | rfl
  · exact absurd rfl hm
  all_goals
    go_enter Tryz.func50, Tryz.ntmps50
    go_wp2_with (first | (go_at_call 82; (with_reducible refine (HM.out).mono ?_); rintro e w1 ⟨rfl, hb⟩; have HX := kept (bel_to hb HB.out); clear hb))
    go_ret
    exact ⟨rfl, HX.out⟩
theorem tomb_none {w : World} {r : Nat} {F : Nat → Prop} {gs : List Gn} (h : Gs w r F gs) (hi : GInv gs) {N : Nat} (hN : BdG gs N) (hn : N ≤ 900000) (q : Rv) (hm : mcG gs q = 0) (hg : goingG gs = false) :
    Calls Tryz.prog 50 #[.pointer (some ⟨r, 0, none⟩), .agg #[.int .i64 q.1, .int .i64 q.2]] w fun e w' => e = .returned (.int .i64 7) ∧ Below w.heap.size w w' := by
  have hB0 := (Below.refl w.heap.size w).alloc (Nat.le_refl _) (.cells #[.int .i64 q.1, .int .i64 q.2] 29)
  have HM := kept (mayCome_g (h.below hB0) hi hN hn q)
  rw [hm] at HM
  have HB := kept hB0
  have H := kept (h.below hB0)
  have HG := fun W (h : Gs W r F gs) => kept (show Calls _ _ _ W _ from by
    obtain ⟨A, n, k, Ls, h, hF⟩ := h
    exact going_any h (by have := hN.1; rw [h.gn] at this; omega) hg)
  clear hB0 h hm hg hi hN
  go_enter Tryz.func50, Tryz.ntmps50
  go_wp2_with (first | (go_at_call 82; (with_reducible refine (HM.out).mono ?_); rintro e w1 ⟨rfl, hb⟩; have H1 := kept (H.out.below hb); have HX := kept (bel_to hb HB.out); clear hb) | (go_at_call 85; (with_reducible refine ((HG _ H1.out).out).mono ?_); rintro e w2 ⟨rfl, hb⟩; have HX2 := kept (bel_to hb HX.out); clear hb))
  go_ret
  exact ⟨rfl, HX2.out⟩
set_option maxHeartbeats 1000000 in
theorem tomb_on {w : World} {r g m k : Nat} {Li : List GL} {L : GL} {gi : List Gn} {x : Gn} (h : Last w r g m k Li L gi x) (hi : GInv (gi ++ [x])) {N : Nat} (hN : BdG (gi ++ [x]) N) (hn : N ≤ 900000) (q : Rv) (hm : mcG (gi ++ [x]) q = 0) (hx : x.ended = false) :
    Calls Tryz.prog 50 #[.pointer (some ⟨r, 0, none⟩), .agg #[.int .i64 q.1, .int .i64 q.2]] w fun e w' => e = .returned (.int .i64 0) ∧
      GsL w' r (some ⟨g, 0, none⟩) (m + 1) k ((Li ++ [L]).set m { L with e := q }) ((gi ++ [x]).set m { x with e := q }) ∧
        (∀ j, footG r (some ⟨g, 0, none⟩) (m + 1) k ((Li ++ [L]).set m { L with e := q }) j → footG r (some ⟨g, 0, none⟩) (m + 1) k (Li ++ [L]) j ∨ w.heap.size ≤ j) ∧ Turned w w' (footG r (some ⟨g, 0, none⟩) (m + 1) k (Li ++ [L])) := by
  have hB0 := (Below.refl w.heap.size w).alloc (Nat.le_refl _) (.cells #[.int .i64 q.1, .int .i64 q.2] 29)
  have HT := kept (two_new w 29 q.1 q.2)
  obtain ⟨t0, t1⟩ := HT.out
  have h0 := h.below hB0
  have HM := kept (mayCome_any h0.gs hi hN (by omega) q)
  rw [hm] at HM
  have hmN : m + 1 ≤ 1000000 := by have := hN.1; rw [h.gs.gn] at this; omega
  have HG := fun W (h : Last W r g m k Li L gi x) => kept (going_some h hmN)
  rw [hx] at HG
  have HB := kept hB0
  have H := kept h0
  have HH := kept h
  clear hB0 h h0 hm hi hN hx
  go_enter Tryz.func50, Tryz.ntmps50
  go_wp2_with fail
  generalize w.alloc (.cells #[.int .i64 q.1, .int .i64 q.2] 29) = W0 at H HB HM HT t0 t1 ⊢
  with_reducible refine HM.out.mono ?_
  rintro e w1 ⟨rfl, hb⟩
  have H1 := kept (H.out.below hb)
  have HB1 := kept (bel_to hb HB.out)
  have HT1 := kept (HT.out.keeps (Keeps.of_below hb))
  clear hb t0 t1
  go_wp2_with fail
  with_reducible refine (HG _ H1.out).out.mono ?_
  rintro e w2 ⟨rfl, hb⟩
  have h2 := H1.out.below hb
  have hc3 : w2.cell? ⟨g, m * 5 + 3, none⟩ = some (.int .i64 L.e.1) := h2.c3
  have hc4 : w2.cell? ⟨g, m * 5 + 4, none⟩ = some (.int .i64 L.e.2) := h2.c4
  obtain ⟨cur, hcur⟩ := gown_cl (k := 0) h2.gs.own (g := g) rfl
  have f3 := gfrozen hcur (m * 5 + 3)
  have f4 := gfrozen hcur (m * 5 + 4)
  obtain ⟨u0, u1⟩ := HT1.out.keeps (Keeps.of_below hb)
  have H2 := kept h2
  have HB2 := kept (bel_to hb HB1.out)
  clear hb h2 hcur
  go_wp2
  go_ret
  have h := HH.out
  have h2 := H2.out
  have hml : m < (Li ++ [L]).length := by rw [List.length_append, h.lm]; simp
  have e1 : (Li ++ [L])[m] = L := by rw [List.getElem_append_right (by rw [h.lm]; exact Nat.le_refl _)]; simp
  have hs1 := gown_set h2.gs.own (m * 5 + 3) (.int .i64 q.1)
  rw [glC_set (Li ++ [L]) m hml 3 (.int .i64 q.1) { L with e := (q.1, L.e.2) } (by decide) (by rw [e1]; rfl)] at hs1
  have hs2 := gown_set hs1 (m * 5 + 4) (.int .i64 q.2)
  rw [glC_set _ m (by rw [List.length_set]; exact hml) 4 (.int .i64 q.2) { L with e := q } (by decide) (by rw [List.getElem_set_self]; rfl), List.set_set] at hs2
  have t9 : Turned w2 ((w2.setCell ⟨g, m * 5 + 3, none⟩ (.int .i64 q.1)).setCell ⟨g, m * 5 + 4, none⟩ (.int .i64 q.2)) (fun j => j = g) := ((Turned.refl w2 (fun j => j = g)).setCell (p := ⟨g, m * 5 + 3, none⟩) (fun _ => rfl) _).setCell (p := ⟨g, m * 5 + 4, none⟩) (fun _ => rfl) _
  refine ⟨rfl, ?_⟩
  refine h.gs.left_at rfl m hml _ { x with e := q } hs2 ⟨h.at_.c, h.at_.v, rfl, h.at_.n, ?_⟩ ?_ ?_
  · exact gown_turned h2.at_.own t9 (fun j hj e => h2.gs.own_row (L := L) (by simp) rfl (by rw [← e]; exact hj))
  · rw [e1]
    exact ((Turned.of_below HB2.out (fun j => j = g ∨ L.row.ownBlock = some j)).trans (t9.mono (fun _ _ e => .inl e)))
  · rw [e1]
    exact fun j hj => .inl hj
theorem gtomb_any {w : World} {r : Nat} {F : Nat → Prop} {gs : List Gn} (h : Gs w r F gs) (hi : GInv gs) {N : Nat} (hN : BdG gs N) (hn : N ≤ 900000) (q : Rv) :
    Calls Tryz.prog 50 #[.pointer (some ⟨r, 0, none⟩), .agg #[.int .i64 q.1, .int .i64 q.2]] w fun e w' => e = .returned (.int .i64 (tombC gs q)) ∧ GLeft w r F (tombG gs q) w' := by
  unfold tombC tombG
  by_cases hm : mcG gs q = 0
  · rw [if_pos hm, if_pos hm]
    cases hg : goingG gs
    · refine (tomb_none h hi hN hn q hm hg).mono ?_
      rintro e w' ⟨rfl, hb⟩
      exact ⟨rfl, GLeft.of_below h hb⟩
    · obtain ⟨A, n, k, Ls, h, hF⟩ := h
      rcases h.snoc with ⟨rfl, rfl, rfl⟩ | ⟨g, m, Li, L, gi, x, rfl, rfl, rfl, rfl, hl⟩
      · simp [goingG] at hg
      · have hx : x.ended = false := by simpa [goingG] using hg
        have e : endG (gi ++ [x]) q = (gi ++ [x]).set m { x with e := q } := by
          rw [last_set' _ _ _ _ hl.gm]
          simp [endG]
        simp only [if_true]
        rw [e]
        refine (tomb_on hl hi hN hn q hm hx).mono ?_
        rintro e w' ⟨rfl, h1, h2, h3⟩
        exact ⟨rfl, _, ⟨_, m + 1, k, _, h1, fun j => Iff.rfl⟩, fun j hj => (h2 j hj).imp (fun e => (hF j).2 e) id, h3.mono fun j _ e => (hF j).2 e⟩
  · rw [if_neg hm, if_neg hm]
    refine (tomb_no h hi hN hn q hm).mono ?_
    rintro e w' ⟨rfl, hb⟩
    exact ⟨rfl, GLeft.of_below h hb⟩
end Go.Proofs.YtlckeebbjnhejaaGreat
end
