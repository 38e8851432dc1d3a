/-
  package gens: the last revision of all, what may come, what comes next.
-/
import Derived.Test.YthpaliagmnclfaaGh
namespace Go.Proofs.Ythpaliagmnclfaa
open Go.ChangeShapes Go.WideShapes Go.ChangeAt Go.RowKit Go.Deep
set_option linter.unusedVariables false
set_option linter.unusedSimpArgs false

theorem newest_last (gi : List Gn) {x : Gn} (h : x.ps ≠ []) : newestG (gi ++ [x]) = x.revs.getLastD (0, 0) := by
  unfold newestG
  rw [flat_snoc]
  have hx : x.revs ≠ [] := by
    unfold Gn.revs
    intro e
    exact h (List.append_eq_nil_iff.1 e).1
  rw [List.getLastD_eq_getLast?, List.getLastD_eq_getLast?, List.getLast?_append]
  cases hv : x.revs.getLast? with
  | none => exact absurd (List.getLast?_eq_none_iff.1 hv) hx
  | some y => simp
theorem gnewest_any {w : World} {r : Nat} {A : Option Addr} {n k : Nat} {Ls : List GL} {gs : List Gn} (h : GsL w r A n k Ls gs) (hi : GInv gs) {N : Nat} (hN : BdG gs N) (hn : N ≤ 1000000) :
    Calls Try.prog 44 #[.pointer (some ⟨r, 0, none⟩)] w fun e w' => e = .returned (.agg #[.int .i64 (newestG gs).1, .int .i64 (newestG gs).2]) ∧ Below w.heap.size w w' := by
  have hgn := h.gn
  have hB0 := (Below.refl w.heap.size w).alloc (Nat.le_refl _) (.cells #[.int .i64 0, .int .i64 0] 29)
  have HB0 := kept hB0
  have HK0 := kept (Blk.new w 29 #[.int .i64 0, .int .i64 0])
  have h0 := h.below hB0
  clear hB0 h
  rcases h0.snoc with ⟨rfl, rfl, rfl⟩ | ⟨g, m, Li, L, gi, x, rfl, rfl, rfl, rfl, hl⟩
  · have HL := kept (last_nil h0)
    clear h0
    show Calls _ _ _ _ fun e w' => e = .returned (.agg #[.int .i64 0, .int .i64 0]) ∧ Below w.heap.size w w'
    go_enter Try.func44, Try.ntmps44
    go_wp2_with fail
    generalize w.alloc (.cells #[.int .i64 0, .int .i64 0] 29) = W0 at HB0 HK0 HL ⊢
    with_reducible refine HL.out.mono ?_
    rintro e w1 ⟨rfl, hb⟩
    have hk := HK0.out.below hb HK0.out.lt
    have q0 : w1.cell? ⟨w.heap.size, 0, none⟩ = some (.int .i64 0) := hk.cell 0
    have q1 : w1.cell? ⟨w.heap.size, 1, none⟩ = some (.int .i64 0) := hk.cell 1
    have f0 := hk.frozen 0
    have f1 := hk.frozen 1
    have HB1 := kept (bel_to hb HB0.out)
    have HK1 := kept hk
    clear hb hk
    go_wp2
    have hx2 := gstore2 HK1.out HB1.out (Nat.le_refl _) (.int .i64 0) (.int .i64 0)
    generalize (w1.setCell ⟨w.heap.size, 0, none⟩ (.int .i64 0)).setCell ⟨w.heap.size, 1, none⟩ (.int .i64 0) = X at hx2 ⊢
    obtain ⟨⟨v0, v1⟩, hbx⟩ := hx2
    exact bodyPost_ret (v := .agg #[.int .i64 0, .int .i64 0]) (by simp [results, Try.results44, go_sem, v0, v1]) rfl ⟨rfl, hbx⟩
  · have hN1 := hN.1
    rw [hgn] at hN1
    have hxm : x ∈ gi ++ [x] := by simp
    have hxp := hi.ne x hxm
    have hxN := hN.2 x hxm
    have HL := kept (last_some h0 (by omega))
    rw [newest_last gi hxp]
    have HX := fun W (hb : RdR W L.A L.n x.ps) => kept (newestx_any L x hl.at_.e hl.at_.n W hb (by rw [hl.at_.n]; omega) hxp)
    simp only [GL.val] at HX
    generalize x.revs.getLastD (0, 0) = z at HX ⊢
    have HLL := kept hl
    clear h0 hl hxp hxm hxN hN1 hN hi hgn
    go_enter Try.func44, Try.ntmps44
    go_wp2_with fail
    generalize w.alloc (.cells #[.int .i64 0, .int .i64 0] 29) = W0 at HB0 HK0 HL HLL ⊢
    with_reducible refine HL.out.mono ?_
    rintro e w1 ⟨rfl, hb⟩
    have hl1 := HLL.out.below hb
    have c0 := hl1.c0
    have c1 := hl1.c1
    have c2 := hl1.c2
    have c3 := hl1.c3
    have c4 := hl1.c4
    have HX1 := kept (HX w1 (RdR.of_own hl1.at_.own)).out
    have hk := HK0.out.below hb HK0.out.lt
    have HB1 := kept (bel_to hb HB0.out)
    have HK1 := kept hk
    clear hb hk hl1
    go_wp2_with fail
    with_reducible refine HX1.out.mono ?_
    rintro e w2 ⟨rfl, hb⟩
    have hk := HK1.out.below hb HK1.out.lt
    have q0 : w2.cell? ⟨w.heap.size, 0, none⟩ = some (.int .i64 0) := hk.cell 0
    have q1 : w2.cell? ⟨w.heap.size, 1, none⟩ = some (.int .i64 0) := hk.cell 1
    have f0 := hk.frozen 0
    have f1 := hk.frozen 1
    have HB2 := kept (bel_to hb HB1.out)
    have HK2 := kept hk
    clear hb hk
    go_wp2
    have hx2 := gstore2 HK2.out HB2.out (Nat.le_refl _) (.int .i64 z.1) (.int .i64 z.2)
    generalize (w2.setCell ⟨w.heap.size, 0, none⟩ (.int .i64 z.1)).setCell ⟨w.heap.size, 1, none⟩ (.int .i64 z.2) = X at hx2 ⊢
    obtain ⟨⟨v0, v1⟩, hbx⟩ := hx2
    exact bodyPost_ret (v := .agg #[.int .i64 z.1, .int .i64 z.2]) (by simp [results, Try.results44, go_sem, v0, v1]) rfl ⟨rfl, hbx⟩
/-- May a change of this revision come? -/
def mcG (gs : List Gn) (q : Rv) : Int := if rightR q.1 q.2 = true then (if ltR (newestG gs) q = true then 0 else 8) else 2
theorem mayCome_any {w : World} {r : Nat} {A : Option Addr} {n k : Nat} {Ls : List GL} {gs : List Gn} (h : GsL w r A n k Ls gs) (hi : GInv gs) {N : Nat} (hN : BdG gs N) (hn : N ≤ 1000000) (q : Rv) :
    Calls Try.prog 31 #[.pointer (some ⟨r, 0, none⟩), .agg #[.int .i64 q.1, .int .i64 q.2]] w fun e w' => e = .returned (.int .i64 (mcG gs q)) ∧ Below w.heap.size w w' := by
  have hB0 := (Below.refl w.heap.size w).alloc (Nat.le_refl _) (.cells #[.int .i64 q.1, .int .i64 q.2] 29)
  have HT := kept (two_new w 29 q.1 q.2)
  obtain ⟨t0, t1⟩ := HT.out
  have HR := kept (right_r q.1 q.2 (w.alloc (.cells #[.int .i64 q.1, .int .i64 q.2] 29)))
  have H := kept (h.below hB0)
  have HB := kept hB0
  have HNW := fun W (hg : GsL W r A n k Ls gs) => kept (gnewest_any hg hi hN hn)
  have HC := fun W => kept (cmp_pair q (newestG gs) W)
  have hle := le_of_ordR (a := q) (b := newestG gs)
  clear hB0 h hi hN
  unfold mcG
  generalize newestG gs = z at HNW HC hle ⊢
  generalize ordR q.1 q.2 z.1 z.2 = o at HC hle
  generalize ltR z q = lt at hle ⊢
  cases hr : rightR q.1 q.2
  · rw [hr] at HR
    go_enter Try.func31, Try.ntmps31
    go_wp2_with (first | (go_at_call 42; (with_reducible refine (HR.out).mono ?_); rintro e w1 ⟨rfl, hb⟩; have HB1 := kept (bel_to hb HB.out); clear hb))
    go_ret
    exact ⟨rfl, HB1.out⟩
  · rw [hr] at HR
    have hle' : decide (o ≤ 0) = !lt := hle
    cases lt
    all_goals
      simp only [Bool.not_true, Bool.not_false] at hle'
      go_enter Try.func31, Try.ntmps31
      go_wp2_with fail
      with_reducible refine HR.out.mono ?_
      rintro e w1 ⟨rfl, hb⟩
      have HB1 := kept (bel_to hb HB.out)
      have HS0 := kept (show (fun W' : World => W'.cell? ⟨w.heap.size, 0, none⟩ = some (.int .i64 q.1) ∧ W'.cell? ⟨w.heap.size, 1, none⟩ = some (.int .i64 q.2)) w1.drew from ⟨(Keeps.of_below hb).cell_ HT.out.1, (Keeps.of_below hb).cell_ HT.out.2⟩)
      have H1 := kept (H.out.below hb)
      have hbd : Below w1.heap.size w1 w1.drew := (Below.refl _ _).drew
      have HN1 := HNW w1.drew (H1.out.below hbd)
      have HBD := kept hbd
      clear hb hbd t0 t1
      go_wp2
      refine wp_region_held_drew (S := (fun W' => W'.cell? ⟨w.heap.size, 0, none⟩ = some (.int .i64 q.1) ∧ W'.cell? ⟨w.heap.size, 1, none⟩ = some (.int .i64 q.2))) (by kernel_rfl) ?_ (fun hHeld => ?_)
      · ((try dsimp only); (first | with_reducible exact HS0.out | with_reducible exact HS1.out | with_reducible exact HS2.out))
      refine hand_take 0 (some 13) ?_ (by kernel_rfl) (by kernel_rfl) (by kernel_rfl) (by kernel_rfl) (by kernel_rfl) (fun _ _ _ h => h) ?_ (by assumption) ?_
      rotate_left
      · (intro o ho w hSw; (simp only [List.getElem?_toArray, List.getElem?_cons_succ, List.getElem?_cons_zero, Option.some.injEq] at ho); subst ho; (try dsimp only at hSw); go_simp; (first | done | with_reducible rfl))
      (try simp only [Act.put, List.setIfInBounds_toArray, List.set_cons_zero, List.set_cons_succ])
      refine hand_take 1 (some 14) ?_ (by kernel_rfl) (by kernel_rfl) (by kernel_rfl) (by kernel_rfl) (by kernel_rfl) (fun _ _ _ h => h) ?_ (by assumption) ?_
      rotate_left
      · (intro o ho w hSw; (simp only [List.getElem?_toArray, List.getElem?_cons_succ, List.getElem?_cons_zero, Option.some.injEq] at ho); subst ho; (try dsimp only at hSw); go_simp; (first | done | with_reducible rfl))
      (try simp only [Act.put, List.setIfInBounds_toArray, List.set_cons_zero, List.set_cons_succ])
      refine hand_ready 2 (by kernel_rfl) (by kernel_rfl) (fun o ho K hK => ?_)
      (simp only [List.getElem?_toArray, List.getElem?_cons_succ, List.getElem?_cons_zero, Option.some.injEq] at ho)
      subst ho
      go_simp
      (go_at_call 44; (with_reducible refine HN1.out.mono ?_); rintro e w2 ⟨rfl, hb⟩; have HS1 := kept (show (fun W' : World => W'.cell? ⟨w.heap.size, 0, none⟩ = some (.int .i64 q.1) ∧ W'.cell? ⟨w.heap.size, 1, none⟩ = some (.int .i64 q.2)) w2 from ⟨(Keeps.of_below hb).cell_ HS0.out.1, (Keeps.of_below hb).cell_ HS0.out.2⟩); have HB2 := kept (bel_to hb HB1.out.drew); clear hb)
      (try go_wp2_with fail)
      refine hK.out _ _ ?_ (fun hHeld => ?_)
      · ((try dsimp only); (first | with_reducible exact HS0.out | with_reducible exact HS1.out | with_reducible exact HS2.out))
      clear hK K
      (try simp only [Act.put, List.setIfInBounds_toArray, List.set_cons_zero, List.set_cons_succ])
      refine hand_ready 3 (by kernel_rfl) (by kernel_rfl) (fun o ho K hK => ?_)
      (simp only [List.getElem?_toArray, List.getElem?_cons_succ, List.getElem?_cons_zero, Option.some.injEq] at ho)
      subst ho
      go_simp
      (go_at_call 37; (with_reducible refine (HC _).out.mono ?_); rintro e w3 ⟨rfl, hb⟩; have HS2 := kept (show (fun W' : World => W'.cell? ⟨w.heap.size, 0, none⟩ = some (.int .i64 q.1) ∧ W'.cell? ⟨w.heap.size, 1, none⟩ = some (.int .i64 q.2)) w3 from ⟨(Keeps.of_below hb).cell_ HS1.out.1, (Keeps.of_below hb).cell_ HS1.out.2⟩); have HB3 := kept (bel_to hb HB2.out); clear hb)
      (try go_wp2_with fail)
      refine hK.out _ _ ?_ (fun hHeld => ?_)
      · ((try dsimp only); (first | with_reducible exact HS0.out | with_reducible exact HS1.out | with_reducible exact HS2.out))
      clear hK K
      (try simp only [Act.put, List.setIfInBounds_toArray, List.set_cons_zero, List.set_cons_succ])
      refine hand_take 4 (some 17) ?_ (by kernel_rfl) (by kernel_rfl) (by kernel_rfl) (by kernel_rfl) (by kernel_rfl) (fun _ _ _ h => h) ?_ (by assumption) ?_
      rotate_left
      · (intro o ho w hSw; (simp only [List.getElem?_toArray, List.getElem?_cons_succ, List.getElem?_cons_zero, Option.some.injEq] at ho); subst ho; (try dsimp only at hSw); go_simp; (first | done | with_reducible rfl))
      (try simp only [Act.put, List.setIfInBounds_toArray, List.set_cons_zero, List.set_cons_succ])
      refine hand_take 5 (some 12) ?_ (by kernel_rfl) (by kernel_rfl) (by kernel_rfl) (by kernel_rfl) (by kernel_rfl) (fun _ _ _ h => h) ?_ (by assumption) ?_
      rotate_left
      · (intro o ho w hSw; (simp only [List.getElem?_toArray, List.getElem?_cons_succ, List.getElem?_cons_zero, Option.some.injEq] at ho); subst ho; (try dsimp only at hSw); go_simp; (first | done | with_reducible rfl))
      (try simp only [Act.put, List.setIfInBounds_toArray, List.set_cons_zero, List.set_cons_succ])
      refine wpAnyH_done (by kernel_rfl) ?_ _
      clear hHeld
      go_wp2
      go_ret
      exact ⟨rfl, HB3.out⟩
end Go.Proofs.Ythpaliagmnclfaa
