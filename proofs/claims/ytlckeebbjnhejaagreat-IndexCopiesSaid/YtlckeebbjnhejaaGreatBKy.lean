/-
  Texts laid together: Ky IndexCopiesWalk.
-/
import Derived.Test.YtlckeebbjnhejaaGreatBKn
import Derived.Test.YtlckeebbjnhejaaGreatBKv
section
/-
  Package index, call by call: Len, Copy.
-/
namespace Go.Proofs.YtlckeebbjnhejaaGreat
open Go.ChangeShapes Go.WideShapes Go.ChangeAt Go.RowKit Go.Deep
set_option linter.unusedVariables false
set_option linter.unusedSimpArgs false

theorem xlen_any {w : World} {x : Nat} {F : Nat → Prop} {l : Rv} {P : List PE} (h : Ix w x F l P) {t : Nat} (ht : P.length = t) :
    Calls Tryz.prog 18 #[.pointer (some ⟨x, 0, none⟩)] w fun e w' => e = .returned (.int .i64 (t : Int)) ∧ w = w' := by
  obtain ⟨A, n, k, Es, h, _, hP⟩ := h
  have hn : n = t := by rw [← h.ln, ← ht, ← hP, List.length_map]
  subst hn
  have h0 := h.box.cell 0
  clear h
  go_enter Tryz.func18, Tryz.ntmps18
  go_wp2
  go_returns
  exact ⟨rfl, rfl⟩
set_option maxRecDepth 100000 in
theorem cloE_any (A : Option Addr) (n c : Nat) (V : List Value) (w : World) (h : w.ownsRow 0 67 2 (.slice A n c) n V) (h1c : ∀ u ∈ V, u.oneCell' = true) (hn : n ≤ 1000000) :
    Calls Tryz.prog 29 #[.slice A n c] w fun e w' => ∃ A' c', e = .returned (.slice A' n c') ∧ w'.ownsRow w.heap.size 67 2 (.slice A' n c') n V ∧ Below w.heap.size w w' := by
  have q : ∀ (w : World) (a : Option Addr) (n c n' c' : Nat), (binOp .eql 68 (.slice a n c) (.slice none n' c')).run Tryz.prog w = .ok (.bool a.isNone) w := fun w a n c n' c' => Lib.run_eql_slice_nil w _ _ a n c n' c' Tryz.underlying68
  obtain ⟨h1, h2, h3⟩ := gown_cap h
  have hl := h.1
  cases A with
  | none =>
    obtain ⟨rfl, rfl⟩ := h3 rfl
    obtain rfl : V = [] := List.eq_nil_of_length_eq_zero (by omega)
    clear h
    go_enter Tryz.func29, Tryz.ntmps29
    go_wp2
    go_ret
    exact ⟨none, 0, rfl, World.ownsRow_nil _ _ _ _, Below.refl _ _⟩
  | some ad =>
    have had : ∃ g, ad = ⟨g, 0, none⟩ := by
      rcases h.2 with ⟨e0, _⟩ | ⟨g, cap, cur, hv, _⟩
      · cases e0
      · injection hv with hA _ _
        exact ⟨g, by injection hA⟩
    obtain ⟨g, rfl⟩ := had
    have hb0 := (Below.refl w.heap.size w).alloc (Nat.le_refl _) (.cells #[] 67)
    have HC := kept (fun j u (hu : V[j]? = some u) => (Keeps.of_below hb0).cell_ (h.cells (g := g) rfl j u hu))
    have HO : Hid ((w.alloc (.cells #[] 67)).ownsRow w.heap.size 67 2 (.slice (some ⟨w.heap.size, 0, none⟩) 0 0) 0 []) := kept ⟨rfl, .inr ⟨w.heap.size, 0, #[], rfl, Nat.le_refl _, Blk.new w 67 #[], Nat.le_refl _, Nat.zero_le _, rfl, rfl⟩⟩
    have HB := kept hb0
    have HSZ := kept (show w.heap.size ≤ (w.alloc (.cells #[] 67)).heap.size by simp)
    clear h hb0 h3
    go_enter Tryz.func29, Tryz.ntmps29
    go_wp2_with (first | (at_builtin; refine wpList_append_g rfl _ _ 68 rfl 67 ⟨g, 0, none⟩ rfl rfl Tryz.underlying68 xentinfo rfl (by decide) (by decide) HO.out (by exact hl) HC.out h1c (by omega) HSZ.out ?_; intro A8 c8 w8 h8 g8 loc8; have H8 := kept (And.intro h8 g8); clear h8 g8 loc8))
    go_returns
    obtain ⟨h8, g8⟩ := H8.out
    rw [Nat.zero_add, List.nil_append] at h8
    refine ⟨A8, c8, rfl, h8, HB.out.grown g8 HSZ.out (fun j hj => ?_)⟩
    simp [Value.ownBlock] at hj
    omega
theorem enX_set (Qs R : List EnL) (E E' : EnL) {a b : Value} (he : E'.cells = [a, b]) {i : Nat} (hi : Qs.length = i) : ((enX (Qs ++ E :: R)).set (i * 2) a).set (i * 2 + 1) b = enX (Qs ++ E' :: R) := by
  have h1 : (enX Qs).length = i * 2 := by rw [enX_length, hi]
  have hE : ∃ u v, E.cells = [u, v] := ⟨_, _, rfl⟩
  obtain ⟨u, v, hE⟩ := hE
  rw [enX_append, enX_append, enX_cons, enX_cons, he, hE, List.set_append_right _ _ (by omega), List.set_append_right _ _ (by omega), h1, Nat.sub_self, show i * 2 + 1 - i * 2 = 1 by omega]
  rfl
/-- Between two rounds of Copy: Qs are apart already. -/
structure CpX (w : World) (A' : Option Addr) (n c' : Nat) (Es Qs : List EnL) (i : Nat) (wi : World) : Prop where
  ql : Qs.length = i
  own : wi.ownsRow w.heap.size 67 2 (.slice A' n c') n (enX (Qs ++ Es.drop i))
  px : Qs.map EnL.px = (Es.take i).map EnL.px
  at_ : ∀ E ∈ Qs, EnAt wi E ∧ ∀ j, E.kb j ∨ E.F j → w.heap.size ≤ j
  ap : List.Pairwise (fun a b : EnL => ∀ j, a.F j → ¬ b.F j) Qs
  bel : Below w.heap.size w wi
theorem CpX.below {w wi w' : World} {A' : Option Addr} {n c' i : Nat} {Es Qs : List EnL} (h : CpX w A' n c' Es Qs i wi) (hb : Below wi.heap.size wi w') : CpX w A' n c' Es Qs i w' :=
  ⟨h.ql, gown_turned h.own (Turned.of_below hb (fun _ => False)) (fun _ _ e => e), h.px, fun E hE => ⟨(h.at_ E hE).1.turned (Turned.of_below hb (fun _ => False)) (fun _ _ e => e) (fun _ _ e => e), (h.at_ E hE).2⟩, h.ap, bel_to hb h.bel⟩
/-- One entry more is apart. -/
theorem CpX.step {w wi w5 : World} {A' : Option Addr} {n c' i : Nat} {Es Qs : List EnL} (h : CpX w A' n c' Es Qs i wi) {g2 : Nat} (hA : A' = some ⟨g2, 0, none⟩) {E : EnL} (hE : Es[i]? = some E) (hEn : E.n ≤ 1000) (hb : Below wi.heap.size wi w5) {B : Option Addr} {k r' : Nat} {F' : Nat → Prop}
    (hk : w5.ownsRow wi.heap.size 5 1 (.slice B E.n k) E.n (cellsOf E.xs)) (hg : Gs w5 r' F' E.gs) (hF : ∀ j, F' j → wi.heap.size ≤ j) :
    CpX w A' n c' Es (Qs ++ [⟨B, E.n, k, E.xs, r', F', E.gs⟩]) (i + 1) ((w5.setCell ⟨g2, i * 2, none⟩ (.slice B E.n k)).setCell ⟨g2, i * 2 + 1, none⟩ (.pointer (some ⟨r', 0, none⟩))) := by
  have h2 := h.below hb
  have ho := h2.own
  have hil : i < Es.length := (List.getElem?_eq_some_iff.1 hE).1
  have hdrop : Es.drop i = E :: Es.drop (i + 1) := by
    rw [List.drop_eq_getElem_cons hil, (List.getElem?_eq_some_iff.1 hE).2]
  have hg2 : w.heap.size ≤ g2 ∧ g2 < wi.heap.size := gown_lt h.own (g := g2) (by rw [hA]; rfl)
  obtain ⟨cg, hcg⟩ := gown_cl (k := 0) ho (g := g2) (by rw [hA]; rfl)
  have tX : Turned w5 ((w5.setCell ⟨g2, i * 2, none⟩ (.slice B E.n k)).setCell ⟨g2, i * 2 + 1, none⟩ (.pointer (some ⟨r', 0, none⟩))) (fun j => j = g2) := ((Turned.refl w5 (fun j => j = g2)).setCell (p := ⟨g2, i * 2, none⟩) (fun _ => rfl) _).setCell (p := ⟨g2, i * 2 + 1, none⟩) (fun _ => rfl) _
  have hold : ∀ E0, EnAt w5 E0 → EnAt ((w5.setCell ⟨g2, i * 2, none⟩ (.slice B E.n k)).setCell ⟨g2, i * 2 + 1, none⟩ (.pointer (some ⟨r', 0, none⟩))) E0 := fun E0 h0 => h0.turned tX (fun j hj e => by
    obtain ⟨c0, hc0⟩ := h0.kty hj
    exact ne_of_types hc0 hcg (by decide) e) (fun j hj e => h0.his.not_ty (e ▸ hcg) (by decide) (by decide) (by decide) hj)
  have hnew : EnAt w5 ⟨B, E.n, k, E.xs, r', F', E.gs⟩ := ⟨own_mono_ hk (Nat.zero_le _), hg, hEn⟩
  refine ⟨by rw [List.length_append, h.ql]; rfl, ?_, ?_, fun E0 h0 => ?_, ?_, (h2.bel.setCell (p := ⟨g2, i * 2, none⟩) hg2.1 _).setCell (p := ⟨g2, i * 2 + 1, none⟩) hg2.1 _⟩
  · rw [hA, hdrop] at ho
    have hs := gown_set (gown_set ho (i * 2) (.slice B E.n k)) (i * 2 + 1) (.pointer (some ⟨r', 0, none⟩))
    rw [enX_set Qs (Es.drop (i + 1)) E ⟨B, E.n, k, E.xs, r', F', E.gs⟩ rfl h.ql] at hs
    rw [hA, List.append_assoc]
    exact hs
  · rw [List.map_append, h.px, List.take_add_one, hE, List.map_append]
    rfl
  · rcases List.mem_append.1 h0 with h0 | h0
    · exact ⟨hold E0 (h2.at_ E0 h0).1, (h2.at_ E0 h0).2⟩
    · obtain rfl := List.mem_singleton.1 h0
      refine ⟨hold _ hnew, fun j hj => ?_⟩
      rcases hj with hj | hj
      · exact Nat.le_trans h.bel.size (gown_lt hk hj).1
      · exact Nat.le_trans h.bel.size (hF j hj)
  · refine List.pairwise_append.2 ⟨h.ap, List.pairwise_singleton _ _, fun a ha b hb' j hj hj2 => ?_⟩
    obtain rfl := List.mem_singleton.1 hb'
    have h1 := (h.at_ a ha).1.his.lt hj
    have h2 := hF j hj2
    omega
set_option maxRecDepth 100000 in
set_option maxHeartbeats 4000000 in
theorem xcopy_any {w : World} {x : Nat} {F : Nat → Prop} {l : Rv} {P : List PE} (h : Ix w x F l P) {N : Nat} (hi : XInv l P N) (hN : N ≤ 800000) :
    Calls Tryz.prog 14 #[.pointer (some ⟨x, 0, none⟩)] w fun e w' => ∃ x' F', e = .returned (.pointer (some ⟨x', 0, none⟩)) ∧ Ix w' x' F' l P ∧ (∀ j, F' j → w.heap.size ≤ j) ∧ Below w.heap.size w w' := by
  obtain ⟨A, n, k, Es, h, _, hP⟩ := h
  have hnN : n ≤ N := by rw [← h.ln]; have := hi.ln; rw [← hP, List.length_map] at this; exact this
  have HC := kept (cloE_any A n k (enX Es) w h.row (enX_one _) (by omega))
  have HBD : Hid (∀ E ∈ Es, BdG E.gs N) := kept (fun E hE => by
    have := hi.bd E.px (by rw [← hP]; exact List.mem_map.2 ⟨E, hE, rfl⟩)
    exact this)
  have hr : w.cell? ⟨x, 0, none⟩ = some (.slice A n k) := h.box.cell 0
  have HH := kept h
  have hnn : (n : Int) ≤ 900000 := by omega
  clear h
  go_enter Tryz.func14, Tryz.ntmps14
  go_wp2_with fail
  with_reducible refine HC.out.mono ?_
  rintro e w1 ⟨A', c', rfl, hown, hb⟩
  have H0 : Hid (CpX w A' n c' Es [] 0 w1) := kept ⟨rfl, hown, rfl, fun E hE => absurd hE (by simp), List.Pairwise.nil, hb⟩
  clear hown hb HC hr
  go_wp2
  go_loopw [15] (fun i wr => ∃ j : Nat, j ≤ n ∧ i = .int .i64 (j : Int) ∧ ∃ Qs, Hid (CpX w A' n c' Es Qs j wr)) (fun i _ => n - (intOf i).toNat)
  case atStart => exact ⟨0, Nat.zero_le _, rfl, [], H0⟩
  case round =>
    obtain ⟨j, hj, rfl, Qs, HI⟩ := hrel
    clear H0
    have hj0 : (0 : Int) ≤ (j : Int) := by omega
    by_cases hjn : j < n
    · have hjn' : (j : Int) < (n : Int) := by omega
      have hwj : wrap64 ((j : Int) + 1) = (j : Int) + 1 := IntWalk.wrap64_in _ ⟨by omega, by omega⟩
      have hjl : j < Es.length := by rw [HH.out.ln]; exact hjn
      obtain ⟨E, hE⟩ : ∃ E, Es[j]? = some E := ⟨_, List.getElem?_eq_getElem hjl⟩
      have hEm : E ∈ Es := List.mem_of_getElem? hE
      have hat := HH.out.all E hEm
      have hbd := HBD.out E hEm
      obtain ⟨g2, hA, _, hgl, _, _, hc⟩ := gown_at HI.out.own (by omega)
      have hdrop : Es.drop j = E :: Es.drop (j + 1) := by rw [List.drop_eq_getElem_cons hjl, (List.getElem?_eq_some_iff.1 hE).2]
      have hlq : (enX Qs).length = j * 2 := by rw [enX_length, HI.out.ql]
      have c0 : wr.cell? ⟨g2, j * 2, none⟩ = some (.slice E.A E.n E.c) := hc _ _ (by rw [enX_append, hdrop, enX_cons, List.getElem?_append_right (by omega), hlq, Nat.sub_self]; rfl)
      have c1 : wr.cell? ⟨g2, j * 2 + 1, none⟩ = some (.pointer (some ⟨E.r, 0, none⟩)) := hc _ _ (by rw [enX_append, hdrop, enX_cons, List.getElem?_append_right (by omega), hlq, show j * 2 + 1 - j * 2 = 1 by omega]; rfl)
      obtain ⟨cg, hcg⟩ := gown_cl (k := 0) HI.out.own (g := g2) (by rw [hA]; rfl)
      have HCG := kept (And.intro hcg (And.intro hgl (And.intro c0 c1)))
      have HST := kept (fun B k r' F' w5 hb hk hg hF => HI.out.step hA hE hat.len (w5 := w5) (B := B) (k := k) (r' := r') (F' := F') hb hk hg hF)
      have hbW : Below wr.heap.size wr (wr.alloc (.cells #[.slice E.A E.n E.c, .pointer (some ⟨E.r, 0, none⟩)] 67)) := (Below.refl _ wr).alloc (Nat.le_refl _) _
      have HBW := kept hbW
      have hat2 : EnAt (wr.alloc (.cells #[.slice E.A E.n E.c, .pointer (some ⟨E.r, 0, none⟩)] 67)) E := hat.turned (Turned.of_below (bel_to hbW HI.out.bel) (fun _ => False)) (fun _ _ e => e) (fun _ _ e => e)
      have HAT := kept hat2
      have HK := kept (Blk.new wr 67 #[.slice E.A E.n E.c, .pointer (some ⟨E.r, 0, none⟩)])
      have HBD1 := kept hbd
      have HJ := kept hjn
      subst hA
      have HS0 := kept (show (fun W' : World => W'.cell? ⟨wr.heap.size, 0, none⟩ = some (.slice E.A E.n E.c) ∧ W'.cell? ⟨wr.heap.size, 1, none⟩ = some (.pointer (some ⟨E.r, 0, none⟩))) (wr.alloc (.cells #[.slice E.A E.n E.c, .pointer (some ⟨E.r, 0, none⟩)] 67)).drew from ⟨HK.out.cell 0, HK.out.cell 1⟩)
      have HCL := kept (clone_any E.A E.n E.c E.xs (wr.alloc (.cells #[.slice E.A E.n E.c, .pointer (some ⟨E.r, 0, none⟩)] 67)).drew (Rd.of_own HAT.out.key) (by have := HAT.out.len; omega))
      clear hjl hE hEm hat hbd hgl hc hdrop hlq hcg hbW hat2 hjn hj c0 c1
      have q0 : wr.cell? ⟨g2, j * 2, none⟩ = some (.slice E.A E.n E.c) := HCG.out.2.2.1
      have q1 : wr.cell? ⟨g2, j * 2 + 1, none⟩ = some (.pointer (some ⟨E.r, 0, none⟩)) := HCG.out.2.2.2
      go_wp2
      clear q0 q1
      refine wp_region_held_drew (S := (fun W' : World => W'.cell? ⟨wr.heap.size, 0, none⟩ = some (.slice E.A E.n E.c) ∧ W'.cell? ⟨wr.heap.size, 1, none⟩ = some (.pointer (some ⟨E.r, 0, none⟩)))) (by kernel_rfl) ?_ (fun hHeld => ?_)
      · ((try dsimp only); (first | with_reducible exact HS0.out | with_reducible exact HS1.out | with_reducible exact HS2.out | with_reducible exact HS3.out))
      refine hand_take 0 (some 20) ?_ (by kernel_rfl) (by kernel_rfl) (by kernel_rfl) (by kernel_rfl) (by kernel_rfl) (fun _ _ _ h => h) ?_ (by assumption) ?_
      rotate_left
      · (intro o ho w hSw; (simp only [List.getElem?_toArray, List.getElem?_cons_succ, List.getElem?_cons_zero, Option.some.injEq] at ho); subst ho; (try dsimp only at hSw); go_simp; (first | done | with_reducible rfl))
      (try simp only [Act.put, List.setIfInBounds_toArray, List.set_cons_zero, List.set_cons_succ])
      refine hand_take 1 (some 21) ?_ (by kernel_rfl) (by kernel_rfl) (by kernel_rfl) (by kernel_rfl) (by kernel_rfl) (fun _ _ _ h => h) ?_ (by assumption) ?_
      rotate_left
      · (intro o ho w hSw; (simp only [List.getElem?_toArray, List.getElem?_cons_succ, List.getElem?_cons_zero, Option.some.injEq] at ho); subst ho; (try dsimp only at hSw); go_simp; (first | done | with_reducible rfl))
      (try simp only [Act.put, List.setIfInBounds_toArray, List.set_cons_zero, List.set_cons_succ])
      refine hand_take 2 (some 22) ?_ (by kernel_rfl) (by kernel_rfl) (by kernel_rfl) (by kernel_rfl) (by kernel_rfl) (fun _ _ _ h => h) ?_ (by assumption) ?_
      rotate_left
      · (intro o ho w hSw; (simp only [List.getElem?_toArray, List.getElem?_cons_succ, List.getElem?_cons_zero, Option.some.injEq] at ho); subst ho; (try dsimp only at hSw); go_simp; (first | done | with_reducible rfl))
      (try simp only [Act.put, List.setIfInBounds_toArray, List.set_cons_zero, List.set_cons_succ])
      refine hand_take 3 (some 23) ?_ (by kernel_rfl) (by kernel_rfl) (by kernel_rfl) (by kernel_rfl) (by kernel_rfl) (fun _ _ _ h => h) ?_ (by assumption) ?_
      rotate_left
      · (intro o ho w hSw; (simp only [List.getElem?_toArray, List.getElem?_cons_succ, List.getElem?_cons_zero, Option.some.injEq] at ho); subst ho; (try dsimp only at hSw); go_simp; (first | done | with_reducible rfl))
      (try simp only [Act.put, List.setIfInBounds_toArray, List.set_cons_zero, List.set_cons_succ])
      refine hand_take 5 (some 25) ?_ (by kernel_rfl) (by kernel_rfl) (by kernel_rfl) (by kernel_rfl) (by kernel_rfl) (fun _ _ _ h => h) ?_ (by assumption) ?_
      rotate_left
      · (intro o ho w hSw; (simp only [List.getElem?_toArray, List.getElem?_cons_succ, List.getElem?_cons_zero, Option.some.injEq] at ho); subst ho; (try dsimp only at hSw); go_simp; (first | done | with_reducible rfl))
      (try simp only [Act.put, List.setIfInBounds_toArray, List.set_cons_zero, List.set_cons_succ])
      refine hand_take 6 (some 26) ?_ (by kernel_rfl) (by kernel_rfl) (by kernel_rfl) (by kernel_rfl) (by kernel_rfl) (fun _ _ _ h => h) ?_ (by assumption) ?_
      rotate_left
      · (intro o ho w hSw; (simp only [List.getElem?_toArray, List.getElem?_cons_succ, List.getElem?_cons_zero, Option.some.injEq] at ho); subst ho; (try dsimp only at hSw); go_simp; (first | done | with_reducible rfl))
      (try simp only [Act.put, List.setIfInBounds_toArray, List.set_cons_zero, List.set_cons_succ])
      refine hand_ready 4 (by kernel_rfl) (by kernel_rfl) (fun o ho K hK => ?_)
      (simp only [List.getElem?_toArray, List.getElem?_cons_succ, List.getElem?_cons_zero, Option.some.injEq] at ho)
      subst ho
      go_simp
      (go_at_call 28; (with_reducible refine HCL.out.mono ?_); rintro e w4 ⟨A4, k4, rfl, ho4, hb4⟩; have HO4 := kept (And.intro ho4 hb4); have HS1 := kept (show (fun W' : World => W'.cell? ⟨wr.heap.size, 0, none⟩ = some (.slice E.A E.n E.c) ∧ W'.cell? ⟨wr.heap.size, 1, none⟩ = some (.pointer (some ⟨E.r, 0, none⟩))) w4 from ⟨(Keeps.of_below hb4).cell_ HS0.out.1, (Keeps.of_below hb4).cell_ HS0.out.2⟩); have HGC := kept (gcopy_any (N := N) ((HAT.out.his.below ((Below.refl _ (wr.alloc (.cells #[.slice E.A E.n E.c, .pointer (some ⟨E.r, 0, none⟩)] 67))).drew)).below hb4) HBD1.out (by omega)); clear ho4 hb4)
      (try go_wp2_with fail)
      refine hK.out _ _ ?_ (fun hHeld => ?_)
      · ((try dsimp only); (first | with_reducible exact HS0.out | with_reducible exact HS1.out | with_reducible exact HS2.out | with_reducible exact HS3.out))
      clear hK K
      (try simp only [Act.put, List.setIfInBounds_toArray, List.set_cons_zero, List.set_cons_succ])
      refine hand_ready 7 (by kernel_rfl) (by kernel_rfl) (fun o ho K hK => ?_)
      (simp only [List.getElem?_toArray, List.getElem?_cons_succ, List.getElem?_cons_zero, Option.some.injEq] at ho)
      subst ho
      go_simp
      (go_at_call 30; (with_reducible refine HGC.out.mono ?_); rintro e w5 ⟨r5, F5, rfl, hg5, hf5, hb5⟩; have hbd := bel_to HO4.out.2 (HBW.out.drew); have hbw := bel_to hb5 hbd; have HN := kept (HST.out A4 k4 r5 F5 w5 hbw (own_mono_ (gown_turned HO4.out.1 (Turned.of_below hb5 (fun _ => False)) (fun _ _ e => e)) HBW.out.size) hg5 (fun j hj => Nat.le_trans hbd.size (hf5 j hj))); have HS2 := kept (show (fun W' : World => W'.cell? ⟨wr.heap.size, 0, none⟩ = some (.slice E.A E.n E.c) ∧ W'.cell? ⟨wr.heap.size, 1, none⟩ = some (.pointer (some ⟨E.r, 0, none⟩))) w5 from ⟨(Keeps.of_below hb5).cell_ HS1.out.1, (Keeps.of_below hb5).cell_ HS1.out.2⟩); have HS3 := kept (show (fun W' : World => W'.cell? ⟨wr.heap.size, 0, none⟩ = some (.slice E.A E.n E.c) ∧ W'.cell? ⟨wr.heap.size, 1, none⟩ = some (.pointer (some ⟨E.r, 0, none⟩))) ((w5.setCell ⟨g2, j * 2, none⟩ (.slice A4 E.n k4)).setCell ⟨g2, j * 2 + 1, none⟩ (.pointer (some ⟨r5, 0, none⟩))) from by have hk := ((HK.out.below (bel_to hb5 (bel_to HO4.out.2 ((Below.refl _ (wr.alloc (.cells #[.slice E.A E.n E.c, .pointer (some ⟨E.r, 0, none⟩)] 67))).drew))) HK.out.lt).far (p := ⟨g2, j * 2, none⟩) (by have := HCG.out.2.1; show wr.heap.size ≠ g2; omega) (.slice A4 E.n k4)).far (p := ⟨g2, j * 2 + 1, none⟩) (by have := HCG.out.2.1; show wr.heap.size ≠ g2; omega) (.pointer (some ⟨r5, 0, none⟩)); exact ⟨hk.cell 0, hk.cell 1⟩); have d0 := (Keeps.of_below hbw).cell_ HCG.out.2.2.1; have d1 := (Keeps.of_below hbw).cell_ HCG.out.2.2.2; have f0 := gfrozen_ ((hbw.block g2 HCG.out.2.1).trans HCG.out.1) (j * 2); have f1 := gfrozen_ ((hbw.block g2 HCG.out.2.1).trans HCG.out.1) (j * 2 + 1); clear hg5 hf5 hb5 hbw hbd)
      (try go_wp2_with fail)
      refine hK.out _ _ ?_ (fun hHeld => ?_)
      · ((try dsimp only); (first | with_reducible exact HS0.out | with_reducible exact HS1.out | with_reducible exact HS2.out | with_reducible exact HS3.out))
      clear hK K
      (try simp only [Act.put, List.setIfInBounds_toArray, List.set_cons_zero, List.set_cons_succ])
      refine hand_take 8 (some 28) ?_ (by kernel_rfl) (by kernel_rfl) (by kernel_rfl) (by kernel_rfl) (by kernel_rfl) (fun _ _ _ h => h) ?_ (by assumption) ?_
      rotate_left
      · (intro o ho w hSw; (simp only [List.getElem?_toArray, List.getElem?_cons_succ, List.getElem?_cons_zero, Option.some.injEq] at ho); subst ho; (try dsimp only at hSw); go_simp; (first | done | with_reducible rfl))
      (try simp only [Act.put, List.setIfInBounds_toArray, List.set_cons_zero, List.set_cons_succ])
      refine hand_take 9 (some 29) ?_ (by kernel_rfl) (by kernel_rfl) (by kernel_rfl) (by kernel_rfl) (by kernel_rfl) (fun _ _ _ h => h) ?_ (by assumption) ?_
      rotate_left
      · (intro o ho w hSw; (simp only [List.getElem?_toArray, List.getElem?_cons_succ, List.getElem?_cons_zero, Option.some.injEq] at ho); subst ho; (try dsimp only at hSw); go_simp; (first | done | with_reducible rfl))
      (try simp only [Act.put, List.setIfInBounds_toArray, List.set_cons_zero, List.set_cons_succ])
      refine hand_ready 10 (by kernel_rfl) (by kernel_rfl) (fun o ho K hK => ?_)
      (simp only [List.getElem?_toArray, List.getElem?_cons_succ, List.getElem?_cons_zero, Option.some.injEq] at ho)
      subst ho
      go_simp
      refine hK.out _ _ ?_ (fun hHeld => ?_)
      · ((try dsimp only); (first | with_reducible exact HS0.out | with_reducible exact HS1.out | with_reducible exact HS2.out | with_reducible exact HS3.out))
      clear hK K
      (try simp only [Act.put, List.setIfInBounds_toArray, List.set_cons_zero, List.set_cons_succ])
      refine wpAnyH_done (by kernel_rfl) ?_ _
      clear hHeld
      go_wp2
      go_roundw
      case rel => exact ⟨j + 1, by have := HJ.out; omega, by go_num, _, HN⟩
      case measure => have := HJ.out; simp [intOf]; omega
    · obtain rfl : j = n := by omega
      have hi2 := HI.out
      have x1 := (Keeps.of_below hi2.bel).cell_ (HH.out.box.cell 1)
      have x2 := (Keeps.of_below hi2.bel).cell_ (HH.out.box.cell 2)
      replace x1 : wr.cell? ⟨x, 1, none⟩ = some (.int .i64 l.1) := x1
      replace x2 : wr.cell? ⟨x, 2, none⟩ = some (.int .i64 l.2) := x2
      have hb := (Below.refl wr.heap.size wr).alloc (Nat.le_refl _) (.cells #[.slice A' j c', .int .i64 l.1, .int .i64 l.2] 70)
      have hi3 := hi2.below hb
      have hbk := Blk.new wr 70 #[.slice A' j c', .int .i64 l.1, .int .i64 l.2]
      have hd0 : Es.drop j = [] := by rw [← HH.out.ln]; exact List.drop_length
      have hIx : IxL (wr.alloc (.cells #[.slice A' j c', .int .i64 l.1, .int .i64 l.2] 70)) wr.heap.size A' j c' l Qs := by
        refine ⟨hbk, ?_, hi3.ql, fun E hE => (hi3.at_ E hE).1, hi3.ap⟩
        have := hi3.own
        rw [hd0, List.append_nil] at this
        exact own_mono_ this (Nat.zero_le _)
      have hpx : Qs.map EnL.px = P := by rw [hi3.px, ← hP, ← HH.out.ln, List.take_length]
      have HG := kept (And.intro hIx (And.intro (show ∀ q, footX wr.heap.size A' j c' Qs q → w.heap.size ≤ q from fun q hq => by
        rcases hq with e | e | ⟨E, hE, e⟩
        · rw [e]; exact hi2.bel.size
        · exact (gown_lt hi2.own e).1
        · exact (hi2.at_ E hE).2 q e) (bel_to hb hi2.bel)))
      clear hi2 hi3 hb hbk hIx HI hd0
      go_wp2
      go_ret
      exact ⟨wr.heap.size, _, rfl, ⟨A', j, c', Qs, HG.out.1, fun _ => Iff.rfl, hpx⟩, HG.out.2.1, HG.out.2.2⟩
end Go.Proofs.YtlckeebbjnhejaaGreat
end

section
/-
  The walk of the law IndexCopies.
-/
namespace Go.Proofs.YtlckeebbjnhejaaGreat
open Go.ChangeShapes Go.WideShapes Go.ChangeAt Go.RowKit Go.Deep
set_option linter.unusedVariables false
set_option linter.unusedSimpArgs false
namespace indexCopies
theorem still {M : Nat} {w w' : World} {T : Nat → Prop} {A : Option Addr} {n k : Nat} {hs : List HtL} (h : HOut M w A n k hs) (t : Turned w w' T) (hT : ∀ j, T j → ∀ c f, w.heap[j]? ≠ some (.cells c 37 f) ∧ w.heap[j]? ≠ some (.cells c 5 f)) : HOut M w' A n k hs :=
  ⟨gown_turned h.row t (fun j hj e => by
    obtain ⟨c, hc⟩ := gown_cl (k := 0) h.row hj
    exact (hT j e c (0, 0)).1 hc), fun H hH => ⟨gown_turned (h.key H hH).1 t (fun j hj e => by
    obtain ⟨c, hc⟩ := gown_cl (k := 0) (h.key H hH).1 hj
    exact (hT j e c (0, 0)).2 hc), (h.key H hH).2⟩⟩
theorem apart {w : World} {x y : Nat} {F : Nat → Prop} {l : Rv} {P : List PE} (h : Ix w x F l P) {cs : Array Value} {g : Nat × Nat} (hy : w.heap[y]? = some (.cells cs 50 g)) : ∀ j, (F j ∧ NU w j) ∨ j = y → ∀ c f, w.heap[j]? ≠ some (.cells c 37 f) ∧ w.heap[j]? ≠ some (.cells c 5 f) := by
  intro j hj c f
  rcases hj with ⟨hj, hu⟩ | rfl
  · refine ⟨fun e => ?_, fun e => hu _ _ e⟩
    obtain ⟨c', s, hs, hss⟩ := h.ty hj
    rcases hss with rfl | rfl | rfl | rfl | rfl | rfl <;> exact ne_of_types hs e (by decide) rfl
  · exact ⟨fun e => ne_of_types hy e (by decide) rfl, fun e => ne_of_types hy e (by decide) rfl⟩
/-- An index as it was, what it told, and a copy on which acts are done. -/
structure CpJ (w3 wb wr : World) (x : Nat) (F : Nat → Prop) (l : Rv) (P : List PE) (x5 y N : Nat) (M : Nat) (A : Option Addr) (n k : Nat) (hs : List HtL) (F' : Nat → Prop) (l' : Rv) (P' : List PE) : Prop where
  jt : Jt w3 wr x5 F' l' P' y N
  lo : ∀ j, F' j → wb.heap.size ≤ j
  old : Ix wr x F l P
  olt : ∀ j, F j → j < wb.heap.size
  was : HOut M wr A n k hs
  sz : wb.heap.size ≤ wr.heap.size
section
variable {w3 wb wr W' : World} {x x5 y N M n k : Nat} {F F' : Nat → Prop} {l l' : Rv} {P P' : List PE} {A : Option Addr} {hs : List HtL}
theorem CpJ.below (h : CpJ w3 wb wr x F l P x5 y N M A n k hs F' l' P') (hb : Below wr.heap.size wr W') : CpJ w3 wb W' x F l P x5 y N M A n k hs F' l' P' :=
  ⟨h.jt.below hb, h.lo, h.old.below hb, h.olt, h.was.below hb, Nat.le_trans h.sz hb.size⟩
theorem CpJ.step (h : CpJ w3 wb wr x F l P x5 y N M A n k hs F' l' P') {e : Ending} (hd : DoX w3 wr x5 F' y N e W') : ∃ (t : Bool), e = .returned (.bool t) ∧ ∃ F2 l2 P2, CpJ w3 wb W' x F l P x5 y (N + 2) M A n k hs F2 l2 P2 := by
  obtain ⟨t, F2, l2, P2, he, k1, k2, k3⟩ := hd
  obtain ⟨cs, hy⟩ := h.jt.rx.box
  refine ⟨t, he, F2, l2, P2, k1, fun j hj => ?_, h.old.turned k3 (fun j hj e => ?_), h.olt, still h.was k3 (apart h.jt.ix hy), Nat.le_trans h.sz k3.size⟩
  · rcases k2 j hj with e | e
    · exact h.lo j e
    · exact Nat.le_trans h.sz e
  · rcases e with e | e
    · have h1 := h.lo j e.1
      have h2 := h.olt j hj
      omega
    · exact h.old.not_y hy (e ▸ hj)
end
set_option maxRecDepth 100000 in
set_option maxHeartbeats 8000000 in
theorem walk (w : World) (A : Option Addr) (n c : Nat) (hnc : n ≤ c) (hcm : c ≤ maxLen) (X : Nat → AcK) (hX : RdAcK w A n X) (A1 : Option Addr) (n1 c1 : Nat) (hnc1 : n1 ≤ c1) (hcm1 : c1 ≤ maxLen) (X1 : Nat → AcK) (hX1 : RdAcK w A1 n1 X1) (at_ : Int) (wa : (Lit.int .i64 at_).wf = true) :
    Calls Tryz.prog 6 #[.slice A n c, .slice A1 n1 c1, .int .i64 at_] w fun e w' => e = .returned (.bool true) ∧ Below w.heap.size w w' := by
  have HL := kept (livesX_any w)
  have HF := fun W (h : Below w.heap.size w W) => kept (few_any (hX.keeps (Keeps.of_below h)) hnc hcm)
  have HF1 := fun W (h : Below w.heap.size w W) => kept (few_any (hX1.keeps (Keeps.of_below h)) hnc1 hcm1)
  have HX := kept hX
  have HX1 := kept hX1
  clear hX hnc hcm wa hX1 hnc1 hcm1
  go_enter Tryz.func6, Tryz.ntmps6
  go_wp2_with fail
  with_reducible refine HL.out.mono ?_
  rintro e w1 ⟨rfl, hb⟩
  have HB1 := kept hb
  clear hb HL
  go_wp2_with fail
  with_reducible refine (HF w1 HB1.out).out.mono ?_
  rintro e w2 ⟨t, rfl, hf, hb⟩
  have HB2 := kept (bel_to hb HB1.out)
  clear hb HF
  cases t with
  | false =>
    clear hf HF1
    have HL2 := kept (livesX_any w2)
    go_wp2_with fail
    with_reducible refine HL2.out.mono ?_
    rintro e w9 ⟨rfl, hb⟩
    have HB9 := kept (bel_to hb HB2.out)
    clear hb
    go_wp2
    go_returns
    exact ⟨rfl, HB9.out⟩
  | true =>
    have HFEW := kept (hf rfl)
    clear hf
    go_wp2_with fail
    with_reducible refine (HF1 w2 HB2.out).out.mono ?_
    rintro e w3 ⟨t, rfl, hf, hb⟩
    have HB3 := kept (bel_to hb HB2.out)
    clear hb HF1
    cases t with
    | false =>
      clear hf
      have HL2 := kept (livesX_any w3)
      go_wp2_with fail
      with_reducible refine HL2.out.mono ?_
      rintro e w9 ⟨rfl, hb⟩
      have HB9 := kept (bel_to hb HB3.out)
      clear hb
      go_wp2
      go_returns
      exact ⟨rfl, HB9.out⟩
    | true =>
      have HFEW1 := kept (hf rfl)
      clear hf
      have hn60 : n ≤ 60 := HFEW.out.1
      have hn61 : n1 ≤ 60 := HFEW1.out.1
      have HN := kept (xnew_any w3)
      have H0 : Hid (∃ F l P, Jt w3 ((w3.alloc (.cells #[.slice none 0 0, .int .i64 0, .int .i64 0] 70)).alloc (.cells #[.slice none 0 0, .int .i64 0, .int .i64 0] 50)) w3.heap.size F l P (w3.heap.size + 1) (2 * 0)) := kept ⟨_, _, _, Jt.new w3⟩
      go_wp2_with fail
      with_reducible refine HN.out.mono ?_
      rintro e w4 ⟨rfl, hw4⟩
      subst hw4
      go_upto_region 4 with fail
      generalize (w3.alloc (.cells #[.slice none 0 0, .int .i64 0, .int .i64 0] 70)).alloc (.cells #[.slice none 0 0, .int .i64 0, .int .i64 0] 50) = W0 at H0 ⊢
      obtain ⟨x, hx⟩ : ∃ x, w3.heap.size = x := ⟨_, rfl⟩
      obtain ⟨y, hy⟩ : ∃ y, x + 1 = y := ⟨_, rfl⟩
      rw [hx, hy] at H0
      simp only [hx, hy]
      clear HN hx hy
      go_wp2
      go_loopw [36] (fun i wr => ∃ (j : Nat), j ≤ n ∧ i = .int .i64 (j : Int) ∧ Hid (∃ F l P, Jt w3 wr x F l P y (2 * j))) (fun i _ => n - (intOf i).toNat)
      case atStart => exact ⟨0, Nat.zero_le _, rfl, H0⟩
      case round =>
        obtain ⟨j, hj, rfl, HI⟩ := hrel
        clear H0
        have hj0 : (0 : Int) ≤ (j : Int) := by omega
        by_cases hjn : j < n
        · obtain ⟨F, l, P, hm⟩ := HI.out
          obtain ⟨g, o, hA, a0, a1, a2, a3, a4, a5, a6⟩ := ((HX.out.keeps (Keeps.of_below HB3.out)).keeps (Keeps.of_below hm.bel)).1 j hjn
          have HV := kept (And.intro ((HX.out.keeps (Keeps.of_below HB3.out)).2 j hjn) (HFEW.out.2 j hjn))
          generalize X j = xx at a0 a1 a2 a3 a4 a5 a6 HV
          subst hA
          have hba : Below wr.heap.size wr (wr.alloc (.cells #[.int .i64 xx.k, .slice xx.A xx.n xx.kc, .bool xx.nx, .int .i64 xx.m, .int .i64 xx.s, .int .i64 xx.c, .int .i64 xx.v] 52)) := (Below.refl _ wr).alloc (Nat.le_refl _) _
          have HD := kept (doX_any (hm.below hba) (by omega) ⟨xx.k, xx.A, xx.n, xx.kc, xx.nx, xx.m, xx.s, xx.c, xx.v⟩ xx.xs HV.out.1.1 HV.out.2)
          have hjn' : (j : Int) < (n : Int) := by omega
          have hwj : wrap64 ((j : Int) + 1) = (j : Int) + 1 := IntWalk.wrap64_in _ ⟨by omega, by omega⟩
          have HJ := kept hjn
          clear hba hm HI hj hjn
          go_wp2_with (first | (go_at_call 21; (with_reducible refine (HD.out).mono ?_); rintro e w5 ⟨t, F', l', P', rfl, hj3, _, _⟩; have HM3 : Hid (∃ F l P, Jt w3 w5 x F l P y (2 * (j + 1))) := kept ⟨F', l', P', hj3⟩; clear hj3))
          clear HD HV a0 a1 a2 a3 a4 a5 a6
          go_roundw
          case rel => exact ⟨j + 1, by have := HJ.out; omega, by go_num, HM3⟩
          case measure => have := HJ.out; simp [intOf]; omega
        · obtain rfl : j = n := by omega
          clear hj hjn
          obtain ⟨wb, rfl⟩ : ∃ wb, wb = wr := ⟨_, rfl⟩
          obtain ⟨F, l, P, hm⟩ := HI.out
          have HJ := kept hm
          have HCP := kept (xcopy_any hm.ix hm.good.inv (by omega))
          clear hm HI
          go_wp2_with fail
          with_reducible refine HCP.out.mono ?_
          rintro e w5 ⟨x5, F5, rfl, hi5, hf5, hb5⟩
          have HI5 := kept (And.intro hi5 (And.intro hf5 hb5))
          have hbz := below_row w5 #[.int .u8 0] (0, 0)
          have HBZ := kept (bel_to hbz hb5)
          have HBZ5 := kept hbz
          have HRA := kept (xrangeP_any (HJ.out.ix.below HBZ.out) HJ.out.good.inv (by omega) none 0 0 [] (Rd.nil_ _ _) (by omega) (some ⟨w5.heap.size, 0, none⟩) 1 1 [0] (rd_mark w5 (C := #[.int .u8 0]) (ys := [0]) rfl rfl (0, 0)) (by omega) at_)
          clear hi5 hf5 hb5 hbz HCP
          go_wp2_with fail
          with_reducible refine HRA.out.mono ?_
          rintro e w7 ⟨A7, n7, k7, hs7, rfl, ho7, hh7, hb7⟩
          obtain ⟨tb, htb⟩ : ∃ tb, P.length = tb := ⟨_, rfl⟩
          have HB7 := kept (bel_to hb7 HBZ.out)
          have HLN := kept (xlen_any (HJ.out.ix.below HB7.out) htb)
          have H7 : Hid (∃ F' l' P', CpJ w3 wb w7 x F l P x5 y (2 * j + 2 * 0) (w5.alloc (.cells #[.int .u8 0] 5)).heap.size A7 n7 k7 hs7 F' l' P') := kept ⟨F5, l, P, ⟨(HI5.out.1.below HBZ5.out).below hb7, fun j hj => Nat.le_trans HJ.out.bel.size (HI5.out.2.1 j hj), HJ.out.rx.below HB7.out, bel_to HB7.out HJ.out.bel, HJ.out.good⟩, HI5.out.2.1, HJ.out.ix.below HB7.out, fun j hj => HJ.out.ix.lt hj, ho7, HB7.out.size⟩
          have HH7 := kept hh7
          have hn7 : n7 ≤ 120 := by
            have h1 := congrArg List.length hh7
            rw [List.length_map, ho7.ln] at h1
            have h2 : (hitsX P [] [0] at_).length ≤ P.length := Nat.le_trans (List.length_filterMap_le _ _) (List.length_filter_le _ _)
            have := HJ.out.good.inv.ln
            omega
          have HGD := kept HJ.out.good
          clear ho7 hh7 hb7 HRA HI5 HBZ5 HBZ HB7 HJ
          go_wp2_with fail
          with_reducible refine HLN.out.mono ?_
          rintro e _ ⟨rfl, rfl⟩
          clear HLN
          go_wp2
          go_loopw [55] (fun i wq => ∃ (q : Nat), q ≤ n1 ∧ i = .int .i64 (q : Int) ∧ Hid (∃ F' l' P', CpJ w3 wb wq x F l P x5 y (2 * j + 2 * q) (w5.alloc (.cells #[.int .u8 0] 5)).heap.size A7 n7 k7 hs7 F' l' P')) (fun i _ => n1 - (intOf i).toNat)
          case atStart => exact ⟨0, Nat.zero_le _, rfl, H7⟩
          case round =>
            obtain ⟨wq, rfl⟩ : ∃ wq, wq = wr := ⟨_, rfl⟩
            obtain ⟨q, hq, rfl, HI⟩ := hrel
            clear H7
            have hq0 : (0 : Int) ≤ (q : Int) := by omega
            by_cases hqn : q < n1
            · obtain ⟨F', l', P', hm⟩ := HI.out
              obtain ⟨g, o, hA, a0, a1, a2, a3, a4, a5, a6⟩ := ((HX1.out.keeps (Keeps.of_below HB3.out)).keeps (Keeps.of_below hm.jt.bel)).1 q hqn
              have HV := kept (And.intro ((HX1.out.keeps (Keeps.of_below HB3.out)).2 q hqn) (HFEW1.out.2 q hqn))
              generalize X1 q = xx at a0 a1 a2 a3 a4 a5 a6 HV
              subst hA
              have hba : Below wq.heap.size wq (wq.alloc (.cells #[.int .i64 xx.k, .slice xx.A xx.n xx.kc, .bool xx.nx, .int .i64 xx.m, .int .i64 xx.s, .int .i64 xx.c, .int .i64 xx.v] 52)) := (Below.refl _ wq).alloc (Nat.le_refl _) _
              have hm2 := hm.below hba
              have HM2 := kept hm2
              have HD := kept (doX_any hm2.jt (by omega) ⟨xx.k, xx.A, xx.n, xx.kc, xx.nx, xx.m, xx.s, xx.c, xx.v⟩ xx.xs HV.out.1.1 HV.out.2)
              have hqn' : (q : Int) < (n1 : Int) := by omega
              have hwq : wrap64 ((q : Int) + 1) = (q : Int) + 1 := IntWalk.wrap64_in _ ⟨by omega, by omega⟩
              have HJQ := kept hqn
              clear hba hm hm2 HI hq hqn
              go_wp2_with (first | (go_at_call 21; (with_reducible refine (HD.out).mono ?_); rintro e w8 hd8; obtain ⟨t, rfl, hd9⟩ := HM2.out.step hd8; have HM3 : Hid (∃ F' l' P', CpJ w3 wb w8 x F l P x5 y (2 * j + 2 * (q + 1)) (w5.alloc (.cells #[.int .u8 0] 5)).heap.size A7 n7 k7 hs7 F' l' P') := kept hd9; clear hd8 hd9))
              clear HD HV HM2 a0 a1 a2 a3 a4 a5 a6
              go_roundw
              case rel => exact ⟨q + 1, by have := HJQ.out; omega, by go_num, HM3⟩
              case measure => have := HJQ.out; simp [intOf]; omega
            · obtain rfl : q = n1 := by omega
              clear hq hqn
              obtain ⟨F', l', P', hm⟩ := HI.out
              have HM := kept hm
              have hbz := below_row wq #[.int .u8 0] (0, 0)
              have HBZ := kept hbz
              have HRB := kept (xrangeP_any (hm.old.below hbz) HGD.out.inv (by omega) none 0 0 [] (Rd.nil_ _ _) (by omega) (some ⟨wq.heap.size, 0, none⟩) 1 1 [0] (rd_mark wq (C := #[.int .u8 0]) (ys := [0]) rfl rfl (0, 0)) (by omega) at_)
              clear hm hbz HI
              go_wp2_with fail
              with_reducible refine HRB.out.mono ?_
              rintro e w9 ⟨A9, n9, k9, hs9, rfl, ho9, hh9, hb9⟩
              have HEQ : Hid (hs9.map HtL.px = hs7.map HtL.px) := kept (by rw [hh9, HH7.out])
              have HBQ := kept (bel_to hb9 HBZ.out)
              have hn97 : n9 = n7 := by
                have := congrArg List.length HEQ.out
                rw [List.length_map, List.length_map, ho9.ln, HM.out.was.ln] at this
                exact this
              subst hn97
              have HLN := kept (xlen_any (HM.out.old.below HBQ.out) htb)
              have HO9 := kept ho9
              have HO7 := kept (HM.out.was.below HBQ.out)
              have HB9 := kept (bel_to HBQ.out (bel_to HM.out.jt.bel HB3.out))
              clear ho9 hb9 HRB hh9 HM HBZ HBQ
              go_wp2_with fail
              with_reducible refine HLN.out.mono ?_
              rintro e _ ⟨rfl, rfl⟩
              clear HLN HX HX1 HFEW HFEW1 HH7 HGD
              go_wp2
              go_loopw [81] (fun i wz => ∃ (p : Nat), p ≤ n9 ∧ i = .int .i64 (p : Int) ∧ Hid (Below w9.heap.size w9 wz)) (fun i _ => n9 - (intOf i).toNat)
              case atStart => exact ⟨0, Nat.zero_le _, rfl, kept (Below.refl _ _)⟩
              case round =>
                obtain ⟨wz, rfl⟩ : ∃ wz, wz = wr := ⟨_, rfl⟩
                obtain ⟨p, hp, rfl, HI⟩ := hrel
                have hp0 : (0 : Int) ≤ (p : Int) := by omega
                by_cases hpn : p < n9
                · have hpn' : (p : Int) < (n9 : Int) := by omega
                  have hwp : wrap64 ((p : Int) + 1) = (p : Int) + 1 := IntWalk.wrap64_in _ ⟨by omega, by omega⟩
                  obtain ⟨g, g2, HA, Hn, Hc, HA2, Hn2, Hc2, xs, f, hA4, hA7, hcs, ha, hb⟩ := pair_at (HO9.out.below HI.out) (HO7.out.below HI.out) HEQ.out hpn
                  subst hA4 hA7
                  have HJN := kept hpn
                  have HSM := kept (same_any HA HA2 Hn Hn2 Hc Hc2 xs xs wz.drew ha hb true (by simp))
                  have HS0 := kept (show (fun W' : World => (W'.cell? ⟨g, p * 5, none⟩ = some (.slice HA Hn Hc) ∧ W'.cell? ⟨g, p * 5 + 1, none⟩ = some (.int .i64 f.1.1) ∧ W'.cell? ⟨g, p * 5 + 2, none⟩ = some (.int .i64 f.1.2) ∧ W'.cell? ⟨g, p * 5 + 3, none⟩ = some (.int .i64 f.2.1) ∧ W'.cell? ⟨g, p * 5 + 4, none⟩ = some (.int .i64 f.2.2)) ∧ (W'.cell? ⟨g2, p * 5, none⟩ = some (.slice HA2 Hn2 Hc2) ∧ W'.cell? ⟨g2, p * 5 + 1, none⟩ = some (.int .i64 f.1.1) ∧ W'.cell? ⟨g2, p * 5 + 2, none⟩ = some (.int .i64 f.1.2) ∧ W'.cell? ⟨g2, p * 5 + 3, none⟩ = some (.int .i64 f.2.1) ∧ W'.cell? ⟨g2, p * 5 + 4, none⟩ = some (.int .i64 f.2.2))) wz.drew from hcs)
                  have hne := fun W => neq_fnd f.1.1 f.1.2 f.2.1 f.2.2 W
                  clear ha hb hcs hpn hp
                  go_wp2
                  refine wp_region_held_drew (S := (fun W' : World => (W'.cell? ⟨g, p * 5, none⟩ = some (.slice HA Hn Hc) ∧ W'.cell? ⟨g, p * 5 + 1, none⟩ = some (.int .i64 f.1.1) ∧ W'.cell? ⟨g, p * 5 + 2, none⟩ = some (.int .i64 f.1.2) ∧ W'.cell? ⟨g, p * 5 + 3, none⟩ = some (.int .i64 f.2.1) ∧ W'.cell? ⟨g, p * 5 + 4, none⟩ = some (.int .i64 f.2.2)) ∧ (W'.cell? ⟨g2, p * 5, none⟩ = some (.slice HA2 Hn2 Hc2) ∧ W'.cell? ⟨g2, p * 5 + 1, none⟩ = some (.int .i64 f.1.1) ∧ W'.cell? ⟨g2, p * 5 + 2, none⟩ = some (.int .i64 f.1.2) ∧ W'.cell? ⟨g2, p * 5 + 3, none⟩ = some (.int .i64 f.2.1) ∧ W'.cell? ⟨g2, p * 5 + 4, none⟩ = some (.int .i64 f.2.2)))) (by kernel_rfl) ?_ (fun hHeld => ?_)
                  · ((try dsimp only); (with_reducible exact HS0.out))
                  refine hand_take 0 (some 84) ?_ (by kernel_rfl) (by kernel_rfl) (by kernel_rfl) (by kernel_rfl) (by kernel_rfl) (fun _ _ _ h => h) ?_ (by assumption) ?_
                  rotate_left
                  · (intro o ho w hSw; (simp only [List.getElem?_toArray, List.getElem?_cons_succ, List.getElem?_cons_zero, Option.some.injEq] at ho); subst ho; (try dsimp only at hSw); go_simp; (first | done | with_reducible rfl))
                  (try simp only [Act.put, List.setIfInBounds_toArray, List.set_cons_zero, List.set_cons_succ])
                  refine hand_take 1 (some 85) ?_ (by kernel_rfl) (by kernel_rfl) (by kernel_rfl) (by kernel_rfl) (by kernel_rfl) (fun _ _ _ h => h) ?_ (by assumption) ?_
                  rotate_left
                  · (intro o ho w hSw; (simp only [List.getElem?_toArray, List.getElem?_cons_succ, List.getElem?_cons_zero, Option.some.injEq] at ho); subst ho; (try dsimp only at hSw); go_simp; (first | done | with_reducible rfl))
                  (try simp only [Act.put, List.setIfInBounds_toArray, List.set_cons_zero, List.set_cons_succ])
                  refine hand_take 2 (some 86) ?_ (by kernel_rfl) (by kernel_rfl) (by kernel_rfl) (by kernel_rfl) (by kernel_rfl) (fun _ _ _ h => h) ?_ (by assumption) ?_
                  rotate_left
                  · (intro o ho w hSw; (simp only [List.getElem?_toArray, List.getElem?_cons_succ, List.getElem?_cons_zero, Option.some.injEq] at ho); subst ho; (try dsimp only at hSw); go_simp; (first | done | with_reducible rfl))
                  (try simp only [Act.put, List.setIfInBounds_toArray, List.set_cons_zero, List.set_cons_succ])
                  refine hand_take 3 (some 87) ?_ (by kernel_rfl) (by kernel_rfl) (by kernel_rfl) (by kernel_rfl) (by kernel_rfl) (fun _ _ _ h => h) ?_ (by assumption) ?_
                  rotate_left
                  · (intro o ho w hSw; (simp only [List.getElem?_toArray, List.getElem?_cons_succ, List.getElem?_cons_zero, Option.some.injEq] at ho); subst ho; (try dsimp only at hSw); go_simp; (first | done | with_reducible rfl))
                  (try simp only [Act.put, List.setIfInBounds_toArray, List.set_cons_zero, List.set_cons_succ])
                  refine hand_take 4 (some 88) ?_ (by kernel_rfl) (by kernel_rfl) (by kernel_rfl) (by kernel_rfl) (by kernel_rfl) (fun _ _ _ h => h) ?_ (by assumption) ?_
                  rotate_left
                  · (intro o ho w hSw; (simp only [List.getElem?_toArray, List.getElem?_cons_succ, List.getElem?_cons_zero, Option.some.injEq] at ho); subst ho; (try dsimp only at hSw); go_simp; (first | done | with_reducible rfl))
                  (try simp only [Act.put, List.setIfInBounds_toArray, List.set_cons_zero, List.set_cons_succ])
                  refine hand_take 5 (some 89) ?_ (by kernel_rfl) (by kernel_rfl) (by kernel_rfl) (by kernel_rfl) (by kernel_rfl) (fun _ _ _ h => h) ?_ (by assumption) ?_
                  rotate_left
                  · (intro o ho w hSw; (simp only [List.getElem?_toArray, List.getElem?_cons_succ, List.getElem?_cons_zero, Option.some.injEq] at ho); subst ho; (try dsimp only at hSw); go_simp; (first | done | with_reducible rfl))
                  (try simp only [Act.put, List.setIfInBounds_toArray, List.set_cons_zero, List.set_cons_succ])
                  refine hand_take 6 (some 90) ?_ (by kernel_rfl) (by kernel_rfl) (by kernel_rfl) (by kernel_rfl) (by kernel_rfl) (fun _ _ _ h => h) ?_ (by assumption) ?_
                  rotate_left
                  · (intro o ho w hSw; (simp only [List.getElem?_toArray, List.getElem?_cons_succ, List.getElem?_cons_zero, Option.some.injEq] at ho); subst ho; (try dsimp only at hSw); go_simp; (first | done | with_reducible rfl))
                  (try simp only [Act.put, List.setIfInBounds_toArray, List.set_cons_zero, List.set_cons_succ])
                  refine hand_take 7 (some 91) ?_ (by kernel_rfl) (by kernel_rfl) (by kernel_rfl) (by kernel_rfl) (by kernel_rfl) (fun _ _ _ h => h) ?_ (by assumption) ?_
                  rotate_left
                  · (intro o ho w hSw; (simp only [List.getElem?_toArray, List.getElem?_cons_succ, List.getElem?_cons_zero, Option.some.injEq] at ho); subst ho; (try dsimp only at hSw); go_simp; (first | done | with_reducible rfl))
                  (try simp only [Act.put, List.setIfInBounds_toArray, List.set_cons_zero, List.set_cons_succ])
                  refine hand_take 8 (some 92) ?_ (by kernel_rfl) (by kernel_rfl) (by kernel_rfl) (by kernel_rfl) (by kernel_rfl) (fun _ _ _ h => h) ?_ (by assumption) ?_
                  rotate_left
                  · (intro o ho w hSw; (simp only [List.getElem?_toArray, List.getElem?_cons_succ, List.getElem?_cons_zero, Option.some.injEq] at ho); subst ho; (try dsimp only at hSw); go_simp; (first | done | with_reducible rfl))
                  (try simp only [Act.put, List.setIfInBounds_toArray, List.set_cons_zero, List.set_cons_succ])
                  refine hand_take 9 (some 93) ?_ (by kernel_rfl) (by kernel_rfl) (by kernel_rfl) (by kernel_rfl) (by kernel_rfl) (fun _ _ _ h => h) ?_ (by assumption) ?_
                  rotate_left
                  · (intro o ho w hSw; (simp only [List.getElem?_toArray, List.getElem?_cons_succ, List.getElem?_cons_zero, Option.some.injEq] at ho); subst ho; (try dsimp only at hSw); go_simp; (first | done | with_reducible rfl))
                  (try simp only [Act.put, List.setIfInBounds_toArray, List.set_cons_zero, List.set_cons_succ])
                  refine hand_take 10 (some 94) ?_ (by kernel_rfl) (by kernel_rfl) (by kernel_rfl) (by kernel_rfl) (by kernel_rfl) (fun _ _ _ h => h) ?_ (by assumption) ?_
                  rotate_left
                  · (intro o ho w hSw; (simp only [List.getElem?_toArray, List.getElem?_cons_succ, List.getElem?_cons_zero, Option.some.injEq] at ho); subst ho; (try dsimp only at hSw); go_simp; (first | done | with_reducible rfl))
                  (try simp only [Act.put, List.setIfInBounds_toArray, List.set_cons_zero, List.set_cons_succ])
                  refine hand_take 11 (some 95) ?_ (by kernel_rfl) (by kernel_rfl) (by kernel_rfl) (by kernel_rfl) (by kernel_rfl) (fun _ _ _ h => h) ?_ (by assumption) ?_
                  rotate_left
                  · (intro o ho w hSw; (simp only [List.getElem?_toArray, List.getElem?_cons_succ, List.getElem?_cons_zero, Option.some.injEq] at ho); subst ho; (try dsimp only at hSw); go_simp; (first | done | with_reducible rfl))
                  (try simp only [Act.put, List.setIfInBounds_toArray, List.set_cons_zero, List.set_cons_succ])
                  refine hand_take 12 (some 96) ?_ (by kernel_rfl) (by kernel_rfl) (by kernel_rfl) (by kernel_rfl) (by kernel_rfl) (fun _ _ _ h => h) ?_ (by assumption) ?_
                  rotate_left
                  · (intro o ho w hSw; (simp only [List.getElem?_toArray, List.getElem?_cons_succ, List.getElem?_cons_zero, Option.some.injEq] at ho); subst ho; (try dsimp only at hSw); go_simp; (first | done | with_reducible rfl))
                  (try simp only [Act.put, List.setIfInBounds_toArray, List.set_cons_zero, List.set_cons_succ])
                  refine hand_take 13 (some 97) ?_ (by kernel_rfl) (by kernel_rfl) (by kernel_rfl) (by kernel_rfl) (by kernel_rfl) (fun _ _ _ h => h) ?_ (by assumption) ?_
                  rotate_left
                  · (intro o ho w hSw; (simp only [List.getElem?_toArray, List.getElem?_cons_succ, List.getElem?_cons_zero, Option.some.injEq] at ho); subst ho; (try dsimp only at hSw); go_simp; (first | done | with_reducible rfl))
                  (try simp only [Act.put, List.setIfInBounds_toArray, List.set_cons_zero, List.set_cons_succ])
                  refine hand_take 14 (some 98) ?_ (by kernel_rfl) (by kernel_rfl) (by kernel_rfl) (by kernel_rfl) (by kernel_rfl) (fun _ _ _ h => h) ?_ (by assumption) ?_
                  rotate_left
                  · (intro o ho w hSw; (simp only [List.getElem?_toArray, List.getElem?_cons_succ, List.getElem?_cons_zero, Option.some.injEq] at ho); subst ho; (try dsimp only at hSw); go_simp; (first | done | with_reducible rfl))
                  (try simp only [Act.put, List.setIfInBounds_toArray, List.set_cons_zero, List.set_cons_succ])
                  refine hand_take 15 (some 99) ?_ (by kernel_rfl) (by kernel_rfl) (by kernel_rfl) (by kernel_rfl) (by kernel_rfl) (fun _ _ _ h => h) ?_ (by assumption) ?_
                  rotate_left
                  · (intro o ho w hSw; (simp only [List.getElem?_toArray, List.getElem?_cons_succ, List.getElem?_cons_zero, Option.some.injEq] at ho); subst ho; (try dsimp only at hSw); go_simp; (first | done | with_reducible rfl))
                  (try simp only [Act.put, List.setIfInBounds_toArray, List.set_cons_zero, List.set_cons_succ])
                  refine hand_take 16 (some 100) ?_ (by kernel_rfl) (by kernel_rfl) (by kernel_rfl) (by kernel_rfl) (by kernel_rfl) (fun _ _ _ h => h) ?_ (by assumption) ?_
                  rotate_left
                  · (intro o ho w hSw; (simp only [List.getElem?_toArray, List.getElem?_cons_succ, List.getElem?_cons_zero, Option.some.injEq] at ho); subst ho; (try dsimp only at hSw); go_simp; (first | done | with_reducible rfl))
                  (try simp only [Act.put, List.setIfInBounds_toArray, List.set_cons_zero, List.set_cons_succ])
                  refine hand_take 17 (some 101) ?_ (by kernel_rfl) (by kernel_rfl) (by kernel_rfl) (by kernel_rfl) (by kernel_rfl) (fun _ _ _ h => h) ?_ (by assumption) ?_
                  rotate_left
                  · (intro o ho w hSw; (simp only [List.getElem?_toArray, List.getElem?_cons_succ, List.getElem?_cons_zero, Option.some.injEq] at ho); subst ho; (try dsimp only at hSw); go_simp; (first | done | with_reducible rfl))
                  (try simp only [Act.put, List.setIfInBounds_toArray, List.set_cons_zero, List.set_cons_succ])
                  refine hand_take 18 (some 102) ?_ (by kernel_rfl) (by kernel_rfl) (by kernel_rfl) (by kernel_rfl) (by kernel_rfl) (fun _ _ _ h => h) ?_ (by assumption) ?_
                  rotate_left
                  · (intro o ho w hSw; (simp only [List.getElem?_toArray, List.getElem?_cons_succ, List.getElem?_cons_zero, Option.some.injEq] at ho); subst ho; (try dsimp only at hSw); go_simp; (first | done | with_reducible rfl))
                  (try simp only [Act.put, List.setIfInBounds_toArray, List.set_cons_zero, List.set_cons_succ])
                  refine hand_take 19 (some 103) ?_ (by kernel_rfl) (by kernel_rfl) (by kernel_rfl) (by kernel_rfl) (by kernel_rfl) (fun _ _ _ h => h) ?_ (by assumption) ?_
                  rotate_left
                  · (intro o ho w hSw; (simp only [List.getElem?_toArray, List.getElem?_cons_succ, List.getElem?_cons_zero, Option.some.injEq] at ho); subst ho; (try dsimp only at hSw); go_simp; (first | done | with_reducible rfl))
                  (try simp only [Act.put, List.setIfInBounds_toArray, List.set_cons_zero, List.set_cons_succ])
                  refine hand_take 20 (some 104) ?_ (by kernel_rfl) (by kernel_rfl) (by kernel_rfl) (by kernel_rfl) (by kernel_rfl) (fun _ _ _ h => h) ?_ (by assumption) ?_
                  rotate_left
                  · (intro o ho w hSw; (simp only [List.getElem?_toArray, List.getElem?_cons_succ, List.getElem?_cons_zero, Option.some.injEq] at ho); subst ho; (try dsimp only at hSw); go_simp; (first | done | with_reducible rfl))
                  (try simp only [Act.put, List.setIfInBounds_toArray, List.set_cons_zero, List.set_cons_succ])
                  refine hand_take 21 (some 105) ?_ (by kernel_rfl) (by kernel_rfl) (by kernel_rfl) (by kernel_rfl) (by kernel_rfl) (fun _ _ _ h => h) ?_ (by assumption) ?_
                  rotate_left
                  · (intro o ho w hSw; (simp only [List.getElem?_toArray, List.getElem?_cons_succ, List.getElem?_cons_zero, Option.some.injEq] at ho); subst ho; (try dsimp only at hSw); go_simp; (first | done | with_reducible rfl))
                  (try simp only [Act.put, List.setIfInBounds_toArray, List.set_cons_zero, List.set_cons_succ])
                  refine hand_ready 22 (by kernel_rfl) (by kernel_rfl) (fun o ho K hK => ?_)
                  (simp only [List.getElem?_toArray, List.getElem?_cons_succ, List.getElem?_cons_zero, Option.some.injEq] at ho)
                  subst ho
                  go_simp
                  (go_at_call 13; (with_reducible refine HSM.out.mono ?_); rintro e _ ⟨rfl, rfl⟩)
                  (try go_wp2_with fail)
                  refine hK.out _ _ ?_ (fun hHeld => ?_)
                  · ((try dsimp only); (with_reducible exact HS0.out))
                  clear hK K
                  (try simp only [Act.put, List.setIfInBounds_toArray, List.set_cons_zero, List.set_cons_succ])
                  refine hand_take 23 (some 107) ?_ (by kernel_rfl) (by kernel_rfl) (by kernel_rfl) (by kernel_rfl) (by kernel_rfl) (fun _ _ _ h => h) ?_ (by assumption) ?_
                  rotate_left
                  · (intro o ho w hSw; (simp only [List.getElem?_toArray, List.getElem?_cons_succ, List.getElem?_cons_zero, Option.some.injEq] at ho); subst ho; (try dsimp only at hSw); go_simp; (first | done | with_reducible rfl))
                  (try simp only [Act.put, List.setIfInBounds_toArray, List.set_cons_zero, List.set_cons_succ])
                  refine hand_take 24 (some 108) ?_ (by kernel_rfl) (by kernel_rfl) (by kernel_rfl) (by kernel_rfl) (by kernel_rfl) (fun _ _ _ h => h) ?_ (by assumption) ?_
                  rotate_left
                  · (intro o ho w hSw; (simp only [List.getElem?_toArray, List.getElem?_cons_succ, List.getElem?_cons_zero, Option.some.injEq] at ho); subst ho; (try dsimp only at hSw); go_simp; (first | done | with_reducible rfl))
                  (try simp only [Act.put, List.setIfInBounds_toArray, List.set_cons_zero, List.set_cons_succ])
                  refine wpAnyH_done (by kernel_rfl) ?_ _
                  clear hHeld
                  go_wp2
                  go_roundw
                  case rel => exact ⟨p + 1, by have := HJN.out; omega, by go_num, kept HI.out.drew⟩
                  case measure => have := HJN.out; simp [intOf]; omega
                · obtain rfl : p = n9 := by omega
                  go_wp2
                  go_returns
                  exact ⟨rfl, bel_to HI.out HB9.out⟩
end indexCopies
end Go.Proofs.YtlckeebbjnhejaaGreat
end
