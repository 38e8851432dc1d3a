/-
  package gens, call by call: Put, Tomb, Restore.
-/
import Derived.Test.YthpaliagmnclfaaGk
namespace Go.Proofs.Ythpaliagmnclfaa
open Go.ChangeShapes Go.WideShapes Go.ChangeAt Go.RowKit Go.Deep
set_option linter.unusedVariables false
set_option linter.unusedSimpArgs false

def goingG (gs : List Gn) : Bool := match gs.getLast? with | some x => !x.ended | none => false
def addG (gs : List Gn) (q : Rv) (c v : Int) : List Gn := match gs.getLast? with
  | some x => if x.ended then gs ++ [⟨c, v, [q], (0, 0)⟩] else gs.dropLast ++ [{ x with ps := x.ps ++ [q] }]
  | none => gs ++ [⟨c, v, [q], (0, 0)⟩]
def endG (gs : List Gn) (q : Rv) : List Gn := match gs.getLast? with
  | some x => gs.dropLast ++ [{ x with e := q }]
  | none => gs
theorem last_set' (gi : List Gn) (x x' : Gn) (m : Nat) (h : gi.length = m) : (gi ++ [x]).set m x' = gi ++ [x'] := by
  rw [List.set_append_right _ _ (by omega), h, Nat.sub_self]; rfl
theorem going_any {w : World} {r : Nat} {A : Option Addr} {n k : Nat} {Ls : List GL} {gs : List Gn} (h : GsL w r A n k Ls gs) (hn : n ≤ 1000000) (hg : goingG gs = false) :
    Calls Try.prog 32 #[.pointer (some ⟨r, 0, none⟩)] w fun e w' => e = .returned (.pointer none) ∧ Below w.heap.size w w' := by
  rcases h.snoc with ⟨rfl, rfl, rfl⟩ | ⟨g, m, Li, L, gi, x, rfl, rfl, rfl, rfl, hl⟩
  · exact going_nil h
  · have hx : x.ended = true := by simpa [goingG] using hg
    have := going_some hl hn
    rw [hx] at this
    exact this
theorem next_any {w : World} {r : Nat} {A : Option Addr} {n k : Nat} {Ls : List GL} {gs : List Gn} (h : GsL w r A n k Ls gs) (hn : n ≤ 1000000) (q : Rv) :
    Calls Try.prog 34 #[.pointer (some ⟨r, 0, none⟩), .agg #[.int .i64 q.1, .int .i64 q.2]] w fun e w' => e = .returned (.agg #[.int .i64 q.1, .int .i64 q.2, .int .i64 (nextG gs q).1, .int .i64 (nextG gs q).2]) ∧ Below w.heap.size w w' := by
  cases hg : goingG gs
  · have e : nextG gs q = (q.1, 1) := by
      unfold nextG
      unfold goingG at hg
      cases hl : gs.getLast? with
      | none => rfl
      | some x => rw [hl] at hg; simp only [Bool.not_eq_false'] at hg; simp [hg]
    rw [e]
    exact next_new q (fun W hb => kept (going_any (h.below hb) hn hg))
  · rcases h.snoc with ⟨rfl, rfl, rfl⟩ | ⟨g, m, Li, L, gi, x, rfl, rfl, rfl, rfl, hl⟩
    · simp [goingG] at hg
    · have hx : x.ended = false := by simpa [goingG] using hg
      have e : nextG (gi ++ [x]) q = (L.c, wrap64 (L.v + (L.n : Int))) := by
        simp [nextG, hx, hl.at_.c, hl.at_.v, hl.at_.n]
      rw [e]
      exact next_on hl hn hx q
theorem add_any {w : World} {r : Nat} {F : Nat → Prop} {gs : List Gn} (h : Gs w r F gs) {N : Nat} (hN : BdG gs N) (hn : N ≤ 900000) (q : Rv) (c v : Int) :
    Calls Try.prog 33 #[.pointer (some ⟨r, 0, none⟩), .agg #[.int .i64 q.1, .int .i64 q.2, .int .i64 c, .int .i64 v]] w fun e w' => e = .returned (.tuple #[]) ∧ GLeft w r F (addG gs q c v) w' := by
  obtain ⟨A, n, k, Ls, h, hF⟩ := h
  have hnN : n ≤ N := by rw [← h.gn]; exact hN.1
  cases hg : goingG gs
  · have e : addG gs q c v = gs ++ [⟨c, v, [q], (0, 0)⟩] := by
      unfold addG
      unfold goingG at hg
      cases hl : gs.getLast? with
      | none => rfl
      | some x => rw [hl] at hg; simp only [Bool.not_eq_false'] at hg; simp [hg]
    rw [e]
    refine (add_new h (by omega) (fun W hb => kept (going_any (h.below hb) (by omega) hg)) q c v).mono ?_
    rintro e w' ⟨rfl, A', k', L', h1, h2, h3⟩
    exact ⟨rfl, _, ⟨A', n + 1, k', _, h1, fun j => Iff.rfl⟩, fun j hj => (h2 j hj).imp (fun e => (hF j).2 e) id, h3.mono fun j _ e => (hF j).2 e⟩
  · rcases h.snoc with ⟨rfl, rfl, rfl⟩ | ⟨g, m, Li, L, gi, x, rfl, rfl, rfl, rfl, hl⟩
    · simp [goingG] at hg
    · have hx : x.ended = false := by simpa [goingG] using hg
      have e : addG (gi ++ [x]) q c v = (gi ++ [x]).set m { x with ps := x.ps ++ [q] } := by
        rw [last_set' _ _ _ _ hl.gm]
        simp [addG, hx]
      rw [e]
      have hxN := hN.2 x (by simp)
      refine (add_on hl (by omega) (by rw [hl.at_.n]; omega) hx q c v).mono ?_
      rintro e w' ⟨rfl, A', k', h1, h2, h3⟩
      exact ⟨rfl, _, ⟨_, m + 1, k, _, h1, fun j => Iff.rfl⟩, fun j hj => (h2 j hj).imp (fun e => (hF j).2 e) id, h3.mono fun j _ e => (hF j).2 e⟩
def putG (gs : List Gn) (q : Rv) : List Gn := if mcG gs q = 0 then addG gs q (nextG gs q).1 (nextG gs q).2 else gs
theorem mayCome_g {w : World} {r : Nat} {F : Nat → Prop} {gs : List Gn} (h : Gs w r F gs) (hi : GInv gs) {N : Nat} (hN : BdG gs N) (hn : N ≤ 900000) (q : Rv) :
    Calls Try.prog 31 #[.pointer (some ⟨r, 0, none⟩), .agg #[.int .i64 q.1, .int .i64 q.2]] w fun e w' => e = .returned (.int .i64 (mcG gs q)) ∧ Below w.heap.size w w' := by
  obtain ⟨A, n, k, Ls, h, hF⟩ := h
  exact mayCome_any h hi hN (by omega) q
theorem next_g {w : World} {r : Nat} {F : Nat → Prop} {gs : List Gn} (h : Gs w r F gs) {N : Nat} (hN : BdG gs N) (hn : N ≤ 900000) (q : Rv) :
    Calls Try.prog 34 #[.pointer (some ⟨r, 0, none⟩), .agg #[.int .i64 q.1, .int .i64 q.2]] w fun e w' => e = .returned (.agg #[.int .i64 q.1, .int .i64 q.2, .int .i64 (nextG gs q).1, .int .i64 (nextG gs q).2]) ∧ Below w.heap.size w w' := by
  obtain ⟨A, n, k, Ls, h, hF⟩ := h
  exact next_any h (by have := hN.1; rw [h.gn] at this; omega) q
theorem mcG_cases (gs : List Gn) (q : Rv) : mcG gs q = 0 ∨ mcG gs q = 8 ∨ mcG gs q = 2 := by
  unfold mcG
  split
  · split <;> simp
  · simp
/-- What only adds to memory first, then turns a history. -/
theorem GLeft.after {w w1 w' : World} {r : Nat} {F : Nat → Prop} {gs : List Gn} (hb : Below w.heap.size w w1) (h : GLeft w1 r F gs w') : GLeft w r F gs w' := by
  obtain ⟨F', h1, h2, h3⟩ := h
  exact ⟨F', h1, fun j hj => (h2 j hj).imp id (fun e => Nat.le_trans hb.size e), (Turned.of_below hb F).trans h3⟩
set_option maxHeartbeats 1000000 in
theorem gput_any {w : World} {r : Nat} {F : Nat → Prop} {gs : List Gn} (h : Gs w r F gs) (hi : GInv gs) {N : Nat} (hN : BdG gs N) (hn : N ≤ 900000) (q : Rv) :
    Calls Try.prog 15 #[.pointer (some ⟨r, 0, none⟩), .agg #[.int .i64 q.1, .int .i64 q.2]] w fun e w' => e = .returned (.int .i64 (mcG gs q)) ∧ GLeft w r F (putG gs q) w' := by
  have hB0 := (Below.refl w.heap.size w).alloc (Nat.le_refl _) (.cells #[.int .i64 q.1, .int .i64 q.2] 29)
  have HT := kept (two_new w 29 q.1 q.2)
  obtain ⟨t0, t1⟩ := HT.out
  have H := kept (h.below hB0)
  have HB := kept hB0
  have HM := kept (mayCome_g H.out hi hN hn q)
  have HNX := fun W (hb : Gs W r F gs) => kept (next_g hb hN hn q)
  have HA := fun W (hb : Gs W r F gs) => kept (add_any hb hN hn q (nextG gs q).1 (nextG gs q).2)
  have HPY : Hid (mcG gs q = 0 → putG gs q = addG gs q (nextG gs q).1 (nextG gs q).2) := kept (fun e => by unfold putG; rw [if_pos e])
  have HPN : Hid (mcG gs q ≠ 0 → putG gs q = gs) := kept (fun e => by unfold putG; rw [if_neg e])
  have hc := mcG_cases gs q
  generalize mcG gs q = e0 at HM HPY HPN hc ⊢
  generalize putG gs q = P at HPY HPN ⊢
  generalize addG gs q (nextG gs q).1 (nextG gs q).2 = P' at HA HPY
  generalize nextG gs q = nx at HNX HA
  clear hB0 h
  rcases hc with rfl | rfl | rfl
  · obtain rfl := HPY.out rfl
    clear HPY HPN
    go_enter Try.func15, Try.ntmps15
    go_wp2_with fail
    generalize w.alloc (.cells #[.int .i64 q.1, .int .i64 q.2] 29) = W0 at H HB HM HT t0 t1 ⊢
    with_reducible refine HM.out.mono ?_
    rintro e w1 ⟨rfl, hb⟩
    obtain ⟨u0, u1⟩ := HT.out.keeps (Keeps.of_below hb)
    have H1 := kept (H.out.below hb)
    have HB1 := kept (bel_to hb HB.out)
    clear hb t0 t1
    go_wp2_with (first | (go_at_call 34; (with_reducible refine ((HNX _ H1.out).out).mono ?_); rintro e w2 ⟨rfl, hb⟩; have H2 := kept (H1.out.below hb); have HB2 := kept (bel_to hb HB1.out); clear hb) | (go_at_call 33; (with_reducible refine ((HA _ H2.out).out).mono ?_); rintro e w3 ⟨rfl, hl⟩; have H3 := kept hl; clear hl))
    go_ret
    exact ⟨rfl, H3.out.after HB2.out⟩
  all_goals
    obtain rfl := HPN.out (by decide)
    clear HPY HPN
    go_enter Try.func15, Try.ntmps15
    go_wp2_with (first | (go_at_call 31; (with_reducible refine (HM.out).mono ?_); rintro e w1 ⟨rfl, hb⟩; have HX := kept (GLeft.after HB.out (GLeft.of_below H.out hb)); clear hb))
    go_ret
    exact ⟨rfl, HX.out⟩
/-- Tomb: what it answers, and what it leaves. -/
def tombC (gs : List Gn) (q : Rv) : Int := if mcG gs q = 0 then (if goingG gs then 0 else 7) else mcG gs q
def tombG (gs : List Gn) (q : Rv) : List Gn := if mcG gs q = 0 then (if goingG gs then endG gs q else gs) else gs
theorem tomb_no {w : World} {r : Nat} {F : Nat → Prop} {gs : List Gn} (h : Gs w r F gs) (hi : GInv gs) {N : Nat} (hN : BdG gs N) (hn : N ≤ 900000) (q : Rv) (hm : mcG gs q ≠ 0) :
    Calls Try.prog 14 #[.pointer (some ⟨r, 0, none⟩), .agg #[.int .i64 q.1, .int .i64 q.2]] w fun e w' => e = .returned (.int .i64 (mcG gs q)) ∧ Below w.heap.size w w' := by
  have hB0 := (Below.refl w.heap.size w).alloc (Nat.le_refl _) (.cells #[.int .i64 q.1, .int .i64 q.2] 29)
  have HM := kept (mayCome_g (h.below hB0) hi hN hn q)
  have HB := kept hB0
  have hc := mcG_cases gs q
  generalize mcG gs q = e0 at HM hc hm ⊢
  clear hB0 h
  rcases hc with rfl | rfl | rfl
  · exact absurd rfl hm
  all_goals
    go_enter Try.func14, Try.ntmps14
    go_wp2_with (first | (go_at_call 31; (with_reducible refine (HM.out).mono ?_); rintro e w1 ⟨rfl, hb⟩; have HX := kept (bel_to hb HB.out); clear hb))
    go_ret
    exact ⟨rfl, HX.out⟩
theorem tomb_none {w : World} {r : Nat} {F : Nat → Prop} {gs : List Gn} (h : Gs w r F gs) (hi : GInv gs) {N : Nat} (hN : BdG gs N) (hn : N ≤ 900000) (q : Rv) (hm : mcG gs q = 0) (hg : goingG gs = false) :
    Calls Try.prog 14 #[.pointer (some ⟨r, 0, none⟩), .agg #[.int .i64 q.1, .int .i64 q.2]] w fun e w' => e = .returned (.int .i64 7) ∧ Below w.heap.size w w' := by
  have hB0 := (Below.refl w.heap.size w).alloc (Nat.le_refl _) (.cells #[.int .i64 q.1, .int .i64 q.2] 29)
  have HM := kept (mayCome_g (h.below hB0) hi hN hn q)
  rw [hm] at HM
  have HB := kept hB0
  have H := kept (h.below hB0)
  have HG := fun W (h : Gs W r F gs) => kept (show Calls _ _ _ W _ from by
    obtain ⟨A, n, k, Ls, h, hF⟩ := h
    exact going_any h (by have := hN.1; rw [h.gn] at this; omega) hg)
  clear hB0 h hm hg hi hN
  go_enter Try.func14, Try.ntmps14
  go_wp2_with (first | (go_at_call 31; (with_reducible refine (HM.out).mono ?_); rintro e w1 ⟨rfl, hb⟩; have H1 := kept (H.out.below hb); have HX := kept (bel_to hb HB.out); clear hb) | (go_at_call 32; (with_reducible refine ((HG _ H1.out).out).mono ?_); rintro e w2 ⟨rfl, hb⟩; have HX2 := kept (bel_to hb HX.out); clear hb))
  go_ret
  exact ⟨rfl, HX2.out⟩
set_option maxHeartbeats 1000000 in
theorem tomb_on {w : World} {r g m k : Nat} {Li : List GL} {L : GL} {gi : List Gn} {x : Gn} (h : Last w r g m k Li L gi x) (hi : GInv (gi ++ [x])) {N : Nat} (hN : BdG (gi ++ [x]) N) (hn : N ≤ 900000) (q : Rv) (hm : mcG (gi ++ [x]) q = 0) (hx : x.ended = false) :
    Calls Try.prog 14 #[.pointer (some ⟨r, 0, none⟩), .agg #[.int .i64 q.1, .int .i64 q.2]] w fun e w' => e = .returned (.int .i64 0) ∧
      GsL w' r (some ⟨g, 0, none⟩) (m + 1) k ((Li ++ [L]).set m { L with e := q }) ((gi ++ [x]).set m { x with e := q }) ∧
        (∀ j, footG r (some ⟨g, 0, none⟩) (m + 1) k ((Li ++ [L]).set m { L with e := q }) j → footG r (some ⟨g, 0, none⟩) (m + 1) k (Li ++ [L]) j ∨ w.heap.size ≤ j) ∧ Turned w w' (footG r (some ⟨g, 0, none⟩) (m + 1) k (Li ++ [L])) := by
  have hB0 := (Below.refl w.heap.size w).alloc (Nat.le_refl _) (.cells #[.int .i64 q.1, .int .i64 q.2] 29)
  have HT := kept (two_new w 29 q.1 q.2)
  obtain ⟨t0, t1⟩ := HT.out
  have h0 := h.below hB0
  have HM := kept (mayCome_any h0.gs hi hN (by omega) q)
  rw [hm] at HM
  have hmN : m + 1 ≤ 1000000 := by have := hN.1; rw [h.gs.gn] at this; omega
  have HG := fun W (h : Last W r g m k Li L gi x) => kept (going_some h hmN)
  rw [hx] at HG
  have HB := kept hB0
  have H := kept h0
  have HH := kept h
  clear hB0 h h0 hm hi hN hx
  go_enter Try.func14, Try.ntmps14
  go_wp2_with fail
  generalize w.alloc (.cells #[.int .i64 q.1, .int .i64 q.2] 29) = W0 at H HB HM HT t0 t1 ⊢
  with_reducible refine HM.out.mono ?_
  rintro e w1 ⟨rfl, hb⟩
  have H1 := kept (H.out.below hb)
  have HB1 := kept (bel_to hb HB.out)
  have HT1 := kept (HT.out.keeps (Keeps.of_below hb))
  clear hb t0 t1
  go_wp2_with fail
  with_reducible refine (HG _ H1.out).out.mono ?_
  rintro e w2 ⟨rfl, hb⟩
  have h2 := H1.out.below hb
  have hc3 : w2.cell? ⟨g, m * 5 + 3, none⟩ = some (.int .i64 L.e.1) := h2.c3
  have hc4 : w2.cell? ⟨g, m * 5 + 4, none⟩ = some (.int .i64 L.e.2) := h2.c4
  obtain ⟨cur, hcur⟩ := gown_cl (k := 0) h2.gs.own (g := g) rfl
  have f3 := gfrozen hcur (m * 5 + 3)
  have f4 := gfrozen hcur (m * 5 + 4)
  obtain ⟨u0, u1⟩ := HT1.out.keeps (Keeps.of_below hb)
  have H2 := kept h2
  have HB2 := kept (bel_to hb HB1.out)
  clear hb h2 hcur
  go_wp2
  go_ret
  have h := HH.out
  have h2 := H2.out
  have hml : m < (Li ++ [L]).length := by rw [List.length_append, h.lm]; simp
  have e1 : (Li ++ [L])[m] = L := by rw [List.getElem_append_right (by rw [h.lm]; exact Nat.le_refl _)]; simp
  have hs1 := gown_set h2.gs.own (m * 5 + 3) (.int .i64 q.1)
  rw [glC_set (Li ++ [L]) m hml 3 (.int .i64 q.1) { L with e := (q.1, L.e.2) } (by decide) (by rw [e1]; rfl)] at hs1
  have hs2 := gown_set hs1 (m * 5 + 4) (.int .i64 q.2)
  rw [glC_set _ m (by rw [List.length_set]; exact hml) 4 (.int .i64 q.2) { L with e := q } (by decide) (by rw [List.getElem_set_self]; rfl), List.set_set] at hs2
  have t9 : Turned w2 ((w2.setCell ⟨g, m * 5 + 3, none⟩ (.int .i64 q.1)).setCell ⟨g, m * 5 + 4, none⟩ (.int .i64 q.2)) (fun j => j = g) := ((Turned.refl w2 (fun j => j = g)).setCell (p := ⟨g, m * 5 + 3, none⟩) (fun _ => rfl) _).setCell (p := ⟨g, m * 5 + 4, none⟩) (fun _ => rfl) _
  refine ⟨rfl, ?_⟩
  refine h.gs.left_at rfl m hml _ { x with e := q } hs2 ⟨h.at_.c, h.at_.v, rfl, h.at_.n, ?_⟩ ?_ ?_
  · exact gown_turned h2.at_.own t9 (fun j hj e => h2.gs.own_row (L := L) (by simp) rfl (by rw [← e]; exact hj))
  · rw [e1]
    exact ((Turned.of_below HB2.out (fun j => j = g ∨ L.row.ownBlock = some j)).trans (t9.mono (fun _ _ e => .inl e)))
  · rw [e1]
    exact fun j hj => .inl hj
theorem gtomb_any {w : World} {r : Nat} {F : Nat → Prop} {gs : List Gn} (h : Gs w r F gs) (hi : GInv gs) {N : Nat} (hN : BdG gs N) (hn : N ≤ 900000) (q : Rv) :
    Calls Try.prog 14 #[.pointer (some ⟨r, 0, none⟩), .agg #[.int .i64 q.1, .int .i64 q.2]] w fun e w' => e = .returned (.int .i64 (tombC gs q)) ∧ GLeft w r F (tombG gs q) w' := by
  unfold tombC tombG
  by_cases hm : mcG gs q = 0
  · rw [if_pos hm, if_pos hm]
    cases hg : goingG gs
    · refine (tomb_none h hi hN hn q hm hg).mono ?_
      rintro e w' ⟨rfl, hb⟩
      exact ⟨rfl, GLeft.of_below h hb⟩
    · obtain ⟨A, n, k, Ls, h, hF⟩ := h
      rcases h.snoc with ⟨rfl, rfl, rfl⟩ | ⟨g, m, Li, L, gi, x, rfl, rfl, rfl, rfl, hl⟩
      · simp [goingG] at hg
      · have hx : x.ended = false := by simpa [goingG] using hg
        have e : endG (gi ++ [x]) q = (gi ++ [x]).set m { x with e := q } := by
          rw [last_set' _ _ _ _ hl.gm]
          simp [endG]
        simp only [if_true]
        rw [e]
        refine (tomb_on hl hi hN hn q hm hx).mono ?_
        rintro e w' ⟨rfl, h1, h2, h3⟩
        exact ⟨rfl, _, ⟨_, m + 1, k, _, h1, fun j => Iff.rfl⟩, fun j hj => (h2 j hj).imp (fun e => (hF j).2 e) id, h3.mono fun j _ e => (hF j).2 e⟩
  · rw [if_neg hm, if_neg hm]
    refine (tomb_no h hi hN hn q hm).mono ?_
    rintro e w' ⟨rfl, hb⟩
    exact ⟨rfl, GLeft.of_below h hb⟩
end Go.Proofs.Ythpaliagmnclfaa
