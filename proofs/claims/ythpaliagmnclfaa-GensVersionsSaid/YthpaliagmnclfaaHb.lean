/-
  The law's own helper do: an act on both histories.
-/
import Derived.Test.YthpaliagmnclfaaHa
import Derived.Deep.DeepCutAuto
namespace Go.Proofs.Ythpaliagmnclfaa
open Go.ChangeShapes Go.WideShapes Go.ChangeAt Go.RowKit Go.Deep
set_option linter.unusedVariables false
set_option linter.unusedSimpArgs false

/-- An act's step on the plain history. -/
def stepG (gs : List Gn) (k : Int) (q : Rv) (c v : Int) : List Gn := if k = 0 then putG gs q else if k = 1 then tombG gs q else if k = 2 then compactG gs q.1 else if k = 3 then restG gs q c v else tombG gs q
/-- What do leaves. -/
def DoR (w : World) (r : Nat) (F : Nat → Prop) (gs : List Gn) (b n : Nat) (a : Ac) (e : Ending) (w' : World) : Prop := ∃ (q : Rv) (last' : Int) (t : Bool) (F' : Nat → Prop) (n' : Nat), e = .returned (.tuple #[.int .i64 last', .bool t]) ∧
  Gs w' r F' (stepG gs a.k q a.c a.v) ∧ (∀ j, F' j → F j ∨ w.heap.size ≤ j) ∧ RF w' b n' ∧ n' ≤ n + 1 ∧ Turned w w' (fun j => F j ∨ OfT b w j)
/-- Both calls of an act, one behind the other. -/
structure Two3 (w W : World) (r : Nat) (F : Nat → Prop) (gs' : List Gn) (b n : Nat) : Prop where
  out : ∃ (F' : Nat → Prop) (n' : Nat), Gs W r F' gs' ∧ (∀ j, F' j → F j ∨ w.heap.size ≤ j) ∧ RF W b n' ∧ n' ≤ n + 1 ∧ Turned w W (fun j => F j ∨ OfT b w j)
theorem oft_back {b : Nat} {w W : World} {F : Nat → Prop} {j : Nat} (t : Turned w W F) (hj : j < w.heap.size) (hn : ¬ F j) (h : OfT b W j) : OfT b w j := by
  obtain ⟨hb, c, s, f, e, hs⟩ := h
  exact ⟨hb, c, s, f, by rw [← t.block j hj hn]; exact e, hs⟩
theorem TurnR.blk_ {b : Nat} {w w' : World} (t : TurnR b w w') {j : Nat} {s : TypeId} {cs : List Value} (h : Blk w j s cs) (h1 : s ≠ 46) (h2 : s ≠ 83) : Blk w' j s cs := Turned.blk t h (by
  rintro ⟨_, c, u, f, e, hu⟩
  rcases hu with rfl | rfl
  · exact ne_of_types (show w.heap[j]? = some _ from h) e h1 rfl
  · exact ne_of_types (show w.heap[j]? = some _ from h) e h2 rfl)
/-- First the one, then the document's. -/
theorem both_of {w W1 W2 W3 : World} {r : Nat} {F : Nat → Prop} {gs gs' : List Gn} {b n n' : Nat} (hb : Below w.heap.size w W1) (hg : Gs W1 r F gs) (hr : RF W1 b n) (h1 : GLeft W1 r F gs' W2) (h2 : RF W3 b n') (hn : n' ≤ n + 1) (h3 : TurnR b W2 W3) : Two3 w W3 r F gs' b n := by
  obtain ⟨F', k1, k2, k3⟩ := h1
  refine ⟨F', n', k1.after_r h3, fun j hj => (k2 j hj).imp id (fun e => Nat.le_trans hb.size e), h2, hn, ?_⟩
  refine ((Turned.of_below hb (fun j => F j ∨ OfT b w j)).chain (k3.mono (fun _ _ e => .inl e) : Turned W1 W2 (fun j => F j ∨ OfT b w j)) (fun j _ e => e)).chain h3 (fun j hj e => ?_)
  by_cases hF : F j
  · exact .inl hF
  · exact .inr (oft_back (Turned.of_below hb F) hj hF (oft_back k3 (Nat.lt_of_lt_of_le hj hb.size) hF e))
theorem Two3.later {w W W' : World} {r : Nat} {F : Nat → Prop} {gs' : List Gn} {b n : Nat} (h : Two3 w W r F gs' b n) (hb : Below W.heap.size W W') : Two3 w W' r F gs' b n := by
  obtain ⟨F', n', k1, k2, k3, k4, k5⟩ := h.out
  exact ⟨F', n', k1.below hb, k2, k3.below hb, k4, k5.trans (Turned.of_below hb _)⟩
set_option maxHeartbeats 4000000 in
theorem do_any {w : World} {r : Nat} {F : Nat → Prop} {gs : List Gn} {b n : Nat} (h : Gs w r F gs) (hr : RF w b n) (hi : GInv gs) {N : Nat} (hN : BdG gs N) (hn : N ≤ 900000) (hnn : n ≤ 900000) (a : Ac) (last : Int) :
    Calls Try.prog 13 #[.pointer (some ⟨r, 0, none⟩), .pointer (some ⟨b, 0, none⟩), acV a, .int .i64 last] w (DoR w r F gs b n a) := by
  obtain ⟨k, nx, m, s, c, v⟩ := a
  have hB0 := (Below.refl w.heap.size w).alloc (Nat.le_refl _) (.cells #[.int .i64 k, .bool nx, .int .i64 m, .int .i64 s, .int .i64 c, .int .i64 v] 39)
  have HK0 := kept (Blk.new w 39 #[.int .i64 k, .bool nx, .int .i64 m, .int .i64 s, .int .i64 c, .int .i64 v])
  have HR := kept (actrev_any ⟨k, nx, m, s, c, v⟩ last (w.alloc (.cells #[.int .i64 k, .bool nx, .int .i64 m, .int .i64 s, .int .i64 c, .int .i64 v] 39)))
  have HB := kept hB0
  have HG := kept (And.intro (h.below hB0) (hr.below hB0))
  have HLT := kept (And.intro (fun j (hj : F j) => h.lt hj) (fun j (hj : F j) => h.notT (b := b) hj))
  clear hB0 h hr
  go_enter Try.func13, Try.ntmps13
  go_wp2_with fail
  generalize w.alloc (.cells #[.int .i64 k, .bool nx, .int .i64 m, .int .i64 s, .int .i64 c, .int .i64 v] 39) = W0 at HK0 HR HB HG ⊢
  with_reducible refine HR.out.mono ?_
  rintro e w1 ⟨q, rfl, hb⟩
  have hba : Below w1.heap.size w1 (w1.alloc (.cells #[.int .i64 q.1, .int .i64 q.2] 29)) := (Below.refl _ w1).alloc (Nat.le_refl _) _
  have htw := two_new w1 29 q.1 q.2
  have hrv := Blk.new w1 29 #[.int .i64 q.1, .int .i64 q.2]
  have hk := (HK0.out.below hb HK0.out.lt).below hba (HK0.out.below hb HK0.out.lt).lt
  have hg := (HG.out.1.below hb).below hba
  have hrr := (HG.out.2.below hb).below hba
  have hbw := bel_to hba (bel_to hb HB.out)
  have hwl : w.heap.size ≤ w1.heap.size := (bel_to hb HB.out).size
  go_upto_region 3 with fail
  generalize w1.alloc (.cells #[.int .i64 q.1, .int .i64 q.2] 29) = W2 at hba htw hrv hk hg hrr hbw ⊢
  obtain ⟨a0, a1, a2, a3, a4, a5⟩ : W2.cell? ⟨w.heap.size, 0, none⟩ = some (.int .i64 k) ∧ W2.cell? ⟨w.heap.size, 1, none⟩ = some (.bool nx) ∧ W2.cell? ⟨w.heap.size, 2, none⟩ = some (.int .i64 m) ∧ W2.cell? ⟨w.heap.size, 3, none⟩ = some (.int .i64 s) ∧ W2.cell? ⟨w.heap.size, 4, none⟩ = some (.int .i64 c) ∧ W2.cell? ⟨w.heap.size, 5, none⟩ = some (.int .i64 v) := ⟨hk.cell 0, hk.cell 1, hk.cell 2, hk.cell 3, hk.cell 4, hk.cell 5⟩
  have htw0 := htw
  have hbd : Below W2.heap.size W2 W2.drew := (Below.refl _ _).drew
  have HS0 := kept (show (fun W' : World => (W'.cell? ⟨w1.heap.size, 0, none⟩ = some (.int .i64 q.1) ∧ W'.cell? ⟨w1.heap.size, 1, none⟩ = some (.int .i64 q.2)) ∧ (W'.cell? ⟨w.heap.size, 4, none⟩ = some (.int .i64 c) ∧ W'.cell? ⟨w.heap.size, 5, none⟩ = some (.int .i64 v))) W2.drew from ⟨⟨hrv.cell 0, hrv.cell 1⟩, hk.cell 4, hk.cell 5⟩)
  have HW := kept (And.intro (hrv.below hbd hrv.lt) (And.intro (hk.below hbd hk.lt) (And.intro (hg.below hbd) (And.intro (hrr.below hbd) (And.intro (bel_to hbd hbw) hwl)))))
  have HWL := kept hwl
  have HW0 := kept (And.intro hrv (And.intro hg (And.intro hrr hbw)))
  clear hba htw hk hg hrr hbw hwl hb HK0 HR HG HB hrv hbd
  by_cases h0 : k = 0
  · subst h0
    have HG1 := kept (gput_any HW.out.2.2.1 hi hN hn q)
    have HR1 := fun W (h : RF W b n) => kept (rput_any h hnn q)
    generalize mcG gs q = e1 at HG1
    clear htw0
    go_wp2
    clear a0 a1 a2 a3 a4 a5
    refine wp_region_held_drew (S := (fun W' => (W'.cell? ⟨w1.heap.size, 0, none⟩ = some (.int .i64 q.1) ∧ W'.cell? ⟨w1.heap.size, 1, none⟩ = some (.int .i64 q.2)) ∧ (W'.cell? ⟨w.heap.size, 4, none⟩ = some (.int .i64 c) ∧ W'.cell? ⟨w.heap.size, 5, none⟩ = some (.int .i64 v)))) (by kernel_rfl) ?_ (fun hHeld => ?_)
    · ((try dsimp only); (first | with_reducible exact HS0.out | with_reducible exact HS1.out | with_reducible exact HS2.out))
    refine hand_take 0 (some 31) ?_ (by kernel_rfl) (by kernel_rfl) (by kernel_rfl) (by kernel_rfl) (by kernel_rfl) (fun _ _ _ h => h) ?_ (by assumption) ?_
    rotate_left
    · (intro o ho w hSw; (simp only [List.getElem?_toArray, List.getElem?_cons_succ, List.getElem?_cons_zero, Option.some.injEq] at ho); subst ho; (try dsimp only at hSw); go_simp; (first | done | with_reducible rfl))
    (try simp only [Act.put, List.setIfInBounds_toArray, List.set_cons_zero, List.set_cons_succ])
    refine hand_take 1 (some 32) ?_ (by kernel_rfl) (by kernel_rfl) (by kernel_rfl) (by kernel_rfl) (by kernel_rfl) (fun _ _ _ h => h) ?_ (by assumption) ?_
    rotate_left
    · (intro o ho w hSw; (simp only [List.getElem?_toArray, List.getElem?_cons_succ, List.getElem?_cons_zero, Option.some.injEq] at ho); subst ho; (try dsimp only at hSw); go_simp; (first | done | with_reducible rfl))
    (try simp only [Act.put, List.setIfInBounds_toArray, List.set_cons_zero, List.set_cons_succ])
    refine hand_take 3 (some 34) ?_ (by kernel_rfl) (by kernel_rfl) (by kernel_rfl) (by kernel_rfl) (by kernel_rfl) (fun _ _ _ h => h) ?_ (by assumption) ?_
    rotate_left
    · (intro o ho w hSw; (simp only [List.getElem?_toArray, List.getElem?_cons_succ, List.getElem?_cons_zero, Option.some.injEq] at ho); subst ho; (try dsimp only at hSw); go_simp; (first | done | with_reducible rfl))
    (try simp only [Act.put, List.setIfInBounds_toArray, List.set_cons_zero, List.set_cons_succ])
    refine hand_take 4 (some 35) ?_ (by kernel_rfl) (by kernel_rfl) (by kernel_rfl) (by kernel_rfl) (by kernel_rfl) (fun _ _ _ h => h) ?_ (by assumption) ?_
    rotate_left
    · (intro o ho w hSw; (simp only [List.getElem?_toArray, List.getElem?_cons_succ, List.getElem?_cons_zero, Option.some.injEq] at ho); subst ho; (try dsimp only at hSw); go_simp; (first | done | with_reducible rfl))
    (try simp only [Act.put, List.setIfInBounds_toArray, List.set_cons_zero, List.set_cons_succ])
    refine hand_ready 2 (by kernel_rfl) (by kernel_rfl) (fun o ho K hK => ?_)
    (simp only [List.getElem?_toArray, List.getElem?_cons_succ, List.getElem?_cons_zero, Option.some.injEq] at ho)
    subst ho
    go_simp
    (go_at_call 15; (with_reducible refine HG1.out.mono ?_); rintro e w3 ⟨rfl, hl⟩; (have ht3 : Turned W2.drew w3 F := hl.choose_spec.2.2); (have hrv := ht3.blk HW.out.1 (fun e => by have := HLT.out.1 _ e; have := HW.out.2.2.2.2.2; omega)); (have hac := ht3.blk HW.out.2.1 (fun e => by have := HLT.out.1 _ e; omega)); (have HS1 := kept (show (fun W' : World => (W'.cell? ⟨w1.heap.size, 0, none⟩ = some (.int .i64 q.1) ∧ W'.cell? ⟨w1.heap.size, 1, none⟩ = some (.int .i64 q.2)) ∧ (W'.cell? ⟨w.heap.size, 4, none⟩ = some (.int .i64 c) ∧ W'.cell? ⟨w.heap.size, 5, none⟩ = some (.int .i64 v))) w3 from ⟨⟨hrv.cell 0, hrv.cell 1⟩, hac.cell 4, hac.cell 5⟩)); have HR3 := HR1 w3 (HW.out.2.2.2.1.after_g ht3 (fun j hj => HW.out.2.2.1.notT (b := b) hj)); have HL := kept (And.intro hl (And.intro hrv hac)); clear hl ht3 hrv hac)
    (try go_wp2_with fail)
    refine hK.out _ _ ?_ (fun hHeld => ?_)
    · ((try dsimp only); (first | with_reducible exact HS0.out | with_reducible exact HS1.out | with_reducible exact HS2.out))
    clear hK K
    (try simp only [Act.put, List.setIfInBounds_toArray, List.set_cons_zero, List.set_cons_succ])
    refine hand_ready 5 (by kernel_rfl) (by kernel_rfl) (fun o ho K hK => ?_)
    (simp only [List.getElem?_toArray, List.getElem?_cons_succ, List.getElem?_cons_zero, Option.some.injEq] at ho)
    subst ho
    go_simp
    (go_at_call 26; (with_reducible refine HR3.out.mono ?_); rintro e w4 ⟨er, n', _, rfl, hr4, hn4, _, ht4⟩; (have hrv := TurnR.blk_ ht4 HL.out.2.1 (by decide) (by decide)); (have hac := TurnR.blk_ ht4 HL.out.2.2 (by decide) (by decide)); (have HS2 := kept (show (fun W' : World => (W'.cell? ⟨w1.heap.size, 0, none⟩ = some (.int .i64 q.1) ∧ W'.cell? ⟨w1.heap.size, 1, none⟩ = some (.int .i64 q.2)) ∧ (W'.cell? ⟨w.heap.size, 4, none⟩ = some (.int .i64 c) ∧ W'.cell? ⟨w.heap.size, 5, none⟩ = some (.int .i64 v))) w4 from ⟨⟨hrv.cell 0, hrv.cell 1⟩, hac.cell 4, hac.cell 5⟩)); (have HTW := kept (both_of HW.out.2.2.2.2.1 HW.out.2.2.1 HW.out.2.2.2.1 HL.out.1 hr4 hn4 ht4)); clear hr4 hn4 ht4 hrv hac)
    (try go_wp2_with fail)
    refine hK.out _ _ ?_ (fun hHeld => ?_)
    · ((try dsimp only); (first | with_reducible exact HS0.out | with_reducible exact HS1.out | with_reducible exact HS2.out))
    clear hK K
    (try simp only [Act.put, List.setIfInBounds_toArray, List.set_cons_zero, List.set_cons_succ])
    refine hand_take 6 (some 11) ?_ (by kernel_rfl) (by kernel_rfl) (by kernel_rfl) (by kernel_rfl) (by kernel_rfl) (fun _ _ _ h => h) ?_ (by assumption) ?_
    rotate_left
    · (intro o ho w hSw; (simp only [List.getElem?_toArray, List.getElem?_cons_succ, List.getElem?_cons_zero, Option.some.injEq] at ho); subst ho; (try dsimp only at hSw); go_simp; (first | done | with_reducible rfl))
    (try simp only [Act.put, List.setIfInBounds_toArray, List.set_cons_zero, List.set_cons_succ])
    refine hand_take 7 (some 12) ?_ (by kernel_rfl) (by kernel_rfl) (by kernel_rfl) (by kernel_rfl) (by kernel_rfl) (fun _ _ _ h => h) ?_ (by assumption) ?_
    rotate_left
    · (intro o ho w hSw; (simp only [List.getElem?_toArray, List.getElem?_cons_succ, List.getElem?_cons_zero, Option.some.injEq] at ho); subst ho; (try dsimp only at hSw); go_simp; (first | done | with_reducible rfl))
    (try simp only [Act.put, List.setIfInBounds_toArray, List.set_cons_zero, List.set_cons_succ])
    refine wpAnyH_done (by kernel_rfl) ?_ _
    clear hHeld
    obtain ⟨⟨z0, z1⟩, _, _⟩ := HS2.out
    clear HS0 HS1 HS2 HL HR3 HG1
    by_cases he : e1 = 0
    · subst he
      by_cases hq : q.1 < 1152921504606846976
      all_goals
        go_wp2
        go_returns
        obtain ⟨F', n', k1, k2, k3, k4, k5⟩ := HTW.out.out
        exact ⟨q, _, _, F', n', rfl, by simpa [stepG] using k1, k2, k3, k4, k5⟩
    · have he' : (e1 == 0) = false := by simpa using he
      go_wp2
      go_returns
      obtain ⟨F', n', k1, k2, k3, k4, k5⟩ := HTW.out.out
      exact ⟨q, _, _, F', n', rfl, by simpa [stepG] using k1, k2, k3, k4, k5⟩
  · have h0' : (k == 0) = false := by simpa using h0
    by_cases h1 : k = 1
    · subst h1
      have HG1 := kept (gtomb_any HW.out.2.2.1 hi hN hn q)
      have HR1 := fun W (h : RF W b n) => kept (rtomb_any h hnn q)
      generalize tombC gs q = e1 at HG1
      clear htw0
      go_wp2
      clear a0 a1 a2 a3 a4 a5
      refine wp_region_held_drew (S := (fun W' => (W'.cell? ⟨w1.heap.size, 0, none⟩ = some (.int .i64 q.1) ∧ W'.cell? ⟨w1.heap.size, 1, none⟩ = some (.int .i64 q.2)) ∧ (W'.cell? ⟨w.heap.size, 4, none⟩ = some (.int .i64 c) ∧ W'.cell? ⟨w.heap.size, 5, none⟩ = some (.int .i64 v)))) (by kernel_rfl) ?_ (fun hHeld => ?_)
      · ((try dsimp only); (first | with_reducible exact HS0.out | with_reducible exact HS1.out | with_reducible exact HS2.out))
      refine hand_take 0 (some 39) ?_ (by kernel_rfl) (by kernel_rfl) (by kernel_rfl) (by kernel_rfl) (by kernel_rfl) (fun _ _ _ h => h) ?_ (by assumption) ?_
      rotate_left
      · (intro o ho w hSw; (simp only [List.getElem?_toArray, List.getElem?_cons_succ, List.getElem?_cons_zero, Option.some.injEq] at ho); subst ho; (try dsimp only at hSw); go_simp; (first | done | with_reducible rfl))
      (try simp only [Act.put, List.setIfInBounds_toArray, List.set_cons_zero, List.set_cons_succ])
      refine hand_take 1 (some 40) ?_ (by kernel_rfl) (by kernel_rfl) (by kernel_rfl) (by kernel_rfl) (by kernel_rfl) (fun _ _ _ h => h) ?_ (by assumption) ?_
      rotate_left
      · (intro o ho w hSw; (simp only [List.getElem?_toArray, List.getElem?_cons_succ, List.getElem?_cons_zero, Option.some.injEq] at ho); subst ho; (try dsimp only at hSw); go_simp; (first | done | with_reducible rfl))
      (try simp only [Act.put, List.setIfInBounds_toArray, List.set_cons_zero, List.set_cons_succ])
      refine hand_take 3 (some 42) ?_ (by kernel_rfl) (by kernel_rfl) (by kernel_rfl) (by kernel_rfl) (by kernel_rfl) (fun _ _ _ h => h) ?_ (by assumption) ?_
      rotate_left
      · (intro o ho w hSw; (simp only [List.getElem?_toArray, List.getElem?_cons_succ, List.getElem?_cons_zero, Option.some.injEq] at ho); subst ho; (try dsimp only at hSw); go_simp; (first | done | with_reducible rfl))
      (try simp only [Act.put, List.setIfInBounds_toArray, List.set_cons_zero, List.set_cons_succ])
      refine hand_take 4 (some 43) ?_ (by kernel_rfl) (by kernel_rfl) (by kernel_rfl) (by kernel_rfl) (by kernel_rfl) (fun _ _ _ h => h) ?_ (by assumption) ?_
      rotate_left
      · (intro o ho w hSw; (simp only [List.getElem?_toArray, List.getElem?_cons_succ, List.getElem?_cons_zero, Option.some.injEq] at ho); subst ho; (try dsimp only at hSw); go_simp; (first | done | with_reducible rfl))
      (try simp only [Act.put, List.setIfInBounds_toArray, List.set_cons_zero, List.set_cons_succ])
      refine hand_ready 2 (by kernel_rfl) (by kernel_rfl) (fun o ho K hK => ?_)
      (simp only [List.getElem?_toArray, List.getElem?_cons_succ, List.getElem?_cons_zero, Option.some.injEq] at ho)
      subst ho
      go_simp
      (go_at_call 14; (with_reducible refine HG1.out.mono ?_); rintro e w3 ⟨rfl, hl⟩; (have ht3 : Turned W2.drew w3 F := hl.choose_spec.2.2); (have hrv := ht3.blk HW.out.1 (fun e => by have := HLT.out.1 _ e; have := HW.out.2.2.2.2.2; omega)); (have hac := ht3.blk HW.out.2.1 (fun e => by have := HLT.out.1 _ e; omega)); (have HS1 := kept (show (fun W' : World => (W'.cell? ⟨w1.heap.size, 0, none⟩ = some (.int .i64 q.1) ∧ W'.cell? ⟨w1.heap.size, 1, none⟩ = some (.int .i64 q.2)) ∧ (W'.cell? ⟨w.heap.size, 4, none⟩ = some (.int .i64 c) ∧ W'.cell? ⟨w.heap.size, 5, none⟩ = some (.int .i64 v))) w3 from ⟨⟨hrv.cell 0, hrv.cell 1⟩, hac.cell 4, hac.cell 5⟩)); have HR3 := HR1 w3 (HW.out.2.2.2.1.after_g ht3 (fun j hj => HW.out.2.2.1.notT (b := b) hj)); have HL := kept (And.intro hl (And.intro hrv hac)); clear hl ht3 hrv hac)
      (try go_wp2_with fail)
      refine hK.out _ _ ?_ (fun hHeld => ?_)
      · ((try dsimp only); (first | with_reducible exact HS0.out | with_reducible exact HS1.out | with_reducible exact HS2.out))
      clear hK K
      (try simp only [Act.put, List.setIfInBounds_toArray, List.set_cons_zero, List.set_cons_succ])
      refine hand_ready 5 (by kernel_rfl) (by kernel_rfl) (fun o ho K hK => ?_)
      (simp only [List.getElem?_toArray, List.getElem?_cons_succ, List.getElem?_cons_zero, Option.some.injEq] at ho)
      subst ho
      go_simp
      (go_at_call 27; (with_reducible refine HR3.out.mono ?_); rintro e w4 ⟨er, n', _, rfl, hr4, hn4, _, ht4⟩; (have hrv := TurnR.blk_ ht4 HL.out.2.1 (by decide) (by decide)); (have hac := TurnR.blk_ ht4 HL.out.2.2 (by decide) (by decide)); (have HS2 := kept (show (fun W' : World => (W'.cell? ⟨w1.heap.size, 0, none⟩ = some (.int .i64 q.1) ∧ W'.cell? ⟨w1.heap.size, 1, none⟩ = some (.int .i64 q.2)) ∧ (W'.cell? ⟨w.heap.size, 4, none⟩ = some (.int .i64 c) ∧ W'.cell? ⟨w.heap.size, 5, none⟩ = some (.int .i64 v))) w4 from ⟨⟨hrv.cell 0, hrv.cell 1⟩, hac.cell 4, hac.cell 5⟩)); (have HTW := kept (both_of HW.out.2.2.2.2.1 HW.out.2.2.1 HW.out.2.2.2.1 HL.out.1 hr4 hn4 ht4)); clear hr4 hn4 ht4 hrv hac)
      (try go_wp2_with fail)
      refine hK.out _ _ ?_ (fun hHeld => ?_)
      · ((try dsimp only); (first | with_reducible exact HS0.out | with_reducible exact HS1.out | with_reducible exact HS2.out))
      clear hK K
      (try simp only [Act.put, List.setIfInBounds_toArray, List.set_cons_zero, List.set_cons_succ])
      refine hand_take 6 (some 11) ?_ (by kernel_rfl) (by kernel_rfl) (by kernel_rfl) (by kernel_rfl) (by kernel_rfl) (fun _ _ _ h => h) ?_ (by assumption) ?_
      rotate_left
      · (intro o ho w hSw; (simp only [List.getElem?_toArray, List.getElem?_cons_succ, List.getElem?_cons_zero, Option.some.injEq] at ho); subst ho; (try dsimp only at hSw); go_simp; (first | done | with_reducible rfl))
      (try simp only [Act.put, List.setIfInBounds_toArray, List.set_cons_zero, List.set_cons_succ])
      refine hand_take 7 (some 12) ?_ (by kernel_rfl) (by kernel_rfl) (by kernel_rfl) (by kernel_rfl) (by kernel_rfl) (fun _ _ _ h => h) ?_ (by assumption) ?_
      rotate_left
      · (intro o ho w hSw; (simp only [List.getElem?_toArray, List.getElem?_cons_succ, List.getElem?_cons_zero, Option.some.injEq] at ho); subst ho; (try dsimp only at hSw); go_simp; (first | done | with_reducible rfl))
      (try simp only [Act.put, List.setIfInBounds_toArray, List.set_cons_zero, List.set_cons_succ])
      refine wpAnyH_done (by kernel_rfl) ?_ _
      clear hHeld
      obtain ⟨⟨z0, z1⟩, _, _⟩ := HS2.out
      clear HS0 HS1 HS2 HL HR3 HG1
      by_cases he : e1 = 0
      · subst he
        by_cases hq : q.1 < 1152921504606846976
        all_goals
          go_wp2
          go_returns
          obtain ⟨F', n', k1, k2, k3, k4, k5⟩ := HTW.out.out
          exact ⟨q, _, _, F', n', rfl, by simpa [stepG] using k1, k2, k3, k4, k5⟩
      · have he' : (e1 == 0) = false := by simpa using he
        go_wp2
        go_returns
        obtain ⟨F', n', k1, k2, k3, k4, k5⟩ := HTW.out.out
        exact ⟨q, _, _, F', n', rfl, by simpa [stepG] using k1, k2, k3, k4, k5⟩
    · have h1' : (k == 1) = false := by simpa using h1
      by_cases h2 : k = 2
      · subst h2
        have HC2 := kept (gcompact_any HW0.out.2.1 hi hN hn q.1)
        have HRC := fun W (h : RF W b n) => kept (rcompact_any h hnn q.1)
        obtain ⟨z, zb, hz⟩ : ∃ (z : Rv) (zb : Bool), compV (getG gs q.1) = .tuple #[.agg #[.int .i64 z.1, .int .i64 z.2], .bool zb] := by
          cases getG gs q.1 with
          | none => exact ⟨(0, 0), false, rfl⟩
          | some o => exact ⟨o.1, true, rfl⟩
        rw [hz] at HC2
        have z0 : W2.cell? ⟨w1.heap.size, 0, none⟩ = some (.int .i64 q.1) := HW0.out.1.cell 0
        clear htw0 HS0 HW hz
        go_wp2_with fail
        with_reducible refine HC2.out.mono ?_
        rintro e w3 ⟨rfl, hl⟩
        have ht3 : Turned W2 w3 F := hl.choose_spec.2.2
        have hrv := ht3.blk HW0.out.1 (fun e => by have := HLT.out.1 _ e; have := HWL.out; omega)
        have hrf := HW0.out.2.2.1.after_g ht3 (fun j hj => HW0.out.2.1.notT (b := b) hj)
        have hba : Below w3.heap.size w3 (w3.alloc (.cells #[.int .i64 z.1, .int .i64 z.2] 29)) := (Below.refl _ w3).alloc (Nat.le_refl _) _
        have hzb := Blk.new w3 29 #[.int .i64 z.1, .int .i64 z.2]
        have HRC3 := HRC _ (hrf.below hba)
        have y0 : ∀ o, (w3.alloc o).cell? ⟨w1.heap.size, 0, none⟩ = some (.int .i64 q.1) := fun o => (hrv.alloc o).cell 0
        have HL := kept (And.intro hl (And.intro hba hzb))
        clear hl ht3 hrv hrf hba hzb a0 a1 a2 a3 a4 a5 z0
        go_wp2_with fail
        generalize w3.alloc (.cells #[.int .i64 z.1, .int .i64 z.2] 29) = W4 at HRC3 HL ⊢
        with_reducible refine HRC3.out.mono ?_
        rintro e w4 ⟨r1, r2, ok, n', rfl, hr4, hn4, ht4⟩
        have hzb := TurnR.blk_ ht4 HL.out.2.2 (by decide) (by decide)
        have u0 : ∀ o, (w4.alloc o).cell? ⟨w3.heap.size, 0, none⟩ = some (.int .i64 z.1) := fun o => (hzb.alloc o).cell 0
        have u1 : ∀ o, (w4.alloc o).cell? ⟨w3.heap.size, 1, none⟩ = some (.int .i64 z.2) := fun o => (hzb.alloc o).cell 1
        have hq := fun w => eql_rv z (r1, r2) w
        generalize decide (z = (r1, r2)) = zz at hq
        have HTW := kept ((both_of HW0.out.2.2.2 HW0.out.2.1 HW0.out.2.2.1 HL.out.1 hr4 hn4 ((TurnR.of_below HL.out.2.1).trans ht4)).later ((Below.refl w4.heap.size w4).alloc (Nat.le_refl _) (.cells #[.int .i64 r1, .int .i64 r2] 29)))
        clear hzb hr4 hn4 ht4 y0 HL
        cases zz
        all_goals
          go_wp2
          go_returns
          obtain ⟨F', n', k1, k2, k3, k4, k5⟩ := HTW.out.out
          exact ⟨q, _, _, F', n', rfl, by simpa [stepG] using k1, k2, k3, k4, k5⟩
      · have h2' : (k == 2) = false := by simpa using h2
        by_cases h3 : k = 3
        · subst h3
          have HG1 := kept (grest_put HW.out.2.2.1 hi hN hn q c v)
          have HR1 := fun W (h : RF W b n) => kept (rrest_put h hnn q c v)
          generalize restC gs q c v = e1 at HG1
          clear htw0
          go_wp2
          clear a0 a1 a2 a3 a4 a5
          refine wp_region_held_drew (S := (fun W' => (W'.cell? ⟨w1.heap.size, 0, none⟩ = some (.int .i64 q.1) ∧ W'.cell? ⟨w1.heap.size, 1, none⟩ = some (.int .i64 q.2)) ∧ (W'.cell? ⟨w.heap.size, 4, none⟩ = some (.int .i64 c) ∧ W'.cell? ⟨w.heap.size, 5, none⟩ = some (.int .i64 v)))) (by kernel_rfl) ?_ (fun hHeld => ?_)
          · ((try dsimp only); (first | with_reducible exact HS0.out | with_reducible exact HS1.out | with_reducible exact HS2.out))
          refine hand_take 0 (some 72) ?_ (by kernel_rfl) (by kernel_rfl) (by kernel_rfl) (by kernel_rfl) (by kernel_rfl) (fun _ _ _ h => h) ?_ (by assumption) ?_
          rotate_left
          · (intro o ho w hSw; (simp only [List.getElem?_toArray, List.getElem?_cons_succ, List.getElem?_cons_zero, Option.some.injEq] at ho); subst ho; (try dsimp only at hSw); go_simp; (first | done | with_reducible rfl))
          (try simp only [Act.put, List.setIfInBounds_toArray, List.set_cons_zero, List.set_cons_succ])
          refine hand_take 1 (some 73) ?_ (by kernel_rfl) (by kernel_rfl) (by kernel_rfl) (by kernel_rfl) (by kernel_rfl) (fun _ _ _ h => h) ?_ (by assumption) ?_
          rotate_left
          · (intro o ho w hSw; (simp only [List.getElem?_toArray, List.getElem?_cons_succ, List.getElem?_cons_zero, Option.some.injEq] at ho); subst ho; (try dsimp only at hSw); go_simp; (first | done | with_reducible rfl))
          (try simp only [Act.put, List.setIfInBounds_toArray, List.set_cons_zero, List.set_cons_succ])
          refine hand_take 2 (some 74) ?_ (by kernel_rfl) (by kernel_rfl) (by kernel_rfl) (by kernel_rfl) (by kernel_rfl) (fun _ _ _ h => h) ?_ (by assumption) ?_
          rotate_left
          · (intro o ho w hSw; (simp only [List.getElem?_toArray, List.getElem?_cons_succ, List.getElem?_cons_zero, Option.some.injEq] at ho); subst ho; (try dsimp only at hSw); go_simp; (first | done | with_reducible rfl))
          (try simp only [Act.put, List.setIfInBounds_toArray, List.set_cons_zero, List.set_cons_succ])
          refine hand_take 3 (some 75) ?_ (by kernel_rfl) (by kernel_rfl) (by kernel_rfl) (by kernel_rfl) (by kernel_rfl) (fun _ _ _ h => h) ?_ (by assumption) ?_
          rotate_left
          · (intro o ho w hSw; (simp only [List.getElem?_toArray, List.getElem?_cons_succ, List.getElem?_cons_zero, Option.some.injEq] at ho); subst ho; (try dsimp only at hSw); go_simp; (first | done | with_reducible rfl))
          (try simp only [Act.put, List.setIfInBounds_toArray, List.set_cons_zero, List.set_cons_succ])
          refine hand_take 4 (some 76) ?_ (by kernel_rfl) (by kernel_rfl) (by kernel_rfl) (by kernel_rfl) (by kernel_rfl) (fun _ _ _ h => h) ?_ (by assumption) ?_
          rotate_left
          · (intro o ho w hSw; (simp only [List.getElem?_toArray, List.getElem?_cons_succ, List.getElem?_cons_zero, Option.some.injEq] at ho); subst ho; (try dsimp only at hSw); go_simp; (first | done | with_reducible rfl))
          (try simp only [Act.put, List.setIfInBounds_toArray, List.set_cons_zero, List.set_cons_succ])
          refine hand_take 5 (some 77) ?_ (by kernel_rfl) (by kernel_rfl) (by kernel_rfl) (by kernel_rfl) (by kernel_rfl) (fun _ _ _ h => h) ?_ (by assumption) ?_
          rotate_left
          · (intro o ho w hSw; (simp only [List.getElem?_toArray, List.getElem?_cons_succ, List.getElem?_cons_zero, Option.some.injEq] at ho); subst ho; (try dsimp only at hSw); go_simp; (first | done | with_reducible rfl))
          (try simp only [Act.put, List.setIfInBounds_toArray, List.set_cons_zero, List.set_cons_succ])
          refine hand_take 6 (some 78) ?_ (by kernel_rfl) (by kernel_rfl) (by kernel_rfl) (by kernel_rfl) (by kernel_rfl) (fun _ _ _ h => h) ?_ (by assumption) ?_
          rotate_left
          · (intro o ho w hSw; (simp only [List.getElem?_toArray, List.getElem?_cons_succ, List.getElem?_cons_zero, Option.some.injEq] at ho); subst ho; (try dsimp only at hSw); go_simp; (first | done | with_reducible rfl))
          (try simp only [Act.put, List.setIfInBounds_toArray, List.set_cons_zero, List.set_cons_succ])
          refine hand_take 8 (some 80) ?_ (by kernel_rfl) (by kernel_rfl) (by kernel_rfl) (by kernel_rfl) (by kernel_rfl) (fun _ _ _ h => h) ?_ (by assumption) ?_
          rotate_left
          · (intro o ho w hSw; (simp only [List.getElem?_toArray, List.getElem?_cons_succ, List.getElem?_cons_zero, Option.some.injEq] at ho); subst ho; (try dsimp only at hSw); go_simp; (first | done | with_reducible rfl))
          (try simp only [Act.put, List.setIfInBounds_toArray, List.set_cons_zero, List.set_cons_succ])
          refine hand_take 9 (some 81) ?_ (by kernel_rfl) (by kernel_rfl) (by kernel_rfl) (by kernel_rfl) (by kernel_rfl) (fun _ _ _ h => h) ?_ (by assumption) ?_
          rotate_left
          · (intro o ho w hSw; (simp only [List.getElem?_toArray, List.getElem?_cons_succ, List.getElem?_cons_zero, Option.some.injEq] at ho); subst ho; (try dsimp only at hSw); go_simp; (first | done | with_reducible rfl))
          (try simp only [Act.put, List.setIfInBounds_toArray, List.set_cons_zero, List.set_cons_succ])
          refine hand_take 10 (some 82) ?_ (by kernel_rfl) (by kernel_rfl) (by kernel_rfl) (by kernel_rfl) (by kernel_rfl) (fun _ _ _ h => h) ?_ (by assumption) ?_
          rotate_left
          · (intro o ho w hSw; (simp only [List.getElem?_toArray, List.getElem?_cons_succ, List.getElem?_cons_zero, Option.some.injEq] at ho); subst ho; (try dsimp only at hSw); go_simp; (first | done | with_reducible rfl))
          (try simp only [Act.put, List.setIfInBounds_toArray, List.set_cons_zero, List.set_cons_succ])
          refine hand_take 11 (some 83) ?_ (by kernel_rfl) (by kernel_rfl) (by kernel_rfl) (by kernel_rfl) (by kernel_rfl) (fun _ _ _ h => h) ?_ (by assumption) ?_
          rotate_left
          · (intro o ho w hSw; (simp only [List.getElem?_toArray, List.getElem?_cons_succ, List.getElem?_cons_zero, Option.some.injEq] at ho); subst ho; (try dsimp only at hSw); go_simp; (first | done | with_reducible rfl))
          (try simp only [Act.put, List.setIfInBounds_toArray, List.set_cons_zero, List.set_cons_succ])
          refine hand_take 12 (some 84) ?_ (by kernel_rfl) (by kernel_rfl) (by kernel_rfl) (by kernel_rfl) (by kernel_rfl) (fun _ _ _ h => h) ?_ (by assumption) ?_
          rotate_left
          · (intro o ho w hSw; (simp only [List.getElem?_toArray, List.getElem?_cons_succ, List.getElem?_cons_zero, Option.some.injEq] at ho); subst ho; (try dsimp only at hSw); go_simp; (first | done | with_reducible rfl))
          (try simp only [Act.put, List.setIfInBounds_toArray, List.set_cons_zero, List.set_cons_succ])
          refine hand_take 13 (some 85) ?_ (by kernel_rfl) (by kernel_rfl) (by kernel_rfl) (by kernel_rfl) (by kernel_rfl) (fun _ _ _ h => h) ?_ (by assumption) ?_
          rotate_left
          · (intro o ho w hSw; (simp only [List.getElem?_toArray, List.getElem?_cons_succ, List.getElem?_cons_zero, Option.some.injEq] at ho); subst ho; (try dsimp only at hSw); go_simp; (first | done | with_reducible rfl))
          (try simp only [Act.put, List.setIfInBounds_toArray, List.set_cons_zero, List.set_cons_succ])
          refine hand_ready 7 (by kernel_rfl) (by kernel_rfl) (fun o ho K hK => ?_)
          (simp only [List.getElem?_toArray, List.getElem?_cons_succ, List.getElem?_cons_zero, Option.some.injEq] at ho)
          subst ho
          go_simp
          (go_at_call 29; (with_reducible refine HG1.out.mono ?_); rintro e w3 ⟨rfl, hl⟩; (have ht3 : Turned W2.drew w3 F := hl.choose_spec.2.2); (have hrv := ht3.blk HW.out.1 (fun e => by have := HLT.out.1 _ e; have := HW.out.2.2.2.2.2; omega)); (have hac := ht3.blk HW.out.2.1 (fun e => by have := HLT.out.1 _ e; omega)); (have HS1 := kept (show (fun W' : World => (W'.cell? ⟨w1.heap.size, 0, none⟩ = some (.int .i64 q.1) ∧ W'.cell? ⟨w1.heap.size, 1, none⟩ = some (.int .i64 q.2)) ∧ (W'.cell? ⟨w.heap.size, 4, none⟩ = some (.int .i64 c) ∧ W'.cell? ⟨w.heap.size, 5, none⟩ = some (.int .i64 v))) w3 from ⟨⟨hrv.cell 0, hrv.cell 1⟩, hac.cell 4, hac.cell 5⟩)); have HR3 := HR1 w3 (HW.out.2.2.2.1.after_g ht3 (fun j hj => HW.out.2.2.1.notT (b := b) hj)); have HL := kept (And.intro hl (And.intro hrv hac)); clear hl ht3 hrv hac)
          (try go_wp2_with fail)
          refine hK.out _ _ ?_ (fun hHeld => ?_)
          · ((try dsimp only); (first | with_reducible exact HS0.out | with_reducible exact HS1.out | with_reducible exact HS2.out))
          clear hK K
          (try simp only [Act.put, List.setIfInBounds_toArray, List.set_cons_zero, List.set_cons_succ])
          refine hand_ready 14 (by kernel_rfl) (by kernel_rfl) (fun o ho K hK => ?_)
          (simp only [List.getElem?_toArray, List.getElem?_cons_succ, List.getElem?_cons_zero, Option.some.injEq] at ho)
          subst ho
          go_simp
          (go_at_call 30; (with_reducible refine HR3.out.mono ?_); rintro e w4 ⟨er, n', rfl, hr4, hn4, ht4⟩; (have hrv := TurnR.blk_ ht4 HL.out.2.1 (by decide) (by decide)); (have hac := TurnR.blk_ ht4 HL.out.2.2 (by decide) (by decide)); (have HS2 := kept (show (fun W' : World => (W'.cell? ⟨w1.heap.size, 0, none⟩ = some (.int .i64 q.1) ∧ W'.cell? ⟨w1.heap.size, 1, none⟩ = some (.int .i64 q.2)) ∧ (W'.cell? ⟨w.heap.size, 4, none⟩ = some (.int .i64 c) ∧ W'.cell? ⟨w.heap.size, 5, none⟩ = some (.int .i64 v))) w4 from ⟨⟨hrv.cell 0, hrv.cell 1⟩, hac.cell 4, hac.cell 5⟩)); (have HTW := kept (both_of HW.out.2.2.2.2.1 HW.out.2.2.1 HW.out.2.2.2.1 HL.out.1 hr4 hn4 ht4)); clear hr4 hn4 ht4 hrv hac)
          (try go_wp2_with fail)
          refine hK.out _ _ ?_ (fun hHeld => ?_)
          · ((try dsimp only); (first | with_reducible exact HS0.out | with_reducible exact HS1.out | with_reducible exact HS2.out))
          clear hK K
          (try simp only [Act.put, List.setIfInBounds_toArray, List.set_cons_zero, List.set_cons_succ])
          refine hand_take 15 (some 11) ?_ (by kernel_rfl) (by kernel_rfl) (by kernel_rfl) (by kernel_rfl) (by kernel_rfl) (fun _ _ _ h => h) ?_ (by assumption) ?_
          rotate_left
          · (intro o ho w hSw; (simp only [List.getElem?_toArray, List.getElem?_cons_succ, List.getElem?_cons_zero, Option.some.injEq] at ho); subst ho; (try dsimp only at hSw); go_simp; (first | done | with_reducible rfl))
          (try simp only [Act.put, List.setIfInBounds_toArray, List.set_cons_zero, List.set_cons_succ])
          refine hand_take 16 (some 12) ?_ (by kernel_rfl) (by kernel_rfl) (by kernel_rfl) (by kernel_rfl) (by kernel_rfl) (fun _ _ _ h => h) ?_ (by assumption) ?_
          rotate_left
          · (intro o ho w hSw; (simp only [List.getElem?_toArray, List.getElem?_cons_succ, List.getElem?_cons_zero, Option.some.injEq] at ho); subst ho; (try dsimp only at hSw); go_simp; (first | done | with_reducible rfl))
          (try simp only [Act.put, List.setIfInBounds_toArray, List.set_cons_zero, List.set_cons_succ])
          refine wpAnyH_done (by kernel_rfl) ?_ _
          clear hHeld
          obtain ⟨⟨z0, z1⟩, _, _⟩ := HS2.out
          clear HS0 HS1 HS2 HL HR3 HG1
          by_cases he : e1 = 0
          · subst he
            by_cases hq : q.1 < 1152921504606846976
            all_goals
              go_wp2
              go_returns
              obtain ⟨F', n', k1, k2, k3, k4, k5⟩ := HTW.out.out
              exact ⟨q, _, _, F', n', rfl, by simpa [stepG] using k1, k2, k3, k4, k5⟩
          · have he' : (e1 == 0) = false := by simpa using he
            go_wp2
            go_returns
            obtain ⟨F', n', k1, k2, k3, k4, k5⟩ := HTW.out.out
            exact ⟨q, _, _, F', n', rfl, by simpa [stepG] using k1, k2, k3, k4, k5⟩
        · have h3' : (k == 3) = false := by simpa using h3
          have HG1 := kept (grest_tomb HW.out.2.2.1 hi hN hn q 0 0)
          have HR1 := fun W (h : RF W b n) => kept (rrest_tomb h hnn q 0 0)
          generalize tombC gs q = e1 at HG1
          clear htw0
          go_wp2
          clear a0 a1 a2 a3 a4 a5
          refine wp_region_held_drew (S := (fun W' => (W'.cell? ⟨w1.heap.size, 0, none⟩ = some (.int .i64 q.1) ∧ W'.cell? ⟨w1.heap.size, 1, none⟩ = some (.int .i64 q.2)) ∧ (W'.cell? ⟨w.heap.size, 4, none⟩ = some (.int .i64 c) ∧ W'.cell? ⟨w.heap.size, 5, none⟩ = some (.int .i64 v)))) (by kernel_rfl) ?_ (fun hHeld => ?_)
          · ((try dsimp only); (first | with_reducible exact HS0.out | with_reducible exact HS1.out | with_reducible exact HS2.out))
          refine hand_take 0 (some 22) ?_ (by kernel_rfl) (by kernel_rfl) (by kernel_rfl) (by kernel_rfl) (by kernel_rfl) (fun _ _ _ h => h) ?_ (by assumption) ?_
          rotate_left
          · (intro o ho w hSw; (simp only [List.getElem?_toArray, List.getElem?_cons_succ, List.getElem?_cons_zero, Option.some.injEq] at ho); subst ho; (try dsimp only at hSw); go_simp; (first | done | with_reducible rfl))
          (try simp only [Act.put, List.setIfInBounds_toArray, List.set_cons_zero, List.set_cons_succ])
          refine hand_take 1 (some 23) ?_ (by kernel_rfl) (by kernel_rfl) (by kernel_rfl) (by kernel_rfl) (by kernel_rfl) (fun _ _ _ h => h) ?_ (by assumption) ?_
          rotate_left
          · (intro o ho w hSw; (simp only [List.getElem?_toArray, List.getElem?_cons_succ, List.getElem?_cons_zero, Option.some.injEq] at ho); subst ho; (try dsimp only at hSw); go_simp; (first | done | with_reducible rfl))
          (try simp only [Act.put, List.setIfInBounds_toArray, List.set_cons_zero, List.set_cons_succ])
          refine hand_take 2 (some 24) ?_ (by kernel_rfl) (by kernel_rfl) (by kernel_rfl) (by kernel_rfl) (by kernel_rfl) (fun _ _ _ h => h) ?_ (by assumption) ?_
          rotate_left
          · (intro o ho w hSw; (simp only [List.getElem?_toArray, List.getElem?_cons_succ, List.getElem?_cons_zero, Option.some.injEq] at ho); subst ho; (try dsimp only at hSw); go_simp; (first | done | with_reducible rfl))
          (try simp only [Act.put, List.setIfInBounds_toArray, List.set_cons_zero, List.set_cons_succ])
          refine hand_take 4 (some 26) ?_ (by kernel_rfl) (by kernel_rfl) (by kernel_rfl) (by kernel_rfl) (by kernel_rfl) (fun _ _ _ h => h) ?_ (by assumption) ?_
          rotate_left
          · (intro o ho w hSw; (simp only [List.getElem?_toArray, List.getElem?_cons_succ, List.getElem?_cons_zero, Option.some.injEq] at ho); subst ho; (try dsimp only at hSw); go_simp; (first | done | with_reducible rfl))
          (try simp only [Act.put, List.setIfInBounds_toArray, List.set_cons_zero, List.set_cons_succ])
          refine hand_take 5 (some 27) ?_ (by kernel_rfl) (by kernel_rfl) (by kernel_rfl) (by kernel_rfl) (by kernel_rfl) (fun _ _ _ h => h) ?_ (by assumption) ?_
          rotate_left
          · (intro o ho w hSw; (simp only [List.getElem?_toArray, List.getElem?_cons_succ, List.getElem?_cons_zero, Option.some.injEq] at ho); subst ho; (try dsimp only at hSw); go_simp; (first | done | with_reducible rfl))
          (try simp only [Act.put, List.setIfInBounds_toArray, List.set_cons_zero, List.set_cons_succ])
          refine hand_ready 3 (by kernel_rfl) (by kernel_rfl) (fun o ho K hK => ?_)
          (simp only [List.getElem?_toArray, List.getElem?_cons_succ, List.getElem?_cons_zero, Option.some.injEq] at ho)
          subst ho
          go_simp
          (go_at_call 29; (with_reducible refine HG1.out.mono ?_); rintro e w3 ⟨rfl, hl⟩; (have ht3 : Turned W2.drew w3 F := hl.choose_spec.2.2); (have hrv := ht3.blk HW.out.1 (fun e => by have := HLT.out.1 _ e; have := HW.out.2.2.2.2.2; omega)); (have hac := ht3.blk HW.out.2.1 (fun e => by have := HLT.out.1 _ e; omega)); (have HS1 := kept (show (fun W' : World => (W'.cell? ⟨w1.heap.size, 0, none⟩ = some (.int .i64 q.1) ∧ W'.cell? ⟨w1.heap.size, 1, none⟩ = some (.int .i64 q.2)) ∧ (W'.cell? ⟨w.heap.size, 4, none⟩ = some (.int .i64 c) ∧ W'.cell? ⟨w.heap.size, 5, none⟩ = some (.int .i64 v))) w3 from ⟨⟨hrv.cell 0, hrv.cell 1⟩, hac.cell 4, hac.cell 5⟩)); have HR3 := HR1 w3 (HW.out.2.2.2.1.after_g ht3 (fun j hj => HW.out.2.2.1.notT (b := b) hj)); have HL := kept (And.intro hl (And.intro hrv hac)); clear hl ht3 hrv hac)
          (try go_wp2_with fail)
          refine hK.out _ _ ?_ (fun hHeld => ?_)
          · ((try dsimp only); (first | with_reducible exact HS0.out | with_reducible exact HS1.out | with_reducible exact HS2.out))
          clear hK K
          (try simp only [Act.put, List.setIfInBounds_toArray, List.set_cons_zero, List.set_cons_succ])
          refine hand_ready 6 (by kernel_rfl) (by kernel_rfl) (fun o ho K hK => ?_)
          (simp only [List.getElem?_toArray, List.getElem?_cons_succ, List.getElem?_cons_zero, Option.some.injEq] at ho)
          subst ho
          go_simp
          (go_at_call 30; (with_reducible refine HR3.out.mono ?_); rintro e w4 ⟨er, n', rfl, hr4, hn4, ht4⟩; (have hrv := TurnR.blk_ ht4 HL.out.2.1 (by decide) (by decide)); (have hac := TurnR.blk_ ht4 HL.out.2.2 (by decide) (by decide)); (have HS2 := kept (show (fun W' : World => (W'.cell? ⟨w1.heap.size, 0, none⟩ = some (.int .i64 q.1) ∧ W'.cell? ⟨w1.heap.size, 1, none⟩ = some (.int .i64 q.2)) ∧ (W'.cell? ⟨w.heap.size, 4, none⟩ = some (.int .i64 c) ∧ W'.cell? ⟨w.heap.size, 5, none⟩ = some (.int .i64 v))) w4 from ⟨⟨hrv.cell 0, hrv.cell 1⟩, hac.cell 4, hac.cell 5⟩)); (have HTW := kept (both_of HW.out.2.2.2.2.1 HW.out.2.2.1 HW.out.2.2.2.1 HL.out.1 hr4 hn4 ht4)); clear hr4 hn4 ht4 hrv hac)
          (try go_wp2_with fail)
          refine hK.out _ _ ?_ (fun hHeld => ?_)
          · ((try dsimp only); (first | with_reducible exact HS0.out | with_reducible exact HS1.out | with_reducible exact HS2.out))
          clear hK K
          (try simp only [Act.put, List.setIfInBounds_toArray, List.set_cons_zero, List.set_cons_succ])
          refine hand_take 7 (some 11) ?_ (by kernel_rfl) (by kernel_rfl) (by kernel_rfl) (by kernel_rfl) (by kernel_rfl) (fun _ _ _ h => h) ?_ (by assumption) ?_
          rotate_left
          · (intro o ho w hSw; (simp only [List.getElem?_toArray, List.getElem?_cons_succ, List.getElem?_cons_zero, Option.some.injEq] at ho); subst ho; (try dsimp only at hSw); go_simp; (first | done | with_reducible rfl))
          (try simp only [Act.put, List.setIfInBounds_toArray, List.set_cons_zero, List.set_cons_succ])
          refine hand_take 8 (some 12) ?_ (by kernel_rfl) (by kernel_rfl) (by kernel_rfl) (by kernel_rfl) (by kernel_rfl) (fun _ _ _ h => h) ?_ (by assumption) ?_
          rotate_left
          · (intro o ho w hSw; (simp only [List.getElem?_toArray, List.getElem?_cons_succ, List.getElem?_cons_zero, Option.some.injEq] at ho); subst ho; (try dsimp only at hSw); go_simp; (first | done | with_reducible rfl))
          (try simp only [Act.put, List.setIfInBounds_toArray, List.set_cons_zero, List.set_cons_succ])
          refine wpAnyH_done (by kernel_rfl) ?_ _
          clear hHeld
          obtain ⟨⟨z0, z1⟩, _, _⟩ := HS2.out
          clear HS0 HS1 HS2 HL HR3 HG1
          by_cases he : e1 = 0
          · subst he
            by_cases hq : q.1 < 1152921504606846976
            all_goals
              go_wp2
              go_returns
              obtain ⟨F', n', k1, k2, k3, k4, k5⟩ := HTW.out.out
              exact ⟨q, _, _, F', n', rfl, by simpa [stepG, h0, h1, h2, h3] using k1, k2, k3, k4, k5⟩
          · have he' : (e1 == 0) = false := by simpa using he
            go_wp2
            go_returns
            obtain ⟨F', n', k1, k2, k3, k4, k5⟩ := HTW.out.out
            exact ⟨q, _, _, F', n', rfl, by simpa [stepG, h0, h1, h2, h3] using k1, k2, k3, k4, k5⟩
end Go.Proofs.Ythpaliagmnclfaa
