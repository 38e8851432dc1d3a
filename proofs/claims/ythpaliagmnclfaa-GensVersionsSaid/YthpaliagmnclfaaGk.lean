/-
  package gens: a put comes: add.
-/
import Derived.Test.YthpaliagmnclfaaGw
import Derived.Test.YthpaliagmnclfaaHnl
namespace Go.Proofs.Ythpaliagmnclfaa
open Go.ChangeShapes Go.WideShapes Go.ChangeAt Go.RowKit Go.Deep
set_option linter.unusedVariables false
set_option linter.unusedSimpArgs false
theorem last_set (Li : List GL) (L L' : GL) (m : Nat) (h : Li.length = m) : (Li ++ [L]).set m L' = Li ++ [L'] := by
  rw [List.set_append_right _ _ (by omega), h, Nat.sub_self]; rfl
theorem add_on {w : World} {r g m k : Nat} {Li : List GL} {L : GL} {gi : List Gn} {x : Gn} (h : Last w r g m k Li L gi x) (hn : m + 1 ≤ 1000000) (hn2 : L.n ≤ 1000000) (hx : x.ended = false) (q : Rv) (c v : Int) :
    Calls Try.prog 33 #[.pointer (some ⟨r, 0, none⟩), .agg #[.int .i64 q.1, .int .i64 q.2, .int .i64 c, .int .i64 v]] w fun e w' => e = .returned (.tuple #[]) ∧
      ∃ A' k', GsL w' r (some ⟨g, 0, none⟩) (m + 1) k ((Li ++ [L]).set m { L with A := A', n := L.n + 1, k := k' }) ((gi ++ [x]).set m { x with ps := x.ps ++ [q] }) ∧
        (∀ j, footG r (some ⟨g, 0, none⟩) (m + 1) k ((Li ++ [L]).set m { L with A := A', n := L.n + 1, k := k' }) j → footG r (some ⟨g, 0, none⟩) (m + 1) k (Li ++ [L]) j ∨ w.heap.size ≤ j) ∧ Turned w w' (footG r (some ⟨g, 0, none⟩) (m + 1) k (Li ++ [L])) := by
  have hB0 := (Below.refl w.heap.size w).alloc (Nat.le_refl _) (.cells #[.int .i64 q.1, .int .i64 q.2, .int .i64 c, .int .i64 v] 33)
  have h0 := h.below hB0
  have HK := kept (Blk.new w 33 #[.int .i64 q.1, .int .i64 q.2, .int .i64 c, .int .i64 v])
  have HG0 := kept (going_some h0 hn)
  rw [hx] at HG0
  have HL := kept h0
  have HB := kept hB0
  have HH := kept h
  clear h h0 hB0 hx
  go_enter Try.func33, Try.ntmps33
  go_wp2_with fail
  generalize w.alloc (.cells #[.int .i64 q.1, .int .i64 q.2, .int .i64 c, .int .i64 v] 33) = W0 at HG0 HK HB HL ⊢
  with_reducible refine HG0.out.mono ?_
  rintro e w1 ⟨rfl, hb⟩
  have hl1 := HL.out.below hb
  have hk := HK.out.below hb HK.out.lt
  have HS0 := kept (show (fun W' : World => (W'.cell? ⟨w.heap.size, 0, none⟩ = some (.int .i64 q.1) ∧ W'.cell? ⟨w.heap.size, 1, none⟩ = some (.int .i64 q.2)) ∧ W'.cell? ⟨g, m * 5 + 2, none⟩ = some (.slice L.A L.n L.k)) w1.drew from ⟨⟨hk.cell 0, hk.cell 1⟩, hl1.c2⟩)
  have hb01 := bel_to hb HB.out
  have hbX : Below w1.heap.size w1 (w1.alloc (.cells #[.int .i64 q.1, .int .i64 q.2] 29)).drew := ((Below.refl _ w1).alloc (Nat.le_refl _) _).drew
  have HX := kept (And.intro (hl1.below hbX) (And.intro (hk.below hbX hk.lt) (And.intro (bel_to hbX hb01) (show (w1.alloc (.cells #[.int .i64 q.1, .int .i64 q.2] 29)).drew.cell? ⟨w1.heap.size, 0, none⟩ = some (.int .i64 q.1) ∧ (w1.alloc (.cells #[.int .i64 q.1, .int .i64 q.2] 29)).drew.cell? ⟨w1.heap.size, 1, none⟩ = some (.int .i64 q.2) from two_new w1 29 q.1 q.2))))
  clear hb hk hl1 hb01 hbX
  go_wp2
  refine region_L [11] ((fun W' => (W'.cell? ⟨w.heap.size, 0, none⟩ = some (.int .i64 q.1) ∧ W'.cell? ⟨w.heap.size, 1, none⟩ = some (.int .i64 q.2)) ∧ W'.cell? ⟨g, m * 5 + 2, none⟩ = some (.slice L.A L.n L.k))) (by kernel_rfl) ?_ (fun hHeld => ?_)
  · ((try dsimp only); (first | with_reducible exact HS0.out | with_reducible exact HS1.out | (with_reducible exact HS2.out)))
  (try simp only [List.size_toArray, List.length_cons, List.length_nil, Nat.reduceAdd, Array.replicate_succ, Array.replicate_zero, List.push_toArray, List.append_toArray, List.nil_append, List.cons_append])
  refine take_P 0 (some 9) ?_ (by (intro o ho w; (simp only [List.getElem?_toArray, List.getElem?_cons_succ, List.getElem?_cons_zero, Option.some.injEq] at ho); subst ho; go_simp; (first | done | with_reducible rfl))) (by ((try simp only [Act.put, hA, h0, h1]); (first | done | rfl))) (by first | exact fun _ => by assumption | exact fun hE => absurd hE (by decide))
  (try simp only [Act.put, List.setIfInBounds_toArray, List.set_cons_zero, List.set_cons_succ])
  refine take_P 1 (some 10) ?_ (by (intro o ho w; (simp only [List.getElem?_toArray, List.getElem?_cons_succ, List.getElem?_cons_zero, Option.some.injEq] at ho); subst ho; go_simp; (first | done | with_reducible rfl))) (by ((try simp only [Act.put, hA, h0, h1]); (first | done | rfl))) (by first | exact fun _ => by assumption | exact fun hE => absurd hE (by decide))
  (try simp only [Act.put, List.setIfInBounds_toArray, List.set_cons_zero, List.set_cons_succ])
  refine take_P 2 (some 11) ?_ (by (intro o ho w; (simp only [List.getElem?_toArray, List.getElem?_cons_succ, List.getElem?_cons_zero, Option.some.injEq] at ho); subst ho; go_simp; (first | done | with_reducible rfl))) (by ((try simp only [Act.put, hA, h0, h1]); (first | done | rfl))) (by first | exact fun _ => by assumption | exact fun hE => absurd hE (by decide))
  (try simp only [Act.put, List.setIfInBounds_toArray, List.set_cons_zero, List.set_cons_succ])
  refine take_P 3 (some 12) ?_ (by (intro o ho w; (simp only [List.getElem?_toArray, List.getElem?_cons_succ, List.getElem?_cons_zero, Option.some.injEq] at ho); subst ho; go_simp; (first | done | with_reducible rfl))) (by ((try simp only [Act.put, hA, h0, h1]); (first | done | rfl))) (by first | exact fun _ => by assumption | exact fun hE => absurd hE (by decide))
  (try simp only [Act.put, List.setIfInBounds_toArray, List.set_cons_zero, List.set_cons_succ])
  refine take_L 4 (some 13) ?_ (by (intro o ho w hSw; (simp only [List.getElem?_toArray, List.getElem?_cons_succ, List.getElem?_cons_zero, Option.some.injEq] at ho); subst ho; (try dsimp only at hSw); go_simp; (first | done | with_reducible rfl))) (by ((try simp only [Act.put, hA, h0, h1]); (first | done | rfl)))
  (try simp only [Act.put, List.setIfInBounds_toArray, List.set_cons_zero, List.set_cons_succ])
  refine take_P 5 (some 14) ?_ (by (intro o ho w; (simp only [List.getElem?_toArray, List.getElem?_cons_succ, List.getElem?_cons_zero, Option.some.injEq] at ho); subst ho; go_simp; (first | done | with_reducible rfl))) (by ((try simp only [Act.put, hA, h0, h1]); (first | done | rfl))) (by first | exact fun _ => by assumption | exact fun hE => absurd hE (by decide))
  (try simp only [Act.put, List.setIfInBounds_toArray, List.set_cons_zero, List.set_cons_succ])
  refine take_L 6 (some 15) ?_ (by (intro o ho w hSw; (simp only [List.getElem?_toArray, List.getElem?_cons_succ, List.getElem?_cons_zero, Option.some.injEq] at ho); subst ho; (try dsimp only at hSw); go_simp; (first | done | with_reducible rfl))) (by ((try simp only [Act.put, hA, h0, h1]); (first | done | rfl)))
  (try simp only [Act.put, List.setIfInBounds_toArray, List.set_cons_zero, List.set_cons_succ])
  refine ready_L 7 (fun o ho K hK => ?_)
  (simp only [List.getElem?_toArray, List.getElem?_cons_succ, List.getElem?_cons_zero, Option.some.injEq] at ho)
  subst ho
  go_simp
  (generalize (w1.alloc (.cells #[.int .i64 q.1, .int .i64 q.2] 29)).drew = W7 at HX ⊢; (have HS1 := kept (show (fun W' : World => (W'.cell? ⟨w.heap.size, 0, none⟩ = some (.int .i64 q.1) ∧ W'.cell? ⟨w.heap.size, 1, none⟩ = some (.int .i64 q.2)) ∧ W'.cell? ⟨g, m * 5 + 2, none⟩ = some (.slice L.A L.n L.k)) W7 from ⟨⟨HX.out.2.1.cell 0, HX.out.2.1.cell 1⟩, HX.out.1.c2⟩)))
  refine hK.out _ _ ?_ (fun hHeld => ?_)
  · (first | exact fun hE => absurd hE (by decide) | (intro _; (try dsimp only); (first | with_reducible exact HS0.out | with_reducible exact HS1.out | (with_reducible exact HS2.out))))
  clear hK K
  (try replace hHeld := hHeld (by decide))
  (try simp only [Act.put, List.setIfInBounds_toArray, List.set_cons_zero, List.set_cons_succ])
  refine ready_L 8 (fun o ho K hK => ?_)
  (simp only [List.getElem?_toArray, List.getElem?_cons_succ, List.getElem?_cons_zero, Option.some.injEq] at ho)
  subst ho
  (refine wp_append_g (.tmp 13) (.tmp 16) 58 rfl 29 ⟨w1.heap.size, 0, none⟩ rfl rfl Try.underlying58 revinfo rfl (by decide) (by decide) HX.out.1.at_.own (ys := [.int .i64 q.1, .int .i64 q.2]) rfl (fun j u hj => ?_) (by intro u hu; simp only [List.mem_cons, List.not_mem_nil, or_false] at hu; rcases hu with rfl | rfl <;> rfl) (by omega) (Nat.zero_le _) (by omega) ?_; (match j with | 0 => (cases hj; rw [gadd_at]; exact HX.out.2.2.2.1) | 1 => (cases hj; rw [gadd_at]; exact HX.out.2.2.2.2) | (j + 2) => cases hj); intro A8 c8 w8 h8 g8 loc8; (have t8 : Turned W7 w8 (fun j => L.row.ownBlock = some j) := Turned.of_grown g8 (fun j e => e)); (have hLm : L ∈ Li ++ [L] := by simp); (have hg8 := gown_turned HX.out.1.gs.own t8 (fun j hj e => HX.out.1.gs.own_row hLm hj e)); (have hk8 := t8.blk HX.out.2.1 (fun e => by obtain ⟨cc, hcc⟩ := HX.out.1.gs.row_cl hLm e; exact ne_of_types hcc (show W7.heap[w.heap.size]? = some _ from HX.out.2.1) (by decide) rfl)); (have hc8 : w8.cell? ⟨g, m * 5 + 2, none⟩ = some (.slice L.A L.n L.k) := (World.cell?_of_block (t8.block g (HX.out.1.gs.lt (.inr (.inl rfl))) (fun e => HX.out.1.gs.own_row hLm rfl e))).trans HX.out.1.c2); (obtain ⟨cur8, hcur8⟩ := gown_cl (k := 0) hg8 (g := g) rfl); (have f8 := gfrozen hcur8 (m * 5 + 2)); (have HS2 := kept (show (fun W' : World => (W'.cell? ⟨w.heap.size, 0, none⟩ = some (.int .i64 q.1) ∧ W'.cell? ⟨w.heap.size, 1, none⟩ = some (.int .i64 q.2)) ∧ W'.cell? ⟨g, m * 5 + 2, none⟩ = some (.slice L.A L.n L.k)) w8 from ⟨⟨hk8.cell 0, hk8.cell 1⟩, hc8⟩)); (have HO8 := kept h8); (have HR8 := kept (And.intro hg8 (And.intro t8 loc8))); clear h8 g8 loc8 t8 hLm hg8 hk8 hcur8)
  refine hK.out _ _ ?_ (fun hHeld => ?_)
  · (first | exact fun hE => absurd hE (by decide) | (intro _; (try dsimp only); (first | with_reducible exact HS0.out | with_reducible exact HS1.out | (with_reducible exact HS2.out))))
  clear hK K
  (try replace hHeld := hHeld (by decide))
  (try simp only [Act.put, List.setIfInBounds_toArray, List.set_cons_zero, List.set_cons_succ])
  refine take_P 9 (some 18) ?_ (by (intro o ho w; (simp only [List.getElem?_toArray, List.getElem?_cons_succ, List.getElem?_cons_zero, Option.some.injEq] at ho); subst ho; go_simp; (first | done | with_reducible rfl))) (by ((try simp only [Act.put, hA, h0, h1]); (first | done | rfl))) (by first | exact fun _ => by assumption | exact fun hE => absurd hE (by decide))
  (try simp only [Act.put, List.setIfInBounds_toArray, List.set_cons_zero, List.set_cons_succ])
  refine take_P 10 (some 19) ?_ (by (intro o ho w; (simp only [List.getElem?_toArray, List.getElem?_cons_succ, List.getElem?_cons_zero, Option.some.injEq] at ho); subst ho; go_simp; (first | done | with_reducible rfl))) (by ((try simp only [Act.put, hA, h0, h1]); (first | done | rfl))) (by first | exact fun _ => by assumption | exact fun hE => absurd hE (by decide))
  (try simp only [Act.put, List.setIfInBounds_toArray, List.set_cons_zero, List.set_cons_succ])
  refine ready_L 11 (fun o ho K hK => ?_)
  (simp only [List.getElem?_toArray, List.getElem?_cons_succ, List.getElem?_cons_zero, Option.some.injEq] at ho)
  subst ho
  go_simp
  skip
  refine hK.out _ _ ?_ (fun hHeld => ?_)
  · (first | exact fun hE => absurd hE (by decide) | (intro _; (try dsimp only); (first | with_reducible exact HS0.out | with_reducible exact HS1.out | (with_reducible exact HS2.out))))
  clear hK K
  (try replace hHeld := hHeld (by decide))
  (try simp only [Act.put, List.setIfInBounds_toArray, List.set_cons_zero, List.set_cons_succ])
  refine done_L (by kernel_rfl) ?_ _
  clear hHeld hc8 f8
  go_wp2
  go_returns
  obtain ⟨hg8, t8, loc8⟩ := HR8.out
  have h := HH.out
  have hml : m < (Li ++ [L]).length := by rw [List.length_append, h.lm]; simp
  have e1 : (Li ++ [L])[m] = L := by rw [List.getElem_append_right (by rw [h.lm]; exact Nat.le_refl _)]; simp
  have hro : ∀ j, (Value.slice A8 (L.n + 1) c8).ownBlock = some j → j ≠ g := fun j hj => by
    obtain ⟨ca, hca⟩ := gown_cl (k := 0) HO8.out hj
    obtain ⟨cb, hcb⟩ := gown_cl (k := 0) hg8 (g := g) rfl
    exact ne_of_types hca hcb (by decide)
  have t9 : Turned w8 (w8.setCell ⟨g, m * 5 + 2, none⟩ (.slice A8 (L.n + 1) c8)) (fun j => j = g) := (Turned.refl w8 (fun j => j = g)).setCell (p := ⟨g, m * 5 + 2, none⟩) (fun _ => rfl) _
  have hset := gown_set hg8 (m * 5 + 2) (.slice A8 (L.n + 1) c8)
  rw [glC_set (Li ++ [L]) m hml 2 (.slice A8 (L.n + 1) c8) { L with A := A8, n := L.n + 1, k := c8 } (by decide) (by rw [e1]; rfl)] at hset
  have hb7 := HX.out.2.2.1
  refine ⟨rfl, A8, c8, ?_⟩
  refine h.gs.left_at rfl m hml _ { x with ps := x.ps ++ [q] } hset ⟨h.at_.c, h.at_.v, h.at_.e, by simp [h.at_.n], ?_⟩ ?_ ?_
  · rw [rvC_append]
    exact gown_turned HO8.out t9 hro
  · rw [e1]
    exact ((Turned.of_below hb7 (fun j => j = g ∨ L.row.ownBlock = some j)).trans (t8.mono (fun _ _ e => .inr e))).trans (t9.mono (fun _ _ e => .inl e))
  · rw [e1]
    intro j hj
    rcases loc8 with e | e
    · exact .inl (e.symm.trans hj)
    · have e2 := e.symm.trans hj
      exact .inr (by have := hb7.size; injection e2 with e2; omega)
/-- A new generation comes. -/
theorem add_new {w : World} {r : Nat} {A : Option Addr} {n k : Nat} {Ls : List GL} {gs : List Gn} (h : GsL w r A n k Ls gs) (hn : n ≤ 1000000) (HG : ∀ W, Below w.heap.size w W → Hid (Calls Try.prog 32 #[.pointer (some ⟨r, 0, none⟩)] W fun e w' => e = .returned (.pointer none) ∧ Below W.heap.size W w')) (q : Rv) (c v : Int) :
    Calls Try.prog 33 #[.pointer (some ⟨r, 0, none⟩), .agg #[.int .i64 q.1, .int .i64 q.2, .int .i64 c, .int .i64 v]] w fun e w' => e = .returned (.tuple #[]) ∧
      ∃ A' k' L', GsL w' r A' (n + 1) k' (Ls ++ [L']) (gs ++ [⟨c, v, [q], (0, 0)⟩]) ∧ (∀ j, footG r A' (n + 1) k' (Ls ++ [L']) j → footG r A n k Ls j ∨ w.heap.size ≤ j) ∧ Turned w w' (footG r A n k Ls) := by
  have hB0 := (Below.refl w.heap.size w).alloc (Nat.le_refl _) (.cells #[.int .i64 q.1, .int .i64 q.2, .int .i64 c, .int .i64 v] 33)
  have h0 := h.below hB0
  have HK := kept (Blk.new w 33 #[.int .i64 q.1, .int .i64 q.2, .int .i64 c, .int .i64 v])
  have HG0 := HG _ hB0
  have HL := kept h0
  have HB := kept hB0
  have HH := kept h
  clear h h0 hB0 HG
  go_enter Try.func33, Try.ntmps33
  go_wp2_with fail
  generalize w.alloc (.cells #[.int .i64 q.1, .int .i64 q.2, .int .i64 c, .int .i64 v] 33) = W0 at HG0 HK HB HL ⊢
  with_reducible refine HG0.out.mono ?_
  rintro e w1 ⟨rfl, hb⟩
  have hl1 := HL.out.below hb
  have hk := HK.out.below hb HK.out.lt
  have HS0 := kept (show (fun W' : World => (W'.cell? ⟨w.heap.size, 0, none⟩ = some (.int .i64 q.1) ∧ W'.cell? ⟨w.heap.size, 1, none⟩ = some (.int .i64 q.2) ∧ W'.cell? ⟨w.heap.size, 2, none⟩ = some (.int .i64 c) ∧ W'.cell? ⟨w.heap.size, 3, none⟩ = some (.int .i64 v)) ∧ W'.cell? ⟨r, 0, none⟩ = some (.slice A n k)) w1.drew from ⟨⟨hk.cell 0, hk.cell 1, hk.cell 2, hk.cell 3⟩, hl1.box.cell 0⟩)
  have HB1 := kept (bel_to hb HB.out)
  have HL1 := kept (And.intro hl1 hk)
  clear hb hk hl1
  go_wp2
  refine region_L [17] ((fun W' => (W'.cell? ⟨w.heap.size, 0, none⟩ = some (.int .i64 q.1) ∧ W'.cell? ⟨w.heap.size, 1, none⟩ = some (.int .i64 q.2) ∧ W'.cell? ⟨w.heap.size, 2, none⟩ = some (.int .i64 c) ∧ W'.cell? ⟨w.heap.size, 3, none⟩ = some (.int .i64 v)) ∧ W'.cell? ⟨r, 0, none⟩ = some (.slice A n k))) (by kernel_rfl) ?_ (fun hHeld => ?_)
  · ((try dsimp only); (first | with_reducible exact HS0.out | with_reducible exact HS1.out | (with_reducible exact HS2.out) | (with_reducible exact HS3.out)))
  (try simp only [List.size_toArray, List.length_cons, List.length_nil, Nat.reduceAdd, Array.replicate_succ, Array.replicate_zero, List.push_toArray, List.append_toArray, List.nil_append, List.cons_append])
  refine take_P 0 (some 20) ?_ (by (intro o ho w; (simp only [List.getElem?_toArray, List.getElem?_cons_succ, List.getElem?_cons_zero, Option.some.injEq] at ho); subst ho; go_simp; (first | done | with_reducible rfl))) (by ((try simp only [Act.put, hA, h0, h1]); (first | done | rfl))) (by first | exact fun _ => by assumption | exact fun hE => absurd hE (by decide))
  (try simp only [Act.put, List.setIfInBounds_toArray, List.set_cons_zero, List.set_cons_succ])
  refine take_P 1 (some 21) ?_ (by (intro o ho w; (simp only [List.getElem?_toArray, List.getElem?_cons_succ, List.getElem?_cons_zero, Option.some.injEq] at ho); subst ho; go_simp; (first | done | with_reducible rfl))) (by ((try simp only [Act.put, hA, h0, h1]); (first | done | rfl))) (by first | exact fun _ => by assumption | exact fun hE => absurd hE (by decide))
  (try simp only [Act.put, List.setIfInBounds_toArray, List.set_cons_zero, List.set_cons_succ])
  refine take_P 2 (some 22) ?_ (by (intro o ho w; (simp only [List.getElem?_toArray, List.getElem?_cons_succ, List.getElem?_cons_zero, Option.some.injEq] at ho); subst ho; go_simp; (first | done | with_reducible rfl))) (by ((try simp only [Act.put, hA, h0, h1]); (first | done | rfl))) (by first | exact fun _ => by assumption | exact fun hE => absurd hE (by decide))
  (try simp only [Act.put, List.setIfInBounds_toArray, List.set_cons_zero, List.set_cons_succ])
  refine take_P 3 (some 23) ?_ (by (intro o ho w; (simp only [List.getElem?_toArray, List.getElem?_cons_succ, List.getElem?_cons_zero, Option.some.injEq] at ho); subst ho; go_simp; (first | done | with_reducible rfl))) (by ((try simp only [Act.put, hA, h0, h1]); (first | done | rfl))) (by first | exact fun _ => by assumption | exact fun hE => absurd hE (by decide))
  (try simp only [Act.put, List.setIfInBounds_toArray, List.set_cons_zero, List.set_cons_succ])
  refine take_L 4 (some 24) ?_ (by (intro o ho w hSw; (simp only [List.getElem?_toArray, List.getElem?_cons_succ, List.getElem?_cons_zero, Option.some.injEq] at ho); subst ho; (try dsimp only at hSw); go_simp; (first | done | with_reducible rfl))) (by ((try simp only [Act.put, hA, h0, h1]); (first | done | rfl)))
  (try simp only [Act.put, List.setIfInBounds_toArray, List.set_cons_zero, List.set_cons_succ])
  refine take_P 5 (some 25) ?_ (by (intro o ho w; (simp only [List.getElem?_toArray, List.getElem?_cons_succ, List.getElem?_cons_zero, Option.some.injEq] at ho); subst ho; go_simp; (first | done | with_reducible rfl))) (by ((try simp only [Act.put, hA, h0, h1]); (first | done | rfl))) (by first | exact fun _ => by assumption | exact fun hE => absurd hE (by decide))
  (try simp only [Act.put, List.setIfInBounds_toArray, List.set_cons_zero, List.set_cons_succ])
  refine take_L 6 (some 26) ?_ (by (intro o ho w hSw; (simp only [List.getElem?_toArray, List.getElem?_cons_succ, List.getElem?_cons_zero, Option.some.injEq] at ho); subst ho; (try dsimp only at hSw); go_simp; (first | done | with_reducible rfl))) (by ((try simp only [Act.put, hA, h0, h1]); (first | done | rfl)))
  (try simp only [Act.put, List.setIfInBounds_toArray, List.set_cons_zero, List.set_cons_succ])
  refine take_P 7 (some 27) ?_ (by (intro o ho w; (simp only [List.getElem?_toArray, List.getElem?_cons_succ, List.getElem?_cons_zero, Option.some.injEq] at ho); subst ho; go_simp; (first | done | with_reducible rfl))) (by ((try simp only [Act.put, hA, h0, h1]); (first | done | rfl))) (by first | exact fun _ => by assumption | exact fun hE => absurd hE (by decide))
  (try simp only [Act.put, List.setIfInBounds_toArray, List.set_cons_zero, List.set_cons_succ])
  refine take_L 8 (some 28) ?_ (by (intro o ho w hSw; (simp only [List.getElem?_toArray, List.getElem?_cons_succ, List.getElem?_cons_zero, Option.some.injEq] at ho); subst ho; (try dsimp only at hSw); go_simp; (first | done | with_reducible rfl))) (by ((try simp only [Act.put, hA, h0, h1]); (first | done | rfl)))
  (try simp only [Act.put, List.setIfInBounds_toArray, List.set_cons_zero, List.set_cons_succ])
  refine take_P 9 (some 29) ?_ (by (intro o ho w; (simp only [List.getElem?_toArray, List.getElem?_cons_succ, List.getElem?_cons_zero, Option.some.injEq] at ho); subst ho; go_simp; (first | done | with_reducible rfl))) (by ((try simp only [Act.put, hA, h0, h1]); (first | done | rfl))) (by first | exact fun _ => by assumption | exact fun hE => absurd hE (by decide))
  (try simp only [Act.put, List.setIfInBounds_toArray, List.set_cons_zero, List.set_cons_succ])
  refine take_L 10 (some 30) ?_ (by (intro o ho w hSw; (simp only [List.getElem?_toArray, List.getElem?_cons_succ, List.getElem?_cons_zero, Option.some.injEq] at ho); subst ho; (try dsimp only at hSw); go_simp; (first | done | with_reducible rfl))) (by ((try simp only [Act.put, hA, h0, h1]); (first | done | rfl)))
  (try simp only [Act.put, List.setIfInBounds_toArray, List.set_cons_zero, List.set_cons_succ])
  refine ready_L 11 (fun o ho K hK => ?_)
  (simp only [List.getElem?_toArray, List.getElem?_cons_succ, List.getElem?_cons_zero, Option.some.injEq] at ho)
  subst ho
  go_simp
  (refine name_world (fun W11 hW11 => ?_); (have hb11 : Below w1.heap.size w1 W11 := by rw [hW11]; exact ((Below.refl _ w1).alloc (Nat.le_refl _) _).drew); (have hr11 : Blk W11 w1.heap.size 29 [.int .i64 q.1, .int .i64 q.2] := by rw [hW11]; exact Blk.new w1 29 #[.int .i64 q.1, .int .i64 q.2]); (have hk11 := HL1.out.2.below hb11 HL1.out.2.lt); have hl11 := HL1.out.1.below hb11; (have HS1 := kept (show (fun W' : World => (W'.cell? ⟨w.heap.size, 0, none⟩ = some (.int .i64 q.1) ∧ W'.cell? ⟨w.heap.size, 1, none⟩ = some (.int .i64 q.2) ∧ W'.cell? ⟨w.heap.size, 2, none⟩ = some (.int .i64 c) ∧ W'.cell? ⟨w.heap.size, 3, none⟩ = some (.int .i64 v)) ∧ W'.cell? ⟨r, 0, none⟩ = some (.slice A n k)) W11 from ⟨⟨hk11.cell 0, hk11.cell 1, hk11.cell 2, hk11.cell 3⟩, hl11.box.cell 0⟩)); have HW11 := kept (And.intro hb11 (And.intro hr11 (And.intro hk11 hl11))); clear hW11 hb11 hr11 hk11 hl11)
  refine hK.out _ _ ?_ (fun hHeld => ?_)
  · (first | exact fun hE => absurd hE (by decide) | (intro _; (try dsimp only); (first | with_reducible exact HS0.out | with_reducible exact HS1.out | (with_reducible exact HS2.out) | (with_reducible exact HS3.out))))
  clear hK K
  (try replace hHeld := hHeld (by decide))
  (try simp only [Act.put, List.setIfInBounds_toArray, List.set_cons_zero, List.set_cons_succ])
  refine take_P 12 (some 32) ?_ (by (intro o ho w; (simp only [List.getElem?_toArray, List.getElem?_cons_succ, List.getElem?_cons_zero, Option.some.injEq] at ho); subst ho; go_simp; (first | done | with_reducible rfl))) (by ((try simp only [Act.put, hA, h0, h1]); (first | done | rfl))) (by first | exact fun _ => by assumption | exact fun hE => absurd hE (by decide))
  (try simp only [Act.put, List.setIfInBounds_toArray, List.set_cons_zero, List.set_cons_succ])
  refine ready_L 13 (fun o ho K hK => ?_)
  (simp only [List.getElem?_toArray, List.getElem?_cons_succ, List.getElem?_cons_zero, Option.some.injEq] at ho)
  subst ho
  go_simp
  (refine name_world (fun W13 hW13 => ?_); (have hb13 : Below W11.heap.size W11 W13 := by rw [hW13]; exact ((Below.refl _ W11).alloc (Nat.le_refl _) _)); (have hg13 : Blk W13 W11.heap.size 60 [.int .i64 c, .int .i64 v, .slice (some ⟨w1.heap.size, 0, none⟩) 1 1, .int .i64 0, .int .i64 0] := by rw [hW13]; exact Blk.new W11 60 #[.int .i64 c, .int .i64 v, .slice (some ⟨w1.heap.size, 0, none⟩) 1 1, .int .i64 0, .int .i64 0]); (obtain ⟨hb11, hr11, hk11, hl11⟩ := HW11.out); (have hr13 := hr11.below hb13 hr11.lt); (have hk13 := hk11.below hb13 hk11.lt); have hl13 := hl11.below hb13; (have HS2 := kept (show (fun W' : World => (W'.cell? ⟨w.heap.size, 0, none⟩ = some (.int .i64 q.1) ∧ W'.cell? ⟨w.heap.size, 1, none⟩ = some (.int .i64 q.2) ∧ W'.cell? ⟨w.heap.size, 2, none⟩ = some (.int .i64 c) ∧ W'.cell? ⟨w.heap.size, 3, none⟩ = some (.int .i64 v)) ∧ W'.cell? ⟨r, 0, none⟩ = some (.slice A n k)) W13 from ⟨⟨hk13.cell 0, hk13.cell 1, hk13.cell 2, hk13.cell 3⟩, hl13.box.cell 0⟩)); have HW13 := kept (And.intro (bel_to hb13 hb11) (And.intro hr13 (And.intro hk13 (And.intro hl13 hg13)))); clear hW13 hb13 hg13 hb11 hr11 hk11 hl11 hr13 hk13 hl13)
  refine hK.out _ _ ?_ (fun hHeld => ?_)
  · (first | exact fun hE => absurd hE (by decide) | (intro _; (try dsimp only); (first | with_reducible exact HS0.out | with_reducible exact HS1.out | (with_reducible exact HS2.out) | (with_reducible exact HS3.out))))
  clear hK K
  (try replace hHeld := hHeld (by decide))
  (try simp only [Act.put, List.setIfInBounds_toArray, List.set_cons_zero, List.set_cons_succ])
  refine ready_L 14 (fun o ho K hK => ?_)
  (simp only [List.getElem?_toArray, List.getElem?_cons_succ, List.getElem?_cons_zero, Option.some.injEq] at ho)
  subst ho
  (refine wp_append_g (.tmp 24) (.tmp 33) 52 rfl 60 ⟨W11.heap.size, 0, none⟩ rfl rfl Try.underlying52 geninfo rfl (by decide) (by decide) HW13.out.2.2.2.1.own (ys := [.int .i64 c, .int .i64 v, .slice (some ⟨w1.heap.size, 0, none⟩) 1 1, .int .i64 0, .int .i64 0]) rfl (fun j u hj => ?_) (by intro u hu; simp only [List.mem_cons, List.not_mem_nil, or_false] at hu; rcases hu with rfl | rfl | rfl | rfl | rfl <;> rfl) (by omega) (Nat.zero_le _) (by omega) ?_; (rw [gadd_at, Nat.zero_add, HW13.out.2.2.2.2.cell j]; exact hj); intro A8 c8 w8 h8 g8 loc8; (have t8 : Turned W13 w8 (fun j => (Value.slice A n k).ownBlock = some j) := Turned.of_grown g8 (fun j e => e)); (obtain ⟨hb13, hr13, hk13, hl13, hg13⟩ := HW13.out); (have hbox8 := t8.blk hl13.box (fun e => hl13.r_own e)); (have hr8 := t8.blk hr13 (fun e => by obtain ⟨ca, hca⟩ := gown_cl (k := 0) hl13.own e; exact ne_of_types hca (show W13.heap[w1.heap.size]? = some _ from hr13) (by decide) rfl)); (have hk8 := t8.blk hk13 (fun e => by obtain ⟨ca, hca⟩ := gown_cl (k := 0) hl13.own e; exact ne_of_types hca (show W13.heap[w.heap.size]? = some _ from hk13) (by decide) rfl)); (have HS3 := kept (show (fun W' : World => (W'.cell? ⟨w.heap.size, 0, none⟩ = some (.int .i64 q.1) ∧ W'.cell? ⟨w.heap.size, 1, none⟩ = some (.int .i64 q.2) ∧ W'.cell? ⟨w.heap.size, 2, none⟩ = some (.int .i64 c) ∧ W'.cell? ⟨w.heap.size, 3, none⟩ = some (.int .i64 v)) ∧ W'.cell? ⟨r, 0, none⟩ = some (.slice A n k)) w8 from ⟨⟨hk8.cell 0, hk8.cell 1, hk8.cell 2, hk8.cell 3⟩, hbox8.cell 0⟩)); (have hc8 : w8.cell? ⟨r, 0, none⟩ = some (.slice A n k) := hbox8.cell 0); have f8 := hbox8.frozen 0; have HW8 := kept (And.intro h8 (And.intro t8 (And.intro loc8 (And.intro hbox8 (And.intro hr8 hb13))))); clear h8 g8 loc8 t8 hb13 hr13 hk13 hl13 hg13 hbox8 hr8 hk8)
  refine hK.out _ _ ?_ (fun hHeld => ?_)
  · (first | exact fun hE => absurd hE (by decide) | (intro _; (try dsimp only); (first | with_reducible exact HS0.out | with_reducible exact HS1.out | (with_reducible exact HS2.out) | (with_reducible exact HS3.out))))
  clear hK K
  (try replace hHeld := hHeld (by decide))
  (try simp only [Act.put, List.setIfInBounds_toArray, List.set_cons_zero, List.set_cons_succ])
  refine take_P 15 (some 35) ?_ (by (intro o ho w; (simp only [List.getElem?_toArray, List.getElem?_cons_succ, List.getElem?_cons_zero, Option.some.injEq] at ho); subst ho; go_simp; (first | done | with_reducible rfl))) (by ((try simp only [Act.put, hA, h0, h1]); (first | done | rfl))) (by first | exact fun _ => by assumption | exact fun hE => absurd hE (by decide))
  (try simp only [Act.put, List.setIfInBounds_toArray, List.set_cons_zero, List.set_cons_succ])
  refine take_P 16 (some 36) ?_ (by (intro o ho w; (simp only [List.getElem?_toArray, List.getElem?_cons_succ, List.getElem?_cons_zero, Option.some.injEq] at ho); subst ho; go_simp; (first | done | with_reducible rfl))) (by ((try simp only [Act.put, hA, h0, h1]); (first | done | rfl))) (by first | exact fun _ => by assumption | exact fun hE => absurd hE (by decide))
  (try simp only [Act.put, List.setIfInBounds_toArray, List.set_cons_zero, List.set_cons_succ])
  refine ready_L 17 (fun o ho K hK => ?_)
  (simp only [List.getElem?_toArray, List.getElem?_cons_succ, List.getElem?_cons_zero, Option.some.injEq] at ho)
  subst ho
  go_simp
  skip
  refine hK.out _ _ ?_ (fun hHeld => ?_)
  · (first | exact fun hE => absurd hE (by decide) | (intro _; (try dsimp only); (first | with_reducible exact HS0.out | with_reducible exact HS1.out | (with_reducible exact HS2.out) | (with_reducible exact HS3.out))))
  clear hK K
  (try replace hHeld := hHeld (by decide))
  (try simp only [Act.put, List.setIfInBounds_toArray, List.set_cons_zero, List.set_cons_succ])
  refine done_L (by kernel_rfl) ?_ _
  clear hHeld hc8 f8
  go_wp2
  go_returns
  obtain ⟨h8, t8, loc8, hbox8, hr8, hb13⟩ := HW8.out
  replace hb13 := bel_to hb13 HB1.out
  have h := HH.out
  have t9 : Turned w8 (w8.setCell ⟨r, 0, none⟩ (.slice A8 (n + 1) c8)) (fun j => j = r) := (Turned.refl w8 (fun j => j = r)).setCell (p := ⟨r, 0, none⟩) (fun _ => rfl) _
  have hnr : ∀ j, (Value.slice A8 (n + 1) c8).ownBlock = some j → j ≠ r := fun j hj => by
    obtain ⟨ca, hca⟩ := gown_cl (k := 0) h8 hj
    exact ne_of_types hca (show w8.heap[r]? = some _ from hbox8) (by decide)
  have hrr : w1.heap.size ≠ r := ne_of_types (show w8.heap[w1.heap.size]? = some _ from hr8) (show w8.heap[r]? = some _ from hbox8) (by decide)
  have h9 := gown_turned h8 t9 hnr
  rw [show glC Ls ++ [.int .i64 c, .int .i64 v, .slice (some ⟨w1.heap.size, 0, none⟩) 1 1, .int .i64 0, .int .i64 0] = glC (Ls ++ [⟨c, v, some ⟨w1.heap.size, 0, none⟩, 1, 1, (0, 0)⟩]) by rw [glC_append]; rfl] at h9
  have hr9 := t9.blk hr8 hrr
  refine ⟨rfl, A8, c8, ⟨c, v, some ⟨w1.heap.size, 0, none⟩, 1, 1, (0, 0)⟩, ?_⟩
  refine h.left_more ⟨c, v, some ⟨w1.heap.size, 0, none⟩, 1, 1, (0, 0)⟩ ⟨c, v, [q], (0, 0)⟩ h9 ⟨rfl, rfl, rfl, rfl, ?_⟩ (hbox8.set_ 0 _) ?_ (fun j hj => ?_) (fun j hj => ?_)
  · exact ⟨rfl, .inr ⟨w1.heap.size, 1, _, rfl, Nat.zero_le _, hr9, Nat.le_refl _, by decide, rfl, rfl⟩⟩
  · exact ((Turned.of_below hb13 (fun j => j = r ∨ (Value.slice A n k).ownBlock = some j)).trans (t8.mono (fun _ _ e => .inr e))).trans (t9.mono (fun _ _ e => .inl e))
  · obtain rfl : w1.heap.size = j := by simpa [GL.row, Value.ownBlock] using hj
    exact HB1.out.size
  · rcases loc8 with e | e
    · exact .inl (e.symm.trans hj)
    · have e2 := e.symm.trans hj
      exact .inr (by have := hb13.size; injection e2 with e2; omega)
end Go.Proofs.Ythpaliagmnclfaa
