/-
  Texts laid together: Ql.
-/
import Derived.Test.YtdjcahhofonclaaGreatDoorBQh
import Derived.Test.YtdjcahhofonclaaGreatDoorBHnd
import Derived.LaidEqlPtr
section
/-
  package pager: a transaction apart, Save and Back.
-/
namespace Go.Proofs.YtdjcahhofonclaaGreatDoor
open Go.ChangeShapes Go.WideShapes Go.ChangeAt Go.RowKit
set_option linter.unusedVariables false
set_option linter.unusedSimpArgs false

theorem Blk.three {w : World} {g : Nat} {t : TypeId} {a b c : Value} (h : Blk w g t [a, b, c]) (x y z : Value) :
    (((w.setCell ⟨g, 0, none⟩ x).setCell ⟨g, 1, none⟩ y).setCell ⟨g, 2, none⟩ z).cell? ⟨g, 0, none⟩ = some x ∧ (((w.setCell ⟨g, 0, none⟩ x).setCell ⟨g, 1, none⟩ y).setCell ⟨g, 2, none⟩ z).cell? ⟨g, 1, none⟩ = some y ∧ (((w.setCell ⟨g, 0, none⟩ x).setCell ⟨g, 1, none⟩ y).setCell ⟨g, 2, none⟩ z).cell? ⟨g, 2, none⟩ = some z :=
  ⟨(((h.set_ 0 x).set_ 1 y).set_ 2 z).cell 0, (((h.set_ 0 x).set_ 1 y).set_ 2 z).cell 1, (((h.set_ 0 x).set_ 1 y).set_ 2 z).cell 2⟩
theorem cell_set3 (w : World) (g : Nat) (x y z : Value) (b i : Nat) (hp : b ≠ g) : (((w.setCell ⟨g, 0, none⟩ x).setCell ⟨g, 1, none⟩ y).setCell ⟨g, 2, none⟩ z).cell? ⟨b, i, none⟩ = w.cell? ⟨b, i, none⟩ :=
  World.cell?_of_block (w := w) (a := ⟨b, i, none⟩) ((Below.heap_setCell _ ⟨g, 2, none⟩ z b (fun e => hp e)).trans ((Below.heap_setCell _ ⟨g, 1, none⟩ y b (fun e => hp e)).trans (Below.heap_setCell _ ⟨g, 0, none⟩ x b (fun e => hp e))))
/-- A transaction's list and map, in memory of their own behind an elder world. -/
structure TrA (a w : World) (f : Fl) (m : Nat) (V : Int → Option Value) (L : FSt) (add : Adds) : Prop where
  lst : Lst w f L
  adm : AdM w m V add
  fn : ∀ j, f.own j → a.heap.size ≤ j
  mn : a.heap.size ≤ m
  below : Below a.heap.size a w
theorem TrA.turned {a w w' : World} {f : Fl} {m : Nat} {V : Int → Option Value} {L : FSt} {add : Adds} (h : TrA a w f m V L add) {T : Nat → Prop} (t : Turned w w' T) (h1 : ∀ j, f.own j ∨ j = m → ¬ T j) (h2 : ∀ g, Cl w g 5 → ¬ T g) (h3 : ∀ j, T j → a.heap.size ≤ j) : TrA a w' f m V L add :=
  ⟨h.lst.turned t (fun j hj => h1 j (.inl hj)), ⟨h.adm.1.keep (t.block _ h.adm.1.lt (h1 _ (.inr rfl))), h.adm.2.turned t h2⟩, h.fn, h.mn, t.only_new h.below h.below.size h3⟩
set_option maxRecDepth 100000 in
set_option maxHeartbeats 2000000 in
theorem apart_any_t (root : Int) (f : Fl) (L : FSt) (m : Nat) (V : Int → Option Value) (add : Adds) (w : World) (hl : Lst w f L) (hm : AdM w m V add) :
    Calls Tryz.prog 56 #[.agg #[.int .i64 root, .pointer (some ⟨f.r, 0, none⟩), .map (some m)]] w fun e w' => ∃ (f' : Fl) (m' : Nat), e = .returned (.agg #[.int .i64 root, .pointer (some ⟨f'.r, 0, none⟩), .map (some m')]) ∧ Hid (TrA w w' f' m' V L add) := by
  have HCP := kept (fun (W : World) (hb : Below w.heap.size w W) => copy_any_f f L W (hl.below hb))
  have HCL := kept (fun (W : World) (hb : Below w.heap.size w W) => cloneV_any m 1022 V W (hm.1.keep (hb.block _ hm.1.lt)))
  have HV := kept hm.2
  clear hl hm
  go_enter Tryz.func56, Tryz.ntmps56
  go_wp2
  have HB0 : Hid (Below w.heap.size w ((w.alloc (.cells #[.int .i64 root, .pointer (some ⟨f.r, 0, none⟩), .map (some m)] 50)).alloc (.cells #[.int .i64 0, .pointer none, .map none] 50))) := kept (((Below.refl _ w).alloc (Nat.le_refl _) _).alloc (by simp) _)
  have HK0 : Hid (Blk ((w.alloc (.cells #[.int .i64 root, .pointer (some ⟨f.r, 0, none⟩), .map (some m)] 50)).alloc (.cells #[.int .i64 0, .pointer none, .map none] 50)) (w.heap.size + 1) 50 [.int .i64 0, .pointer none, .map none]) := kept (by
    have := Blk.new (w.alloc (.cells #[.int .i64 root, .pointer (some ⟨f.r, 0, none⟩), .map (some m)] 50)) 50 #[.int .i64 0, .pointer none, .map none]
    rw [World.size_alloc] at this
    exact this)
  have HK1 : Hid (Blk ((w.alloc (.cells #[.int .i64 root, .pointer (some ⟨f.r, 0, none⟩), .map (some m)] 50)).alloc (.cells #[.int .i64 0, .pointer none, .map none] 50)) w.heap.size 50 [.int .i64 root, .pointer (some ⟨f.r, 0, none⟩), .map (some m)]) := kept ((Blk.new w 50 #[.int .i64 root, .pointer (some ⟨f.r, 0, none⟩), .map (some m)]).alloc _)
  generalize ((w.alloc (.cells #[.int .i64 root, .pointer (some ⟨f.r, 0, none⟩), .map (some m)] 50)).alloc (.cells #[.int .i64 0, .pointer none, .map none] 50)) = W0 at HB0 HK0 HK1 ⊢
  have e0 : W0.drew.cell? ⟨w.heap.size, 0, none⟩ = some (.int .i64 root) := HK1.out.cell 0
  have e1 : W0.drew.cell? ⟨w.heap.size, 1, none⟩ = some (.pointer (some ⟨f.r, 0, none⟩)) := HK1.out.cell 1
  have e2 : W0.drew.cell? ⟨w.heap.size, 2, none⟩ = some (.map (some m)) := HK1.out.cell 2
  refine wp_region_held_drew (S := (fun W' => W'.cell? ⟨w.heap.size, 0, none⟩ = some (.int .i64 root) ∧ W'.cell? ⟨w.heap.size, 1, none⟩ = some (.pointer (some ⟨f.r, 0, none⟩)) ∧ W'.cell? ⟨w.heap.size, 2, none⟩ = some (.map (some m)))) (by kernel_rfl) ?_ (fun hHeld => ?_)
  · ((try dsimp only); (first | exact ⟨e0, e1, e2⟩ | exact ⟨HX1.out.1, HX1.out.2.1, HX1.out.2.2⟩ | exact ⟨HX2.out.1, HX2.out.2.1, HX2.out.2.2⟩ | exact ⟨(cell_set3 w2 (w.heap.size + 1) _ _ _ w.heap.size 0 (by omega)).trans HX2.out.1, (cell_set3 w2 (w.heap.size + 1) _ _ _ w.heap.size 1 (by omega)).trans HX2.out.2.1, (cell_set3 w2 (w.heap.size + 1) _ _ _ w.heap.size 2 (by omega)).trans HX2.out.2.2⟩))
  refine hand_take 0 (some 3) ?_ (by kernel_rfl) (by kernel_rfl) (by kernel_rfl) (by kernel_rfl) (by kernel_rfl) (fun _ _ _ h => h) ?_ (by assumption) ?_
  rotate_left
  · (intro o ho w hSw; (simp only [List.getElem?_toArray, List.getElem?_cons_succ, List.getElem?_cons_zero, Option.some.injEq] at ho); subst ho; (try dsimp only at hSw); go_simp; (first | done | with_reducible rfl))
  (try simp only [Act.put, List.setIfInBounds_toArray, List.set_cons_zero, List.set_cons_succ])
  refine hand_take 1 (some 4) ?_ (by kernel_rfl) (by kernel_rfl) (by kernel_rfl) (by kernel_rfl) (by kernel_rfl) (fun _ _ _ h => h) ?_ (by assumption) ?_
  rotate_left
  · (intro o ho w hSw; (simp only [List.getElem?_toArray, List.getElem?_cons_succ, List.getElem?_cons_zero, Option.some.injEq] at ho); subst ho; (try dsimp only at hSw); go_simp; (first | done | with_reducible rfl))
  (try simp only [Act.put, List.setIfInBounds_toArray, List.set_cons_zero, List.set_cons_succ])
  refine hand_take 2 (some 5) ?_ (by kernel_rfl) (by kernel_rfl) (by kernel_rfl) (by kernel_rfl) (by kernel_rfl) (fun _ _ _ h => h) ?_ (by assumption) ?_
  rotate_left
  · (intro o ho w hSw; (simp only [List.getElem?_toArray, List.getElem?_cons_succ, List.getElem?_cons_zero, Option.some.injEq] at ho); subst ho; (try dsimp only at hSw); go_simp; (first | done | with_reducible rfl))
  (try simp only [Act.put, List.setIfInBounds_toArray, List.set_cons_zero, List.set_cons_succ])
  refine hand_take 3 (some 6) ?_ (by kernel_rfl) (by kernel_rfl) (by kernel_rfl) (by kernel_rfl) (by kernel_rfl) (fun _ _ _ h => h) ?_ (by assumption) ?_
  rotate_left
  · (intro o ho w hSw; (simp only [List.getElem?_toArray, List.getElem?_cons_succ, List.getElem?_cons_zero, Option.some.injEq] at ho); subst ho; (try dsimp only at hSw); go_simp; (first | done | with_reducible rfl))
  (try simp only [Act.put, List.setIfInBounds_toArray, List.set_cons_zero, List.set_cons_succ])
  refine hand_take 5 (some 8) ?_ (by kernel_rfl) (by kernel_rfl) (by kernel_rfl) (by kernel_rfl) (by kernel_rfl) (fun _ _ _ h => h) ?_ (by assumption) ?_
  rotate_left
  · (intro o ho w hSw; (simp only [List.getElem?_toArray, List.getElem?_cons_succ, List.getElem?_cons_zero, Option.some.injEq] at ho); subst ho; (try dsimp only at hSw); go_simp; (first | done | with_reducible rfl))
  (try simp only [Act.put, List.setIfInBounds_toArray, List.set_cons_zero, List.set_cons_succ])
  refine hand_take 6 (some 9) ?_ (by kernel_rfl) (by kernel_rfl) (by kernel_rfl) (by kernel_rfl) (by kernel_rfl) (fun _ _ _ h => h) ?_ (by assumption) ?_
  rotate_left
  · (intro o ho w hSw; (simp only [List.getElem?_toArray, List.getElem?_cons_succ, List.getElem?_cons_zero, Option.some.injEq] at ho); subst ho; (try dsimp only at hSw); go_simp; (first | done | with_reducible rfl))
  (try simp only [Act.put, List.setIfInBounds_toArray, List.set_cons_zero, List.set_cons_succ])
  refine hand_ready 4 (by kernel_rfl) (by kernel_rfl) (fun o ho K hK => ?_)
  (simp only [List.getElem?_toArray, List.getElem?_cons_succ, List.getElem?_cons_zero, Option.some.injEq] at ho)
  subst ho
  go_simp
  ((go_at_call 79; (with_reducible refine (HCP.out _ HB0.out.drew).mono ?_); rintro e w1 ⟨f', rfl, h1⟩); have HB1 : Hid (Below w.heap.size w w1) := kept (HB0.out.trans ((below_from_drew h1.out.2.1).mono HB0.out.size)); have HX1 : Hid (w1.cell? ⟨w.heap.size, 0, none⟩ = some (.int .i64 root) ∧ w1.cell? ⟨w.heap.size, 1, none⟩ = some (.pointer (some ⟨f.r, 0, none⟩)) ∧ w1.cell? ⟨w.heap.size, 2, none⟩ = some (.map (some m))) := kept ⟨cell_below h1.out.2.1 e0, cell_below h1.out.2.1 e1, cell_below h1.out.2.1 e2⟩)
  (try go_wp2_with fail)
  refine hK.out _ _ ?_ (fun hHeld => ?_)
  · ((try dsimp only); (first | exact ⟨e0, e1, e2⟩ | exact ⟨HX1.out.1, HX1.out.2.1, HX1.out.2.2⟩ | exact ⟨HX2.out.1, HX2.out.2.1, HX2.out.2.2⟩ | exact ⟨(cell_set3 w2 (w.heap.size + 1) _ _ _ w.heap.size 0 (by omega)).trans HX2.out.1, (cell_set3 w2 (w.heap.size + 1) _ _ _ w.heap.size 1 (by omega)).trans HX2.out.2.1, (cell_set3 w2 (w.heap.size + 1) _ _ _ w.heap.size 2 (by omega)).trans HX2.out.2.2⟩))
  clear hK K
  (try simp only [Act.put, List.setIfInBounds_toArray, List.set_cons_zero, List.set_cons_succ])
  refine hand_ready 7 (by kernel_rfl) (by kernel_rfl) (fun o ho K hK => ?_)
  (simp only [List.getElem?_toArray, List.getElem?_cons_succ, List.getElem?_cons_zero, Option.some.injEq] at ho)
  subst ho
  go_simp
  ((go_at_call 94; (with_reducible refine (HCL.out _ HB1.out).mono ?_); rintro e w2 ⟨rfl, h2⟩); have HX2 : Hid (w2.cell? ⟨w.heap.size, 0, none⟩ = some (.int .i64 root) ∧ w2.cell? ⟨w.heap.size, 1, none⟩ = some (.pointer (some ⟨f.r, 0, none⟩)) ∧ w2.cell? ⟨w.heap.size, 2, none⟩ = some (.map (some m))) := kept ⟨cell_below h2.out.2 HX1.out.1, cell_below h2.out.2 HX1.out.2.1, cell_below h2.out.2 HX1.out.2.2⟩; have hk2 : Blk w2 (w.heap.size + 1) 50 [.int .i64 0, .pointer none, .map none] := (HK0.out.below (below_from_drew h1.out.2.1) HK0.out.lt).below h2.out.2 (HK0.out.below (below_from_drew h1.out.2.1) HK0.out.lt).lt; have HK2 := kept hk2; have q0 : w2.cell? ⟨w.heap.size + 1, 0, none⟩ = some (.int .i64 0) := hk2.cell 0; have q1 : w2.cell? ⟨w.heap.size + 1, 1, none⟩ = some (.pointer none) := hk2.cell 1; have q2 : w2.cell? ⟨w.heap.size + 1, 2, none⟩ = some (.map none) := hk2.cell 2; have u0 := hk2.frozen 0; have u1 := hk2.frozen 1; have u2 := hk2.frozen 2; clear hk2)
  (try go_wp2_with fail)
  refine hK.out _ _ ?_ (fun hHeld => ?_)
  · ((try dsimp only); (first | exact ⟨e0, e1, e2⟩ | exact ⟨HX1.out.1, HX1.out.2.1, HX1.out.2.2⟩ | exact ⟨HX2.out.1, HX2.out.2.1, HX2.out.2.2⟩ | exact ⟨(cell_set3 w2 (w.heap.size + 1) _ _ _ w.heap.size 0 (by omega)).trans HX2.out.1, (cell_set3 w2 (w.heap.size + 1) _ _ _ w.heap.size 1 (by omega)).trans HX2.out.2.1, (cell_set3 w2 (w.heap.size + 1) _ _ _ w.heap.size 2 (by omega)).trans HX2.out.2.2⟩))
  clear hK K
  (try simp only [Act.put, List.setIfInBounds_toArray, List.set_cons_zero, List.set_cons_succ])
  refine hand_take 8 (some 11) ?_ (by kernel_rfl) (by kernel_rfl) (by kernel_rfl) (by kernel_rfl) (by kernel_rfl) (fun _ _ _ h => h) ?_ (by assumption) ?_
  rotate_left
  · (intro o ho w hSw; (simp only [List.getElem?_toArray, List.getElem?_cons_succ, List.getElem?_cons_zero, Option.some.injEq] at ho); subst ho; (try dsimp only at hSw); go_simp; (first | done | with_reducible rfl))
  (try simp only [Act.put, List.setIfInBounds_toArray, List.set_cons_zero, List.set_cons_succ])
  refine hand_ready 9 (by kernel_rfl) (by kernel_rfl) (fun o ho K hK => ?_)
  (simp only [List.getElem?_toArray, List.getElem?_cons_succ, List.getElem?_cons_zero, Option.some.injEq] at ho)
  subst ho
  go_simp
  refine hK.out _ _ ?_ (fun hHeld => ?_)
  · ((try dsimp only); (first | exact ⟨e0, e1, e2⟩ | exact ⟨HX1.out.1, HX1.out.2.1, HX1.out.2.2⟩ | exact ⟨HX2.out.1, HX2.out.2.1, HX2.out.2.2⟩ | exact ⟨(cell_set3 w2 (w.heap.size + 1) _ _ _ w.heap.size 0 (by omega)).trans HX2.out.1, (cell_set3 w2 (w.heap.size + 1) _ _ _ w.heap.size 1 (by omega)).trans HX2.out.2.1, (cell_set3 w2 (w.heap.size + 1) _ _ _ w.heap.size 2 (by omega)).trans HX2.out.2.2⟩))
  clear hK K
  (try simp only [Act.put, List.setIfInBounds_toArray, List.set_cons_zero, List.set_cons_succ])
  refine wpAnyH_done (by kernel_rfl) ?_ _
  go_wp2
  obtain ⟨v0, v1, v2⟩ := HK2.out.three (.int .i64 root) (.pointer (some ⟨f'.r, 0, none⟩)) (.map (some w1.heap.size))
  have t : Turned w2 (((w2.setCell ⟨w.heap.size + 1, 0, none⟩ (.int .i64 root)).setCell ⟨w.heap.size + 1, 1, none⟩ (.pointer (some ⟨f'.r, 0, none⟩))).setCell ⟨w.heap.size + 1, 2, none⟩ (.map (some w1.heap.size))) (fun j => j = w.heap.size + 1) :=
    (((Turned.refl w2 (fun j => j = w.heap.size + 1)).setCell (fun _ => rfl) _).setCell (fun _ => rfl) _).setCell (fun _ => rfl) _
  generalize (((w2.setCell ⟨w.heap.size + 1, 0, none⟩ (.int .i64 root)).setCell ⟨w.heap.size + 1, 1, none⟩ (.pointer (some ⟨f'.r, 0, none⟩))).setCell ⟨w.heap.size + 1, 2, none⟩ (.map (some w1.heap.size))) = X at v0 v1 v2 t ⊢
  have hb2 : Below w.heap.size w w2 := HB1.out.trans (h2.out.2.mono HB1.out.size)
  have hsz : w.heap.size ≤ W0.heap.size := HB0.out.size
  have hk0 : w.heap.size + 1 < W0.heap.size := HK0.out.lt
  have hA : TrA w w2 f' w1.heap.size V L add := ⟨h1.out.1.below h2.out.2, ⟨h2.out.1, HV.out.below hb2⟩, fun j hj => Nat.le_trans hsz (h1.out.2.2 j hj), HB1.out.size, hb2⟩
  refine bodyPost_ret (v := .agg #[.int .i64 root, .pointer (some ⟨f'.r, 0, none⟩), .map (some w1.heap.size)]) (by simp [results, Tryz.results56, go_sem, v0, v1, v2]) rfl ⟨f', w1.heap.size, rfl, kept (hA.turned t (fun j hj e => ?_) (fun g hg e => ?_) (fun j e => by omega))⟩
  · rcases hj with hj | hj
    · have h3 : W0.heap.size ≤ j := h1.out.2.2 j hj
      omega
    · have h3 : W0.heap.size ≤ w1.heap.size := (below_from_drew h1.out.2.1).size
      omega
  · exact absurd (hg.uniq (e ▸ HK2.out.cl)) (by decide)

theorem Blk.five {w : World} {g : Nat} {t : TypeId} {a b c d e : Value} (h : Blk w g t [a, b, c, d, e]) (x y z u v : Value) :
    Blk (((((w.setCell ⟨g, 0, none⟩ x).setCell ⟨g, 1, none⟩ y).setCell ⟨g, 2, none⟩ z).setCell ⟨g, 3, none⟩ u).setCell ⟨g, 4, none⟩ v) g t [x, y, z, u, v] := by
  have := ((((h.set_ 0 x).set_ 1 y).set_ 2 z).set_ 3 u).set_ 4 v
  simpa using this
set_option maxRecDepth 100000 in
set_option maxHeartbeats 2000000 in
theorem save_any {w : World} {p : Pgl} {P : PSt} {S : St} (h : Pgr w p P S) :
    Calls Tryz.prog 20 #[.pointer (some ⟨p.r, 0, none⟩)] w fun e w' => ∃ (f' : Fl) (m' : Nat), e = .returned (.agg #[.pointer (some ⟨p.r, 0, none⟩), .int .u64 (P.M.txn : Int), .int .i64 P.root, .pointer (some ⟨f'.r, 0, none⟩), .map (some m')]) ∧ Hid (TrA w w' f' m' p.V P.L P.add) := by
  have HB0 := fun o => kept ((Below.refl _ w).alloc (Nat.le_refl _) o)
  have HA := fun o => kept (palive_any (h.below (HB0 o).out))
  have H := kept h
  have HAP := kept (fun (W : World) (hb : Below w.heap.size w W) => apart_any_t P.root p.f P.L p.m p.V P.add W (h.below hb).lst (h.below hb).adm)
  clear h
  go_enter Tryz.func20, Tryz.ntmps20
  go_wp2_with (first | (go_at_call 37; (with_reducible refine (HA _).out.mono ?_); rintro e w1 ⟨rfl, rfl⟩))
  have HK0 := kept (Blk.new w 52 #[.pointer none, .int .u64 0, .int .i64 0, .pointer none, .map none])
  have HB := kept ((Below.refl _ w).alloc (Nat.le_refl _) (.cells #[.pointer none, .int .u64 0, .int .i64 0, .pointer none, .map none] 52))
  generalize w.alloc (.cells #[.pointer none, .int .u64 0, .int .i64 0, .pointer none, .map none] 52) = W0 at HK0 HB ⊢
  have H0 := kept (H.out.below HB.out)
  have e1 : W0.drew.cell? ⟨p.r, 1, none⟩ = some (.int .u64 (P.M.txn : Int)) := H0.out.c 1
  have e7 : W0.drew.cell? ⟨p.r, 7, none⟩ = some (.int .i64 P.root) := H0.out.c 7
  have e8 : W0.drew.cell? ⟨p.r, 8, none⟩ = some (.pointer (some ⟨p.f.r, 0, none⟩)) := H0.out.c 8
  have e9 : W0.drew.cell? ⟨p.r, 9, none⟩ = some (.map (some p.m)) := H0.out.c 9
  have hne : p.r ≠ w.heap.size := by have := H.out.blk.lt; omega
  refine wp_region_held_drew (S := (fun W' => W'.cell? ⟨p.r, 1, none⟩ = some (.int .u64 (P.M.txn : Int)) ∧ W'.cell? ⟨p.r, 7, none⟩ = some (.int .i64 P.root) ∧ W'.cell? ⟨p.r, 8, none⟩ = some (.pointer (some ⟨p.f.r, 0, none⟩)) ∧ W'.cell? ⟨p.r, 9, none⟩ = some (.map (some p.m)))) (by kernel_rfl) ?_ (fun hHeld => ?_)
  · ((try dsimp only); (first | with_reducible exact ⟨e1, e7, e8, e9⟩ | with_reducible exact HX1.out | exact HX2.out _ _ _ _ _))
  refine hand_take 0 (some 7) ?_ (by kernel_rfl) (by kernel_rfl) (by kernel_rfl) (by kernel_rfl) (by kernel_rfl) (fun _ _ _ h => h) ?_ (by assumption) ?_
  rotate_left
  · (intro o ho w hSw; (simp only [List.getElem?_toArray, List.getElem?_cons_succ, List.getElem?_cons_zero, Option.some.injEq] at ho); subst ho; (try dsimp only at hSw); go_simp; (first | done | with_reducible rfl))
  (try simp only [Act.put, List.setIfInBounds_toArray, List.set_cons_zero, List.set_cons_succ])
  refine hand_take 1 (some 8) ?_ (by kernel_rfl) (by kernel_rfl) (by kernel_rfl) (by kernel_rfl) (by kernel_rfl) (fun _ _ _ h => h) ?_ (by assumption) ?_
  rotate_left
  · (intro o ho w hSw; (simp only [List.getElem?_toArray, List.getElem?_cons_succ, List.getElem?_cons_zero, Option.some.injEq] at ho); subst ho; (try dsimp only at hSw); go_simp; (first | done | with_reducible rfl))
  (try simp only [Act.put, List.setIfInBounds_toArray, List.set_cons_zero, List.set_cons_succ])
  refine hand_take 2 (some 9) ?_ (by kernel_rfl) (by kernel_rfl) (by kernel_rfl) (by kernel_rfl) (by kernel_rfl) (fun _ _ _ h => h) ?_ (by assumption) ?_
  rotate_left
  · (intro o ho w hSw; (simp only [List.getElem?_toArray, List.getElem?_cons_succ, List.getElem?_cons_zero, Option.some.injEq] at ho); subst ho; (try dsimp only at hSw); go_simp; (first | done | with_reducible rfl))
  (try simp only [Act.put, List.setIfInBounds_toArray, List.set_cons_zero, List.set_cons_succ])
  refine hand_take 3 (some 10) ?_ (by kernel_rfl) (by kernel_rfl) (by kernel_rfl) (by kernel_rfl) (by kernel_rfl) (fun _ _ _ h => h) ?_ (by assumption) ?_
  rotate_left
  · (intro o ho w hSw; (simp only [List.getElem?_toArray, List.getElem?_cons_succ, List.getElem?_cons_zero, Option.some.injEq] at ho); subst ho; (try dsimp only at hSw); go_simp; (first | done | with_reducible rfl))
  (try simp only [Act.put, List.setIfInBounds_toArray, List.set_cons_zero, List.set_cons_succ])
  refine hand_take 4 (some 11) ?_ (by kernel_rfl) (by kernel_rfl) (by kernel_rfl) (by kernel_rfl) (by kernel_rfl) (fun _ _ _ h => h) ?_ (by assumption) ?_
  rotate_left
  · (intro o ho w hSw; (simp only [List.getElem?_toArray, List.getElem?_cons_succ, List.getElem?_cons_zero, Option.some.injEq] at ho); subst ho; (try dsimp only at hSw); go_simp; (first | done | with_reducible rfl))
  (try simp only [Act.put, List.setIfInBounds_toArray, List.set_cons_zero, List.set_cons_succ])
  refine hand_take 5 (some 12) ?_ (by kernel_rfl) (by kernel_rfl) (by kernel_rfl) (by kernel_rfl) (by kernel_rfl) (fun _ _ _ h => h) ?_ (by assumption) ?_
  rotate_left
  · (intro o ho w hSw; (simp only [List.getElem?_toArray, List.getElem?_cons_succ, List.getElem?_cons_zero, Option.some.injEq] at ho); subst ho; (try dsimp only at hSw); go_simp; (first | done | with_reducible rfl))
  (try simp only [Act.put, List.setIfInBounds_toArray, List.set_cons_zero, List.set_cons_succ])
  refine hand_take 6 (some 13) ?_ (by kernel_rfl) (by kernel_rfl) (by kernel_rfl) (by kernel_rfl) (by kernel_rfl) (fun _ _ _ h => h) ?_ (by assumption) ?_
  rotate_left
  · (intro o ho w hSw; (simp only [List.getElem?_toArray, List.getElem?_cons_succ, List.getElem?_cons_zero, Option.some.injEq] at ho); subst ho; (try dsimp only at hSw); go_simp; (first | done | with_reducible rfl))
  (try simp only [Act.put, List.setIfInBounds_toArray, List.set_cons_zero, List.set_cons_succ])
  refine hand_take 7 (some 14) ?_ (by kernel_rfl) (by kernel_rfl) (by kernel_rfl) (by kernel_rfl) (by kernel_rfl) (fun _ _ _ h => h) ?_ (by assumption) ?_
  rotate_left
  · (intro o ho w hSw; (simp only [List.getElem?_toArray, List.getElem?_cons_succ, List.getElem?_cons_zero, Option.some.injEq] at ho); subst ho; (try dsimp only at hSw); go_simp; (first | done | with_reducible rfl))
  (try simp only [Act.put, List.setIfInBounds_toArray, List.set_cons_zero, List.set_cons_succ])
  refine hand_take 8 (some 15) ?_ (by kernel_rfl) (by kernel_rfl) (by kernel_rfl) (by kernel_rfl) (by kernel_rfl) (fun _ _ _ h => h) ?_ (by assumption) ?_
  rotate_left
  · (intro o ho w hSw; (simp only [List.getElem?_toArray, List.getElem?_cons_succ, List.getElem?_cons_zero, Option.some.injEq] at ho); subst ho; (try dsimp only at hSw); go_simp; (first | done | with_reducible rfl))
  (try simp only [Act.put, List.setIfInBounds_toArray, List.set_cons_zero, List.set_cons_succ])
  refine hand_take 9 (some 16) ?_ (by kernel_rfl) (by kernel_rfl) (by kernel_rfl) (by kernel_rfl) (by kernel_rfl) (fun _ _ _ h => h) ?_ (by assumption) ?_
  rotate_left
  · (intro o ho w hSw; (simp only [List.getElem?_toArray, List.getElem?_cons_succ, List.getElem?_cons_zero, Option.some.injEq] at ho); subst ho; (try dsimp only at hSw); go_simp; (first | done | with_reducible rfl))
  (try simp only [Act.put, List.setIfInBounds_toArray, List.set_cons_zero, List.set_cons_succ])
  refine hand_ready 10 (by kernel_rfl) (by kernel_rfl) (fun o ho K hK => ?_)
  (simp only [List.getElem?_toArray, List.getElem?_cons_succ, List.getElem?_cons_zero, Option.some.injEq] at ho)
  subst ho
  go_simp
  ((go_at_call 56; (with_reducible refine (HAP.out _ HB.out.drew).mono ?_); rintro e w1 ⟨f', m', rfl, h1⟩); have HX1 : Hid (w1.cell? ⟨p.r, 1, none⟩ = some (.int .u64 (P.M.txn : Int)) ∧ w1.cell? ⟨p.r, 7, none⟩ = some (.int .i64 P.root) ∧ w1.cell? ⟨p.r, 8, none⟩ = some (.pointer (some ⟨p.f.r, 0, none⟩)) ∧ w1.cell? ⟨p.r, 9, none⟩ = some (.map (some p.m))) := kept ⟨cell_below h1.out.below e1, cell_below h1.out.below e7, cell_below h1.out.below e8, cell_below h1.out.below e9⟩; have hk2 : Blk w1 w.heap.size 52 [.pointer none, .int .u64 0, .int .i64 0, .pointer none, .map none] := HK0.out.below (below_from_drew h1.out.below) HK0.out.lt; have HK2 := kept hk2; have q0 : w1.cell? ⟨w.heap.size, 0, none⟩ = some (.pointer none) := hk2.cell 0; have q1 : w1.cell? ⟨w.heap.size, 1, none⟩ = some (.int .u64 0) := hk2.cell 1; have q2 : w1.cell? ⟨w.heap.size, 2, none⟩ = some (.int .i64 0) := hk2.cell 2; have q3 : w1.cell? ⟨w.heap.size, 3, none⟩ = some (.pointer none) := hk2.cell 3; have q4 : w1.cell? ⟨w.heap.size, 4, none⟩ = some (.map none) := hk2.cell 4; have u0 := hk2.frozen 0; have u1 := hk2.frozen 1; have u2 := hk2.frozen 2; have u3 := hk2.frozen 3; have u4 := hk2.frozen 4; have HX2 : Hid (∀ x y z u v : Value, (fun W' : World => W'.cell? ⟨p.r, 1, none⟩ = some (.int .u64 (P.M.txn : Int)) ∧ W'.cell? ⟨p.r, 7, none⟩ = some (.int .i64 P.root) ∧ W'.cell? ⟨p.r, 8, none⟩ = some (.pointer (some ⟨p.f.r, 0, none⟩)) ∧ W'.cell? ⟨p.r, 9, none⟩ = some (.map (some p.m))) (((((w1.setCell ⟨w.heap.size, 0, none⟩ x).setCell ⟨w.heap.size, 1, none⟩ y).setCell ⟨w.heap.size, 2, none⟩ z).setCell ⟨w.heap.size, 3, none⟩ u).setCell ⟨w.heap.size, 4, none⟩ v)) := kept (fun x y z u v => (by have t : Turned w1 (((((w1.setCell ⟨w.heap.size, 0, none⟩ x).setCell ⟨w.heap.size, 1, none⟩ y).setCell ⟨w.heap.size, 2, none⟩ z).setCell ⟨w.heap.size, 3, none⟩ u).setCell ⟨w.heap.size, 4, none⟩ v) (fun j => j = w.heap.size) := (((((Turned.refl w1 (fun j => j = w.heap.size)).setCell (fun _ => rfl) _).setCell (fun _ => rfl) _).setCell (fun _ => rfl) _).setCell (fun _ => rfl) _).setCell (fun _ => rfl) _; have eb := t.block p.r (World.block_lt_of_cell? w1 _ HX1.out.1) hne; exact ⟨(World.cell?_of_block (w := w1) (a := ⟨p.r, 1, none⟩) eb).trans HX1.out.1, (World.cell?_of_block (w := w1) (a := ⟨p.r, 7, none⟩) eb).trans HX1.out.2.1, (World.cell?_of_block (w := w1) (a := ⟨p.r, 8, none⟩) eb).trans HX1.out.2.2.1, (World.cell?_of_block (w := w1) (a := ⟨p.r, 9, none⟩) eb).trans HX1.out.2.2.2⟩)); clear hk2)
  (try go_wp2_with fail)
  refine hK.out _ _ ?_ (fun hHeld => ?_)
  · ((try dsimp only); (first | with_reducible exact ⟨e1, e7, e8, e9⟩ | with_reducible exact HX1.out | exact HX2.out _ _ _ _ _))
  clear hK K
  (try simp only [Act.put, List.setIfInBounds_toArray, List.set_cons_zero, List.set_cons_succ])
  refine hand_take 11 (some 18) ?_ (by kernel_rfl) (by kernel_rfl) (by kernel_rfl) (by kernel_rfl) (by kernel_rfl) (fun _ _ _ h => h) ?_ (by assumption) ?_
  rotate_left
  · (intro o ho w hSw; (simp only [List.getElem?_toArray, List.getElem?_cons_succ, List.getElem?_cons_zero, Option.some.injEq] at ho); subst ho; (try dsimp only at hSw); go_simp; (first | done | with_reducible rfl))
  (try simp only [Act.put, List.setIfInBounds_toArray, List.set_cons_zero, List.set_cons_succ])
  refine hand_ready 12 (by kernel_rfl) (by kernel_rfl) (fun o ho K hK => ?_)
  (simp only [List.getElem?_toArray, List.getElem?_cons_succ, List.getElem?_cons_zero, Option.some.injEq] at ho)
  subst ho
  go_simp
  refine hK.out _ _ ?_ (fun hHeld => ?_)
  · ((try dsimp only); (first | with_reducible exact ⟨e1, e7, e8, e9⟩ | with_reducible exact HX1.out | exact HX2.out _ _ _ _ _))
  clear hK K
  (try simp only [Act.put, List.setIfInBounds_toArray, List.set_cons_zero, List.set_cons_succ])
  refine wpAnyH_done (by kernel_rfl) ?_ _
  go_wp2
  have hk5 := HK2.out.five (.pointer (some ⟨p.r, 0, none⟩)) (.int .u64 (P.M.txn : Int)) (.int .i64 P.root) (.pointer (some ⟨f'.r, 0, none⟩)) (.map (some m'))
  have t : Turned w1 (((((w1.setCell ⟨w.heap.size, 0, none⟩ (.pointer (some ⟨p.r, 0, none⟩))).setCell ⟨w.heap.size, 1, none⟩ (.int .u64 (P.M.txn : Int))).setCell ⟨w.heap.size, 2, none⟩ (.int .i64 P.root)).setCell ⟨w.heap.size, 3, none⟩ (.pointer (some ⟨f'.r, 0, none⟩))).setCell ⟨w.heap.size, 4, none⟩ (.map (some m'))) (fun j => j = w.heap.size) :=
    (((((Turned.refl w1 (fun j => j = w.heap.size)).setCell (fun _ => rfl) _).setCell (fun _ => rfl) _).setCell (fun _ => rfl) _).setCell (fun _ => rfl) _).setCell (fun _ => rfl) _
  generalize (((((w1.setCell ⟨w.heap.size, 0, none⟩ (.pointer (some ⟨p.r, 0, none⟩))).setCell ⟨w.heap.size, 1, none⟩ (.int .u64 (P.M.txn : Int))).setCell ⟨w.heap.size, 2, none⟩ (.int .i64 P.root)).setCell ⟨w.heap.size, 3, none⟩ (.pointer (some ⟨f'.r, 0, none⟩))).setCell ⟨w.heap.size, 4, none⟩ (.map (some m'))) = X at hk5 t ⊢
  have v0 : X.cell? ⟨w.heap.size, 0, none⟩ = some (.pointer (some ⟨p.r, 0, none⟩)) := hk5.cell 0
  have v1 : X.cell? ⟨w.heap.size, 1, none⟩ = some (.int .u64 (P.M.txn : Int)) := hk5.cell 1
  have v2 : X.cell? ⟨w.heap.size, 2, none⟩ = some (.int .i64 P.root) := hk5.cell 2
  have v3 : X.cell? ⟨w.heap.size, 3, none⟩ = some (.pointer (some ⟨f'.r, 0, none⟩)) := hk5.cell 3
  have v4 : X.cell? ⟨w.heap.size, 4, none⟩ = some (.map (some m')) := hk5.cell 4
  have hsz : w.heap.size ≤ W0.heap.size := HB.out.size
  have hk0 : w.heap.size < W0.heap.size := HK0.out.lt
  have hA : TrA w w1 f' m' p.V P.L P.add := ⟨h1.out.lst, h1.out.adm, fun j hj => Nat.le_trans hsz (h1.out.fn j hj), Nat.le_trans hsz h1.out.mn, HB.out.trans ((below_from_drew h1.out.below).mono hsz)⟩
  refine bodyPost_ret (v := .agg #[.pointer (some ⟨p.r, 0, none⟩), .int .u64 (P.M.txn : Int), .int .i64 P.root, .pointer (some ⟨f'.r, 0, none⟩), .map (some m')]) (by simp [results, Tryz.results20, go_sem, v0, v1, v2, v3, v4]) rfl ⟨f', m', rfl, kept (hA.turned t (fun j hj e => ?_) (fun g hg e => ?_) (fun j e => by omega))⟩
  · rcases hj with hj | hj
    · have h3 : W0.heap.size ≤ j := h1.out.fn j hj
      omega
    · have h3 : W0.heap.size ≤ m' := h1.out.mn
      omega
  · exact absurd (hg.uniq (e ▸ HK2.out.cl)) (by decide)
/-- The transaction is another one. -/
theorem Pgr.swap {w w1 : World} {p : Pgl} {P : PSt} {S : St} (h : Pgr w p P S) {f' : Fl} {m' : Nat} {V' : Int → Option Value} {L' : FSt} {add' : Adds} (k : TrA w w1 f' m' V' L' add') (root' : Int) (hok : PSt.ok { P with root := root', L := L', add := add' } S.pages.length) :
    PLeft w (((w1.setCell ⟨p.r, 7, none⟩ (.int .i64 root')).setCell ⟨p.r, 8, none⟩ (.pointer (some ⟨f'.r, 0, none⟩))).setCell ⟨p.r, 9, none⟩ (.map (some m'))) p { P with root := root', L := L', add := add' } S := by
  have t : Turned w1 (((w1.setCell ⟨p.r, 7, none⟩ (.int .i64 root')).setCell ⟨p.r, 8, none⟩ (.pointer (some ⟨f'.r, 0, none⟩))).setCell ⟨p.r, 9, none⟩ (.map (some m'))) (fun j => j = p.r) :=
    (((Turned.refl w1 (fun j => j = p.r)).setCell (fun _ => rfl) _).setCell (fun _ => rfl) _).setCell (fun _ => rfl) _
  have h1 := h.below k.below
  have hr := h.blk.lt
  have fr : ¬ f'.own p.r := fun hj => by have := k.fn _ hj; omega
  have mr : m' ≠ p.r := by have := k.mn; omega
  refine ⟨{ p with f := f', m := m', V := V' }, rfl, rfl, ⟨hok, ?_, h1.dsk.turned t fun i hi e => h1.d_own hi (.inl e), h1.chn.turned t fun g hg e => h1.c_r (e ▸ hg), k.lst.turned t fun g hg e => fr (e ▸ hg), ⟨k.adm.1.keep (t.block _ k.adm.1.lt mr), k.adm.2.turned t fun g hg e => ?_⟩, fun g hg hf => ?_, ?_⟩, (Turned.of_below k.below _).trans (t.mono fun j _ e => .inl (.inl e)), fun j hj => ?_⟩
  · have := ((h1.blk.set_ 7 (.int .i64 root')).set_ 8 (.pointer (some ⟨f'.r, 0, none⟩))).set_ 9 (.map (some m'))
    exact this
  · exact absurd (hg.uniq (e ▸ h1.blk.cl)) (by decide)
  · have := k.fn g hf
    have := h.chn.lt hg
    omega
  · intro e
    have h2 := h.dsk.lt p.d.m (.inr (.inr rfl))
    have h3 := k.mn
    have h4 : m' = p.d.m := e
    omega
  · rcases hj with hj | hj | hj | hj
    · exact .inl (.inl hj)
    · exact .inl (.inr (.inl hj))
    · exact .inr (k.fn j hj)
    · exact .inr (hj ▸ k.mn)
theorem eq_pgr (a : Addr) (W : World) : (binOp .eql 27 (.pointer (some a)) (.pointer (some a))).run Tryz.prog W = .ok (.bool true) W := by
  obtain ⟨j, hj⟩ : ∃ j, Tryz.prog.info? 89 = some j := by
    have : (Tryz.prog.info? 89).isSome = true := by kernel_rfl
    exact Option.isSome_iff_exists.1 this
  exact run_eql_ptr_same W a (show Tryz.prog.underlying 27 = some (.pointer 89) by kernel_rfl) hj
set_option maxRecDepth 100000 in
set_option maxHeartbeats 2000000 in
theorem back_any {w : World} {p : Pgl} {P : PSt} {S : St} (h : Pgr w p P S) (root' : Int) (f0 : Fl) (m0 : Nat) (V0 : Int → Option Value) (L0 : FSt) (add0 : Adds) (hl : Lst w f0 L0) (hm : AdM w m0 V0 add0) (hok : PSt.ok { P with root := root', L := L0, add := add0 } S.pages.length) :
    Calls Tryz.prog 22 #[.pointer (some ⟨p.r, 0, none⟩), .agg #[.pointer (some ⟨p.r, 0, none⟩), .int .u64 (P.M.txn : Int), .int .i64 root', .pointer (some ⟨f0.r, 0, none⟩), .map (some m0)]] w fun e w' => e = .returned (.tuple #[]) ∧ Hid (PLeft w w' p { P with root := root', L := L0, add := add0 } S) := by
  have HB0 := fun o => kept ((Below.refl _ w).alloc (Nat.le_refl _) o)
  have H := kept h
  have HAP := kept (fun (W : World) (hb : Below w.heap.size w W) => apart_any_t root' f0 L0 m0 V0 add0 W (hl.below hb) ⟨hm.1.keep (hb.block _ hm.1.lt), hm.2.below hb⟩)
  have HOK := kept hok
  clear h hl hm hok
  go_enter Tryz.func22, Tryz.ntmps22
  go_wp2
  have HK0 := kept (Blk.new w 52 #[.pointer (some ⟨p.r, 0, none⟩), .int .u64 (P.M.txn : Int), .int .i64 root', .pointer (some ⟨f0.r, 0, none⟩), .map (some m0)])
  have HB := kept ((Below.refl _ w).alloc (Nat.le_refl _) (.cells #[.pointer (some ⟨p.r, 0, none⟩), .int .u64 (P.M.txn : Int), .int .i64 root', .pointer (some ⟨f0.r, 0, none⟩), .map (some m0)] 52))
  generalize w.alloc (.cells #[.pointer (some ⟨p.r, 0, none⟩), .int .u64 (P.M.txn : Int), .int .i64 root', .pointer (some ⟨f0.r, 0, none⟩), .map (some m0)] 52) = W0 at HK0 HB ⊢
  have H0 := kept (H.out.below HB.out)
  have HA := kept (palive_any (w := W0.drew) (H0.out.drewN 1))
  have e1 : W0.cell? ⟨p.r, 1, none⟩ = some (.int .u64 (P.M.txn : Int)) := H0.out.c 1
  have s0 : W0.cell? ⟨w.heap.size, 0, none⟩ = some (.pointer (some ⟨p.r, 0, none⟩)) := HK0.out.cell 0
  have s1 : W0.cell? ⟨w.heap.size, 1, none⟩ = some (.int .u64 (P.M.txn : Int)) := HK0.out.cell 1
  have z1 : W0.drew.cell? ⟨p.r, 1, none⟩ = some (.int .u64 (P.M.txn : Int)) := e1
  have z2 : W0.drew.cell? ⟨w.heap.size, 0, none⟩ = some (.pointer (some ⟨p.r, 0, none⟩)) := s0
  have z3 : W0.drew.cell? ⟨w.heap.size, 1, none⟩ = some (.int .u64 (P.M.txn : Int)) := s1
  have hpe := eq_pgr (⟨p.r, 0, none⟩ : Addr)
  refine wp_region_held_drew (S := (fun W' => W'.cell? ⟨p.r, 1, none⟩ = some (.int .u64 (P.M.txn : Int)) ∧ W'.cell? ⟨w.heap.size, 0, none⟩ = some (.pointer (some ⟨p.r, 0, none⟩)) ∧ W'.cell? ⟨w.heap.size, 1, none⟩ = some (.int .u64 (P.M.txn : Int)))) (by kernel_rfl) ?_ (fun hHeld => ?_)
  · ((try dsimp only); (with_reducible exact ⟨z1, z2, z3⟩))
  refine hand_take 0 (some 4) ?_ (by kernel_rfl) (by kernel_rfl) (by kernel_rfl) (by kernel_rfl) (by kernel_rfl) (fun _ _ _ h => h) ?_ (by assumption) ?_
  rotate_left
  · (intro o ho w hSw; (simp only [List.getElem?_toArray, List.getElem?_cons_succ, List.getElem?_cons_zero, Option.some.injEq] at ho); subst ho; (try dsimp only at hSw); go_simp; (first | done | with_reducible rfl))
  (try simp only [Act.put, List.setIfInBounds_toArray, List.set_cons_zero, List.set_cons_succ])
  refine hand_ready 1 (by kernel_rfl) (by kernel_rfl) (fun o ho K hK => ?_)
  (simp only [List.getElem?_toArray, List.getElem?_cons_succ, List.getElem?_cons_zero, Option.some.injEq] at ho)
  subst ho
  go_simp
  ((go_at_call 37; (with_reducible refine HA.out.mono ?_); rintro e w1 ⟨rfl, rfl⟩))
  (try go_wp2_with fail)
  refine hK.out _ _ ?_ (fun hHeld => ?_)
  · ((try dsimp only); (with_reducible exact ⟨z1, z2, z3⟩))
  clear hK K
  (try simp only [Act.put, List.setIfInBounds_toArray, List.set_cons_zero, List.set_cons_succ])
  refine hand_take 2 (some 6) ?_ (by kernel_rfl) (by kernel_rfl) (by kernel_rfl) (by kernel_rfl) (by kernel_rfl) (fun _ _ _ h => h) ?_ (by assumption) ?_
  rotate_left
  · (intro o ho w hSw; (simp only [List.getElem?_toArray, List.getElem?_cons_succ, List.getElem?_cons_zero, Option.some.injEq] at ho); subst ho; (try dsimp only at hSw); go_simp; (first | done | with_reducible rfl))
  (try simp only [Act.put, List.setIfInBounds_toArray, List.set_cons_zero, List.set_cons_succ])
  refine hand_take 3 (some 7) ?_ (by kernel_rfl) (by kernel_rfl) (by kernel_rfl) (by kernel_rfl) (by kernel_rfl) (fun _ _ _ h => h) ?_ (by assumption) ?_
  rotate_left
  · (intro o ho w hSw; (simp only [List.getElem?_toArray, List.getElem?_cons_succ, List.getElem?_cons_zero, Option.some.injEq] at ho); subst ho; (try dsimp only at hSw); go_simp; (first | done | with_reducible rfl))
  (try simp only [Act.put, List.setIfInBounds_toArray, List.set_cons_zero, List.set_cons_succ])
  refine hand_take 4 (some 8) ?_ (by kernel_rfl) (by kernel_rfl) (by kernel_rfl) (by kernel_rfl) (by kernel_rfl) (fun _ _ _ h => h) ?_ (by assumption) ?_
  rotate_left
  · (intro o ho w hSw; (simp only [List.getElem?_toArray, List.getElem?_cons_succ, List.getElem?_cons_zero, Option.some.injEq] at ho); subst ho; (try dsimp only at hSw); go_simp; (first | done | with_reducible rfl))
  (try simp only [Act.put, List.setIfInBounds_toArray, List.set_cons_zero, List.set_cons_succ])
  refine hand_take 5 (some 9) ?_ (by kernel_rfl) (by kernel_rfl) (by kernel_rfl) (by kernel_rfl) (by kernel_rfl) (fun _ _ _ h => h) ?_ (by assumption) ?_
  rotate_left
  · (intro o ho w hSw; (simp only [List.getElem?_toArray, List.getElem?_cons_succ, List.getElem?_cons_zero, Option.some.injEq] at ho); subst ho; (try dsimp only at hSw); go_simp; (first | done | with_reducible rfl))
  (try simp only [Act.put, List.setIfInBounds_toArray, List.set_cons_zero, List.set_cons_succ])
  refine hand_take 6 (some 10) ?_ (by kernel_rfl) (by kernel_rfl) (by kernel_rfl) (by kernel_rfl) (by kernel_rfl) (fun _ _ _ h => h) ?_ (by assumption) ?_
  rotate_left
  · (intro o ho w hSw; (simp only [List.getElem?_toArray, List.getElem?_cons_succ, List.getElem?_cons_zero, Option.some.injEq] at ho); subst ho; (try dsimp only at hSw); go_simp; (first | done | with_reducible rfl))
  (try simp only [Act.put, List.setIfInBounds_toArray, List.set_cons_zero, List.set_cons_succ])
  refine hand_take 7 (some 11) ?_ (by kernel_rfl) (by kernel_rfl) (by kernel_rfl) (by kernel_rfl) (by kernel_rfl) (fun _ _ _ h => h) ?_ (by assumption) ?_
  rotate_left
  · (intro o ho w hSw; (simp only [List.getElem?_toArray, List.getElem?_cons_succ, List.getElem?_cons_zero, Option.some.injEq] at ho); subst ho; (try dsimp only at hSw); go_simp; (first | done | with_reducible rfl))
  (try simp only [Act.put, List.setIfInBounds_toArray, List.set_cons_zero, List.set_cons_succ])
  refine hand_take 8 (some 12) ?_ (by kernel_rfl) (by kernel_rfl) (by kernel_rfl) (by kernel_rfl) (by kernel_rfl) (fun _ _ _ h => h) ?_ (by assumption) ?_
  rotate_left
  · (intro o ho w hSw; (simp only [List.getElem?_toArray, List.getElem?_cons_succ, List.getElem?_cons_zero, Option.some.injEq] at ho); subst ho; (try dsimp only at hSw); go_simp; (first | done | with_reducible rfl))
  (try simp only [Act.put, List.setIfInBounds_toArray, List.set_cons_zero, List.set_cons_succ])
  refine hand_take 9 (some 13) ?_ (by kernel_rfl) (by kernel_rfl) (by kernel_rfl) (by kernel_rfl) (by kernel_rfl) (fun _ _ _ h => h) ?_ (by assumption) ?_
  rotate_left
  · (intro o ho w hSw; (simp only [List.getElem?_toArray, List.getElem?_cons_succ, List.getElem?_cons_zero, Option.some.injEq] at ho); subst ho; (try dsimp only at hSw); go_simp; (first | done | with_reducible rfl))
  (try simp only [Act.put, List.setIfInBounds_toArray, List.set_cons_zero, List.set_cons_succ])
  refine hand_take 10 (some 14) ?_ (by kernel_rfl) (by kernel_rfl) (by kernel_rfl) (by kernel_rfl) (by kernel_rfl) (fun _ _ _ h => h) ?_ (by assumption) ?_
  rotate_left
  · (intro o ho w hSw; (simp only [List.getElem?_toArray, List.getElem?_cons_succ, List.getElem?_cons_zero, Option.some.injEq] at ho); subst ho; (try dsimp only at hSw); go_simp; (first | done | with_reducible rfl))
  (try simp only [Act.put, List.setIfInBounds_toArray, List.set_cons_zero, List.set_cons_succ])
  refine hand_take 11 (some 15) ?_ (by kernel_rfl) (by kernel_rfl) (by kernel_rfl) (by kernel_rfl) (by kernel_rfl) (fun _ _ _ h => h) ?_ (by assumption) ?_
  rotate_left
  · (intro o ho w hSw; (simp only [List.getElem?_toArray, List.getElem?_cons_succ, List.getElem?_cons_zero, Option.some.injEq] at ho); subst ho; (try dsimp only at hSw); go_simp; (first | done | with_reducible rfl))
  (try simp only [Act.put, List.setIfInBounds_toArray, List.set_cons_zero, List.set_cons_succ])
  refine hand_take 12 (some 16) ?_ (by kernel_rfl) (by kernel_rfl) (by kernel_rfl) (by kernel_rfl) (by kernel_rfl) (fun _ _ _ h => h) ?_ (by assumption) ?_
  rotate_left
  · (intro o ho w hSw; (simp only [List.getElem?_toArray, List.getElem?_cons_succ, List.getElem?_cons_zero, Option.some.injEq] at ho); subst ho; (try dsimp only at hSw); go_simp; (first | done | with_reducible rfl))
  (try simp only [Act.put, List.setIfInBounds_toArray, List.set_cons_zero, List.set_cons_succ])
  refine hand_take 13 (some 17) ?_ (by kernel_rfl) (by kernel_rfl) (by kernel_rfl) (by kernel_rfl) (by kernel_rfl) (fun _ _ _ h => h) ?_ (by assumption) ?_
  rotate_left
  · (intro o ho w hSw; (simp only [List.getElem?_toArray, List.getElem?_cons_succ, List.getElem?_cons_zero, Option.some.injEq] at ho); subst ho; (try dsimp only at hSw); go_simp; (first | done | with_reducible rfl))
  (try simp only [Act.put, List.setIfInBounds_toArray, List.set_cons_zero, List.set_cons_succ])
  refine hand_take 14 (some 18) ?_ (by kernel_rfl) (by kernel_rfl) (by kernel_rfl) (by kernel_rfl) (by kernel_rfl) (fun _ _ _ h => h) ?_ (by assumption) ?_
  rotate_left
  · (intro o ho w hSw; (simp only [List.getElem?_toArray, List.getElem?_cons_succ, List.getElem?_cons_zero, Option.some.injEq] at ho); subst ho; (try dsimp only at hSw); go_simp; (first | done | with_reducible rfl))
  (try simp only [Act.put, List.setIfInBounds_toArray, List.set_cons_zero, List.set_cons_succ])
  refine hand_take 15 (some 19) ?_ (by kernel_rfl) (by kernel_rfl) (by kernel_rfl) (by kernel_rfl) (by kernel_rfl) (fun _ _ _ h => h) ?_ (by assumption) ?_
  rotate_left
  · (intro o ho w hSw; (simp only [List.getElem?_toArray, List.getElem?_cons_succ, List.getElem?_cons_zero, Option.some.injEq] at ho); subst ho; (try dsimp only at hSw); go_simp; (first | done | with_reducible rfl))
  (try simp only [Act.put, List.setIfInBounds_toArray, List.set_cons_zero, List.set_cons_succ])
  refine hand_take 16 (some 20) ?_ (by kernel_rfl) (by kernel_rfl) (by kernel_rfl) (by kernel_rfl) (by kernel_rfl) (fun _ _ _ h => h) ?_ (by assumption) ?_
  rotate_left
  · (intro o ho w hSw; (simp only [List.getElem?_toArray, List.getElem?_cons_succ, List.getElem?_cons_zero, Option.some.injEq] at ho); subst ho; (try dsimp only at hSw); go_simp; (first | done | with_reducible rfl))
  (try simp only [Act.put, List.setIfInBounds_toArray, List.set_cons_zero, List.set_cons_succ])
  refine hand_take 17 (some 21) ?_ (by kernel_rfl) (by kernel_rfl) (by kernel_rfl) (by kernel_rfl) (by kernel_rfl) (fun _ _ _ h => h) ?_ (by assumption) ?_
  rotate_left
  · (intro o ho w hSw; (simp only [List.getElem?_toArray, List.getElem?_cons_succ, List.getElem?_cons_zero, Option.some.injEq] at ho); subst ho; (try dsimp only at hSw); go_simp; (first | done | with_reducible rfl))
  (try simp only [Act.put, List.setIfInBounds_toArray, List.set_cons_zero, List.set_cons_succ])
  refine hand_take 18 (some 22) ?_ (by kernel_rfl) (by kernel_rfl) (by kernel_rfl) (by kernel_rfl) (by kernel_rfl) (fun _ _ _ h => h) ?_ (by assumption) ?_
  rotate_left
  · (intro o ho w hSw; (simp only [List.getElem?_toArray, List.getElem?_cons_succ, List.getElem?_cons_zero, Option.some.injEq] at ho); subst ho; (try dsimp only at hSw); go_simp; (first | done | with_reducible rfl))
  (try simp only [Act.put, List.setIfInBounds_toArray, List.set_cons_zero, List.set_cons_succ])
  refine wpAnyH_done (by kernel_rfl) ?_ _
  have b2 : W0.drew.cell? ⟨w.heap.size, 2, none⟩ = some (.int .i64 root') := HK0.out.cell 2
  have b3 : W0.drew.cell? ⟨w.heap.size, 3, none⟩ = some (.pointer (some ⟨f0.r, 0, none⟩)) := HK0.out.cell 3
  have b4 : W0.drew.cell? ⟨w.heap.size, 4, none⟩ = some (.map (some m0)) := HK0.out.cell 4
  go_wp2_with (first | (go_at_call 56; (with_reducible refine (HAP.out _ HB.out.drew).mono ?_); rintro e w1 ⟨f', m', rfl, h1⟩; have hp1 := H0.out.below (below_from_drew h1.out.below); have q7 : w1.cell? ⟨p.r, 7, none⟩ = some (.int .i64 P.root) := hp1.c 7; have q8 : w1.cell? ⟨p.r, 8, none⟩ = some (.pointer (some ⟨p.f.r, 0, none⟩)) := hp1.c 8; have q9 : w1.cell? ⟨p.r, 9, none⟩ = some (.map (some p.m)) := hp1.c 9; have u7 := hp1.blk.frozen 7; have u8 := hp1.blk.frozen 8; have u9 := hp1.blk.frozen 9; clear hp1))
  have HP0 := kept (H.out.below HB.out)
  have hsw := (HP0.out.swap (w1 := w1) ⟨h1.out.lst, h1.out.adm, fun j hj => h1.out.fn j hj, h1.out.mn, below_from_drew h1.out.below⟩ root' HOK.out).before HB.out
  go_end0
  exact ⟨rfl, kept hsw⟩
end Go.Proofs.YtdjcahhofonclaaGreatDoor
end
