/-
  Texts laid together: Qo Qp Qt Qq Qr.
-/
import Derived.Test.YtdjcahhofonclaaGreatDoorBQh
section
/-
  package pager: store.
-/
namespace Go.Proofs.YtdjcahhofonclaaGreatDoor
open Go.ChangeShapes Go.WideShapes Go.ChangeAt Go.RowKit
set_option linter.unusedVariables false
set_option linter.unusedSimpArgs false

def storeS (S : St) (l : List Sheet) (top : Sheet) : St × Int := if (putS S l).2 = 0 then putS (putS S l).1 [top] else putS S l
theorem Left.t {w w' : World} {d : Dk} {S : St} (h : Left w d S w') : Turned w w' d.own := h.2
theorem putS_done : ∀ (l : List Sheet) (S : St), (putS S l).1.done ≤ S.done + l.length + 1
  | [], S => by
    show S.trySync.done ≤ S.done + 0 + 1
    unfold St.trySync
    split
    · omega
    · exact Nat.le_refl _
  | x :: r, S => by
    unfold putS
    split
    · have h1 := putS_done r (S.tryWrite x.1 x.2)
      have h2 := try_done S x.1 x.2
      simp only [List.length_cons]
      omega
    · simp only [List.length_cons]; omega
set_option maxRecDepth 100000 in
set_option maxHeartbeats 2000000 in
theorem store_any {w : World} {p : Pgl} {P : PSt} {S : St} (h : Pgr w p P S) (A : Option Addr) (n c : Nat) (l : List Sheet) (i : Int) (B : Option Addr) (cB : Nat) (xs : List UInt8) (hs : RdSh w A n l) (hB : OwB w B 256 cB xs) (hn : n ≤ 5000) (hd : S.done ≤ 800000) :
    Calls Tryz.prog 41 #[.pointer (some ⟨p.r, 0, none⟩), .slice A n c, .agg #[.int .i64 i, .slice B 256 cB]] w fun e w' => e = .returned (.int .i64 (storeS S l (i, xs)).2) ∧ Hid (Left w p.d (storeS S l (i, xs)).1 w') := by
  have H := kept h
  have HB0 := kept ((Below.refl _ w).alloc (Nat.le_refl _) (.cells #[.int .i64 i, .slice B 256 cB] 94))
  have HP0 := h.below HB0.out
  have e0 : (w.alloc (.cells #[.int .i64 i, .slice B 256 cB] 94)).cell? ⟨p.r, 0, none⟩ = some (.pointer (some ⟨p.d.r, 0, none⟩)) := HP0.c 0
  have HPUT := kept (put_any p.d S A n c l _ HP0.dsk (hs.below HB0.out) hn (by omega))
  have HOB := kept (hB.below HB0.out)
  have HK0 := kept (Blk.new w 94 #[.int .i64 i, .slice B 256 cB])
  have HD0 := kept HP0.dsk
  have HX0 := kept HP0.blk
  have hds := putS_done l S
  have hl : l.length = n := hs.1
  have HSE : Hid (storeS S l (i, xs) = if (putS S l).2 = 0 then putS (putS S l).1 [(i, xs)] else putS S l) := rfl
  rw [HSE.out]
  clear HSE
  obtain ⟨R, hR⟩ : ∃ R, putS S l = R := ⟨_, rfl⟩
  rw [hR] at HPUT hds ⊢
  obtain ⟨S1, er⟩ := R
  simp only at HPUT hds ⊢
  clear h hs hB hR HP0
  by_cases he : er = 0
  · subst he
    rw [if_pos rfl]
    have HP2 := fun (W : World) (A2 : Option Addr) (h1 : Dsk W p.d S1) (h2 : RdSh W A2 1 [(i, xs)]) => kept (put_any p.d S1 A2 1 1 [(i, xs)] W h1 h2 (by omega) (by omega))
    obtain ⟨R2, hR2⟩ : ∃ R, putS S1 [(i, xs)] = R := ⟨_, rfl⟩
    rw [hR2] at HP2 ⊢
    obtain ⟨S2, er2⟩ := R2
    simp only at HP2 ⊢
    clear hR2
    go_enter Tryz.func41, Tryz.ntmps41
    go_wp2_with fail
    with_reducible refine HPUT.out.mono ?_
    rintro e w1 ⟨rfl, h1⟩
    have hk1 := h1.out.2.blk HK0.out (fun hj => HD0.out.own_cl HK0.out.cl (by decide) (by decide) hj)
    have hx1 := h1.out.2.blk HX0.out (fun hj => HD0.out.own_cl HX0.out.cl (by decide) (by decide) hj)
    have HO1 := kept (HOB.out.turned h1.out.2 (fun g hg hj => HD0.out.own_cl (HOB.out.cl hg) (by decide) (by decide) hj))
    have a0 : w1.drew.cell? ⟨p.r, 0, none⟩ = some (.pointer (some ⟨p.d.r, 0, none⟩)) := hx1.cell 0
    have b0 : w1.drew.cell? ⟨w.heap.size, 0, none⟩ = some (.int .i64 i) := hk1.cell 0
    have b1 : w1.drew.cell? ⟨w.heap.size, 1, none⟩ = some (.slice B 256 cB) := hk1.cell 1
    have hlp : p.r < w1.drew.heap.size := hx1.lt
    have hlk : w.heap.size < w1.drew.heap.size := hk1.lt
    have HK1 := kept (fun (o : Obj) => (show Blk (w1.alloc o).drew w.heap.size 94 [.int .i64 i, .slice B 256 cB] from hk1.alloc o))
    have HX1 := kept (fun (o : Obj) => (show Blk (w1.alloc o).drew p.r 89 (pgCells p P) from hx1.alloc o))
    have HR1 : Hid (RdSh (w1.alloc (.cells #[.int .i64 i, .slice B 256 cB] 94)).drew (some ⟨w1.heap.size, 0, none⟩) 1 [(i, xs)]) := kept ((RdSh.one w1 i B cB xs HO1.out).below (Below.refl _ _).drew)
    have HDK : Hid (∀ o : Obj, Dsk (w1.alloc o).drew p.d S1) := kept (fun o => h1.out.1.below (below_ad w1 o))
    have HZ : Hid (∀ (o : Obj) (W : World), Turned (w1.alloc o).drew W p.d.own → W.cell? ⟨p.r, 0, none⟩ = some (.pointer (some ⟨p.d.r, 0, none⟩)) ∧ W.cell? ⟨w.heap.size, 0, none⟩ = some (.int .i64 i) ∧ W.cell? ⟨w.heap.size, 1, none⟩ = some (.slice B 256 cB)) := kept (fun o W t => by
      have hk2 := t.blk (HK1.out o) (fun hj => (HDK.out o).own_cl (HK1.out o).cl (by decide) (by decide) hj)
      have hx2 := t.blk (HX1.out o) (fun hj => (HDK.out o).own_cl (HX1.out o).cl (by decide) (by decide) hj)
      exact ⟨hx2.cell 0, hk2.cell 0, hk2.cell 1⟩)
    clear hk1 hx1
    go_wp2
    refine wp_region_held_drew (S := (fun W' => W'.cell? ⟨p.r, 0, none⟩ = some (.pointer (some ⟨p.d.r, 0, none⟩)) ∧ W'.cell? ⟨w.heap.size, 0, none⟩ = some (.int .i64 i) ∧ W'.cell? ⟨w.heap.size, 1, none⟩ = some (.slice B 256 cB))) (by kernel_rfl) ?_ (fun hHeld => ?_)
    · ((try dsimp only); (first | with_reducible exact ⟨a0, b0, b1⟩ | with_reducible exact HZ.out _ _ (Turned.refl _ _) | with_reducible exact HZ.out _ _ (Left.t h2.out)))
    refine hand_take 0 (some 17) ?_ (by kernel_rfl) (by kernel_rfl) (by kernel_rfl) (by kernel_rfl) (by kernel_rfl) (fun _ _ _ h => h) ?_ (by assumption) ?_
    rotate_left
    · (intro o ho w hSw; (simp only [List.getElem?_toArray, List.getElem?_cons_succ, List.getElem?_cons_zero, Option.some.injEq] at ho); subst ho; (try dsimp only at hSw); go_simp; (first | done | with_reducible rfl))
    (try simp only [Act.put, List.setIfInBounds_toArray, List.set_cons_zero, List.set_cons_succ])
    refine hand_take 1 (some 18) ?_ (by kernel_rfl) (by kernel_rfl) (by kernel_rfl) (by kernel_rfl) (by kernel_rfl) (fun _ _ _ h => h) ?_ (by assumption) ?_
    rotate_left
    · (intro o ho w hSw; (simp only [List.getElem?_toArray, List.getElem?_cons_succ, List.getElem?_cons_zero, Option.some.injEq] at ho); subst ho; (try dsimp only at hSw); go_simp; (first | done | with_reducible rfl))
    (try simp only [Act.put, List.setIfInBounds_toArray, List.set_cons_zero, List.set_cons_succ])
    refine hand_take 2 (some 19) ?_ (by kernel_rfl) (by kernel_rfl) (by kernel_rfl) (by kernel_rfl) (by kernel_rfl) (fun _ _ _ h => h) ?_ (by assumption) ?_
    rotate_left
    · (intro o ho w hSw; (simp only [List.getElem?_toArray, List.getElem?_cons_succ, List.getElem?_cons_zero, Option.some.injEq] at ho); subst ho; (try dsimp only at hSw); go_simp; (first | done | with_reducible rfl))
    (try simp only [Act.put, List.setIfInBounds_toArray, List.set_cons_zero, List.set_cons_succ])
    refine hand_take 3 (some 20) ?_ (by kernel_rfl) (by kernel_rfl) (by kernel_rfl) (by kernel_rfl) (by kernel_rfl) (fun _ _ _ h => h) ?_ (by assumption) ?_
    rotate_left
    · (intro o ho w hSw; (simp only [List.getElem?_toArray, List.getElem?_cons_succ, List.getElem?_cons_zero, Option.some.injEq] at ho); subst ho; (try dsimp only at hSw); go_simp; (first | done | with_reducible rfl))
    (try simp only [Act.put, List.setIfInBounds_toArray, List.set_cons_zero, List.set_cons_succ])
    refine hand_take 4 (some 21) ?_ (by kernel_rfl) (by kernel_rfl) (by kernel_rfl) (by kernel_rfl) (by kernel_rfl) (fun _ _ _ h => h) ?_ (by assumption) ?_
    rotate_left
    · (intro o ho w hSw; (simp only [List.getElem?_toArray, List.getElem?_cons_succ, List.getElem?_cons_zero, Option.some.injEq] at ho); subst ho; (try dsimp only at hSw); go_simp; (first | done | with_reducible rfl))
    (try simp only [Act.put, List.setIfInBounds_toArray, List.set_cons_zero, List.set_cons_succ])
    refine hand_ready 5 (by kernel_rfl) (by kernel_rfl) (fun o ho K hK => ?_)
    (simp only [List.getElem?_toArray, List.getElem?_cons_succ, List.getElem?_cons_zero, Option.some.injEq] at ho)
    subst ho
    go_simp
    refine hK.out _ _ ?_ (fun hHeld => ?_)
    · ((try dsimp only); (first | with_reducible exact ⟨a0, b0, b1⟩ | with_reducible exact HZ.out _ _ (Turned.refl _ _) | with_reducible exact HZ.out _ _ (Left.t h2.out)))
    clear hK K
    (try simp only [Act.put, List.setIfInBounds_toArray, List.set_cons_zero, List.set_cons_succ])
    refine hand_ready 6 (by kernel_rfl) (by kernel_rfl) (fun o ho K hK => ?_)
    (simp only [List.getElem?_toArray, List.getElem?_cons_succ, List.getElem?_cons_zero, Option.some.injEq] at ho)
    subst ho
    go_simp
    ((go_at_call 62; (with_reducible refine (HP2 _ _ (HDK.out _) HR1.out).out.mono ?_); rintro e w2 ⟨rfl, h2⟩))
    (try go_wp2_with fail)
    refine hK.out _ _ ?_ (fun hHeld => ?_)
    · ((try dsimp only); (first | with_reducible exact ⟨a0, b0, b1⟩ | with_reducible exact HZ.out _ _ (Turned.refl _ _) | with_reducible exact HZ.out _ _ (Left.t h2.out)))
    clear hK K
    (try simp only [Act.put, List.setIfInBounds_toArray, List.set_cons_zero, List.set_cons_succ])
    refine hand_take 7 (some 6) ?_ (by kernel_rfl) (by kernel_rfl) (by kernel_rfl) (by kernel_rfl) (by kernel_rfl) (fun _ _ _ h => h) ?_ (by assumption) ?_
    rotate_left
    · (intro o ho w hSw; (simp only [List.getElem?_toArray, List.getElem?_cons_succ, List.getElem?_cons_zero, Option.some.injEq] at ho); subst ho; (try dsimp only at hSw); go_simp; (first | done | with_reducible rfl))
    (try simp only [Act.put, List.setIfInBounds_toArray, List.set_cons_zero, List.set_cons_succ])
    refine wpAnyH_done (by kernel_rfl) ?_ _
    go_wp2
    go_ret
    exact ⟨rfl, kept ⟨h2.out.1, ((Turned.of_below HB0.out _).trans h1.out.2).trans ((Turned.of_below (below_ad w1 _) _).trans h2.out.2)⟩⟩
  · rw [if_neg he]
    have hb : (er != 0) = true := by simpa using he
    clear he hds
    go_enter Tryz.func41, Tryz.ntmps41
    go_wp2_with (first | (go_at_call 62; (with_reducible refine (HPUT.out).mono ?_); rintro e w1 ⟨rfl, h1⟩))
    go_ret
    exact ⟨rfl, kept ⟨h1.out.1, (Turned.of_below HB0.out _).trans h1.out.2⟩⟩
end Go.Proofs.YtdjcahhofonclaaGreatDoor
end

section
/-
  package pager: begin; what a settled list is.
-/
namespace Go.Proofs.YtdjcahhofonclaaGreatDoor
open Go.ChangeShapes Go.WideShapes Go.ChangeAt Go.RowKit
set_option linter.unusedVariables false
set_option linter.unusedSimpArgs false

set_option maxRecDepth 100000 in
set_option maxHeartbeats 2000000 in
theorem begin_any {w : World} (r fr : Nat) (v0 v1 v2 v3 v4 v5 v6 v7 v8 v9 : Value) (h : Blk w r 89 [v0, v1, v2, v3, v4, v5, v6, v7, v8, v9]) (m : Mt) (A : Option Addr) (n c : Nat) :
    Calls Tryz.prog 45 #[.pointer (some ⟨r, 0, none⟩), m.val, .slice A n c, .pointer (some ⟨fr, 0, none⟩)] w fun e w' => e = .returned (.tuple #[]) ∧
      Hid (∃ mb, w.heap.size ≤ mb ∧ Blk w' r 89 [v0, .int .u64 (m.txn : Int), .int .i64 m.root, .int .i64 m.spare, .int .i64 m.size, .slice A n c, v6, .int .i64 m.root, .pointer (some ⟨fr, 0, none⟩), .map (some mb)] ∧ Mv w' mb 1022 (fun _ => none) ∧ Turned w w' (fun j => j = r)) := by
  have hlt := h.lt
  have hmm := @run_makeMap Tryz.prog
  obtain ⟨t, rt, sp, z⟩ := m
  have hne : r ≠ w.heap.size := by omega
  have hne2 : r ≠ w.heap.size + 1 := by omega
  have H := kept h
  have c1 : w.cell? ⟨r, 1, none⟩ = some v1 := h.cell 1
  have z1 := h.frozen 1
  have c2 : w.cell? ⟨r, 2, none⟩ = some v2 := h.cell 2
  have z2 := h.frozen 2
  have c3 : w.cell? ⟨r, 3, none⟩ = some v3 := h.cell 3
  have z3 := h.frozen 3
  have c4 : w.cell? ⟨r, 4, none⟩ = some v4 := h.cell 4
  have z4 := h.frozen 4
  have c5 : w.cell? ⟨r, 5, none⟩ = some v5 := h.cell 5
  have z5 := h.frozen 5
  have c7 : w.cell? ⟨r, 7, none⟩ = some v7 := h.cell 7
  have z7 := h.frozen 7
  have c8 : w.cell? ⟨r, 8, none⟩ = some v8 := h.cell 8
  have z8 := h.frozen 8
  have c9 : w.cell? ⟨r, 9, none⟩ = some v9 := h.cell 9
  have z9 := h.frozen 9
  clear h
  go_enter Tryz.func45, Tryz.ntmps45
  go_wp2
  have hb := (((((((H.out.set_ 1 (.int .u64 (t : Int))).set_ 2 (.int .i64 rt)).set_ 3 (.int .i64 sp)).set_ 4 (.int .i64 z)).set_ 5 (.slice A n c)).set_ 7 (.int .i64 rt)).set_ 8 (.pointer (some ⟨fr, 0, none⟩))).set_ 9 (.map (some (w.heap.size + 1)))
  simp only [List.set_cons_zero, List.set_cons_succ] at hb
  have ht : Turned w ((((((((w.setCell ⟨r, 1, none⟩ (.int .u64 (t : Int))).setCell ⟨r, 2, none⟩ (.int .i64 rt)).setCell ⟨r, 3, none⟩ (.int .i64 sp)).setCell ⟨r, 4, none⟩ (.int .i64 z)).setCell ⟨r, 5, none⟩ (.slice A n c)).setCell ⟨r, 7, none⟩ (.int .i64 rt)).setCell ⟨r, 8, none⟩ (.pointer (some ⟨fr, 0, none⟩))).setCell ⟨r, 9, none⟩ (.map (some (w.heap.size + 1)))) (fun j => j = r) := ((((((((Turned.refl w (fun j => j = r)).setCell (fun _ => rfl) (.int .u64 (t : Int))).setCell (fun _ => rfl) (.int .i64 rt)).setCell (fun _ => rfl) (.int .i64 sp)).setCell (fun _ => rfl) (.int .i64 z)).setCell (fun _ => rfl) (.slice A n c)).setCell (fun _ => rfl) (.int .i64 rt)).setCell (fun _ => rfl) (.pointer (some ⟨fr, 0, none⟩))).setCell (fun _ => rfl) (.map (some (w.heap.size + 1)))
  have hs : ((((((((w.setCell ⟨r, 1, none⟩ (.int .u64 (t : Int))).setCell ⟨r, 2, none⟩ (.int .i64 rt)).setCell ⟨r, 3, none⟩ (.int .i64 sp)).setCell ⟨r, 4, none⟩ (.int .i64 z)).setCell ⟨r, 5, none⟩ (.slice A n c)).setCell ⟨r, 7, none⟩ (.int .i64 rt)).setCell ⟨r, 8, none⟩ (.pointer (some ⟨fr, 0, none⟩))).setCell ⟨r, 9, none⟩ (.map (some (w.heap.size + 1)))).heap.size = w.heap.size := by simp [World.setCell]
  generalize ((((((((w.setCell ⟨r, 1, none⟩ (.int .u64 (t : Int))).setCell ⟨r, 2, none⟩ (.int .i64 rt)).setCell ⟨r, 3, none⟩ (.int .i64 sp)).setCell ⟨r, 4, none⟩ (.int .i64 z)).setCell ⟨r, 5, none⟩ (.slice A n c)).setCell ⟨r, 7, none⟩ (.int .i64 rt)).setCell ⟨r, 8, none⟩ (.pointer (some ⟨fr, 0, none⟩))).setCell ⟨r, 9, none⟩ (.map (some (w.heap.size + 1)))) = X at hb ht hs ⊢
  go_end0
  refine ⟨rfl, kept ⟨w.heap.size + 1, by omega, (hb.alloc _).alloc _, ?_, (ht.alloc _).alloc _⟩⟩
  have hm := (Mv.made (X.alloc (.cells #[.int .u64 (t : Int), .int .i64 rt, .int .i64 sp, .int .i64 z] 87))).mono (k' := 1022) (by omega)
  rw [World.size_alloc, hs] at hm
  exact hm

/-! ### what a settled list is -/
theorem give_in {s : FSt} {x : Int} (hx : 2 ≤ x ∧ x < s.z) (hH : s.H = []) : s.give x = { s with S := addI x s.S } := by
  unfold FSt.give FSt.may
  rw [if_pos hx, hH]
  by_cases h : x ∈ s.S
  · simp only [h, true_or, if_true]
    rw [if_neg (by decide)]
    unfold addI
    rw [if_pos h]
    cases s; simp at hH; simp [hH]
  · simp [h]
theorem giveAll_is (s : FSt) (hH : s.H = []) : ∀ C : List Int, (∀ x ∈ C, 2 ≤ x ∧ x < s.z) → giveAll s C = { s with S := addAll s.S C }
  | [], _ => by cases s; rfl
  | x :: r, h => by
    have h1 := give_in (h x (List.mem_cons_self ..)) hH
    show giveAll (s.give x) r = _
    rw [h1, giveAll_is { s with S := addI x s.S } hH r (fun y hy => h y (List.mem_cons_of_mem _ hy))]
    rfl
theorem settleL_is {P : PSt} (hc : ∀ x ∈ P.chain, 2 ≤ x ∧ x < P.L.z) : settleL P = ⟨P.L.z, addAll (addAll (P.L.S.drop (needN (P.L.S.length + P.L.H.length + P.chain.length))) P.L.H) P.chain, []⟩ := by
  unfold settleL
  exact (giveAll_is (FSt.settle { P.L with S := P.L.S.drop (needN (P.L.S.length + P.L.H.length + P.chain.length)) }) rfl P.chain hc).trans rfl
theorem mem_settleL {P : PSt} (hc : ∀ x ∈ P.chain, 2 ≤ x ∧ x < P.L.z) (x : Int) : x ∈ (settleL P).S ↔ x ∈ P.L.S.drop (needN (P.L.S.length + P.L.H.length + P.chain.length)) ∨ x ∈ P.L.H ∨ x ∈ P.chain := by
  rw [settleL_is hc]
  show x ∈ addAll _ _ ↔ _
  rw [mem_addAll, mem_addAll, or_assoc]
/-- The meta of the commit. -/
def nextM (P : PSt) : Mt := ⟨P.M.txn + 1, P.root, headN (settleC P), P.M.size⟩
/-- What a pager holds behind a commit. -/
def nextP (P : PSt) : PSt := ⟨nextM P, settleC P, P.root, settleL P, fun _ => none⟩
theorem nextP_ok {P : PSt} {z : Nat} (h : P.ok z) (hl : P.L.ok) (ht : P.M.txn + 1 < 18446744073709551616) : (nextP P).ok z := by
  have hc : ∀ x ∈ P.chain, 2 ≤ x ∧ x < P.L.z := fun x hx => by rw [h.lz]; exact h.cb x hx
  have hri : Rising P.L.S := hl.2.2.1
  have hnd : P.L.S.Nodup := hri.imp fun h => by omega
  have htk : ∀ x ∈ settleC P, x ∈ P.L.S := fun x hx => List.mem_of_mem_take hx
  have hS : ∀ x ∈ P.L.S, 2 ≤ x ∧ x < (z : Int) := fun x hx => by have := hl.2.2.2.2.1 x hx; rw [h.lz] at this; exact this
  refine ⟨?_, h.mz, ht, hnd.sublist (List.take_sublist _ _), fun x hx => hS x (htk x hx), fun x hx => ⟨fun hm => ?_, fun hm => ?_⟩, fun x hx hm => ?_, fun x bs e => by cases e⟩
  · show (settleL P).z = _
    rw [settleL_is hc]
    exact h.lz
  · rcases (mem_settleL hc x).1 hm with h1 | h1 | h1
    · have h2 : x ∈ P.L.S.take (needN (P.L.S.length + P.L.H.length + P.chain.length)) := hx
      have h3 := List.take_append_drop (needN (P.L.S.length + P.L.H.length + P.chain.length)) P.L.S
      rw [← h3, List.nodup_append] at hnd
      exact hnd.2.2 x h2 x h1 rfl
    · exact h.sh x (htk x hx) h1
    · exact (h.cs x h1).1 (htk x hx)
  · have : x ∈ (settleL P).H := hm
    rw [settleL_is hc] at this
    cases this
  · have : x ∈ (settleL P).H := hm
    rw [settleL_is hc] at this
    cases this
end Go.Proofs.YtdjcahhofonclaaGreatDoor
end

section
/-
  package pager: Open.
-/
namespace Go.Proofs.YtdjcahhofonclaaGreatDoor
open Go.ChangeShapes Go.WideShapes Go.ChangeAt Go.RowKit
set_option linter.unusedVariables false
set_option linter.unusedSimpArgs false

/-- What Open answers, and the pager that it makes. -/
def openE (S : St) : Int :=
  if (chooseM (S.page 0) (S.page 1)).2 ≠ 0 then (chooseM (S.page 0) (S.page 1)).2
  else if (chooseM (S.page 0) (S.page 1)).1.size ≠ (S.pages.length : Int) then 4
  else if (rchain S 1100 (chooseM (S.page 0) (S.page 1)).1.spare [] []).1 ≠ 0 then (rchain S 1100 (chooseM (S.page 0) (S.page 1)).1.spare [] []).1
  else if newErr (chooseM (S.page 0) (S.page 1)).1.size ((rchain S 1100 (chooseM (S.page 0) (S.page 1)).1.spare [] []).2.1 ++ (rchain S 1100 (chooseM (S.page 0) (S.page 1)).1.spare [] []).2.2) ≠ 0 then 4 else 0
def openS (S : St) : PSt :=
  ⟨(chooseM (S.page 0) (S.page 1)).1, (rchain S 1100 (chooseM (S.page 0) (S.page 1)).1.spare [] []).2.1, (chooseM (S.page 0) (S.page 1)).1.root,
    ⟨(chooseM (S.page 0) (S.page 1)).1.size, addAll [] (rchain S 1100 (chooseM (S.page 0) (S.page 1)).1.spare [] []).2.2, []⟩, fun _ => none⟩
theorem choose_txn (xs ys : List UInt8) : (chooseM xs ys).1.txn < 18446744073709551616 := by
  have h : ∀ (zs : List UInt8) (k : Int), (standM zs k).1.txn < 18446744073709551616 := fun zs k => by
    unfold standM
    split
    · exact decM_txn zs
    · show (0 : Nat) < _; omega
  unfold chooseM
  split
  · exact h ys 1
  · split
    · exact h xs 0
    · show (0 : Nat) < _; omega
theorem openE_zero {S : St} (h : openE S = 0) : (chooseM (S.page 0) (S.page 1)).2 = 0 ∧ (chooseM (S.page 0) (S.page 1)).1.size = (S.pages.length : Int) ∧ (rchain S 1100 (chooseM (S.page 0) (S.page 1)).1.spare [] []).1 = 0 ∧
    newErr (S.pages.length : Int) ((rchain S 1100 (chooseM (S.page 0) (S.page 1)).1.spare [] []).2.1 ++ (rchain S 1100 (chooseM (S.page 0) (S.page 1)).1.spare [] []).2.2) = 0 := by
  unfold openE at h
  split at h
  · contradiction
  · rename_i h1
    split at h
    · omega
    · rename_i h2
      split at h
      · contradiction
      · rename_i h3
        split at h
        · omega
        · rename_i h4
          have h2 := Classical.not_not.1 h2
          rw [h2] at h4
          exact ⟨Classical.not_not.1 h1, h2, Classical.not_not.1 h3, Classical.not_not.1 h4⟩
theorem openS_ok {S : St} (h : openE S = 0) : (openS S).ok S.pages.length := by
  obtain ⟨h1, h2, h3, h4⟩ := openE_zero h
  obtain ⟨hz, hb, hn⟩ := newErr_zero h4
  rw [List.nodup_append] at hn
  refine ⟨h2, h2, choose_txn _ _, hn.1, fun x hx => hb x (List.mem_append_left _ hx), fun x hx => ⟨fun hm => ?_, fun hm => (by cases hm)⟩, fun x _ hm => (by cases hm), fun x bs e => (by cases e)⟩
  have hm : x ∈ addAll [] (rchain S 1100 (chooseM (S.page 0) (S.page 1)).1.spare [] []).2.2 := hm
  rcases mem_addAll.1 hm with hm | hm
  · cases hm
  · exact hn.2.2 x hx x hm rfl
/-- Ten cells of a pager that is being made. -/
abbrev zeroPager (d : Nat) : List Value := [.pointer (some ⟨d, 0, none⟩), .int .u64 0, .int .i64 0, .int .i64 0, .int .i64 0, .slice none 0 0, .bool false, .int .i64 0, .pointer none, .map none]
theorem concat2 (W : World) (g : Nat) (A B : Option Addr) (n c m d : Nat) (C I : List Int) (h0 : W.cell? ⟨g, 0, none⟩ = some (.slice A n c)) (h1 : W.cell? ⟨g, 1, none⟩ = some (.slice B m d)) (r0 : RdI W A n C) (r1 : RdI W B m I) (hl : C.length + I.length ≤ 100000) :
    Calls Tryz.prog 55 #[.slice (some ⟨g, 0, none⟩) 2 2] W fun e w' => ∃ A' c', e = .returned (.slice A' (n + m) c') ∧ Hid (Says W w' (C ++ I) A' c') := by
  have e : catI (fun k => if k = 0 then C else I) 2 = C ++ I := by simp [catI]
  have hc : C.length = n := r0.1
  have hi : I.length = m := r1.1
  have h := concat_any_i g 2 (fun k => if k = 0 then A else B) (fun k => if k = 0 then c else d) (fun k => if k = 0 then C else I) W (fun k hk => by
    rcases (show k = 0 ∨ k = 1 by omega) with rfl | rfl
    · show W.cell? ⟨g, 0, none⟩ = some (.slice A C.length c) ∧ RdI W A C.length C
      rw [hc]; exact ⟨h0, r0⟩
    · show W.cell? ⟨g, 1, none⟩ = some (.slice B I.length d) ∧ RdI W B I.length I
      rw [hi]; exact ⟨h1, r1⟩) (by omega) (by rw [e, List.length_append]; omega)
  rw [e] at h
  refine h.mono ?_
  rintro e' w' ⟨A', c', rfl, hs⟩
  rw [List.length_append, hc, hi]
  exact ⟨A', c', rfl, hs⟩
set_option maxRecDepth 100000 in
set_option maxHeartbeats 4000000 in
theorem open_ok (d : Dk) (S : St) (w : World) (h : Dsk w d S) (hf : S.fuse ≠ 0) (hF : Fours w) (hE : openE S = 0) :
    Calls Tryz.prog 18 #[.pointer (some ⟨d.r, 0, none⟩)] w fun e w' => ∃ p : Pgl, e = .returned (.tuple #[.pointer (some ⟨p.r, 0, none⟩), .int .i64 0]) ∧ Hid (p.d = d ∧ Pgr w' p (openS S) S ∧ Below w.heap.size w w' ∧ ∀ j, p.own j → w.heap.size ≤ j) := by
  have H := kept h
  obtain ⟨h1, h2, h3, h4⟩ := openE_zero hE
  have HOK := kept (openS_ok hE)
  have HNW := kept (newest_any d S w h hf hF)
  have HOS : Hid (openS S = ⟨(chooseM (S.page 0) (S.page 1)).1, (rchain S 1100 (chooseM (S.page 0) (S.page 1)).1.spare [] []).2.1, (chooseM (S.page 0) (S.page 1)).1.root, ⟨(chooseM (S.page 0) (S.page 1)).1.size, addAll [] (rchain S 1100 (chooseM (S.page 0) (S.page 1)).1.spare [] []).2.2, []⟩, fun _ => none⟩) := rfl
  generalize openS S = O at HOK HOS ⊢
  generalize chooseM (S.page 0) (S.page 1) = D at h1 h2 h3 h4 HNW HOS
  obtain ⟨⟨t, rt, sp, sz⟩, er⟩ := D
  simp only at h1 h2 h3 h4 HNW HOS
  subst h1
  have HRC := kept (fun (W : World) (hb : Below w.heap.size w W) => readChain_any d S sp W (h.below hb) hf (hF.below hb))
  generalize rchain S 1100 sp [] [] = R at h3 h4 HRC HOS
  obtain ⟨er, C, I⟩ := R
  simp only at h3 h4 HRC HOS
  subst h3
  obtain ⟨z, hz⟩ : ∃ z, S.pages.length = z := ⟨_, rfl⟩
  have HSZ := kept (fun (W : World) (hb : Below w.heap.size w W) => size_any d S W (h.below hb))
  have HZ := kept hz
  rw [hz] at h2 h4 HSZ
  subst h2
  have hnz := newErr_zero h4
  have HNZ := kept hnz
  have hz1024 : z ≤ 1024 := by have := h.1.2.1; omega
  have hlen : C.length + I.length ≤ 1022 := by
    have := nodup_short (z := z) hnz.2.2 hnz.2.1 hz1024
    rwa [List.length_append] at this
  have HN2 : Hid (newErr (z : Int) I = 0) := kept (by
    unfold newErr
    rw [if_neg (by omega), if_pos (List.all_eq_true.2 (fun x hx => by have := hnz.2.1 x (List.mem_append_right _ hx); simp [finB]; omega)), if_pos ((List.nodup_append.1 hnz.2.2).2.1)])
  have HN4 := kept h4
  clear h hf hF hE h4 hz hnz
  go_enter Tryz.func18, Tryz.ntmps18
  go_wp2_with fail
  with_reducible refine HNW.out.mono ?_
  rintro e w1 ⟨rfl, hb1⟩
  have HB1 := kept hb1
  clear hb1 HNW
  go_wp2
  have HM2 : Hid (Blk (w1.alloc (.cells #[.int .u64 (t : Int), .int .i64 rt, .int .i64 sp, .int .i64 (z : Int)] 87)) w1.heap.size 87 [.int .u64 (t : Int), .int .i64 rt, .int .i64 sp, .int .i64 (z : Int)]) := kept (Blk.new w1 87 #[.int .u64 (t : Int), .int .i64 rt, .int .i64 sp, .int .i64 (z : Int)])
  have HB2 : Hid (Below w.heap.size w (w1.alloc (.cells #[.int .u64 (t : Int), .int .i64 rt, .int .i64 sp, .int .i64 (z : Int)] 87))) := kept (HB1.out.alloc HB1.out.size _)
  generalize (w1.alloc (.cells #[.int .u64 (t : Int), .int .i64 rt, .int .i64 sp, .int .i64 (z : Int)] 87)) = W2 at HM2 HB2 ⊢
  have d3 : W2.drew.cell? ⟨w1.heap.size, 3, none⟩ = some (.int .i64 (z : Int)) := HM2.out.cell 3
  have d2 : W2.drew.cell? ⟨w1.heap.size, 2, none⟩ = some (.int .i64 sp) := HM2.out.cell 2
  have HSZ2 := kept (HSZ.out W2.drew HB2.out.drew)
  have HRC2 := kept (HRC.out W2.drew HB2.out.drew)
  clear HRC HSZ
  refine wp_region_held_drew (S := (fun W' => W'.cell? ⟨w1.heap.size, 3, none⟩ = some (.int .i64 (z : Int)))) (by kernel_rfl) ?_ (fun hHeld => ?_)
  · ((try dsimp only); (with_reducible exact d3))
  refine hand_take 0 (some 21) ?_ (by kernel_rfl) (by kernel_rfl) (by kernel_rfl) (by kernel_rfl) (by kernel_rfl) (fun _ _ _ h => h) ?_ (by assumption) ?_
  rotate_left
  · (intro o ho w hSw; (simp only [List.getElem?_toArray, List.getElem?_cons_succ, List.getElem?_cons_zero, Option.some.injEq] at ho); subst ho; (try dsimp only at hSw); go_simp; (first | done | with_reducible rfl))
  (try simp only [Act.put, List.setIfInBounds_toArray, List.set_cons_zero, List.set_cons_succ])
  refine hand_take 1 (some 22) ?_ (by kernel_rfl) (by kernel_rfl) (by kernel_rfl) (by kernel_rfl) (by kernel_rfl) (fun _ _ _ h => h) ?_ (by assumption) ?_
  rotate_left
  · (intro o ho w hSw; (simp only [List.getElem?_toArray, List.getElem?_cons_succ, List.getElem?_cons_zero, Option.some.injEq] at ho); subst ho; (try dsimp only at hSw); go_simp; (first | done | with_reducible rfl))
  (try simp only [Act.put, List.setIfInBounds_toArray, List.set_cons_zero, List.set_cons_succ])
  refine hand_take 2 (some 23) ?_ (by kernel_rfl) (by kernel_rfl) (by kernel_rfl) (by kernel_rfl) (by kernel_rfl) (fun _ _ _ h => h) ?_ (by assumption) ?_
  rotate_left
  · (intro o ho w hSw; (simp only [List.getElem?_toArray, List.getElem?_cons_succ, List.getElem?_cons_zero, Option.some.injEq] at ho); subst ho; (try dsimp only at hSw); go_simp; (first | done | with_reducible rfl))
  (try simp only [Act.put, List.setIfInBounds_toArray, List.set_cons_zero, List.set_cons_succ])
  refine hand_ready 3 (by kernel_rfl) (by kernel_rfl) (fun o ho K hK => ?_)
  (simp only [List.getElem?_toArray, List.getElem?_cons_succ, List.getElem?_cons_zero, Option.some.injEq] at ho)
  subst ho
  go_simp
  ((go_at_call 52; (with_reducible refine HSZ2.out.mono ?_); rintro e w3 ⟨rfl, rfl⟩))
  (try go_wp2_with fail)
  refine hK.out _ _ ?_ (fun hHeld => ?_)
  · ((try dsimp only); (with_reducible exact d3))
  clear hK K
  (try simp only [Act.put, List.setIfInBounds_toArray, List.set_cons_zero, List.set_cons_succ])
  refine hand_take 4 (some 25) ?_ (by kernel_rfl) (by kernel_rfl) (by kernel_rfl) (by kernel_rfl) (by kernel_rfl) (fun _ _ _ h => h) ?_ (by assumption) ?_
  rotate_left
  · (intro o ho w hSw; (simp only [List.getElem?_toArray, List.getElem?_cons_succ, List.getElem?_cons_zero, Option.some.injEq] at ho); subst ho; (try dsimp only at hSw); go_simp; (first | done | with_reducible rfl))
  (try simp only [Act.put, List.setIfInBounds_toArray, List.set_cons_zero, List.set_cons_succ])
  refine wpAnyH_done (by kernel_rfl) ?_ _
  go_wp2_with (first | (go_at_call 53; (with_reducible refine HRC2.out.mono ?_); rintro e w3 ⟨A, n, c, B, m, c', rfl, h3⟩))
  have HT := kept h3.out
  clear h3 HRC2 HSZ2
  have hn : n + m ≤ 1022 := by have h1 := HT.out.ca.1; have h2 := HT.out.ib.1; omega
  have HB3 : Hid (Below w.heap.size w w3) := kept (HB2.out.trans ((below_from_drew HT.out.below).mono HB2.out.size))
  have HM3 := kept (HM2.out.below (below_from_drew HT.out.below) HM2.out.lt)
  have d3' : w3.drew.cell? ⟨w1.heap.size, 3, none⟩ = some (.int .i64 (z : Int)) := HM3.out.cell 3
  have HMW : Hid (∀ W : World, Below w3.heap.size w3 W → W.cell? ⟨w1.heap.size, 3, none⟩ = some (.int .i64 (z : Int))) := kept (fun W hb => (HM3.out.below hb HM3.out.lt).cell 3)
  have HCC : Hid (Calls Tryz.prog 55 #[.slice (some ⟨w3.heap.size, 0, none⟩) 2 2] (w3.alloc (.cells #[.slice A n c, .slice B m c'] 23)).drew fun e w' => ∃ A' c'', e = .returned (.slice A' (n + m) c'') ∧ Hid (Says (w3.alloc (.cells #[.slice A n c, .slice B m c'] 23)).drew w' (C ++ I) A' c'')) := kept (by
    have hb := below_ad w3 (.cells #[.slice A n c, .slice B m c'] 23)
    have hk : Blk (w3.alloc (.cells #[.slice A n c, .slice B m c'] 23)).drew w3.heap.size 23 [.slice A n c, .slice B m c'] := (show Blk _ _ _ _ from Blk.new w3 23 #[.slice A n c, .slice B m c'])
    exact concat2 _ w3.heap.size A B n c m c' C I (hk.cell 0) (hk.cell 1) (HT.out.ca.below hb).reads (HT.out.ib.below hb).reads (by omega))
  refine wp_region_held_drew (S := (fun W' => W'.cell? ⟨w1.heap.size, 3, none⟩ = some (.int .i64 (z : Int)))) (by kernel_rfl) ?_ (fun hHeld => ?_)
  · ((try dsimp only); (first | with_reducible exact d3' | with_reducible exact HMW.out _ (below_ad _ _) | with_reducible exact HMW.out _ HB4.out | with_reducible exact HMW.out _ HB5.out))
  refine hand_take 0 (some 38) ?_ (by kernel_rfl) (by kernel_rfl) (by kernel_rfl) (by kernel_rfl) (by kernel_rfl) (fun _ _ _ h => h) ?_ (by assumption) ?_
  rotate_left
  · (intro o ho w hSw; (simp only [List.getElem?_toArray, List.getElem?_cons_succ, List.getElem?_cons_zero, Option.some.injEq] at ho); subst ho; (try dsimp only at hSw); go_simp; (first | done | with_reducible rfl))
  (try simp only [Act.put, List.setIfInBounds_toArray, List.set_cons_zero, List.set_cons_succ])
  refine hand_take 1 (some 39) ?_ (by kernel_rfl) (by kernel_rfl) (by kernel_rfl) (by kernel_rfl) (by kernel_rfl) (fun _ _ _ h => h) ?_ (by assumption) ?_
  rotate_left
  · (intro o ho w hSw; (simp only [List.getElem?_toArray, List.getElem?_cons_succ, List.getElem?_cons_zero, Option.some.injEq] at ho); subst ho; (try dsimp only at hSw); go_simp; (first | done | with_reducible rfl))
  (try simp only [Act.put, List.setIfInBounds_toArray, List.set_cons_zero, List.set_cons_succ])
  refine hand_take 2 (some 40) ?_ (by kernel_rfl) (by kernel_rfl) (by kernel_rfl) (by kernel_rfl) (by kernel_rfl) (fun _ _ _ h => h) ?_ (by assumption) ?_
  rotate_left
  · (intro o ho w hSw; (simp only [List.getElem?_toArray, List.getElem?_cons_succ, List.getElem?_cons_zero, Option.some.injEq] at ho); subst ho; (try dsimp only at hSw); go_simp; (first | done | with_reducible rfl))
  (try simp only [Act.put, List.setIfInBounds_toArray, List.set_cons_zero, List.set_cons_succ])
  refine hand_take 3 (some 41) ?_ (by kernel_rfl) (by kernel_rfl) (by kernel_rfl) (by kernel_rfl) (by kernel_rfl) (fun _ _ _ h => h) ?_ (by assumption) ?_
  rotate_left
  · (intro o ho w hSw; (simp only [List.getElem?_toArray, List.getElem?_cons_succ, List.getElem?_cons_zero, Option.some.injEq] at ho); subst ho; (try dsimp only at hSw); go_simp; (first | done | with_reducible rfl))
  (try simp only [Act.put, List.setIfInBounds_toArray, List.set_cons_zero, List.set_cons_succ])
  refine hand_ready 4 (by kernel_rfl) (by kernel_rfl) (fun o ho K hK => ?_)
  (simp only [List.getElem?_toArray, List.getElem?_cons_succ, List.getElem?_cons_zero, Option.some.injEq] at ho)
  subst ho
  go_simp
  refine hK.out _ _ ?_ (fun hHeld => ?_)
  · ((try dsimp only); (first | with_reducible exact d3' | with_reducible exact HMW.out _ (below_ad _ _) | with_reducible exact HMW.out _ HB4.out | with_reducible exact HMW.out _ HB5.out))
  clear hK K
  (try simp only [Act.put, List.setIfInBounds_toArray, List.set_cons_zero, List.set_cons_succ])
  refine hand_ready 5 (by kernel_rfl) (by kernel_rfl) (fun o ho K hK => ?_)
  (simp only [List.getElem?_toArray, List.getElem?_cons_succ, List.getElem?_cons_zero, Option.some.injEq] at ho)
  subst ho
  go_simp
  ((go_at_call 55; (with_reducible refine HCC.out.mono ?_); rintro e w4 ⟨A4, c4, rfl, h4⟩); have HB4 : Hid (Below w3.heap.size w3 w4) := kept ((below_ad w3 _).trans (h4.out.2.1.mono (below_ad w3 _).size)); have hl4 : (C ++ I).length = n + m := (by rw [List.length_append, HT.out.ca.1, HT.out.ib.1]); have HNG : Hid (Calls Tryz.prog 54 #[.int .i64 (z : Int), .slice A4 (n + m) c4] w4 fun e w' => ∃ f : Fl, e = .returned (.tuple #[.pointer (some ⟨f.r, 0, none⟩), .int .i64 0]) ∧ Hid (Lst w' f ⟨(z : Int), addAll [] (C ++ I), []⟩ ∧ Below w4.heap.size w4 w' ∧ ∀ j, f.own j → w4.heap.size ≤ j)) := kept (fnew_good (z : Int) A4 (n + m) c4 (C ++ I) w4 (by rw [← hl4]; exact h4.out.1.reads) (by omega) HN4.out))
  (try go_wp2_with fail)
  refine hK.out _ _ ?_ (fun hHeld => ?_)
  · ((try dsimp only); (first | with_reducible exact d3' | with_reducible exact HMW.out _ (below_ad _ _) | with_reducible exact HMW.out _ HB4.out | with_reducible exact HMW.out _ HB5.out))
  clear hK K
  (try simp only [Act.put, List.setIfInBounds_toArray, List.set_cons_zero, List.set_cons_succ])
  refine hand_ready 6 (by kernel_rfl) (by kernel_rfl) (fun o ho K hK => ?_)
  (simp only [List.getElem?_toArray, List.getElem?_cons_succ, List.getElem?_cons_zero, Option.some.injEq] at ho)
  subst ho
  go_simp
  ((go_at_call 54; (with_reducible refine HNG.out.mono ?_); rintro e w5 ⟨f5, rfl, h5⟩); have HB5 : Hid (Below w3.heap.size w3 w5) := kept (HB4.out.trans (h5.out.2.1.mono HB4.out.size)))
  (try go_wp2_with fail)
  refine hK.out _ _ ?_ (fun hHeld => ?_)
  · ((try dsimp only); (first | with_reducible exact d3' | with_reducible exact HMW.out _ (below_ad _ _) | with_reducible exact HMW.out _ HB4.out | with_reducible exact HMW.out _ HB5.out))
  clear hK K
  (try simp only [Act.put, List.setIfInBounds_toArray, List.set_cons_zero, List.set_cons_succ])
  refine hand_take 7 (some 37) ?_ (by kernel_rfl) (by kernel_rfl) (by kernel_rfl) (by kernel_rfl) (by kernel_rfl) (fun _ _ _ h => h) ?_ (by assumption) ?_
  rotate_left
  · (intro o ho w hSw; (simp only [List.getElem?_toArray, List.getElem?_cons_succ, List.getElem?_cons_zero, Option.some.injEq] at ho); subst ho; (try dsimp only at hSw); go_simp; (first | done | with_reducible rfl))
  (try simp only [Act.put, List.setIfInBounds_toArray, List.set_cons_zero, List.set_cons_succ])
  refine hand_take 8 (some 45) ?_ (by kernel_rfl) (by kernel_rfl) (by kernel_rfl) (by kernel_rfl) (by kernel_rfl) (fun _ _ _ h => h) ?_ (by assumption) ?_
  rotate_left
  · (intro o ho w hSw; (simp only [List.getElem?_toArray, List.getElem?_cons_succ, List.getElem?_cons_zero, Option.some.injEq] at ho); subst ho; (try dsimp only at hSw); go_simp; (first | done | with_reducible rfl))
  (try simp only [Act.put, List.setIfInBounds_toArray, List.set_cons_zero, List.set_cons_succ])
  refine hand_take 9 (some 46) ?_ (by kernel_rfl) (by kernel_rfl) (by kernel_rfl) (by kernel_rfl) (by kernel_rfl) (fun _ _ _ h => h) ?_ (by assumption) ?_
  rotate_left
  · (intro o ho w hSw; (simp only [List.getElem?_toArray, List.getElem?_cons_succ, List.getElem?_cons_zero, Option.some.injEq] at ho); subst ho; (try dsimp only at hSw); go_simp; (first | done | with_reducible rfl))
  (try simp only [Act.put, List.setIfInBounds_toArray, List.set_cons_zero, List.set_cons_succ])
  refine hand_take 10 (some 8) ?_ (by kernel_rfl) (by kernel_rfl) (by kernel_rfl) (by kernel_rfl) (by kernel_rfl) (fun _ _ _ h => h) ?_ (by assumption) ?_
  rotate_left
  · (intro o ho w hSw; (simp only [List.getElem?_toArray, List.getElem?_cons_succ, List.getElem?_cons_zero, Option.some.injEq] at ho); subst ho; (try dsimp only at hSw); go_simp; (first | done | with_reducible rfl))
  (try simp only [Act.put, List.setIfInBounds_toArray, List.set_cons_zero, List.set_cons_succ])
  refine hand_take 11 (some 9) ?_ (by kernel_rfl) (by kernel_rfl) (by kernel_rfl) (by kernel_rfl) (by kernel_rfl) (fun _ _ _ h => h) ?_ (by assumption) ?_
  rotate_left
  · (intro o ho w hSw; (simp only [List.getElem?_toArray, List.getElem?_cons_succ, List.getElem?_cons_zero, Option.some.injEq] at ho); subst ho; (try dsimp only at hSw); go_simp; (first | done | with_reducible rfl))
  (try simp only [Act.put, List.setIfInBounds_toArray, List.set_cons_zero, List.set_cons_succ])
  refine wpAnyH_done (by kernel_rfl) ?_ _
  have HT5 := kept (HT.out.on HB5.out)
  have HM5 := kept (HM3.out.below HB5.out HM3.out.lt)
  have d35 : w5.cell? ⟨w1.heap.size, 3, none⟩ = some (.int .i64 (z : Int)) := HM5.out.cell 3
  have HN5 := kept (fnew_good (z : Int) B m c' I w5 HT5.out.ib.reads (by omega) HN2.out)
  go_wp2_with (first | (go_at_call 54; (with_reducible refine HN5.out.mono ?_); rintro e w6 ⟨f6, rfl, h6⟩; have hm6 := HM5.out.below h6.out.2.1 HM5.out.lt; have y0 : w6.cell? ⟨w1.heap.size, 0, none⟩ = some (.int .u64 (t : Int)) := hm6.cell 0; have y1 : w6.cell? ⟨w1.heap.size, 1, none⟩ = some (.int .i64 rt) := hm6.cell 1; have y2 : w6.cell? ⟨w1.heap.size, 2, none⟩ = some (.int .i64 sp) := hm6.cell 2; have y3 : w6.cell? ⟨w1.heap.size, 3, none⟩ = some (.int .i64 (z : Int)) := hm6.cell 3; have hlt6 := hm6.lt; clear hm6))
  have HK6 := kept (Blk.new w6 89 #[.pointer (some ⟨d.r, 0, none⟩), .int .u64 0, .int .i64 0, .int .i64 0, .int .i64 0, .slice none 0 0, .bool false, .int .i64 0, .pointer none, .map none])
  have HBG := kept (begin_any w6.heap.size f6.r _ _ _ _ _ _ _ _ _ _ HK6.out ⟨t, rt, sp, (z : Int)⟩ A n c)
  go_wp2_with (first | (go_at_call 45; (with_reducible refine HBG.out.mono ?_); rintro e w7 ⟨rfl, h7⟩))
  go_ret2
  obtain ⟨mb, hmb, hbk, hmv, ht7⟩ := h7.out
  have hb6 : Below w3.heap.size w3 w6 := HB5.out.trans (h6.out.2.1.mono HB5.out.size)
  have hbw6 : Below w.heap.size w w6 := HB3.out.trans (hb6.mono HB3.out.size)
  have hbA := hbw6.alloc hbw6.size (.cells #[.pointer (some ⟨d.r, 0, none⟩), .int .u64 0, .int .i64 0, .int .i64 0, .int .i64 0, .slice none 0 0, .bool false, .int .i64 0, .pointer none, .map none] 89)
  have hTA := (HT.out.on hb6).on ((Below.refl w6.heap.size w6).alloc (Nat.le_refl _) (.cells #[.pointer (some ⟨d.r, 0, none⟩), .int .u64 0, .int .i64 0, .int .i64 0, .int .i64 0, .slice none 0 0, .bool false, .int .i64 0, .pointer none, .map none] 89))
  have hLA := h6.out.1.below ((Below.refl w6.heap.size w6).alloc (Nat.le_refl _) (.cells #[.pointer (some ⟨d.r, 0, none⟩), .int .u64 0, .int .i64 0, .int .i64 0, .int .i64 0, .slice none 0 0, .bool false, .int .i64 0, .pointer none, .map none] 89))
  have hDA := H.out.below hbA
  have hKA := HK6.out
  have hCn := HT.out.ca.1
  have hTl := HT.out.ca
  have hw36 : w3.heap.size ≤ w5.heap.size := HB5.out.size
  have hcA : ∀ g, blkOf A = some g → g < w3.heap.size := fun g hg => HT.out.ca.lt hg
  have hcN : ∀ g, blkOf A = some g → w.heap.size ≤ g := fun g hg => Nat.le_trans HB2.out.size (HT.out.an g hg)
  have hf6 := h6.out.2.2
  generalize (w6.alloc (.cells #[.pointer (some ⟨d.r, 0, none⟩), .int .u64 0, .int .i64 0, .int .i64 0, .int .i64 0, .slice none 0 0, .bool false, .int .i64 0, .pointer none, .map none] 89)) = W6 at hbA hTA hLA hDA hKA hmb ht7
  refine ⟨⟨w6.heap.size, d, A, c, f6, mb, fun _ => none⟩, rfl, kept ⟨rfl, ⟨HOK.out, ?_, hDA.turned ht7 (fun i hi e => hDA.own_cl hKA.cl (by decide) (by decide) (e ▸ hi)), ?_, ?_, ?_, fun g hg hfo => ?_, fun e => ?_⟩, ht7.only_new hbA hbA.size (fun i hi => by rw [hi]; exact hbw6.size), fun j hj => ?_⟩⟩
  · rw [HOS.out]
    show Blk w7 w6.heap.size _ [.pointer (some ⟨d.r, 0, none⟩), .int .u64 (t : Int), .int .i64 rt, .int .i64 sp, .int .i64 (z : Int), .slice A C.length c, .bool false, .int .i64 rt, .pointer (some ⟨f6.r, 0, none⟩), .map (some mb)]
    rw [hCn]
    exact hbk
  · rw [HOS.out]
    show OwI w7 A C.length c C
    rw [hCn]
    exact hTA.ca.turned ht7 (fun g hg e => absurd ((hTA.ca.cl hg).uniq (e ▸ hKA.cl)) (by decide))
  · rw [HOS.out]
    refine hLA.turned ht7 (fun j hj e => ?_)
    rcases hLA.own_cl hj with hc | hc <;> exact absurd (hc.uniq (e ▸ hKA.cl)) (by decide)
  · rw [HOS.out]
    exact ⟨hmv, AdV.empty _⟩
  · have h1 := hcA g hg
    have h2 := hf6 g hfo
    omega
  · have h1 := hDA.lt d.m (.inr (.inr rfl))
    have h2 : mb = d.m := e
    omega
  · rcases hj with hj | hj | hj | hj
    · rw [hj]; exact hbw6.size
    · exact hcN j hj
    · have h1 := hf6 j hj
      have h2 := HB3.out.size
      omega
    · have h1 := hbA.size
      have h2 : j = mb := hj
      omega
end Go.Proofs.YtdjcahhofonclaaGreatDoor
end

section
/-
  package pager: Commit.
-/
namespace Go.Proofs.YtdjcahhofonclaaGreatDoor
open Go.ChangeShapes Go.WideShapes Go.ChangeAt Go.RowKit
set_option linter.unusedVariables false
set_option linter.unusedSimpArgs false

/-- All sheets of a commit, but the meta's. -/
def commitL (P : PSt) : List Sheet := adSh P.add ++ layC (P.M.txn + 1) (settleC P) (settleL P).S
def commitR (P : PSt) (S : St) : St × Int := storeS S (commitL P) ((((P.M.txn + 1) % 2 : Nat) : Int), sealed (bodyM (nextM P)))
/-- What a commit leaves. -/
def CLeft (w w' : World) (p : Pgl) (P : PSt) (R : St × Int) : Prop := Dsk w' p.d R.1 ∧ Turned w w' p.all ∧ (R.2 = 0 → PLeft w w' p (nextP P) R.1)
theorem Beside.below_ {a w w' : World} {r : Nat} {s : FSt} {A : Option Addr} {n c : Nat} {Z : List Int} (h : Beside a w r s A n c Z) (hb : Below w.heap.size w w') : Beside a w' r s A n c Z := by
  obtain ⟨f, rfl, hl, hn, ha⟩ := h.lst
  exact ⟨h.own.below hb, h.new, ⟨f, rfl, hl.below hb, hn, ha⟩, h.below.trans (hb.mono h.below.size)⟩
theorem Beside.spare_ {a w : World} {r : Nat} {s : FSt} {A : Option Addr} {n c : Nat} {Z : List Int} (h : Beside a w r s A n c Z) : Calls Tryz.prog 44 #[.pointer (some ⟨r, 0, none⟩)] w fun e w' => ∃ A' c', e = .returned (.slice A' s.S.length c') ∧ Hid (Says w w' s.S A' c') := by
  obtain ⟨f, rfl, hl, hk⟩ := h.step
  exact spare_any f s w hl
theorem SaySh.on {a w w' : World} {A : Option Addr} {n c : Nat} {l : List Sheet} (h : SaySh a w A n c l) (hb : Below w.heap.size w w') : SaySh a w' A n c l := ⟨h.1.below hb, h.2.1.trans (hb.mono h.2.1.size), h.2.2⟩
theorem tryWrite_len (S : St) (p : Int) (xs : List UInt8) : (S.tryWrite p xs).pages.length = S.pages.length := by
  unfold St.tryWrite
  repeat' split
  all_goals rfl
theorem trySync_len (S : St) : S.trySync.pages.length = S.pages.length := by
  unfold St.trySync
  split
  · rfl
  · exact sync_len S
theorem putS_len : ∀ (l : List Sheet) (S : St), (putS S l).1.pages.length = S.pages.length
  | [], S => trySync_len S
  | x :: r, S => by
    unfold putS
    split
    · rw [putS_len r, tryWrite_len]
    · rfl
theorem storeS_len (S : St) (l : List Sheet) (t : Sheet) : (storeS S l t).1.pages.length = S.pages.length := by
  unfold storeS
  split
  · rw [putS_len, putS_len]
  · exact putS_len l S
/-- What stands while a commit lays its sheets. -/
structure Com (w : World) (b1 b3 q : Nat) (root hdn size i : Int) (A3 : Option Addr) (c3 : Nat) (xs : List UInt8) (r1 : Nat) (L : FSt) (A1 : Option Addr) (K c1 : Nat) (C : List Int) (W : World) : Prop where
  m : Blk W b1 87 [.int .u64 (q : Int), .int .i64 root, .int .i64 hdn, .int .i64 size]
  t : Blk W b3 94 [.int .i64 i, .slice A3 256 c3]
  o : OwB W A3 256 c3 xs
  l : Beside w W r1 L A1 K c1 C
section
variable {w W W' : World} {b1 b3 q : Nat} {root hdn size i : Int} {A3 : Option Addr} {c3 : Nat} {xs : List UInt8} {r1 : Nat} {L : FSt} {A1 : Option Addr} {K c1 : Nat} {C : List Int}
theorem Com.below (h : Com w b1 b3 q root hdn size i A3 c3 xs r1 L A1 K c1 C W) (hb : Below W.heap.size W W') : Com w b1 b3 q root hdn size i A3 c3 xs r1 L A1 K c1 C W' :=
  ⟨h.m.below hb h.m.lt, h.t.below hb h.t.lt, h.o.below hb, h.l.below_ hb⟩
theorem Com.s (h : Com w b1 b3 q root hdn size i A3 c3 xs r1 L A1 K c1 C W) : W.cell? ⟨b1, 0, none⟩ = some (.int .u64 (q : Int)) ∧ W.cell? ⟨b3, 0, none⟩ = some (.int .i64 i) ∧ W.cell? ⟨b3, 1, none⟩ = some (.slice A3 256 c3) := ⟨h.m.cell 0, h.t.cell 0, h.t.cell 1⟩
/-- .. and while the disk is written. -/
theorem Com.left {d : Dk} {S S' : St} (h : Com w b1 b3 q root hdn size i A3 c3 xs r1 L A1 K c1 C W) (hd : Dsk W d S) (k : Left W d S' W') : Blk W' b1 87 [.int .u64 (q : Int), .int .i64 root, .int .i64 hdn, .int .i64 size] ∧ Blk W' b3 94 [.int .i64 i, .slice A3 256 c3] ∧ OwI W' A1 K c1 C ∧ ListOf w W' r1 L A1 := by
  refine ⟨k.2.blk h.m (fun hj => hd.own_cl h.m.cl (by decide) (by decide) hj), k.2.blk h.t (fun hj => hd.own_cl h.t.cl (by decide) (by decide) hj), h.l.own.turned k.2 (fun g hg hj => hd.own_cl (h.l.own.cl hg) (by decide) (by decide) hj), ?_⟩
  obtain ⟨f, e, hl, hn, ha⟩ := h.l.lst
  refine ⟨f, e, hl.turned k.2 (fun j hj hk => ?_), hn, ha⟩
  rcases hl.own_cl hj with hc | hc <;> exact hd.own_cl hc (by decide) (by decide) hk
end
/-- The end of a commit that is done. -/
theorem com_end {w w8 w9 w10 : World} {p : Pgl} {P : PSt} {S S1 : St} {q r1 N c1 : Nat} {A1 : Option Addr} {hdn : Int} (h8 : Pgr w8 p P S) (hb : Below w.heap.size w w8) (h9 : Left w8 p.d S1 w9) (ho : OwI w9 A1 N c1 (settleC P)) (hl : ListOf w w9 r1 (settleL P) A1) (hq : P.M.txn + 1 = q) (hhd : headN (settleC P) = hdn)
    (hok : (nextP P).ok S1.pages.length) (hnew : ∀ g, blkOf A1 = some g → w.heap.size ≤ g)
    (h10 : ∃ mb, w9.heap.size ≤ mb ∧ Blk w10 p.r 89 [.pointer (some ⟨p.d.r, 0, none⟩), .int .u64 (q : Int), .int .i64 P.root, .int .i64 hdn, .int .i64 P.M.size, .slice A1 N c1, .bool false, .int .i64 P.root, .pointer (some ⟨r1, 0, none⟩), .map (some mb)] ∧ Mv w10 mb 1022 (fun _ => none) ∧ Turned w9 w10 (fun j => j = p.r)) :
    CLeft w w10 p P (S1, 0) := by
  obtain ⟨mb, hmb, hbk, hmv, ht⟩ := h10
  obtain ⟨f, rfl, hlst, hfn, hfa⟩ := hl
  have t9 : Turned w w9 p.all := (Turned.of_below hb _).trans (h9.2.mono (fun k _ hk => .inr hk))
  have t10 : Turned w w10 p.all := t9.trans (ht.mono (fun k _ e => .inl (.inl e)))
  have hx9 : Blk w9 p.r 89 (pgCells p P) := h9.2.blk h8.blk (fun hj => h8.dsk.own_cl h8.blk.cl (by decide) (by decide) hj)
  have hd10 : Dsk w10 p.d S1 := h9.1.turned ht (fun i hi e => h9.1.own_cl hx9.cl (by decide) (by decide) (e ▸ hi))
  refine ⟨hd10, t10, fun _ => ⟨{ p with Ac := A1, cc := c1, f := f, m := mb, V := fun _ => none }, rfl, rfl, ⟨hok, ?_, hd10, ?_, hlst.turned ht (fun j hj e => ?_), ⟨hmv, AdV.empty _⟩, hfa, ?_⟩, t10, fun j hj => ?_⟩⟩
  · show Blk w10 p.r _ [.pointer (some ⟨p.d.r, 0, none⟩), .int .u64 ((P.M.txn + 1 : Nat) : Int), .int .i64 P.root, .int .i64 (headN (settleC P)), .int .i64 P.M.size, .slice A1 (settleC P).length c1, .bool false, .int .i64 P.root, .pointer (some ⟨f.r, 0, none⟩), .map (some mb)]
    rw [hq, hhd, ho.1]
    exact hbk
  · show OwI w10 A1 (settleC P).length c1 (settleC P)
    rw [ho.1]
    exact ho.turned ht (fun g hg e => absurd ((ho.cl hg).uniq (e ▸ hx9.cl)) (by decide))
  · rcases hlst.own_cl hj with hc | hc <;> exact absurd (hc.uniq (e ▸ hx9.cl)) (by decide)
  · intro e
    have h1 := h9.1.lt p.d.m (.inr (.inr rfl))
    have h2 : mb = p.d.m := e
    omega
  · rcases hj with hj | hj | hj | hj
    · exact .inl (.inl hj)
    · exact .inr (hnew j hj)
    · exact .inr (hfn j hj)
    · refine .inr ?_
      have h2 : j = mb := hj
      have := t9.size
      omega
set_option maxRecDepth 100000 in
set_option maxHeartbeats 4000000 in
theorem commit_any {w : World} {p : Pgl} {P : PSt} {S : St} (h : Pgr w p P S) (hKS : needN (P.L.S.length + P.L.H.length + P.chain.length) ≤ P.L.S.length) (ht : P.M.txn + 1 < 18446744073709551616) (hr : rightM (nextM P) = true) (hd : S.done ≤ 700000) (hF : Fours w) :
    Calls Tryz.prog 13 #[.pointer (some ⟨p.r, 0, none⟩)] w fun e w' => e = .returned (.int .i64 (commitR P S).2) ∧ Hid (CLeft w w' p P (commitR P S)) := by
  have H := kept h
  have HA := kept (palive_any h)
  obtain ⟨N, hNN⟩ : ∃ N, needN (P.L.S.length + P.L.H.length + P.chain.length) = N := ⟨_, rfl⟩
  have HST := kept (settle_ok h N hNN (by omega))
  obtain ⟨q, hq⟩ : ∃ q : Nat, P.M.txn + 1 = q := ⟨_, rfl⟩
  have hwq : IntKind.u64.wrap ((P.M.txn : Int) + 1) = (q : Int) := by rw [IntKind.wrap_u64]; omega
  have HP := kept (fun (W : World) (hb : Below w.heap.size w W) => h.below hb)
  have hlt := h.blk.lt
  have hKb : N ≤ 1022 := by have := h.lst.1.short.1; omega
  obtain ⟨hdn, hhd⟩ : ∃ x, headN (settleC P) = x := ⟨_, rfl⟩
  have HM : Hid (nextM P = ⟨q, P.root, hdn, P.M.size⟩) := kept (by unfold nextM; rw [hq, hhd])
  have HLM := kept (fun (W : World) (hb : Below w.heap.size w W) => layMeta_any (nextM P) 0 (by rw [hr]; rfl) W (by show P.M.txn + 1 < _; exact ht) (hF.below hb))
  rw [HM.out] at HLM
  have HFI := kept (fun (W : World) (A : Option Addr) (c : Nat) (hr : RdI W A N (settleC P)) => first_any A N c (settleC P) W hr)
  rw [hhd] at HFI
  have HF := kept hF
  have HHD := kept hhd
  have HQ := kept hq
  have HTX := kept ht
  have HDN := kept hd
  have hcz : ∀ x ∈ P.chain, 2 ≤ x ∧ x < P.L.z := fun x hx => by rw [h.ok.lz]; exact h.ok.cb x hx
  have hz1024 : (S.pages.length : Int) ≤ 1024 := by have := h.dsk.1.2.1; omega
  have HNO := kept (nextP_ok h.ok h.lst.1 ht)
  have hLS : (settleL P).ok := by
    rw [settleL_is hcz]
    have hl := h.lst.1
    refine ⟨hl.1, hl.2.1, Rising.addAll (Rising.addAll (List.Pairwise.sublist (List.drop_sublist _ _) hl.2.2.1) _) _, Rising.nil_, fun x hx => ?_, fun x hx => by cases hx⟩
    rcases mem_addAll.1 hx with hx | hx
    · rcases mem_addAll.1 hx with hx | hx
      · exact hl.2.2.2.2.1 x (List.mem_of_mem_drop hx)
      · exact hl.2.2.2.2.2 x hx
    · exact hcz x hx
  have hLz : (settleL P).z ≤ 1024 := hLS.2.1
  have HCP : Hid (Rising (settleL P).S ∧ (∀ x ∈ (settleL P).S, isPg x = true) ∧ (∀ x ∈ settleC P, isPg x = true) ∧ (settleL P).S.length ≤ 2000) := kept ⟨hLS.2.2.1, fun x hx => by have := hLS.2.2.2.2.1 x hx; simp [isPg]; omega, fun x hx => by have h1 := h.lst.1.2.2.2.2.1 x (List.mem_of_mem_take hx); have h2 := h.lst.1.2.1; simp [isPg]; omega, by have := hLS.short.1; omega⟩
  have HCR : Hid (commitR P S = storeS S (adSh P.add ++ layC q (settleC P) (settleL P).S) ((q : Int) % 2, sealed (bodyM ⟨q, P.root, hdn, P.M.size⟩))) := kept (by
    have e : (((q % 2 : Nat) : Int)) = (q : Int) % 2 := by omega
    unfold commitR commitL
    rw [HM.out, hq, e])
  have HLN := kept (storeS_len S (adSh P.add ++ layC q (settleC P) (settleL P).S) ((q : Int) % 2, sealed (bodyM ⟨q, P.root, hdn, P.M.size⟩)))
  have htq : q < 18446744073709551616 := by omega
  rw [HCR.out]
  obtain ⟨R, hR⟩ : ∃ R, storeS S (adSh P.add ++ layC q (settleC P) (settleL P).S) ((q : Int) % 2, sealed (bodyM ⟨q, P.root, hdn, P.M.size⟩)) = R := ⟨_, rfl⟩
  have HR := kept hR
  rw [hR] at HLN ⊢
  obtain ⟨S1, er⟩ := R
  have HSTO := kept (fun (W : World) (A8 : Option Addr) (n8 c8 : Nat) (A3 : Option Addr) (c3 : Nat) (hb : Below w.heap.size w W) (h8 : RdSh W A8 n8 (adSh P.add ++ layC q (settleC P) (settleL P).S)) (h3 : OwB W A3 256 c3 (sealed (bodyM ⟨q, P.root, hdn, P.M.size⟩))) (hn : n8 ≤ 5000) => store_any (HP.out W hb) A8 n8 c8 _ ((q : Int) % 2) A3 c3 _ h8 h3 hn (by have := HDN.out; omega))
  rw [hR] at HSTO
  have HLAY := kept (fun (W : World) (A1 A6 : Option Addr) (c1 c6 : Nat) (hb : Below w.heap.size w W) (o1 : OwI W A1 N c1 (settleC P)) (o6 : OwI W A6 (settleL P).S.length c6 (settleL P).S) => layChain_any q N c1 (settleL P).S.length c6 A1 A6 (settleC P) (settleL P).S W o1.reads o6.reads (by omega) HCP.out.2.2.2 o1.cap o6.cap htq HCP.out.1 HCP.out.2.1 HCP.out.2.2.1 (hF.below hb))
  clear h hKS hr hd hF hhd hq hNN hcz hz1024 hLS hLz hR
  go_enter Tryz.func13, Tryz.ntmps13
  go_wp2_with fail
  with_reducible refine HA.out.mono ?_
  rintro e w0 ⟨rfl, rfl⟩
  go_wp2_with fail
  with_reducible refine HST.out.mono ?_
  rintro e w1 ⟨A1, c1, r1, rfl, h1⟩
  have HP1 := kept (HP.out w1 h1.out.below)
  have x1 : w1.drew.cell? ⟨p.r, 1, none⟩ = some (.int .u64 (P.M.txn : Int)) := HP1.out.c 1
  have x4 : w1.drew.cell? ⟨p.r, 4, none⟩ = some (.int .i64 P.M.size) := HP1.out.c 4
  have x7 : w1.drew.cell? ⟨p.r, 7, none⟩ = some (.int .i64 P.root) := HP1.out.c 7
  have HXA : Hid (∀ o : Obj, (w1.alloc o).drew.cell? ⟨p.r, 1, none⟩ = some (.int .u64 (P.M.txn : Int)) ∧ (w1.alloc o).drew.cell? ⟨p.r, 4, none⟩ = some (.int .i64 P.M.size) ∧ (w1.alloc o).drew.cell? ⟨p.r, 7, none⟩ = some (.int .i64 P.root)) := kept (fun o => ⟨(HP1.out.below (below_ad w1 o)).c 1, (HP1.out.below (below_ad w1 o)).c 4, (HP1.out.below (below_ad w1 o)).c 7⟩)
  have HF1 : Hid (∀ W : World, Below w1.heap.size w1 W → Calls Tryz.prog 39 #[.slice A1 N c1] W fun e w' => e = .returned (.int .i64 hdn) ∧ W = w') := kept (fun W hb => HFI.out W A1 c1 (h1.out.own.below hb).reads)
  clear HA HST HFI
  go_wp2
  go_region_held3 (fun W' => W'.cell? ⟨p.r, 1, none⟩ = some (.int .u64 (P.M.txn : Int)) ∧ W'.cell? ⟨p.r, 4, none⟩ = some (.int .i64 P.M.size) ∧ W'.cell? ⟨p.r, 7, none⟩ = some (.int .i64 P.root)) ((first | with_reducible exact ⟨x1, x4, x7⟩ | with_reducible exact HXA.out _)) (first | (go_at_call 39; (with_reducible refine (HF1.out _ (Below.refl _ _).drew).mono ?_); rintro e w2 ⟨rfl, rfl⟩) | (go_at_call 39; (with_reducible refine (HF1.out _ (below_ad _ _)).mono ?_); rintro e w2 ⟨rfl, rfl⟩) | (go_at_call 39; (with_reducible refine (HF1.out _ (below_da _ _)).mono ?_); rintro e w2 ⟨rfl, rfl⟩))
  all_goals
    have HB2 : Hid (Below w1.heap.size w1 (w1.alloc (.cells #[.int .u64 (q : Int), .int .i64 P.root, .int .i64 hdn, .int .i64 P.M.size] 87)).drew) := kept (below_ad w1 _)
    have HK2 : Hid (Blk (w1.alloc (.cells #[.int .u64 (q : Int), .int .i64 P.root, .int .i64 hdn, .int .i64 P.M.size] 87)).drew w1.heap.size 87 [.int .u64 (q : Int), .int .i64 P.root, .int .i64 hdn, .int .i64 P.M.size]) := kept (show Blk _ _ _ _ from Blk.new w1 87 #[.int .u64 (q : Int), .int .i64 P.root, .int .i64 hdn, .int .i64 P.M.size])
    generalize (w1.alloc (.cells #[.int .u64 (q : Int), .int .i64 P.root, .int .i64 hdn, .int .i64 P.M.size] 87)).drew = W2 at HB2 HK2 ⊢
    have m0 : W2.cell? ⟨w1.heap.size, 0, none⟩ = some (.int .u64 (q : Int)) := HK2.out.cell 0
    have m1 : W2.cell? ⟨w1.heap.size, 1, none⟩ = some (.int .i64 P.root) := HK2.out.cell 1
    have m2 : W2.cell? ⟨w1.heap.size, 2, none⟩ = some (.int .i64 hdn) := HK2.out.cell 2
    have m3 : W2.cell? ⟨w1.heap.size, 3, none⟩ = some (.int .i64 P.M.size) := HK2.out.cell 3
    have hb02 : Below w.heap.size w W2 := h1.out.below.trans (HB2.out.mono h1.out.below.size)
    have HL2 := kept (HLM.out W2 hb02)
    clear hb02
    go_wp2_with (first | (go_at_call 40; (with_reducible refine HL2.out.mono ?_); rintro e w3 ⟨A3, n3, c3, rfl, h3, hb3⟩; have HH3 := h3.out trivial; obtain ⟨rfl, ho3, hg3⟩ := HH3; have HO3 := kept ho3; have HB3 := kept hb3; clear h3 ho3 hg3 hb3))
    have HC4 : Hid (Com w w1.heap.size w3.heap.size q P.root hdn P.M.size ((q : Int) % 2) A3 c3 (sealed (bodyM ⟨q, P.root, hdn, P.M.size⟩)) r1 (settleL P) A1 N c1 (settleC P) (w3.alloc (.cells #[.int .i64 ((q : Int) % 2), .slice A3 256 c3] 94))) := kept (by
      have hb := (Below.refl w3.heap.size w3).alloc (Nat.le_refl _) (.cells #[.int .i64 ((q : Int) % 2), .slice A3 256 c3] 94)
      have hm3 := HK2.out.below HB3.out HK2.out.lt
      exact ⟨hm3.alloc _, Blk.new w3 94 #[.int .i64 ((q : Int) % 2), .slice A3 256 c3], HO3.out.below hb, (((h1.out.below_ HB2.out).below_ HB3.out).below_ hb)⟩)
    generalize (w3.alloc (.cells #[.int .i64 ((q : Int) % 2), .slice A3 256 c3] 94)) = W4 at HC4 ⊢
    clear HL2 HO3 HB3 HB2 HK2 m0 m1 m2 m3
    have HPW := kept (HP.out W4 HC4.out.l.below)
    have HLA := kept (layAdded_any (w := W4.drew) (HPW.out.drewN 1))
    refine wp_region_held_drew (S := (fun W' => W'.cell? ⟨w1.heap.size, 0, none⟩ = some (.int .u64 (q : Int)) ∧ W'.cell? ⟨w3.heap.size, 0, none⟩ = some (.int .i64 ((q : Int) % 2)) ∧ W'.cell? ⟨w3.heap.size, 1, none⟩ = some (.slice A3 256 c3))) (by kernel_rfl) ?_ (fun hHeld => ?_)
    · ((try dsimp only); (first | with_reducible exact (HC4.out.below (Below.refl _ _).drew).s | with_reducible exact (HC4.out.below HB5.out).s | with_reducible exact (HC4.out.below HB6.out).s | with_reducible exact (HC4.out.below HB7.out).s | with_reducible exact (HC4.out.below HB8.out).s | with_reducible exact HS9.out))
    refine hand_take 0 (some 51) ?_ (by kernel_rfl) (by kernel_rfl) (by kernel_rfl) (by kernel_rfl) (by kernel_rfl) (fun _ _ _ h => h) ?_ (by assumption) ?_
    rotate_left
    · (intro o ho w hSw; (simp only [List.getElem?_toArray, List.getElem?_cons_succ, List.getElem?_cons_zero, Option.some.injEq] at ho); subst ho; (try dsimp only at hSw); go_simp; (first | done | with_reducible rfl))
    (try simp only [Act.put, List.setIfInBounds_toArray, List.set_cons_zero, List.set_cons_succ])
    refine hand_take 1 (some 52) ?_ (by kernel_rfl) (by kernel_rfl) (by kernel_rfl) (by kernel_rfl) (by kernel_rfl) (fun _ _ _ h => h) ?_ (by assumption) ?_
    rotate_left
    · (intro o ho w hSw; (simp only [List.getElem?_toArray, List.getElem?_cons_succ, List.getElem?_cons_zero, Option.some.injEq] at ho); subst ho; (try dsimp only at hSw); go_simp; (first | done | with_reducible rfl))
    (try simp only [Act.put, List.setIfInBounds_toArray, List.set_cons_zero, List.set_cons_succ])
    refine hand_take 3 (some 54) ?_ (by kernel_rfl) (by kernel_rfl) (by kernel_rfl) (by kernel_rfl) (by kernel_rfl) (fun _ _ _ h => h) ?_ (by assumption) ?_
    rotate_left
    · (intro o ho w hSw; (simp only [List.getElem?_toArray, List.getElem?_cons_succ, List.getElem?_cons_zero, Option.some.injEq] at ho); subst ho; (try dsimp only at hSw); go_simp; (first | done | with_reducible rfl))
    (try simp only [Act.put, List.setIfInBounds_toArray, List.set_cons_zero, List.set_cons_succ])
    refine hand_take 4 (some 55) ?_ (by kernel_rfl) (by kernel_rfl) (by kernel_rfl) (by kernel_rfl) (by kernel_rfl) (fun _ _ _ h => h) ?_ (by assumption) ?_
    rotate_left
    · (intro o ho w hSw; (simp only [List.getElem?_toArray, List.getElem?_cons_succ, List.getElem?_cons_zero, Option.some.injEq] at ho); subst ho; (try dsimp only at hSw); go_simp; (first | done | with_reducible rfl))
    (try simp only [Act.put, List.setIfInBounds_toArray, List.set_cons_zero, List.set_cons_succ])
    refine hand_take 5 (some 56) ?_ (by kernel_rfl) (by kernel_rfl) (by kernel_rfl) (by kernel_rfl) (by kernel_rfl) (fun _ _ _ h => h) ?_ (by assumption) ?_
    rotate_left
    · (intro o ho w hSw; (simp only [List.getElem?_toArray, List.getElem?_cons_succ, List.getElem?_cons_zero, Option.some.injEq] at ho); subst ho; (try dsimp only at hSw); go_simp; (first | done | with_reducible rfl))
    (try simp only [Act.put, List.setIfInBounds_toArray, List.set_cons_zero, List.set_cons_succ])
    refine hand_take 6 (some 57) ?_ (by kernel_rfl) (by kernel_rfl) (by kernel_rfl) (by kernel_rfl) (by kernel_rfl) (fun _ _ _ h => h) ?_ (by assumption) ?_
    rotate_left
    · (intro o ho w hSw; (simp only [List.getElem?_toArray, List.getElem?_cons_succ, List.getElem?_cons_zero, Option.some.injEq] at ho); subst ho; (try dsimp only at hSw); go_simp; (first | done | with_reducible rfl))
    (try simp only [Act.put, List.setIfInBounds_toArray, List.set_cons_zero, List.set_cons_succ])
    refine hand_take 10 (some 61) ?_ (by kernel_rfl) (by kernel_rfl) (by kernel_rfl) (by kernel_rfl) (by kernel_rfl) (fun _ _ _ h => h) ?_ (by assumption) ?_
    rotate_left
    · (intro o ho w hSw; (simp only [List.getElem?_toArray, List.getElem?_cons_succ, List.getElem?_cons_zero, Option.some.injEq] at ho); subst ho; (try dsimp only at hSw); go_simp; (first | done | with_reducible rfl))
    (try simp only [Act.put, List.setIfInBounds_toArray, List.set_cons_zero, List.set_cons_succ])
    refine hand_ready 2 (by kernel_rfl) (by kernel_rfl) (fun o ho K hK => ?_)
    (simp only [List.getElem?_toArray, List.getElem?_cons_succ, List.getElem?_cons_zero, Option.some.injEq] at ho)
    subst ho
    go_simp
    ((go_at_call 42; (with_reducible refine HLA.out.mono ?_); rintro e w5 ⟨A5, n5, c5, rfl, hn5, h5⟩); have HB5 : Hid (Below W4.heap.size W4 w5) := kept (below_from_drew h5.out.2.1); have HSP := kept (HC4.out.below HB5.out).l.spare_)
    (try go_wp2_with fail)
    refine hK.out _ _ ?_ (fun hHeld => ?_)
    · ((try dsimp only); (first | with_reducible exact (HC4.out.below (Below.refl _ _).drew).s | with_reducible exact (HC4.out.below HB5.out).s | with_reducible exact (HC4.out.below HB6.out).s | with_reducible exact (HC4.out.below HB7.out).s | with_reducible exact (HC4.out.below HB8.out).s | with_reducible exact HS9.out))
    clear hK K
    (try simp only [Act.put, List.setIfInBounds_toArray, List.set_cons_zero, List.set_cons_succ])
    refine hand_ready 7 (by kernel_rfl) (by kernel_rfl) (fun o ho K hK => ?_)
    (simp only [List.getElem?_toArray, List.getElem?_cons_succ, List.getElem?_cons_zero, Option.some.injEq] at ho)
    subst ho
    go_simp
    ((go_at_call 44; (with_reducible refine HSP.out.mono ?_); rintro e w6 ⟨A6, c6, rfl, h6⟩); have HB6 : Hid (Below W4.heap.size W4 w6) := kept (HB5.out.trans (h6.out.2.1.mono HB5.out.size)); have HLC := kept (HLAY.out w6 A1 A6 c1 c6 (HC4.out.below HB6.out).l.below (HC4.out.below HB6.out).l.own h6.out.1))
    (try go_wp2_with fail)
    refine hK.out _ _ ?_ (fun hHeld => ?_)
    · ((try dsimp only); (first | with_reducible exact (HC4.out.below (Below.refl _ _).drew).s | with_reducible exact (HC4.out.below HB5.out).s | with_reducible exact (HC4.out.below HB6.out).s | with_reducible exact (HC4.out.below HB7.out).s | with_reducible exact (HC4.out.below HB8.out).s | with_reducible exact HS9.out))
    clear hK K
    (try simp only [Act.put, List.setIfInBounds_toArray, List.set_cons_zero, List.set_cons_succ])
    refine hand_ready 8 (by kernel_rfl) (by kernel_rfl) (fun o ho K hK => ?_)
    (simp only [List.getElem?_toArray, List.getElem?_cons_succ, List.getElem?_cons_zero, Option.some.injEq] at ho)
    subst ho
    go_simp
    ((go_at_call 43; (with_reducible refine HLC.out.mono ?_); rintro e w7 ⟨A7, c7, rfl, h7⟩); have HB7 : Hid (Below W4.heap.size W4 w7) := kept (HB6.out.trans (h7.out.2.1.mono HB6.out.size)); have H57 := kept ((h5.out.on h6.out.2.1).on h7.out.2.1))
    (try go_wp2_with fail)
    refine hK.out _ _ ?_ (fun hHeld => ?_)
    · ((try dsimp only); (first | with_reducible exact (HC4.out.below (Below.refl _ _).drew).s | with_reducible exact (HC4.out.below HB5.out).s | with_reducible exact (HC4.out.below HB6.out).s | with_reducible exact (HC4.out.below HB7.out).s | with_reducible exact (HC4.out.below HB8.out).s | with_reducible exact HS9.out))
    clear hK K
    (try simp only [Act.put, List.setIfInBounds_toArray, List.set_cons_zero, List.set_cons_succ])
    refine hand_ready 9 (by kernel_rfl) (by kernel_rfl) (fun o ho K hK => ?_)
    (simp only [List.getElem?_toArray, List.getElem?_cons_succ, List.getElem?_cons_zero, Option.some.injEq] at ho)
    subst ho
    (refine wp_append_sh (.tmp 53) (.tmp 59) rfl rfl rfl H57.out.1 h7.out.1.reads (by omega) ?_; intro A8 c8 w8 h8 t8 g8; have H8 := kept (H57.out.step (Below.refl _ _) h8 t8 g8); have HB8 : Hid (Below W4.heap.size W4 w8) := kept (below_from_drew H8.out.2.1); have HST8 := kept (HSTO.out w8 A8 (n5 + N) c8 A3 c3 (HC4.out.below HB8.out).l.below H8.out.1.reads (HC4.out.below HB8.out).o (by omega)); clear h8 t8 g8)
    refine hK.out _ _ ?_ (fun hHeld => ?_)
    · ((try dsimp only); (first | with_reducible exact (HC4.out.below (Below.refl _ _).drew).s | with_reducible exact (HC4.out.below HB5.out).s | with_reducible exact (HC4.out.below HB6.out).s | with_reducible exact (HC4.out.below HB7.out).s | with_reducible exact (HC4.out.below HB8.out).s | with_reducible exact HS9.out))
    clear hK K
    (try simp only [Act.put, List.setIfInBounds_toArray, List.set_cons_zero, List.set_cons_succ])
    refine hand_ready 11 (by kernel_rfl) (by kernel_rfl) (fun o ho K hK => ?_)
    (simp only [List.getElem?_toArray, List.getElem?_cons_succ, List.getElem?_cons_zero, Option.some.injEq] at ho)
    subst ho
    go_simp
    ((go_at_call 41; (with_reducible refine HST8.out.mono ?_); rintro e w9 ⟨rfl, h9⟩); have HP8 := kept (HP.out w8 (HC4.out.below HB8.out).l.below); have HC9 := kept ((HC4.out.below HB8.out).left HP8.out.dsk h9.out); have HS9 : Hid (w9.cell? ⟨w1.heap.size, 0, none⟩ = some (.int .u64 (q : Int)) ∧ w9.cell? ⟨w3.heap.size, 0, none⟩ = some (.int .i64 ((q : Int) % 2)) ∧ w9.cell? ⟨w3.heap.size, 1, none⟩ = some (.slice A3 256 c3)) := kept ⟨HC9.out.1.cell 0, HC9.out.2.1.cell 0, HC9.out.2.1.cell 1⟩)
    (try go_wp2_with fail)
    refine hK.out _ _ ?_ (fun hHeld => ?_)
    · ((try dsimp only); (first | with_reducible exact (HC4.out.below (Below.refl _ _).drew).s | with_reducible exact (HC4.out.below HB5.out).s | with_reducible exact (HC4.out.below HB6.out).s | with_reducible exact (HC4.out.below HB7.out).s | with_reducible exact (HC4.out.below HB8.out).s | with_reducible exact HS9.out))
    clear hK K
    (try simp only [Act.put, List.setIfInBounds_toArray, List.set_cons_zero, List.set_cons_succ])
    refine hand_take 12 (some 9) ?_ (by kernel_rfl) (by kernel_rfl) (by kernel_rfl) (by kernel_rfl) (by kernel_rfl) (fun _ _ _ h => h) ?_ (by assumption) ?_
    rotate_left
    · (intro o ho w hSw; (simp only [List.getElem?_toArray, List.getElem?_cons_succ, List.getElem?_cons_zero, Option.some.injEq] at ho); subst ho; (try dsimp only at hSw); go_simp; (first | done | with_reducible rfl))
    (try simp only [Act.put, List.setIfInBounds_toArray, List.set_cons_zero, List.set_cons_succ])
    refine wpAnyH_done (by kernel_rfl) ?_ _
    have HX9 : Hid (Blk w9 p.r 89 (pgCells p P)) := kept (h9.out.2.blk HP8.out.blk (fun hj => HP8.out.dsk.own_cl HP8.out.blk.cl (by decide) (by decide) hj))
    have HSC : Hid (∀ g, blkOf A1 = some g → w.heap.size ≤ g) := kept HC4.out.l.new
    have HB08 : Hid (Below w.heap.size w w8) := kept (HC4.out.below HB8.out).l.below
    have HT9 : Hid (Turned w w9 p.all) := kept ((Turned.of_below HB08.out _).trans (h9.out.2.mono (fun k _ hk => .inr hk)))
    have HD9 := kept h9.out.1
    have h6c : w9.cell? ⟨p.r, 6, none⟩ = some (.bool false) := HX9.out.cell 6
    have h6z := HX9.out.frozen 6
    by_cases he : er = 0
    · subst he
      have m0 : w9.cell? ⟨w1.heap.size, 0, none⟩ = some (.int .u64 (q : Int)) := HC9.out.1.cell 0
      have m1 : w9.cell? ⟨w1.heap.size, 1, none⟩ = some (.int .i64 P.root) := HC9.out.1.cell 1
      have m2 : w9.cell? ⟨w1.heap.size, 2, none⟩ = some (.int .i64 hdn) := HC9.out.1.cell 2
      have m3 : w9.cell? ⟨w1.heap.size, 3, none⟩ = some (.int .i64 P.M.size) := HC9.out.1.cell 3
      have HBG := kept (begin_any p.r r1 _ _ _ _ _ _ _ _ _ _ HX9.out ⟨q, P.root, hdn, P.M.size⟩ A1 N c1)
      go_wp2_with (first | (go_at_call 45; (with_reducible refine HBG.out.mono ?_); rintro e w10 ⟨rfl, h10⟩))
      go_ret
      exact ⟨rfl, kept (com_end HP8.out HB08.out h9.out HC9.out.2.2.1 HC9.out.2.2.2 HQ.out HHD.out (by rw [HLN.out]; exact HNO.out) HSC.out h10.out)⟩
    · have heb : (er != 0) = true := by simpa using he
      have HE := kept he
      clear he
      go_wp2
      go_ret
      have t6 : Turned w9 (w9.setCell ⟨p.r, 6, none⟩ (.bool true)) (fun j => j = p.r) := (Turned.refl w9 (fun j => j = p.r)).setCell (fun _ => rfl) _
      exact ⟨rfl, kept ⟨HD9.out.turned t6 (fun i hi e => HD9.out.own_cl HX9.out.cl (by decide) (by decide) (e ▸ hi)), HT9.out.trans (t6.mono fun k _ e => .inl (.inl e)), fun h0 => absurd h0 HE.out⟩⟩
end Go.Proofs.YtdjcahhofonclaaGreatDoor
end

section
/-
  package pager: Format.
-/
namespace Go.Proofs.YtdjcahhofonclaaGreatDoor
open Go.ChangeShapes Go.WideShapes Go.ChangeAt Go.RowKit
set_option linter.unusedVariables false
set_option linter.unusedSimpArgs false

theorem OwSh.two (w : World) (a b : Int) (A B : Option Addr) (c d : Nat) (xs ys : List UInt8) (hA : OwB w A 256 c xs) (hB : OwB w B 256 d ys) : OwSh (w.alloc (.cells #[.int .i64 a, .slice A 256 c, .int .i64 b, .slice B 256 d] 94)) (some ⟨w.heap.size, 0, none⟩) 2 2 [(a, xs), (b, ys)] := by
  refine ⟨[⟨a, A, c⟩, ⟨b, B, d⟩], rfl, rfl, ?_, fun k h1 h2 => ?_⟩
  · exact ⟨rfl, .inr ⟨w.heap.size, 2, _, rfl, Nat.zero_le _, heap_alloc_new w _, Nat.le_refl _, by decide, rfl, rfl⟩⟩
  · have hb := (Below.refl w.heap.size w).alloc (Nat.le_refl _) (.cells #[.int .i64 a, .slice A 256 c, .int .i64 b, .slice B 256 d] 94)
    have h1 : k < 2 := h1
    rcases (show k = 0 ∨ k = 1 by omega) with rfl | rfl
    · exact ⟨rfl, hA.below hb⟩
    · exact ⟨rfl, hB.below hb⟩
/-- All pages but the metas'. -/
def allIds (z : Nat) : List Int := (List.range (z - 2)).map fun i : Nat => ((i + 2 : Nat) : Int)
theorem allIds_length (z : Nat) : (allIds z).length = z - 2 := by simp [allIds]
theorem allIds_rising (z : Nat) : Rising (allIds z) := by
  unfold allIds
  refine List.pairwise_map.2 ?_
  exact List.pairwise_lt_range.imp fun h => by omega
theorem mem_allIds {z : Nat} {x : Int} : x ∈ allIds z ↔ 2 ≤ x ∧ x < (z : Int) := by
  unfold allIds
  rw [List.mem_map]
  constructor
  · rintro ⟨i, hi, rfl⟩
    rw [List.mem_range] at hi
    omega
  · intro h
    exact ⟨x.toNat - 2, by rw [List.mem_range]; omega, by omega⟩
theorem allIds_take (z k : Nat) (h : k < z - 2) : (allIds z).take (k + 1) = (allIds z).take k ++ [((k + 2 : Nat) : Int)] := by
  rw [List.take_succ_eq_append_getElem (by rw [allIds_length]; exact h)]
  simp [allIds]
def meta0 (z : Nat) : Mt := ⟨0, 0, 0, (z : Int)⟩
def meta1 (z : Nat) : Mt := ⟨1, 0, 2, (z : Int)⟩
def formatL (z : Nat) : List Sheet := [(0, sealed (bodyM (meta0 z))), (1, sealed (bodyM (meta1 z)))] ++ layC 1 ((allIds z).take (needN (z - 2))) ((allIds z).drop (needN (z - 2)))
theorem needN_le (n : Nat) (h : 1 ≤ n) : needN n ≤ n ∧ 1 ≤ needN n := by unfold needN; omega
theorem meta_right (z : Nat) (h1 : 8 ≤ z) (h2 : z ≤ 1024) : rightM (meta0 z) = true ∧ rightM (meta1 z) = true := by
  unfold rightM meta0 meta1 beginsB
  simp
  omega
theorem layMeta0_any (z : Nat) (h : rightM (meta0 z) = true) (W : World) (hF : Fours W) :
    Calls Tryz.prog 40 #[.agg #[.int .u64 0, .int .i64 0, .int .i64 0, .int .i64 (z : Int)]] W fun e w' => ∃ A c, e = .returned (.tuple #[.agg #[.int .i64 0, .slice A 256 c], .int .i64 0]) ∧ Hid (OwB w' A 256 c (sealed (bodyM (meta0 z)))) ∧ Below W.heap.size W w' := by
  have hl := layMeta_any (meta0 z) 0 (by rw [h]; rfl) W (by show (0 : Nat) < _; omega) hF
  refine Calls.mono hl ?_
  rintro e w' ⟨A, n, c, rfl, h2, hb⟩
  obtain ⟨rfl, ho, _⟩ := h2.out rfl
  exact ⟨A, c, rfl, kept ho, hb⟩
theorem layMeta1_any (z : Nat) (h : rightM (meta1 z) = true) (W : World) (hF : Fours W) :
    Calls Tryz.prog 40 #[.agg #[.int .u64 1, .int .i64 0, .int .i64 2, .int .i64 (z : Int)]] W fun e w' => ∃ A c, e = .returned (.tuple #[.agg #[.int .i64 1, .slice A 256 c], .int .i64 0]) ∧ Hid (OwB w' A 256 c (sealed (bodyM (meta1 z)))) ∧ Below W.heap.size W w' := by
  have hl := layMeta_any (meta1 z) 0 (by rw [h]; rfl) W (by show (1 : Nat) < _; omega) hF
  refine Calls.mono hl ?_
  rintro e w' ⟨A, n, c, rfl, h2, hb⟩
  obtain ⟨rfl, ho, _⟩ := h2.out rfl
  exact ⟨A, c, rfl, kept ho, hb⟩
theorem format_nil (w : World) : Calls Tryz.prog 28 #[.pointer none] w fun e w' => e = .returned (.int .i64 1) ∧ w = w' := by
  go_enter Tryz.func28, Tryz.ntmps28
  go_wp2
  go_ret
  exact ⟨rfl, rfl⟩
/-- Behind k rounds. -/
def FmK (w : World) (d : Dk) (S : St) (z k : Nat) (A : Option Addr) (c : Nat) (wr : World) : Prop := OwI wr A k c ((allIds z).take k) ∧ Below w.heap.size w wr ∧ ∀ g, blkOf A = some g → w.heap.size ≤ g
theorem fm_next {w wr w4 : World} {d : Dk} {S : St} {z j : Nat} {A A4 : Option Addr} {c c4 : Nat} {o : Obj} (h : FmK w d S z j A c wr) (hk : (allIds z).take (j + 1) = (allIds z).take j ++ [((j + 2 : Nat) : Int)]) (h4 : OwI w4 A4 (j + 1) c4 ((allIds z).take j ++ [(j : Int) + 2])) (t4 : Turned (wr.alloc o) w4 (fun i => blkOf A = some i)) (g4 : ∀ g, blkOf A4 = some g → blkOf A = some g ∨ (wr.alloc o).heap.size ≤ g) : FmK w d S z (j + 1) A4 c4 w4 := by
  have hb : Below w.heap.size w (wr.alloc o) := h.2.1.alloc h.2.1.size _
  refine ⟨by rw [hk]; exact h4, t4.only_new hb hb.size (fun i hi => h.2.2 i hi), fun g e => ?_⟩
  rcases g4 g e with k | k
  · exact h.2.2 g k
  · exact Nat.le_trans hb.size k
set_option maxRecDepth 100000 in
set_option maxHeartbeats 4000000 in
theorem format_any (d : Dk) (S : St) (w : World) (h : Dsk w d S) (hd : S.done ≤ 800000) (hF : Fours w) :
    Calls Tryz.prog 28 #[.pointer (some ⟨d.r, 0, none⟩)] w fun e w' => e = .returned (.int .i64 (putS S (formatL S.pages.length)).2) ∧ Hid (Left w d (putS S (formatL S.pages.length)).1 w') := by
  have H := kept h
  have HSZ := kept (size_any d S w h)
  have hz8 := h.1.1
  have hz1024 := h.1.2.1
  obtain ⟨z, hz⟩ : ∃ z, S.pages.length = z := ⟨_, rfl⟩
  rw [hz] at HSZ hz8 hz1024 ⊢
  obtain ⟨n, hn⟩ : ∃ n, z - 2 = n := ⟨_, rfl⟩
  have hzn : n + 2 = z := by omega
  obtain ⟨k, hk⟩ : ∃ k, needN n = k := ⟨_, rfl⟩
  have hkz : k ≤ n := by have := (needN_le n (by omega)).1; omega
  have HFL : Hid (formatL z = [(0, sealed (bodyM (meta0 z))), (1, sealed (bodyM (meta1 z)))] ++ layC 1 ((allIds z).take k) ((allIds z).drop k)) := kept (by unfold formatL; rw [hn, hk])
  rw [HFL.out]
  have HCN := fun W => kept (chainLength_any n W (by omega))
  rw [hk] at HCN
  have hm := meta_right z hz8 hz1024
  have HM0 := kept (fun (W : World) (hb : Below w.heap.size w W) => layMeta0_any z hm.1 W (hF.below hb))
  have HM1 := kept (fun (W : World) (hb : Below w.heap.size w W) => layMeta1_any z hm.2 W (hF.below hb))
  have HLY := kept (fun (W : World) (A B : Option Addr) (c d : Nat) (hb : Below w.heap.size w W) (r1 : RdI W A k ((allIds z).take k)) (r2 : RdI W B (n - k) ((allIds z).drop k)) (hc : k ≤ c) (hd : n - k ≤ d) => layChain_any 1 k c (n - k) d A B ((allIds z).take k) ((allIds z).drop k) W r1 r2 (by omega) (by omega) hc hd (by decide) (List.Pairwise.sublist (List.drop_sublist _ _) (allIds_rising z)) (fun x hx => by have := mem_allIds.1 (List.mem_of_mem_drop hx); simp [isPg]; omega) (fun x hx => by have := mem_allIds.1 (List.mem_of_mem_take hx); simp [isPg]; omega) (hF.below hb))
  have HPT := kept (fun (W : World) (A : Option Addr) (n c : Nat) (l : List Sheet) (hb : Below w.heap.size w W) (hs : RdSh W A n l) (hn : n ≤ 5000) => put_any d S A n c l W (H.out.below hb) hs hn (by omega))
  have H0 : Hid (FmK w d S z 0 none 0 w) := kept ⟨OwI.nil_ _, Below.refl _ _, fun g e => (by cases e)⟩
  clear h hz hk hm hF HFL hn
  go_enter Tryz.func28, Tryz.ntmps28
  go_wp2_with (first | (go_at_call 52; (with_reducible refine (HSZ.out).mono ?_); rintro e w1 ⟨rfl, rfl⟩))
  go_loopw [4, 5] (fun ps i wr => ∃ (j : Nat) (A : Option Addr) (c : Nat), j ≤ n ∧ i = .int .i64 ((j : Int) + 2) ∧ ps = .slice A j c ∧ Hid (FmK w d S z j A c wr)) (fun _ i _ => z - (intOf i).toNat)
  case atStart => exact ⟨0, none, 0, Nat.zero_le _, by simp, rfl, H0⟩
  case round =>
    obtain ⟨j, A, c, hj, rfl, rfl, HL⟩ := hrel
    clear H0
    by_cases hlt : j < n
    · have hin : (j : Int) + 2 < (z : Int) := by omega
      have hwj : IntKind.i64.wrap ((j : Int) + 2 + 1) = (j : Int) + 2 + 1 := by simp [IntKind.wrap_i64]; omega
      have HTK := kept (allIds_take z j (by omega))
      have hjm : j + 1 ≤ 1000000 := by omega
      go_wp2_with (first | (at_builtin; refine wpList_append_i rfl _ _ rfl rfl rfl (HL.out.1.alloc _) (RdI.one7 wr ((j : Int) + 2)) hjm ?_; intro A4 c4 w4 h4 t4 g4; have HE : Hid (FmK w d S z (j + 1) A4 c4 w4) := kept (fm_next HL.out HTK.out h4 t4 g4); clear h4 t4 g4))
      go_roundw
      case rel => exact ⟨j + 1, A4, c4, by omega, by simp; omega, rfl, HE⟩
      case measure => simp [intOf]; omega
    · obtain rfl : j = n := by omega
      have hcmp : ¬ ((j : Int) + 2 < (z : Int)) := by omega
      have HAL : Hid ((allIds z).take j = allIds z) := kept (List.take_of_length_le (by rw [allIds_length]; omega))
      have HLB := kept HL.out.2.1
      go_wp2_with fail
      with_reducible refine (HCN _).out.mono ?_
      rintro e w1 ⟨rfl, rfl⟩
      go_wp2_with fail
      with_reducible refine (HM0.out _ HLB.out).mono ?_
      rintro e w2 ⟨A2, c2, rfl, ho2, hb2⟩
      have HO2 := ho2
      have HB2 := kept (HL.out.2.1.trans (hb2.mono HL.out.2.1.size))
      have HB2L := kept hb2
      have HBA := kept (HB2.out.alloc HB2.out.size (.cells #[.int .i64 0, .slice A2 256 c2] 94))
      clear ho2 hb2
      go_wp2_with fail
      with_reducible refine (HM1.out _ HBA.out).mono ?_
      rintro e w3 ⟨A3, c3, rfl, ho3, hb3⟩
      have HO3 := ho3
      have HB3 := kept hb3
      clear ho3 hb3
      go_wp2
      have HZ4 : Hid (Blk (w3.alloc (.cells #[.int .i64 1, .slice A3 256 c3] 94)) w2.heap.size 94 [.int .i64 0, .slice A2 256 c2]) := kept (((Blk.new w2 94 #[.int .i64 0, .slice A2 256 c2]).below HB3.out (by simp)).alloc _)
      have HO4 : Hid (Blk (w3.alloc (.cells #[.int .i64 1, .slice A3 256 c3] 94)) w3.heap.size 94 [.int .i64 1, .slice A3 256 c3]) := kept (Blk.new w3 94 #[.int .i64 1, .slice A3 256 c3])
      have hb3 : Below w2.heap.size w2 w3 := ((Below.refl _ w2).alloc (Nat.le_refl _) _).trans (HB3.out.mono (by simp))
      have HBY : Hid (OwB (w3.alloc (.cells #[.int .i64 1, .slice A3 256 c3] 94)) A2 256 c2 (sealed (bodyM (meta0 z))) ∧ OwB (w3.alloc (.cells #[.int .i64 1, .slice A3 256 c3] 94)) A3 256 c3 (sealed (bodyM (meta1 z)))) := kept ⟨(HO2.out.below hb3).below ((Below.refl _ _).alloc (Nat.le_refl _) _), HO3.out.below ((Below.refl _ _).alloc (Nat.le_refl _) _)⟩
      have HBW4 : Hid (Below w.heap.size w (w3.alloc (.cells #[.int .i64 1, .slice A3 256 c3] 94))) := kept ((HB2.out.trans (hb3.mono HB2.out.size)).alloc (HB2.out.trans (hb3.mono HB2.out.size)).size _)
      have HPG : Hid (OwI (w3.alloc (.cells #[.int .i64 1, .slice A3 256 c3] 94)) A j c (allIds z)) := kept (by
        have h1 := HL.out.1
        rw [HAL.out] at h1
        exact ((h1.below HB2L.out).below hb3).alloc _)
      clear hb3
      generalize (w3.alloc (.cells #[.int .i64 1, .slice A3 256 c3] 94)) = W4 at HZ4 HO4 HBY HBW4 HPG ⊢
      obtain ⟨g, hA⟩ := HPG.out.head (by omega)
      subst hA
      have hjc : j ≤ c := HPG.out.cap
      have HS : Hid (∀ W, Below W4.heap.size W4 W → W.cell? ⟨w2.heap.size, 0, none⟩ = some (.int .i64 0) ∧ W.cell? ⟨w2.heap.size, 1, none⟩ = some (.slice A2 256 c2) ∧ W.cell? ⟨w3.heap.size, 0, none⟩ = some (.int .i64 1) ∧ W.cell? ⟨w3.heap.size, 1, none⟩ = some (.slice A3 256 c3)) := kept (fun W hb => ⟨(HZ4.out.below hb HZ4.out.lt).cell 0, (HZ4.out.below hb HZ4.out.lt).cell 1, (HO4.out.below hb HO4.out.lt).cell 0, (HO4.out.below hb HO4.out.lt).cell 1⟩)
      obtain ⟨P, hP⟩ : ∃ P, (if c = k then some (⟨g, 0, none⟩ : Addr) else some ⟨g, k, none⟩) = P := ⟨_, rfl⟩
      have HL4 : Hid (∀ W, Below W4.heap.size W4 W → Calls Tryz.prog 43 #[.int .u64 1, .slice (some ⟨g, 0, none⟩) k c, .slice P (j - k) (c - k)] W fun e w' => ∃ A' c', e = .returned (.slice A' k c') ∧ Hid (SaySh W w' A' k c' (layC 1 ((allIds z).take k) ((allIds z).drop k)))) := kept (fun W hb => by
        have hr := (HPG.out.below hb).reads
        have hcut := hr.cut (k := k) hkz hjc
        rw [Nat.zero_add, hP] at hcut
        exact HLY.out W _ _ c (c - k) (HBW4.out.trans (hb.mono HBW4.out.size)) (hr.take hkz) hcut (by omega) (by omega))
      have HOT : Hid (∀ W, Below W4.heap.size W4 W → OwSh (W.alloc (.cells #[.int .i64 0, .slice A2 256 c2, .int .i64 1, .slice A3 256 c3] 94)) (some ⟨W.heap.size, 0, none⟩) 2 2 [(0, sealed (bodyM (meta0 z))), (1, sealed (bodyM (meta1 z)))]) := kept (fun W hb => OwSh.two W 0 1 A2 A3 c2 c3 _ _ (HBY.out.1.below hb) (HBY.out.2.below hb))
      have HPU : Hid (∀ (W : World) (A : Option Addr) (c : Nat), Below W4.heap.size W4 W → OwSh W A (2 + k) c ([(0, sealed (bodyM (meta0 z))), (1, sealed (bodyM (meta1 z)))] ++ layC 1 ((allIds z).take k) ((allIds z).drop k)) → Calls Tryz.prog 62 #[.pointer (some ⟨d.r, 0, none⟩), .slice A (2 + k) c] W fun e w' => e = .returned (.int .i64 (putS S ([(0, sealed (bodyM (meta0 z))), (1, sealed (bodyM (meta1 z)))] ++ layC 1 ((allIds z).take k) ((allIds z).drop k))).2) ∧ Hid (Left w d (putS S ([(0, sealed (bodyM (meta0 z))), (1, sealed (bodyM (meta1 z)))] ++ layC 1 ((allIds z).take k) ((allIds z).drop k))).1 w') ∧ Hid (Turned W w' d.own)) := kept (fun W A c hb ho => by
        have hbw := HBW4.out.trans (hb.mono HBW4.out.size)
        exact (HPT.out W A (2 + k) c _ hbw ho.reads (by omega)).mono fun e w' ⟨h1, h2⟩ => ⟨h1, kept ⟨h2.out.1, (Turned.of_below hbw _).trans h2.out.2⟩, kept h2.out.2⟩)
      have HS9 : Hid (∀ W W', Below W4.heap.size W4 W → Turned W W' d.own → W'.cell? ⟨w2.heap.size, 0, none⟩ = some (.int .i64 0) ∧ W'.cell? ⟨w2.heap.size, 1, none⟩ = some (.slice A2 256 c2) ∧ W'.cell? ⟨w3.heap.size, 0, none⟩ = some (.int .i64 1) ∧ W'.cell? ⟨w3.heap.size, 1, none⟩ = some (.slice A3 256 c3)) := kept (fun W W' hb ht => by
        have hdw := H.out.below (HBW4.out.trans (hb.mono HBW4.out.size))
        have z1 := ht.blk (HZ4.out.below hb HZ4.out.lt) (fun hj => hdw.own_cl (HZ4.out.below hb HZ4.out.lt).cl (by decide) (by decide) hj)
        have o1 := ht.blk (HO4.out.below hb HO4.out.lt) (fun hj => hdw.own_cl (HO4.out.below hb HO4.out.lt).cl (by decide) (by decide) hj)
        exact ⟨z1.cell 0, z1.cell 1, o1.cell 0, o1.cell 1⟩)
      have hk0 : (0 : Int) ≤ (k : Int) := by omega
      have hk1 : (k : Int) ≤ (j : Int) := by omega
      have hk2 : (k : Int) ≤ (c : Int) := by omega
      have hk3 : (j : Int) ≤ (c : Int) := by omega
      have hkc : k ≤ c := by omega
      clear HZ4 HO4 HBY HPG HLY HPT HO2 HO3 HB2 HB3 HBA HB2L
      refine wp_region_held_drew (S := (fun W' => W'.cell? ⟨w2.heap.size, 0, none⟩ = some (.int .i64 0) ∧ W'.cell? ⟨w2.heap.size, 1, none⟩ = some (.slice A2 256 c2) ∧ W'.cell? ⟨w3.heap.size, 0, none⟩ = some (.int .i64 1) ∧ W'.cell? ⟨w3.heap.size, 1, none⟩ = some (.slice A3 256 c3))) (by kernel_rfl) ?_ (fun hHeld => ?_)
      · ((try dsimp only); (first | with_reducible exact HS.out _ (Below.refl _ _).drew | with_reducible exact HS.out _ (below_ad _ _) | with_reducible exact HS.out _ HB6.out | with_reducible exact HS.out _ (HB6.out.alloc HB6.out.size _) | with_reducible exact HS.out _ HB8.out | with_reducible exact HS9.out _ _ HB8.out h9t.out))
      refine hand_take 0 (some 39) ?_ (by kernel_rfl) (by kernel_rfl) (by kernel_rfl) (by kernel_rfl) (by kernel_rfl) (fun _ _ _ h => h) ?_ (by assumption) ?_
      rotate_left
      · (intro o ho w hSw; (simp only [List.getElem?_toArray, List.getElem?_cons_succ, List.getElem?_cons_zero, Option.some.injEq] at ho); subst ho; (try dsimp only at hSw); go_simp; (first | done | with_reducible rfl))
      (try simp only [Act.put, List.setIfInBounds_toArray, List.set_cons_zero, List.set_cons_succ])
      refine hand_take 1 (some 40) ?_ (by kernel_rfl) (by kernel_rfl) (by kernel_rfl) (by kernel_rfl) (by kernel_rfl) (fun _ _ _ h => h) ?_ (by assumption) ?_
      rotate_left
      · (intro o ho w hSw; (simp only [List.getElem?_toArray, List.getElem?_cons_succ, List.getElem?_cons_zero, Option.some.injEq] at ho); subst ho; (try dsimp only at hSw); go_simp; (first | done | with_reducible rfl))
      (try simp only [Act.put, List.setIfInBounds_toArray, List.set_cons_zero, List.set_cons_succ])
      refine hand_take 2 (some 41) ?_ (by kernel_rfl) (by kernel_rfl) (by kernel_rfl) (by kernel_rfl) (by kernel_rfl) (fun _ _ _ h => h) ?_ (by assumption) ?_
      rotate_left
      · (intro o ho w hSw; (simp only [List.getElem?_toArray, List.getElem?_cons_succ, List.getElem?_cons_zero, Option.some.injEq] at ho); subst ho; (try dsimp only at hSw); go_simp; (first | done | with_reducible rfl))
      (try simp only [Act.put, List.setIfInBounds_toArray, List.set_cons_zero, List.set_cons_succ])
      refine hand_take 4 (some 43) ?_ (by kernel_rfl) (by kernel_rfl) (by kernel_rfl) (by kernel_rfl) (by kernel_rfl) (fun _ _ _ h => h) ?_ (by assumption) ?_
      rotate_left
      · (intro o ho w hSw; (simp only [List.getElem?_toArray, List.getElem?_cons_succ, List.getElem?_cons_zero, Option.some.injEq] at ho); subst ho; (try dsimp only at hSw); go_simp; (first | done | with_reducible rfl))
      (try simp only [Act.put, List.setIfInBounds_toArray, List.set_cons_zero, List.set_cons_succ])
      refine hand_take 5 (some 44) ?_ (by kernel_rfl) (by kernel_rfl) (by kernel_rfl) (by kernel_rfl) (by kernel_rfl) (fun _ _ _ h => h) ?_ (by assumption) ?_
      rotate_left
      · (intro o ho w hSw; (simp only [List.getElem?_toArray, List.getElem?_cons_succ, List.getElem?_cons_zero, Option.some.injEq] at ho); subst ho; (try dsimp only at hSw); go_simp; (first | done | with_reducible rfl))
      (try simp only [Act.put, List.setIfInBounds_toArray, List.set_cons_zero, List.set_cons_succ])
      refine hand_take 6 (some 45) ?_ (by kernel_rfl) (by kernel_rfl) (by kernel_rfl) (by kernel_rfl) (by kernel_rfl) (fun _ _ _ h => h) ?_ (by assumption) ?_
      rotate_left
      · (intro o ho w hSw; (simp only [List.getElem?_toArray, List.getElem?_cons_succ, List.getElem?_cons_zero, Option.some.injEq] at ho); subst ho; (try dsimp only at hSw); go_simp; (first | done | with_reducible rfl))
      (try simp only [Act.put, List.setIfInBounds_toArray, List.set_cons_zero, List.set_cons_succ])
      refine hand_take 7 (some 46) ?_ (by kernel_rfl) (by kernel_rfl) (by kernel_rfl) (by kernel_rfl) (by kernel_rfl) (fun _ _ _ h => h) ?_ (by assumption) ?_
      rotate_left
      · (intro o ho w hSw; (simp only [List.getElem?_toArray, List.getElem?_cons_succ, List.getElem?_cons_zero, Option.some.injEq] at ho); subst ho; (try dsimp only at hSw); go_simp; (first | done | with_reducible rfl))
      (try simp only [Act.put, List.setIfInBounds_toArray, List.set_cons_zero, List.set_cons_succ])
      refine hand_take 8 (some 47) ?_ (by kernel_rfl) (by kernel_rfl) (by kernel_rfl) (by kernel_rfl) (by kernel_rfl) (fun _ _ _ h => h) ?_ (by assumption) ?_
      rotate_left
      · (intro o ho w hSw; (simp only [List.getElem?_toArray, List.getElem?_cons_succ, List.getElem?_cons_zero, Option.some.injEq] at ho); subst ho; (try dsimp only at hSw); go_simp; (first | done | with_reducible rfl))
      (try simp only [Act.put, List.setIfInBounds_toArray, List.set_cons_zero, List.set_cons_succ])
      refine hand_take 9 (some 48) ?_ (by kernel_rfl) (by kernel_rfl) (by kernel_rfl) (by kernel_rfl) (by kernel_rfl) (fun _ _ _ h => h) ?_ (by assumption) ?_
      rotate_left
      · (intro o ho w hSw; (simp only [List.getElem?_toArray, List.getElem?_cons_succ, List.getElem?_cons_zero, Option.some.injEq] at ho); subst ho; (try dsimp only at hSw); go_simp; (first | done | with_reducible rfl))
      (try simp only [Act.put, List.setIfInBounds_toArray, List.set_cons_zero, List.set_cons_succ])
      refine hand_ready2 3 10 (by kernel_rfl) (by kernel_rfl) (by kernel_rfl) (fun o ho K hK => ?_) (fun o ho K hK => ?_)
      · (simp only [List.getElem?_toArray, List.getElem?_cons_succ, List.getElem?_cons_zero, Option.some.injEq] at ho)
        subst ho
        go_simp
        refine hK.out _ _ ?_ (fun hHeld => ?_)
        · ((try dsimp only); (first | with_reducible exact HS.out _ (Below.refl _ _).drew | with_reducible exact HS.out _ (below_ad _ _) | with_reducible exact HS.out _ HB6.out | with_reducible exact HS.out _ (HB6.out.alloc HB6.out.size _) | with_reducible exact HS.out _ HB8.out | with_reducible exact HS9.out _ _ HB8.out h9t.out))
        clear hK K
        (try simp only [Act.put, List.setIfInBounds_toArray, List.set_cons_zero, List.set_cons_succ])
        refine hand_ready 10 (by kernel_rfl) (by kernel_rfl) (fun o ho K hK => ?_)
        (simp only [List.getElem?_toArray, List.getElem?_cons_succ, List.getElem?_cons_zero, Option.some.injEq] at ho)
        subst ho
        go_simp
        ((go_at_call 43; first | ((with_reducible refine (HL4.out _ (below_ad _ _)).mono ?_); rintro e w6 ⟨A7, c7, rfl, h7⟩; have HB6 : Hid (Below W4.heap.size W4 w6) := kept ((below_ad W4 _).trans (h7.out.2.1.mono (below_ad W4 _).size)); have HOA := kept (((HOT.out W4 (Below.refl _ _)).below (Below.refl _ _).drew).below h7.out.2.1); have HSA := kept h7.out.1.reads) | ((with_reducible refine (HL4.out _ (Below.refl _ _).drew).mono ?_); rintro e w6 ⟨A7, c7, rfl, h7⟩; have HB6 : Hid (Below W4.heap.size W4 w6) := kept (below_from_drew h7.out.2.1); have HOB := kept (HOT.out w6 HB6.out); have HSB := kept (h7.out.1.reads.below ((Below.refl _ _).alloc (Nat.le_refl _) (.cells #[.int .i64 0, .slice A2 256 c2, .int .i64 1, .slice A3 256 c3] 94))))))
        (try go_wp2_with fail)
        refine hK.out _ _ ?_ (fun hHeld => ?_)
        · ((try dsimp only); (first | with_reducible exact HS.out _ (Below.refl _ _).drew | with_reducible exact HS.out _ (below_ad _ _) | with_reducible exact HS.out _ HB6.out | with_reducible exact HS.out _ (HB6.out.alloc HB6.out.size _) | with_reducible exact HS.out _ HB8.out | with_reducible exact HS9.out _ _ HB8.out h9t.out))
        clear hK K
        (try simp only [Act.put, List.setIfInBounds_toArray, List.set_cons_zero, List.set_cons_succ])
        refine hand_ready 11 (by kernel_rfl) (by kernel_rfl) (fun o ho K hK => ?_)
        (simp only [List.getElem?_toArray, List.getElem?_cons_succ, List.getElem?_cons_zero, Option.some.injEq] at ho)
        subst ho
        (first | (refine wp_append_sh (.tmp 42) (.tmp 49) rfl rfl rfl HOA.out HSA.out (by omega) ?_; intro A8 c8 w8 h8 t8 g8; have HB8 : Hid (Below W4.heap.size W4 w8) := kept (t8.only_new HB6.out HB6.out.size (fun i hi => by cases hi; exact Nat.le_refl _))) | (refine wp_append_sh (.tmp 42) (.tmp 49) rfl rfl rfl HOB.out HSB.out (by omega) ?_; intro A8 c8 w8 h8 t8 g8; have HB8 : Hid (Below W4.heap.size W4 w8) := kept (t8.only_new (HB6.out.alloc HB6.out.size _) (HB6.out.alloc HB6.out.size _).size (fun i hi => by cases hi; exact HB6.out.size)))); have H8 := kept h8; clear h8 t8 g8
        refine hK.out _ _ ?_ (fun hHeld => ?_)
        · ((try dsimp only); (first | with_reducible exact HS.out _ (Below.refl _ _).drew | with_reducible exact HS.out _ (below_ad _ _) | with_reducible exact HS.out _ HB6.out | with_reducible exact HS.out _ (HB6.out.alloc HB6.out.size _) | with_reducible exact HS.out _ HB8.out | with_reducible exact HS9.out _ _ HB8.out h9t.out))
        clear hK K
        (try simp only [Act.put, List.setIfInBounds_toArray, List.set_cons_zero, List.set_cons_succ])
        refine hand_ready 12 (by kernel_rfl) (by kernel_rfl) (fun o ho K hK => ?_)
        (simp only [List.getElem?_toArray, List.getElem?_cons_succ, List.getElem?_cons_zero, Option.some.injEq] at ho)
        subst ho
        go_simp
        ((go_at_call 62; (with_reducible refine (HPU.out _ _ _ HB8.out H8.out).mono ?_); rintro e w9 ⟨rfl, h9, h9t⟩))
        (try go_wp2_with fail)
        refine hK.out _ _ ?_ (fun hHeld => ?_)
        · ((try dsimp only); (first | with_reducible exact HS.out _ (Below.refl _ _).drew | with_reducible exact HS.out _ (below_ad _ _) | with_reducible exact HS.out _ HB6.out | with_reducible exact HS.out _ (HB6.out.alloc HB6.out.size _) | with_reducible exact HS.out _ HB8.out | with_reducible exact HS9.out _ _ HB8.out h9t.out))
        clear hK K
        (try simp only [Act.put, List.setIfInBounds_toArray, List.set_cons_zero, List.set_cons_succ])
        refine hand_take 13 (some 2) ?_ (by kernel_rfl) (by kernel_rfl) (by kernel_rfl) (by kernel_rfl) (by kernel_rfl) (fun _ _ _ h => h) ?_ (by assumption) ?_
        rotate_left
        · (intro o ho w hSw; (simp only [List.getElem?_toArray, List.getElem?_cons_succ, List.getElem?_cons_zero, Option.some.injEq] at ho); subst ho; (try dsimp only at hSw); go_simp; (first | done | with_reducible rfl))
        (try simp only [Act.put, List.setIfInBounds_toArray, List.set_cons_zero, List.set_cons_succ])
        refine wpAnyH_done (by kernel_rfl) ?_ _
        (go_wp2; go_ret; exact ⟨rfl, h9⟩)
      · (simp only [List.getElem?_toArray, List.getElem?_cons_succ, List.getElem?_cons_zero, Option.some.injEq] at ho)
        subst ho
        go_simp
        ((go_at_call 43; first | ((with_reducible refine (HL4.out _ (below_ad _ _)).mono ?_); rintro e w6 ⟨A7, c7, rfl, h7⟩; have HB6 : Hid (Below W4.heap.size W4 w6) := kept ((below_ad W4 _).trans (h7.out.2.1.mono (below_ad W4 _).size)); have HOA := kept (((HOT.out W4 (Below.refl _ _)).below (Below.refl _ _).drew).below h7.out.2.1); have HSA := kept h7.out.1.reads) | ((with_reducible refine (HL4.out _ (Below.refl _ _).drew).mono ?_); rintro e w6 ⟨A7, c7, rfl, h7⟩; have HB6 : Hid (Below W4.heap.size W4 w6) := kept (below_from_drew h7.out.2.1); have HOB := kept (HOT.out w6 HB6.out); have HSB := kept (h7.out.1.reads.below ((Below.refl _ _).alloc (Nat.le_refl _) (.cells #[.int .i64 0, .slice A2 256 c2, .int .i64 1, .slice A3 256 c3] 94))))))
        (try go_wp2_with fail)
        refine hK.out _ _ ?_ (fun hHeld => ?_)
        · ((try dsimp only); (first | with_reducible exact HS.out _ (Below.refl _ _).drew | with_reducible exact HS.out _ (below_ad _ _) | with_reducible exact HS.out _ HB6.out | with_reducible exact HS.out _ (HB6.out.alloc HB6.out.size _) | with_reducible exact HS.out _ HB8.out | with_reducible exact HS9.out _ _ HB8.out h9t.out))
        clear hK K
        (try simp only [Act.put, List.setIfInBounds_toArray, List.set_cons_zero, List.set_cons_succ])
        refine hand_ready 3 (by kernel_rfl) (by kernel_rfl) (fun o ho K hK => ?_)
        (simp only [List.getElem?_toArray, List.getElem?_cons_succ, List.getElem?_cons_zero, Option.some.injEq] at ho)
        subst ho
        go_simp
        refine hK.out _ _ ?_ (fun hHeld => ?_)
        · ((try dsimp only); (first | with_reducible exact HS.out _ (Below.refl _ _).drew | with_reducible exact HS.out _ (below_ad _ _) | with_reducible exact HS.out _ HB6.out | with_reducible exact HS.out _ (HB6.out.alloc HB6.out.size _) | with_reducible exact HS.out _ HB8.out | with_reducible exact HS9.out _ _ HB8.out h9t.out))
        clear hK K
        (try simp only [Act.put, List.setIfInBounds_toArray, List.set_cons_zero, List.set_cons_succ])
        refine hand_ready 11 (by kernel_rfl) (by kernel_rfl) (fun o ho K hK => ?_)
        (simp only [List.getElem?_toArray, List.getElem?_cons_succ, List.getElem?_cons_zero, Option.some.injEq] at ho)
        subst ho
        (first | (refine wp_append_sh (.tmp 42) (.tmp 49) rfl rfl rfl HOA.out HSA.out (by omega) ?_; intro A8 c8 w8 h8 t8 g8; have HB8 : Hid (Below W4.heap.size W4 w8) := kept (t8.only_new HB6.out HB6.out.size (fun i hi => by cases hi; exact Nat.le_refl _))) | (refine wp_append_sh (.tmp 42) (.tmp 49) rfl rfl rfl HOB.out HSB.out (by omega) ?_; intro A8 c8 w8 h8 t8 g8; have HB8 : Hid (Below W4.heap.size W4 w8) := kept (t8.only_new (HB6.out.alloc HB6.out.size _) (HB6.out.alloc HB6.out.size _).size (fun i hi => by cases hi; exact HB6.out.size)))); have H8 := kept h8; clear h8 t8 g8
        refine hK.out _ _ ?_ (fun hHeld => ?_)
        · ((try dsimp only); (first | with_reducible exact HS.out _ (Below.refl _ _).drew | with_reducible exact HS.out _ (below_ad _ _) | with_reducible exact HS.out _ HB6.out | with_reducible exact HS.out _ (HB6.out.alloc HB6.out.size _) | with_reducible exact HS.out _ HB8.out | with_reducible exact HS9.out _ _ HB8.out h9t.out))
        clear hK K
        (try simp only [Act.put, List.setIfInBounds_toArray, List.set_cons_zero, List.set_cons_succ])
        refine hand_ready 12 (by kernel_rfl) (by kernel_rfl) (fun o ho K hK => ?_)
        (simp only [List.getElem?_toArray, List.getElem?_cons_succ, List.getElem?_cons_zero, Option.some.injEq] at ho)
        subst ho
        go_simp
        ((go_at_call 62; (with_reducible refine (HPU.out _ _ _ HB8.out H8.out).mono ?_); rintro e w9 ⟨rfl, h9, h9t⟩))
        (try go_wp2_with fail)
        refine hK.out _ _ ?_ (fun hHeld => ?_)
        · ((try dsimp only); (first | with_reducible exact HS.out _ (Below.refl _ _).drew | with_reducible exact HS.out _ (below_ad _ _) | with_reducible exact HS.out _ HB6.out | with_reducible exact HS.out _ (HB6.out.alloc HB6.out.size _) | with_reducible exact HS.out _ HB8.out | with_reducible exact HS9.out _ _ HB8.out h9t.out))
        clear hK K
        (try simp only [Act.put, List.setIfInBounds_toArray, List.set_cons_zero, List.set_cons_succ])
        refine hand_take 13 (some 2) ?_ (by kernel_rfl) (by kernel_rfl) (by kernel_rfl) (by kernel_rfl) (by kernel_rfl) (fun _ _ _ h => h) ?_ (by assumption) ?_
        rotate_left
        · (intro o ho w hSw; (simp only [List.getElem?_toArray, List.getElem?_cons_succ, List.getElem?_cons_zero, Option.some.injEq] at ho); subst ho; (try dsimp only at hSw); go_simp; (first | done | with_reducible rfl))
        (try simp only [Act.put, List.setIfInBounds_toArray, List.set_cons_zero, List.set_cons_succ])
        refine wpAnyH_done (by kernel_rfl) ?_ _
        (go_wp2; go_ret; exact ⟨rfl, h9⟩)
end Go.Proofs.YtdjcahhofonclaaGreatDoor
end
