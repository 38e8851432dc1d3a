/-
  The document's own history, as far as a law that doesn't look at its answers wants it: its calls end, and turn nothing but its own memory.
-/
import Derived.Test.YthpaliagmnclfaaGj
import Derived.Test.YthpaliagmnclfaaGw
namespace Go.Proofs.Ythpaliagmnclfaa
open Go.ChangeShapes Go.WideShapes Go.ChangeAt Go.RowKit Go.Deep
set_option linter.unusedVariables false
set_option linter.unusedSimpArgs false

structure En5 where
  a : Int
  b : Int
  t : Bool
  c : Int
  v : Int
def En5.cells (x : En5) : List Value := [.int .i64 x.a, .int .i64 x.b, .bool x.t, .int .i64 x.c, .int .i64 x.v]
def renC (I : List En5) : List Value := I.flatMap En5.cells
theorem renC_length : ∀ I : List En5, (renC I).length = I.length * 5
  | [] => rfl
  | x :: I => by
    have := renC_length I
    unfold renC at this ⊢
    rw [List.flatMap_cons, List.length_append, this]
    simp [En5.cells]; omega
theorem renC_append (a b : List En5) : renC (a ++ b) = renC a ++ renC b := by simp [renC]
theorem renC_one (I : List En5) : ∀ u ∈ renC I, u.oneCell' = true := by
  intro u hu
  obtain ⟨L, _, hp⟩ := List.mem_flatMap.1 hu
  simp only [En5.cells, List.mem_cons, List.not_mem_nil, or_false] at hp
  rcases hp with rfl | rfl | rfl | rfl | rfl <;> rfl
theorem renC_at : ∀ (I : List En5) (i : Nat) (h : i < I.length) (j : Nat), j < 5 → (renC I)[i * 5 + j]? = I[i].cells[j]?
  | L :: Ls, 0, _, j, hj => by
    show (L.cells ++ renC Ls)[0 * 5 + j]? = _
    rw [List.getElem?_append_left (by simp [En5.cells]; omega)]; simp
  | L :: Ls, i + 1, h, j, hj => by
    show (L.cells ++ renC Ls)[(i + 1) * 5 + j]? = _
    rw [List.getElem?_append_right (by simp [En5.cells]; omega)]
    have := renC_at Ls i (by simpa using h) j hj
    rw [show (i + 1) * 5 + j - L.cells.length = i * 5 + j by simp [En5.cells]; omega, this]
    simp
theorem renC_set : ∀ (I : List En5) (i : Nat) (h : i < I.length) (j : Nat) (u : Value) (x' : En5), j < 5 → x'.cells = I[i].cells.set j u → (renC I).set (i * 5 + j) u = renC (I.set i x')
  | L :: Ls, 0, _, j, u, L', hj, e => by
    have e : L'.cells = L.cells.set j u := e
    show (L.cells ++ renC Ls).set (0 * 5 + j) u = L'.cells ++ renC Ls
    rw [e, List.set_append_left _ _ (by simp [En5.cells]; omega)]
    simp
  | L :: Ls, i + 1, h, j, u, L', hj, e => by
    have := renC_set Ls i (by simpa using h) j u L' hj (by simpa using e)
    show (L.cells ++ renC Ls).set ((i + 1) * 5 + j) u = L.cells ++ renC (Ls.set i L')
    rw [← this, List.set_append_right _ _ (by simp [En5.cells]; omega)]
    congr 2
    simp [En5.cells]; omega
theorem reninfo : (Try.prog.info? 83).map (fun i => (i.zero, i.size, i.bytes)) = some (some (.agg #[.int .i64 0, .int .i64 0, .bool false, .int .i64 0, .int .i64 0]), 5, 40) := by kernel_rfl
/-- The document's history in block b: n entries. -/
def RF (w : World) (b n : Nat) : Prop := ∃ A k I, Blk w b 46 [.slice A n k] ∧ w.ownsRow b 83 5 (.slice A n k) n (renC I) ∧ I.length = n
/-- Blocks of its types, from its own on. -/
def OfT (b : Nat) (w : World) (j : Nat) : Prop := b ≤ j ∧ ∃ cur t f, w.heap[j]? = some (.cells cur t f) ∧ (t = 46 ∨ t = 83)
def TurnR (b : Nat) (w w' : World) : Prop := Turned w w' (OfT b w)
theorem TurnR.trans {b : Nat} {w w1 w2 : World} (h : TurnR b w w1) (k : TurnR b w1 w2) : TurnR b w w2 :=
  ⟨k.os.trans h.os, k.tape.trans h.tape, k.output.trans h.output, Nat.le_trans h.size k.size, fun i hi hn => (k.block i (Nat.lt_of_lt_of_le hi h.size) (fun ⟨hb, c, t, f, e, ht⟩ => hn ⟨hb, c, t, f, by rw [← h.block i hi hn]; exact e, ht⟩)).trans (h.block i hi hn)⟩
theorem TurnR.of_below {b : Nat} {w w' : World} (h : Below w.heap.size w w') : TurnR b w w' := Turned.of_below h _
theorem RF.below {w w' : World} {b n : Nat} (h : RF w b n) (hb : Below w.heap.size w w') : RF w' b n := by
  obtain ⟨A, k, I, h1, h2, h3⟩ := h
  exact ⟨A, k, I, h1.below hb h1.lt, gown_turned h2 (Turned.of_below hb (fun _ => False)) (fun _ _ e => e), h3⟩
theorem gstore5 {B : Nat} {w W : World} {b : Nat} {t : TypeId} {x0 x1 x2 x3 x4 : Value} (hq : Blk W b t [x0, x1, x2, x3, x4]) (hb : Below B w W) (hB : B ≤ b) (u0 u1 u2 u3 u4 : Value) :
    Blk (((((W.setCell ⟨b, 0, none⟩ u0).setCell ⟨b, 1, none⟩ u1).setCell ⟨b, 2, none⟩ u2).setCell ⟨b, 3, none⟩ u3).setCell ⟨b, 4, none⟩ u4) b t [u0, u1, u2, u3, u4] ∧ Below B w (((((W.setCell ⟨b, 0, none⟩ u0).setCell ⟨b, 1, none⟩ u1).setCell ⟨b, 2, none⟩ u2).setCell ⟨b, 3, none⟩ u3).setCell ⟨b, 4, none⟩ u4) ∧ ∀ p : Addr, p.block ≠ b → (((((W.setCell ⟨b, 0, none⟩ u0).setCell ⟨b, 1, none⟩ u1).setCell ⟨b, 2, none⟩ u2).setCell ⟨b, 3, none⟩ u3).setCell ⟨b, 4, none⟩ u4).cell? p = W.cell? p :=
  ⟨((((hq.set_ 0 u0).set_ 1 u1).set_ 2 u2).set_ 3 u3).set_ 4 u4, ((((hb.setCell (p := ⟨b, 0, none⟩) hB u0).setCell (p := ⟨b, 1, none⟩) hB u1).setCell (p := ⟨b, 2, none⟩) hB u2).setCell (p := ⟨b, 3, none⟩) hB u3).setCell (p := ⟨b, 4, none⟩) hB u4, fun p hp => (gcell_far (b := b) u4 rfl hp).trans ((gcell_far (b := b) u3 rfl hp).trans ((gcell_far (b := b) u2 rfl hp).trans ((gcell_far (b := b) u1 rfl hp).trans (gcell_far (b := b) u0 rfl hp))))⟩
abbrev enV (x : En5) : Value := .agg #[.int .i64 x.a, .int .i64 x.b, .bool x.t, .int .i64 x.c, .int .i64 x.v]
/-- What last answers: some entry, or none. -/
def RLast (w : World) (e : Ending) (w' : World) : Prop := ∃ x ok, e = .returned (.tuple #[enV x, .bool ok]) ∧ Below w.heap.size w w'
set_option maxRecDepth 100000 in
set_option maxHeartbeats 2000000 in
theorem rlast_any {w : World} {b n : Nat} (h : RF w b n) (hn : n ≤ 1000000) :
    Calls Try.prog 40 #[.pointer (some ⟨b, 0, none⟩)] w (RLast w) := by
  obtain ⟨A, k, I, h1, h2, h3⟩ := h
  have hB0 := (Below.refl w.heap.size w).alloc (Nat.le_refl _) (.cells #[.int .i64 0, .int .i64 0, .bool false, .int .i64 0, .int .i64 0] 83)
  have HK := kept (Blk.new w 83 #[.int .i64 0, .int .i64 0, .bool false, .int .i64 0, .int .i64 0])
  have hbx : (w.alloc (.cells #[.int .i64 0, .int .i64 0, .bool false, .int .i64 0, .int .i64 0] 83)).cell? ⟨b, 0, none⟩ = some (.slice A n k) := (h1.below hB0 h1.lt).cell 0
  obtain ⟨q0, q1, q2, q3, q4⟩ : (w.alloc (.cells #[.int .i64 0, .int .i64 0, .bool false, .int .i64 0, .int .i64 0] 83)).cell? ⟨w.heap.size, 0, none⟩ = some (.int .i64 0) ∧ (w.alloc (.cells #[.int .i64 0, .int .i64 0, .bool false, .int .i64 0, .int .i64 0] 83)).cell? ⟨w.heap.size, 1, none⟩ = some (.int .i64 0) ∧ (w.alloc (.cells #[.int .i64 0, .int .i64 0, .bool false, .int .i64 0, .int .i64 0] 83)).cell? ⟨w.heap.size, 2, none⟩ = some (.bool false) ∧ (w.alloc (.cells #[.int .i64 0, .int .i64 0, .bool false, .int .i64 0, .int .i64 0] 83)).cell? ⟨w.heap.size, 3, none⟩ = some (.int .i64 0) ∧ (w.alloc (.cells #[.int .i64 0, .int .i64 0, .bool false, .int .i64 0, .int .i64 0] 83)).cell? ⟨w.heap.size, 4, none⟩ = some (.int .i64 0) := ⟨HK.out.cell 0, HK.out.cell 1, HK.out.cell 2, HK.out.cell 3, HK.out.cell 4⟩
  have f0 := HK.out.frozen 0
  have f1 := HK.out.frozen 1
  have f2 := HK.out.frozen 2
  have f3 := HK.out.frozen 3
  have f4 := HK.out.frozen 4
  have HB := kept hB0
  rcases Nat.eq_zero_or_pos n with h0 | h0
  · subst h0
    clear h1 h2 h3 hB0
    go_enter Try.func40, Try.ntmps40
    go_wp2_with fail
    generalize w.alloc (.cells #[.int .i64 0, .int .i64 0, .bool false, .int .i64 0, .int .i64 0] 83) = W0 at HK HB hbx q0 q1 q2 q3 q4 f0 f1 f2 f3 f4 ⊢
    go_wp2
    exact bodyPost_ret (v := .tuple #[.agg #[.int .i64 0, .int .i64 0, .bool false, .int .i64 0, .int .i64 0], .bool false]) (by simp [results, Try.results40, go_sem, q0, q1, q2, q3, q4]) rfl ⟨⟨0, 0, false, 0, 0⟩, false, rfl, HB.out⟩
  · obtain ⟨m, rfl⟩ : ∃ m, n = m + 1 := ⟨n - 1, by omega⟩
    obtain ⟨g, rfl, _, hgl, _, _, hc⟩ := gown_at h2 h0
    have hml : m < I.length := by omega
    have hcc := fun j (hj : j < 5) => renC_at I m hml j hj
    generalize I[m] = x at hcc
    have hkp := Keeps.of_below hB0
    have c0 := hkp.cell_ (hc _ _ (hcc 0 (by omega)))
    have c1 := hkp.cell_ (hc _ _ (hcc 1 (by omega)))
    have c2 := hkp.cell_ (hc _ _ (hcc 2 (by omega)))
    have c3 := hkp.cell_ (hc _ _ (hcc 3 (by omega)))
    have c4 := hkp.cell_ (hc _ _ (hcc 4 (by omega)))
    have hbl := h1.lt
    have HS0 := kept (show (fun W' : World => W'.cell? ⟨b, 0, none⟩ = some (.slice (some ⟨g, 0, none⟩) (m + 1) k) ∧ (W'.cell? ⟨g, m * 5, none⟩ = some (.int .i64 x.a) ∧ W'.cell? ⟨g, m * 5 + 1, none⟩ = some (.int .i64 x.b) ∧ W'.cell? ⟨g, m * 5 + 2, none⟩ = some (.bool x.t) ∧ W'.cell? ⟨g, m * 5 + 3, none⟩ = some (.int .i64 x.c) ∧ W'.cell? ⟨g, m * 5 + 4, none⟩ = some (.int .i64 x.v))) (w.alloc (.cells #[.int .i64 0, .int .i64 0, .bool false, .int .i64 0, .int .i64 0] 83)).drew from ⟨hbx, c0, c1, c2, c3, c4⟩)
    have hmm : (m : Int) + 1 - 1 = (m : Int) := by omega
    have hwr : wrap64 (m : Int) = (m : Int) := IntWalk.wrap64_in _ ⟨by omega, by omega⟩
    have hwr2 : IntKind.i64.wrap (m : Int) = (m : Int) := IntWalk.i64_in _ ⟨by omega, by omega⟩
    have hm0 : (0 : Int) ≤ (m : Int) := by omega
    have hm1 : (m : Int) < (m : Int) + 1 := by omega
    have hne : ((m : Int) + 1 == 0) = false := by simp; omega
    clear h1 h2 h3 hB0 hkp hcc hc c0 c1 c2 c3 c4 hml
    go_enter Try.func40, Try.ntmps40
    go_wp2_with fail
    generalize w.alloc (.cells #[.int .i64 0, .int .i64 0, .bool false, .int .i64 0, .int .i64 0] 83) = W0 at HK HB HS0 hbx q0 q1 q2 q3 q4 f0 f1 f2 f3 f4 ⊢
    go_wp2
    have HKd := kept (show Blk W0.drew w.heap.size _ _ from HK.out)
    clear hbx q0 q1 q2 q3 q4 f0 f1 f2 f3 f4
    refine wp_region_held_drew (S := (fun W' => W'.cell? ⟨b, 0, none⟩ = some (.slice (some ⟨g, 0, none⟩) (m + 1) k) ∧ (W'.cell? ⟨g, m * 5, none⟩ = some (.int .i64 x.a) ∧ W'.cell? ⟨g, m * 5 + 1, none⟩ = some (.int .i64 x.b) ∧ W'.cell? ⟨g, m * 5 + 2, none⟩ = some (.bool x.t) ∧ W'.cell? ⟨g, m * 5 + 3, none⟩ = some (.int .i64 x.c) ∧ W'.cell? ⟨g, m * 5 + 4, none⟩ = some (.int .i64 x.v)))) (by kernel_rfl) ?_ (fun hHeld => ?_)
    · ((try dsimp only); (first | with_reducible exact HS0.out | with_reducible exact HS1.out))
    (have HBd := kept (HB.out.drew); generalize W0.drew = W2 at HS0 HKd HBd hHeld ⊢; (have q0 : W2.cell? ⟨w.heap.size, 0, none⟩ = some (.int .i64 0) := HKd.out.cell 0); (have q1 : W2.cell? ⟨w.heap.size, 1, none⟩ = some (.int .i64 0) := HKd.out.cell 1); (have q2 : W2.cell? ⟨w.heap.size, 2, none⟩ = some (.bool false) := HKd.out.cell 2); (have q3 : W2.cell? ⟨w.heap.size, 3, none⟩ = some (.int .i64 0) := HKd.out.cell 3); (have q4 : W2.cell? ⟨w.heap.size, 4, none⟩ = some (.int .i64 0) := HKd.out.cell 4); have f0 := HKd.out.frozen 0; have f1 := HKd.out.frozen 1; have f2 := HKd.out.frozen 2; have f3 := HKd.out.frozen 3; have f4 := HKd.out.frozen 4)
    refine hand_take 0 (some 11) ?_ (by kernel_rfl) (by kernel_rfl) (by kernel_rfl) (by kernel_rfl) (by kernel_rfl) (fun _ _ _ h => h) ?_ (by assumption) ?_
    rotate_left
    · (intro o ho w hSw; (simp only [List.getElem?_toArray, List.getElem?_cons_succ, List.getElem?_cons_zero, Option.some.injEq] at ho); subst ho; (try dsimp only at hSw); go_simp; (first | done | with_reducible rfl))
    (try simp only [Act.put, List.setIfInBounds_toArray, List.set_cons_zero, List.set_cons_succ])
    refine hand_take 1 (some 12) ?_ (by kernel_rfl) (by kernel_rfl) (by kernel_rfl) (by kernel_rfl) (by kernel_rfl) (fun _ _ _ h => h) ?_ (by assumption) ?_
    rotate_left
    · (intro o ho w hSw; (simp only [List.getElem?_toArray, List.getElem?_cons_succ, List.getElem?_cons_zero, Option.some.injEq] at ho); subst ho; (try dsimp only at hSw); go_simp; (first | done | with_reducible rfl))
    (try simp only [Act.put, List.setIfInBounds_toArray, List.set_cons_zero, List.set_cons_succ])
    refine hand_take 2 (some 13) ?_ (by kernel_rfl) (by kernel_rfl) (by kernel_rfl) (by kernel_rfl) (by kernel_rfl) (fun _ _ _ h => h) ?_ (by assumption) ?_
    rotate_left
    · (intro o ho w hSw; (simp only [List.getElem?_toArray, List.getElem?_cons_succ, List.getElem?_cons_zero, Option.some.injEq] at ho); subst ho; (try dsimp only at hSw); go_simp; (first | done | with_reducible rfl))
    (try simp only [Act.put, List.setIfInBounds_toArray, List.set_cons_zero, List.set_cons_succ])
    refine hand_take 3 (some 14) ?_ (by kernel_rfl) (by kernel_rfl) (by kernel_rfl) (by kernel_rfl) (by kernel_rfl) (fun _ _ _ h => h) ?_ (by assumption) ?_
    rotate_left
    · (intro o ho w hSw; (simp only [List.getElem?_toArray, List.getElem?_cons_succ, List.getElem?_cons_zero, Option.some.injEq] at ho); subst ho; (try dsimp only at hSw); go_simp; (first | done | with_reducible rfl))
    (try simp only [Act.put, List.setIfInBounds_toArray, List.set_cons_zero, List.set_cons_succ])
    refine hand_take 4 (some 15) ?_ (by kernel_rfl) (by kernel_rfl) (by kernel_rfl) (by kernel_rfl) (by kernel_rfl) (fun _ _ _ h => h) ?_ (by assumption) ?_
    rotate_left
    · (intro o ho w hSw; (simp only [List.getElem?_toArray, List.getElem?_cons_succ, List.getElem?_cons_zero, Option.some.injEq] at ho); subst ho; (try dsimp only at hSw); go_simp; (first | done | with_reducible rfl))
    (try simp only [Act.put, List.setIfInBounds_toArray, List.set_cons_zero, List.set_cons_succ])
    refine hand_take 5 (some 16) ?_ (by kernel_rfl) (by kernel_rfl) (by kernel_rfl) (by kernel_rfl) (by kernel_rfl) (fun _ _ _ h => h) ?_ (by assumption) ?_
    rotate_left
    · (intro o ho w hSw; (simp only [List.getElem?_toArray, List.getElem?_cons_succ, List.getElem?_cons_zero, Option.some.injEq] at ho); subst ho; (try dsimp only at hSw); go_simp; (first | done | with_reducible rfl))
    (try simp only [Act.put, List.setIfInBounds_toArray, List.set_cons_zero, List.set_cons_succ])
    refine hand_take 6 (some 17) ?_ (by kernel_rfl) (by kernel_rfl) (by kernel_rfl) (by kernel_rfl) (by kernel_rfl) (fun _ _ _ h => h) ?_ (by assumption) ?_
    rotate_left
    · (intro o ho w hSw; (simp only [List.getElem?_toArray, List.getElem?_cons_succ, List.getElem?_cons_zero, Option.some.injEq] at ho); subst ho; (try dsimp only at hSw); go_simp; (first | done | with_reducible rfl))
    (try simp only [Act.put, List.setIfInBounds_toArray, List.set_cons_zero, List.set_cons_succ])
    refine hand_take 7 (some 18) ?_ (by kernel_rfl) (by kernel_rfl) (by kernel_rfl) (by kernel_rfl) (by kernel_rfl) (fun _ _ _ h => h) ?_ (by assumption) ?_
    rotate_left
    · (intro o ho w hSw; (simp only [List.getElem?_toArray, List.getElem?_cons_succ, List.getElem?_cons_zero, Option.some.injEq] at ho); subst ho; (try dsimp only at hSw); go_simp; (first | done | with_reducible rfl))
    (try simp only [Act.put, List.setIfInBounds_toArray, List.set_cons_zero, List.set_cons_succ])
    refine hand_take 8 (some 19) ?_ (by kernel_rfl) (by kernel_rfl) (by kernel_rfl) (by kernel_rfl) (by kernel_rfl) (fun _ _ _ h => h) ?_ (by assumption) ?_
    rotate_left
    · (intro o ho w hSw; (simp only [List.getElem?_toArray, List.getElem?_cons_succ, List.getElem?_cons_zero, Option.some.injEq] at ho); subst ho; (try dsimp only at hSw); go_simp; (first | done | with_reducible rfl))
    (try simp only [Act.put, List.setIfInBounds_toArray, List.set_cons_zero, List.set_cons_succ])
    refine hand_take 9 (some 20) ?_ (by kernel_rfl) (by kernel_rfl) (by kernel_rfl) (by kernel_rfl) (by kernel_rfl) (fun _ _ _ h => h) ?_ (by assumption) ?_
    rotate_left
    · (intro o ho w hSw; (simp only [List.getElem?_toArray, List.getElem?_cons_succ, List.getElem?_cons_zero, Option.some.injEq] at ho); subst ho; (try dsimp only at hSw); go_simp; (first | done | with_reducible rfl))
    (try simp only [Act.put, List.setIfInBounds_toArray, List.set_cons_zero, List.set_cons_succ])
    refine hand_take 10 (some 21) ?_ (by kernel_rfl) (by kernel_rfl) (by kernel_rfl) (by kernel_rfl) (by kernel_rfl) (fun _ _ _ h => h) ?_ (by assumption) ?_
    rotate_left
    · (intro o ho w hSw; (simp only [List.getElem?_toArray, List.getElem?_cons_succ, List.getElem?_cons_zero, Option.some.injEq] at ho); subst ho; (try dsimp only at hSw); go_simp; (first | done | with_reducible rfl))
    (try simp only [Act.put, List.setIfInBounds_toArray, List.set_cons_zero, List.set_cons_succ])
    refine hand_take 11 (some 22) ?_ (by kernel_rfl) (by kernel_rfl) (by kernel_rfl) (by kernel_rfl) (by kernel_rfl) (fun _ _ _ h => h) ?_ (by assumption) ?_
    rotate_left
    · (intro o ho w hSw; (simp only [List.getElem?_toArray, List.getElem?_cons_succ, List.getElem?_cons_zero, Option.some.injEq] at ho); subst ho; (try dsimp only at hSw); go_simp; (first | done | with_reducible rfl))
    (try simp only [Act.put, List.setIfInBounds_toArray, List.set_cons_zero, List.set_cons_succ])
    refine hand_ready 12 (by kernel_rfl) (by kernel_rfl) (fun o ho K hK => ?_)
    (simp only [List.getElem?_toArray, List.getElem?_cons_succ, List.getElem?_cons_zero, Option.some.injEq] at ho)
    subst ho
    go_simp
    (have hx2 := gstore5 HKd.out HBd.out (Nat.le_refl _) (.int .i64 x.a) (.int .i64 x.b) (.bool x.t) (.int .i64 x.c) (.int .i64 x.v); generalize ((((W2.setCell ⟨w.heap.size, 0, none⟩ (.int .i64 x.a)).setCell ⟨w.heap.size, 1, none⟩ (.int .i64 x.b)).setCell ⟨w.heap.size, 2, none⟩ (.bool x.t)).setCell ⟨w.heap.size, 3, none⟩ (.int .i64 x.c)).setCell ⟨w.heap.size, 4, none⟩ (.int .i64 x.v) = X at hx2 ⊢; have HX := kept hx2; (have HS1 := kept (show (fun W' : World => W'.cell? ⟨b, 0, none⟩ = some (.slice (some ⟨g, 0, none⟩) (m + 1) k) ∧ (W'.cell? ⟨g, m * 5, none⟩ = some (.int .i64 x.a) ∧ W'.cell? ⟨g, m * 5 + 1, none⟩ = some (.int .i64 x.b) ∧ W'.cell? ⟨g, m * 5 + 2, none⟩ = some (.bool x.t) ∧ W'.cell? ⟨g, m * 5 + 3, none⟩ = some (.int .i64 x.c) ∧ W'.cell? ⟨g, m * 5 + 4, none⟩ = some (.int .i64 x.v))) X from (by obtain ⟨s0, s2, s3, s4, s5, s6⟩ := HS0.out; have hf := hx2.2.2; exact ⟨(hf _ (by show b ≠ w.heap.size; omega)).trans s0, (hf _ (by show g ≠ w.heap.size; omega)).trans s2, (hf _ (by show g ≠ w.heap.size; omega)).trans s3, (hf _ (by show g ≠ w.heap.size; omega)).trans s4, (hf _ (by show g ≠ w.heap.size; omega)).trans s5, (hf _ (by show g ≠ w.heap.size; omega)).trans s6⟩))); clear hx2 q0 q1 q2 q3 q4 f0 f1 f2 f3 f4)
    refine hK.out _ _ ?_ (fun hHeld => ?_)
    · ((try dsimp only); (first | with_reducible exact HS0.out | with_reducible exact HS1.out))
    clear hK K
    (try simp only [Act.put, List.setIfInBounds_toArray, List.set_cons_zero, List.set_cons_succ])
    refine hand_take 13 (some 3) ?_ (by kernel_rfl) (by kernel_rfl) (by kernel_rfl) (by kernel_rfl) (by kernel_rfl) (fun _ _ _ h => h) ?_ (by assumption) ?_
    rotate_left
    · (intro o ho w hSw; (simp only [List.getElem?_toArray, List.getElem?_cons_succ, List.getElem?_cons_zero, Option.some.injEq] at ho); subst ho; (try dsimp only at hSw); go_simp; (first | done | with_reducible rfl))
    (try simp only [Act.put, List.setIfInBounds_toArray, List.set_cons_zero, List.set_cons_succ])
    refine wpAnyH_done (by kernel_rfl) ?_ _
    clear hHeld
    go_wp2
    obtain ⟨hbk, hbx, _⟩ := HX.out
    have v0 : X.cell? ⟨w.heap.size, 0, none⟩ = some (.int .i64 x.a) := hbk.cell 0
    have v1 : X.cell? ⟨w.heap.size, 1, none⟩ = some (.int .i64 x.b) := hbk.cell 1
    have v2 : X.cell? ⟨w.heap.size, 2, none⟩ = some (.bool x.t) := hbk.cell 2
    have v3 : X.cell? ⟨w.heap.size, 3, none⟩ = some (.int .i64 x.c) := hbk.cell 3
    have v4 : X.cell? ⟨w.heap.size, 4, none⟩ = some (.int .i64 x.v) := hbk.cell 4
    exact bodyPost_ret (v := .tuple #[enV x, .bool true]) (by simp [results, Try.results40, go_sem, v0, v1, v2, v3, v4]) rfl ⟨x, true, rfl, hbx⟩
end Go.Proofs.Ythpaliagmnclfaa
