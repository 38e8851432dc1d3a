/-
  package gens: what comes next, and a put that comes.
-/
import Derived.Test.YthpaliagmnclfaaGi
namespace Go.Proofs.Ythpaliagmnclfaa
open Go.ChangeShapes Go.WideShapes Go.ChangeAt Go.RowKit Go.Deep
set_option linter.unusedVariables false
set_option linter.unusedSimpArgs false

/-- append onto an own row, whatever it holds: what it leaves, and what has turned. -/
theorem run_append_g {P : Program} {w : World} (t ty e : TypeId) {z : Value} {sz bytes : Nat} {base n c : Nat} {xs : List Value} {A : Option Addr} {m k : Nat} {ys : List Value}
    (ht : P.underlying t = some (.slice e)) (hinfo : (P.info? e).map (fun i => (i.zero, i.size, i.bytes)) = some (some z, sz, bytes)) (hzs : z.cells.size = sz) (h0s : 0 < sz) (hb : bytes ≤ 1000)
    (hown : w.ownsRow base e sz (.slice A n c) n xs) (ad : Addr) (hl : ys.length = m * sz) (hnews : ∀ j u, ys[j]? = some u → w.cell? (ad.add j) = some u) (h1 : ∀ u ∈ ys, u.oneCell' = true) (hm : n + m ≤ 3000000) (hbase : base ≤ w.heap.size) (h0 : 0 ≤ n + m) :
    ∃ A' c' w', (Builtin.append_ #[t, t] ty #[.slice A n c, .slice (some ad) m k]).run P w = .ok (.slice A' (n + m) c') w' ∧ w'.ownsRow base e sz (.slice A' (n + m) c') (n + m) (xs ++ ys) ∧ w.grownBy w' (Value.slice A n c).ownBlock ∧ ((Value.slice A' (n + m) c').ownBlock = (Value.slice A n c).ownBlock ∨ (Value.slice A' (n + m) c').ownBlock = some w.heap.size) := by
  obtain ⟨i, hi, hz, hsz, hby⟩ := info_parts hinfo
  have hbb : (n + m) * bytes ≤ 140737488355328 := Nat.le_trans (Nat.mul_le_mul hm hb) (by decide)
  obtain ⟨v', w', hrun, hown', hgrow, _, hloc⟩ := run_append_own_at (P := P) w base t ty e i z sz bytes ht hi hz hsz hby hzs h0s _ n xs hown ad m k ys hl hnews h1 (by unfold maxLen; omega) hbb hbase
  have hv : ∃ A' c', v' = .slice A' (n + m) c' := by
    rcases hown'.2 with ⟨rfl, h⟩ | ⟨g, cap, cur, rfl, _⟩
    · exact ⟨none, 0, by rw [h]⟩
    · exact ⟨_, _, rfl⟩
  obtain ⟨A', c', rfl⟩ := hv
  exact ⟨A', c', w', hrun, hown', hgrow, hloc⟩
theorem wp_append_g {P : Program} {w : World} {o : Oper} {a : Act} {K : Act → World → Prop} {Q : Exit → Act → World → Prop} (s x : Operand) (t : TypeId) (ho : o.op = .call { callee := .builtin .append, args := #[s, x], argTypes := #[t, t] }) (e : TypeId) {z : Value} {sz bytes : Nat} {base n c : Nat} {xs : List Value} {A : Option Addr} {m k : Nat} {ys : List Value}
    (ad : Addr) (hs : a.eval s = .slice A n c) (hx : a.eval x = .slice (some ad) m k) (ht : P.underlying t = some (.slice e)) (hinfo : (P.info? e).map (fun i => (i.zero, i.size, i.bytes)) = some (some z, sz, bytes)) (hzs : z.cells.size = sz) (h0s : 0 < sz) (hb : bytes ≤ 1000)
    (hown : w.ownsRow base e sz (.slice A n c) n xs) (hl : ys.length = m * sz) (hnews : ∀ j u, ys[j]? = some u → w.cell? (ad.add j) = some u) (h1 : ∀ u ∈ ys, u.oneCell' = true) (hm : n + m ≤ 3000000) (hbase : base ≤ w.heap.size) (h0 : 0 ≤ n + m)
    (h : ∀ A' c' w', w'.ownsRow base e sz (.slice A' (n + m) c') (n + m) (xs ++ ys) → w.grownBy w' (Value.slice A n c).ownBlock → ((Value.slice A' (n + m) c').ownBlock = (Value.slice A n c).ownBlock ∨ (Value.slice A' (n + m) c').ownBlock = some w.heap.size) → K (a.put o.dst (.slice A' (n + m) c')) w') : o.wp P a w K Q := by
  obtain ⟨A', c', w', hrun, h2, h3, h4⟩ := run_append_g (P := P) (k := k) t o.type e ht hinfo hzs h0s hb hown ad hl hnews h1 hm hbase h0
  unfold Oper.wp execOp
  simp only [ho, resolve, invoke, builtin, Sem.run_bind, Sem.run_pure, Result.andThen_ok, List.map_toArray, List.map_cons, List.map_nil, hs, hx, hrun]
  exact h A' c' w' h2 h3 h4
theorem wpList_append_g {P : Program} {w : World} {ops : Array Oper} {rest : List Oper} {o : Oper} {a : Act} {Q : Exit → Act → World → Prop} (hgd : o.guard = none) (s x : Operand) (t : TypeId) (ho : o.op = .call { callee := .builtin .append, args := #[s, x], argTypes := #[t, t] }) (e : TypeId) {z : Value} {sz bytes : Nat} {base n c : Nat} {xs : List Value} {A : Option Addr} {m k : Nat} {ys : List Value}
    (ad : Addr) (hs : a.eval s = .slice A n c) (hx : a.eval x = .slice (some ad) m k) (ht : P.underlying t = some (.slice e)) (hinfo : (P.info? e).map (fun i => (i.zero, i.size, i.bytes)) = some (some z, sz, bytes)) (hzs : z.cells.size = sz) (h0s : 0 < sz) (hb : bytes ≤ 1000)
    (hown : w.ownsRow base e sz (.slice A n c) n xs) (hl : ys.length = m * sz) (hnews : ∀ j u, ys[j]? = some u → w.cell? (ad.add j) = some u) (h1 : ∀ u ∈ ys, u.oneCell' = true) (hm : n + m ≤ 3000000) (hbase : base ≤ w.heap.size)
    (h : ∀ A' c' w', w'.ownsRow base e sz (.slice A' (n + m) c') (n + m) (xs ++ ys) → w.grownBy w' (Value.slice A n c).ownBlock → ((Value.slice A' (n + m) c').ownBlock = (Value.slice A n c).ownBlock ∨ (Value.slice A' (n + m) c').ownBlock = some w.heap.size) → wpList P ops Q rest (a.put o.dst (.slice A' (n + m) c')) w') : wpList P ops Q (o :: rest) a w :=
  wpList_plain hgd fun _ hK => wp_append_g s x t ho e ad hs hx ht hinfo hzs h0s hb hown hl hnews h1 hm hbase (Nat.zero_le _) fun A' c' w' a1 a2 a3 => hK _ _ (h A' c' w' a1 a2 a3)
theorem revinfo : (Try.prog.info? 29).map (fun i => (i.zero, i.size, i.bytes)) = some (some (.agg #[.int .i64 0, .int .i64 0]), 2, 16) := by kernel_rfl
theorem geninfo : (Try.prog.info? 60).map (fun i => (i.zero, i.size, i.bytes)) = some (some (.agg #[.int .i64 0, .int .i64 0, .slice none 0 0, .int .i64 0, .int .i64 0]), 5, 56) := by kernel_rfl

/-- Create and version of a put that comes next. -/
def nextG (gs : List Gn) (q : Rv) : Int × Int := match gs.getLast? with
  | some x => if x.ended then (q.1, 1) else (x.c, wrap64 (x.v + (x.ps.length : Int)))
  | none => (q.1, 1)
theorem gcell_far {W : World} {b : Nat} {p p' : Addr} (u : Value) (hb : p.block = b) (h : p'.block ≠ b) : (W.setCell p u).cell? p' = W.cell? p' := World.cell?_of_block (Below.heap_setCell W p u _ (by rw [hb]; exact fun e => h e))
theorem gstore4 {B : Nat} {w W : World} {b : Nat} {t : TypeId} {x0 x1 x2 x3 : Value} (hq : Blk W b t [x0, x1, x2, x3]) (hb : Below B w W) (hB : B ≤ b) (u0 u1 u2 u3 : Value) :
    Blk ((((W.setCell ⟨b, 0, none⟩ u0).setCell ⟨b, 1, none⟩ u1).setCell ⟨b, 2, none⟩ u2).setCell ⟨b, 3, none⟩ u3) b t [u0, u1, u2, u3] ∧ Below B w ((((W.setCell ⟨b, 0, none⟩ u0).setCell ⟨b, 1, none⟩ u1).setCell ⟨b, 2, none⟩ u2).setCell ⟨b, 3, none⟩ u3) ∧ ∀ p : Addr, p.block ≠ b → ((((W.setCell ⟨b, 0, none⟩ u0).setCell ⟨b, 1, none⟩ u1).setCell ⟨b, 2, none⟩ u2).setCell ⟨b, 3, none⟩ u3).cell? p = W.cell? p :=
  ⟨(((hq.set_ 0 u0).set_ 1 u1).set_ 2 u2).set_ 3 u3, (((hb.setCell (p := ⟨b, 0, none⟩) hB u0).setCell (p := ⟨b, 1, none⟩) hB u1).setCell (p := ⟨b, 2, none⟩) hB u2).setCell (p := ⟨b, 3, none⟩) hB u3, fun p hp => (gcell_far (b := b) u3 rfl hp).trans ((gcell_far (b := b) u2 rfl hp).trans ((gcell_far (b := b) u1 rfl hp).trans (gcell_far (b := b) u0 rfl hp)))⟩
theorem next_new {w : World} {r : Nat} (q : Rv) (HG : ∀ W, Below w.heap.size w W → Hid (Calls Try.prog 32 #[.pointer (some ⟨r, 0, none⟩)] W fun e w' => e = .returned (.pointer none) ∧ Below W.heap.size W w')) :
    Calls Try.prog 34 #[.pointer (some ⟨r, 0, none⟩), .agg #[.int .i64 q.1, .int .i64 q.2]] w fun e w' => e = .returned (.agg #[.int .i64 q.1, .int .i64 q.2, .int .i64 q.1, .int .i64 1]) ∧ Below w.heap.size w w' := by
  have hB0 := ((Below.refl w.heap.size w).alloc (Nat.le_refl _) (.cells #[.int .i64 q.1, .int .i64 q.2] 29)).alloc (by simp) (.cells #[.int .i64 0, .int .i64 0, .int .i64 0, .int .i64 0] 33)
  have HT := kept ((two_new w 29 q.1 q.2).keeps (Keeps.alloc _ (.cells #[.int .i64 0, .int .i64 0, .int .i64 0, .int .i64 0] 33)))
  have HK := kept (Blk.new (w.alloc (.cells #[.int .i64 q.1, .int .i64 q.2] 29)) 33 #[.int .i64 0, .int .i64 0, .int .i64 0, .int .i64 0])
  rw [World.size_alloc] at HK
  have HG0 := HG _ hB0
  have HB := kept hB0
  clear HG hB0
  go_enter Try.func34, Try.ntmps34
  go_wp2_with fail
  generalize (w.alloc (.cells #[.int .i64 q.1, .int .i64 q.2] 29)).alloc (.cells #[.int .i64 0, .int .i64 0, .int .i64 0, .int .i64 0] 33) = W0 at HG0 HT HK HB ⊢
  with_reducible refine HG0.out.mono ?_
  rintro e w1 ⟨rfl, hb⟩
  obtain ⟨t0, t1⟩ := HT.out.keeps (Keeps.of_below hb)
  have hk := HK.out.below hb HK.out.lt
  have q0 : w1.cell? ⟨w.heap.size + 1, 0, none⟩ = some (.int .i64 0) := hk.cell 0
  have q1 : w1.cell? ⟨w.heap.size + 1, 1, none⟩ = some (.int .i64 0) := hk.cell 1
  have q2 : w1.cell? ⟨w.heap.size + 1, 2, none⟩ = some (.int .i64 0) := hk.cell 2
  have q3 : w1.cell? ⟨w.heap.size + 1, 3, none⟩ = some (.int .i64 0) := hk.cell 3
  have f0 := hk.frozen 0
  have f1 := hk.frozen 1
  have f2 := hk.frozen 2
  have f3 := hk.frozen 3
  have HB1 := kept (bel_to hb HB.out)
  have HK1 := kept hk
  clear hb hk
  go_wp2
  have hx2 := gstore4 HK1.out HB1.out (by omega) (.int .i64 q.1) (.int .i64 q.2) (.int .i64 q.1) (.int .i64 1)
  generalize (((w1.setCell ⟨w.heap.size + 1, 0, none⟩ (.int .i64 q.1)).setCell ⟨w.heap.size + 1, 1, none⟩ (.int .i64 q.2)).setCell ⟨w.heap.size + 1, 2, none⟩ (.int .i64 q.1)).setCell ⟨w.heap.size + 1, 3, none⟩ (.int .i64 1) = X at hx2 ⊢
  obtain ⟨hbk, hbx, _⟩ := hx2
  have v0 : X.cell? ⟨w.heap.size + 1, 0, none⟩ = some (.int .i64 q.1) := hbk.cell 0
  have v1 : X.cell? ⟨w.heap.size + 1, 1, none⟩ = some (.int .i64 q.2) := hbk.cell 1
  have v2 : X.cell? ⟨w.heap.size + 1, 2, none⟩ = some (.int .i64 q.1) := hbk.cell 2
  have v3 : X.cell? ⟨w.heap.size + 1, 3, none⟩ = some (.int .i64 1) := hbk.cell 3
  exact bodyPost_ret (v := .agg #[.int .i64 q.1, .int .i64 q.2, .int .i64 q.1, .int .i64 1]) (by simp [results, Try.results34, go_sem, v0, v1, v2, v3]) rfl ⟨rfl, hbx⟩
theorem next_on {w : World} {r g m k : Nat} {Li : List GL} {L : GL} {gi : List Gn} {x : Gn} (h : Last w r g m k Li L gi x) (hn : m + 1 ≤ 1000000) (hx : x.ended = false) (q : Rv) :
    Calls Try.prog 34 #[.pointer (some ⟨r, 0, none⟩), .agg #[.int .i64 q.1, .int .i64 q.2]] w fun e w' => e = .returned (.agg #[.int .i64 q.1, .int .i64 q.2, .int .i64 L.c, .int .i64 (wrap64 (L.v + (L.n : Int)))]) ∧ Below w.heap.size w w' := by
  have hB0 := ((Below.refl w.heap.size w).alloc (Nat.le_refl _) (.cells #[.int .i64 q.1, .int .i64 q.2] 29)).alloc (by simp) (.cells #[.int .i64 0, .int .i64 0, .int .i64 0, .int .i64 0] 33)
  have HT := kept ((two_new w 29 q.1 q.2).keeps (Keeps.alloc _ (.cells #[.int .i64 0, .int .i64 0, .int .i64 0, .int .i64 0] 33)))
  have HK := kept (Blk.new (w.alloc (.cells #[.int .i64 q.1, .int .i64 q.2] 29)) 33 #[.int .i64 0, .int .i64 0, .int .i64 0, .int .i64 0])
  rw [World.size_alloc] at HK
  have h0 := h.below hB0
  have HG0 := kept (going_some h0 hn)
  rw [hx] at HG0
  have HL := kept h0
  have HF := fun W => kept (found_any L q (L.n : Int) W)
  simp only [GL.val] at HF
  have HB := kept hB0
  have hgw : g < w.heap.size := (gown_lt h.gs.own rfl).2
  clear h h0 hB0 hx
  go_enter Try.func34, Try.ntmps34
  go_wp2_with fail
  generalize (w.alloc (.cells #[.int .i64 q.1, .int .i64 q.2] 29)).alloc (.cells #[.int .i64 0, .int .i64 0, .int .i64 0, .int .i64 0] 33) = W0 at HG0 HT HK HB HL ⊢
  with_reducible refine HG0.out.mono ?_
  rintro e w1 ⟨rfl, hb⟩
  have ht := HT.out.keeps (Keeps.of_below hb)
  have hl1 := HL.out.below hb
  have hk := HK.out.below hb HK.out.lt
  have HS0 := kept (show (fun W' : World => (W'.cell? ⟨w.heap.size, 0, none⟩ = some (.int .i64 q.1) ∧ W'.cell? ⟨w.heap.size, 1, none⟩ = some (.int .i64 q.2)) ∧ (W'.cell? ⟨g, m * 5, none⟩ = some (.int .i64 L.c) ∧ W'.cell? ⟨g, m * 5 + 1, none⟩ = some (.int .i64 L.v) ∧ W'.cell? ⟨g, m * 5 + 2, none⟩ = some (.slice L.A L.n L.k) ∧ W'.cell? ⟨g, m * 5 + 3, none⟩ = some (.int .i64 L.e.1) ∧ W'.cell? ⟨g, m * 5 + 4, none⟩ = some (.int .i64 L.e.2))) w1.drew from ⟨ht, hl1.c0, hl1.c1, hl1.c2, hl1.c3, hl1.c4⟩)
  have HB1 := kept (bel_to hb HB.out).drew
  have HK1 := kept (show Blk w1.drew _ _ _ from hk)
  clear hb hk ht hl1
  go_wp2
  refine wp_region_held_drew (S := (fun W' => (W'.cell? ⟨w.heap.size, 0, none⟩ = some (.int .i64 q.1) ∧ W'.cell? ⟨w.heap.size, 1, none⟩ = some (.int .i64 q.2)) ∧ (W'.cell? ⟨g, m * 5, none⟩ = some (.int .i64 L.c) ∧ W'.cell? ⟨g, m * 5 + 1, none⟩ = some (.int .i64 L.v) ∧ W'.cell? ⟨g, m * 5 + 2, none⟩ = some (.slice L.A L.n L.k) ∧ W'.cell? ⟨g, m * 5 + 3, none⟩ = some (.int .i64 L.e.1) ∧ W'.cell? ⟨g, m * 5 + 4, none⟩ = some (.int .i64 L.e.2)))) (by kernel_rfl) ?_ (fun hHeld => ?_)
  · ((try dsimp only); (first | with_reducible exact HS0.out | with_reducible exact HS1.out | (with_reducible exact HS2.out)))
  refine hand_take 0 (some 10) ?_ (by kernel_rfl) (by kernel_rfl) (by kernel_rfl) (by kernel_rfl) (by kernel_rfl) (fun _ _ _ h => h) ?_ (by assumption) ?_
  rotate_left
  · (intro o ho w hSw; (simp only [List.getElem?_toArray, List.getElem?_cons_succ, List.getElem?_cons_zero, Option.some.injEq] at ho); subst ho; (try dsimp only at hSw); go_simp; (first | done | with_reducible rfl))
  (try simp only [Act.put, List.setIfInBounds_toArray, List.set_cons_zero, List.set_cons_succ])
  refine hand_take 1 (some 11) ?_ (by kernel_rfl) (by kernel_rfl) (by kernel_rfl) (by kernel_rfl) (by kernel_rfl) (fun _ _ _ h => h) ?_ (by assumption) ?_
  rotate_left
  · (intro o ho w hSw; (simp only [List.getElem?_toArray, List.getElem?_cons_succ, List.getElem?_cons_zero, Option.some.injEq] at ho); subst ho; (try dsimp only at hSw); go_simp; (first | done | with_reducible rfl))
  (try simp only [Act.put, List.setIfInBounds_toArray, List.set_cons_zero, List.set_cons_succ])
  refine hand_take 2 (some 12) ?_ (by kernel_rfl) (by kernel_rfl) (by kernel_rfl) (by kernel_rfl) (by kernel_rfl) (fun _ _ _ h => h) ?_ (by assumption) ?_
  rotate_left
  · (intro o ho w hSw; (simp only [List.getElem?_toArray, List.getElem?_cons_succ, List.getElem?_cons_zero, Option.some.injEq] at ho); subst ho; (try dsimp only at hSw); go_simp; (first | done | with_reducible rfl))
  (try simp only [Act.put, List.setIfInBounds_toArray, List.set_cons_zero, List.set_cons_succ])
  refine hand_take 3 (some 13) ?_ (by kernel_rfl) (by kernel_rfl) (by kernel_rfl) (by kernel_rfl) (by kernel_rfl) (fun _ _ _ h => h) ?_ (by assumption) ?_
  rotate_left
  · (intro o ho w hSw; (simp only [List.getElem?_toArray, List.getElem?_cons_succ, List.getElem?_cons_zero, Option.some.injEq] at ho); subst ho; (try dsimp only at hSw); go_simp; (first | done | with_reducible rfl))
  (try simp only [Act.put, List.setIfInBounds_toArray, List.set_cons_zero, List.set_cons_succ])
  refine hand_take 4 (some 14) ?_ (by kernel_rfl) (by kernel_rfl) (by kernel_rfl) (by kernel_rfl) (by kernel_rfl) (fun _ _ _ h => h) ?_ (by assumption) ?_
  rotate_left
  · (intro o ho w hSw; (simp only [List.getElem?_toArray, List.getElem?_cons_succ, List.getElem?_cons_zero, Option.some.injEq] at ho); subst ho; (try dsimp only at hSw); go_simp; (first | done | with_reducible rfl))
  (try simp only [Act.put, List.setIfInBounds_toArray, List.set_cons_zero, List.set_cons_succ])
  refine hand_take 5 (some 15) ?_ (by kernel_rfl) (by kernel_rfl) (by kernel_rfl) (by kernel_rfl) (by kernel_rfl) (fun _ _ _ h => h) ?_ (by assumption) ?_
  rotate_left
  · (intro o ho w hSw; (simp only [List.getElem?_toArray, List.getElem?_cons_succ, List.getElem?_cons_zero, Option.some.injEq] at ho); subst ho; (try dsimp only at hSw); go_simp; (first | done | with_reducible rfl))
  (try simp only [Act.put, List.setIfInBounds_toArray, List.set_cons_zero, List.set_cons_succ])
  refine hand_take 6 (some 16) ?_ (by kernel_rfl) (by kernel_rfl) (by kernel_rfl) (by kernel_rfl) (by kernel_rfl) (fun _ _ _ h => h) ?_ (by assumption) ?_
  rotate_left
  · (intro o ho w hSw; (simp only [List.getElem?_toArray, List.getElem?_cons_succ, List.getElem?_cons_zero, Option.some.injEq] at ho); subst ho; (try dsimp only at hSw); go_simp; (first | done | with_reducible rfl))
  (try simp only [Act.put, List.setIfInBounds_toArray, List.set_cons_zero, List.set_cons_succ])
  refine hand_take 7 (some 17) ?_ (by kernel_rfl) (by kernel_rfl) (by kernel_rfl) (by kernel_rfl) (by kernel_rfl) (fun _ _ _ h => h) ?_ (by assumption) ?_
  rotate_left
  · (intro o ho w hSw; (simp only [List.getElem?_toArray, List.getElem?_cons_succ, List.getElem?_cons_zero, Option.some.injEq] at ho); subst ho; (try dsimp only at hSw); go_simp; (first | done | with_reducible rfl))
  (try simp only [Act.put, List.setIfInBounds_toArray, List.set_cons_zero, List.set_cons_succ])
  refine hand_take 8 (some 18) ?_ (by kernel_rfl) (by kernel_rfl) (by kernel_rfl) (by kernel_rfl) (by kernel_rfl) (fun _ _ _ h => h) ?_ (by assumption) ?_
  rotate_left
  · (intro o ho w hSw; (simp only [List.getElem?_toArray, List.getElem?_cons_succ, List.getElem?_cons_zero, Option.some.injEq] at ho); subst ho; (try dsimp only at hSw); go_simp; (first | done | with_reducible rfl))
  (try simp only [Act.put, List.setIfInBounds_toArray, List.set_cons_zero, List.set_cons_succ])
  refine hand_ready 9 (by kernel_rfl) (by kernel_rfl) (fun o ho K hK => ?_)
  (simp only [List.getElem?_toArray, List.getElem?_cons_succ, List.getElem?_cons_zero, Option.some.injEq] at ho)
  subst ho
  go_simp
  (go_at_call 21; (with_reducible refine (HF _).out.mono ?_); rintro e w2 ⟨rfl, hb⟩; (have hkp := Keeps.of_below hb); (have HS1 := kept (show (fun W' : World => (W'.cell? ⟨w.heap.size, 0, none⟩ = some (.int .i64 q.1) ∧ W'.cell? ⟨w.heap.size, 1, none⟩ = some (.int .i64 q.2)) ∧ (W'.cell? ⟨g, m * 5, none⟩ = some (.int .i64 L.c) ∧ W'.cell? ⟨g, m * 5 + 1, none⟩ = some (.int .i64 L.v) ∧ W'.cell? ⟨g, m * 5 + 2, none⟩ = some (.slice L.A L.n L.k) ∧ W'.cell? ⟨g, m * 5 + 3, none⟩ = some (.int .i64 L.e.1) ∧ W'.cell? ⟨g, m * 5 + 4, none⟩ = some (.int .i64 L.e.2))) w2 from ⟨⟨hkp.cell_ HS0.out.1.1, hkp.cell_ HS0.out.1.2⟩, hkp.cell_ HS0.out.2.1, hkp.cell_ HS0.out.2.2.1, hkp.cell_ HS0.out.2.2.2.1, hkp.cell_ HS0.out.2.2.2.2.1, hkp.cell_ HS0.out.2.2.2.2.2⟩)); have HB2 := kept (bel_to hb HB1.out); have HK2 := kept (HK1.out.below hb HK1.out.lt); (have q0 : w2.cell? ⟨w.heap.size + 1, 0, none⟩ = some (.int .i64 0) := HK2.out.cell 0); (have q1 : w2.cell? ⟨w.heap.size + 1, 1, none⟩ = some (.int .i64 0) := HK2.out.cell 1); (have q2 : w2.cell? ⟨w.heap.size + 1, 2, none⟩ = some (.int .i64 0) := HK2.out.cell 2); (have q3 : w2.cell? ⟨w.heap.size + 1, 3, none⟩ = some (.int .i64 0) := HK2.out.cell 3); have f0 := HK2.out.frozen 0; have f1 := HK2.out.frozen 1; have f2 := HK2.out.frozen 2; have f3 := HK2.out.frozen 3; clear hb hkp)
  (try go_wp2_with fail)
  refine hK.out _ _ ?_ (fun hHeld => ?_)
  · ((try dsimp only); (first | with_reducible exact HS0.out | with_reducible exact HS1.out | (with_reducible exact HS2.out)))
  clear hK K
  (try simp only [Act.put, List.setIfInBounds_toArray, List.set_cons_zero, List.set_cons_succ])
  refine hand_ready 10 (by kernel_rfl) (by kernel_rfl) (fun o ho K hK => ?_)
  (simp only [List.getElem?_toArray, List.getElem?_cons_succ, List.getElem?_cons_zero, Option.some.injEq] at ho)
  subst ho
  go_simp
  (have hx2 := gstore4 HK2.out HB2.out (by omega) (.int .i64 q.1) (.int .i64 q.2) (.int .i64 L.c) (.int .i64 (wrap64 (L.v + (L.n : Int)))); generalize (((w2.setCell ⟨w.heap.size + 1, 0, none⟩ (.int .i64 q.1)).setCell ⟨w.heap.size + 1, 1, none⟩ (.int .i64 q.2)).setCell ⟨w.heap.size + 1, 2, none⟩ (.int .i64 L.c)).setCell ⟨w.heap.size + 1, 3, none⟩ (.int .i64 (wrap64 (L.v + (L.n : Int)))) = X at hx2 ⊢; have HX := kept hx2; (have HS2 := kept (show (fun W' : World => (W'.cell? ⟨w.heap.size, 0, none⟩ = some (.int .i64 q.1) ∧ W'.cell? ⟨w.heap.size, 1, none⟩ = some (.int .i64 q.2)) ∧ (W'.cell? ⟨g, m * 5, none⟩ = some (.int .i64 L.c) ∧ W'.cell? ⟨g, m * 5 + 1, none⟩ = some (.int .i64 L.v) ∧ W'.cell? ⟨g, m * 5 + 2, none⟩ = some (.slice L.A L.n L.k) ∧ W'.cell? ⟨g, m * 5 + 3, none⟩ = some (.int .i64 L.e.1) ∧ W'.cell? ⟨g, m * 5 + 4, none⟩ = some (.int .i64 L.e.2))) X from (by obtain ⟨⟨s0, s1⟩, s2, s3, s4, s5, s6⟩ := HS1.out; have hf := hx2.2.2; exact ⟨⟨(hf _ (by show w.heap.size ≠ w.heap.size + 1; omega)).trans s0, (hf _ (by show w.heap.size ≠ w.heap.size + 1; omega)).trans s1⟩, (hf _ (by show g ≠ w.heap.size + 1; omega)).trans s2, (hf _ (by show g ≠ w.heap.size + 1; omega)).trans s3, (hf _ (by show g ≠ w.heap.size + 1; omega)).trans s4, (hf _ (by show g ≠ w.heap.size + 1; omega)).trans s5, (hf _ (by show g ≠ w.heap.size + 1; omega)).trans s6⟩))); clear hx2)
  refine hK.out _ _ ?_ (fun hHeld => ?_)
  · ((try dsimp only); (first | with_reducible exact HS0.out | with_reducible exact HS1.out | (with_reducible exact HS2.out)))
  clear hK K
  (try simp only [Act.put, List.setIfInBounds_toArray, List.set_cons_zero, List.set_cons_succ])
  refine wpAnyH_done (by kernel_rfl) ?_ _
  clear hHeld q0 q1 q2 q3 f0 f1 f2 f3
  go_wp2
  obtain ⟨hbk, hbx, _⟩ := HX.out
  have v0 : X.cell? ⟨w.heap.size + 1, 0, none⟩ = some (.int .i64 q.1) := hbk.cell 0
  have v1 : X.cell? ⟨w.heap.size + 1, 1, none⟩ = some (.int .i64 q.2) := hbk.cell 1
  have v2 : X.cell? ⟨w.heap.size + 1, 2, none⟩ = some (.int .i64 L.c) := hbk.cell 2
  have v3 : X.cell? ⟨w.heap.size + 1, 3, none⟩ = some (.int .i64 (wrap64 (L.v + (L.n : Int)))) := hbk.cell 3
  exact bodyPost_ret (v := .agg #[.int .i64 q.1, .int .i64 q.2, .int .i64 L.c, .int .i64 (wrap64 (L.v + (L.n : Int)))]) (by simp [results, Try.results34, go_sem, v0, v1, v2, v3]) rfl ⟨rfl, hbx⟩
end Go.Proofs.Ythpaliagmnclfaa
