/-
  Texts laid together: Gv.
-/
import Derived.Test.YtlckeebbjnhejaaGreatBGm
import Derived.Test.YtlckeebbjnhejaaGreatBHnd
import Derived.Deep.WholeRow
section
/-
  The document's own history, loosely: check, Put, Tomb.
-/
namespace Go.Proofs.YtlckeebbjnhejaaGreat
open Go.ChangeShapes Go.WideShapes Go.ChangeAt Go.RowKit Go.Deep
set_option linter.unusedVariables false
set_option linter.unusedSimpArgs false

/-- What check answers: one of three words. -/
def RChk (w : World) (e : Ending) (w' : World) : Prop := ∃ er : Int, (er = 0 ∨ er = 2 ∨ er = 8) ∧ e = .returned (.int .i64 er) ∧ Below w.heap.size w w'
set_option maxHeartbeats 1000000 in
theorem rcheck_any {w : World} {B b n : Nat} (h : RF w B b n) (hn : n ≤ 1000000) (q : Rv) :
    Calls Tryz.prog 101 #[.pointer (some ⟨b, 0, none⟩), .agg #[.int .i64 q.1, .int .i64 q.2]] w (RChk w) := by
  have hB0 := (Below.refl w.heap.size w).alloc (Nat.le_refl _) (.cells #[.int .i64 q.1, .int .i64 q.2] 29)
  have HT := kept (two_new w 29 q.1 q.2)
  have H0 := kept (h.below hB0)
  have HB := kept hB0
  have HR := fun W => kept (refRight_r q.1 q.2 W)
  have HL := fun W (h : RF W B b n) => kept (rlast_any h hn)
  have HA := fun (x : En5) W => kept (refAhead_any x.a x.b q.1 q.2 W)
  clear hB0 h hn
  generalize rightR q.1 q.2 = rt at HR
  cases rt
  · go_enter Tryz.func101, Tryz.ntmps101
    go_wp2_with (first | (go_at_call 105; (with_reducible refine ((HR _).out).mono ?_); rintro e w1 ⟨rfl, hb⟩; have HX := kept (bel_to hb HB.out); clear hb))
    go_returns
    exact ⟨2, by simp, rfl, HX.out⟩
  · go_enter Tryz.func101, Tryz.ntmps101
    go_wp2_with fail
    generalize w.alloc (.cells #[.int .i64 q.1, .int .i64 q.2] 29) = W0 at H0 HB HT ⊢
    with_reducible refine (HR _).out.mono ?_
    rintro e w1 ⟨rfl, hb⟩
    have H1 := kept (H0.out.below hb)
    have HB1 := kept (bel_to hb HB.out)
    have HT1 := kept (HT.out.keeps (Keeps.of_below hb))
    clear hb
    go_wp2_with fail
    with_reducible refine (HL _ H1.out).out.mono ?_
    rintro e w2 ⟨x, ok, rfl, hb⟩
    have hT2 := HT1.out.keeps (Keeps.of_below hb)
    have u0 := hT2.1
    have u1 := hT2.2
    have v0 : ∀ o, (w2.alloc o).cell? ⟨w.heap.size, 0, none⟩ = some (.int .i64 q.1) := fun o => (Keeps.alloc w2 o).cell_ u0
    have v1 : ∀ o, (w2.alloc o).cell? ⟨w.heap.size, 1, none⟩ = some (.int .i64 q.2) := fun o => (Keeps.alloc w2 o).cell_ u1
    have HB2 := kept (bel_to hb HB1.out)
    have HBA := fun o => kept (bel_to ((Below.refl w2.heap.size w2).alloc (Nat.le_refl _) o) HB2.out)
    clear hb hT2
    have HA1 := fun W => HA x W
    generalize decide (ordR x.a x.b q.1 q.2 < 0) = ah at HA1
    cases ok
    · go_wp2
      go_returns
      exact ⟨0, by simp, rfl, (HBA _).out⟩
    · cases ah
      all_goals
        go_wp2_with (first | (go_at_call 103; (with_reducible refine ((HA1 _).out).mono ?_); rintro e w3 ⟨rfl, hb⟩; have HX := kept (bel_to hb (HBA _).out); clear hb))
        go_returns
        exact ⟨_, by simp, rfl, HX.out⟩
/-- What a call that may change it leaves: n' entries at most one more. -/
def RChg (w : World) (B b n : Nat) (e : Ending) (w' : World) : Prop := ∃ (er : Int) (n' : Nat), (er = 0 ∨ er = 2 ∨ er = 8 ∨ er = 7 ∨ er = 4) ∧ e = .returned (.int .i64 er) ∧ RF w' B b n' ∧ n' ≤ n + 1 ∧ (er = 0 → 0 < n') ∧ TurnR B w w'
theorem drew_alloc_ (X : World) (o : Obj) : (X.alloc o).drew = X.drew.alloc o := rfl
theorem own_mono3 {w : World} {base base' : Nat} {e : TypeId} {sz : Nat} {v : Value} {n : Nat} {xs : List Value} (h : w.ownsRow base e sz v n xs) (hb : base' ≤ base) : w.ownsRow base' e sz v n xs := by
  refine ⟨h.1, ?_⟩
  rcases h.2 with h0 | ⟨g, cap, cur, hv, hg, r⟩
  · exact .inl h0
  · exact .inr ⟨g, cap, cur, hv, Nat.le_trans hb hg, r⟩
/-- append onto an own row from a row that may be nil. -/
theorem wp_append_h {P : Program} {w : World} {o : Oper} {a : Act} {K : Act → World → Prop} {Q : Exit → Act → World → Prop} (s x : Operand) (t : TypeId) (ho : o.op = .call { callee := .builtin .append, args := #[s, x], argTypes := #[t, t] }) (e : TypeId) {z : Value} {sz bytes : Nat} {base n c : Nat} {xs : List Value} {A B : Option Addr} {m k : Nat} {ys : List Value}
    (hs : a.eval s = .slice A n c) (hx : a.eval x = .slice B m k) (ht : P.underlying t = some (.slice e)) (hinfo : (P.info? e).map (fun i => (i.zero, i.size, i.bytes)) = some (some z, sz, bytes)) (hzs : z.cells.size = sz) (h0s : 0 < sz) (hb : bytes ≤ 1000)
    (hown : w.ownsRow base e sz (.slice A n c) n xs) (hl : ys.length = m * sz) (hsrc : 0 < m → ∃ ad, B = some ad ∧ ∀ j u, ys[j]? = some u → w.cell? (ad.add j) = some u) (h1 : ∀ u ∈ ys, u.oneCell' = true) (hm : n + m ≤ 3000000) (hbase : base ≤ w.heap.size)
    (h : ∀ A' c' w', w'.ownsRow base e sz (.slice A' (n + m) c') (n + m) (xs ++ ys) → w.grownBy w' (Value.slice A n c).ownBlock → K (a.put o.dst (.slice A' (n + m) c')) w') : o.wp P a w K Q := by
  rcases Nat.eq_zero_or_pos m with h0 | h0
  · subst h0
    obtain rfl : ys = [] := List.eq_nil_of_length_eq_zero (by rw [hl, Nat.zero_mul])
    obtain ⟨i, hi, hz, hsz, hby⟩ := info_parts hinfo
    have hnc := (gown_cap hown).1
    have hrun : (Builtin.append_ #[t, t] o.type #[.slice A n c, .slice B 0 k]).run P w = .ok (.slice A n c) w := by
      cases A <;> cases B <;> simp [Builtin.append_, run_underlying ht, sizeOf, typeInfo, hi, Builtin.lenOf, Builtin.firstCells, loadCells, loadCellsFrom, hnc, storeCells]
    unfold Oper.wp execOp
    simp only [ho, resolve, invoke, builtin, Sem.run_bind, Sem.run_pure, Result.andThen_ok, List.map_toArray, List.map_cons, List.map_nil, hs, hx, hrun]
    exact h A c w (by simpa using hown) ⟨rfl, rfl, rfl, Nat.le_refl _, fun _ _ _ => rfl⟩
  · obtain ⟨ad, rfl, hc⟩ := hsrc h0
    exact wp_append_g s x t ho e ad hs hx ht hinfo hzs h0s hb hown hl hc h1 hm hbase (Nat.zero_le _) fun A' c' w' a1 a2 _ => h A' c' w' a1 a2
theorem ren_empty {M : Nat} {X W : World} {t : TypeId} (hM : M ≤ X.heap.size) (hW : W = X.alloc (.cells #[] t)) : W.ownsRow M t 5 (.slice (some ⟨X.heap.size, 0, none⟩) 0 0) 0 [] := by
  subst hW
  exact ⟨rfl, .inr ⟨X.heap.size, 0, #[], rfl, hM, Blk.new X t #[], Nat.le_refl _, Nat.zero_le _, rfl, rfl⟩⟩
theorem ren_new {X W : World} {t : TypeId} {cs : Array Value} (hW : W = X.alloc (.cells cs t)) : Blk W X.heap.size t cs.toList := by
  subst hW
  exact Blk.new X t cs
theorem ne_new {M eb : Nat} {X W : World} {t : TypeId} {o : Obj} (h : X.ownsRow M t 5 (.slice (some ⟨eb, 0, none⟩) 0 0) 0 []) (hW : W = X.alloc o) : X.heap.size ≠ eb := Nat.ne_of_gt (gown_lt h (g := eb) rfl).2
theorem ne_new' {y8 : Nat} {X W : World} {t : TypeId} {cs : List Value} {o : Obj} (h : Blk X y8 t cs) (hW : W = X.alloc o) : y8 ≠ X.heap.size := Nat.ne_of_lt h.lt
theorem blk_grown {W W' : World} {y8 : Nat} {t : TypeId} {cs : List Value} {r : Option Nat} (h : Blk W y8 t cs) (g : W.grownBy W' r) (hn : r ≠ some y8) : Blk W' y8 t cs := (g.block y8 h.lt (fun e => hn e.symm)).trans h
theorem bel_grown {M : Nat} {w W W' : World} {A : Option Addr} {n c : Nat} {t : TypeId} {sz : Nat} {xs : List Value} (h : Below M w W) (hM : M ≤ w.heap.size) (ho : W.ownsRow M t sz (.slice A n c) n xs) (g : W.grownBy W' (Value.slice A n c).ownBlock) : Below M w W' := h.grown g (Nat.le_trans hM h.size) (fun j hj => (gown_lt ho hj).1)
set_option maxHeartbeats 2000000 in
theorem rput_any {w : World} {B b n : Nat} (h : RF w B b n) (hn : n ≤ 900000) (q : Rv) :
    Calls Tryz.prog 67 #[.pointer (some ⟨b, 0, none⟩), .agg #[.int .i64 q.1, .int .i64 q.2]] w (RChg w B b n) := by
  have hB0 := (Below.refl w.heap.size w).alloc (Nat.le_refl _) (.cells #[.int .i64 q.1, .int .i64 q.2] 29)
  have HT := kept (two_new w 29 q.1 q.2)
  have H0 := kept (h.below hB0)
  have HB := kept hB0
  have HCH := kept (rcheck_any H0.out (by omega) q)
  have HL := fun W (h : RF W B b n) => kept (rlast_any h (by omega))
  have HH := kept h
  clear hB0 h
  go_enter Tryz.func67, Tryz.ntmps67
  go_wp2_with fail
  generalize w.alloc (.cells #[.int .i64 q.1, .int .i64 q.2] 29) = W0 at H0 HB HT HCH ⊢
  obtain ⟨t0, t1⟩ := HT.out
  go_wp2_with fail
  with_reducible refine HCH.out.mono ?_
  rintro e w1 ⟨er, her, rfl, hb⟩
  rcases her with rfl | her
  · have H1 := kept (H0.out.below hb)
    have HB1 := kept (bel_to hb HB.out)
    have hT1 := HT.out.keeps (Keeps.of_below hb)
    have u0 := hT1.1
    have u1 := hT1.2
    have hb1 : Below w1.heap.size w1 (w1.alloc (.cells #[.int .i64 q.1, .int .i64 q.2, .bool false, .int .i64 q.1, .int .i64 1] 124)) := (Below.refl _ w1).alloc (Nat.le_refl _) _
    have HL2 := HL _ (H1.out.below hb1)
    have HB2 := kept (bel_to hb1 HB1.out)
    have HK2 := kept (Blk.new w1 124 #[.int .i64 q.1, .int .i64 q.2, .bool false, .int .i64 q.1, .int .i64 1])
    have HBW2 := kept hb1
    clear hb hT1 hb1 t0 t1
    go_wp2_with fail
    generalize w1.alloc (.cells #[.int .i64 q.1, .int .i64 q.2, .bool false, .int .i64 q.1, .int .i64 1] 124) = W2 at HL2 HB2 HK2 HBW2 ⊢
    with_reducible refine HL2.out.mono ?_
    rintro e w3 ⟨x, ok, rfl, hb⟩
    -- TAIL
    have HK3 := kept (HK2.out.below hb HK2.out.lt)
    have hbx3 : ∀ o, (w3.alloc o).cell? ⟨w1.heap.size, 3, none⟩ = some (.int .i64 q.1) := fun o => (HK3.out.alloc o).cell 3
    have hbx4 : ∀ o, (w3.alloc o).cell? ⟨w1.heap.size, 4, none⟩ = some (.int .i64 1) := fun o => (HK3.out.alloc o).cell 4
    have hfr3 : ∀ o, (w3.alloc o).frozen? ⟨w1.heap.size, 3, none⟩ = false := fun o => (HK3.out.alloc o).frozen 3
    have hfr4 : ∀ o, (w3.alloc o).frozen? ⟨w1.heap.size, 4, none⟩ = false := fun o => (HK3.out.alloc o).frozen 4
    have HB13 := kept (bel_to hb HBW2.out)
    obtain ⟨csb, HHB⟩ : ∃ cs, Hid (w.heap[b]? = some (.cells cs 118 (0, 0))) := by
      obtain ⟨A, k, I, h1, _⟩ := HH.out
      exact ⟨_, h1⟩
    clear hb u0 u1 HL HT H0 HCH HK2 HL2 HBW2
    cases ok
    · have hrf : RF ((w3).alloc (.cells #[.int .i64 x.a, .int .i64 x.b, .bool x.t, .int .i64 x.c, .int .i64 x.v] 124)) B b n := H1.out.below (bel_to ((Below.refl (w3).heap.size (w3)).alloc (Nat.le_refl _) _) (HB13.out))
      obtain ⟨A, k, I, hbx, hown, hIl, _⟩ := hrf
      have hyk : Blk ((w3).alloc (.cells #[.int .i64 x.a, .int .i64 x.b, .bool x.t, .int .i64 x.c, .int .i64 x.v] 124)) w1.heap.size 124 (En5.cells ⟨q.1, q.2, false, q.1, 1⟩) := (HK3.out).alloc _
      have hbs : Below w.heap.size w ((w3).alloc (.cells #[.int .i64 x.a, .int .i64 x.b, .bool x.t, .int .i64 x.c, .int .i64 x.v] 124)) := bel_to (bel_to ((Below.refl (w3).heap.size (w3)).alloc (Nat.le_refl _) _) (HB13.out)) HB1.out
      go_wp2
      generalize hEs : ((w3).alloc (.cells #[.int .i64 x.a, .int .i64 x.b, .bool x.t, .int .i64 x.c, .int .i64 x.v] 124)) = Es at hbx hown hyk hbs ⊢
      generalize hyy : (⟨q.1, q.2, false, q.1, 1⟩ : En5) = y at hyk
      have hbe : Below Es.heap.size Es Es.drew := (Below.refl _ _).drew
      have HBX := kept (hbx.below hbe hbx.lt)
      have hyW := hyk.below hbe hyk.lt
      have howns := gown_turned hown (Turned.of_below hbe (fun _ => False)) (fun _ _ e => e)
      have HBW := kept (bel_to hbe hbs)
      have HI := kept (And.intro (show (renC I).length = n * 5 by rw [renC_length, hIl]) (And.intro (show 0 < n → ∃ ad, A = some ad ∧ ∀ j u, (renC I)[j]? = some u → Es.drew.cell? (ad.add j) = some u from fun h0 => by obtain ⟨g, e, _⟩ := gown_at howns h0; subst e; exact ⟨_, rfl, fun j u hj => howns.cells (g := g) rfl j u hj⟩) hIl))
      have HS0 := kept (show (fun W' : World => W'.cell? ⟨b, 0, none⟩ = some (.slice A n k) ∧ W'.cell? ⟨w1.heap.size, 0, none⟩ = some (.int .i64 y.a) ∧ W'.cell? ⟨w1.heap.size, 1, none⟩ = some (.int .i64 y.b) ∧ W'.cell? ⟨w1.heap.size, 2, none⟩ = some (.bool y.t) ∧ W'.cell? ⟨w1.heap.size, 3, none⟩ = some (.int .i64 y.c) ∧ W'.cell? ⟨w1.heap.size, 4, none⟩ = some (.int .i64 y.v)) Es.drew from ⟨HBX.out.cell 0, hyW.cell 0, hyW.cell 1, hyW.cell 2, hyW.cell 3, hyW.cell 4⟩)
      have HZ := kept (Below.refl Es.drew.heap.size Es.drew)
      clear hbx hown hyk hbs hbe hyW howns hIl hyy hEs
      refine region_L [12] ((fun W' => W'.cell? ⟨b, 0, none⟩ = some (.slice A n k) ∧ W'.cell? ⟨w1.heap.size, 0, none⟩ = some (.int .i64 y.a) ∧ W'.cell? ⟨w1.heap.size, 1, none⟩ = some (.int .i64 y.b) ∧ W'.cell? ⟨w1.heap.size, 2, none⟩ = some (.bool y.t) ∧ W'.cell? ⟨w1.heap.size, 3, none⟩ = some (.int .i64 y.c) ∧ W'.cell? ⟨w1.heap.size, 4, none⟩ = some (.int .i64 y.v))) (by kernel_rfl) ?_ (fun hHeld => ?_)
      · ((try dsimp only); (first | with_reducible exact HS0.out | with_reducible exact HS.out))
      (try simp only [List.size_toArray, List.length_cons, List.length_nil, Nat.reduceAdd, Array.replicate_succ, Array.replicate_zero, List.push_toArray, List.append_toArray, List.nil_append, List.cons_append])
      refine take_P 0 (some 37) ?_ (by (intro o ho w; (simp only [List.getElem?_toArray, List.getElem?_cons_succ, List.getElem?_cons_zero, Option.some.injEq] at ho); subst ho; go_simp; (first | done | with_reducible rfl))) (by ((try simp only [Act.put, hA, h0, h1]); (first | done | rfl))) (by first | exact fun _ => by assumption | exact fun hE => absurd hE (by decide))
      (try simp only [Act.put, List.setIfInBounds_toArray, List.set_cons_zero, List.set_cons_succ])
      refine take_P 2 (some 39) ?_ (by (intro o ho w; (simp only [List.getElem?_toArray, List.getElem?_cons_succ, List.getElem?_cons_zero, Option.some.injEq] at ho); subst ho; go_simp; (first | done | with_reducible rfl))) (by ((try simp only [Act.put, hA, h0, h1]); (first | done | rfl))) (by first | exact fun _ => by assumption | exact fun hE => absurd hE (by decide))
      (try simp only [Act.put, List.setIfInBounds_toArray, List.set_cons_zero, List.set_cons_succ])
      refine take_P 3 (some 40) ?_ (by (intro o ho w; (simp only [List.getElem?_toArray, List.getElem?_cons_succ, List.getElem?_cons_zero, Option.some.injEq] at ho); subst ho; go_simp; (first | done | with_reducible rfl))) (by ((try simp only [Act.put, hA, h0, h1]); (first | done | rfl))) (by first | exact fun _ => by assumption | exact fun hE => absurd hE (by decide))
      (try simp only [Act.put, List.setIfInBounds_toArray, List.set_cons_zero, List.set_cons_succ])
      refine take_P 4 (some 41) ?_ (by (intro o ho w; (simp only [List.getElem?_toArray, List.getElem?_cons_succ, List.getElem?_cons_zero, Option.some.injEq] at ho); subst ho; go_simp; (first | done | with_reducible rfl))) (by ((try simp only [Act.put, hA, h0, h1]); (first | done | rfl))) (by first | exact fun _ => by assumption | exact fun hE => absurd hE (by decide))
      (try simp only [Act.put, List.setIfInBounds_toArray, List.set_cons_zero, List.set_cons_succ])
      refine take_L 5 (some 42) ?_ (by (intro o ho w hSw; (simp only [List.getElem?_toArray, List.getElem?_cons_succ, List.getElem?_cons_zero, Option.some.injEq] at ho); subst ho; (try dsimp only at hSw); go_simp; (first | done | with_reducible rfl))) (by ((try simp only [Act.put, hA, h0, h1]); (first | done | rfl)))
      (try simp only [Act.put, List.setIfInBounds_toArray, List.set_cons_zero, List.set_cons_succ])
      refine take_L 7 (some 44) ?_ (by (intro o ho w hSw; (simp only [List.getElem?_toArray, List.getElem?_cons_succ, List.getElem?_cons_zero, Option.some.injEq] at ho); subst ho; (try dsimp only at hSw); go_simp; (first | done | with_reducible rfl))) (by ((try simp only [Act.put, hA, h0, h1]); (first | done | rfl)))
      (try simp only [Act.put, List.setIfInBounds_toArray, List.set_cons_zero, List.set_cons_succ])
      refine two_L 1 8 (fun o ho K hK => ?_) (fun o ho K hK => ?_)
      · (simp only [List.getElem?_toArray, List.getElem?_cons_succ, List.getElem?_cons_zero, Option.some.injEq] at ho)
        subst ho
        go_simp
        (refine name_world (fun We hWe => ?_); (try replace hWe := hWe.trans (drew_alloc_ _ _)); have hbe := below_alloc hWe; have HE := kept (ren_empty HZ.out.size hWe); replace HZ := kept (bel_to hbe HZ.out); (try have HNE := kept (ne_new' HY.out hWe)); (try replace HY := kept (HY.out.below hbe HY.out.lt)); (have HS := kept (show (fun W' : World => W'.cell? ⟨b, 0, none⟩ = some (.slice A n k) ∧ W'.cell? ⟨w1.heap.size, 0, none⟩ = some (.int .i64 y.a) ∧ W'.cell? ⟨w1.heap.size, 1, none⟩ = some (.int .i64 y.b) ∧ W'.cell? ⟨w1.heap.size, 2, none⟩ = some (.bool y.t) ∧ W'.cell? ⟨w1.heap.size, 3, none⟩ = some (.int .i64 y.c) ∧ W'.cell? ⟨w1.heap.size, 4, none⟩ = some (.int .i64 y.v)) _ from ⟨(Keeps.of_below HZ.out).cell_ HS0.out.1, (Keeps.of_below HZ.out).cell_ HS0.out.2.1, (Keeps.of_below HZ.out).cell_ HS0.out.2.2.1, (Keeps.of_below HZ.out).cell_ HS0.out.2.2.2.1, (Keeps.of_below HZ.out).cell_ HS0.out.2.2.2.2.1, (Keeps.of_below HZ.out).cell_ HS0.out.2.2.2.2.2⟩)); clear hbe hWe)
        refine hK.out _ _ ?_ (fun hHeld => ?_)
        · (first | exact fun hE => absurd hE (by decide) | (intro _; (try dsimp only); (first | with_reducible exact HS0.out | with_reducible exact HS.out)))
        clear hK K
        (try replace hHeld := hHeld (by decide))
        (try simp only [Act.put, List.setIfInBounds_toArray, List.set_cons_zero, List.set_cons_succ])
        refine two_L 6 8 (fun o ho K hK => ?_) (fun o ho K hK => ?_)
        · (simp only [List.getElem?_toArray, List.getElem?_cons_succ, List.getElem?_cons_zero, Option.some.injEq] at ho)
          subst ho
          (refine wp_append_h (.tmp 38) (.tmp 42) 116 rfl 124 rfl rfl Tryz.underlying116 reninfo rfl (by decide) (by decide) HE.out (ys := renC I) HI.out.1 (fun h0 => by obtain ⟨ad, e, hc⟩ := HI.out.2.1 h0; exact ⟨ad, e, fun j u hj => (Keeps.of_below HZ.out).cell_ (hc j u hj)⟩) (renC_one _) (by omega) HZ.out.size ?_; intro A6 c6 w6 h6 g6; rw [Nat.zero_add, List.nil_append] at h6; (try simp only [Nat.zero_add]); have HP := kept h6; (try replace HY := kept (blk_grown HY.out g6 (fun e => HNE.out (Option.some.inj e).symm))); replace HZ := kept (bel_grown HZ.out (Nat.le_refl _) HE.out g6); (have HS := kept (show (fun W' : World => W'.cell? ⟨b, 0, none⟩ = some (.slice A n k) ∧ W'.cell? ⟨w1.heap.size, 0, none⟩ = some (.int .i64 y.a) ∧ W'.cell? ⟨w1.heap.size, 1, none⟩ = some (.int .i64 y.b) ∧ W'.cell? ⟨w1.heap.size, 2, none⟩ = some (.bool y.t) ∧ W'.cell? ⟨w1.heap.size, 3, none⟩ = some (.int .i64 y.c) ∧ W'.cell? ⟨w1.heap.size, 4, none⟩ = some (.int .i64 y.v)) _ from ⟨(Keeps.of_below HZ.out).cell_ HS0.out.1, (Keeps.of_below HZ.out).cell_ HS0.out.2.1, (Keeps.of_below HZ.out).cell_ HS0.out.2.2.1, (Keeps.of_below HZ.out).cell_ HS0.out.2.2.2.1, (Keeps.of_below HZ.out).cell_ HS0.out.2.2.2.2.1, (Keeps.of_below HZ.out).cell_ HS0.out.2.2.2.2.2⟩)); clear h6 g6)
          refine hK.out _ _ ?_ (fun hHeld => ?_)
          · (first | exact fun hE => absurd hE (by decide) | (intro _; (try dsimp only); (first | with_reducible exact HS0.out | with_reducible exact HS.out)))
          clear hK K
          (try replace hHeld := hHeld (by decide))
          (try simp only [Act.put, List.setIfInBounds_toArray, List.set_cons_zero, List.set_cons_succ])
          refine ready_L 8 (fun o ho K hK => ?_)
          (simp only [List.getElem?_toArray, List.getElem?_cons_succ, List.getElem?_cons_zero, Option.some.injEq] at ho)
          subst ho
          go_simp
          (refine name_world (fun Wy hWy => ?_); (try replace hWy := hWy.trans (drew_alloc_ _ _)); have hby := below_alloc hWy; have HY := kept (ren_new hWy); replace HZ := kept (bel_to hby HZ.out); (try have HNE := kept (ne_new HE.out hWy)); (try replace HE := kept (gown_turned HE.out (Turned.of_below hby (fun _ => False)) (fun _ _ e => e))); (try replace HP := kept (gown_turned HP.out (Turned.of_below hby (fun _ => False)) (fun _ _ e => e))); (have HS := kept (show (fun W' : World => W'.cell? ⟨b, 0, none⟩ = some (.slice A n k) ∧ W'.cell? ⟨w1.heap.size, 0, none⟩ = some (.int .i64 y.a) ∧ W'.cell? ⟨w1.heap.size, 1, none⟩ = some (.int .i64 y.b) ∧ W'.cell? ⟨w1.heap.size, 2, none⟩ = some (.bool y.t) ∧ W'.cell? ⟨w1.heap.size, 3, none⟩ = some (.int .i64 y.c) ∧ W'.cell? ⟨w1.heap.size, 4, none⟩ = some (.int .i64 y.v)) _ from ⟨(Keeps.of_below HZ.out).cell_ HS0.out.1, (Keeps.of_below HZ.out).cell_ HS0.out.2.1, (Keeps.of_below HZ.out).cell_ HS0.out.2.2.1, (Keeps.of_below HZ.out).cell_ HS0.out.2.2.2.1, (Keeps.of_below HZ.out).cell_ HS0.out.2.2.2.2.1, (Keeps.of_below HZ.out).cell_ HS0.out.2.2.2.2.2⟩)); clear hby hWy)
          refine hK.out _ _ ?_ (fun hHeld => ?_)
          · (first | exact fun hE => absurd hE (by decide) | (intro _; (try dsimp only); (first | with_reducible exact HS0.out | with_reducible exact HS.out)))
          clear hK K
          (try replace hHeld := hHeld (by decide))
          (try simp only [Act.put, List.setIfInBounds_toArray, List.set_cons_zero, List.set_cons_succ])
          refine ready_L 9 (fun o ho K hK => ?_)
          (simp only [List.getElem?_toArray, List.getElem?_cons_succ, List.getElem?_cons_zero, Option.some.injEq] at ho)
          subst ho
          (refine wp_append_h (.tmp 43) (.tmp 45) 116 rfl 124 rfl rfl Tryz.underlying116 reninfo rfl (by decide) (by decide) HP.out (ys := [.int .i64 y.a, .int .i64 y.b, .bool y.t, .int .i64 y.c, .int .i64 y.v]) rfl (fun _ => ⟨_, rfl, fun j u hj => by rw [gadd_at, Nat.zero_add]; exact (HY.out.cell j).trans hj⟩) (by intro u hu; simp only [List.mem_cons, List.not_mem_nil, or_false] at hu; rcases hu with rfl | rfl | rfl | rfl | rfl <;> rfl) (by omega) HZ.out.size ?_; intro A9 c9 w9 h9 g9; have HP9 := kept h9; replace HZ := kept (bel_grown HZ.out (Nat.le_refl _) HP.out g9); (have HS := kept (show (fun W' : World => W'.cell? ⟨b, 0, none⟩ = some (.slice A n k) ∧ W'.cell? ⟨w1.heap.size, 0, none⟩ = some (.int .i64 y.a) ∧ W'.cell? ⟨w1.heap.size, 1, none⟩ = some (.int .i64 y.b) ∧ W'.cell? ⟨w1.heap.size, 2, none⟩ = some (.bool y.t) ∧ W'.cell? ⟨w1.heap.size, 3, none⟩ = some (.int .i64 y.c) ∧ W'.cell? ⟨w1.heap.size, 4, none⟩ = some (.int .i64 y.v)) _ from ⟨(Keeps.of_below HZ.out).cell_ HS0.out.1, (Keeps.of_below HZ.out).cell_ HS0.out.2.1, (Keeps.of_below HZ.out).cell_ HS0.out.2.2.1, (Keeps.of_below HZ.out).cell_ HS0.out.2.2.2.1, (Keeps.of_below HZ.out).cell_ HS0.out.2.2.2.2.1, (Keeps.of_below HZ.out).cell_ HS0.out.2.2.2.2.2⟩)); (have hb9 := HS.out.1); have f9 := (HBX.out.below HZ.out HBX.out.lt).frozen 0; clear h9 g9)
          refine hK.out _ _ ?_ (fun hHeld => ?_)
          · (first | exact fun hE => absurd hE (by decide) | (intro _; (try dsimp only); (first | with_reducible exact HS0.out | with_reducible exact HS.out)))
          clear hK K
          (try replace hHeld := hHeld (by decide))
          (try simp only [Act.put, List.setIfInBounds_toArray, List.set_cons_zero, List.set_cons_succ])
          refine take_P 10 (some 47) ?_ (by (intro o ho w; (simp only [List.getElem?_toArray, List.getElem?_cons_succ, List.getElem?_cons_zero, Option.some.injEq] at ho); subst ho; go_simp; (first | done | with_reducible rfl))) (by ((try simp only [Act.put, hA, h0, h1]); (first | done | rfl))) (by first | exact fun _ => by assumption | exact fun hE => absurd hE (by decide))
          (try simp only [Act.put, List.setIfInBounds_toArray, List.set_cons_zero, List.set_cons_succ])
          refine take_P 11 (some 48) ?_ (by (intro o ho w; (simp only [List.getElem?_toArray, List.getElem?_cons_succ, List.getElem?_cons_zero, Option.some.injEq] at ho); subst ho; go_simp; (first | done | with_reducible rfl))) (by ((try simp only [Act.put, hA, h0, h1]); (first | done | rfl))) (by first | exact fun _ => by assumption | exact fun hE => absurd hE (by decide))
          (try simp only [Act.put, List.setIfInBounds_toArray, List.set_cons_zero, List.set_cons_succ])
          refine ready_L 12 (fun o ho K hK => ?_)
          (simp only [List.getElem?_toArray, List.getElem?_cons_succ, List.getElem?_cons_zero, Option.some.injEq] at ho)
          subst ho
          go_simp
          skip
          refine hK.out _ _ ?_ (fun hHeld => ?_)
          · (first | exact fun hE => absurd hE (by decide) | (intro _; (try dsimp only); (first | with_reducible exact HS0.out | with_reducible exact HS.out)))
          clear hK K
          (try replace hHeld := hHeld (by decide))
          (try simp only [Act.put, List.setIfInBounds_toArray, List.set_cons_zero, List.set_cons_succ])
          refine done_L (by kernel_rfl) ?_ _
          clear hHeld hb9 f9
          go_wp2
          go_returns
          have hbX := (HBX.out.below HZ.out HBX.out.lt).set_ 0 (.slice A9 (n + 1) c9)
          have tX : Turned w9 (w9.setCell ⟨b, 0, none⟩ (.slice A9 (n + 1) c9)) (fun j => j = b) := (Turned.refl w9 (fun j => j = b)).setCell (p := ⟨b, 0, none⟩) (fun _ => rfl) _
          have h9 := HP9.out
          have h9' : w9.ownsRow Es.drew.heap.size 124 5 (.slice A9 (n + 1) c9) (n + 1) (renC (I ++ [y])) := by
            rw [renC_append]
            exact h9
          have hoX := gown_turned h9' tX (fun j hj e => by have := (gown_lt h9' hj).1; have := HBX.out.lt; omega)
          refine ⟨0, n + 1, by simp, rfl, ⟨A9, c9, I ++ [y], hbX, own_mono3 hoX (Nat.le_trans HH.out.le (Nat.le_of_lt HBX.out.lt)), by simp [HI.out.2.2], HH.out.le⟩, Nat.le_refl _, fun _ => by omega, ?_⟩
          exact ((Turned.of_below (bel_to HZ.out HBW.out) (OfT B w)).chain tX (fun j hj e => by subst e; exact ⟨HH.out.le, _, _, _, HHB.out, .inl rfl⟩))
        · (simp only [List.getElem?_toArray, List.getElem?_cons_succ, List.getElem?_cons_zero, Option.some.injEq] at ho)
          subst ho
          go_simp
          (refine name_world (fun Wy hWy => ?_); (try replace hWy := hWy.trans (drew_alloc_ _ _)); have hby := below_alloc hWy; have HY := kept (ren_new hWy); replace HZ := kept (bel_to hby HZ.out); (try have HNE := kept (ne_new HE.out hWy)); (try replace HE := kept (gown_turned HE.out (Turned.of_below hby (fun _ => False)) (fun _ _ e => e))); (try replace HP := kept (gown_turned HP.out (Turned.of_below hby (fun _ => False)) (fun _ _ e => e))); (have HS := kept (show (fun W' : World => W'.cell? ⟨b, 0, none⟩ = some (.slice A n k) ∧ W'.cell? ⟨w1.heap.size, 0, none⟩ = some (.int .i64 y.a) ∧ W'.cell? ⟨w1.heap.size, 1, none⟩ = some (.int .i64 y.b) ∧ W'.cell? ⟨w1.heap.size, 2, none⟩ = some (.bool y.t) ∧ W'.cell? ⟨w1.heap.size, 3, none⟩ = some (.int .i64 y.c) ∧ W'.cell? ⟨w1.heap.size, 4, none⟩ = some (.int .i64 y.v)) _ from ⟨(Keeps.of_below HZ.out).cell_ HS0.out.1, (Keeps.of_below HZ.out).cell_ HS0.out.2.1, (Keeps.of_below HZ.out).cell_ HS0.out.2.2.1, (Keeps.of_below HZ.out).cell_ HS0.out.2.2.2.1, (Keeps.of_below HZ.out).cell_ HS0.out.2.2.2.2.1, (Keeps.of_below HZ.out).cell_ HS0.out.2.2.2.2.2⟩)); clear hby hWy)
          refine hK.out _ _ ?_ (fun hHeld => ?_)
          · (first | exact fun hE => absurd hE (by decide) | (intro _; (try dsimp only); (first | with_reducible exact HS0.out | with_reducible exact HS.out)))
          clear hK K
          (try replace hHeld := hHeld (by decide))
          (try simp only [Act.put, List.setIfInBounds_toArray, List.set_cons_zero, List.set_cons_succ])
          refine ready_L 6 (fun o ho K hK => ?_)
          (simp only [List.getElem?_toArray, List.getElem?_cons_succ, List.getElem?_cons_zero, Option.some.injEq] at ho)
          subst ho
          (refine wp_append_h (.tmp 38) (.tmp 42) 116 rfl 124 rfl rfl Tryz.underlying116 reninfo rfl (by decide) (by decide) HE.out (ys := renC I) HI.out.1 (fun h0 => by obtain ⟨ad, e, hc⟩ := HI.out.2.1 h0; exact ⟨ad, e, fun j u hj => (Keeps.of_below HZ.out).cell_ (hc j u hj)⟩) (renC_one _) (by omega) HZ.out.size ?_; intro A6 c6 w6 h6 g6; rw [Nat.zero_add, List.nil_append] at h6; (try simp only [Nat.zero_add]); have HP := kept h6; (try replace HY := kept (blk_grown HY.out g6 (fun e => HNE.out (Option.some.inj e).symm))); replace HZ := kept (bel_grown HZ.out (Nat.le_refl _) HE.out g6); (have HS := kept (show (fun W' : World => W'.cell? ⟨b, 0, none⟩ = some (.slice A n k) ∧ W'.cell? ⟨w1.heap.size, 0, none⟩ = some (.int .i64 y.a) ∧ W'.cell? ⟨w1.heap.size, 1, none⟩ = some (.int .i64 y.b) ∧ W'.cell? ⟨w1.heap.size, 2, none⟩ = some (.bool y.t) ∧ W'.cell? ⟨w1.heap.size, 3, none⟩ = some (.int .i64 y.c) ∧ W'.cell? ⟨w1.heap.size, 4, none⟩ = some (.int .i64 y.v)) _ from ⟨(Keeps.of_below HZ.out).cell_ HS0.out.1, (Keeps.of_below HZ.out).cell_ HS0.out.2.1, (Keeps.of_below HZ.out).cell_ HS0.out.2.2.1, (Keeps.of_below HZ.out).cell_ HS0.out.2.2.2.1, (Keeps.of_below HZ.out).cell_ HS0.out.2.2.2.2.1, (Keeps.of_below HZ.out).cell_ HS0.out.2.2.2.2.2⟩)); clear h6 g6)
          refine hK.out _ _ ?_ (fun hHeld => ?_)
          · (first | exact fun hE => absurd hE (by decide) | (intro _; (try dsimp only); (first | with_reducible exact HS0.out | with_reducible exact HS.out)))
          clear hK K
          (try replace hHeld := hHeld (by decide))
          (try simp only [Act.put, List.setIfInBounds_toArray, List.set_cons_zero, List.set_cons_succ])
          refine ready_L 9 (fun o ho K hK => ?_)
          (simp only [List.getElem?_toArray, List.getElem?_cons_succ, List.getElem?_cons_zero, Option.some.injEq] at ho)
          subst ho
          (refine wp_append_h (.tmp 43) (.tmp 45) 116 rfl 124 rfl rfl Tryz.underlying116 reninfo rfl (by decide) (by decide) HP.out (ys := [.int .i64 y.a, .int .i64 y.b, .bool y.t, .int .i64 y.c, .int .i64 y.v]) rfl (fun _ => ⟨_, rfl, fun j u hj => by rw [gadd_at, Nat.zero_add]; exact (HY.out.cell j).trans hj⟩) (by intro u hu; simp only [List.mem_cons, List.not_mem_nil, or_false] at hu; rcases hu with rfl | rfl | rfl | rfl | rfl <;> rfl) (by omega) HZ.out.size ?_; intro A9 c9 w9 h9 g9; have HP9 := kept h9; replace HZ := kept (bel_grown HZ.out (Nat.le_refl _) HP.out g9); (have HS := kept (show (fun W' : World => W'.cell? ⟨b, 0, none⟩ = some (.slice A n k) ∧ W'.cell? ⟨w1.heap.size, 0, none⟩ = some (.int .i64 y.a) ∧ W'.cell? ⟨w1.heap.size, 1, none⟩ = some (.int .i64 y.b) ∧ W'.cell? ⟨w1.heap.size, 2, none⟩ = some (.bool y.t) ∧ W'.cell? ⟨w1.heap.size, 3, none⟩ = some (.int .i64 y.c) ∧ W'.cell? ⟨w1.heap.size, 4, none⟩ = some (.int .i64 y.v)) _ from ⟨(Keeps.of_below HZ.out).cell_ HS0.out.1, (Keeps.of_below HZ.out).cell_ HS0.out.2.1, (Keeps.of_below HZ.out).cell_ HS0.out.2.2.1, (Keeps.of_below HZ.out).cell_ HS0.out.2.2.2.1, (Keeps.of_below HZ.out).cell_ HS0.out.2.2.2.2.1, (Keeps.of_below HZ.out).cell_ HS0.out.2.2.2.2.2⟩)); (have hb9 := HS.out.1); have f9 := (HBX.out.below HZ.out HBX.out.lt).frozen 0; clear h9 g9)
          refine hK.out _ _ ?_ (fun hHeld => ?_)
          · (first | exact fun hE => absurd hE (by decide) | (intro _; (try dsimp only); (first | with_reducible exact HS0.out | with_reducible exact HS.out)))
          clear hK K
          (try replace hHeld := hHeld (by decide))
          (try simp only [Act.put, List.setIfInBounds_toArray, List.set_cons_zero, List.set_cons_succ])
          refine take_P 10 (some 47) ?_ (by (intro o ho w; (simp only [List.getElem?_toArray, List.getElem?_cons_succ, List.getElem?_cons_zero, Option.some.injEq] at ho); subst ho; go_simp; (first | done | with_reducible rfl))) (by ((try simp only [Act.put, hA, h0, h1]); (first | done | rfl))) (by first | exact fun _ => by assumption | exact fun hE => absurd hE (by decide))
          (try simp only [Act.put, List.setIfInBounds_toArray, List.set_cons_zero, List.set_cons_succ])
          refine take_P 11 (some 48) ?_ (by (intro o ho w; (simp only [List.getElem?_toArray, List.getElem?_cons_succ, List.getElem?_cons_zero, Option.some.injEq] at ho); subst ho; go_simp; (first | done | with_reducible rfl))) (by ((try simp only [Act.put, hA, h0, h1]); (first | done | rfl))) (by first | exact fun _ => by assumption | exact fun hE => absurd hE (by decide))
          (try simp only [Act.put, List.setIfInBounds_toArray, List.set_cons_zero, List.set_cons_succ])
          refine ready_L 12 (fun o ho K hK => ?_)
          (simp only [List.getElem?_toArray, List.getElem?_cons_succ, List.getElem?_cons_zero, Option.some.injEq] at ho)
          subst ho
          go_simp
          skip
          refine hK.out _ _ ?_ (fun hHeld => ?_)
          · (first | exact fun hE => absurd hE (by decide) | (intro _; (try dsimp only); (first | with_reducible exact HS0.out | with_reducible exact HS.out)))
          clear hK K
          (try replace hHeld := hHeld (by decide))
          (try simp only [Act.put, List.setIfInBounds_toArray, List.set_cons_zero, List.set_cons_succ])
          refine done_L (by kernel_rfl) ?_ _
          clear hHeld hb9 f9
          go_wp2
          go_returns
          have hbX := (HBX.out.below HZ.out HBX.out.lt).set_ 0 (.slice A9 (n + 1) c9)
          have tX : Turned w9 (w9.setCell ⟨b, 0, none⟩ (.slice A9 (n + 1) c9)) (fun j => j = b) := (Turned.refl w9 (fun j => j = b)).setCell (p := ⟨b, 0, none⟩) (fun _ => rfl) _
          have h9 := HP9.out
          have h9' : w9.ownsRow Es.drew.heap.size 124 5 (.slice A9 (n + 1) c9) (n + 1) (renC (I ++ [y])) := by
            rw [renC_append]
            exact h9
          have hoX := gown_turned h9' tX (fun j hj e => by have := (gown_lt h9' hj).1; have := HBX.out.lt; omega)
          refine ⟨0, n + 1, by simp, rfl, ⟨A9, c9, I ++ [y], hbX, own_mono3 hoX (Nat.le_trans HH.out.le (Nat.le_of_lt HBX.out.lt)), by simp [HI.out.2.2], HH.out.le⟩, Nat.le_refl _, fun _ => by omega, ?_⟩
          exact ((Turned.of_below (bel_to HZ.out HBW.out) (OfT B w)).chain tX (fun j hj e => by subst e; exact ⟨HH.out.le, _, _, _, HHB.out, .inl rfl⟩))
      · (simp only [List.getElem?_toArray, List.getElem?_cons_succ, List.getElem?_cons_zero, Option.some.injEq] at ho)
        subst ho
        go_simp
        (refine name_world (fun Wy hWy => ?_); (try replace hWy := hWy.trans (drew_alloc_ _ _)); have hby := below_alloc hWy; have HY := kept (ren_new hWy); replace HZ := kept (bel_to hby HZ.out); (try have HNE := kept (ne_new HE.out hWy)); (try replace HE := kept (gown_turned HE.out (Turned.of_below hby (fun _ => False)) (fun _ _ e => e))); (try replace HP := kept (gown_turned HP.out (Turned.of_below hby (fun _ => False)) (fun _ _ e => e))); (have HS := kept (show (fun W' : World => W'.cell? ⟨b, 0, none⟩ = some (.slice A n k) ∧ W'.cell? ⟨w1.heap.size, 0, none⟩ = some (.int .i64 y.a) ∧ W'.cell? ⟨w1.heap.size, 1, none⟩ = some (.int .i64 y.b) ∧ W'.cell? ⟨w1.heap.size, 2, none⟩ = some (.bool y.t) ∧ W'.cell? ⟨w1.heap.size, 3, none⟩ = some (.int .i64 y.c) ∧ W'.cell? ⟨w1.heap.size, 4, none⟩ = some (.int .i64 y.v)) _ from ⟨(Keeps.of_below HZ.out).cell_ HS0.out.1, (Keeps.of_below HZ.out).cell_ HS0.out.2.1, (Keeps.of_below HZ.out).cell_ HS0.out.2.2.1, (Keeps.of_below HZ.out).cell_ HS0.out.2.2.2.1, (Keeps.of_below HZ.out).cell_ HS0.out.2.2.2.2.1, (Keeps.of_below HZ.out).cell_ HS0.out.2.2.2.2.2⟩)); clear hby hWy)
        refine hK.out _ _ ?_ (fun hHeld => ?_)
        · (first | exact fun hE => absurd hE (by decide) | (intro _; (try dsimp only); (first | with_reducible exact HS0.out | with_reducible exact HS.out)))
        clear hK K
        (try replace hHeld := hHeld (by decide))
        (try simp only [Act.put, List.setIfInBounds_toArray, List.set_cons_zero, List.set_cons_succ])
        refine ready_L 1 (fun o ho K hK => ?_)
        (simp only [List.getElem?_toArray, List.getElem?_cons_succ, List.getElem?_cons_zero, Option.some.injEq] at ho)
        subst ho
        go_simp
        (refine name_world (fun We hWe => ?_); (try replace hWe := hWe.trans (drew_alloc_ _ _)); have hbe := below_alloc hWe; have HE := kept (ren_empty HZ.out.size hWe); replace HZ := kept (bel_to hbe HZ.out); (try have HNE := kept (ne_new' HY.out hWe)); (try replace HY := kept (HY.out.below hbe HY.out.lt)); (have HS := kept (show (fun W' : World => W'.cell? ⟨b, 0, none⟩ = some (.slice A n k) ∧ W'.cell? ⟨w1.heap.size, 0, none⟩ = some (.int .i64 y.a) ∧ W'.cell? ⟨w1.heap.size, 1, none⟩ = some (.int .i64 y.b) ∧ W'.cell? ⟨w1.heap.size, 2, none⟩ = some (.bool y.t) ∧ W'.cell? ⟨w1.heap.size, 3, none⟩ = some (.int .i64 y.c) ∧ W'.cell? ⟨w1.heap.size, 4, none⟩ = some (.int .i64 y.v)) _ from ⟨(Keeps.of_below HZ.out).cell_ HS0.out.1, (Keeps.of_below HZ.out).cell_ HS0.out.2.1, (Keeps.of_below HZ.out).cell_ HS0.out.2.2.1, (Keeps.of_below HZ.out).cell_ HS0.out.2.2.2.1, (Keeps.of_below HZ.out).cell_ HS0.out.2.2.2.2.1, (Keeps.of_below HZ.out).cell_ HS0.out.2.2.2.2.2⟩)); clear hbe hWe)
        refine hK.out _ _ ?_ (fun hHeld => ?_)
        · (first | exact fun hE => absurd hE (by decide) | (intro _; (try dsimp only); (first | with_reducible exact HS0.out | with_reducible exact HS.out)))
        clear hK K
        (try replace hHeld := hHeld (by decide))
        (try simp only [Act.put, List.setIfInBounds_toArray, List.set_cons_zero, List.set_cons_succ])
        refine ready_L 6 (fun o ho K hK => ?_)
        (simp only [List.getElem?_toArray, List.getElem?_cons_succ, List.getElem?_cons_zero, Option.some.injEq] at ho)
        subst ho
        (refine wp_append_h (.tmp 38) (.tmp 42) 116 rfl 124 rfl rfl Tryz.underlying116 reninfo rfl (by decide) (by decide) HE.out (ys := renC I) HI.out.1 (fun h0 => by obtain ⟨ad, e, hc⟩ := HI.out.2.1 h0; exact ⟨ad, e, fun j u hj => (Keeps.of_below HZ.out).cell_ (hc j u hj)⟩) (renC_one _) (by omega) HZ.out.size ?_; intro A6 c6 w6 h6 g6; rw [Nat.zero_add, List.nil_append] at h6; (try simp only [Nat.zero_add]); have HP := kept h6; (try replace HY := kept (blk_grown HY.out g6 (fun e => HNE.out (Option.some.inj e).symm))); replace HZ := kept (bel_grown HZ.out (Nat.le_refl _) HE.out g6); (have HS := kept (show (fun W' : World => W'.cell? ⟨b, 0, none⟩ = some (.slice A n k) ∧ W'.cell? ⟨w1.heap.size, 0, none⟩ = some (.int .i64 y.a) ∧ W'.cell? ⟨w1.heap.size, 1, none⟩ = some (.int .i64 y.b) ∧ W'.cell? ⟨w1.heap.size, 2, none⟩ = some (.bool y.t) ∧ W'.cell? ⟨w1.heap.size, 3, none⟩ = some (.int .i64 y.c) ∧ W'.cell? ⟨w1.heap.size, 4, none⟩ = some (.int .i64 y.v)) _ from ⟨(Keeps.of_below HZ.out).cell_ HS0.out.1, (Keeps.of_below HZ.out).cell_ HS0.out.2.1, (Keeps.of_below HZ.out).cell_ HS0.out.2.2.1, (Keeps.of_below HZ.out).cell_ HS0.out.2.2.2.1, (Keeps.of_below HZ.out).cell_ HS0.out.2.2.2.2.1, (Keeps.of_below HZ.out).cell_ HS0.out.2.2.2.2.2⟩)); clear h6 g6)
        refine hK.out _ _ ?_ (fun hHeld => ?_)
        · (first | exact fun hE => absurd hE (by decide) | (intro _; (try dsimp only); (first | with_reducible exact HS0.out | with_reducible exact HS.out)))
        clear hK K
        (try replace hHeld := hHeld (by decide))
        (try simp only [Act.put, List.setIfInBounds_toArray, List.set_cons_zero, List.set_cons_succ])
        refine ready_L 9 (fun o ho K hK => ?_)
        (simp only [List.getElem?_toArray, List.getElem?_cons_succ, List.getElem?_cons_zero, Option.some.injEq] at ho)
        subst ho
        (refine wp_append_h (.tmp 43) (.tmp 45) 116 rfl 124 rfl rfl Tryz.underlying116 reninfo rfl (by decide) (by decide) HP.out (ys := [.int .i64 y.a, .int .i64 y.b, .bool y.t, .int .i64 y.c, .int .i64 y.v]) rfl (fun _ => ⟨_, rfl, fun j u hj => by rw [gadd_at, Nat.zero_add]; exact (HY.out.cell j).trans hj⟩) (by intro u hu; simp only [List.mem_cons, List.not_mem_nil, or_false] at hu; rcases hu with rfl | rfl | rfl | rfl | rfl <;> rfl) (by omega) HZ.out.size ?_; intro A9 c9 w9 h9 g9; have HP9 := kept h9; replace HZ := kept (bel_grown HZ.out (Nat.le_refl _) HP.out g9); (have HS := kept (show (fun W' : World => W'.cell? ⟨b, 0, none⟩ = some (.slice A n k) ∧ W'.cell? ⟨w1.heap.size, 0, none⟩ = some (.int .i64 y.a) ∧ W'.cell? ⟨w1.heap.size, 1, none⟩ = some (.int .i64 y.b) ∧ W'.cell? ⟨w1.heap.size, 2, none⟩ = some (.bool y.t) ∧ W'.cell? ⟨w1.heap.size, 3, none⟩ = some (.int .i64 y.c) ∧ W'.cell? ⟨w1.heap.size, 4, none⟩ = some (.int .i64 y.v)) _ from ⟨(Keeps.of_below HZ.out).cell_ HS0.out.1, (Keeps.of_below HZ.out).cell_ HS0.out.2.1, (Keeps.of_below HZ.out).cell_ HS0.out.2.2.1, (Keeps.of_below HZ.out).cell_ HS0.out.2.2.2.1, (Keeps.of_below HZ.out).cell_ HS0.out.2.2.2.2.1, (Keeps.of_below HZ.out).cell_ HS0.out.2.2.2.2.2⟩)); (have hb9 := HS.out.1); have f9 := (HBX.out.below HZ.out HBX.out.lt).frozen 0; clear h9 g9)
        refine hK.out _ _ ?_ (fun hHeld => ?_)
        · (first | exact fun hE => absurd hE (by decide) | (intro _; (try dsimp only); (first | with_reducible exact HS0.out | with_reducible exact HS.out)))
        clear hK K
        (try replace hHeld := hHeld (by decide))
        (try simp only [Act.put, List.setIfInBounds_toArray, List.set_cons_zero, List.set_cons_succ])
        refine take_P 10 (some 47) ?_ (by (intro o ho w; (simp only [List.getElem?_toArray, List.getElem?_cons_succ, List.getElem?_cons_zero, Option.some.injEq] at ho); subst ho; go_simp; (first | done | with_reducible rfl))) (by ((try simp only [Act.put, hA, h0, h1]); (first | done | rfl))) (by first | exact fun _ => by assumption | exact fun hE => absurd hE (by decide))
        (try simp only [Act.put, List.setIfInBounds_toArray, List.set_cons_zero, List.set_cons_succ])
        refine take_P 11 (some 48) ?_ (by (intro o ho w; (simp only [List.getElem?_toArray, List.getElem?_cons_succ, List.getElem?_cons_zero, Option.some.injEq] at ho); subst ho; go_simp; (first | done | with_reducible rfl))) (by ((try simp only [Act.put, hA, h0, h1]); (first | done | rfl))) (by first | exact fun _ => by assumption | exact fun hE => absurd hE (by decide))
        (try simp only [Act.put, List.setIfInBounds_toArray, List.set_cons_zero, List.set_cons_succ])
        refine ready_L 12 (fun o ho K hK => ?_)
        (simp only [List.getElem?_toArray, List.getElem?_cons_succ, List.getElem?_cons_zero, Option.some.injEq] at ho)
        subst ho
        go_simp
        skip
        refine hK.out _ _ ?_ (fun hHeld => ?_)
        · (first | exact fun hE => absurd hE (by decide) | (intro _; (try dsimp only); (first | with_reducible exact HS0.out | with_reducible exact HS.out)))
        clear hK K
        (try replace hHeld := hHeld (by decide))
        (try simp only [Act.put, List.setIfInBounds_toArray, List.set_cons_zero, List.set_cons_succ])
        refine done_L (by kernel_rfl) ?_ _
        clear hHeld hb9 f9
        go_wp2
        go_returns
        have hbX := (HBX.out.below HZ.out HBX.out.lt).set_ 0 (.slice A9 (n + 1) c9)
        have tX : Turned w9 (w9.setCell ⟨b, 0, none⟩ (.slice A9 (n + 1) c9)) (fun j => j = b) := (Turned.refl w9 (fun j => j = b)).setCell (p := ⟨b, 0, none⟩) (fun _ => rfl) _
        have h9 := HP9.out
        have h9' : w9.ownsRow Es.drew.heap.size 124 5 (.slice A9 (n + 1) c9) (n + 1) (renC (I ++ [y])) := by
          rw [renC_append]
          exact h9
        have hoX := gown_turned h9' tX (fun j hj e => by have := (gown_lt h9' hj).1; have := HBX.out.lt; omega)
        refine ⟨0, n + 1, by simp, rfl, ⟨A9, c9, I ++ [y], hbX, own_mono3 hoX (Nat.le_trans HH.out.le (Nat.le_of_lt HBX.out.lt)), by simp [HI.out.2.2], HH.out.le⟩, Nat.le_refl _, fun _ => by omega, ?_⟩
        exact ((Turned.of_below (bel_to HZ.out HBW.out) (OfT B w)).chain tX (fun j hj e => by subst e; exact ⟨HH.out.le, _, _, _, HHB.out, .inl rfl⟩))
    · cases hxt : x.t
      · have hrf : RF (((w3.alloc (.cells #[.int .i64 x.a, .int .i64 x.b, .bool false, .int .i64 x.c, .int .i64 x.v] 124)).setCell ⟨w1.heap.size, 3, none⟩ (.int .i64 x.c)).setCell ⟨w1.heap.size, 4, none⟩ (.int .i64 (wrap64 (x.v + 1)))) B b n := H1.out.below (((bel_to ((Below.refl w3.heap.size w3).alloc (Nat.le_refl _) _) HB13.out).setCell (p := ⟨w1.heap.size, 3, none⟩) (Nat.le_refl _) _).setCell (p := ⟨w1.heap.size, 4, none⟩) (Nat.le_refl _) _)
        obtain ⟨A, k, I, hbx, hown, hIl, _⟩ := hrf
        have hyk : Blk (((w3.alloc (.cells #[.int .i64 x.a, .int .i64 x.b, .bool false, .int .i64 x.c, .int .i64 x.v] 124)).setCell ⟨w1.heap.size, 3, none⟩ (.int .i64 x.c)).setCell ⟨w1.heap.size, 4, none⟩ (.int .i64 (wrap64 (x.v + 1)))) w1.heap.size 124 (En5.cells ⟨q.1, q.2, false, x.c, wrap64 (x.v + 1)⟩) := ((HK3.out.alloc _).set_ 3 (.int .i64 x.c)).set_ 4 (.int .i64 (wrap64 (x.v + 1)))
        have hbs : Below w.heap.size w (((w3.alloc (.cells #[.int .i64 x.a, .int .i64 x.b, .bool false, .int .i64 x.c, .int .i64 x.v] 124)).setCell ⟨w1.heap.size, 3, none⟩ (.int .i64 x.c)).setCell ⟨w1.heap.size, 4, none⟩ (.int .i64 (wrap64 (x.v + 1)))) := bel_to (((bel_to ((Below.refl w3.heap.size w3).alloc (Nat.le_refl _) _) HB13.out).setCell (p := ⟨w1.heap.size, 3, none⟩) (Nat.le_refl _) _).setCell (p := ⟨w1.heap.size, 4, none⟩) (Nat.le_refl _) _) HB1.out
        go_wp2
        generalize hEs : (((w3.alloc (.cells #[.int .i64 x.a, .int .i64 x.b, .bool false, .int .i64 x.c, .int .i64 x.v] 124)).setCell ⟨w1.heap.size, 3, none⟩ (.int .i64 x.c)).setCell ⟨w1.heap.size, 4, none⟩ (.int .i64 (wrap64 (x.v + 1)))) = Es at hbx hown hyk hbs ⊢
        generalize hyy : (⟨q.1, q.2, false, x.c, wrap64 (x.v + 1)⟩ : En5) = y at hyk
        have hbe : Below Es.heap.size Es Es.drew := (Below.refl _ _).drew
        have HBX := kept (hbx.below hbe hbx.lt)
        have hyW := hyk.below hbe hyk.lt
        have howns := gown_turned hown (Turned.of_below hbe (fun _ => False)) (fun _ _ e => e)
        have HBW := kept (bel_to hbe hbs)
        have HI := kept (And.intro (show (renC I).length = n * 5 by rw [renC_length, hIl]) (And.intro (show 0 < n → ∃ ad, A = some ad ∧ ∀ j u, (renC I)[j]? = some u → Es.drew.cell? (ad.add j) = some u from fun h0 => by obtain ⟨g, e, _⟩ := gown_at howns h0; subst e; exact ⟨_, rfl, fun j u hj => howns.cells (g := g) rfl j u hj⟩) hIl))
        have HS0 := kept (show (fun W' : World => W'.cell? ⟨b, 0, none⟩ = some (.slice A n k) ∧ W'.cell? ⟨w1.heap.size, 0, none⟩ = some (.int .i64 y.a) ∧ W'.cell? ⟨w1.heap.size, 1, none⟩ = some (.int .i64 y.b) ∧ W'.cell? ⟨w1.heap.size, 2, none⟩ = some (.bool y.t) ∧ W'.cell? ⟨w1.heap.size, 3, none⟩ = some (.int .i64 y.c) ∧ W'.cell? ⟨w1.heap.size, 4, none⟩ = some (.int .i64 y.v)) Es.drew from ⟨HBX.out.cell 0, hyW.cell 0, hyW.cell 1, hyW.cell 2, hyW.cell 3, hyW.cell 4⟩)
        have HZ := kept (Below.refl Es.drew.heap.size Es.drew)
        clear hbx hown hyk hbs hbe hyW howns hIl hyy hEs
        refine region_L [12] ((fun W' => W'.cell? ⟨b, 0, none⟩ = some (.slice A n k) ∧ W'.cell? ⟨w1.heap.size, 0, none⟩ = some (.int .i64 y.a) ∧ W'.cell? ⟨w1.heap.size, 1, none⟩ = some (.int .i64 y.b) ∧ W'.cell? ⟨w1.heap.size, 2, none⟩ = some (.bool y.t) ∧ W'.cell? ⟨w1.heap.size, 3, none⟩ = some (.int .i64 y.c) ∧ W'.cell? ⟨w1.heap.size, 4, none⟩ = some (.int .i64 y.v))) (by kernel_rfl) ?_ (fun hHeld => ?_)
        · ((try dsimp only); (first | with_reducible exact HS0.out | with_reducible exact HS.out))
        (try simp only [List.size_toArray, List.length_cons, List.length_nil, Nat.reduceAdd, Array.replicate_succ, Array.replicate_zero, List.push_toArray, List.append_toArray, List.nil_append, List.cons_append])
        refine take_P 0 (some 37) ?_ (by (intro o ho w; (simp only [List.getElem?_toArray, List.getElem?_cons_succ, List.getElem?_cons_zero, Option.some.injEq] at ho); subst ho; go_simp; (first | done | with_reducible rfl))) (by ((try simp only [Act.put, hA, h0, h1]); (first | done | rfl))) (by first | exact fun _ => by assumption | exact fun hE => absurd hE (by decide))
        (try simp only [Act.put, List.setIfInBounds_toArray, List.set_cons_zero, List.set_cons_succ])
        refine take_P 2 (some 39) ?_ (by (intro o ho w; (simp only [List.getElem?_toArray, List.getElem?_cons_succ, List.getElem?_cons_zero, Option.some.injEq] at ho); subst ho; go_simp; (first | done | with_reducible rfl))) (by ((try simp only [Act.put, hA, h0, h1]); (first | done | rfl))) (by first | exact fun _ => by assumption | exact fun hE => absurd hE (by decide))
        (try simp only [Act.put, List.setIfInBounds_toArray, List.set_cons_zero, List.set_cons_succ])
        refine take_P 3 (some 40) ?_ (by (intro o ho w; (simp only [List.getElem?_toArray, List.getElem?_cons_succ, List.getElem?_cons_zero, Option.some.injEq] at ho); subst ho; go_simp; (first | done | with_reducible rfl))) (by ((try simp only [Act.put, hA, h0, h1]); (first | done | rfl))) (by first | exact fun _ => by assumption | exact fun hE => absurd hE (by decide))
        (try simp only [Act.put, List.setIfInBounds_toArray, List.set_cons_zero, List.set_cons_succ])
        refine take_P 4 (some 41) ?_ (by (intro o ho w; (simp only [List.getElem?_toArray, List.getElem?_cons_succ, List.getElem?_cons_zero, Option.some.injEq] at ho); subst ho; go_simp; (first | done | with_reducible rfl))) (by ((try simp only [Act.put, hA, h0, h1]); (first | done | rfl))) (by first | exact fun _ => by assumption | exact fun hE => absurd hE (by decide))
        (try simp only [Act.put, List.setIfInBounds_toArray, List.set_cons_zero, List.set_cons_succ])
        refine take_L 5 (some 42) ?_ (by (intro o ho w hSw; (simp only [List.getElem?_toArray, List.getElem?_cons_succ, List.getElem?_cons_zero, Option.some.injEq] at ho); subst ho; (try dsimp only at hSw); go_simp; (first | done | with_reducible rfl))) (by ((try simp only [Act.put, hA, h0, h1]); (first | done | rfl)))
        (try simp only [Act.put, List.setIfInBounds_toArray, List.set_cons_zero, List.set_cons_succ])
        refine take_L 7 (some 44) ?_ (by (intro o ho w hSw; (simp only [List.getElem?_toArray, List.getElem?_cons_succ, List.getElem?_cons_zero, Option.some.injEq] at ho); subst ho; (try dsimp only at hSw); go_simp; (first | done | with_reducible rfl))) (by ((try simp only [Act.put, hA, h0, h1]); (first | done | rfl)))
        (try simp only [Act.put, List.setIfInBounds_toArray, List.set_cons_zero, List.set_cons_succ])
        refine two_L 1 8 (fun o ho K hK => ?_) (fun o ho K hK => ?_)
        · (simp only [List.getElem?_toArray, List.getElem?_cons_succ, List.getElem?_cons_zero, Option.some.injEq] at ho)
          subst ho
          go_simp
          (refine name_world (fun We hWe => ?_); (try replace hWe := hWe.trans (drew_alloc_ _ _)); have hbe := below_alloc hWe; have HE := kept (ren_empty HZ.out.size hWe); replace HZ := kept (bel_to hbe HZ.out); (try have HNE := kept (ne_new' HY.out hWe)); (try replace HY := kept (HY.out.below hbe HY.out.lt)); (have HS := kept (show (fun W' : World => W'.cell? ⟨b, 0, none⟩ = some (.slice A n k) ∧ W'.cell? ⟨w1.heap.size, 0, none⟩ = some (.int .i64 y.a) ∧ W'.cell? ⟨w1.heap.size, 1, none⟩ = some (.int .i64 y.b) ∧ W'.cell? ⟨w1.heap.size, 2, none⟩ = some (.bool y.t) ∧ W'.cell? ⟨w1.heap.size, 3, none⟩ = some (.int .i64 y.c) ∧ W'.cell? ⟨w1.heap.size, 4, none⟩ = some (.int .i64 y.v)) _ from ⟨(Keeps.of_below HZ.out).cell_ HS0.out.1, (Keeps.of_below HZ.out).cell_ HS0.out.2.1, (Keeps.of_below HZ.out).cell_ HS0.out.2.2.1, (Keeps.of_below HZ.out).cell_ HS0.out.2.2.2.1, (Keeps.of_below HZ.out).cell_ HS0.out.2.2.2.2.1, (Keeps.of_below HZ.out).cell_ HS0.out.2.2.2.2.2⟩)); clear hbe hWe)
          refine hK.out _ _ ?_ (fun hHeld => ?_)
          · (first | exact fun hE => absurd hE (by decide) | (intro _; (try dsimp only); (first | with_reducible exact HS0.out | with_reducible exact HS.out)))
          clear hK K
          (try replace hHeld := hHeld (by decide))
          (try simp only [Act.put, List.setIfInBounds_toArray, List.set_cons_zero, List.set_cons_succ])
          refine two_L 6 8 (fun o ho K hK => ?_) (fun o ho K hK => ?_)
          · (simp only [List.getElem?_toArray, List.getElem?_cons_succ, List.getElem?_cons_zero, Option.some.injEq] at ho)
            subst ho
            (refine wp_append_h (.tmp 38) (.tmp 42) 116 rfl 124 rfl rfl Tryz.underlying116 reninfo rfl (by decide) (by decide) HE.out (ys := renC I) HI.out.1 (fun h0 => by obtain ⟨ad, e, hc⟩ := HI.out.2.1 h0; exact ⟨ad, e, fun j u hj => (Keeps.of_below HZ.out).cell_ (hc j u hj)⟩) (renC_one _) (by omega) HZ.out.size ?_; intro A6 c6 w6 h6 g6; rw [Nat.zero_add, List.nil_append] at h6; (try simp only [Nat.zero_add]); have HP := kept h6; (try replace HY := kept (blk_grown HY.out g6 (fun e => HNE.out (Option.some.inj e).symm))); replace HZ := kept (bel_grown HZ.out (Nat.le_refl _) HE.out g6); (have HS := kept (show (fun W' : World => W'.cell? ⟨b, 0, none⟩ = some (.slice A n k) ∧ W'.cell? ⟨w1.heap.size, 0, none⟩ = some (.int .i64 y.a) ∧ W'.cell? ⟨w1.heap.size, 1, none⟩ = some (.int .i64 y.b) ∧ W'.cell? ⟨w1.heap.size, 2, none⟩ = some (.bool y.t) ∧ W'.cell? ⟨w1.heap.size, 3, none⟩ = some (.int .i64 y.c) ∧ W'.cell? ⟨w1.heap.size, 4, none⟩ = some (.int .i64 y.v)) _ from ⟨(Keeps.of_below HZ.out).cell_ HS0.out.1, (Keeps.of_below HZ.out).cell_ HS0.out.2.1, (Keeps.of_below HZ.out).cell_ HS0.out.2.2.1, (Keeps.of_below HZ.out).cell_ HS0.out.2.2.2.1, (Keeps.of_below HZ.out).cell_ HS0.out.2.2.2.2.1, (Keeps.of_below HZ.out).cell_ HS0.out.2.2.2.2.2⟩)); clear h6 g6)
            refine hK.out _ _ ?_ (fun hHeld => ?_)
            · (first | exact fun hE => absurd hE (by decide) | (intro _; (try dsimp only); (first | with_reducible exact HS0.out | with_reducible exact HS.out)))
            clear hK K
            (try replace hHeld := hHeld (by decide))
            (try simp only [Act.put, List.setIfInBounds_toArray, List.set_cons_zero, List.set_cons_succ])
            refine ready_L 8 (fun o ho K hK => ?_)
            (simp only [List.getElem?_toArray, List.getElem?_cons_succ, List.getElem?_cons_zero, Option.some.injEq] at ho)
            subst ho
            go_simp
            (refine name_world (fun Wy hWy => ?_); (try replace hWy := hWy.trans (drew_alloc_ _ _)); have hby := below_alloc hWy; have HY := kept (ren_new hWy); replace HZ := kept (bel_to hby HZ.out); (try have HNE := kept (ne_new HE.out hWy)); (try replace HE := kept (gown_turned HE.out (Turned.of_below hby (fun _ => False)) (fun _ _ e => e))); (try replace HP := kept (gown_turned HP.out (Turned.of_below hby (fun _ => False)) (fun _ _ e => e))); (have HS := kept (show (fun W' : World => W'.cell? ⟨b, 0, none⟩ = some (.slice A n k) ∧ W'.cell? ⟨w1.heap.size, 0, none⟩ = some (.int .i64 y.a) ∧ W'.cell? ⟨w1.heap.size, 1, none⟩ = some (.int .i64 y.b) ∧ W'.cell? ⟨w1.heap.size, 2, none⟩ = some (.bool y.t) ∧ W'.cell? ⟨w1.heap.size, 3, none⟩ = some (.int .i64 y.c) ∧ W'.cell? ⟨w1.heap.size, 4, none⟩ = some (.int .i64 y.v)) _ from ⟨(Keeps.of_below HZ.out).cell_ HS0.out.1, (Keeps.of_below HZ.out).cell_ HS0.out.2.1, (Keeps.of_below HZ.out).cell_ HS0.out.2.2.1, (Keeps.of_below HZ.out).cell_ HS0.out.2.2.2.1, (Keeps.of_below HZ.out).cell_ HS0.out.2.2.2.2.1, (Keeps.of_below HZ.out).cell_ HS0.out.2.2.2.2.2⟩)); clear hby hWy)
            refine hK.out _ _ ?_ (fun hHeld => ?_)
            · (first | exact fun hE => absurd hE (by decide) | (intro _; (try dsimp only); (first | with_reducible exact HS0.out | with_reducible exact HS.out)))
            clear hK K
            (try replace hHeld := hHeld (by decide))
            (try simp only [Act.put, List.setIfInBounds_toArray, List.set_cons_zero, List.set_cons_succ])
            refine ready_L 9 (fun o ho K hK => ?_)
            (simp only [List.getElem?_toArray, List.getElem?_cons_succ, List.getElem?_cons_zero, Option.some.injEq] at ho)
            subst ho
            (refine wp_append_h (.tmp 43) (.tmp 45) 116 rfl 124 rfl rfl Tryz.underlying116 reninfo rfl (by decide) (by decide) HP.out (ys := [.int .i64 y.a, .int .i64 y.b, .bool y.t, .int .i64 y.c, .int .i64 y.v]) rfl (fun _ => ⟨_, rfl, fun j u hj => by rw [gadd_at, Nat.zero_add]; exact (HY.out.cell j).trans hj⟩) (by intro u hu; simp only [List.mem_cons, List.not_mem_nil, or_false] at hu; rcases hu with rfl | rfl | rfl | rfl | rfl <;> rfl) (by omega) HZ.out.size ?_; intro A9 c9 w9 h9 g9; have HP9 := kept h9; replace HZ := kept (bel_grown HZ.out (Nat.le_refl _) HP.out g9); (have HS := kept (show (fun W' : World => W'.cell? ⟨b, 0, none⟩ = some (.slice A n k) ∧ W'.cell? ⟨w1.heap.size, 0, none⟩ = some (.int .i64 y.a) ∧ W'.cell? ⟨w1.heap.size, 1, none⟩ = some (.int .i64 y.b) ∧ W'.cell? ⟨w1.heap.size, 2, none⟩ = some (.bool y.t) ∧ W'.cell? ⟨w1.heap.size, 3, none⟩ = some (.int .i64 y.c) ∧ W'.cell? ⟨w1.heap.size, 4, none⟩ = some (.int .i64 y.v)) _ from ⟨(Keeps.of_below HZ.out).cell_ HS0.out.1, (Keeps.of_below HZ.out).cell_ HS0.out.2.1, (Keeps.of_below HZ.out).cell_ HS0.out.2.2.1, (Keeps.of_below HZ.out).cell_ HS0.out.2.2.2.1, (Keeps.of_below HZ.out).cell_ HS0.out.2.2.2.2.1, (Keeps.of_below HZ.out).cell_ HS0.out.2.2.2.2.2⟩)); (have hb9 := HS.out.1); have f9 := (HBX.out.below HZ.out HBX.out.lt).frozen 0; clear h9 g9)
            refine hK.out _ _ ?_ (fun hHeld => ?_)
            · (first | exact fun hE => absurd hE (by decide) | (intro _; (try dsimp only); (first | with_reducible exact HS0.out | with_reducible exact HS.out)))
            clear hK K
            (try replace hHeld := hHeld (by decide))
            (try simp only [Act.put, List.setIfInBounds_toArray, List.set_cons_zero, List.set_cons_succ])
            refine take_P 10 (some 47) ?_ (by (intro o ho w; (simp only [List.getElem?_toArray, List.getElem?_cons_succ, List.getElem?_cons_zero, Option.some.injEq] at ho); subst ho; go_simp; (first | done | with_reducible rfl))) (by ((try simp only [Act.put, hA, h0, h1]); (first | done | rfl))) (by first | exact fun _ => by assumption | exact fun hE => absurd hE (by decide))
            (try simp only [Act.put, List.setIfInBounds_toArray, List.set_cons_zero, List.set_cons_succ])
            refine take_P 11 (some 48) ?_ (by (intro o ho w; (simp only [List.getElem?_toArray, List.getElem?_cons_succ, List.getElem?_cons_zero, Option.some.injEq] at ho); subst ho; go_simp; (first | done | with_reducible rfl))) (by ((try simp only [Act.put, hA, h0, h1]); (first | done | rfl))) (by first | exact fun _ => by assumption | exact fun hE => absurd hE (by decide))
            (try simp only [Act.put, List.setIfInBounds_toArray, List.set_cons_zero, List.set_cons_succ])
            refine ready_L 12 (fun o ho K hK => ?_)
            (simp only [List.getElem?_toArray, List.getElem?_cons_succ, List.getElem?_cons_zero, Option.some.injEq] at ho)
            subst ho
            go_simp
            skip
            refine hK.out _ _ ?_ (fun hHeld => ?_)
            · (first | exact fun hE => absurd hE (by decide) | (intro _; (try dsimp only); (first | with_reducible exact HS0.out | with_reducible exact HS.out)))
            clear hK K
            (try replace hHeld := hHeld (by decide))
            (try simp only [Act.put, List.setIfInBounds_toArray, List.set_cons_zero, List.set_cons_succ])
            refine done_L (by kernel_rfl) ?_ _
            clear hHeld hb9 f9
            go_wp2
            go_returns
            have hbX := (HBX.out.below HZ.out HBX.out.lt).set_ 0 (.slice A9 (n + 1) c9)
            have tX : Turned w9 (w9.setCell ⟨b, 0, none⟩ (.slice A9 (n + 1) c9)) (fun j => j = b) := (Turned.refl w9 (fun j => j = b)).setCell (p := ⟨b, 0, none⟩) (fun _ => rfl) _
            have h9 := HP9.out
            have h9' : w9.ownsRow Es.drew.heap.size 124 5 (.slice A9 (n + 1) c9) (n + 1) (renC (I ++ [y])) := by
              rw [renC_append]
              exact h9
            have hoX := gown_turned h9' tX (fun j hj e => by have := (gown_lt h9' hj).1; have := HBX.out.lt; omega)
            refine ⟨0, n + 1, by simp, rfl, ⟨A9, c9, I ++ [y], hbX, own_mono3 hoX (Nat.le_trans HH.out.le (Nat.le_of_lt HBX.out.lt)), by simp [HI.out.2.2], HH.out.le⟩, Nat.le_refl _, fun _ => by omega, ?_⟩
            exact ((Turned.of_below (bel_to HZ.out HBW.out) (OfT B w)).chain tX (fun j hj e => by subst e; exact ⟨HH.out.le, _, _, _, HHB.out, .inl rfl⟩))
          · (simp only [List.getElem?_toArray, List.getElem?_cons_succ, List.getElem?_cons_zero, Option.some.injEq] at ho)
            subst ho
            go_simp
            (refine name_world (fun Wy hWy => ?_); (try replace hWy := hWy.trans (drew_alloc_ _ _)); have hby := below_alloc hWy; have HY := kept (ren_new hWy); replace HZ := kept (bel_to hby HZ.out); (try have HNE := kept (ne_new HE.out hWy)); (try replace HE := kept (gown_turned HE.out (Turned.of_below hby (fun _ => False)) (fun _ _ e => e))); (try replace HP := kept (gown_turned HP.out (Turned.of_below hby (fun _ => False)) (fun _ _ e => e))); (have HS := kept (show (fun W' : World => W'.cell? ⟨b, 0, none⟩ = some (.slice A n k) ∧ W'.cell? ⟨w1.heap.size, 0, none⟩ = some (.int .i64 y.a) ∧ W'.cell? ⟨w1.heap.size, 1, none⟩ = some (.int .i64 y.b) ∧ W'.cell? ⟨w1.heap.size, 2, none⟩ = some (.bool y.t) ∧ W'.cell? ⟨w1.heap.size, 3, none⟩ = some (.int .i64 y.c) ∧ W'.cell? ⟨w1.heap.size, 4, none⟩ = some (.int .i64 y.v)) _ from ⟨(Keeps.of_below HZ.out).cell_ HS0.out.1, (Keeps.of_below HZ.out).cell_ HS0.out.2.1, (Keeps.of_below HZ.out).cell_ HS0.out.2.2.1, (Keeps.of_below HZ.out).cell_ HS0.out.2.2.2.1, (Keeps.of_below HZ.out).cell_ HS0.out.2.2.2.2.1, (Keeps.of_below HZ.out).cell_ HS0.out.2.2.2.2.2⟩)); clear hby hWy)
            refine hK.out _ _ ?_ (fun hHeld => ?_)
            · (first | exact fun hE => absurd hE (by decide) | (intro _; (try dsimp only); (first | with_reducible exact HS0.out | with_reducible exact HS.out)))
            clear hK K
            (try replace hHeld := hHeld (by decide))
            (try simp only [Act.put, List.setIfInBounds_toArray, List.set_cons_zero, List.set_cons_succ])
            refine ready_L 6 (fun o ho K hK => ?_)
            (simp only [List.getElem?_toArray, List.getElem?_cons_succ, List.getElem?_cons_zero, Option.some.injEq] at ho)
            subst ho
            (refine wp_append_h (.tmp 38) (.tmp 42) 116 rfl 124 rfl rfl Tryz.underlying116 reninfo rfl (by decide) (by decide) HE.out (ys := renC I) HI.out.1 (fun h0 => by obtain ⟨ad, e, hc⟩ := HI.out.2.1 h0; exact ⟨ad, e, fun j u hj => (Keeps.of_below HZ.out).cell_ (hc j u hj)⟩) (renC_one _) (by omega) HZ.out.size ?_; intro A6 c6 w6 h6 g6; rw [Nat.zero_add, List.nil_append] at h6; (try simp only [Nat.zero_add]); have HP := kept h6; (try replace HY := kept (blk_grown HY.out g6 (fun e => HNE.out (Option.some.inj e).symm))); replace HZ := kept (bel_grown HZ.out (Nat.le_refl _) HE.out g6); (have HS := kept (show (fun W' : World => W'.cell? ⟨b, 0, none⟩ = some (.slice A n k) ∧ W'.cell? ⟨w1.heap.size, 0, none⟩ = some (.int .i64 y.a) ∧ W'.cell? ⟨w1.heap.size, 1, none⟩ = some (.int .i64 y.b) ∧ W'.cell? ⟨w1.heap.size, 2, none⟩ = some (.bool y.t) ∧ W'.cell? ⟨w1.heap.size, 3, none⟩ = some (.int .i64 y.c) ∧ W'.cell? ⟨w1.heap.size, 4, none⟩ = some (.int .i64 y.v)) _ from ⟨(Keeps.of_below HZ.out).cell_ HS0.out.1, (Keeps.of_below HZ.out).cell_ HS0.out.2.1, (Keeps.of_below HZ.out).cell_ HS0.out.2.2.1, (Keeps.of_below HZ.out).cell_ HS0.out.2.2.2.1, (Keeps.of_below HZ.out).cell_ HS0.out.2.2.2.2.1, (Keeps.of_below HZ.out).cell_ HS0.out.2.2.2.2.2⟩)); clear h6 g6)
            refine hK.out _ _ ?_ (fun hHeld => ?_)
            · (first | exact fun hE => absurd hE (by decide) | (intro _; (try dsimp only); (first | with_reducible exact HS0.out | with_reducible exact HS.out)))
            clear hK K
            (try replace hHeld := hHeld (by decide))
            (try simp only [Act.put, List.setIfInBounds_toArray, List.set_cons_zero, List.set_cons_succ])
            refine ready_L 9 (fun o ho K hK => ?_)
            (simp only [List.getElem?_toArray, List.getElem?_cons_succ, List.getElem?_cons_zero, Option.some.injEq] at ho)
            subst ho
            (refine wp_append_h (.tmp 43) (.tmp 45) 116 rfl 124 rfl rfl Tryz.underlying116 reninfo rfl (by decide) (by decide) HP.out (ys := [.int .i64 y.a, .int .i64 y.b, .bool y.t, .int .i64 y.c, .int .i64 y.v]) rfl (fun _ => ⟨_, rfl, fun j u hj => by rw [gadd_at, Nat.zero_add]; exact (HY.out.cell j).trans hj⟩) (by intro u hu; simp only [List.mem_cons, List.not_mem_nil, or_false] at hu; rcases hu with rfl | rfl | rfl | rfl | rfl <;> rfl) (by omega) HZ.out.size ?_; intro A9 c9 w9 h9 g9; have HP9 := kept h9; replace HZ := kept (bel_grown HZ.out (Nat.le_refl _) HP.out g9); (have HS := kept (show (fun W' : World => W'.cell? ⟨b, 0, none⟩ = some (.slice A n k) ∧ W'.cell? ⟨w1.heap.size, 0, none⟩ = some (.int .i64 y.a) ∧ W'.cell? ⟨w1.heap.size, 1, none⟩ = some (.int .i64 y.b) ∧ W'.cell? ⟨w1.heap.size, 2, none⟩ = some (.bool y.t) ∧ W'.cell? ⟨w1.heap.size, 3, none⟩ = some (.int .i64 y.c) ∧ W'.cell? ⟨w1.heap.size, 4, none⟩ = some (.int .i64 y.v)) _ from ⟨(Keeps.of_below HZ.out).cell_ HS0.out.1, (Keeps.of_below HZ.out).cell_ HS0.out.2.1, (Keeps.of_below HZ.out).cell_ HS0.out.2.2.1, (Keeps.of_below HZ.out).cell_ HS0.out.2.2.2.1, (Keeps.of_below HZ.out).cell_ HS0.out.2.2.2.2.1, (Keeps.of_below HZ.out).cell_ HS0.out.2.2.2.2.2⟩)); (have hb9 := HS.out.1); have f9 := (HBX.out.below HZ.out HBX.out.lt).frozen 0; clear h9 g9)
            refine hK.out _ _ ?_ (fun hHeld => ?_)
            · (first | exact fun hE => absurd hE (by decide) | (intro _; (try dsimp only); (first | with_reducible exact HS0.out | with_reducible exact HS.out)))
            clear hK K
            (try replace hHeld := hHeld (by decide))
            (try simp only [Act.put, List.setIfInBounds_toArray, List.set_cons_zero, List.set_cons_succ])
            refine take_P 10 (some 47) ?_ (by (intro o ho w; (simp only [List.getElem?_toArray, List.getElem?_cons_succ, List.getElem?_cons_zero, Option.some.injEq] at ho); subst ho; go_simp; (first | done | with_reducible rfl))) (by ((try simp only [Act.put, hA, h0, h1]); (first | done | rfl))) (by first | exact fun _ => by assumption | exact fun hE => absurd hE (by decide))
            (try simp only [Act.put, List.setIfInBounds_toArray, List.set_cons_zero, List.set_cons_succ])
            refine take_P 11 (some 48) ?_ (by (intro o ho w; (simp only [List.getElem?_toArray, List.getElem?_cons_succ, List.getElem?_cons_zero, Option.some.injEq] at ho); subst ho; go_simp; (first | done | with_reducible rfl))) (by ((try simp only [Act.put, hA, h0, h1]); (first | done | rfl))) (by first | exact fun _ => by assumption | exact fun hE => absurd hE (by decide))
            (try simp only [Act.put, List.setIfInBounds_toArray, List.set_cons_zero, List.set_cons_succ])
            refine ready_L 12 (fun o ho K hK => ?_)
            (simp only [List.getElem?_toArray, List.getElem?_cons_succ, List.getElem?_cons_zero, Option.some.injEq] at ho)
            subst ho
            go_simp
            skip
            refine hK.out _ _ ?_ (fun hHeld => ?_)
            · (first | exact fun hE => absurd hE (by decide) | (intro _; (try dsimp only); (first | with_reducible exact HS0.out | with_reducible exact HS.out)))
            clear hK K
            (try replace hHeld := hHeld (by decide))
            (try simp only [Act.put, List.setIfInBounds_toArray, List.set_cons_zero, List.set_cons_succ])
            refine done_L (by kernel_rfl) ?_ _
            clear hHeld hb9 f9
            go_wp2
            go_returns
            have hbX := (HBX.out.below HZ.out HBX.out.lt).set_ 0 (.slice A9 (n + 1) c9)
            have tX : Turned w9 (w9.setCell ⟨b, 0, none⟩ (.slice A9 (n + 1) c9)) (fun j => j = b) := (Turned.refl w9 (fun j => j = b)).setCell (p := ⟨b, 0, none⟩) (fun _ => rfl) _
            have h9 := HP9.out
            have h9' : w9.ownsRow Es.drew.heap.size 124 5 (.slice A9 (n + 1) c9) (n + 1) (renC (I ++ [y])) := by
              rw [renC_append]
              exact h9
            have hoX := gown_turned h9' tX (fun j hj e => by have := (gown_lt h9' hj).1; have := HBX.out.lt; omega)
            refine ⟨0, n + 1, by simp, rfl, ⟨A9, c9, I ++ [y], hbX, own_mono3 hoX (Nat.le_trans HH.out.le (Nat.le_of_lt HBX.out.lt)), by simp [HI.out.2.2], HH.out.le⟩, Nat.le_refl _, fun _ => by omega, ?_⟩
            exact ((Turned.of_below (bel_to HZ.out HBW.out) (OfT B w)).chain tX (fun j hj e => by subst e; exact ⟨HH.out.le, _, _, _, HHB.out, .inl rfl⟩))
        · (simp only [List.getElem?_toArray, List.getElem?_cons_succ, List.getElem?_cons_zero, Option.some.injEq] at ho)
          subst ho
          go_simp
          (refine name_world (fun Wy hWy => ?_); (try replace hWy := hWy.trans (drew_alloc_ _ _)); have hby := below_alloc hWy; have HY := kept (ren_new hWy); replace HZ := kept (bel_to hby HZ.out); (try have HNE := kept (ne_new HE.out hWy)); (try replace HE := kept (gown_turned HE.out (Turned.of_below hby (fun _ => False)) (fun _ _ e => e))); (try replace HP := kept (gown_turned HP.out (Turned.of_below hby (fun _ => False)) (fun _ _ e => e))); (have HS := kept (show (fun W' : World => W'.cell? ⟨b, 0, none⟩ = some (.slice A n k) ∧ W'.cell? ⟨w1.heap.size, 0, none⟩ = some (.int .i64 y.a) ∧ W'.cell? ⟨w1.heap.size, 1, none⟩ = some (.int .i64 y.b) ∧ W'.cell? ⟨w1.heap.size, 2, none⟩ = some (.bool y.t) ∧ W'.cell? ⟨w1.heap.size, 3, none⟩ = some (.int .i64 y.c) ∧ W'.cell? ⟨w1.heap.size, 4, none⟩ = some (.int .i64 y.v)) _ from ⟨(Keeps.of_below HZ.out).cell_ HS0.out.1, (Keeps.of_below HZ.out).cell_ HS0.out.2.1, (Keeps.of_below HZ.out).cell_ HS0.out.2.2.1, (Keeps.of_below HZ.out).cell_ HS0.out.2.2.2.1, (Keeps.of_below HZ.out).cell_ HS0.out.2.2.2.2.1, (Keeps.of_below HZ.out).cell_ HS0.out.2.2.2.2.2⟩)); clear hby hWy)
          refine hK.out _ _ ?_ (fun hHeld => ?_)
          · (first | exact fun hE => absurd hE (by decide) | (intro _; (try dsimp only); (first | with_reducible exact HS0.out | with_reducible exact HS.out)))
          clear hK K
          (try replace hHeld := hHeld (by decide))
          (try simp only [Act.put, List.setIfInBounds_toArray, List.set_cons_zero, List.set_cons_succ])
          refine ready_L 1 (fun o ho K hK => ?_)
          (simp only [List.getElem?_toArray, List.getElem?_cons_succ, List.getElem?_cons_zero, Option.some.injEq] at ho)
          subst ho
          go_simp
          (refine name_world (fun We hWe => ?_); (try replace hWe := hWe.trans (drew_alloc_ _ _)); have hbe := below_alloc hWe; have HE := kept (ren_empty HZ.out.size hWe); replace HZ := kept (bel_to hbe HZ.out); (try have HNE := kept (ne_new' HY.out hWe)); (try replace HY := kept (HY.out.below hbe HY.out.lt)); (have HS := kept (show (fun W' : World => W'.cell? ⟨b, 0, none⟩ = some (.slice A n k) ∧ W'.cell? ⟨w1.heap.size, 0, none⟩ = some (.int .i64 y.a) ∧ W'.cell? ⟨w1.heap.size, 1, none⟩ = some (.int .i64 y.b) ∧ W'.cell? ⟨w1.heap.size, 2, none⟩ = some (.bool y.t) ∧ W'.cell? ⟨w1.heap.size, 3, none⟩ = some (.int .i64 y.c) ∧ W'.cell? ⟨w1.heap.size, 4, none⟩ = some (.int .i64 y.v)) _ from ⟨(Keeps.of_below HZ.out).cell_ HS0.out.1, (Keeps.of_below HZ.out).cell_ HS0.out.2.1, (Keeps.of_below HZ.out).cell_ HS0.out.2.2.1, (Keeps.of_below HZ.out).cell_ HS0.out.2.2.2.1, (Keeps.of_below HZ.out).cell_ HS0.out.2.2.2.2.1, (Keeps.of_below HZ.out).cell_ HS0.out.2.2.2.2.2⟩)); clear hbe hWe)
          refine hK.out _ _ ?_ (fun hHeld => ?_)
          · (first | exact fun hE => absurd hE (by decide) | (intro _; (try dsimp only); (first | with_reducible exact HS0.out | with_reducible exact HS.out)))
          clear hK K
          (try replace hHeld := hHeld (by decide))
          (try simp only [Act.put, List.setIfInBounds_toArray, List.set_cons_zero, List.set_cons_succ])
          refine ready_L 6 (fun o ho K hK => ?_)
          (simp only [List.getElem?_toArray, List.getElem?_cons_succ, List.getElem?_cons_zero, Option.some.injEq] at ho)
          subst ho
          (refine wp_append_h (.tmp 38) (.tmp 42) 116 rfl 124 rfl rfl Tryz.underlying116 reninfo rfl (by decide) (by decide) HE.out (ys := renC I) HI.out.1 (fun h0 => by obtain ⟨ad, e, hc⟩ := HI.out.2.1 h0; exact ⟨ad, e, fun j u hj => (Keeps.of_below HZ.out).cell_ (hc j u hj)⟩) (renC_one _) (by omega) HZ.out.size ?_; intro A6 c6 w6 h6 g6; rw [Nat.zero_add, List.nil_append] at h6; (try simp only [Nat.zero_add]); have HP := kept h6; (try replace HY := kept (blk_grown HY.out g6 (fun e => HNE.out (Option.some.inj e).symm))); replace HZ := kept (bel_grown HZ.out (Nat.le_refl _) HE.out g6); (have HS := kept (show (fun W' : World => W'.cell? ⟨b, 0, none⟩ = some (.slice A n k) ∧ W'.cell? ⟨w1.heap.size, 0, none⟩ = some (.int .i64 y.a) ∧ W'.cell? ⟨w1.heap.size, 1, none⟩ = some (.int .i64 y.b) ∧ W'.cell? ⟨w1.heap.size, 2, none⟩ = some (.bool y.t) ∧ W'.cell? ⟨w1.heap.size, 3, none⟩ = some (.int .i64 y.c) ∧ W'.cell? ⟨w1.heap.size, 4, none⟩ = some (.int .i64 y.v)) _ from ⟨(Keeps.of_below HZ.out).cell_ HS0.out.1, (Keeps.of_below HZ.out).cell_ HS0.out.2.1, (Keeps.of_below HZ.out).cell_ HS0.out.2.2.1, (Keeps.of_below HZ.out).cell_ HS0.out.2.2.2.1, (Keeps.of_below HZ.out).cell_ HS0.out.2.2.2.2.1, (Keeps.of_below HZ.out).cell_ HS0.out.2.2.2.2.2⟩)); clear h6 g6)
          refine hK.out _ _ ?_ (fun hHeld => ?_)
          · (first | exact fun hE => absurd hE (by decide) | (intro _; (try dsimp only); (first | with_reducible exact HS0.out | with_reducible exact HS.out)))
          clear hK K
          (try replace hHeld := hHeld (by decide))
          (try simp only [Act.put, List.setIfInBounds_toArray, List.set_cons_zero, List.set_cons_succ])
          refine ready_L 9 (fun o ho K hK => ?_)
          (simp only [List.getElem?_toArray, List.getElem?_cons_succ, List.getElem?_cons_zero, Option.some.injEq] at ho)
          subst ho
          (refine wp_append_h (.tmp 43) (.tmp 45) 116 rfl 124 rfl rfl Tryz.underlying116 reninfo rfl (by decide) (by decide) HP.out (ys := [.int .i64 y.a, .int .i64 y.b, .bool y.t, .int .i64 y.c, .int .i64 y.v]) rfl (fun _ => ⟨_, rfl, fun j u hj => by rw [gadd_at, Nat.zero_add]; exact (HY.out.cell j).trans hj⟩) (by intro u hu; simp only [List.mem_cons, List.not_mem_nil, or_false] at hu; rcases hu with rfl | rfl | rfl | rfl | rfl <;> rfl) (by omega) HZ.out.size ?_; intro A9 c9 w9 h9 g9; have HP9 := kept h9; replace HZ := kept (bel_grown HZ.out (Nat.le_refl _) HP.out g9); (have HS := kept (show (fun W' : World => W'.cell? ⟨b, 0, none⟩ = some (.slice A n k) ∧ W'.cell? ⟨w1.heap.size, 0, none⟩ = some (.int .i64 y.a) ∧ W'.cell? ⟨w1.heap.size, 1, none⟩ = some (.int .i64 y.b) ∧ W'.cell? ⟨w1.heap.size, 2, none⟩ = some (.bool y.t) ∧ W'.cell? ⟨w1.heap.size, 3, none⟩ = some (.int .i64 y.c) ∧ W'.cell? ⟨w1.heap.size, 4, none⟩ = some (.int .i64 y.v)) _ from ⟨(Keeps.of_below HZ.out).cell_ HS0.out.1, (Keeps.of_below HZ.out).cell_ HS0.out.2.1, (Keeps.of_below HZ.out).cell_ HS0.out.2.2.1, (Keeps.of_below HZ.out).cell_ HS0.out.2.2.2.1, (Keeps.of_below HZ.out).cell_ HS0.out.2.2.2.2.1, (Keeps.of_below HZ.out).cell_ HS0.out.2.2.2.2.2⟩)); (have hb9 := HS.out.1); have f9 := (HBX.out.below HZ.out HBX.out.lt).frozen 0; clear h9 g9)
          refine hK.out _ _ ?_ (fun hHeld => ?_)
          · (first | exact fun hE => absurd hE (by decide) | (intro _; (try dsimp only); (first | with_reducible exact HS0.out | with_reducible exact HS.out)))
          clear hK K
          (try replace hHeld := hHeld (by decide))
          (try simp only [Act.put, List.setIfInBounds_toArray, List.set_cons_zero, List.set_cons_succ])
          refine take_P 10 (some 47) ?_ (by (intro o ho w; (simp only [List.getElem?_toArray, List.getElem?_cons_succ, List.getElem?_cons_zero, Option.some.injEq] at ho); subst ho; go_simp; (first | done | with_reducible rfl))) (by ((try simp only [Act.put, hA, h0, h1]); (first | done | rfl))) (by first | exact fun _ => by assumption | exact fun hE => absurd hE (by decide))
          (try simp only [Act.put, List.setIfInBounds_toArray, List.set_cons_zero, List.set_cons_succ])
          refine take_P 11 (some 48) ?_ (by (intro o ho w; (simp only [List.getElem?_toArray, List.getElem?_cons_succ, List.getElem?_cons_zero, Option.some.injEq] at ho); subst ho; go_simp; (first | done | with_reducible rfl))) (by ((try simp only [Act.put, hA, h0, h1]); (first | done | rfl))) (by first | exact fun _ => by assumption | exact fun hE => absurd hE (by decide))
          (try simp only [Act.put, List.setIfInBounds_toArray, List.set_cons_zero, List.set_cons_succ])
          refine ready_L 12 (fun o ho K hK => ?_)
          (simp only [List.getElem?_toArray, List.getElem?_cons_succ, List.getElem?_cons_zero, Option.some.injEq] at ho)
          subst ho
          go_simp
          skip
          refine hK.out _ _ ?_ (fun hHeld => ?_)
          · (first | exact fun hE => absurd hE (by decide) | (intro _; (try dsimp only); (first | with_reducible exact HS0.out | with_reducible exact HS.out)))
          clear hK K
          (try replace hHeld := hHeld (by decide))
          (try simp only [Act.put, List.setIfInBounds_toArray, List.set_cons_zero, List.set_cons_succ])
          refine done_L (by kernel_rfl) ?_ _
          clear hHeld hb9 f9
          go_wp2
          go_returns
          have hbX := (HBX.out.below HZ.out HBX.out.lt).set_ 0 (.slice A9 (n + 1) c9)
          have tX : Turned w9 (w9.setCell ⟨b, 0, none⟩ (.slice A9 (n + 1) c9)) (fun j => j = b) := (Turned.refl w9 (fun j => j = b)).setCell (p := ⟨b, 0, none⟩) (fun _ => rfl) _
          have h9 := HP9.out
          have h9' : w9.ownsRow Es.drew.heap.size 124 5 (.slice A9 (n + 1) c9) (n + 1) (renC (I ++ [y])) := by
            rw [renC_append]
            exact h9
          have hoX := gown_turned h9' tX (fun j hj e => by have := (gown_lt h9' hj).1; have := HBX.out.lt; omega)
          refine ⟨0, n + 1, by simp, rfl, ⟨A9, c9, I ++ [y], hbX, own_mono3 hoX (Nat.le_trans HH.out.le (Nat.le_of_lt HBX.out.lt)), by simp [HI.out.2.2], HH.out.le⟩, Nat.le_refl _, fun _ => by omega, ?_⟩
          exact ((Turned.of_below (bel_to HZ.out HBW.out) (OfT B w)).chain tX (fun j hj e => by subst e; exact ⟨HH.out.le, _, _, _, HHB.out, .inl rfl⟩))
      · have hrf : RF ((w3).alloc (.cells #[.int .i64 x.a, .int .i64 x.b, .bool true, .int .i64 x.c, .int .i64 x.v] 124)) B b n := H1.out.below (bel_to ((Below.refl (w3).heap.size (w3)).alloc (Nat.le_refl _) _) (HB13.out))
        obtain ⟨A, k, I, hbx, hown, hIl, _⟩ := hrf
        have hyk : Blk ((w3).alloc (.cells #[.int .i64 x.a, .int .i64 x.b, .bool true, .int .i64 x.c, .int .i64 x.v] 124)) w1.heap.size 124 (En5.cells ⟨q.1, q.2, false, q.1, 1⟩) := (HK3.out).alloc _
        have hbs : Below w.heap.size w ((w3).alloc (.cells #[.int .i64 x.a, .int .i64 x.b, .bool true, .int .i64 x.c, .int .i64 x.v] 124)) := bel_to (bel_to ((Below.refl (w3).heap.size (w3)).alloc (Nat.le_refl _) _) (HB13.out)) HB1.out
        go_wp2
        generalize hEs : ((w3).alloc (.cells #[.int .i64 x.a, .int .i64 x.b, .bool true, .int .i64 x.c, .int .i64 x.v] 124)) = Es at hbx hown hyk hbs ⊢
        generalize hyy : (⟨q.1, q.2, false, q.1, 1⟩ : En5) = y at hyk
        have hbe : Below Es.heap.size Es Es.drew := (Below.refl _ _).drew
        have HBX := kept (hbx.below hbe hbx.lt)
        have hyW := hyk.below hbe hyk.lt
        have howns := gown_turned hown (Turned.of_below hbe (fun _ => False)) (fun _ _ e => e)
        have HBW := kept (bel_to hbe hbs)
        have HI := kept (And.intro (show (renC I).length = n * 5 by rw [renC_length, hIl]) (And.intro (show 0 < n → ∃ ad, A = some ad ∧ ∀ j u, (renC I)[j]? = some u → Es.drew.cell? (ad.add j) = some u from fun h0 => by obtain ⟨g, e, _⟩ := gown_at howns h0; subst e; exact ⟨_, rfl, fun j u hj => howns.cells (g := g) rfl j u hj⟩) hIl))
        have HS0 := kept (show (fun W' : World => W'.cell? ⟨b, 0, none⟩ = some (.slice A n k) ∧ W'.cell? ⟨w1.heap.size, 0, none⟩ = some (.int .i64 y.a) ∧ W'.cell? ⟨w1.heap.size, 1, none⟩ = some (.int .i64 y.b) ∧ W'.cell? ⟨w1.heap.size, 2, none⟩ = some (.bool y.t) ∧ W'.cell? ⟨w1.heap.size, 3, none⟩ = some (.int .i64 y.c) ∧ W'.cell? ⟨w1.heap.size, 4, none⟩ = some (.int .i64 y.v)) Es.drew from ⟨HBX.out.cell 0, hyW.cell 0, hyW.cell 1, hyW.cell 2, hyW.cell 3, hyW.cell 4⟩)
        have HZ := kept (Below.refl Es.drew.heap.size Es.drew)
        clear hbx hown hyk hbs hbe hyW howns hIl hyy hEs
        refine region_L [12] ((fun W' => W'.cell? ⟨b, 0, none⟩ = some (.slice A n k) ∧ W'.cell? ⟨w1.heap.size, 0, none⟩ = some (.int .i64 y.a) ∧ W'.cell? ⟨w1.heap.size, 1, none⟩ = some (.int .i64 y.b) ∧ W'.cell? ⟨w1.heap.size, 2, none⟩ = some (.bool y.t) ∧ W'.cell? ⟨w1.heap.size, 3, none⟩ = some (.int .i64 y.c) ∧ W'.cell? ⟨w1.heap.size, 4, none⟩ = some (.int .i64 y.v))) (by kernel_rfl) ?_ (fun hHeld => ?_)
        · ((try dsimp only); (first | with_reducible exact HS0.out | with_reducible exact HS.out))
        (try simp only [List.size_toArray, List.length_cons, List.length_nil, Nat.reduceAdd, Array.replicate_succ, Array.replicate_zero, List.push_toArray, List.append_toArray, List.nil_append, List.cons_append])
        refine take_P 0 (some 37) ?_ (by (intro o ho w; (simp only [List.getElem?_toArray, List.getElem?_cons_succ, List.getElem?_cons_zero, Option.some.injEq] at ho); subst ho; go_simp; (first | done | with_reducible rfl))) (by ((try simp only [Act.put, hA, h0, h1]); (first | done | rfl))) (by first | exact fun _ => by assumption | exact fun hE => absurd hE (by decide))
        (try simp only [Act.put, List.setIfInBounds_toArray, List.set_cons_zero, List.set_cons_succ])
        refine take_P 2 (some 39) ?_ (by (intro o ho w; (simp only [List.getElem?_toArray, List.getElem?_cons_succ, List.getElem?_cons_zero, Option.some.injEq] at ho); subst ho; go_simp; (first | done | with_reducible rfl))) (by ((try simp only [Act.put, hA, h0, h1]); (first | done | rfl))) (by first | exact fun _ => by assumption | exact fun hE => absurd hE (by decide))
        (try simp only [Act.put, List.setIfInBounds_toArray, List.set_cons_zero, List.set_cons_succ])
        refine take_P 3 (some 40) ?_ (by (intro o ho w; (simp only [List.getElem?_toArray, List.getElem?_cons_succ, List.getElem?_cons_zero, Option.some.injEq] at ho); subst ho; go_simp; (first | done | with_reducible rfl))) (by ((try simp only [Act.put, hA, h0, h1]); (first | done | rfl))) (by first | exact fun _ => by assumption | exact fun hE => absurd hE (by decide))
        (try simp only [Act.put, List.setIfInBounds_toArray, List.set_cons_zero, List.set_cons_succ])
        refine take_P 4 (some 41) ?_ (by (intro o ho w; (simp only [List.getElem?_toArray, List.getElem?_cons_succ, List.getElem?_cons_zero, Option.some.injEq] at ho); subst ho; go_simp; (first | done | with_reducible rfl))) (by ((try simp only [Act.put, hA, h0, h1]); (first | done | rfl))) (by first | exact fun _ => by assumption | exact fun hE => absurd hE (by decide))
        (try simp only [Act.put, List.setIfInBounds_toArray, List.set_cons_zero, List.set_cons_succ])
        refine take_L 5 (some 42) ?_ (by (intro o ho w hSw; (simp only [List.getElem?_toArray, List.getElem?_cons_succ, List.getElem?_cons_zero, Option.some.injEq] at ho); subst ho; (try dsimp only at hSw); go_simp; (first | done | with_reducible rfl))) (by ((try simp only [Act.put, hA, h0, h1]); (first | done | rfl)))
        (try simp only [Act.put, List.setIfInBounds_toArray, List.set_cons_zero, List.set_cons_succ])
        refine take_L 7 (some 44) ?_ (by (intro o ho w hSw; (simp only [List.getElem?_toArray, List.getElem?_cons_succ, List.getElem?_cons_zero, Option.some.injEq] at ho); subst ho; (try dsimp only at hSw); go_simp; (first | done | with_reducible rfl))) (by ((try simp only [Act.put, hA, h0, h1]); (first | done | rfl)))
        (try simp only [Act.put, List.setIfInBounds_toArray, List.set_cons_zero, List.set_cons_succ])
        refine two_L 1 8 (fun o ho K hK => ?_) (fun o ho K hK => ?_)
        · (simp only [List.getElem?_toArray, List.getElem?_cons_succ, List.getElem?_cons_zero, Option.some.injEq] at ho)
          subst ho
          go_simp
          (refine name_world (fun We hWe => ?_); (try replace hWe := hWe.trans (drew_alloc_ _ _)); have hbe := below_alloc hWe; have HE := kept (ren_empty HZ.out.size hWe); replace HZ := kept (bel_to hbe HZ.out); (try have HNE := kept (ne_new' HY.out hWe)); (try replace HY := kept (HY.out.below hbe HY.out.lt)); (have HS := kept (show (fun W' : World => W'.cell? ⟨b, 0, none⟩ = some (.slice A n k) ∧ W'.cell? ⟨w1.heap.size, 0, none⟩ = some (.int .i64 y.a) ∧ W'.cell? ⟨w1.heap.size, 1, none⟩ = some (.int .i64 y.b) ∧ W'.cell? ⟨w1.heap.size, 2, none⟩ = some (.bool y.t) ∧ W'.cell? ⟨w1.heap.size, 3, none⟩ = some (.int .i64 y.c) ∧ W'.cell? ⟨w1.heap.size, 4, none⟩ = some (.int .i64 y.v)) _ from ⟨(Keeps.of_below HZ.out).cell_ HS0.out.1, (Keeps.of_below HZ.out).cell_ HS0.out.2.1, (Keeps.of_below HZ.out).cell_ HS0.out.2.2.1, (Keeps.of_below HZ.out).cell_ HS0.out.2.2.2.1, (Keeps.of_below HZ.out).cell_ HS0.out.2.2.2.2.1, (Keeps.of_below HZ.out).cell_ HS0.out.2.2.2.2.2⟩)); clear hbe hWe)
          refine hK.out _ _ ?_ (fun hHeld => ?_)
          · (first | exact fun hE => absurd hE (by decide) | (intro _; (try dsimp only); (first | with_reducible exact HS0.out | with_reducible exact HS.out)))
          clear hK K
          (try replace hHeld := hHeld (by decide))
          (try simp only [Act.put, List.setIfInBounds_toArray, List.set_cons_zero, List.set_cons_succ])
          refine two_L 6 8 (fun o ho K hK => ?_) (fun o ho K hK => ?_)
          · (simp only [List.getElem?_toArray, List.getElem?_cons_succ, List.getElem?_cons_zero, Option.some.injEq] at ho)
            subst ho
            (refine wp_append_h (.tmp 38) (.tmp 42) 116 rfl 124 rfl rfl Tryz.underlying116 reninfo rfl (by decide) (by decide) HE.out (ys := renC I) HI.out.1 (fun h0 => by obtain ⟨ad, e, hc⟩ := HI.out.2.1 h0; exact ⟨ad, e, fun j u hj => (Keeps.of_below HZ.out).cell_ (hc j u hj)⟩) (renC_one _) (by omega) HZ.out.size ?_; intro A6 c6 w6 h6 g6; rw [Nat.zero_add, List.nil_append] at h6; (try simp only [Nat.zero_add]); have HP := kept h6; (try replace HY := kept (blk_grown HY.out g6 (fun e => HNE.out (Option.some.inj e).symm))); replace HZ := kept (bel_grown HZ.out (Nat.le_refl _) HE.out g6); (have HS := kept (show (fun W' : World => W'.cell? ⟨b, 0, none⟩ = some (.slice A n k) ∧ W'.cell? ⟨w1.heap.size, 0, none⟩ = some (.int .i64 y.a) ∧ W'.cell? ⟨w1.heap.size, 1, none⟩ = some (.int .i64 y.b) ∧ W'.cell? ⟨w1.heap.size, 2, none⟩ = some (.bool y.t) ∧ W'.cell? ⟨w1.heap.size, 3, none⟩ = some (.int .i64 y.c) ∧ W'.cell? ⟨w1.heap.size, 4, none⟩ = some (.int .i64 y.v)) _ from ⟨(Keeps.of_below HZ.out).cell_ HS0.out.1, (Keeps.of_below HZ.out).cell_ HS0.out.2.1, (Keeps.of_below HZ.out).cell_ HS0.out.2.2.1, (Keeps.of_below HZ.out).cell_ HS0.out.2.2.2.1, (Keeps.of_below HZ.out).cell_ HS0.out.2.2.2.2.1, (Keeps.of_below HZ.out).cell_ HS0.out.2.2.2.2.2⟩)); clear h6 g6)
            refine hK.out _ _ ?_ (fun hHeld => ?_)
            · (first | exact fun hE => absurd hE (by decide) | (intro _; (try dsimp only); (first | with_reducible exact HS0.out | with_reducible exact HS.out)))
            clear hK K
            (try replace hHeld := hHeld (by decide))
            (try simp only [Act.put, List.setIfInBounds_toArray, List.set_cons_zero, List.set_cons_succ])
            refine ready_L 8 (fun o ho K hK => ?_)
            (simp only [List.getElem?_toArray, List.getElem?_cons_succ, List.getElem?_cons_zero, Option.some.injEq] at ho)
            subst ho
            go_simp
            (refine name_world (fun Wy hWy => ?_); (try replace hWy := hWy.trans (drew_alloc_ _ _)); have hby := below_alloc hWy; have HY := kept (ren_new hWy); replace HZ := kept (bel_to hby HZ.out); (try have HNE := kept (ne_new HE.out hWy)); (try replace HE := kept (gown_turned HE.out (Turned.of_below hby (fun _ => False)) (fun _ _ e => e))); (try replace HP := kept (gown_turned HP.out (Turned.of_below hby (fun _ => False)) (fun _ _ e => e))); (have HS := kept (show (fun W' : World => W'.cell? ⟨b, 0, none⟩ = some (.slice A n k) ∧ W'.cell? ⟨w1.heap.size, 0, none⟩ = some (.int .i64 y.a) ∧ W'.cell? ⟨w1.heap.size, 1, none⟩ = some (.int .i64 y.b) ∧ W'.cell? ⟨w1.heap.size, 2, none⟩ = some (.bool y.t) ∧ W'.cell? ⟨w1.heap.size, 3, none⟩ = some (.int .i64 y.c) ∧ W'.cell? ⟨w1.heap.size, 4, none⟩ = some (.int .i64 y.v)) _ from ⟨(Keeps.of_below HZ.out).cell_ HS0.out.1, (Keeps.of_below HZ.out).cell_ HS0.out.2.1, (Keeps.of_below HZ.out).cell_ HS0.out.2.2.1, (Keeps.of_below HZ.out).cell_ HS0.out.2.2.2.1, (Keeps.of_below HZ.out).cell_ HS0.out.2.2.2.2.1, (Keeps.of_below HZ.out).cell_ HS0.out.2.2.2.2.2⟩)); clear hby hWy)
            refine hK.out _ _ ?_ (fun hHeld => ?_)
            · (first | exact fun hE => absurd hE (by decide) | (intro _; (try dsimp only); (first | with_reducible exact HS0.out | with_reducible exact HS.out)))
            clear hK K
            (try replace hHeld := hHeld (by decide))
            (try simp only [Act.put, List.setIfInBounds_toArray, List.set_cons_zero, List.set_cons_succ])
            refine ready_L 9 (fun o ho K hK => ?_)
            (simp only [List.getElem?_toArray, List.getElem?_cons_succ, List.getElem?_cons_zero, Option.some.injEq] at ho)
            subst ho
            (refine wp_append_h (.tmp 43) (.tmp 45) 116 rfl 124 rfl rfl Tryz.underlying116 reninfo rfl (by decide) (by decide) HP.out (ys := [.int .i64 y.a, .int .i64 y.b, .bool y.t, .int .i64 y.c, .int .i64 y.v]) rfl (fun _ => ⟨_, rfl, fun j u hj => by rw [gadd_at, Nat.zero_add]; exact (HY.out.cell j).trans hj⟩) (by intro u hu; simp only [List.mem_cons, List.not_mem_nil, or_false] at hu; rcases hu with rfl | rfl | rfl | rfl | rfl <;> rfl) (by omega) HZ.out.size ?_; intro A9 c9 w9 h9 g9; have HP9 := kept h9; replace HZ := kept (bel_grown HZ.out (Nat.le_refl _) HP.out g9); (have HS := kept (show (fun W' : World => W'.cell? ⟨b, 0, none⟩ = some (.slice A n k) ∧ W'.cell? ⟨w1.heap.size, 0, none⟩ = some (.int .i64 y.a) ∧ W'.cell? ⟨w1.heap.size, 1, none⟩ = some (.int .i64 y.b) ∧ W'.cell? ⟨w1.heap.size, 2, none⟩ = some (.bool y.t) ∧ W'.cell? ⟨w1.heap.size, 3, none⟩ = some (.int .i64 y.c) ∧ W'.cell? ⟨w1.heap.size, 4, none⟩ = some (.int .i64 y.v)) _ from ⟨(Keeps.of_below HZ.out).cell_ HS0.out.1, (Keeps.of_below HZ.out).cell_ HS0.out.2.1, (Keeps.of_below HZ.out).cell_ HS0.out.2.2.1, (Keeps.of_below HZ.out).cell_ HS0.out.2.2.2.1, (Keeps.of_below HZ.out).cell_ HS0.out.2.2.2.2.1, (Keeps.of_below HZ.out).cell_ HS0.out.2.2.2.2.2⟩)); (have hb9 := HS.out.1); have f9 := (HBX.out.below HZ.out HBX.out.lt).frozen 0; clear h9 g9)
            refine hK.out _ _ ?_ (fun hHeld => ?_)
            · (first | exact fun hE => absurd hE (by decide) | (intro _; (try dsimp only); (first | with_reducible exact HS0.out | with_reducible exact HS.out)))
            clear hK K
            (try replace hHeld := hHeld (by decide))
            (try simp only [Act.put, List.setIfInBounds_toArray, List.set_cons_zero, List.set_cons_succ])
            refine take_P 10 (some 47) ?_ (by (intro o ho w; (simp only [List.getElem?_toArray, List.getElem?_cons_succ, List.getElem?_cons_zero, Option.some.injEq] at ho); subst ho; go_simp; (first | done | with_reducible rfl))) (by ((try simp only [Act.put, hA, h0, h1]); (first | done | rfl))) (by first | exact fun _ => by assumption | exact fun hE => absurd hE (by decide))
            (try simp only [Act.put, List.setIfInBounds_toArray, List.set_cons_zero, List.set_cons_succ])
            refine take_P 11 (some 48) ?_ (by (intro o ho w; (simp only [List.getElem?_toArray, List.getElem?_cons_succ, List.getElem?_cons_zero, Option.some.injEq] at ho); subst ho; go_simp; (first | done | with_reducible rfl))) (by ((try simp only [Act.put, hA, h0, h1]); (first | done | rfl))) (by first | exact fun _ => by assumption | exact fun hE => absurd hE (by decide))
            (try simp only [Act.put, List.setIfInBounds_toArray, List.set_cons_zero, List.set_cons_succ])
            refine ready_L 12 (fun o ho K hK => ?_)
            (simp only [List.getElem?_toArray, List.getElem?_cons_succ, List.getElem?_cons_zero, Option.some.injEq] at ho)
            subst ho
            go_simp
            skip
            refine hK.out _ _ ?_ (fun hHeld => ?_)
            · (first | exact fun hE => absurd hE (by decide) | (intro _; (try dsimp only); (first | with_reducible exact HS0.out | with_reducible exact HS.out)))
            clear hK K
            (try replace hHeld := hHeld (by decide))
            (try simp only [Act.put, List.setIfInBounds_toArray, List.set_cons_zero, List.set_cons_succ])
            refine done_L (by kernel_rfl) ?_ _
            clear hHeld hb9 f9
            go_wp2
            go_returns
            have hbX := (HBX.out.below HZ.out HBX.out.lt).set_ 0 (.slice A9 (n + 1) c9)
            have tX : Turned w9 (w9.setCell ⟨b, 0, none⟩ (.slice A9 (n + 1) c9)) (fun j => j = b) := (Turned.refl w9 (fun j => j = b)).setCell (p := ⟨b, 0, none⟩) (fun _ => rfl) _
            have h9 := HP9.out
            have h9' : w9.ownsRow Es.drew.heap.size 124 5 (.slice A9 (n + 1) c9) (n + 1) (renC (I ++ [y])) := by
              rw [renC_append]
              exact h9
            have hoX := gown_turned h9' tX (fun j hj e => by have := (gown_lt h9' hj).1; have := HBX.out.lt; omega)
            refine ⟨0, n + 1, by simp, rfl, ⟨A9, c9, I ++ [y], hbX, own_mono3 hoX (Nat.le_trans HH.out.le (Nat.le_of_lt HBX.out.lt)), by simp [HI.out.2.2], HH.out.le⟩, Nat.le_refl _, fun _ => by omega, ?_⟩
            exact ((Turned.of_below (bel_to HZ.out HBW.out) (OfT B w)).chain tX (fun j hj e => by subst e; exact ⟨HH.out.le, _, _, _, HHB.out, .inl rfl⟩))
          · (simp only [List.getElem?_toArray, List.getElem?_cons_succ, List.getElem?_cons_zero, Option.some.injEq] at ho)
            subst ho
            go_simp
            (refine name_world (fun Wy hWy => ?_); (try replace hWy := hWy.trans (drew_alloc_ _ _)); have hby := below_alloc hWy; have HY := kept (ren_new hWy); replace HZ := kept (bel_to hby HZ.out); (try have HNE := kept (ne_new HE.out hWy)); (try replace HE := kept (gown_turned HE.out (Turned.of_below hby (fun _ => False)) (fun _ _ e => e))); (try replace HP := kept (gown_turned HP.out (Turned.of_below hby (fun _ => False)) (fun _ _ e => e))); (have HS := kept (show (fun W' : World => W'.cell? ⟨b, 0, none⟩ = some (.slice A n k) ∧ W'.cell? ⟨w1.heap.size, 0, none⟩ = some (.int .i64 y.a) ∧ W'.cell? ⟨w1.heap.size, 1, none⟩ = some (.int .i64 y.b) ∧ W'.cell? ⟨w1.heap.size, 2, none⟩ = some (.bool y.t) ∧ W'.cell? ⟨w1.heap.size, 3, none⟩ = some (.int .i64 y.c) ∧ W'.cell? ⟨w1.heap.size, 4, none⟩ = some (.int .i64 y.v)) _ from ⟨(Keeps.of_below HZ.out).cell_ HS0.out.1, (Keeps.of_below HZ.out).cell_ HS0.out.2.1, (Keeps.of_below HZ.out).cell_ HS0.out.2.2.1, (Keeps.of_below HZ.out).cell_ HS0.out.2.2.2.1, (Keeps.of_below HZ.out).cell_ HS0.out.2.2.2.2.1, (Keeps.of_below HZ.out).cell_ HS0.out.2.2.2.2.2⟩)); clear hby hWy)
            refine hK.out _ _ ?_ (fun hHeld => ?_)
            · (first | exact fun hE => absurd hE (by decide) | (intro _; (try dsimp only); (first | with_reducible exact HS0.out | with_reducible exact HS.out)))
            clear hK K
            (try replace hHeld := hHeld (by decide))
            (try simp only [Act.put, List.setIfInBounds_toArray, List.set_cons_zero, List.set_cons_succ])
            refine ready_L 6 (fun o ho K hK => ?_)
            (simp only [List.getElem?_toArray, List.getElem?_cons_succ, List.getElem?_cons_zero, Option.some.injEq] at ho)
            subst ho
            (refine wp_append_h (.tmp 38) (.tmp 42) 116 rfl 124 rfl rfl Tryz.underlying116 reninfo rfl (by decide) (by decide) HE.out (ys := renC I) HI.out.1 (fun h0 => by obtain ⟨ad, e, hc⟩ := HI.out.2.1 h0; exact ⟨ad, e, fun j u hj => (Keeps.of_below HZ.out).cell_ (hc j u hj)⟩) (renC_one _) (by omega) HZ.out.size ?_; intro A6 c6 w6 h6 g6; rw [Nat.zero_add, List.nil_append] at h6; (try simp only [Nat.zero_add]); have HP := kept h6; (try replace HY := kept (blk_grown HY.out g6 (fun e => HNE.out (Option.some.inj e).symm))); replace HZ := kept (bel_grown HZ.out (Nat.le_refl _) HE.out g6); (have HS := kept (show (fun W' : World => W'.cell? ⟨b, 0, none⟩ = some (.slice A n k) ∧ W'.cell? ⟨w1.heap.size, 0, none⟩ = some (.int .i64 y.a) ∧ W'.cell? ⟨w1.heap.size, 1, none⟩ = some (.int .i64 y.b) ∧ W'.cell? ⟨w1.heap.size, 2, none⟩ = some (.bool y.t) ∧ W'.cell? ⟨w1.heap.size, 3, none⟩ = some (.int .i64 y.c) ∧ W'.cell? ⟨w1.heap.size, 4, none⟩ = some (.int .i64 y.v)) _ from ⟨(Keeps.of_below HZ.out).cell_ HS0.out.1, (Keeps.of_below HZ.out).cell_ HS0.out.2.1, (Keeps.of_below HZ.out).cell_ HS0.out.2.2.1, (Keeps.of_below HZ.out).cell_ HS0.out.2.2.2.1, (Keeps.of_below HZ.out).cell_ HS0.out.2.2.2.2.1, (Keeps.of_below HZ.out).cell_ HS0.out.2.2.2.2.2⟩)); clear h6 g6)
            refine hK.out _ _ ?_ (fun hHeld => ?_)
            · (first | exact fun hE => absurd hE (by decide) | (intro _; (try dsimp only); (first | with_reducible exact HS0.out | with_reducible exact HS.out)))
            clear hK K
            (try replace hHeld := hHeld (by decide))
            (try simp only [Act.put, List.setIfInBounds_toArray, List.set_cons_zero, List.set_cons_succ])
            refine ready_L 9 (fun o ho K hK => ?_)
            (simp only [List.getElem?_toArray, List.getElem?_cons_succ, List.getElem?_cons_zero, Option.some.injEq] at ho)
            subst ho
            (refine wp_append_h (.tmp 43) (.tmp 45) 116 rfl 124 rfl rfl Tryz.underlying116 reninfo rfl (by decide) (by decide) HP.out (ys := [.int .i64 y.a, .int .i64 y.b, .bool y.t, .int .i64 y.c, .int .i64 y.v]) rfl (fun _ => ⟨_, rfl, fun j u hj => by rw [gadd_at, Nat.zero_add]; exact (HY.out.cell j).trans hj⟩) (by intro u hu; simp only [List.mem_cons, List.not_mem_nil, or_false] at hu; rcases hu with rfl | rfl | rfl | rfl | rfl <;> rfl) (by omega) HZ.out.size ?_; intro A9 c9 w9 h9 g9; have HP9 := kept h9; replace HZ := kept (bel_grown HZ.out (Nat.le_refl _) HP.out g9); (have HS := kept (show (fun W' : World => W'.cell? ⟨b, 0, none⟩ = some (.slice A n k) ∧ W'.cell? ⟨w1.heap.size, 0, none⟩ = some (.int .i64 y.a) ∧ W'.cell? ⟨w1.heap.size, 1, none⟩ = some (.int .i64 y.b) ∧ W'.cell? ⟨w1.heap.size, 2, none⟩ = some (.bool y.t) ∧ W'.cell? ⟨w1.heap.size, 3, none⟩ = some (.int .i64 y.c) ∧ W'.cell? ⟨w1.heap.size, 4, none⟩ = some (.int .i64 y.v)) _ from ⟨(Keeps.of_below HZ.out).cell_ HS0.out.1, (Keeps.of_below HZ.out).cell_ HS0.out.2.1, (Keeps.of_below HZ.out).cell_ HS0.out.2.2.1, (Keeps.of_below HZ.out).cell_ HS0.out.2.2.2.1, (Keeps.of_below HZ.out).cell_ HS0.out.2.2.2.2.1, (Keeps.of_below HZ.out).cell_ HS0.out.2.2.2.2.2⟩)); (have hb9 := HS.out.1); have f9 := (HBX.out.below HZ.out HBX.out.lt).frozen 0; clear h9 g9)
            refine hK.out _ _ ?_ (fun hHeld => ?_)
            · (first | exact fun hE => absurd hE (by decide) | (intro _; (try dsimp only); (first | with_reducible exact HS0.out | with_reducible exact HS.out)))
            clear hK K
            (try replace hHeld := hHeld (by decide))
            (try simp only [Act.put, List.setIfInBounds_toArray, List.set_cons_zero, List.set_cons_succ])
            refine take_P 10 (some 47) ?_ (by (intro o ho w; (simp only [List.getElem?_toArray, List.getElem?_cons_succ, List.getElem?_cons_zero, Option.some.injEq] at ho); subst ho; go_simp; (first | done | with_reducible rfl))) (by ((try simp only [Act.put, hA, h0, h1]); (first | done | rfl))) (by first | exact fun _ => by assumption | exact fun hE => absurd hE (by decide))
            (try simp only [Act.put, List.setIfInBounds_toArray, List.set_cons_zero, List.set_cons_succ])
            refine take_P 11 (some 48) ?_ (by (intro o ho w; (simp only [List.getElem?_toArray, List.getElem?_cons_succ, List.getElem?_cons_zero, Option.some.injEq] at ho); subst ho; go_simp; (first | done | with_reducible rfl))) (by ((try simp only [Act.put, hA, h0, h1]); (first | done | rfl))) (by first | exact fun _ => by assumption | exact fun hE => absurd hE (by decide))
            (try simp only [Act.put, List.setIfInBounds_toArray, List.set_cons_zero, List.set_cons_succ])
            refine ready_L 12 (fun o ho K hK => ?_)
            (simp only [List.getElem?_toArray, List.getElem?_cons_succ, List.getElem?_cons_zero, Option.some.injEq] at ho)
            subst ho
            go_simp
            skip
            refine hK.out _ _ ?_ (fun hHeld => ?_)
            · (first | exact fun hE => absurd hE (by decide) | (intro _; (try dsimp only); (first | with_reducible exact HS0.out | with_reducible exact HS.out)))
            clear hK K
            (try replace hHeld := hHeld (by decide))
            (try simp only [Act.put, List.setIfInBounds_toArray, List.set_cons_zero, List.set_cons_succ])
            refine done_L (by kernel_rfl) ?_ _
            clear hHeld hb9 f9
            go_wp2
            go_returns
            have hbX := (HBX.out.below HZ.out HBX.out.lt).set_ 0 (.slice A9 (n + 1) c9)
            have tX : Turned w9 (w9.setCell ⟨b, 0, none⟩ (.slice A9 (n + 1) c9)) (fun j => j = b) := (Turned.refl w9 (fun j => j = b)).setCell (p := ⟨b, 0, none⟩) (fun _ => rfl) _
            have h9 := HP9.out
            have h9' : w9.ownsRow Es.drew.heap.size 124 5 (.slice A9 (n + 1) c9) (n + 1) (renC (I ++ [y])) := by
              rw [renC_append]
              exact h9
            have hoX := gown_turned h9' tX (fun j hj e => by have := (gown_lt h9' hj).1; have := HBX.out.lt; omega)
            refine ⟨0, n + 1, by simp, rfl, ⟨A9, c9, I ++ [y], hbX, own_mono3 hoX (Nat.le_trans HH.out.le (Nat.le_of_lt HBX.out.lt)), by simp [HI.out.2.2], HH.out.le⟩, Nat.le_refl _, fun _ => by omega, ?_⟩
            exact ((Turned.of_below (bel_to HZ.out HBW.out) (OfT B w)).chain tX (fun j hj e => by subst e; exact ⟨HH.out.le, _, _, _, HHB.out, .inl rfl⟩))
        · (simp only [List.getElem?_toArray, List.getElem?_cons_succ, List.getElem?_cons_zero, Option.some.injEq] at ho)
          subst ho
          go_simp
          (refine name_world (fun Wy hWy => ?_); (try replace hWy := hWy.trans (drew_alloc_ _ _)); have hby := below_alloc hWy; have HY := kept (ren_new hWy); replace HZ := kept (bel_to hby HZ.out); (try have HNE := kept (ne_new HE.out hWy)); (try replace HE := kept (gown_turned HE.out (Turned.of_below hby (fun _ => False)) (fun _ _ e => e))); (try replace HP := kept (gown_turned HP.out (Turned.of_below hby (fun _ => False)) (fun _ _ e => e))); (have HS := kept (show (fun W' : World => W'.cell? ⟨b, 0, none⟩ = some (.slice A n k) ∧ W'.cell? ⟨w1.heap.size, 0, none⟩ = some (.int .i64 y.a) ∧ W'.cell? ⟨w1.heap.size, 1, none⟩ = some (.int .i64 y.b) ∧ W'.cell? ⟨w1.heap.size, 2, none⟩ = some (.bool y.t) ∧ W'.cell? ⟨w1.heap.size, 3, none⟩ = some (.int .i64 y.c) ∧ W'.cell? ⟨w1.heap.size, 4, none⟩ = some (.int .i64 y.v)) _ from ⟨(Keeps.of_below HZ.out).cell_ HS0.out.1, (Keeps.of_below HZ.out).cell_ HS0.out.2.1, (Keeps.of_below HZ.out).cell_ HS0.out.2.2.1, (Keeps.of_below HZ.out).cell_ HS0.out.2.2.2.1, (Keeps.of_below HZ.out).cell_ HS0.out.2.2.2.2.1, (Keeps.of_below HZ.out).cell_ HS0.out.2.2.2.2.2⟩)); clear hby hWy)
          refine hK.out _ _ ?_ (fun hHeld => ?_)
          · (first | exact fun hE => absurd hE (by decide) | (intro _; (try dsimp only); (first | with_reducible exact HS0.out | with_reducible exact HS.out)))
          clear hK K
          (try replace hHeld := hHeld (by decide))
          (try simp only [Act.put, List.setIfInBounds_toArray, List.set_cons_zero, List.set_cons_succ])
          refine ready_L 1 (fun o ho K hK => ?_)
          (simp only [List.getElem?_toArray, List.getElem?_cons_succ, List.getElem?_cons_zero, Option.some.injEq] at ho)
          subst ho
          go_simp
          (refine name_world (fun We hWe => ?_); (try replace hWe := hWe.trans (drew_alloc_ _ _)); have hbe := below_alloc hWe; have HE := kept (ren_empty HZ.out.size hWe); replace HZ := kept (bel_to hbe HZ.out); (try have HNE := kept (ne_new' HY.out hWe)); (try replace HY := kept (HY.out.below hbe HY.out.lt)); (have HS := kept (show (fun W' : World => W'.cell? ⟨b, 0, none⟩ = some (.slice A n k) ∧ W'.cell? ⟨w1.heap.size, 0, none⟩ = some (.int .i64 y.a) ∧ W'.cell? ⟨w1.heap.size, 1, none⟩ = some (.int .i64 y.b) ∧ W'.cell? ⟨w1.heap.size, 2, none⟩ = some (.bool y.t) ∧ W'.cell? ⟨w1.heap.size, 3, none⟩ = some (.int .i64 y.c) ∧ W'.cell? ⟨w1.heap.size, 4, none⟩ = some (.int .i64 y.v)) _ from ⟨(Keeps.of_below HZ.out).cell_ HS0.out.1, (Keeps.of_below HZ.out).cell_ HS0.out.2.1, (Keeps.of_below HZ.out).cell_ HS0.out.2.2.1, (Keeps.of_below HZ.out).cell_ HS0.out.2.2.2.1, (Keeps.of_below HZ.out).cell_ HS0.out.2.2.2.2.1, (Keeps.of_below HZ.out).cell_ HS0.out.2.2.2.2.2⟩)); clear hbe hWe)
          refine hK.out _ _ ?_ (fun hHeld => ?_)
          · (first | exact fun hE => absurd hE (by decide) | (intro _; (try dsimp only); (first | with_reducible exact HS0.out | with_reducible exact HS.out)))
          clear hK K
          (try replace hHeld := hHeld (by decide))
          (try simp only [Act.put, List.setIfInBounds_toArray, List.set_cons_zero, List.set_cons_succ])
          refine ready_L 6 (fun o ho K hK => ?_)
          (simp only [List.getElem?_toArray, List.getElem?_cons_succ, List.getElem?_cons_zero, Option.some.injEq] at ho)
          subst ho
          (refine wp_append_h (.tmp 38) (.tmp 42) 116 rfl 124 rfl rfl Tryz.underlying116 reninfo rfl (by decide) (by decide) HE.out (ys := renC I) HI.out.1 (fun h0 => by obtain ⟨ad, e, hc⟩ := HI.out.2.1 h0; exact ⟨ad, e, fun j u hj => (Keeps.of_below HZ.out).cell_ (hc j u hj)⟩) (renC_one _) (by omega) HZ.out.size ?_; intro A6 c6 w6 h6 g6; rw [Nat.zero_add, List.nil_append] at h6; (try simp only [Nat.zero_add]); have HP := kept h6; (try replace HY := kept (blk_grown HY.out g6 (fun e => HNE.out (Option.some.inj e).symm))); replace HZ := kept (bel_grown HZ.out (Nat.le_refl _) HE.out g6); (have HS := kept (show (fun W' : World => W'.cell? ⟨b, 0, none⟩ = some (.slice A n k) ∧ W'.cell? ⟨w1.heap.size, 0, none⟩ = some (.int .i64 y.a) ∧ W'.cell? ⟨w1.heap.size, 1, none⟩ = some (.int .i64 y.b) ∧ W'.cell? ⟨w1.heap.size, 2, none⟩ = some (.bool y.t) ∧ W'.cell? ⟨w1.heap.size, 3, none⟩ = some (.int .i64 y.c) ∧ W'.cell? ⟨w1.heap.size, 4, none⟩ = some (.int .i64 y.v)) _ from ⟨(Keeps.of_below HZ.out).cell_ HS0.out.1, (Keeps.of_below HZ.out).cell_ HS0.out.2.1, (Keeps.of_below HZ.out).cell_ HS0.out.2.2.1, (Keeps.of_below HZ.out).cell_ HS0.out.2.2.2.1, (Keeps.of_below HZ.out).cell_ HS0.out.2.2.2.2.1, (Keeps.of_below HZ.out).cell_ HS0.out.2.2.2.2.2⟩)); clear h6 g6)
          refine hK.out _ _ ?_ (fun hHeld => ?_)
          · (first | exact fun hE => absurd hE (by decide) | (intro _; (try dsimp only); (first | with_reducible exact HS0.out | with_reducible exact HS.out)))
          clear hK K
          (try replace hHeld := hHeld (by decide))
          (try simp only [Act.put, List.setIfInBounds_toArray, List.set_cons_zero, List.set_cons_succ])
          refine ready_L 9 (fun o ho K hK => ?_)
          (simp only [List.getElem?_toArray, List.getElem?_cons_succ, List.getElem?_cons_zero, Option.some.injEq] at ho)
          subst ho
          (refine wp_append_h (.tmp 43) (.tmp 45) 116 rfl 124 rfl rfl Tryz.underlying116 reninfo rfl (by decide) (by decide) HP.out (ys := [.int .i64 y.a, .int .i64 y.b, .bool y.t, .int .i64 y.c, .int .i64 y.v]) rfl (fun _ => ⟨_, rfl, fun j u hj => by rw [gadd_at, Nat.zero_add]; exact (HY.out.cell j).trans hj⟩) (by intro u hu; simp only [List.mem_cons, List.not_mem_nil, or_false] at hu; rcases hu with rfl | rfl | rfl | rfl | rfl <;> rfl) (by omega) HZ.out.size ?_; intro A9 c9 w9 h9 g9; have HP9 := kept h9; replace HZ := kept (bel_grown HZ.out (Nat.le_refl _) HP.out g9); (have HS := kept (show (fun W' : World => W'.cell? ⟨b, 0, none⟩ = some (.slice A n k) ∧ W'.cell? ⟨w1.heap.size, 0, none⟩ = some (.int .i64 y.a) ∧ W'.cell? ⟨w1.heap.size, 1, none⟩ = some (.int .i64 y.b) ∧ W'.cell? ⟨w1.heap.size, 2, none⟩ = some (.bool y.t) ∧ W'.cell? ⟨w1.heap.size, 3, none⟩ = some (.int .i64 y.c) ∧ W'.cell? ⟨w1.heap.size, 4, none⟩ = some (.int .i64 y.v)) _ from ⟨(Keeps.of_below HZ.out).cell_ HS0.out.1, (Keeps.of_below HZ.out).cell_ HS0.out.2.1, (Keeps.of_below HZ.out).cell_ HS0.out.2.2.1, (Keeps.of_below HZ.out).cell_ HS0.out.2.2.2.1, (Keeps.of_below HZ.out).cell_ HS0.out.2.2.2.2.1, (Keeps.of_below HZ.out).cell_ HS0.out.2.2.2.2.2⟩)); (have hb9 := HS.out.1); have f9 := (HBX.out.below HZ.out HBX.out.lt).frozen 0; clear h9 g9)
          refine hK.out _ _ ?_ (fun hHeld => ?_)
          · (first | exact fun hE => absurd hE (by decide) | (intro _; (try dsimp only); (first | with_reducible exact HS0.out | with_reducible exact HS.out)))
          clear hK K
          (try replace hHeld := hHeld (by decide))
          (try simp only [Act.put, List.setIfInBounds_toArray, List.set_cons_zero, List.set_cons_succ])
          refine take_P 10 (some 47) ?_ (by (intro o ho w; (simp only [List.getElem?_toArray, List.getElem?_cons_succ, List.getElem?_cons_zero, Option.some.injEq] at ho); subst ho; go_simp; (first | done | with_reducible rfl))) (by ((try simp only [Act.put, hA, h0, h1]); (first | done | rfl))) (by first | exact fun _ => by assumption | exact fun hE => absurd hE (by decide))
          (try simp only [Act.put, List.setIfInBounds_toArray, List.set_cons_zero, List.set_cons_succ])
          refine take_P 11 (some 48) ?_ (by (intro o ho w; (simp only [List.getElem?_toArray, List.getElem?_cons_succ, List.getElem?_cons_zero, Option.some.injEq] at ho); subst ho; go_simp; (first | done | with_reducible rfl))) (by ((try simp only [Act.put, hA, h0, h1]); (first | done | rfl))) (by first | exact fun _ => by assumption | exact fun hE => absurd hE (by decide))
          (try simp only [Act.put, List.setIfInBounds_toArray, List.set_cons_zero, List.set_cons_succ])
          refine ready_L 12 (fun o ho K hK => ?_)
          (simp only [List.getElem?_toArray, List.getElem?_cons_succ, List.getElem?_cons_zero, Option.some.injEq] at ho)
          subst ho
          go_simp
          skip
          refine hK.out _ _ ?_ (fun hHeld => ?_)
          · (first | exact fun hE => absurd hE (by decide) | (intro _; (try dsimp only); (first | with_reducible exact HS0.out | with_reducible exact HS.out)))
          clear hK K
          (try replace hHeld := hHeld (by decide))
          (try simp only [Act.put, List.setIfInBounds_toArray, List.set_cons_zero, List.set_cons_succ])
          refine done_L (by kernel_rfl) ?_ _
          clear hHeld hb9 f9
          go_wp2
          go_returns
          have hbX := (HBX.out.below HZ.out HBX.out.lt).set_ 0 (.slice A9 (n + 1) c9)
          have tX : Turned w9 (w9.setCell ⟨b, 0, none⟩ (.slice A9 (n + 1) c9)) (fun j => j = b) := (Turned.refl w9 (fun j => j = b)).setCell (p := ⟨b, 0, none⟩) (fun _ => rfl) _
          have h9 := HP9.out
          have h9' : w9.ownsRow Es.drew.heap.size 124 5 (.slice A9 (n + 1) c9) (n + 1) (renC (I ++ [y])) := by
            rw [renC_append]
            exact h9
          have hoX := gown_turned h9' tX (fun j hj e => by have := (gown_lt h9' hj).1; have := HBX.out.lt; omega)
          refine ⟨0, n + 1, by simp, rfl, ⟨A9, c9, I ++ [y], hbX, own_mono3 hoX (Nat.le_trans HH.out.le (Nat.le_of_lt HBX.out.lt)), by simp [HI.out.2.2], HH.out.le⟩, Nat.le_refl _, fun _ => by omega, ?_⟩
          exact ((Turned.of_below (bel_to HZ.out HBW.out) (OfT B w)).chain tX (fun j hj e => by subst e; exact ⟨HH.out.le, _, _, _, HHB.out, .inl rfl⟩))
  · have HX := kept (bel_to hb HB.out)
    rcases her with rfl | rfl
    all_goals
      go_wp2
      go_returns
      exact ⟨_, n, by simp, rfl, HH.out.below HX.out, by omega, fun h => absurd h (by decide), TurnR.of_below HX.out⟩
end Go.Proofs.YtlckeebbjnhejaaGreat
end
