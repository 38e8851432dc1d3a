/-
  package gens, call by call: forget, Compact.
-/
import Derived.Test.YthpaliagmnclfaaGq
import Derived.Test.YthpaliagmnclfaaGl
namespace Go.Proofs.Ythpaliagmnclfaa
open Go.ChangeShapes Go.WideShapes Go.ChangeAt Go.RowKit Go.Deep
set_option linter.unusedVariables false
set_option linter.unusedSimpArgs false

theorem GsL.left_drop {w W2 : World} {r : Nat} {A : Option Addr} {n k : Nat} {Ls : List GL} {gs : List Gn} (h : GsL w r A n k Ls gs) (E : Nat) (hown : W2.ownsRow 0 60 5 (.slice A (n - E) k) (n - E) (glC (Ls.drop E))) (hbox : Blk W2 r 54 [.slice A (n - E) k]) (t : Turned w W2 (fun j => j = r ∨ (Value.slice A n k).ownBlock = some j)) :
    GsL W2 r A (n - E) k (Ls.drop E) (gs.drop E) ∧ (∀ j, footG r A (n - E) k (Ls.drop E) j → footG r A n k Ls j) ∧ Turned w W2 (footG r A n k Ls) := by
  refine ⟨⟨hbox, by rw [List.length_drop, h.ln], by rw [List.length_drop, h.gn], hown, fun i h1 h2 => ?_, fun i j h1 h2 hij g hg => ?_⟩, fun j hj => ?_, t.mono fun j _ hj => hj.elim .inl fun e => .inr (.inl e)⟩
  · rw [List.length_drop] at h1 h2
    rw [List.getElem_drop, List.getElem_drop]
    refine (h.el (E + i) (by omega) (by omega)).turned t (fun q hq e => ?_)
    rcases e with e | e
    · exact h.r_row (List.getElem_mem _) (by rw [← e]; exact hq)
    · exact h.own_row (List.getElem_mem _) e hq
  · rw [List.length_drop] at h1 h2
    rw [List.getElem_drop] at hg ⊢
    exact h.ap (E + i) (E + j) (by omega) (by omega) (by omega) g hg
  · rcases hj with e | e | ⟨L, hL, e⟩
    · exact .inl e
    · exact .inr (.inl (by
        cases A with
        | none => cases e
        | some a => exact e))
    · exact .inr (.inr ⟨L, List.mem_of_mem_drop hL, e⟩)
set_option maxHeartbeats 1000000 in
theorem forget_any {w : World} {r g n k : Nat} {L : GL} {Lr : List GL} {x : Gn} {gr : List Gn} (h : GsL w r (some ⟨g, 0, none⟩) n k (L :: Lr) (x :: gr)) (m : Nat) (hm : m ≤ x.ps.length) (hn : x.ps.length ≤ 1000000) :
    Calls Try.prog 20 #[.pointer (some ⟨g, 0, none⟩), .int .i64 (m : Int)] w fun e w' => e = .returned (.tuple #[]) ∧
      GsL w' r (some ⟨g, 0, none⟩) n k ({ L with v := wrap64 (L.v + (m : Int)), n := L.n - m } :: Lr) ({ x with ps := x.ps.drop m, v := wrap64 (x.v + (m : Int)) } :: gr) ∧
        (∀ j, footG r (some ⟨g, 0, none⟩) n k ({ L with v := wrap64 (L.v + (m : Int)), n := L.n - m } :: Lr) j → footG r (some ⟨g, 0, none⟩) n k (L :: Lr) j ∨ w.heap.size ≤ j) ∧ Turned w w' (footG r (some ⟨g, 0, none⟩) n k (L :: Lr)) := by
  have hn0 : 0 < n := by have := h.ln; simp at this; omega
  have hat := h.el 0 (by simp) (by simp)
  simp only [List.getElem_cons_zero] at hat
  obtain ⟨g', hg', _, hgl, _, _, hc⟩ := gown_at h.own hn0
  obtain rfl : g = g' := by simpa using hg'
  have c1 : w.cell? ⟨g, 1, none⟩ = some (.int .i64 L.v) := hc 1 _ rfl
  have c2 : w.cell? ⟨g, 2, none⟩ = some (.slice L.A L.n L.k) := hc 2 _ rfl
  have HD := kept (delR_any L.A L.n L.k m (rvC x.ps) w hat.own (rvC_one _) (by rw [hat.n]; exact hm) (by rw [hat.n]; exact hn))
  have HH := kept h
  have HAT := kept hat
  have HC1 := kept c1
  clear hg' hgl hc h hat hn hm hn0
  go_enter Try.func20, Try.ntmps20
  go_wp2_with fail
  with_reducible refine HD.out.mono ?_
  rintro e w1 ⟨rfl, how, hgr⟩
  have h := HH.out
  have t1 : Turned w w1 (fun j => L.row.ownBlock = some j) := Turned.of_grown hgr (fun j e => e)
  have hg1 := gown_turned h.own t1 (fun j hj e => h.own_row (L := L) (by simp) hj e)
  have hne : L.row.ownBlock ≠ some g := fun e => h.own_row (L := L) (by simp) rfl e
  have d2 : w1.cell? ⟨g, 2, none⟩ = some (.slice L.A L.n L.k) := (World.cell?_of_block (t1.block g (h.lt (.inr (.inl rfl))) hne)).trans c2
  have d1 : w1.cell? ⟨g, 1, none⟩ = some (.int .i64 L.v) := (World.cell?_of_block (t1.block g (h.lt (.inr (.inl rfl))) hne)).trans HC1.out
  obtain ⟨cur, hcur⟩ := gown_cl (k := 0) hg1 (g := g) rfl
  have f2 := gfrozen hcur 2
  have f1 := gfrozen hcur 1
  have HR := kept (And.intro how (And.intro t1 hg1))
  clear how hgr t1 hg1 hne hcur h c1 c2
  go_wp2
  go_returns
  have h := HH.out
  have hat := HAT.out
  obtain ⟨how, t1, hg1⟩ := HR.out
  have hs1 := gown_set hg1 2 (.slice L.A (L.n - m) L.k)
  rw [glC_set (L :: Lr) 0 (by simp) 2 (.slice L.A (L.n - m) L.k) { L with n := L.n - m } (by decide) rfl] at hs1
  have hs2 := gown_set hs1 1 (.int .i64 (wrap64 (L.v + (m : Int))))
  rw [glC_set _ 0 (by simp) 1 (.int .i64 (wrap64 (L.v + (m : Int)))) { L with v := wrap64 (L.v + (m : Int)), n := L.n - m } (by decide) rfl, List.set_set] at hs2
  have t9 : Turned w1 ((w1.setCell ⟨g, 2, none⟩ (.slice L.A (L.n - m) L.k)).setCell ⟨g, 1, none⟩ (.int .i64 (wrap64 (L.v + (m : Int))))) (fun j => j = g) := ((Turned.refl w1 (fun j => j = g)).setCell (p := ⟨g, 2, none⟩) (fun _ => rfl) _).setCell (p := ⟨g, 1, none⟩) (fun _ => rfl) _
  rw [rvC_drop] at how
  have hro : ∀ j, (Value.slice L.A (L.n - m) L.k).ownBlock = some j → L.row.ownBlock = some j := fun j hj => by
    unfold GL.row
    cases hA : L.A with
    | none => rw [hA] at hj; cases hj
    | some a => rw [hA] at hj; exact hj
  refine ⟨rfl, h.left_at rfl 0 (by simp) _ { x with ps := x.ps.drop m, v := wrap64 (x.v + (m : Int)) } hs2 ⟨hat.c, by show wrap64 _ = wrap64 _; rw [hat.v], hat.e, by show L.n - m = _; rw [List.length_drop, hat.n], ?_⟩ ?_ ?_⟩
  · exact gown_turned how t9 (fun j hj e => h.own_row (L := L) (by simp) rfl (by rw [← e]; exact hro j hj))
  · exact (t1.mono (fun _ _ e => .inr e)).trans (t9.mono (fun _ _ e => .inl e))
  · exact fun j hj => .inl (hro j hj)
/-- What Compact answers. -/
def compV (o : Option (Rv × Int × Int)) : Value := match o with
  | some (q, _, _) => .tuple #[.agg #[.int .i64 q.1, .int .i64 q.2], .bool true]
  | none => .tuple #[.agg #[.int .i64 0, .int .i64 0], .bool false]
theorem gstore2' {W : World} {b : Nat} {t : TypeId} {x y : Value} (hq : Blk W b t [x, y]) (u v : Value) :
    (((W.setCell ⟨b, 0, none⟩ u).setCell ⟨b, 1, none⟩ v).cell? ⟨b, 0, none⟩ = some u ∧ ((W.setCell ⟨b, 0, none⟩ u).setCell ⟨b, 1, none⟩ v).cell? ⟨b, 1, none⟩ = some v) ∧ Turned W ((W.setCell ⟨b, 0, none⟩ u).setCell ⟨b, 1, none⟩ v) (fun j => j = b) := by
  have h := (hq.set_ 0 u).set_ 1 v
  exact ⟨⟨h.cell 0, h.cell 1⟩, ((Turned.refl W (fun j => j = b)).setCell (p := ⟨b, 0, none⟩) (fun _ => rfl) u).setCell (p := ⟨b, 1, none⟩) (fun _ => rfl) v⟩
set_option maxHeartbeats 2000000 in
theorem gcompact_any {w : World} {r : Nat} {F : Nat → Prop} {gs : List Gn} (h : Gs w r F gs) (hi : GInv gs) {N : Nat} (hN : BdG gs N) (hn : N ≤ 900000) (at_ : Int) :
    Calls Try.prog 10 #[.pointer (some ⟨r, 0, none⟩), .int .i64 at_] w fun e w' => e = .returned (compV (getG gs at_)) ∧ GLeft w r F (compactG gs at_) w' := by
  obtain ⟨A, n, k, Ls, h, hF⟩ := h
  have hB0 := (Below.refl w.heap.size w).alloc (Nat.le_refl _) (.cells #[.int .i64 0, .int .i64 0] 29)
  have HK := kept (Blk.new w 29 #[.int .i64 0, .int .i64 0])
  have H0 := kept (h.below hB0)
  have HU := kept (upTo_any H0.out hi hN hn at_)
  have HB := kept hB0
  have hnN : n ≤ N := by rw [← h.gn]; exact hN.1
  have hEn : ebl gs (bnd at_) ≤ n := by rw [← h.gn]; exact ebl_le _ _
  have HD := fun W (h : GsL W r A n k Ls gs) => kept (delG_any A n k (ebl gs (bnd at_)) (glC Ls) W h.own (glC_one _) hEn (by omega))
  have HH := kept h
  have HF := kept hF
  cases hp : (lookG (bnd at_) gs).2 with
  | zero =>
    rw [getG_none hp, compactG_none hi hp]
    rw [hp] at HU
    generalize ebl gs (bnd at_) = E at HU HD hEn ⊢
    clear hp hB0 h hi hN hF
    show Calls _ _ _ _ fun e w' => e = .returned (.tuple #[.agg #[.int .i64 0, .int .i64 0], .bool false]) ∧ GLeft w r F (gs.drop E) w'
    go_enter Try.func10, Try.ntmps10
    go_wp2_with fail
    generalize w.alloc (.cells #[.int .i64 0, .int .i64 0] 29) = W0 at HK HB HU H0 ⊢
    with_reducible refine HU.out.mono ?_
    rintro e w1 ⟨rfl, hb⟩
    have h1 := H0.out.below hb
    have hr : w1.cell? ⟨r, 0, none⟩ = some (.slice A n k) := h1.box.cell 0
    have HD1 := HD _ h1
    have HH1 := kept (And.intro h1 (And.intro (HK.out.below hb HK.out.lt) (bel_to hb HB.out)))
    clear hb h1
    go_wp2_with fail
    with_reducible refine HD1.out.mono ?_
    rintro e w2 ⟨rfl, how, hgr⟩
    obtain ⟨h1, hk1, hb1⟩ := HH1.out
    have t2 : Turned w1 w2 (fun j => (Value.slice A n k).ownBlock = some j) := Turned.of_grown hgr (fun j e => e)
    have hb2 := t2.blk h1.box (fun e => h1.r_own e)
    have hk2 := t2.blk hk1 (fun e => by obtain ⟨ca, hca⟩ := gown_cl (k := 0) h1.own e; exact ne_of_types hca (show w1.heap[w.heap.size]? = some _ from hk1) (by decide) rfl)
    have hr2 : w2.cell? ⟨r, 0, none⟩ = some (.slice A n k) := hb2.cell 0
    have f2 := hb2.frozen 0
    have q0 : w2.cell? ⟨w.heap.size, 0, none⟩ = some (.int .i64 0) := hk2.cell 0
    have q1 : w2.cell? ⟨w.heap.size, 1, none⟩ = some (.int .i64 0) := hk2.cell 1
    have g0 := hk2.frozen 0
    have g1 := hk2.frozen 1
    have HR := kept (And.intro how (And.intro t2 (And.intro hb2 hk2)))
    clear how hgr t2 hb2 hk2 h1 hk1 hb1 hr
    have hrw : r ≠ w.heap.size := Nat.ne_of_lt HH.out.box.lt
    go_wp2
    obtain ⟨how, t2, hb2, hk2⟩ := HR.out
    obtain ⟨h1, hk1, hb1⟩ := HH1.out
    have hXb := ((hb2.set_ 0 (.slice A (n - E) k)).far (p := ⟨w.heap.size, 0, none⟩) hrw (.int .i64 0)).far (p := ⟨w.heap.size, 1, none⟩) hrw (.int .i64 0)
    have tX : Turned w (((w2.setCell ⟨r, 0, none⟩ (.slice A (n - E) k)).setCell ⟨w.heap.size, 0, none⟩ (.int .i64 0)).setCell ⟨w.heap.size, 1, none⟩ (.int .i64 0)) (fun j => j = r ∨ (Value.slice A n k).ownBlock = some j) := ((((Turned.of_below hb1 (fun j => j = r ∨ (Value.slice A n k).ownBlock = some j)).trans (t2.mono (fun _ _ e => .inr e))).setCell (p := ⟨r, 0, none⟩) (fun _ => .inl rfl) _).setCell (p := ⟨w.heap.size, 0, none⟩) (fun h => absurd h (Nat.lt_irrefl _)) _).setCell (p := ⟨w.heap.size, 1, none⟩) (fun h => absurd h (Nat.lt_irrefl _)) _
    have tY : Turned w2 (((w2.setCell ⟨r, 0, none⟩ (.slice A (n - E) k)).setCell ⟨w.heap.size, 0, none⟩ (.int .i64 0)).setCell ⟨w.heap.size, 1, none⟩ (.int .i64 0)) (fun j => j = r ∨ j = w.heap.size) := (((Turned.refl w2 (fun j => j = r ∨ j = w.heap.size)).setCell (p := ⟨r, 0, none⟩) (fun _ => .inl rfl) _).setCell (p := ⟨w.heap.size, 0, none⟩) (fun _ => .inr rfl) _).setCell (p := ⟨w.heap.size, 1, none⟩) (fun _ => .inr rfl) _
    have hkX := ((hk2.far (p := ⟨r, 0, none⟩) hrw.symm (.slice A (n - E) k)).set_ 0 (.int .i64 0)).set_ 1 (.int .i64 0)
    generalize ((w2.setCell ⟨r, 0, none⟩ (.slice A (n - E) k)).setCell ⟨w.heap.size, 0, none⟩ (.int .i64 0)).setCell ⟨w.heap.size, 1, none⟩ (.int .i64 0) = X at hXb tX tY hkX ⊢
    have hoX := gown_turned how tY (fun j hj e => by
      obtain ⟨ca, hca⟩ := gown_cl (k := 0) how hj
      rcases e with e | e
      · exact ne_of_types hca (show w2.heap[r]? = some _ from hb2) (by decide) e
      · exact ne_of_types hca (show w2.heap[w.heap.size]? = some _ from hk2) (by decide) e)
    rw [glC_drop] at hoX
    obtain ⟨y1, y2, y3⟩ := HH.out.left_drop E hoX hXb tX
    have v0 : X.cell? ⟨w.heap.size, 0, none⟩ = some (.int .i64 0) := hkX.cell 0
    have v1 : X.cell? ⟨w.heap.size, 1, none⟩ = some (.int .i64 0) := hkX.cell 1
    exact bodyPost_ret (v := .tuple #[.agg #[.int .i64 0, .int .i64 0], .bool false]) (by simp [results, Try.results10, go_sem, v0, v1]) rfl ⟨rfl, _, ⟨A, n - E, k, _, y1, fun _ => Iff.rfl⟩, fun j hj => .inl ((HF.out j).2 (y2 j hj)), y3.mono fun j _ e => (HF.out j).2 e⟩
  | succ p =>
    obtain ⟨x, z, hx, hz, hg, hcg⟩ := getG_some hi hp
    rw [hg, hcg]
    rw [hp] at HU
    obtain ⟨hl, hxx⟩ := List.getElem?_eq_some_iff.1 hx
    have hxN := hN.2 x (List.mem_of_getElem? hx)
    obtain ⟨hpl, hzz⟩ := List.getElem?_eq_some_iff.1 hz
    have hdg : gs.drop (ebl gs (bnd at_)) = x :: gs.drop (ebl gs (bnd at_) + 1) := by rw [List.drop_eq_getElem_cons hl, hxx]
    have hlL : ebl gs (bnd at_) < Ls.length := by rw [h.ln, ← h.gn]; exact hl
    have hdL : Ls.drop (ebl gs (bnd at_)) = Ls[ebl gs (bnd at_)] :: Ls.drop (ebl gs (bnd at_) + 1) := List.drop_eq_getElem_cons hlL
    have hEn' : ebl gs (bnd at_) < n := by rw [← h.gn]; exact hl
    obtain ⟨g, hA, _⟩ := gown_at h.own (by omega)
    subst hA
    generalize Ls[ebl gs (bnd at_)] = L at hdL
    generalize hE : ebl gs (bnd at_) = E at HU HD hEn hEn' hdg hdL ⊢
    generalize gs.drop (E + 1) = gr at hdg ⊢
    generalize Ls.drop (E + 1) = Lr at hdL
    clear hx hp hg hcg hxx hl hlL hB0 h hi hN hF hE
    show Calls _ _ _ _ fun e w' => e = .returned (.tuple #[.agg #[.int .i64 z.1, .int .i64 z.2], .bool true]) ∧ GLeft w r F _ w'
    have HX := kept (And.intro hdg (And.intro hdL (And.intro hpl (And.intro hz (And.intro hxN hEn')))))
    clear hdg hdL hz hzz hpl hxN hEn hEn'
    go_enter Try.func10, Try.ntmps10
    go_wp2_with fail
    generalize w.alloc (.cells #[.int .i64 0, .int .i64 0] 29) = W0 at HK HB HU H0 ⊢
    with_reducible refine HU.out.mono ?_
    rintro e w1 ⟨rfl, hb⟩
    have h1 := H0.out.below hb
    have hr : w1.cell? ⟨r, 0, none⟩ = some (.slice (some ⟨g, 0, none⟩) n k) := h1.box.cell 0
    have HD1 := HD _ h1
    have HH1 := kept (And.intro h1 (And.intro (HK.out.below hb HK.out.lt) (bel_to hb HB.out)))
    clear hb h1
    go_wp2_with fail
    with_reducible refine HD1.out.mono ?_
    rintro e w2 ⟨rfl, how, hgr⟩
    obtain ⟨h1, hk1, hb1⟩ := HH1.out
    have t2 : Turned w1 w2 (fun j => (Value.slice (some ⟨g, 0, none⟩) n k).ownBlock = some j) := Turned.of_grown hgr (fun j e => e)
    have hb2 := t2.blk h1.box (fun e => h1.r_own e)
    have hk2 := t2.blk hk1 (fun e => by obtain ⟨ca, hca⟩ := gown_cl (k := 0) h1.own e; exact ne_of_types hca (show w1.heap[w.heap.size]? = some _ from hk1) (by decide) rfl)
    have hr2 : w2.cell? ⟨r, 0, none⟩ = some (.slice (some ⟨g, 0, none⟩) n k) := hb2.cell 0
    have f2 := hb2.frozen 0
    have hrw : r ≠ w.heap.size := Nat.ne_of_lt HH.out.box.lt
    have hXb := hb2.set_ 0 (.slice (some ⟨g, 0, none⟩) (n - E) k)
    have tX : Turned w (w2.setCell ⟨r, 0, none⟩ (.slice (some ⟨g, 0, none⟩) (n - E) k)) (fun j => j = r ∨ (Value.slice (some ⟨g, 0, none⟩) n k).ownBlock = some j) := ((Turned.of_below hb1 (fun j => j = r ∨ (Value.slice (some ⟨g, 0, none⟩) n k).ownBlock = some j)).trans (t2.mono (fun _ _ e => .inr e))).setCell (p := ⟨r, 0, none⟩) (fun _ => .inl rfl) _
    have tY : Turned w2 (w2.setCell ⟨r, 0, none⟩ (.slice (some ⟨g, 0, none⟩) (n - E) k)) (fun j => j = r) := (Turned.refl w2 (fun j => j = r)).setCell (p := ⟨r, 0, none⟩) (fun _ => rfl) _
    have hoX := gown_turned how tY (fun j hj e => by
      obtain ⟨ca, hca⟩ := gown_cl (k := 0) how hj
      exact ne_of_types hca (show w2.heap[r]? = some _ from hb2) (by decide) e)
    rw [glC_drop] at hoX
    have hXX := HH.out.left_drop E hoX hXb tX
    have hkX := hk2.far (p := ⟨r, 0, none⟩) hrw.symm (.slice (some ⟨g, 0, none⟩) (n - E) k)
    rw [HX.out.1, HX.out.2.1] at hXX
    have hrX : (w2.setCell ⟨r, 0, none⟩ (.slice (some ⟨g, 0, none⟩) (n - E) k)).cell? ⟨r, 0, none⟩ = some (.slice (some ⟨g, 0, none⟩) (n - E) k) := hXb.cell 0
    have HFG := kept (forget_any hXX.1 p (by have := HX.out.2.2.1; omega) (by have := HX.out.2.2.2.2.1; omega))
    have HX3 := kept (And.intro hXX hkX)
    have hnE : (0 : Int) < ((n - E : Nat) : Int) := by have := HX.out.2.2.2.2.2; omega
    have hnE' : 0 < n - E := by have := HX.out.2.2.2.2.2; omega
    have hpk : wrap64 (p : Int) = (p : Int) := IntWalk.wrap64_in _ ⟨by omega, by have := HX.out.2.2.1; have := HX.out.2.2.2.2.1; omega⟩
    clear how hgr t2 hb2 hk2 h1 hk1 hb1 hr hXb tX tY hoX hXX hkX
    go_wp2_with fail
    generalize w2.setCell ⟨r, 0, none⟩ (.slice (some ⟨g, 0, none⟩) (n - E) k) = W3 at HX3 HFG hrX ⊢
    clear hr2 f2
    try simp only [hpk]
    with_reducible refine HFG.out.mono ?_
    rintro e w4 ⟨rfl, y1, y2, y3⟩
    obtain ⟨hXX, hkX⟩ := HX3.out
    have hnb : ¬ footG r (some ⟨g, 0, none⟩) (n - E) k (L :: Lr) w.heap.size := fun e => by
      have e2 := hXX.2.1 _ e
      exact absurd (HH.out.lt e2) (Nat.lt_irrefl _)
    have hk4 := y3.blk hkX hnb
    have hat := y1.el 0 (by simp) (by simp)
    simp only [List.getElem_cons_zero] at hat
    obtain ⟨g', hg', _, _, _, _, hc⟩ := gown_at y1.own hnE'
    obtain rfl : g = g' := by simpa using hg'
    have c2 : w4.cell? ⟨g, 2, none⟩ = some (.slice L.A (L.n - p) L.k) := hc 2 _ rfl
    have hz := HX.out.2.2.2.1
    have hpl := HX.out.2.2.1
    obtain ⟨hpl', hzz⟩ := List.getElem?_eq_some_iff.1 hz
    obtain ⟨g2, o2, hA2, z0, z1⟩ := (RdR.of_own hat.own).2 0 (by show 0 < (x.ps.drop p).length; rw [List.length_drop]; omega)
    have hz0 : (x.ps.drop p)[0]'(by rw [List.length_drop]; omega) = z := by rw [List.getElem_drop]; simpa using hzz
    simp only [hz0, Nat.zero_mul, Nat.add_zero] at z0 z1
    have hA2' : L.A = some ⟨g2, o2, none⟩ := hA2
    rw [hA2'] at c2
    have q0 : w4.cell? ⟨w.heap.size, 0, none⟩ = some (.int .i64 0) := hk4.cell 0
    have q1 : w4.cell? ⟨w.heap.size, 1, none⟩ = some (.int .i64 0) := hk4.cell 1
    have g0 := hk4.frozen 0
    have g1 := hk4.frozen 1
    have hLn : (0 : Int) < ((L.n - p : Nat) : Int) := by
      have h1 := hat.n
      have h1 : L.n - p = (x.ps.drop p).length := h1
      rw [List.length_drop] at h1
      omega
    have HY := kept (And.intro y1 (And.intro y2 (And.intro y3 (And.intro hk4 hXX))))
    clear hnb hkX hg' hc hz hpl hz0 hzz hpl' hA2 hA2' y1 y2 y3 hk4 hat hXX hrX
    go_wp2
    obtain ⟨y1, y2, y3, hk4, hXX⟩ := HY.out
    have hx2 := gstore2' hk4 (.int .i64 z.1) (.int .i64 z.2)
    generalize (w4.setCell ⟨w.heap.size, 0, none⟩ (.int .i64 z.1)).setCell ⟨w.heap.size, 1, none⟩ (.int .i64 z.2) = X at hx2 ⊢
    obtain ⟨⟨v0, v1⟩, tX⟩ := hx2
    have hfw : ∀ j, footG r (some ⟨g, 0, none⟩) (n - E) k (L :: Lr) j → footG r (some ⟨g, 0, none⟩) n k Ls j := hXX.2.1
    have hsz := hXX.2.2.size
    have y4 := y1.turned tX (fun j hj e => by
      subst e
      rcases y2 _ hj with e | e
      · exact absurd (HH.out.lt (hfw _ e)) (Nat.lt_irrefl _)
      · have := HX3.out.2.lt
        omega)
    refine bodyPost_ret (v := .tuple #[.agg #[.int .i64 z.1, .int .i64 z.2], .bool true]) (by simp [results, Try.results10, go_sem, v0, v1]) rfl ⟨rfl, _, ⟨_, n - E, k, _, y4, fun _ => Iff.rfl⟩, fun j hj => ?_, ?_⟩
    · rcases y2 j hj with e | e
      · exact .inl ((HF.out j).2 (hfw j e))
      · exact .inr (by omega)
    · exact ((hXX.2.2.mono (fun j _ e => (HF.out j).2 e)).trans (y3.mono (fun j _ e => (HF.out j).2 (hfw j e)))).chain tX (fun j hj e => by omega)
end Go.Proofs.Ythpaliagmnclfaa
