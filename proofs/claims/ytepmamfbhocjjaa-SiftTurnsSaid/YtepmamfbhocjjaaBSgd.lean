/-
  Texts laid together: Sgd Sgf Sgg Sgh Sgi Sgj Sgk Sgm Sgn.
-/
import Derived.Test.YtepmamfbhocjjaaBOe
import Derived.Test.YtepmamfbhocjjaaBSgc
import Derived.Test.YtepmamfbhocjjaaBRsw
import Derived.Test.YtepmamfbhocjjaaBLayIns
import Derived.Test.YtepmamfbhocjjaaBSge
import Derived.Deep.QuietTactic
import Derived.BigQuiet
import Derived.Test.YtepmamfbhocjjaaBMk
import Derived.Test.YtepmamfbhocjjaaBCmp
section
/-
  Package sift: slices.SortStableFunc over records that a call has gathered.
-/
namespace Go.Proofs.Ytepmamfbhocjjaa
open Go.ChangeShapes Go.WideShapes Go.ChangeAt Go.RowKit Go.Sort
set_option linter.unusedVariables false
set_option linter.unusedSimpArgs false

theorem rdv_zero (w : World) : RdV w ⟨none, 0, 0, none, 0, 0⟩ zeroKv := ⟨⟨rfl, fun h => absurd h (by simp)⟩, ⟨rfl, fun h => absurd h (by simp)⟩, Nat.le_refl _, Nat.le_refl _, Nat.zero_le _, Nat.zero_le _⟩
/-- A record that reads so in the world w: how it lies, what it is. -/
abbrev RecW (w : World) : Type := { p : LayV × Kv // RdV w p.1 p.2 }
instance (w : World) : Inhabited (RecW w) := ⟨⟨(⟨none, 0, 0, none, 0, 0⟩, zeroKv), rdv_zero w⟩⟩
def encW {w : World} (p : RecW w) : List Value := cellsV p.1.1 p.1.2
def cfW {w : World} (q : Qy) (a b : RecW w) : Int := ordS q a.1.2 b.1.2
theorem ltW {w : World} {q : Qy} (h0 : 0 ≤ q.sort) (h4 : q.sort ≤ 4) (a b : RecW w) : ltOf (cfW q) a b = ltQ q a.1.2 b.1.2 := ordS_lt h0 h4 _ _
theorem swoW {w : World} {q : Qy} (h0 : 0 ≤ q.sort) (h4 : q.sort ≤ 4) : SWO (ltOf (cfW (w := w) q)) where
  irrefl x := by rw [ltW h0 h4]; exact ltQ_irr q _
  trans x y z h k := by rw [ltW h0 h4] at h k ⊢; exact ltQ_trans _ _ _ h k
  ntrans x y z h k := by rw [ltW h0 h4] at h k ⊢; exact ltQ_ntrans h k
theorem encW_len {w : World} (p : RecW w) : (encW p).length = 6 := rfl
theorem encW_one {w : World} (p : RecW w) : ∀ v ∈ encW p, v.oneCell' = true := by
  intro v hv
  simp only [encW, cellsV, List.mem_cons, List.not_mem_nil, or_false] at hv
  rcases hv with rfl | rfl | rfl | rfl | rfl | rfl <;> rfl
set_option maxHeartbeats 2000000 in
set_option maxRecDepth 100000 in
theorem sortKV_some (L : LayQ) (q : Qy) (qb : Nat) (w W : World) (hW : Below w.heap.size w W) (hq : QyB W qb L q) (hs0 : 0 ≤ q.sort) (hs4 : q.sort ≤ 4) (g n c base : Nat) (ps : List (RecW w))
    (h : W.ownsRow base 37 6 (.slice (some ⟨g, 0, none⟩) n c) n (ps.flatMap encW)) (hb : w.heap.size ≤ base) (hn : n ≤ 1000000) (h0 : 0 < n) :
    Calls Try.prog 20 #[.slice (some ⟨g, 0, none⟩) n c, .func (.func 21) #[] #[.pointer (some ⟨qb, 0, none⟩)]] W fun e w' => e = .returned (.tuple #[]) ∧ ∃ ps' : List (RecW w), ps'.Perm ps ∧ LeS (ltOf (cfW q)) ps' ∧ w'.ownsRow base 37 6 (.slice (some ⟨g, 0, none⟩) n c) n (ps'.flatMap encW) ∧ Turned W w' (fun j => j = g) := by
  have hl := h.1
  rw [flat_len encW 6 (fun _ => rfl)] at hl
  have hps : ps.length = n := by omega
  obtain ⟨g', e, hgb, hgl, _, _, hc⟩ := gown_at h h0
  obtain rfl : g = g' := congrArg Addr.block (Option.some.inj e)
  clear e
  have hne : qb ≠ g := by
    rintro rfl
    obtain ⟨cur, hcur⟩ := gown_cl (k := 0) h (g := qb) rfl
    have := hq
    unfold QyB Blk at this
    rw [hcur] at this
    injection this with this
    injection this with _ this _
    exact absurd this (by decide)
  have hfz : ∀ j, W.frozen? ⟨g, j, none⟩ = false := fun j => by
    obtain ⟨cur, hcur⟩ := gown_cl (k := 0) h (g := g) rfl
    exact gfrozen_ hcur j
  have hH : HoldsK encW 6 W g 0 ps.toArray := fun j hj => by
    rw [size_flatK] at hj
    rw [Nat.zero_add]
    refine ⟨?_, hfz j⟩
    have hx := flatK_get encW 6 (fun _ => rfl) ps.toArray j hj
    exact hc j _ hx
  have hR : RowK encW 6 W g 0 ps.toArray := ⟨fun _ => rfl, encW_one, hH, hgl⟩
  have eg : ∀ args w, (callFunc 21 args).run Try.prog w = .ok (.enter 21 args) w := enters_of Try.func21 (by kernel_rfl) rfl
  have hcmp : CmpLays Try.prog 21 #[.pointer (some ⟨qb, 0, none⟩)] encW 6 (cfW q) g 0 ps.toArray.size W := fun m os dk hs x y => by
    obtain ⟨_, ht⟩ := row_sorted encW (fun _ => rfl) h dk (by rw [hs]; simp [hps]) m os
    have hV : Below w.heap.size w (sortWorldK encW 6 W g 0 m dk os) := Turned.only_new hW ht hW.size (fun i hi => by rw [hi]; omega)
    exact closure_any L q x.1.1 y.1.1 x.1.2 y.1.2 qb _ (ht.blk hq hne) (x.2.below hV) (y.2.below hV)
  have hsz : ps.toArray.size = n := by simp [hps]
  have hI : InsC Try.prog (encW (w := w)) 6 W g 0 (cfW (w := w) q) 21 #[.pointer (some ⟨qb, 0, none⟩)] c n := by
    intro a b X A Y w1 h1 h2 h3 S
    have hs1 : (X ++ (A ++ Y)).toArray.size = n := by simp; omega
    have hcmp1 : CmpLays Try.prog 21 #[.pointer (some ⟨qb, 0, none⟩)] encW 6 (cfW q) g 0 (X ++ (A ++ Y)).toArray.size w1 := fun m os dk hs x y => by
      obtain ⟨m', os', e⟩ := S.on hgl m dk os hs
      rw [e]
      exact hcmp m' os' dk (by rw [hs, hs1, hsz]) x y
    have hcon := AnyQ.insertionSortCmpFunc Try.insA 6 Try.isAgg37 Try.sizeOf37 encW (fun _ => rfl) encW_one (cfW q) 21 #[.pointer (some ⟨qb, 0, none⟩)] g 0 c a b (X ++ (A ++ Y)).toArray w1 eg hcmp1 (S.holds hgl hH (by rw [hs1, hsz])) (S.lt hgl) (by omega) (by rw [hs1]; omega) (by rw [hs1]; omega)
    change Calls Try.prog 30 _ _ _ at hcon
    rw [hs1] at hcon
    refine hcon.mono ?_
    rintro e w2 ⟨rfl, m, os, rfl⟩
    obtain ⟨A', p1, p2, p3⟩ := ins_part (swoW hs0 hs4) X A Y
    rw [h1, h2] at p3
    refine ⟨rfl, A', p1, p2, ?_⟩
    rw [p3]
    exact S.on hgl m _ os (by simp [p1.length_eq])
  have hcon := stable_any stP_here (enters_of Try.func30 (by kernel_rfl) rfl) hR 21 #[.pointer (some ⟨qb, 0, none⟩)] eg hcmp (swoW hs0 hs4) c n hsz hn hI ps hps W (SWK.start hH)
  have HC := kept hcon
  have HW := kept h
  have HP := kept hps
  clear hcon hI hcmp hR hH hfz hq hW hc h
  go_enter Try.func20, Try.ntmps20
  go_wp2_with (go_at_call 26; go_loud (refine HC.out.mono ?_); rintro e w1 ⟨rfl, ps', p1, p2, S1⟩)
  go_end0
  obtain ⟨m, os, rfl⟩ := S1
  obtain ⟨r1, r2⟩ := row_sorted encW (fun _ => rfl) HW.out ps'.toArray (by simp [p1.length_eq, HP.out]) m os
  exact ⟨rfl, ps', p1, p2, r1, r2⟩
theorem ins_none (A : Option Addr) (c v : Nat) (cb : Array Value) (w : World) :
    Calls Try.prog 30 #[.slice A 0 c, .int .i64 0, .int .i64 0, .func (.func v) #[] cb] w fun e w' => e = .returned (.tuple #[]) ∧ w = w' := by
  go_enter Try.func30, Try.ntmps30
  go_wp2
  refine wp_loop_rounds 1 ?_
  rw [rounds_succ]
  go_wp2
  go_end0
  exact ⟨rfl, rfl⟩
theorem stable_none (A : Option Addr) (c v : Nat) (cb : Array Value) (w : World) :
    Calls Try.prog 26 #[.slice A 0 c, .int .i64 0, .func (.func v) #[] cb] w fun e w' => e = .returned (.tuple #[]) ∧ w = w' := by
  have HI := fun w => kept (ins_none A c v cb w)
  go_enter Try.func26, Try.ntmps26
  go_wp2
  refine wp_loop_rounds 1 ?_
  rw [rounds_succ]
  go_wp2_with (go_at_call 30; refine (HI _).out.mono ?_; rintro e w1 ⟨rfl, rfl⟩)
  refine wp_loop_rounds 1 ?_
  rw [rounds_succ]
  go_wp2
  go_end0
  exact ⟨rfl, rfl⟩
theorem sortKV_none (A : Option Addr) (c v : Nat) (cb : Array Value) (w : World) :
    Calls Try.prog 20 #[.slice A 0 c, .func (.func v) #[] cb] w fun e w' => e = .returned (.tuple #[]) ∧ w = w' := by
  have HI := fun w => kept (stable_none A c v cb w)
  go_enter Try.func20, Try.ntmps20
  go_wp2_with (go_at_call 26; refine (HI _).out.mono ?_; rintro e w1 ⟨rfl, rfl⟩)
  go_end0
  exact ⟨rfl, rfl⟩
/-- Any row that a call has gathered comes in order. -/
theorem sortKV_any (L : LayQ) (q : Qy) (qb : Nat) (w W : World) (hW : Below w.heap.size w W) (hq : QyB W qb L q) (hs0 : 0 ≤ q.sort) (hs4 : q.sort ≤ 4) (A : Option Addr) (n c base : Nat) (ps : List (RecW w))
    (h : W.ownsRow base 37 6 (.slice A n c) n (ps.flatMap encW)) (hb : w.heap.size ≤ base) (hn : n ≤ 1000000) :
    Calls Try.prog 20 #[.slice A n c, .func (.func 21) #[] #[.pointer (some ⟨qb, 0, none⟩)]] W fun e w' => e = .returned (.tuple #[]) ∧ ∃ ps' : List (RecW w), ps'.Perm ps ∧ LeS (ltOf (cfW q)) ps' ∧ w'.ownsRow base 37 6 (.slice A n c) n (ps'.flatMap encW) ∧ Turned W w' (fun j => (Value.slice A n c).ownBlock = some j) := by
  rcases Nat.eq_zero_or_pos n with h0 | h0
  · subst h0
    have hl := h.1
    rw [flat_len encW 6 (fun _ => rfl)] at hl
    obtain rfl : ps = [] := List.eq_nil_of_length_eq_zero (by omega)
    refine (sortKV_none A c _ _ W).mono ?_
    rintro e w' ⟨rfl, rfl⟩
    exact ⟨rfl, [], List.Perm.refl _, .nil, h, Turned.refl _ _⟩
  · obtain ⟨g, rfl, _⟩ := gown_at h h0
    refine (sortKV_some L q qb w W hW hq hs0 hs4 g n c base ps h hb hn h0).mono ?_
    rintro e w' ⟨rfl, ps', p1, p2, p3, p4⟩
    exact ⟨rfl, ps', p1, p2, p3, p4.mono (fun j _ e => by rw [e]; rfl)⟩
end Go.Proofs.Ytepmamfbhocjjaa
end

section
/-
  Package sift: sorted, beginning: the records that a query keeps, in its order, in a row of the call's own.
-/
namespace Go.Proofs.Ytepmamfbhocjjaa
open Go.ChangeShapes Go.WideShapes Go.ChangeAt Go.RowKit
set_option linter.unusedVariables false
set_option linter.unusedSimpArgs false

theorem kvinfo : (Try.prog.info? 37).map (fun i => (i.zero, i.size, i.bytes)) = some (some (.agg #[.slice none 0 0, .slice none 0 0, .int .i64 0, .int .i64 0, .int .i64 0, .int .i64 0]), 6, 80) := by kernel_rfl
abbrev flatP (ps : List (LayV × Kv)) : List Value := ps.flatMap fun p => cellsV p.1 p.2
def keepsP (q : Qy) (p : LayV × Kv) : Bool := keepsQ q p.2
theorem filter_next {q : Qy} {ps : List (LayV × Kv)} {k : Nat} (h : k < ps.length) : (ps.take (k + 1)).filter (keepsP q) = (ps.take k).filter (keepsP q) ++ (if keepsP q ps[k] then [ps[k]] else []) := by
  rw [List.take_succ_eq_append_getElem h, List.filter_append]
  congr 1
  cases hb : keepsP q ps[k] <;> simp [hb]
/-- What stands while records are gathered. -/
structure Gath (w W : World) (L : LayQ) (q : Qy) (A : Option Addr) (m c : Nat) (ps : List (LayV × Kv)) : Prop where
  own : W.ownsRow (w.heap.size + 1) 37 6 (.slice A m c) m (flatP ps)
  bel : Below w.heap.size w W
  qy : QyB W w.heap.size L q
theorem Gath.below {w W W' : World} {L : LayQ} {q : Qy} {A : Option Addr} {m c : Nat} {ps : List (LayV × Kv)} (h : Gath w W L q A m c ps) (hb : Below W.heap.size W W') : Gath w W' L q A m c ps :=
  ⟨gown_turned h.own (Turned.of_below hb (fun _ => False)) (fun _ _ e => e), bel_to hb h.bel, h.qy.below_ hb h.qy.lt⟩
theorem QyB.all {w : World} {g : Nat} {L : LayQ} {q : Qy} (h : QyB w g L q) : w.cell? ⟨g, 0, none⟩ = some (.slice L.ka L.kn L.kc) ∧ w.cell? ⟨g, 1, none⟩ = some (.slice L.ea L.en L.ec) ∧ w.cell? ⟨g, 2, none⟩ = some (.int .i64 L.at_) ∧ w.cell? ⟨g, 3, none⟩ = some (.int .i64 q.limit) ∧ w.cell? ⟨g, 4, none⟩ = some (.int .i64 q.sort) ∧ w.cell? ⟨g, 5, none⟩ = some (.bool q.desc) ∧ w.cell? ⟨g, 6, none⟩ = some (.bool q.keys) ∧ w.cell? ⟨g, 7, none⟩ = some (.bool q.count) ∧ w.cell? ⟨g, 8, none⟩ = some (.int .i64 q.m0) ∧ w.cell? ⟨g, 9, none⟩ = some (.int .i64 q.m1) ∧ w.cell? ⟨g, 10, none⟩ = some (.int .i64 q.c0) ∧ w.cell? ⟨g, 11, none⟩ = some (.int .i64 q.c1) :=
  ⟨Blk.cell h 0, Blk.cell h 1, Blk.cell h 2, Blk.cell h 3, Blk.cell h 4, Blk.cell h 5, Blk.cell h 6, Blk.cell h 7, Blk.cell h 8, Blk.cell h 9, Blk.cell h 10, Blk.cell h 11⟩
theorem own_mono6 {w : World} {base base' : Nat} {e : TypeId} {sz : Nat} {v : Value} {n : Nat} {xs : List Value} (h : w.ownsRow base e sz v n xs) (hb : base' ≤ base) : w.ownsRow base' e sz v n xs := by
  obtain ⟨hl, h⟩ := h
  refine ⟨hl, ?_⟩
  rcases h with h | ⟨g, cap, cur, hv, hg, h⟩
  · exact .inl h
  · exact .inr ⟨g, cap, cur, hv, Nat.le_trans hb hg, h⟩
theorem flatP_one (ps : List (LayV × Kv)) : ∀ u ∈ flatP ps, u.oneCell' = true := by
  intro u hu
  obtain ⟨p, _, hp⟩ := List.mem_flatMap.1 hu
  simp only [cellsV, List.mem_cons, List.not_mem_nil, or_false] at hp
  rcases hp with rfl | rfl | rfl | rfl | rfl | rfl <;> rfl
theorem flatP_len (ps : List (LayV × Kv)) : (flatP ps).length = ps.length * 6 := flat_len (fun p : LayV × Kv => cellsV p.1 p.2) 6 (fun _ => rfl) ps
theorem Gath.len {w W : World} {L : LayQ} {q : Qy} {A : Option Addr} {m c : Nat} {ps : List (LayV × Kv)} (h : Gath w W L q A m c ps) : ps.length = m := by
  have := h.own.1
  rw [flatP_len] at this
  omega
set_option maxHeartbeats 2000000 in
set_option maxRecDepth 100000 in
theorem sorted_any (L : LayQ) (q : Qy) (hs0 : 0 ≤ q.sort) (hs4 : q.sort ≤ 4) (A : Option Addr) (n c : Nat) (ps : List (LayV × Kv)) (w : World) (h : RdKs w A n ps) (hn : n ≤ 1000000) :
    Calls Try.prog 16 #[vq L q, .slice A n c] w fun e w' => ∃ A' m c' ps', e = .returned (.slice A' m c') ∧ ps'.Perm (ps.filter (keepsP q)) ∧ ps'.Pairwise (fun a b => ltQ q b.2 a.2 = false) ∧ w'.ownsRow w.heap.size 37 6 (.slice A' m c') m (flatP ps') ∧ Below w.heap.size w w' := by
  have HQ0 : Hid (Gath w (boxQ w L q) L q none 0 0 []) := ⟨World.ownsRow_nil _ _ _ _, boxQ_below w L q, QyB.new w L q⟩
  have HH := kept h
  have HLN := kept h.ln
  have HK := fun M x b hb W => kept (keepsQ_any L q M x W b hb)
  have HS := fun W hW hq A' m c' base rs hr hb hm => kept (sortKV_any L q w.heap.size w W hW hq hs0 hs4 A' m c' base rs hr hb hm)
  have HO : Hid (0 ≤ q.sort ∧ q.sort ≤ 4) := ⟨hs0, hs4⟩
  clear h hs0 hs4
  go_enter Try.func16, Try.ntmps16
  go_wp2
  refine name_world (fun W0 hW0 => ?_)
  replace hW0 : W0 = boxQ w L q := hW0
  rw [← hW0] at HQ0
  clear hW0
  go_loopg [5, 10] n (fun kx s5 s10 wr => ∃ (k m : Nat) (A' : Option Addr) (c' : Nat), s5 = .slice A' m c' ∧ s10 = .int .i64 k ∧ k ≤ n ∧ m ≤ k ∧ n - k ≤ kx ∧ Hid (Gath w wr L q A' m c' ((ps.take k).filter (keepsP q))))
  case atStart => exact ⟨0, 0, none, 0, rfl, rfl, Nat.zero_le _, Nat.le_refl _, Nat.le_refl _, HQ0⟩
  case round =>
    clear HQ0
    obtain ⟨k, m, A', c', rfl, rfl, hk, hm, hkx, HG⟩ := hrel
    by_cases hlt : k < n
    · have hltz : (k : Int) < (n : Int) := by omega
      have hkp : k < ps.length := by rw [HLN.out]; exact hlt
      obtain ⟨b, o, rfl, h0, h1, h2, h3, h4, h5⟩ := (HH.out.keeps (Keeps.of_below HG.out.bel)).at_ k hkp
      have hnx := filter_next (q := q) hkp
      have hrx := HH.out.rd ps[k] (List.getElem_mem hkp)
      generalize hpk : ps[k] = p at h0 h1 h2 h3 h4 h5 hnx hrx
      obtain ⟨⟨ka, kn, kc, va, vn, vc⟩, ⟨xk, xv, xc, xm, xve, xl⟩⟩ := p
      dsimp only at h0 h1 h2 h3 h4 h5
      obtain ⟨kb, hkb⟩ : ∃ kb, keepsQ q ⟨xk, xv, xc, xm, xve, xl⟩ = kb := ⟨_, rfl⟩
      have hkb2 : keepsP q (⟨ka, kn, kc, va, vn, vc⟩, ⟨xk, xv, xc, xm, xve, xl⟩) = kb := hkb
      rw [hkb2] at hnx
      have HNX := kept hnx
      have HC := fun W => HK ⟨ka, kn, kc, va, vn, vc⟩ ⟨xk, xv, xc, xm, xve, xl⟩ kb hkb W
      have hx1 : Six (boxV wr ⟨ka, kn, kc, va, vn, vc⟩ ⟨xk, xv, xc, xm, xve, xl⟩) wr.heap.size ⟨ka, kn, kc, va, vn, vc⟩ ⟨xk, xv, xc, xm, xve, xl⟩ := Six.new wr ⟨ka, kn, kc, va, vn, vc⟩ ⟨xk, xv, xc, xm, xve, xl⟩
      have hbx := boxV_below wr ⟨ka, kn, kc, va, vn, vc⟩ ⟨xk, xv, xc, xm, xve, xl⟩
      have HX1 := kept hx1
      have HG1 := kept (HG.out.below hbx)
      have HZ1 := kept (boxV_size wr ⟨ka, kn, kc, va, vn, vc⟩ ⟨xk, xv, xc, xm, xve, xl⟩)
      clear hnx hrx hkb hkb2 hx1 hbx HK hpk
      go_upto_region 5 with fail
      refine name_world (fun W1 hW1 => ?_)
      replace hW1 : W1 = boxV wr ⟨ka, kn, kc, va, vn, vc⟩ ⟨xk, xv, xc, xm, xve, xl⟩ := hW1
      rw [← hW1] at HX1 HG1 HZ1
      clear hW1 h0 h1 h2 h3 h4 h5
      obtain ⟨q0, q1, q2, q3, q4, q5, q6, q7, q8, q9, q10, q11⟩ := HG1.out.qy.all
      obtain ⟨v0, v1, v2, v3, v4, v5⟩ := HX1.out.cells
      dsimp only at v0 v1 v2 v3 v4 v5
      go_wp2_with fail
      with_reducible refine (HC W1).out.mono ?_
      clear q0 q1 q2 q3 q4 q5 q6 q7 q8 q9 q10 q11 v0 v1 v2 v3 v4 v5
      rintro e w2 ⟨rfl, hb2⟩
      have HX2 := kept (HX1.out.below_ hb2 HX1.out.lt)
      have HG2 := kept (HG1.out.below hb2)
      have HZ2 := kept (Nat.le_trans (Nat.le_of_eq HZ1.out.symm) hb2.size)
      clear hb2 HX1 HG1 HZ1 HC HG
      cases kb with
      | false =>
        go_wp2
        go_roundg (n - (k + 1))
        case measure => omega
        case rel => exact ⟨k + 1, m, A', c', rfl, by go_num, hlt, by omega, Nat.le_refl _, (show Gath _ _ _ _ _ _ _ _ by rw [HNX.out]; simpa using HG2.out)⟩
      | true =>
        obtain ⟨v0, v1, v2, v3, v4, v5⟩ := HX2.out.cells
        dsimp only at v0 v1 v2 v3 v4 v5
        have hba := boxV_below w2 ⟨ka, kn, kc, va, vn, vc⟩ ⟨xk, xv, xc, xm, xve, xl⟩
        have HG3 := kept (HG2.out.below hba)
        have HY := kept (Six.new w2 ⟨ka, kn, kc, va, vn, vc⟩ ⟨xk, xv, xc, xm, xve, xl⟩)
        have hm2 : m + 1 ≤ 3000000 := by omega
        have HSZ := kept (show w.heap.size + 1 ≤ (boxV w2 ⟨ka, kn, kc, va, vn, vc⟩ ⟨xk, xv, xc, xm, xve, xl⟩).heap.size from by rw [boxV_size]; have := HG2.out.bel.size; omega)
        clear hba HX2 HG2
        unfold boxV at HG3 HY HSZ
        go_wp2_with (first | (at_builtin; refine wpList_append_g rfl _ _ 25 rfl 37 ⟨w2.heap.size, 0, none⟩ rfl rfl Try.underlying25 kvinfo rfl (by decide) (by decide) HG3.out.own (ys := cellsV ⟨ka, kn, kc, va, vn, vc⟩ ⟨xk, xv, xc, xm, xve, xl⟩) rfl (fun j u hj => by rw [gadd_at, Nat.zero_add, Blk.cell HY.out j]; exact hj) (fun u hu => flatP_one [(⟨ka, kn, kc, va, vn, vc⟩, ⟨xk, xv, xc, xm, xve, xl⟩)] u (by simpa using hu)) (by exact hm2) HSZ.out ?_; intro A8 c8 w8 h8 g8 loc8; have H8 := kept (And.intro h8 g8); clear h8 g8 loc8))
        have HGF : Hid (Gath w w8 L q A8 (m + 1) c8 ((ps.take (k + 1)).filter (keepsP q))) := kept (by
          obtain ⟨h8, g8⟩ := H8.out
          refine ⟨?_, HG3.out.bel.grown g8 HG3.out.bel.size (fun y hy => Nat.le_of_succ_le (gown_lt HG3.out.own hy).1), ?_⟩
          · rw [HNX.out]
            simp only [if_true, flatP, List.flatMap_append, List.flatMap_cons, List.flatMap_nil, List.append_nil]
            exact h8
          · exact (g8.block w.heap.size HG3.out.qy.lt (fun e => absurd (gown_lt HG3.out.own e.symm).1 (by omega))).trans HG3.out.qy)
        clear H8 HG3 HY HSZ v0 v1 v2 v3 v4 v5
        go_roundg (n - (k + 1))
        case measure => omega
        case rel => exact ⟨k + 1, m + 1, A8, c8, rfl, by go_num, hlt, by omega, Nat.le_refl _, HGF⟩
    · have hltz : ¬ (k : Int) < (n : Int) := by omega
      obtain rfl : k = n := by omega
      have hps : ps.take k = ps := List.take_of_length_le (by rw [HLN.out]; exact Nat.le_refl _)
      rw [hps] at HG
      clear hps HK
      obtain ⟨rs, hrs⟩ : ∃ rs : List (RecW w), rs.map Subtype.val = ps.filter (keepsP q) := by
        refine ⟨(ps.filter (keepsP q)).attach.map fun p => ⟨p.1, HH.out.rd p.1 ((List.mem_filter.1 p.2).1)⟩, ?_⟩
        rw [List.map_map]
        exact List.attach_map_subtype_val _
      have hfl : ∀ rs : List (RecW w), rs.flatMap encW = flatP (rs.map Subtype.val) := fun rs => by
        rw [flatP, List.flatMap_map]
        rfl
      have HC := (HS wr HG.out.bel HG.out.qy A' m c' (w.heap.size + 1) rs (by rw [hfl, hrs]; exact HG.out.own) (Nat.le_succ _) (by omega))
      have HR := kept (And.intro hrs hfl)
      clear HS hrs hfl
      go_wp2_with (go_at_call 20; go_loud (with_reducible refine HC.out.mono ?_); rintro e w3 ⟨rfl, rs', p1, p2, p3, p4⟩; have HF := kept (And.intro p1 (And.intro p2 (And.intro p3 p4))); clear p1 p2 p3 p4)
      go_ret
      obtain ⟨p1, p2, p3, p4⟩ := HF.out
      obtain ⟨hrs, hfl⟩ := HR.out
      refine ⟨A', m, c', rs'.map Subtype.val, rfl, ?_, ?_, ?_, ?_⟩
      · rw [← hrs]; exact p1.map _
      · rw [List.pairwise_map]
        refine p2.imp ?_
        intro a b hab
        rw [ltW HO.out.1 HO.out.2] at hab
        exact hab
      · rw [hfl] at p3
        exact own_mono6 p3 (Nat.le_succ _)
      · exact Turned.only_new HG.out.bel p4 HG.out.bel.size (fun i hi => Nat.le_of_succ_le (gown_lt HG.out.own hi).1)
end Go.Proofs.Ytepmamfbhocjjaa
end

section
/-
  Package sift: beginning, told.
-/
namespace Go.Proofs.Ytepmamfbhocjjaa
open Go.ChangeShapes Go.WideShapes Go.ChangeAt Go.RowKit
set_option linter.unusedVariables false
set_option linter.unusedSimpArgs false

theorem beginning_any (q : Qy) (hl0 : 0 ≤ q.limit) (A : Option Addr) (m c base : Nat) (xs : List Value) (w : World) (h : w.ownsRow base 37 6 (.slice A m c) m xs) :
    Calls Try.prog 17 #[.int .i64 q.limit, .slice A m c] w fun e w' => e = .returned (.slice A (manyQ q m) c) ∧ w = w' := by
  obtain ⟨hmc, hcm, hno⟩ := gown_cap h
  have HM : Hid (manyQ q m = if 0 < q.limit then min m q.limit.toNat else m) := rfl
  generalize manyQ q m = k at HM
  obtain ⟨sort, limit, m0, m1, c0, c1, desc, keys, count⟩ := q
  dsimp only at *
  by_cases z1 : limit = 0
  · have y1 : (limit == 0) = true := by simp [z1]
    have HK : Hid (k = m) := by show _ = _; rw [HM.out, if_neg (by omega)]
    subst z1
    go_enter Try.func17, Try.ntmps17
    go_wp2
    go_ret
    exact ⟨by simp [HK.out], rfl⟩
  · have y1 : (limit == 0) = false := by simp [z1]
    by_cases z2 : (m : Int) ≤ limit
    · have HK : Hid (k = m) := by show _ = _; rw [HM.out, if_pos (by omega)]; omega
      go_enter Try.func17, Try.ntmps17
      go_wp2
      go_ret
      exact ⟨by simp [HK.out], rfl⟩
    · obtain ⟨l, rfl⟩ : ∃ l : Nat, limit = (l : Int) := ⟨limit.toNat, by omega⟩
      have HK : Hid (k = l) := by show _ = _; rw [HM.out, if_pos (by omega)]; omega
      obtain ⟨g, rfl, _⟩ := gown_at h (by omega)
      have hlc : (l : Int) ≤ (c : Int) := by omega
      have z3 : ¬ (m : Int) ≤ (l : Int) := z2
      clear h hno
      go_enter Try.func17, Try.ntmps17
      go_wp2
      go_ret
      exact ⟨by simp [HK.out], rfl⟩
/-- A record of the call's own, from block B on. -/
def OwR (B : Nat) (W : World) (M : LayV) (x : Kv) : Prop := W.ownsRow B 5 1 (.slice M.ka M.kn M.kc) M.kn (cellsOf x.key) ∧ W.ownsRow B 5 1 (.slice M.va M.vn M.vc) M.vn (cellsOf x.val) ∧ M.kn ≤ 140737488351232 ∧ M.vn ≤ 140737488351232
theorem OwR.of {W : World} {B B' : Nat} {M : LayV} {x : Kv} (h : OwV W B' M x) (hB : B ≤ B') : OwR B W M x := by
  obtain ⟨B2, hb, h1, h2, _, h3, h4⟩ := h
  exact ⟨own_mono6 h1 hB, own_mono6 h2 (Nat.le_trans hB hb), h3, h4⟩
theorem OwR.rd {B : Nat} {W : World} {M : LayV} {x : Kv} (h : OwR B W M x) : RdV W M x := ⟨Rd.of_own h.1, Rd.of_own h.2.1, own_cap h.1, own_cap h.2.1, h.2.2.1, h.2.2.2⟩
theorem OwR.turned {B : Nat} {W W' : World} {M : LayV} {x : Kv} {T : Nat → Prop} (h : OwR B W M x) (t : Turned W W' T) (hT : ∀ j, T j → ∀ cur f, W.heap[j]? ≠ some (.cells cur 5 f)) : OwR B W' M x := by
  obtain ⟨h1, h2, h3, h4⟩ := h
  refine ⟨gown_turned h1 t fun g hg hTg => ?_, gown_turned h2 t fun g hg hTg => ?_, h3, h4⟩
  · obtain ⟨cur, hc⟩ := gown_cl (k := 0) h1 hg
    exact hT g hTg _ _ hc
  · obtain ⟨cur, hc⟩ := gown_cl (k := 0) h2 hg
    exact hT g hTg _ _ hc
theorem OwR.old {B : Nat} {W W' : World} {M : LayV} {x : Kv} (h : OwR B W M x) (t : Turned W W' (fun j => j < B)) : OwR B W' M x := by
  obtain ⟨h1, h2, h3, h4⟩ := h
  exact ⟨gown_turned h1 t fun g hg hTg => absurd (gown_lt h1 hg).1 (Nat.not_le_of_lt hTg), gown_turned h2 t fun g hg hTg => absurd (gown_lt h2 hg).1 (Nat.not_le_of_lt hTg), h3, h4⟩
theorem OwR.below {B : Nat} {W W' : World} {M : LayV} {x : Kv} (h : OwR B W M x) (hb : Below W.heap.size W W') : OwR B W' M x := h.turned (Turned.of_below hb (fun _ => False)) (fun _ e => e.elim)
/-- What stands while records are told. -/
structure Told (w W : World) (L : LayQ) (q : Qy) (A : Option Addr) (m c : Nat) (ps : List (LayV × Kv)) : Prop where
  gath : Gath w W L q A m c ps
  own : ∀ p ∈ ps, OwR w.heap.size W p.1 p.2
theorem Told.below {w W W' : World} {L : LayQ} {q : Qy} {A : Option Addr} {m c : Nat} {ps : List (LayV × Kv)} (h : Told w W L q A m c ps) (hb : Below W.heap.size W W') : Told w W' L q A m c ps :=
  ⟨h.gath.below hb, fun p hp => (h.own p hp).below hb⟩
theorem row_kv {W : World} {base m c : Nat} {A : Option Addr} {xs : List Value} (h : W.ownsRow base 37 6 (.slice A m c) m xs) (j : Nat) (hj : (Value.slice A m c).ownBlock = some j) (cur : Array Value) (f : Nat × Nat) : W.heap[j]? ≠ some (.cells cur 5 f) := by
  intro e
  obtain ⟨cur', hc⟩ := gown_cl (k := 0) h hj
  rw [hc] at e
  injection e with e
  injection e with _ e _
  exact absurd e (by decide)
set_option maxHeartbeats 2000000 in
set_option maxRecDepth 100000 in
theorem told_any (L : LayQ) (q : Qy) (A : Option Addr) (n c : Nat) (ps : List (LayV × Kv)) (w : World) (h : RdKs w A n ps) (hn : n ≤ 1000000) :
    Calls Try.prog 18 #[vq L q, .slice A n c] w fun e w' => ∃ A' c' ps', e = .returned (.slice A' n c') ∧ ps'.map Prod.snd = (ps.map Prod.snd).map (stripQ q) ∧ RdKs w' A' n ps' ∧ n ≤ c' ∧ Below w.heap.size w w' ∧ ∀ W', Turned w' W' (fun j => j < w.heap.size) → RdKs W' A' n ps' := by
  have HQ0 : Hid (Told w (boxQ w L q) L q none 0 0 []) := ⟨⟨World.ownsRow_nil _ _ _ _, boxQ_below w L q, QyB.new w L q⟩, fun p hp => absurd hp List.not_mem_nil⟩
  have HH := kept h
  have HLN := kept h.ln
  have HTW := fun M x W hr => kept (twin_kv M x W hr)
  clear h
  go_enter Try.func18, Try.ntmps18
  go_wp2
  refine name_world (fun W0 hW0 => ?_)
  replace hW0 : W0 = boxQ w L q := hW0
  rw [← hW0] at HQ0
  clear hW0
  go_loopg [5, 10] n (fun kx s5 s10 wr => ∃ (k m : Nat) (A' : Option Addr) (c' : Nat) (rs : List (LayV × Kv)), s5 = .slice A' m c' ∧ s10 = .int .i64 k ∧ k ≤ n ∧ m = k ∧ n - k ≤ kx ∧ Hid (Told w wr L q A' m c' rs) ∧ Hid (rs.map Prod.snd = ((ps.take k).map Prod.snd).map (stripQ q)))
  case atStart => exact ⟨0, 0, none, 0, [], rfl, rfl, Nat.zero_le _, rfl, Nat.le_refl _, HQ0, rfl⟩
  case round =>
    clear HQ0
    obtain ⟨k, m, A', c', rs, rfl, rfl, hk, hm, hkx, HG, HRS⟩ := hrel
    by_cases hlt : k < n
    · have hltz : (k : Int) < (n : Int) := by omega
      have hkp : k < ps.length := by rw [HLN.out]; exact hlt
      obtain ⟨b, o, rfl, h0, h1, h2, h3, h4, h5⟩ := (HH.out.keeps (Keeps.of_below HG.out.gath.bel)).at_ k hkp
      have hnx : ((ps.take (k + 1)).map Prod.snd).map (stripQ q) = ((ps.take k).map Prod.snd).map (stripQ q) ++ [stripQ q ps[k].2] := by rw [List.take_succ_eq_append_getElem hkp, List.map_append, List.map_append]; rfl
      have hrx := HH.out.rd ps[k] (List.getElem_mem hkp)
      generalize hpk : ps[k] = p at h0 h1 h2 h3 h4 h5 hnx hrx
      obtain ⟨⟨ka, kn, kc, va, vn, vc⟩, ⟨xk, xv, xc, xm, xve, xl⟩⟩ := p
      dsimp only at h0 h1 h2 h3 h4 h5 hnx
      have HNX := kept hnx
      have kq := HG.out.gath.qy.cells.2.2.2.1
      have kq2 := (HG.out.below (boxV_below wr ⟨ka, kn, kc, va, vn, vc⟩ ⟨xk, xv, xc, xm, xve, xl⟩)).gath.qy.cells.2.2.2.1
      clear hnx hpk
      subst hm
      cases hkeys : q.keys
      · rw [hkeys] at kq kq2
        have HX1 : Hid (Six (boxV wr ⟨ka, kn, kc, va, vn, vc⟩ ⟨xk, xv, xc, xm, xve, xl⟩) wr.heap.size ⟨ka, kn, kc, va, vn, vc⟩ ⟨xk, xv, xc, xm, xve, xl⟩) := Six.new wr ⟨ka, kn, kc, va, vn, vc⟩ ⟨xk, xv, xc, xm, xve, xl⟩
        have hbx := boxV_below wr ⟨ka, kn, kc, va, vn, vc⟩ ⟨xk, xv, xc, xm, xve, xl⟩
        have HG1 := kept (HG.out.below hbx)
        have HRX := kept (hrx.below (bel_to hbx HG.out.gath.bel))
        replace HNX := kept (HNX.out.trans (by rw [show stripQ q ⟨xk, xv, xc, xm, xve, xl⟩ = ⟨xk, xv, xc, xm, xve, xl⟩ by rw [stripQ, hkeys]; rfl]))
        have HT := fun W hr => HTW ⟨ka, kn, kc, va, vn, vc⟩ ⟨xk, xv, xc, xm, xve, xl⟩ W hr
        clear hbx hrx HG kq
        go_upto_region 7 with fail
        clear kq2 h0 h1 h2 h3 h4 h5 hkeys
        refine name_world (fun W1 hW1 => ?_)
        replace hW1 : W1 = boxV wr ⟨ka, kn, kc, va, vn, vc⟩ ⟨xk, xv, xc, xm, xve, xl⟩ := hW1
        rw [← hW1] at HX1 HG1 HRX
        clear hW1
        obtain ⟨v0, v1, v2, v3, v4, v5⟩ := HX1.out.cells
        dsimp only at v0 v1 v2 v3 v4 v5
        go_wp2_with fail
        with_reducible refine (HT W1 HRX.out).out.mono ?_
        clear v0 v1 v2 v3 v4 v5
        rintro e w2 ⟨M2, rfl, hown, hb2⟩
        have HOW2 := kept (OwR.of hown HG1.out.gath.bel.size)
        have HG2 := kept (HG1.out.below hb2)
        have HZ2 := kept hb2.size
        clear hb2 hown HG1 HT
        obtain ⟨la, ln, lc, ua, un, uc⟩ := M2
        have hba := boxV_below w2 ⟨la, ln, lc, ua, un, uc⟩ ⟨xk, xv, xc, xm, xve, xl⟩
        have HG3 := kept (HG2.out.below hba)
        have HOW3 := kept (HOW2.out.below hba)
        have HY := kept (Six.new w2 ⟨la, ln, lc, ua, un, uc⟩ ⟨xk, xv, xc, xm, xve, xl⟩)
        have hm2 : m + 1 ≤ 3000000 := by omega
        have HSZ := kept (show w.heap.size + 1 ≤ (boxV w2 ⟨la, ln, lc, ua, un, uc⟩ ⟨xk, xv, xc, xm, xve, xl⟩).heap.size from by rw [boxV_size]; have := HG2.out.gath.bel.size; omega)
        clear hba HG2 HOW2
        unfold boxV at HG3 HY HSZ HOW3
        dsimp only at HG3 HY HSZ HOW3
        go_wp2_with (first | (at_builtin; refine wpList_append_g rfl _ _ 25 rfl 37 ⟨w2.heap.size, 0, none⟩ rfl rfl Try.underlying25 kvinfo rfl (by decide) (by decide) HG3.out.gath.own (ys := cellsV ⟨la, ln, lc, ua, un, uc⟩ ⟨xk, xv, xc, xm, xve, xl⟩) rfl (fun j u hj => by rw [gadd_at, Nat.zero_add, Blk.cell HY.out j]; exact hj) (fun u hu => flatP_one [(⟨la, ln, lc, ua, un, uc⟩, ⟨xk, xv, xc, xm, xve, xl⟩)] u (by simpa using hu)) (by exact hm2) HSZ.out ?_; intro A8 c8 w8 h8 g8 loc8; have H8 := kept (And.intro h8 g8); clear h8 g8 loc8))
        have HGF : Hid (Told w w8 L q A8 (m + 1) c8 (rs ++ [(⟨la, ln, lc, ua, un, uc⟩, ⟨xk, xv, xc, xm, xve, xl⟩)])) := kept (by
          obtain ⟨h8, g8⟩ := H8.out
          have hT : ∀ j, (fun j => (Value.slice A' m c').ownBlock = some j) j → ∀ cur f, (w2.alloc (.cells #[.slice la ln lc, .slice ua un uc, .int .i64 xc, .int .i64 xm, .int .i64 xve, .int .i64 xl] 37)).heap[j]? ≠ some (.cells cur 5 f) := fun j hj cur f => row_kv HG3.out.gath.own j hj cur f
          have ht : Turned (w2.alloc (.cells #[.slice la ln lc, .slice ua un uc, .int .i64 xc, .int .i64 xm, .int .i64 xve, .int .i64 xl] 37)) w8 (fun j => (Value.slice A' m c').ownBlock = some j) := Turned.of_grown g8 (fun j hj => hj)
          refine ⟨⟨?_, HG3.out.gath.bel.grown g8 HG3.out.gath.bel.size (fun y hy => Nat.le_of_succ_le (gown_lt HG3.out.gath.own hy).1), ?_⟩, fun p hp => ?_⟩
          · simp only [flatP, List.flatMap_append, List.flatMap_cons, List.flatMap_nil, List.append_nil]
            exact h8
          · exact (g8.block w.heap.size HG3.out.gath.qy.lt (fun e => absurd (gown_lt HG3.out.gath.own e.symm).1 (by omega))).trans HG3.out.gath.qy
          · rcases List.mem_append.1 hp with hp | hp
            · exact (HG3.out.own p hp).turned ht hT
            · rw [List.mem_singleton.1 hp]
              exact HOW3.out.turned ht hT)
        clear H8 HG3 HY HSZ HOW3
        go_roundg (n - (m + 1))
        case measure => omega
        case rel => exact ⟨m + 1, m + 1, A8, c8, _, rfl, by go_num, hlt, by omega, Nat.le_refl _, HGF, (show _ = _ by rw [HNX.out, List.map_append, HRS.out]; rfl)⟩
      · rw [hkeys] at kq kq2
        have HX1 : Hid (Six (boxV wr ⟨ka, kn, kc, none, 0, 0⟩ ⟨xk, [], xc, xm, xve, xl⟩) wr.heap.size ⟨ka, kn, kc, none, 0, 0⟩ ⟨xk, [], xc, xm, xve, xl⟩) := Six.new wr ⟨ka, kn, kc, none, 0, 0⟩ ⟨xk, [], xc, xm, xve, xl⟩
        have hbx := boxV_below wr ⟨ka, kn, kc, none, 0, 0⟩ ⟨xk, [], xc, xm, xve, xl⟩
        have HG1 := kept (HG.out.below hbx)
        have hrx2 : RdV w ⟨ka, kn, kc, none, 0, 0⟩ ⟨xk, [], xc, xm, xve, xl⟩ := ⟨hrx.key, Rd.nil_ _ _, hrx.kc, Nat.le_refl _, hrx.kb, Nat.zero_le _⟩
        have HRX := kept (hrx2.below (bel_to hbx HG.out.gath.bel))
        replace HNX := kept (HNX.out.trans (by rw [show stripQ q ⟨xk, xv, xc, xm, xve, xl⟩ = ⟨xk, [], xc, xm, xve, xl⟩ by rw [stripQ, hkeys]; rfl]))
        have HT := fun W hr => HTW ⟨ka, kn, kc, none, 0, 0⟩ ⟨xk, [], xc, xm, xve, xl⟩ W hr
        have f1 := fun i => Blk.frozen (Six.new wr ⟨ka, kn, kc, va, vn, vc⟩ ⟨xk, xv, xc, xm, xve, xl⟩) i
        clear hbx hrx hrx2 HG kq
        go_upto_region 7 with fail
        clear kq2 h0 h1 h2 h3 h4 h5 hkeys f1
        refine name_world (fun W1 hW1 => ?_)
        replace hW1 : W1 = boxV wr ⟨ka, kn, kc, none, 0, 0⟩ ⟨xk, [], xc, xm, xve, xl⟩ := hW1
        rw [← hW1] at HX1 HG1 HRX
        clear hW1
        obtain ⟨v0, v1, v2, v3, v4, v5⟩ := HX1.out.cells
        dsimp only at v0 v1 v2 v3 v4 v5
        go_wp2_with fail
        with_reducible refine (HT W1 HRX.out).out.mono ?_
        clear v0 v1 v2 v3 v4 v5
        rintro e w2 ⟨M2, rfl, hown, hb2⟩
        have HOW2 := kept (OwR.of hown HG1.out.gath.bel.size)
        have HG2 := kept (HG1.out.below hb2)
        have HZ2 := kept hb2.size
        clear hb2 hown HG1 HT
        obtain ⟨la, ln, lc, ua, un, uc⟩ := M2
        have hba := boxV_below w2 ⟨la, ln, lc, ua, un, uc⟩ ⟨xk, [], xc, xm, xve, xl⟩
        have HG3 := kept (HG2.out.below hba)
        have HOW3 := kept (HOW2.out.below hba)
        have HY := kept (Six.new w2 ⟨la, ln, lc, ua, un, uc⟩ ⟨xk, [], xc, xm, xve, xl⟩)
        have hm2 : m + 1 ≤ 3000000 := by omega
        have HSZ := kept (show w.heap.size + 1 ≤ (boxV w2 ⟨la, ln, lc, ua, un, uc⟩ ⟨xk, [], xc, xm, xve, xl⟩).heap.size from by rw [boxV_size]; have := HG2.out.gath.bel.size; omega)
        clear hba HG2 HOW2
        unfold boxV at HG3 HY HSZ HOW3
        dsimp only at HG3 HY HSZ HOW3
        go_wp2_with (first | (at_builtin; refine wpList_append_g rfl _ _ 25 rfl 37 ⟨w2.heap.size, 0, none⟩ rfl rfl Try.underlying25 kvinfo rfl (by decide) (by decide) HG3.out.gath.own (ys := cellsV ⟨la, ln, lc, ua, un, uc⟩ ⟨xk, [], xc, xm, xve, xl⟩) rfl (fun j u hj => by rw [gadd_at, Nat.zero_add, Blk.cell HY.out j]; exact hj) (fun u hu => flatP_one [(⟨la, ln, lc, ua, un, uc⟩, ⟨xk, [], xc, xm, xve, xl⟩)] u (by simpa using hu)) (by exact hm2) HSZ.out ?_; intro A8 c8 w8 h8 g8 loc8; have H8 := kept (And.intro h8 g8); clear h8 g8 loc8))
        have HGF : Hid (Told w w8 L q A8 (m + 1) c8 (rs ++ [(⟨la, ln, lc, ua, un, uc⟩, ⟨xk, [], xc, xm, xve, xl⟩)])) := kept (by
          obtain ⟨h8, g8⟩ := H8.out
          have hT : ∀ j, (fun j => (Value.slice A' m c').ownBlock = some j) j → ∀ cur f, (w2.alloc (.cells #[.slice la ln lc, .slice ua un uc, .int .i64 xc, .int .i64 xm, .int .i64 xve, .int .i64 xl] 37)).heap[j]? ≠ some (.cells cur 5 f) := fun j hj cur f => row_kv HG3.out.gath.own j hj cur f
          have ht : Turned (w2.alloc (.cells #[.slice la ln lc, .slice ua un uc, .int .i64 xc, .int .i64 xm, .int .i64 xve, .int .i64 xl] 37)) w8 (fun j => (Value.slice A' m c').ownBlock = some j) := Turned.of_grown g8 (fun j hj => hj)
          refine ⟨⟨?_, HG3.out.gath.bel.grown g8 HG3.out.gath.bel.size (fun y hy => Nat.le_of_succ_le (gown_lt HG3.out.gath.own hy).1), ?_⟩, fun p hp => ?_⟩
          · simp only [flatP, List.flatMap_append, List.flatMap_cons, List.flatMap_nil, List.append_nil]
            exact h8
          · exact (g8.block w.heap.size HG3.out.gath.qy.lt (fun e => absurd (gown_lt HG3.out.gath.own e.symm).1 (by omega))).trans HG3.out.gath.qy
          · rcases List.mem_append.1 hp with hp | hp
            · exact (HG3.out.own p hp).turned ht hT
            · rw [List.mem_singleton.1 hp]
              exact HOW3.out.turned ht hT)
        clear H8 HG3 HY HSZ HOW3
        go_roundg (n - (m + 1))
        case measure => omega
        case rel => exact ⟨m + 1, m + 1, A8, c8, _, rfl, by go_num, hlt, by omega, Nat.le_refl _, HGF, (show _ = _ by rw [HNX.out, List.map_append, HRS.out]; rfl)⟩
    · have hltz : ¬ (k : Int) < (n : Int) := by omega
      obtain rfl : k = n := by omega
      have hps : ps.take k = ps := List.take_of_length_le (by rw [HLN.out]; exact Nat.le_refl _)
      subst hm
      rw [hps] at HRS
      clear hps HTW
      go_wp2
      go_ret
      refine ⟨A', c', rfl, rs, (by first | exact HRS.out | (rw [HRS.out, List.map_map])), RdKs.of_own HG.out.gath.own (fun p hp => (HG.out.own p hp).rd), (gown_cap HG.out.gath.own).1, HG.out.gath.bel, fun W' ht => RdKs.of_own (gown_turned HG.out.gath.own ht (fun g hg hl => absurd (gown_lt HG.out.gath.own hg).1 (by omega))) (fun p hp => ((HG.out.own p hp).old ht).rd)⟩
end Go.Proofs.Ytepmamfbhocjjaa
end

section
/-
  Package sift: Sift, of records of unlike keys.
-/
namespace Go.Proofs.Ytepmamfbhocjjaa
open Go.ChangeShapes Go.WideShapes Go.ChangeAt Go.RowKit
set_option linter.unusedVariables false
set_option linter.unusedSimpArgs false

/-- What a sift answers: the slice that reads as these records, Count, More. -/
def resV (A : Option Addr) (k c : Nat) (cnt : Int) (more : Bool) : Value := .agg #[.slice A k c, .int .i64 cnt, .bool more]
/-- Three cells stored. -/
abbrev set3 (w : World) (q : Nat) (u0 u1 u2 : Value) : World := ((w.setCell ⟨q, 0, none⟩ u0).setCell ⟨q, 1, none⟩ u1).setCell ⟨q, 2, none⟩ u2
theorem set3_ok {w W : World} {B q : Nat} {t : TypeId} {a b c : Value} (h : Blk W q t [a, b, c]) (hb : Below B w W) (hq : B ≤ q) (u0 u1 u2 : Value) : Blk (set3 W q u0 u1 u2) q t [u0, u1, u2] ∧ Below B w (set3 W q u0 u1 u2) :=
  ⟨((h.set_ 0 u0).set_ 1 u1).set_ 2 u2, ((hb.setCell (p := ⟨q, 0, none⟩) hq u0).setCell (p := ⟨q, 1, none⟩) hq u1).setCell (p := ⟨q, 2, none⟩) hq u2⟩
theorem set3_turned (W : World) (q : Nat) (u0 u1 u2 : Value) : Turned W (set3 W q u0 u1 u2) (fun j => j = q) :=
  (((Turned.refl W (fun j => j = q)).setCell (p := ⟨q, 0, none⟩) (fun _ => rfl) u0).setCell (p := ⟨q, 1, none⟩) (fun _ => rfl) u1).setCell (p := ⟨q, 2, none⟩) (fun _ => rfl) u2
theorem Rd.off {W W' : World} {A : Option Addr} {n q : Nat} {xs : List UInt8} (h : Rd W A n xs) (t : Turned W W' (fun j => j = q)) (hb : ∀ k x, W.cell? ⟨q, k, none⟩ ≠ some (byteV x)) : Rd W' A n xs := by
  rcases Nat.eq_zero_or_pos n with h0 | h0
  · exact ⟨h.1, fun hn => absurd h0 (by omega)⟩
  · refine t.rd h fun a e => ?_
    rintro rfl
    obtain ⟨a', e', hc⟩ := h.2 h0
    rw [e] at e'
    obtain rfl := Option.some.inj e'
    have hx : 0 < xs.length := by rw [h.1]; exact h0
    have h1 := hc 0 (by omega)
    have hs := World.cell?_spot h1
    generalize had : a.add 0 = ad at h1 hs
    have hblk : ad.block = a.block := by rw [← had, add_block]
    obtain ⟨b, o, s⟩ := ad
    simp only at hs hblk
    subst hs hblk
    exact hb o _ h1
theorem RdKs.off {W W' : World} {A : Option Addr} {n q : Nat} {ps : List (LayV × Kv)} {t : TypeId} {B : Option Addr} {k c : Nat} {i : Int} {b : Bool} (h : RdKs W A n ps) (hq : Blk W q t [.slice B k c, .int .i64 i, .bool b]) (tu : Turned W W' (fun j => j = q)) : RdKs W' A n ps := by
  have hnb : ∀ k x, W.cell? ⟨q, k, none⟩ ≠ some (byteV x) := by
    intro k x e
    rw [hq.cell k] at e
    rcases k with _ | _ | _ | k <;> simp [byteV] at e
  refine ⟨h.ln, fun i hi => ?_, fun p hp => ?_⟩
  · obtain ⟨g, o, e, h0, h1, h2, h3, h4, h5⟩ := h.at_ i hi
    have hne : g ≠ q := by
      rintro rfl
      rw [hq.cell (o + i * 6 + 5)] at h5
      simp at h5
    have hc : ∀ k v, W.cell? ⟨g, k, none⟩ = some v → W'.cell? ⟨g, k, none⟩ = some v := fun k v hv => by
      rw [World.cell?_of_block (w := W) (tu.block g (World.block_lt_of_cell? W _ hv) hne)]
      exact hv
    exact ⟨g, o, e, hc _ _ h0, hc _ _ h1, hc _ _ h2, hc _ _ h3, hc _ _ h4, hc _ _ h5⟩
  · have hr := h.rd p hp
    exact ⟨hr.key.off tu hnb, hr.val.off tu hnb, hr.kc, hr.vc, hr.kb, hr.vb⟩
theorem set3_rd {W : World} {A : Option Addr} {n q : Nat} {ps : List (LayV × Kv)} {t : TypeId} {B : Option Addr} {k c : Nat} {i : Int} {b : Bool} (h : RdKs W A n ps) (hq : Blk W q t [.slice B k c, .int .i64 i, .bool b]) (u0 u1 u2 : Value) : RdKs (set3 W q u0 u1 u2) A n ps := h.off hq (set3_turned W q u0 u1 u2)
theorem sorted_all {q : Qy} {ps ps' : List (LayV × Kv)} (hU : Unl (ps.map Prod.snd)) (hp : ps'.Perm (ps.filter (keepsP q))) (hs : ps'.Pairwise (fun a b => ltQ q b.2 a.2 = false)) : ps'.map Prod.snd = allQ q (ps.map Prod.snd) := by
  have hp2 : (ps'.map Prod.snd).Perm ((ps.map Prod.snd).filter (keepsQ q)) := by
    rw [List.filter_map]
    exact hp.map _
  have hU2 : Unl ((ps.map Prod.snd).filter (keepsQ q)) := hU.sub List.filter_sublist
  refine sortQ_only hU2 hp2 ?_
  have hU3 : Unl (ps'.map Prod.snd) := hU2.perm hp2.symm
  rw [Unl, List.pairwise_map] at hU3
  rw [SrtQ, List.pairwise_map]
  refine (hU3.and hs).imp ?_
  rintro a b ⟨h1, h2⟩
  rcases ltQ_tri (q := q) h1 with h | h
  · exact h
  · rw [h2] at h; cases h
theorem rightQ_parts {q : Qy} (h : rightQ q = true) : 0 ≤ q.sort ∧ q.sort ≤ 4 ∧ 0 ≤ q.limit ∧ q.limit ≤ 4096 := by
  simp only [rightQ, Bool.and_eq_true, decide_eq_true_eq] at h
  omega
set_option maxHeartbeats 2000000 in
set_option maxRecDepth 100000 in
theorem sift_any (L : LayQ) (q : Qy) (A : Option Addr) (n c : Nat) (ps : List (LayV × Kv)) (w : World) (h : RdKs w A n ps) (hn : n ≤ 1000000) (hU : Unl (ps.map Prod.snd)) :
    Calls Try.prog 10 #[vq L q, .slice A n c] w fun e w' => ∃ A' k c' ps', e = .returned (.agg #[.slice A' k c', .int .i64 ((siftQ q (ps.map Prod.snd)).2.1 : Nat), .bool (siftQ q (ps.map Prod.snd)).2.2]) ∧ ps'.map Prod.snd = (siftQ q (ps.map Prod.snd)).1 ∧ RdKs w' A' k ps' ∧ k ≤ c' ∧ Below w.heap.size w w' ∧ ∀ W', Turned w' W' (fun j => j < w.heap.size) → RdKs W' A' k ps' := by
  have HB0 : Hid (Below w.heap.size w ((boxQ w L q).alloc (.cells #[.slice none 0 0, .int .i64 0, .bool false] 30))) := (boxQ_below w L q).trans (((Below.refl _ (boxQ w L q)).alloc (Nat.le_refl _) _).mono (by rw [boxQ_size]; omega))
  have hq1 := (QyB.new w L q).below_ ((Below.refl (boxQ w L q).heap.size (boxQ w L q)).alloc (Nat.le_refl _) (.cells #[.slice none 0 0, .int .i64 0, .bool false] 30)) (by rw [boxQ_size]; omega)
  have hr1 := Blk.new (boxQ w L q) 30 #[.slice none 0 0, .int .i64 0, .bool false]
  rw [boxQ_size] at hr1
  have HQ1 := kept hq1
  have HR1 := kept hr1
  have HH := kept h
  have HUN := kept hU
  have HLN := kept h.ln
  obtain ⟨R, hR⟩ : ∃ R, siftQ q (ps.map Prod.snd) = R := ⟨_, rfl⟩
  rw [hR]
  have HRR := kept hR
  obtain ⟨b, hb⟩ : ∃ b, rightQ q = b := ⟨_, rfl⟩
  have HRT := fun W => kept (rightQ_any L q W b hb)
  have HBE := kept hb
  clear h hU hq1 hr1 hb hR
  go_enter Try.func10, Try.ntmps10
  go_upto_region 1 with fail
  refine name_world (fun W1 hW1 => ?_)
  replace hW1 : W1 = (boxQ w L q).alloc (.cells #[.slice none 0 0, .int .i64 0, .bool false] 30) := hW1
  rw [← hW1] at HB0 HQ1 HR1
  clear hW1
  obtain ⟨q0, q1, q2, q3, q4, q5, q6, q7, q8, q9, q10, q11⟩ := HQ1.out.all
  go_wp2_with fail
  with_reducible refine (HRT W1).out.mono ?_
  clear q0 q1 q2 q3 q4 q5 q6 q7 q8 q9 q10 q11
  rintro e w2 ⟨rfl, hb2⟩
  have HB2 := kept (bel_to hb2 HB0.out)
  have HQ2 := kept (HQ1.out.below_ hb2 HQ1.out.lt)
  have HR2 : Hid (Blk w2 (w.heap.size + 1) 30 [.slice none 0 0, .int .i64 0, .bool false]) := Blk.below HR1.out hb2 HR1.out.lt
  clear hb2 HB0 HQ1 HR1 HRT
  have r0 : w2.cell? ⟨w.heap.size + 1, 0, none⟩ = some (.slice none 0 0) := HR2.out.cell 0
  have r1 : w2.cell? ⟨w.heap.size + 1, 1, none⟩ = some (.int .i64 0) := HR2.out.cell 1
  have r2 : w2.cell? ⟨w.heap.size + 1, 2, none⟩ = some (.bool false) := HR2.out.cell 2
  have f0 := Blk.frozen HR2.out
  cases b with
  | false =>
    have HA := kept (set3_ok HR2.out HB2.out (Nat.le_succ _) (.slice none 0 0) (.int .i64 0) (.bool false))
    have HSI : Hid (R = ([], 0, false)) := by show _ = _; rw [← HRR.out]; unfold siftQ; rw [HBE.out]; rfl
    clear HBE HUN HLN HRR
    go_wp2_with fail
    obtain ⟨hA1, hA2⟩ := HA.out
    unfold set3 at hA1 hA2
    generalize ((w2.setCell ⟨w.heap.size + 1, 0, none⟩ (.slice none 0 0)).setCell ⟨w.heap.size + 1, 1, none⟩ (.int .i64 0)).setCell ⟨w.heap.size + 1, 2, none⟩ (.bool false) = Y at hA1 hA2 ⊢
    have v0 : Y.cell? ⟨w.heap.size + 1, 0, none⟩ = some (.slice none 0 0) := hA1.cell 0
    have v1 : Y.cell? ⟨w.heap.size + 1, 1, none⟩ = some (.int .i64 0) := hA1.cell 1
    have v2 : Y.cell? ⟨w.heap.size + 1, 2, none⟩ = some (.bool false) := hA1.cell 2
    refine bodyPost_ret (v := .agg #[(.slice none 0 0), (.int .i64 0), (.bool false)]) ?_ rfl ?_
    · simp [results, Try.results10, go_sem, v0, v1, v2]
    rw [HSI.out]
    exact ⟨none, 0, 0, [], rfl, rfl, RdKs.nil _ _, Nat.le_refl _, hA2, fun _ _ => RdKs.nil _ _⟩
  | true =>
    obtain ⟨s0, s4, l0, l4⟩ := rightQ_parts HBE.out
    have kc7 := HQ2.out.cells.2.2.2.2.1
    cases hcount : q.count
    · rw [hcount] at kc7
      have HSI : Hid (R = (((allQ q (ps.map Prod.snd)).take (manyQ q (allQ q (ps.map Prod.snd)).length)).map (stripQ q), n, decide (manyQ q (allQ q (ps.map Prod.snd)).length < (allQ q (ps.map Prod.snd)).length))) := by
        show _ = _
        rw [← HRR.out]
        unfold siftQ
        rw [HBE.out, hcount, List.length_map, HLN.out]
        rfl
      have HS := kept (sorted_any L q s0 s4 A n c ps w2 (HH.out.below HB2.out) hn)
      have HBG := fun A1 m c1 base xs W ho => kept (beginning_any q l0 A1 m c1 base xs W ho)
      have HTD := fun A1 k c1 rs W hr hk => kept (told_any L q A1 k c1 rs W hr hk)
      clear HBE s0 s4 l0 l4 HLN r0 r1 r2 f0 HRR
      go_upto_region 6 with fail
      clear kc7 hcount
      obtain ⟨q0, q1, q2, q3, q4, q5, q6, q7, q8, q9, q10, q11⟩ := HQ2.out.all
      go_wp2_with fail
      with_reducible refine HS.out.mono ?_
      clear q0 q1 q2 q3 q4 q5 q6 q7 q8 q9 q10 q11 HS
      rintro e w3 ⟨A1, m, c1, ps1, rfl, p1, p2, hown, hb3⟩
      have HB3 := kept (bel_to hb3 HB2.out)
      have HQ3 := kept (HQ2.out.below_ hb3 HQ2.out.lt)
      have HR3 : Hid (Blk w3 (w.heap.size + 1) 30 [.slice none 0 0, .int .i64 0, .bool false]) := Blk.below HR2.out hb3 HR2.out.lt
      have HP := kept (And.intro p1 (And.intro p2 (sorted_all HUN.out p1 p2)))
      have HO3 := kept hown
      have HRD := kept (RdKs.of_own hown (fun p hp => (HH.out.rd p (List.mem_filter.1 (p1.mem_iff.1 hp)).1).below HB3.out))
      have HML : Hid (ps1.length = m) := (RdKs.of_own hown (fun p hp => (HH.out.rd p (List.mem_filter.1 (p1.mem_iff.1 hp)).1).below HB3.out)).ln
      have HMN : Hid (m ≤ n) := by
        show m ≤ n
        rw [← HML.out, p1.length_eq, ← HH.out.ln]
        exact List.length_filter_le _ _
      have k3 := HQ3.out.cells.1
      clear hb3 hown p1 p2 HB2 HQ2 HR2
      have HBG1 := HBG A1 m c1 w2.heap.size (flatP ps1) w3 HO3.out
      clear HBG
      go_wp2_with fail
      with_reducible refine HBG1.out.mono ?_
      clear k3 HBG1
      rintro e w4 ⟨rfl, rfl⟩
      have HTD1 := HTD A1 (manyQ q m) c1 (ps1.take (manyQ q m)) w3 (HRD.out.take _ (manyQ_le q m)) (Nat.le_trans (manyQ_le q m) (Nat.le_trans HMN.out hn))
      clear HTD
      obtain ⟨q0, q1, q2, q3, q4, q5, q6, q7, q8, q9, q10, q11⟩ := HQ3.out.all
      go_wp2_with fail
      with_reducible refine HTD1.out.mono ?_
      clear q0 q1 q2 q3 q4 q5 q6 q7 q8 q9 q10 q11 HTD1
      rintro e w5 ⟨A2, c2, rs, rfl, hm1, hrd, hkc, hb5, hold⟩
      have HR5 : Hid (Blk w5 (w.heap.size + 1) 30 [.slice none 0 0, .int .i64 0, .bool false]) := Blk.below HR3.out hb5 HR3.out.lt
      have HB5 := kept (bel_to hb5 HB3.out)
      have HA := kept (set3_ok HR5.out HB5.out (Nat.le_succ _) (.slice A2 (manyQ q m) c2) (.int .i64 n) (.bool (decide (manyQ q m < m))))
      have hl5 : w.heap.size + 1 < w3.heap.size := HR3.out.lt
      have HOLD : Hid (∀ W', Turned (set3 w5 (w.heap.size + 1) (.slice A2 (manyQ q m) c2) (.int .i64 n) (.bool (decide (manyQ q m < m)))) W' (fun j => j < w.heap.size) → RdKs W' A2 (manyQ q m) rs) := fun W' ht => hold W' (((set3_turned w5 (w.heap.size + 1) _ _ _).mono (fun j _ e => by rw [e]; exact hl5)).trans (ht.mono (fun j _ e => by omega)))
      have HF := kept (And.intro hm1 (And.intro (set3_rd hrd HR5.out (.slice A2 (manyQ q m) c2) (.int .i64 n) (.bool (decide (manyQ q m < m)))) hkc))
      have r0 : w5.cell? ⟨w.heap.size + 1, 0, none⟩ = some (.slice none 0 0) := HR5.out.cell 0
      have r1 : w5.cell? ⟨w.heap.size + 1, 1, none⟩ = some (.int .i64 0) := HR5.out.cell 1
      have r2 : w5.cell? ⟨w.heap.size + 1, 2, none⟩ = some (.bool false) := HR5.out.cell 2
      have f0 := Blk.frozen HR5.out
      have HML2 : Hid ((allQ q (ps.map Prod.snd)).length = m) := by show _ = _; rw [← HP.out.2.2, List.length_map]; exact HML.out
      rw [HML2.out] at HSI
      clear hm1 hrd hkc hb5 HR5 HB5 HB3 HR3 HO3 HRD hold hl5
      go_wp2_with fail
      obtain ⟨hA1, hA2⟩ := HA.out
      unfold set3 at hA1 hA2
      obtain ⟨hm1, hrd, hkc⟩ := HF.out
      have hold := HOLD.out
      unfold set3 at hrd hold
      generalize ((w5.setCell ⟨w.heap.size + 1, 0, none⟩ (.slice A2 (manyQ q m) c2)).setCell ⟨w.heap.size + 1, 1, none⟩ (.int .i64 n)).setCell ⟨w.heap.size + 1, 2, none⟩ (.bool (decide (manyQ q m < m))) = Y at hA1 hA2 hrd hold ⊢
      have v0 : Y.cell? ⟨w.heap.size + 1, 0, none⟩ = some (.slice A2 (manyQ q m) c2) := hA1.cell 0
      have v1 : Y.cell? ⟨w.heap.size + 1, 1, none⟩ = some (.int .i64 n) := hA1.cell 1
      have v2 : Y.cell? ⟨w.heap.size + 1, 2, none⟩ = some (.bool (decide (manyQ q m < m))) := hA1.cell 2
      refine bodyPost_ret (v := .agg #[(.slice A2 (manyQ q m) c2), (.int .i64 n), (.bool (decide (manyQ q m < m)))]) ?_ rfl ?_
      · simp [results, Try.results10, go_sem, v0, v1, v2]
      rw [HSI.out]
      refine ⟨A2, manyQ q m, c2, rs, rfl, ?_, hrd, hkc, hA2, hold⟩
      rw [hm1, List.map_take, HP.out.2.2]
    · rw [hcount] at kc7
      have HSI : Hid (R = ([], n, false)) := by show _ = _; rw [← HRR.out]; unfold siftQ; rw [HBE.out, hcount, List.length_map, HLN.out]; rfl
      have HA := kept (set3_ok HR2.out HB2.out (Nat.le_succ _) (.slice none 0 0) (.int .i64 n) (.bool false))
      clear HBE HUN HLN HRR
      go_wp2_with fail
      obtain ⟨hA1, hA2⟩ := HA.out
      unfold set3 at hA1 hA2
      generalize ((w2.setCell ⟨w.heap.size + 1, 0, none⟩ (.slice none 0 0)).setCell ⟨w.heap.size + 1, 1, none⟩ (.int .i64 n)).setCell ⟨w.heap.size + 1, 2, none⟩ (.bool false) = Y at hA1 hA2 ⊢
      have v0 : Y.cell? ⟨w.heap.size + 1, 0, none⟩ = some (.slice none 0 0) := hA1.cell 0
      have v1 : Y.cell? ⟨w.heap.size + 1, 1, none⟩ = some (.int .i64 n) := hA1.cell 1
      have v2 : Y.cell? ⟨w.heap.size + 1, 2, none⟩ = some (.bool false) := hA1.cell 2
      refine bodyPost_ret (v := .agg #[(.slice none 0 0), (.int .i64 n), (.bool false)]) ?_ rfl ?_
      · simp [results, Try.results10, go_sem, v0, v1, v2]
      rw [HSI.out]
      exact ⟨none, 0, 0, [], rfl, rfl, RdKs.nil _ _, Nat.le_refl _, hA2, fun _ _ => RdKs.nil _ _⟩
end Go.Proofs.Ytepmamfbhocjjaa
end

section
/-
  Stage 14's laws' own calls: Few; the document's SameAll and Same, of records that are the same.
-/
namespace Go.Proofs.Ytepmamfbhocjjaa
open Go.ChangeShapes Go.WideShapes Go.ChangeAt Go.RowKit
set_option linter.unusedVariables false
set_option linter.unusedSimpArgs false

/-- What Few tells, if it is true. -/
def FewK (n : Nat) (ps : List (LayV × Kv)) : Prop := n ≤ 60 ∧ Unl (ps.map Prod.snd)
theorem unl_next {ps : List (LayV × Kv)} {j : Nat} (h : j < ps.length) (hu : Unl ((ps.take j).map Prod.snd)) (hn : ∀ t (ht : t < j), (ps[t]'(by omega)).2.key ≠ ps[j].2.key) : Unl ((ps.take (j + 1)).map Prod.snd) := by
  rw [List.take_succ_eq_append_getElem h, List.map_append, Unl, List.pairwise_append]
  refine ⟨hu, by simp, ?_⟩
  intro a ha b hb
  simp only [List.map_cons, List.map_nil, List.mem_singleton] at hb
  subst hb
  obtain ⟨p, hp, rfl⟩ := List.mem_map.1 ha
  obtain ⟨t, ht, rfl⟩ := List.mem_iff_getElem.1 hp
  rw [List.length_take] at ht
  rw [List.getElem_take]
  exact hn t (by omega)
/-- What Few answers. -/
def FewR (n : Nat) (ps : List (LayV × Kv)) (w : World) (e : Ending) (w' : World) : Prop := ∃ t : Bool, e = .returned (.bool t) ∧ (t = true → FewK n ps) ∧ Below w.heap.size w w'
set_option maxHeartbeats 2000000 in
set_option maxRecDepth 100000 in
theorem few_any (A : Option Addr) (n c : Nat) (ps : List (LayV × Kv)) (w : World) (h : RdKs w A n ps) (hn : n ≤ 140737488351232) :
    Calls Try.prog 8 #[.slice A n c] w (FewR n ps w) := by
  have HH := kept h
  have HLN := kept h.ln
  clear h
  by_cases h60 : n ≤ 60
  · have hd : ¬ (60 : Int) < (n : Int) := by omega
    have H0 : Hid (Below w.heap.size w w ∧ Unl ((ps.take 0).map Prod.snd)) := ⟨Below.refl _ _, by simp [Unl]⟩
    go_enter Try.func8, Try.ntmps8
    go_wp2
    go_loopg [11] n (fun kx s11 wr => ∃ j : Nat, s11 = .int .i64 j ∧ j ≤ n ∧ n - j ≤ kx ∧ Hid (Below w.heap.size w wr ∧ Unl ((ps.take j).map Prod.snd)))
    case atStart => exact ⟨0, rfl, Nat.zero_le _, Nat.le_refl _, H0⟩
    case round =>
      clear H0
      obtain ⟨j, rfl, hj, hkx, HI⟩ := hrel
      by_cases hjn : j < n
      · have hjn' : (j : Int) < (n : Int) := by omega
        have hjp : j < ps.length := by rw [HLN.out]; exact hjn
        obtain ⟨b, o, rfl, h0, h1, h2, h3, h4, h5⟩ := (HH.out.keeps (Keeps.of_below HI.out.1)).at_ j hjp
        have hbx := boxV_below wr ps[j].1 ps[j].2
        have HX1 : Hid (Six (boxV wr ps[j].1 ps[j].2) wr.heap.size ps[j].1 ps[j].2) := Six.new wr ps[j].1 ps[j].2
        have HB1 := kept (bel_to hbx HI.out.1)
        have HU := kept HI.out.2
        clear hbx HI
        by_cases hk : ps[j].1.kn ≤ 200
        · have hk' : ¬ (200 : Int) < (ps[j].1.kn : Int) := by omega
          by_cases hv : ps[j].1.vn ≤ 2000
          · have hv' : ¬ (2000 : Int) < (ps[j].1.vn : Int) := by omega
            go_wp2
            refine name_world (fun W1 hW1 => ?_)
            replace hW1 : W1 = boxV wr ps[j].1 ps[j].2 := hW1
            rw [← hW1] at HX1 HB1
            clear hW1 h0 h1 h2 h3 h4 h5 hk hk' hv hv'
            have HJP := kept hjp
            generalize wr.heap.size = gx at HX1 ⊢
            go_loopg [27] j (fun kx2 s27 wr2 => ∃ (k : Nat), s27 = .int .i64 k ∧ k ≤ j ∧ j - k ≤ kx2 ∧ Hid (Below w.heap.size w wr2 ∧ Six wr2 gx ps[j].1 ps[j].2) ∧ Hid (∀ t, t < k → ∀ (h1 : t < ps.length) (h2 : j < ps.length), ps[t].2.key ≠ ps[j].2.key))
            case atStart => exact ⟨0, rfl, Nat.zero_le _, Nat.le_refl _, ⟨HB1.out, HX1.out⟩, fun t ht => absurd ht (Nat.not_lt_zero _)⟩
            case round =>
              clear HB1 HX1
              obtain ⟨k, rfl, hkj, hkx2, HBX, HK⟩ := hrel
              by_cases hlt : k < j
              · have hltz : (k : Int) < (j : Int) := by omega
                have hkn : (k : Int) < (n : Int) := by omega
                have hkp : k < ps.length := by rw [HLN.out]; omega
                obtain ⟨b', o', e', g0, _⟩ := (HH.out.keeps (Keeps.of_below HBX.out.1)).at_ k hkp
                have e2 := Option.some.inj e'
                have eb : b = b' := congrArg Addr.block e2
                have eo : o = o' := congrArg Addr.off e2
                subst eb eo
                have x0 := HBX.out.2.cells.1
                have r1 := ((HH.out.rd ps[k] (List.getElem_mem hkp)).below HBX.out.1)
                have r2 := ((HH.out.rd ps[j] (List.getElem_mem hjp)).below HBX.out.1)
                obtain ⟨sb, hsb⟩ : ∃ sb, decide (ps[k].2.key = ps[j].2.key) = sb := ⟨_, rfl⟩
                have HS := fun q => kept (same_any ps[k].1.ka ps[j].1.ka ps[k].1.kn ps[j].1.kn ps[k].1.kc ps[j].1.kc ps[k].2.key ps[j].2.key (wr.drewN q) (r1.drewN q).key (r2.drewN q).key sb hsb)
                have HSB := kept hsb
                clear r1 r2 hsb e' e2
                go_wp2_with fail
                go_quiet ((go_at_call 15; exact Calls.quiet_of_same ((HS _).out.mono fun e w' h => ⟨h.1, h.2.symm⟩)))
                clear x0 g0 HS
                cases sb with
                | true =>
                  go_wp2
                  go_ret
                  exact ⟨false, rfl, fun h => absurd h (by decide), drewN_below HBX.out.1 nq⟩
                | false =>
                  go_wp2
                  go_roundg (j - (k + 1))
                  case measure => omega
                  case rel =>
                    refine ⟨k + 1, by go_num, hlt, Nat.le_refl _, ⟨drewN_below HBX.out.1 nq, HBX.out.2⟩, ?_⟩
                    intro t ht h1 h2
                    rcases Nat.lt_or_ge t k with h | h
                    · exact HK.out t h h1 h2
                    · obtain rfl : t = k := by omega
                      exact of_decide_eq_false HSB.out
              · have hltz : ¬ (k : Int) < (j : Int) := by omega
                obtain rfl : k = j := by omega
                go_wp2
                go_roundg (n - (k + 1))
                case measure => omega
                case rel => exact ⟨k + 1, by go_num, hjn, Nat.le_refl _, ⟨HBX.out.1, unl_next HJP.out HU.out (fun t ht => HK.out t ht _ HJP.out)⟩⟩
          · have hv' : (2000 : Int) < (ps[j].1.vn : Int) := by omega
            go_wp2
            go_ret
            exact ⟨false, rfl, fun h => absurd h (by decide), HB1.out⟩
        · have hk' : (200 : Int) < (ps[j].1.kn : Int) := by omega
          go_wp2
          go_ret
          exact ⟨false, rfl, fun h => absurd h (by decide), HB1.out⟩
      · have hjn' : ¬ (j : Int) < (n : Int) := by omega
        obtain rfl : j = n := by omega
        have hps : ps.take j = ps := List.take_of_length_le (by rw [HLN.out]; exact Nat.le_refl _)
        rw [hps] at HI
        clear hps
        go_wp2
        go_ret
        exact ⟨true, rfl, fun _ => ⟨h60, HI.out.2⟩, HI.out.1⟩
  · have hd : (60 : Int) < (n : Int) := by omega
    go_enter Try.func8, Try.ntmps8
    go_wp2
    go_ret
    exact ⟨false, rfl, fun h => absurd h (by decide), Below.refl _ _⟩
end Go.Proofs.Ytepmamfbhocjjaa
end

section
/-
  The document's SameAll and Same of results, of records that are the same; the fact that stage 14's laws begin with.
-/
namespace Go.Proofs.Ytepmamfbhocjjaa
open Go.ChangeShapes Go.WideShapes Go.ChangeAt Go.RowKit
set_option linter.unusedVariables false
set_option linter.unusedSimpArgs false

set_option maxHeartbeats 2000000 in
set_option maxRecDepth 100000 in
theorem sameAll_true (A B : Option Addr) (n c d : Nat) (ps rs : List (LayV × Kv)) (w : World) (h : RdKs w A n ps) (g : RdKs w B n rs) (he : ps.map Prod.snd = rs.map Prod.snd) (hn : n ≤ 140737488351232) :
    Calls Try.prog 11 #[.slice A n c, .slice B n d] w fun e w' => e = .returned (.bool true) ∧ Below w.heap.size w w' := by
  have HP := kept h
  have HR := kept g
  have HL := kept (And.intro h.ln g.ln)
  have HEQ := kept he
  have H0 : Hid (Below w.heap.size w w) := Below.refl _ _
  clear h g he
  go_enter Try.func11, Try.ntmps11
  go_wp2
  go_loopg [13] n (fun kx s13 wr => ∃ k : Nat, s13 = .int .i64 k ∧ k ≤ n ∧ n - k ≤ kx ∧ Hid (Below w.heap.size w wr))
  case atStart => exact ⟨0, rfl, Nat.zero_le _, Nat.le_refl _, H0⟩
  case round =>
    clear H0
    obtain ⟨k, rfl, hk, hkx, HB⟩ := hrel
    by_cases hlt : k < n
    · have hltz : (k : Int) < (n : Int) := by omega
      have hk1 : k < ps.length := by rw [HL.out.1]; exact hlt
      have hk2 : k < rs.length := by rw [HL.out.2]; exact hlt
      have heq : ps[k].2 = rs[k].2 := by
        have h1 : (ps.map Prod.snd)[k]'(by simpa using hk1) = (rs.map Prod.snd)[k]'(by simpa using hk2) := by simp only [HEQ.out]
        simpa using h1
      have ra := HP.out.rd ps[k] (List.getElem_mem hk1)
      have rb := HR.out.rd rs[k] (List.getElem_mem hk2)
      obtain ⟨b, o, rfl, a0, a1, a2, a3, a4, a5⟩ := (HP.out.keeps (Keeps.of_below HB.out)).at_ k hk1
      obtain ⟨b', o', rfl, b0, b1, b2, b3, b4, b5⟩ := (HR.out.keeps (Keeps.of_below HB.out)).at_ k hk2
      generalize ps[k] = p at a0 a1 a2 a3 a4 a5 ra heq
      generalize rs[k] = r at b0 b1 b2 b3 b4 b5 rb heq
      obtain ⟨⟨ka, kn, kc, va, vn, vc⟩, ⟨xk, xv, xc, xm, xe, xl⟩⟩ := p
      obtain ⟨⟨la, ln, lc, ua, un, uc⟩, ⟨yk, yv, yc, ym, ye, yl⟩⟩ := r
      dsimp only at a0 a1 a2 a3 a4 a5 ra b0 b1 b2 b3 b4 b5 rb heq
      have HC := fun W h g => kept (refSame_kv ⟨ka, kn, kc, va, vn, vc⟩ ⟨la, ln, lc, ua, un, uc⟩ ⟨xk, xv, xc, xm, xe, xl⟩ ⟨yk, yv, yc, ym, ye, yl⟩ W true (decide_eq_true heq) h g)
      have HRA := kept ((ra.below HB.out).drew)
      have HRB := kept ((rb.below HB.out).drew)
      have HC1 := HC wr.drew HRA.out HRB.out
      have HS : Hid ((wr.drew.cell? ⟨b, o + k * 6, none⟩ = some (.slice ka kn kc) ∧ wr.drew.cell? ⟨b, o + k * 6 + 1, none⟩ = some (.slice va vn vc) ∧ wr.drew.cell? ⟨b, o + k * 6 + 2, none⟩ = some (.int .i64 xc) ∧ wr.drew.cell? ⟨b, o + k * 6 + 3, none⟩ = some (.int .i64 xm) ∧ wr.drew.cell? ⟨b, o + k * 6 + 4, none⟩ = some (.int .i64 xe) ∧ wr.drew.cell? ⟨b, o + k * 6 + 5, none⟩ = some (.int .i64 xl)) ∧ (wr.drew.cell? ⟨b', o' + k * 6, none⟩ = some (.slice la ln lc) ∧ wr.drew.cell? ⟨b', o' + k * 6 + 1, none⟩ = some (.slice ua un uc) ∧ wr.drew.cell? ⟨b', o' + k * 6 + 2, none⟩ = some (.int .i64 yc) ∧ wr.drew.cell? ⟨b', o' + k * 6 + 3, none⟩ = some (.int .i64 ym) ∧ wr.drew.cell? ⟨b', o' + k * 6 + 4, none⟩ = some (.int .i64 ye) ∧ wr.drew.cell? ⟨b', o' + k * 6 + 5, none⟩ = some (.int .i64 yl))) := And.intro (And.intro a0 (And.intro a1 (And.intro a2 (And.intro a3 (And.intro a4 a5))))) (And.intro b0 (And.intro b1 (And.intro b2 (And.intro b3 (And.intro b4 b5)))))
      clear ra rb heq HC a0 a1 a2 a3 a4 a5 b0 b1 b2 b3 b4 b5
      go_wp2_with fail
      refine wp_region_held_drew (S := (fun W' => (W'.cell? ⟨b, o + k * 6, none⟩ = some (.slice ka kn kc) ∧ W'.cell? ⟨b, o + k * 6 + 1, none⟩ = some (.slice va vn vc) ∧ W'.cell? ⟨b, o + k * 6 + 2, none⟩ = some (.int .i64 xc) ∧ W'.cell? ⟨b, o + k * 6 + 3, none⟩ = some (.int .i64 xm) ∧ W'.cell? ⟨b, o + k * 6 + 4, none⟩ = some (.int .i64 xe) ∧ W'.cell? ⟨b, o + k * 6 + 5, none⟩ = some (.int .i64 xl)) ∧ (W'.cell? ⟨b', o' + k * 6, none⟩ = some (.slice la ln lc) ∧ W'.cell? ⟨b', o' + k * 6 + 1, none⟩ = some (.slice ua un uc) ∧ W'.cell? ⟨b', o' + k * 6 + 2, none⟩ = some (.int .i64 yc) ∧ W'.cell? ⟨b', o' + k * 6 + 3, none⟩ = some (.int .i64 ym) ∧ W'.cell? ⟨b', o' + k * 6 + 4, none⟩ = some (.int .i64 ye) ∧ W'.cell? ⟨b', o' + k * 6 + 5, none⟩ = some (.int .i64 yl)))) (by kernel_rfl) ?_ (fun hHeld => ?_)
      · ((try dsimp only); (first | with_reducible exact HS.out | with_reducible exact HS2.out))
      refine hand_take 0 (some 16) ?_ (by kernel_rfl) (by kernel_rfl) (by kernel_rfl) (by kernel_rfl) (by kernel_rfl) (fun _ _ _ h => h) ?_ (by assumption) ?_
      rotate_left
      · (intro o ho w hSw; (simp only [List.getElem?_toArray, List.getElem?_cons_succ, List.getElem?_cons_zero, Option.some.injEq] at ho); subst ho; (try dsimp only at hSw); go_simp; (first | done | with_reducible rfl))
      (try simp only [Act.put, List.setIfInBounds_toArray, List.set_cons_zero, List.set_cons_succ])
      refine hand_take 1 (some 17) ?_ (by kernel_rfl) (by kernel_rfl) (by kernel_rfl) (by kernel_rfl) (by kernel_rfl) (fun _ _ _ h => h) ?_ (by assumption) ?_
      rotate_left
      · (intro o ho w hSw; (simp only [List.getElem?_toArray, List.getElem?_cons_succ, List.getElem?_cons_zero, Option.some.injEq] at ho); subst ho; (try dsimp only at hSw); go_simp; (first | done | with_reducible rfl))
      (try simp only [Act.put, List.setIfInBounds_toArray, List.set_cons_zero, List.set_cons_succ])
      refine hand_take 2 (some 18) ?_ (by kernel_rfl) (by kernel_rfl) (by kernel_rfl) (by kernel_rfl) (by kernel_rfl) (fun _ _ _ h => h) ?_ (by assumption) ?_
      rotate_left
      · (intro o ho w hSw; (simp only [List.getElem?_toArray, List.getElem?_cons_succ, List.getElem?_cons_zero, Option.some.injEq] at ho); subst ho; (try dsimp only at hSw); go_simp; (first | done | with_reducible rfl))
      (try simp only [Act.put, List.setIfInBounds_toArray, List.set_cons_zero, List.set_cons_succ])
      refine hand_take 3 (some 19) ?_ (by kernel_rfl) (by kernel_rfl) (by kernel_rfl) (by kernel_rfl) (by kernel_rfl) (fun _ _ _ h => h) ?_ (by assumption) ?_
      rotate_left
      · (intro o ho w hSw; (simp only [List.getElem?_toArray, List.getElem?_cons_succ, List.getElem?_cons_zero, Option.some.injEq] at ho); subst ho; (try dsimp only at hSw); go_simp; (first | done | with_reducible rfl))
      (try simp only [Act.put, List.setIfInBounds_toArray, List.set_cons_zero, List.set_cons_succ])
      refine hand_take 4 (some 20) ?_ (by kernel_rfl) (by kernel_rfl) (by kernel_rfl) (by kernel_rfl) (by kernel_rfl) (fun _ _ _ h => h) ?_ (by assumption) ?_
      rotate_left
      · (intro o ho w hSw; (simp only [List.getElem?_toArray, List.getElem?_cons_succ, List.getElem?_cons_zero, Option.some.injEq] at ho); subst ho; (try dsimp only at hSw); go_simp; (first | done | with_reducible rfl))
      (try simp only [Act.put, List.setIfInBounds_toArray, List.set_cons_zero, List.set_cons_succ])
      refine hand_take 5 (some 21) ?_ (by kernel_rfl) (by kernel_rfl) (by kernel_rfl) (by kernel_rfl) (by kernel_rfl) (fun _ _ _ h => h) ?_ (by assumption) ?_
      rotate_left
      · (intro o ho w hSw; (simp only [List.getElem?_toArray, List.getElem?_cons_succ, List.getElem?_cons_zero, Option.some.injEq] at ho); subst ho; (try dsimp only at hSw); go_simp; (first | done | with_reducible rfl))
      (try simp only [Act.put, List.setIfInBounds_toArray, List.set_cons_zero, List.set_cons_succ])
      refine hand_take 6 (some 22) ?_ (by kernel_rfl) (by kernel_rfl) (by kernel_rfl) (by kernel_rfl) (by kernel_rfl) (fun _ _ _ h => h) ?_ (by assumption) ?_
      rotate_left
      · (intro o ho w hSw; (simp only [List.getElem?_toArray, List.getElem?_cons_succ, List.getElem?_cons_zero, Option.some.injEq] at ho); subst ho; (try dsimp only at hSw); go_simp; (first | done | with_reducible rfl))
      (try simp only [Act.put, List.setIfInBounds_toArray, List.set_cons_zero, List.set_cons_succ])
      refine hand_take 7 (some 23) ?_ (by kernel_rfl) (by kernel_rfl) (by kernel_rfl) (by kernel_rfl) (by kernel_rfl) (fun _ _ _ h => h) ?_ (by assumption) ?_
      rotate_left
      · (intro o ho w hSw; (simp only [List.getElem?_toArray, List.getElem?_cons_succ, List.getElem?_cons_zero, Option.some.injEq] at ho); subst ho; (try dsimp only at hSw); go_simp; (first | done | with_reducible rfl))
      (try simp only [Act.put, List.setIfInBounds_toArray, List.set_cons_zero, List.set_cons_succ])
      refine hand_ready 8 (by kernel_rfl) (by kernel_rfl) (fun o ho K hK => ?_)
      (simp only [List.getElem?_toArray, List.getElem?_cons_succ, List.getElem?_cons_zero, Option.some.injEq] at ho)
      subst ho
      go_simp
      (go_at_call 13; (with_reducible refine HC1.out.mono ?_); rintro e w2 ⟨rfl, hb2⟩; have HB2 : Hid (Below w.heap.size w w2) := kept ((drewN_below HB.out 1).trans (hb2.mono HB.out.size)); have HS2 := kept (And.intro (And.intro ((Keeps.of_below hb2).cell_ HS.out.1.1) (And.intro ((Keeps.of_below hb2).cell_ HS.out.1.2.1) (And.intro ((Keeps.of_below hb2).cell_ HS.out.1.2.2.1) (And.intro ((Keeps.of_below hb2).cell_ HS.out.1.2.2.2.1) (And.intro ((Keeps.of_below hb2).cell_ HS.out.1.2.2.2.2.1) ((Keeps.of_below hb2).cell_ HS.out.1.2.2.2.2.2)))))) (And.intro ((Keeps.of_below hb2).cell_ HS.out.2.1) (And.intro ((Keeps.of_below hb2).cell_ HS.out.2.2.1) (And.intro ((Keeps.of_below hb2).cell_ HS.out.2.2.2.1) (And.intro ((Keeps.of_below hb2).cell_ HS.out.2.2.2.2.1) (And.intro ((Keeps.of_below hb2).cell_ HS.out.2.2.2.2.2.1) ((Keeps.of_below hb2).cell_ HS.out.2.2.2.2.2.2))))))); clear hb2)
      (try go_wp2_with fail)
      refine hK.out _ _ ?_ (fun hHeld => ?_)
      · ((try dsimp only); (first | with_reducible exact HS.out | with_reducible exact HS2.out))
      clear hK K
      (try simp only [Act.put, List.setIfInBounds_toArray, List.set_cons_zero, List.set_cons_succ])
      refine hand_take 9 (some 25) ?_ (by kernel_rfl) (by kernel_rfl) (by kernel_rfl) (by kernel_rfl) (by kernel_rfl) (fun _ _ _ h => h) ?_ (by assumption) ?_
      rotate_left
      · (intro o ho w hSw; (simp only [List.getElem?_toArray, List.getElem?_cons_succ, List.getElem?_cons_zero, Option.some.injEq] at ho); subst ho; (try dsimp only at hSw); go_simp; (first | done | with_reducible rfl))
      (try simp only [Act.put, List.setIfInBounds_toArray, List.set_cons_zero, List.set_cons_succ])
      refine wpAnyH_done (by kernel_rfl) ?_ _
      go_wp2
      go_roundg (n - (k + 1))
      case measure => omega
      case rel => exact ⟨k + 1, by go_num, hlt, Nat.le_refl _, HB2.out⟩
    · have hltz : ¬ (k : Int) < (n : Int) := by omega
      go_wp2
      go_ret
      exact ⟨rfl, HB.out⟩
set_option maxHeartbeats 1000000 in
set_option maxRecDepth 100000 in
theorem sameRes_true (A B : Option Addr) (n c d : Nat) (i : Int) (m : Bool) (ps rs : List (LayV × Kv)) (w : World) (h : RdKs w A n ps) (g : RdKs w B n rs) (he : ps.map Prod.snd = rs.map Prod.snd) (hn : n ≤ 140737488351232) :
    Calls Try.prog 12 #[.agg #[.slice A n c, .int .i64 i, .bool m], .agg #[.slice B n d, .int .i64 i, .bool m]] w fun e w' => e = .returned (.bool true) ∧ Below w.heap.size w w' := by
  have hb0 : Below w.heap.size w ((w.alloc (.cells #[.slice A n c, .int .i64 i, .bool m] 30)).alloc (.cells #[.slice B n d, .int .i64 i, .bool m] 30)) := ((Below.refl _ w).alloc (Nat.le_refl _) _).alloc (by simp) _
  have s1 := (Blk.new w 30 #[.slice A n c, .int .i64 i, .bool m]).alloc (.cells #[.slice B n d, .int .i64 i, .bool m] 30)
  have s2 := Blk.new (w.alloc (.cells #[.slice A n c, .int .i64 i, .bool m] 30)) 30 #[.slice B n d, .int .i64 i, .bool m]
  rw [World.size_alloc] at s2
  have HC := kept (sameAll_true A B n c d ps rs _ (h.below hb0) (g.below hb0) he hn)
  have HB0 := kept hb0
  have H1 := kept s1
  have H2 := kept s2
  clear h g he hb0 s1 s2
  go_enter Try.func12, Try.ntmps12
  go_upto_region 1 with fail
  generalize (w.alloc (.cells #[.slice A n c, .int .i64 i, .bool m] 30)).alloc (.cells #[.slice B n d, .int .i64 i, .bool m] 30) = W1 at HC HB0 H1 H2 ⊢
  have a0 : W1.cell? ⟨w.heap.size, 0, none⟩ = some (.slice A n c) := H1.out.cell 0
  have a1 : W1.cell? ⟨w.heap.size, 1, none⟩ = some (.int .i64 i) := H1.out.cell 1
  have a2 : W1.cell? ⟨w.heap.size, 2, none⟩ = some (.bool m) := H1.out.cell 2
  have b0 : W1.cell? ⟨w.heap.size + 1, 0, none⟩ = some (.slice B n d) := H2.out.cell 0
  have b1 : W1.cell? ⟨w.heap.size + 1, 1, none⟩ = some (.int .i64 i) := H2.out.cell 1
  have b2 : W1.cell? ⟨w.heap.size + 1, 2, none⟩ = some (.bool m) := H2.out.cell 2
  have e1 : (i == i) = true := by simp
  have e2 : (m == m) = true := by simp
  go_wp2_with fail
  with_reducible refine HC.out.mono ?_
  rintro e w2 ⟨rfl, hb2⟩
  have HB2 := kept (bel_to hb2 HB0.out)
  clear hb2
  go_wp2
  go_ret
  exact ⟨by first | rfl | simp, HB2.out⟩
end Go.Proofs.Ytepmamfbhocjjaa
end

section
/-
  Stage 14's laws: the fact that each begins with.
-/
namespace Go.Proofs.Ytepmamfbhocjjaa
open Go.ChangeShapes Go.WideShapes Go.ChangeAt Go.RowKit
set_option linter.unusedVariables false
set_option linter.unusedSimpArgs false
def livesQ : Qy := ⟨1, 2, 0, 0, 0, 0, true, false, false⟩
def livesK : List Kv := [⟨[97], [], 0, 0, 3, 0⟩, ⟨[98], [], 0, 0, 1, 0⟩, ⟨[99], [], 0, 0, 3, 0⟩]
theorem livesS : siftQ livesQ livesK = ([⟨[99], [], 0, 0, 3, 0⟩, ⟨[97], [], 0, 0, 3, 0⟩], 3, true) := by decide +kernel
theorem conv_g (w : World) (C : Array Value) (n c g : Nat) (hg : g = w.heap.size) : (convert 22 22 (.slice (some ⟨g, 0, none⟩) n c)).run Try.prog (w.alloc (.cells C 5)) = .ok (.slice (some ⟨g, 0, none⟩) n c) (w.alloc (.cells C 5 (C.size, C.size + 1))) := by
  subst hg
  exact conv_lit w C n c
abbrev lvA (w : World) : World := w.alloc (.cells #[.int .u8 97] 5 (1, 2))
abbrev lvB (w : World) : World := (lvA w).alloc (.cells #[.int .u8 98] 5 (1, 2))
abbrev lvC (w : World) : World := (lvB w).alloc (.cells #[.int .u8 99] 5 (1, 2))
abbrev lvD (w : World) : World := (lvC w).alloc (.cells #[.slice (some ⟨w.heap.size, 0, none⟩) 1 1, .slice none 0 0, .int .i64 0, .int .i64 0, .int .i64 3, .int .i64 0, .slice (some ⟨w.heap.size + 1, 0, none⟩) 1 1, .slice none 0 0, .int .i64 0, .int .i64 0, .int .i64 1, .int .i64 0, .slice (some ⟨w.heap.size + 1 + 1, 0, none⟩) 1 1, .slice none 0 0, .int .i64 0, .int .i64 0, .int .i64 3, .int .i64 0] 37)
def lvP (w : World) : List (LayV × Kv) := [(⟨some ⟨w.heap.size, 0, none⟩, 1, 1, none, 0, 0⟩, ⟨[97], [], 0, 0, 3, 0⟩), (⟨some ⟨w.heap.size + 1, 0, none⟩, 1, 1, none, 0, 0⟩, ⟨[98], [], 0, 0, 1, 0⟩), (⟨some ⟨w.heap.size + 1 + 1, 0, none⟩, 1, 1, none, 0, 0⟩, ⟨[99], [], 0, 0, 3, 0⟩)]
theorem lv_rd (w : World) : RdKs (lvD w) (some ⟨w.heap.size + 1 + 1 + 1, 0, none⟩) 3 (lvP w) ∧ Below w.heap.size w (lvD w) := by
  have hb : Below w.heap.size w (lvD w) := (((((Below.refl w.heap.size w).alloc (Nat.le_refl _) _).alloc (by simp) _).alloc (by simp <;> omega) _).alloc (by simp <;> omega) _)
  have hD := Blk.new (lvC w) 37 #[.slice (some ⟨w.heap.size, 0, none⟩) 1 1, .slice none 0 0, .int .i64 0, .int .i64 0, .int .i64 3, .int .i64 0, .slice (some ⟨w.heap.size + 1, 0, none⟩) 1 1, .slice none 0 0, .int .i64 0, .int .i64 0, .int .i64 1, .int .i64 0, .slice (some ⟨w.heap.size + 1 + 1, 0, none⟩) 1 1, .slice none 0 0, .int .i64 0, .int .i64 0, .int .i64 3, .int .i64 0]
  have hs : (lvC w).heap.size = w.heap.size + 1 + 1 + 1 := by simp [lvC, lvB, lvA]
  rw [hs] at hD
  have s1 : (lvA w).heap.size = w.heap.size + 1 := by simp [lvA]
  have s2 : (lvB w).heap.size = w.heap.size + 1 + 1 := by simp [lvB, lvA]
  have k1 : Rd (lvD w) (some ⟨w.heap.size, 0, none⟩) 1 [97] := (((Rd.marked w 5 [97] (1, 2)).alloc _).alloc _).alloc _
  have k2 : Rd (lvD w) (some ⟨w.heap.size + 1, 0, none⟩) 1 [98] := by
    have := (Rd.marked (lvA w) 5 [98] (1, 2))
    rw [s1] at this
    exact (this.alloc _).alloc _
  have k3 : Rd (lvD w) (some ⟨w.heap.size + 1 + 1, 0, none⟩) 1 [99] := by
    have := (Rd.marked (lvB w) 5 [99] (1, 2))
    rw [s2] at this
    exact this.alloc _
  refine ⟨⟨rfl, fun i hi => ?_, fun p hp => ?_⟩, hb⟩
  · refine ⟨_, 0, rfl, ?_⟩
    match i, hi with
    | 0, _ => exact ⟨hD.cell 0, hD.cell 1, hD.cell 2, hD.cell 3, hD.cell 4, hD.cell 5⟩
    | 1, _ => exact ⟨hD.cell 6, hD.cell 7, hD.cell 8, hD.cell 9, hD.cell 10, hD.cell 11⟩
    | 2, _ => exact ⟨hD.cell 12, hD.cell 13, hD.cell 14, hD.cell 15, hD.cell 16, hD.cell 17⟩
  · simp only [lvP, List.mem_cons, List.not_mem_nil, or_false] at hp
    rcases hp with rfl | rfl | rfl
    · exact ⟨k1, Rd.nil_ _ _, Nat.le_refl _, Nat.le_refl _, by simp, by simp⟩
    · exact ⟨k2, Rd.nil_ _ _, Nat.le_refl _, Nat.le_refl _, by simp, by simp⟩
    · exact ⟨k3, Rd.nil_ _ _, Nat.le_refl _, Nat.le_refl _, by simp, by simp⟩
theorem lv_unl (w : World) : Unl ((lvP w).map Prod.snd) := by
  show Unl livesK
  simp [livesK, Unl]
set_option maxHeartbeats 2000000 in
set_option maxRecDepth 100000 in
theorem lives_any (w : World) : Calls Try.prog 7 #[] w fun e w' => e = .returned (.bool true) ∧ Below w.heap.size w w' := by
  obtain ⟨hr, hb⟩ := lv_rd w
  have hc := sift_any ⟨none, 0, 0, none, 0, 0, 0⟩ livesQ (some ⟨w.heap.size + 1 + 1 + 1, 0, none⟩) 3 3 (lvP w) (lvD w) hr (by decide) (lv_unl w)
  rw [show (lvP w).map Prod.snd = livesK from rfl, livesS] at hc
  have HC := kept hc
  have HB := kept hb
  clear hr hb hc
  go_enter Try.func7, Try.ntmps7
  have kc := fun w => conv_lit w #[.int .u8 97] 1 1
  have kd := conv_g (w.alloc (.cells #[.int .u8 97] 5 (1, 2))) #[.int .u8 98] 1 1 (w.heap.size + 1) (by simp)
  have ke := conv_g ((w.alloc (.cells #[.int .u8 97] 5 (1, 2))).alloc (.cells #[.int .u8 98] 5 (1, 2))) #[.int .u8 99] 1 1 (w.heap.size + 1 + 1) (by simp)
  go_wp2_with fail
  refine HC.out.mono ?_
  clear kc kd ke HC
  rintro e w1 ⟨A', k, c', ps', rfl, hm, hrd, hkc, hb1, _⟩
  have HB1 := kept (bel_to hb1 HB.out)
  have hl := congrArg List.length hm
  simp only [List.length_map, List.length_cons, List.length_nil] at hl
  have hk2 : k = 2 := by rw [← hrd.ln, hl]
  subst hk2
  obtain ⟨p, p2, rfl⟩ : ∃ p p2, ps' = [p, p2] := by
    match ps', hl with
    | [p, p2], _ => exact ⟨p, p2, rfl⟩
  obtain ⟨L, x⟩ := p
  simp only [List.map_cons, List.map_nil, List.cons.injEq, and_true] at hm
  obtain ⟨rfl, _⟩ := hm
  have hb2 : Below w.heap.size w (w1.alloc (.cells #[.slice A' 2 c', .int .i64 3, .bool true] 30)) := bel_to ((Below.refl _ w1).alloc (Nat.le_refl _) _) HB1.out
  have hba := (Below.refl w1.heap.size w1).alloc (Nat.le_refl _) (.cells #[.slice A' 2 c', .int .i64 3, .bool true] 30)
  obtain ⟨b, o, rfl, h0, _⟩ := (hrd.below hba).at_ 0 (by simp)
  have hs := (hrd.below hba).rd _ (List.mem_cons_self ..)
  have c1 := hs.key.string (P := Try.prog) L.kc 22 5 9 Try.underlying22 Try.underlying5 Try.underlying9
  have hr1 := Blk.new w1 30 #[.slice (some ⟨b, o, none⟩) 2 c', .int .i64 3, .bool true]
  have r0 : (w1.alloc (.cells #[.slice (some ⟨b, o, none⟩) 2 c', .int .i64 3, .bool true] 30)).cell? ⟨w1.heap.size, 0, none⟩ = some (.slice (some ⟨b, o, none⟩) 2 c') := hr1.cell 0
  have HB2 := kept hb2
  clear hrd hb1 hba hs hr1 hb2 HB HB1
  dsimp only [List.getElem_cons_zero] at h0 c1
  rw [Nat.zero_mul, Nat.add_zero] at h0
  obtain ⟨ka, kn, kc, va, vn, vc⟩ := L
  dsimp only at h0 c1
  rw [show strOf [99] = ⟨#[99]⟩ from rfl] at c1
  go_wp2
  go_ret
  exact ⟨rfl, HB2.out⟩
end Go.Proofs.Ytepmamfbhocjjaa
end

section
/-
  A result in a box of the law's own, while elder boxes and newer blocks turn.
-/
namespace Go.Proofs.Ytepmamfbhocjjaa
open Go.ChangeShapes Go.WideShapes Go.ChangeAt Go.RowKit
set_option linter.unusedVariables false
set_option linter.unusedSimpArgs false
structure OutS (B : Nat) (w : World) (g : Nat) (A : Option Addr) (k c : Nat) (i : Int) (m : Bool) (ps : List (LayV × Kv)) : Prop where
  blk : Blk w g 30 [.slice A k c, .int .i64 i, .bool m]
  rd : RdKs w A k ps
  old : ∀ W', Turned w W' (fun j => j < B) → RdKs W' A k ps
  le : B ≤ g
section
variable {B : Nat} {w w' : World} {g : Nat} {A : Option Addr} {k c : Nat} {i : Int} {m : Bool} {ps : List (LayV × Kv)}
theorem OutS.below (h : OutS B w g A k c i m ps) (hb : Below w.heap.size w w') : OutS B w' g A k c i m ps :=
  ⟨Blk.below h.blk hb h.blk.lt, h.rd.below hb, fun W' t => h.old W' ((Turned.of_below hb _).trans t), h.le⟩
theorem OutS.set (h : OutS B w g A k c i m ps) {j : Nat} (hj : j < B) (x : Nat) (v : Value) : OutS B (w.setCell ⟨j, x, none⟩ v) g A k c i m ps := by
  have ht : Turned w (w.setCell ⟨j, x, none⟩ v) (fun j => j < B) := (Turned.refl w _).setCell (p := ⟨j, x, none⟩) (fun _ => hj) v
  have hne : g ≠ j := by have := h.le; omega
  exact ⟨ht.blk h.blk (by have := h.le; omega), h.old _ ht, fun W' t => h.old W' (ht.trans t), h.le⟩
theorem OutS.new {B0 : Nat} (rd : RdKs w A k ps) (old : ∀ W', Turned w W' (fun j => j < B0) → RdKs W' A k ps) (hB : B ≤ B0) (hB2 : B ≤ w.heap.size) (c : Nat) (i : Int) (m : Bool) : OutS B (w.alloc (.cells #[.slice A k c, .int .i64 i, .bool m] 30)) w.heap.size A k c i m ps := by
  have hb := (Below.refl w.heap.size w).alloc (Nat.le_refl _) (.cells #[.slice A k c, .int .i64 i, .bool m] 30)
  exact ⟨Blk.new w 30 #[.slice A k c, .int .i64 i, .bool m], rd.below hb, fun W' t => old W' ((Turned.of_below hb _).trans (t.mono (fun j _ e => Nat.lt_of_lt_of_le e hB))), hB2⟩
theorem OutS.c0 (h : OutS B w g A k c i m ps) : w.cell? ⟨g, 0, none⟩ = some (.slice A k c) := h.blk.cell 0
theorem OutS.c1 (h : OutS B w g A k c i m ps) : w.cell? ⟨g, 1, none⟩ = some (.int .i64 i) := h.blk.cell 1
theorem OutS.c2 (h : OutS B w g A k c i m ps) : w.cell? ⟨g, 2, none⟩ = some (.bool m) := h.blk.cell 2
end
end Go.Proofs.Ytepmamfbhocjjaa
end

section
/-
  Two boxes of queries, and results in boxes that come up in any order.
-/
namespace Go.Proofs.Ytepmamfbhocjjaa
open Go.ChangeShapes Go.WideShapes Go.ChangeAt Go.RowKit
set_option linter.unusedVariables false
set_option linter.unusedSimpArgs false
/-- The law's own query, and another one, stand in their boxes. -/
structure StD (W w : World) (qb : Nat) (L : LayQ) (q q2 : Qy) : Prop where
  bel : Below W.heap.size W w
  qa : QyB w W.heap.size L q
  qb_ : QyB w qb L q2
  le : W.heap.size ≤ qb
section
variable {W w w' : World} {qb g : Nat} {L : LayQ} {q q2 : Qy}
theorem StD.below (h : StD W w qb L q q2) (hb : Below w.heap.size w w') : StD W w' qb L q q2 := ⟨bel_to hb h.bel, h.qa.below_ hb h.qa.lt, h.qb_.below_ hb h.qb_.lt, h.le⟩
theorem StD.reg (h : StD W w qb L q q2) : (w.cell? ⟨W.heap.size, 0, none⟩ = some (.slice L.ka L.kn L.kc) ∧ w.cell? ⟨W.heap.size, 1, none⟩ = some (.slice L.ea L.en L.ec) ∧ w.cell? ⟨W.heap.size, 2, none⟩ = some (.int .i64 L.at_) ∧ w.cell? ⟨W.heap.size, 3, none⟩ = some (.int .i64 q.limit) ∧ w.cell? ⟨W.heap.size, 4, none⟩ = some (.int .i64 q.sort) ∧ w.cell? ⟨W.heap.size, 5, none⟩ = some (.bool q.desc) ∧ w.cell? ⟨W.heap.size, 6, none⟩ = some (.bool q.keys) ∧ w.cell? ⟨W.heap.size, 7, none⟩ = some (.bool q.count) ∧ w.cell? ⟨W.heap.size, 8, none⟩ = some (.int .i64 q.m0) ∧ w.cell? ⟨W.heap.size, 9, none⟩ = some (.int .i64 q.m1) ∧ w.cell? ⟨W.heap.size, 10, none⟩ = some (.int .i64 q.c0) ∧ w.cell? ⟨W.heap.size, 11, none⟩ = some (.int .i64 q.c1)) ∧ (w.cell? ⟨qb, 0, none⟩ = some (.slice L.ka L.kn L.kc) ∧ w.cell? ⟨qb, 1, none⟩ = some (.slice L.ea L.en L.ec) ∧ w.cell? ⟨qb, 2, none⟩ = some (.int .i64 L.at_) ∧ w.cell? ⟨qb, 3, none⟩ = some (.int .i64 q2.limit) ∧ w.cell? ⟨qb, 4, none⟩ = some (.int .i64 q2.sort) ∧ w.cell? ⟨qb, 5, none⟩ = some (.bool q2.desc) ∧ w.cell? ⟨qb, 6, none⟩ = some (.bool q2.keys) ∧ w.cell? ⟨qb, 7, none⟩ = some (.bool q2.count) ∧ w.cell? ⟨qb, 8, none⟩ = some (.int .i64 q2.m0) ∧ w.cell? ⟨qb, 9, none⟩ = some (.int .i64 q2.m1) ∧ w.cell? ⟨qb, 10, none⟩ = some (.int .i64 q2.c0) ∧ w.cell? ⟨qb, 11, none⟩ = some (.int .i64 q2.c1)) := ⟨h.qa.all, h.qb_.all⟩
abbrev zR : List Value := [.slice none 0 0, .int .i64 0, .bool false]
theorem zr_new {X : World} (h : X = w.alloc (.cells #[.slice none 0 0, .int .i64 0, .bool false] 30)) : Below w.heap.size w X ∧ Blk X w.heap.size 30 zR := by
  subst h
  exact ⟨(Below.refl w.heap.size w).alloc (Nat.le_refl _) _, Blk.new w 30 #[.slice none 0 0, .int .i64 0, .bool false]⟩
theorem res_ne {t t' : TypeId} {cs cs' : List Value} {a b : Nat} (h : Blk w a t cs) (h' : Blk w b t' cs') (ht : t ≠ t') : a ≠ b := by
  rintro rfl
  unfold Blk at h h'
  rw [h] at h'
  injection h' with h'
  injection h' with _ h' _
  exact ht h'
theorem StD.set (h : StD W w qb L q q2) {cs : List Value} (hg : Blk w g 30 cs) (hl : W.heap.size ≤ g) {X : World} {u0 u1 u2 : Value} (hX : X = set3 w g u0 u1 u2) : StD W X qb L q q2 := by
  subst hX
  have ht := set3_turned w g u0 u1 u2
  exact ⟨Turned.only_new h.bel ht h.bel.size (fun i hi => by rw [hi]; exact hl), ht.blk h.qa (res_ne h.qa hg (by decide)), ht.blk h.qb_ (res_ne h.qb_ hg (by decide)), h.le⟩
theorem zr_set (hg : Blk w g 30 zR) {X : World} {u0 u1 u2 : Value} (hX : X = set3 w g u0 u1 u2) : Blk X g 30 [u0, u1, u2] := by
  subst hX
  exact ((Blk.set_ hg 0 u0).set_ 1 u1).set_ 2 u2
theorem zr_far {cs : List Value} {b : Nat} (hb : Blk w b 30 cs) (hne : b ≠ g) {X : World} {u0 u1 u2 : Value} (hX : X = set3 w g u0 u1 u2) : Blk X b 30 cs := by
  subst hX
  exact (set3_turned w g u0 u1 u2).blk hb hne
theorem zr_rd {A : Option Addr} {n : Nat} {ps : List (LayV × Kv)} (h : RdKs w A n ps) (hg : Blk w g 30 zR) {X : World} {u0 u1 u2 : Value} (hX : X = set3 w g u0 u1 u2) : RdKs X A n ps := by
  subst hX
  exact set3_rd h hg u0 u1 u2
end
end Go.Proofs.Ytepmamfbhocjjaa
end
