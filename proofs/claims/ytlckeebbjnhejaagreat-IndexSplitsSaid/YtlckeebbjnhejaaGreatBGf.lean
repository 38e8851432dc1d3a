/-
  Texts laid together: Gf Gg.
-/
import Derived.Test.YtlckeebbjnhejaaGreatBGc
import Derived.Test.YtlckeebbjnhejaaGreatBDown
import Derived.RangeFuncNested
import Derived.RangeFuncBound
import Derived.RangeFuncCalls
import Derived.RangeFuncLeaves
import Derived.RangeFuncBox
import Derived.Shelf.Abstract
import Derived.Shelf.RegionOpen
import Derived.OwnWalkIn
import Derived.TacticsInMore
import Derived.LoopNIn
import Derived.LoopIn
section
/-
  package gens: slices.Backward over generations; endedBelow, upTo.
-/
namespace Go.Proofs.YtlckeebbjnhejaaGreat
open Go.ChangeShapes Go.WideShapes Go.ChangeAt Go.RowKit
set_option linter.unusedVariables false
set_option linter.unusedSimpArgs false
attribute [local go_sem] Oper.semAt_some
/-- A generation, as a value. -/
abbrev gnV (t : Nat → Value) : Value := .agg #[t 0, t 1, t 2, t 3, t 4]
set_option maxRecDepth 100000 in
set_option maxHeartbeats 1000000 in
theorem gback_in (F : Fence) (n : Nat) (hf : F.fn 126) (hro : F.round = none) (hn : 1 ≤ n) (l Bs b o len cap : Nat) (A : Option Addr) (hA : 0 < len → A = some ⟨b, o, none⟩) (T : Nat → Nat → Value) (hlen : len ≤ 1000000) (J Jx : List Nat → World → Prop)
    (hY : ∀ pre (x : Nat) W, J pre W → x < len → pre.length < len → YieldAt F (n - 1) Tryz.prog l #[.int .i64 (x : Int), gnV (T x)] W fun e W' =>
      (e = .returned (.bool true) ∧ J (pre ++ [x]) W' ∧ Two2 Bs b W W') ∨ (e = .returned (.bool false) ∧ Jx (pre ++ [x]) W'))
    (W : World) (hBs : W.cell? ⟨Bs, 0, none⟩ = some (.slice A len cap)) (hc : ∀ j, j < len → ∀ i, i < 5 → W.cell? ⟨b, o + j * 5 + i, none⟩ = some (T j i)) (h0 : J [] W) :
    CallsIn F n Tryz.prog 126 #[.func (.yield l) #[] #[], .pointer (some ⟨Bs, 0, none⟩)] W fun e W' => (∃ v, e = .returned v) ∧
      ((∃ ys, ys = downTo len 0 ∧ J ys W') ∨ (∃ pre, (∃ q, q ≤ len ∧ pre = downTo len q) ∧ Jx pre W')) := by
  have h0' : J (downTo len len) W := by rw [downTo_self]; exact h0
  refine callsIn_of_wp Tryz.func126 rfl hf ?_ hro
  simp only [Tryz.ntmps126, List.size_toArray, List.length_cons, List.length_nil, Nat.reduceAdd, Nat.reduceSub, Array.replicate_succ, Array.replicate_zero, List.push_toArray, List.append_toArray, List.nil_append, List.cons_append]
  gi_wp2
  gi_loopw [3] (fun i wr => ∃ q : Nat, q ≤ len ∧ i = .int .i64 ((q : Int) - 1) ∧ J (downTo len q) wr ∧ Two2 Bs b W wr) (fun i _ => (intOf i + 1).toNat)
  case atStart => exact ⟨len, Nat.le_refl _, rfl, h0', rfl, rfl⟩
  case round =>
    obtain ⟨q, hq, rfl, hJs, hk⟩ := hrel
    have hbs := (hk.c (p := ⟨Bs, 0, none⟩) (.inl rfl)).trans hBs
    cases q with
    | zero =>
      gi_wp2
      go_end0
      exact ⟨⟨_, rfl⟩, .inl ⟨_, rfl, hJs⟩⟩
    | succ q =>
      have hA' := hA (by omega)
      subst hA'
      have hcx0 : wr.cell? ⟨b, o + q * 5, none⟩ = some (T q 0) := (hk.c (p := ⟨b, o + q * 5 + 0, none⟩) (.inr rfl)).trans (hc q (by omega) 0 (by decide))
      have hcx1 : wr.cell? ⟨b, o + q * 5 + 1, none⟩ = some (T q 1) := (hk.c (p := ⟨b, o + q * 5 + 1, none⟩) (.inr rfl)).trans (hc q (by omega) 1 (by decide))
      have hcx2 : wr.cell? ⟨b, o + q * 5 + 2, none⟩ = some (T q 2) := (hk.c (p := ⟨b, o + q * 5 + 2, none⟩) (.inr rfl)).trans (hc q (by omega) 2 (by decide))
      have hcx3 : wr.cell? ⟨b, o + q * 5 + 3, none⟩ = some (T q 3) := (hk.c (p := ⟨b, o + q * 5 + 3, none⟩) (.inr rfl)).trans (hc q (by omega) 3 (by decide))
      have hcx4 : wr.cell? ⟨b, o + q * 5 + 4, none⟩ = some (T q 4) := (hk.c (p := ⟨b, o + q * 5 + 4, none⟩) (.inr rfl)).trans (hc q (by omega) 4 (by decide))
      obtain ⟨i, hi⟩ : ∃ i : Int, ((q + 1 : Nat) : Int) - 1 = i := ⟨_, rfl⟩
      obtain rfl : i = (q : Int) := by omega
      rw [hi]
      clear hi
      obtain ⟨fn, tmps, assign, body, hy, hR⟩ := hY _ q wr hJs (by omega) (by rw [downTo_length]; omega)
      have hst := downTo_step (len := len) (q := q) (by omega)
      gi_wp2
      refine hR.mono ?_
      rintro e W3 (⟨rfl, hJ3, hk3⟩ | ⟨rfl, hJx3⟩)
      · rw [← hst] at hJ3
        clear hst hy hR hY
        gi_wp2
        go_roundw
        case rel => exact ⟨q, by omega, rfl, hJ3, hk.t hk3⟩
        case measure => simp [intOf]
      · rw [← hst] at hJx3
        clear hst hy hR hY
        gi_wp2
        refine bodyPost_ret (results_none rfl _ _ _) rfl ?_
        exact ⟨⟨_, rfl⟩, .inr ⟨_, ⟨q, by omega, rfl⟩, hJx3⟩⟩
/-- The iterator's word, where the body knows that an index is one. -/
theorem gback_stops (F : Fence) (n : Nat) (hf : F.fn 126) (hro : F.round = none) (hn : 1 ≤ n) (Bs b o len cap : Nat) (A : Option Addr) (hA : 0 < len → A = some ⟨b, o, none⟩) (T : Nat → Nat → Value) (hlen : len ≤ 1000000) (w : World) (h1 : w.cell? ⟨Bs, 0, none⟩ = some (.slice A len cap)) (hc : ∀ j, j < len → ∀ i, i < 5 → w.cell? ⟨b, o + j * 5 + i, none⟩ = some (T j i)) :
    SeqStopsK F n Tryz.prog 126 #[.pointer (some ⟨Bs, 0, none⟩)] (fun x : { x : Nat // x < len } => #[.int .i64 (x.1 : Int), gnV (T x.1)]) (Two2 Bs b) (fun ys => ys.map (·.1) = downTo len 0) (fun pre => ∃ q, q ≤ len ∧ pre.map (·.1) = downTo len q) len w := fun l J Jx W hW _ _ hY h0 => by
  have := gback_in F n hf hro hn l Bs b o len cap A hA T hlen (fun pre W => ∃ pre' : List { x : Nat // x < len }, pre'.map (·.1) = pre ∧ J pre' W) (fun pre W => ∃ pre' : List { x : Nat // x < len }, pre'.map (·.1) = pre ∧ Jx pre' W) (fun pre x W1 hj hx hl => by
      obtain ⟨pre', e, hj⟩ := hj
      have hl' : pre'.length < len := by rw [← e, List.length_map] at hl; exact hl
      refine (hY pre' ⟨x, hx⟩ W1 hj hl').mono ?_
      rintro e2 W' (⟨he, h2, h3⟩ | ⟨he, h2⟩)
      · exact .inl ⟨he, ⟨pre' ++ [⟨x, hx⟩], by rw [List.map_append, e]; rfl, h2⟩, h3⟩
      · exact .inr ⟨he, pre' ++ [⟨x, hx⟩], by rw [List.map_append, e]; rfl, h2⟩) W ((Keeps.of_below hW).cell_ h1) (fun j hj i hi => (Keeps.of_below hW).cell_ (hc j hj i hi)) ⟨[], rfl, h0⟩
  refine this.mono ?_
  rintro e W' ⟨hv, hh⟩
  refine ⟨hv, ?_⟩
  rcases hh with ⟨ys, rfl, pre', e1, hj⟩ | ⟨pre, ⟨q, hq, rfl⟩, pre', e1, hj⟩
  · exact .inl ⟨pre', e1, hj⟩
  · exact .inr ⟨pre', ⟨q, hq, e1⟩, hj⟩
end Go.Proofs.YtlckeebbjnhejaaGreat
end

section
/-
  package gens: endedBelow, upTo.
-/
namespace Go.Proofs.YtlckeebbjnhejaaGreat
open Go.ChangeShapes Go.WideShapes Go.ChangeAt Go.RowKit
set_option linter.unusedVariables false
set_option linter.unusedSimpArgs false
attribute [local go_sem] Oper.semAt_some
/-- One cell of a generation. -/
def gnCell (Ls : List GL) (j i : Nat) : Value := match Ls[j]?, i with
  | some L, 0 => .int .i64 L.c
  | some L, 1 => .int .i64 L.v
  | some L, 2 => .slice L.A L.n L.k
  | some L, 3 => .int .i64 L.e.1
  | some L, 4 => .int .i64 L.e.2
  | _, _ => undef
theorem gbackF_any (A : Option Addr) (n c : Nat) (w : World) :
    Calls Tryz.prog 106 #[.slice A n c] w fun e w' => e = .returned (.func (.func 126) #[] #[.pointer (some ⟨w.heap.size, 0, none⟩)]) ∧ w.alloc (.cells #[.slice A n c] 100) = w' := by
  go_enter Tryz.func106, Tryz.ntmps106
  go_wp2
  go_ret
  exact ⟨rfl, rfl⟩
set_option maxRecDepth 100000 in
set_option maxHeartbeats 4000000 in
theorem endedB_any {w : World} {r : Nat} {A : Option Addr} {n k : Nat} {Ls : List GL} {gs : List Gn} (h : GsL w r A n k Ls gs) (hi : GInv gs) (b : Rv) (hn : n ≤ 1000000) :
    Calls Tryz.prog 76 #[.pointer (some ⟨r, 0, none⟩), .agg #[.int .i64 b.1, .int .i64 b.2]] w fun e w' => e = .returned (.int .i64 (ebl gs b : Int)) ∧ Below w.heap.size w w' := by
  have hB0 := ((Below.refl w.heap.size w).alloc (Nat.le_refl _) (.cells #[.int .i64 b.1, .int .i64 b.2] 29)).alloc (by simp) (.cells #[.int .i64 0] 3)
  have H := kept (h.below hB0)
  have hr := (h.below hB0).box.cell 0
  have HT := kept ((two_new w 29 b.1 b.2).keeps (Keeps.alloc _ (.cells #[.int .i64 0] 3)))
  have HK := kept (Blk.new (w.alloc (.cells #[.int .i64 b.1, .int .i64 b.2] 29)) 3 #[.int .i64 0])
  rw [World.size_alloc] at HK
  refine (callsIn_wide (n := 30)).1 ?_
  refine callsIn_of_wp_marks Tryz.func76 rfl trivial ?_ rfl
  simp only [Tryz.ntmps76, List.size_toArray, List.length_cons, List.length_nil, Nat.reduceAdd, Nat.reduceSub, Array.replicate_succ, Array.replicate_zero, List.push_toArray, List.append_toArray, List.nil_append, List.cons_append]
  have ht1 : Fence.wide.fn 106 := trivial
  have ht2 : Fence.wide.fn 78 := trivial
  have ht3 : Fence.wide.fn 32 := trivial
  have HB := kept hB0
  clear hB0 h
  gi_wp2_with fail
  generalize (w.alloc (.cells #[.int .i64 b.1, .int .i64 b.2] 29)).alloc (.cells #[.int .i64 0] 3) = W6 at H hr HT HK HB ⊢
  refine (callsIn_wide.2 (gbackF_any _ _ _ _)).mono ?_
  rintro e w7 ⟨rfl, rfl⟩
  have hb7 : Below W6.heap.size W6 (W6.alloc (.cells #[.slice A n k] 100)) := (Below.refl _ W6).alloc (Nat.le_refl _) _
  have hbs : Blk (W6.alloc (.cells #[.slice A n k] 100)) W6.heap.size 100 [.slice A n k] := Blk.new W6 100 #[.slice A n k]
  have hw7 : (W6.alloc (.cells #[.slice A n k] 100)).heap.size = W6.heap.size + 1 := World.size_alloc _ _
  gi_wp2_with fail
  generalize (W6.alloc (.cells #[.slice A n k] 100)) = W7 at hb7 hbs hw7 ⊢
  have h7 := H.out.below hb7
  obtain ⟨g0, hA, hg7⟩ : ∃ g0, (0 < n → A = some ⟨g0, 0, none⟩) ∧ g0 < W7.heap.size := by
    rcases Nat.eq_zero_or_pos n with h0 | h0
    · exact ⟨r, fun h => by omega, h7.box.lt⟩
    · obtain ⟨g, e, _, hl, _⟩ := gown_at h7.own h0
      exact ⟨g, fun _ => e, hl⟩
  have hc : ∀ j, j < n → ∀ i, i < 5 → W7.cell? ⟨g0, 0 + j * 5 + i, none⟩ = some (gnCell Ls j i) := by
    intro j hj i hi
    obtain ⟨g, e, _, _, _, _, hc⟩ := gown_at h7.own (by omega)
    have := hA (by omega)
    rw [this] at e
    obtain rfl : g0 = g := by simpa using e
    rw [Nat.zero_add]
    refine hc _ _ ?_
    have hjl : j < Ls.length := by rw [h7.ln]; exact hj
    rw [glC_at Ls j hjl i hi]
    unfold gnCell
    rw [List.getElem?_eq_getElem hjl]
    match i, hi with
    | 0, _ => rfl
    | 1, _ => rfl
    | 2, _ => rfl
    | 3, _ => rfl
    | 4, _ => rfl
  have hs1 : w.heap.size + 1 < W7.heap.size := (HK.out.below hb7 HK.out.lt).lt
  have hkb := HK.out.below hb7 HK.out.lt
  have htb := HT.out.keeps (Keeps.of_below hb7)
  have hBB : Below w.heap.size w W7 := HB.out.trans (hb7.mono HB.out.size)
  have HCT := kept (And.intro hbs (And.intro h7 (And.intro hs1 (And.intro hkb (And.intro htb (And.intro hBB (And.intro hg7 (And.intro hw7 hi))))))))
  refine wpIn_rangeFunc_ownH rfl (by decide) (gf := 126) (lb := #[.pointer (some ⟨W6.heap.size, 0, none⟩)]) rfl trivial (enters_of Tryz.func126 (by kernel_rfl) rfl)
    (gback_stops _ _ trivial rfl (by decide) W6.heap.size g0 0 n k A hA (gnCell Ls) hn W7 (hbs.cell 0) hc) (fun h k => h.t k) (fun W l o1 o2 hl ho hc hw => by
      have hbb := belowK_b (n₀ := W7.heap.size) (w := W7) (Nat.le_refl _) W l o1 o2 hl ho hc hw
      exact ⟨hbb.block _ (by omega), hbb.block _ (by omega)⟩) (Below.refl _ _) (fun _ => rfl)
    (fun pre W => Below W7.heap.size W7 W ∧ ∀ x ∈ pre.map (·.1), ∀ h : x < gs.length, endAt b gs[x] = false)
    (fun cd pre W => cd = .ret ∧ Turned W7 W (fun j => j = w.heap.size + 1) ∧ ∃ pre' x, pre.map (·.1) = pre' ++ [x] ∧ (∀ y ∈ pre', ∀ h : y < gs.length, endAt b gs[y] = false) ∧ (∀ h : x < gs.length, endAt b gs[x] = true) ∧ Blk W (w.heap.size + 1) 3 [.int .i64 ((x : Int) + 1)])
    (fun s W W' row hs hg hr => ⟨hs.1.grown hg hs.1.size (fun j e => (hr j e).1), hs.2⟩)
    (fun cd s W W' row hs hg hr => ⟨hs.1, hs.2.1.grown hg (fun j hj e => absurd hj (by have := (hr j e).1; omega)), by
      obtain ⟨p', x, e1, e2, e3, e4⟩ := hs.2.2
      exact ⟨p', x, e1, e2, e3, (hg.block _ e4.lt (fun e => by have := (hr _ e.symm).1; omega)).trans e4⟩⟩)
    ⟨Below.refl _ _, fun x hx => absurd hx (by simp)⟩
    (fun x a' W => ∃ q, W7.heap.size ≤ q ∧ Blk W q 99 [gnCell Ls x.1 0, gnCell Ls x.1 1, gnCell Ls x.1 2, gnCell Ls x.1 3, gnCell Ls x.1 4] ∧ a' = { tmps := #[.pointer (some ⟨r, 0, none⟩), .agg #[.int .i64 b.1, .int .i64 b.2], undef, .pointer (some ⟨w.heap.size, 0, none⟩), .pointer (some ⟨w.heap.size + 1, 0, none⟩), .int .i64 (x.1 : Int), .pointer (some ⟨q, 0, none⟩), .pointer (some ⟨r, 0, none⟩), .pointer (some ⟨r, 0, none⟩), .pointer (some ⟨r, 0, none⟩), .slice A n k, .func (.func 126) #[] #[.pointer (some ⟨W6.heap.size, 0, none⟩)], .int .i64 (x.1 : Int), gnV (gnCell Ls x.1), undef, undef, undef, undef, undef, undef, undef, undef, undef, undef, undef], defers := [] })
    (fun x a' s W W' row hs hg hr => by
      obtain ⟨q, e1, e2, e3⟩ := hs
      refine ⟨q, e1, (hg.block _ e2.lt (fun e => ?_)).trans e2, e3⟩
      obtain ⟨_, o, ho, hc⟩ := hr _ e.symm
      have := e2.symm.trans ho
      cases this
      cases hc) ?assign ?body ?done ?stop
  case assign =>
    intro l pre x W K hI hK
    obtain ⟨hI1, hI2⟩ := hI
    have hsz := hI1.size
    obtain ⟨L, hL⟩ : ∃ L, Ls[x.1]? = some L := ⟨Ls[x.1]'(by rw [HCT.out.2.1.ln]; exact x.2), List.getElem?_eq_getElem _⟩
    have e0 : gnCell Ls x.1 0 = .int .i64 L.c := by simp only [gnCell, hL]
    have e1 : gnCell Ls x.1 1 = .int .i64 L.v := by simp only [gnCell, hL]
    have e2 : gnCell Ls x.1 2 = .slice L.A L.n L.k := by simp only [gnCell, hL]
    have e3 : gnCell Ls x.1 3 = .int .i64 L.e.1 := by simp only [gnCell, hL]
    have e4 : gnCell Ls x.1 4 = .int .i64 L.e.2 := by simp only [gnCell, hL]
    simp only [gnV, e0, e1, e2, e3, e4] at hK ⊢
    have hw1 : Below W.heap.size W (W.alloc (.cells #[.int .i64 L.c, .int .i64 L.v, .slice L.A L.n L.k, .int .i64 L.e.1, .int .i64 L.e.2] 99)) := (Below.refl _ W).alloc (Nat.le_refl _) _
    have hq1 := Blk.new W 99 #[.int .i64 L.c, .int .i64 L.v, .slice L.A L.n L.k, .int .i64 L.e.1, .int .i64 L.e.2]
    have hk1 : KeepsFrom W7.heap.size W (W.alloc (.cells #[.int .i64 L.c, .int .i64 L.v, .slice L.A L.n L.k, .int .i64 L.e.1, .int .i64 L.e.2] 99)) := ⟨hw1.size, fun k o hB hk ho => (hw1.block k (Array.getElem?_eq_some_iff.1 hk).1).trans hk⟩
    have ht2 : Two2 W6.heap.size g0 W (W.alloc (.cells #[.int .i64 L.c, .int .i64 L.v, .slice L.A L.n L.k, .int .i64 L.e.1, .int .i64 L.e.2] 99)) := ⟨hw1.block _ (by omega), hw1.block _ (by omega)⟩
    have hK1 := hK _ _ hk1 ht2 ⟨hI1.trans (hw1.mono hI1.size), hI2⟩ ⟨W.heap.size, hsz, hq1, rfl⟩
    clear hK hk1 ht2 hq1 hw1 hI1 hI2
    gi_wp2
    exact hK1
  case body =>
    rintro l pre x a' W hl hlr ⟨hI1, hI2⟩ ⟨q, hq, hqb, rfl⟩ hlt
    obtain ⟨hbs, h7, hs1, hkb, htb, hBB, hg7, hw7, hi⟩ := HCT.out
    have hxl : x.1 < Ls.length := by rw [h7.ln]; exact x.2
    have hxg : x.1 < gs.length := by rw [h7.gn]; exact x.2
    have hel := (h7.below hI1).el x.1 hxl hxg
    have hE : endAt b gs[x.1] = (gs[x.1].ended && ltR gs[x.1].e b) := rfl
    have HRest := kept (And.intro hI2 hE)
    generalize hgx : gs[x.1] = X at hel HRest
    have hL : Ls[x.1]? = some Ls[x.1] := List.getElem?_eq_getElem hxl
    generalize Ls[x.1] = L at hel hL
    have e0 : gnCell Ls x.1 0 = .int .i64 L.c := by simp only [gnCell, hL]
    have e1 : gnCell Ls x.1 1 = .int .i64 L.v := by simp only [gnCell, hL]
    have e2 : gnCell Ls x.1 2 = .slice L.A L.n L.k := by simp only [gnCell, hL]
    have e3 : gnCell Ls x.1 3 = .int .i64 L.e.1 := by simp only [gnCell, hL]
    have e4 : gnCell Ls x.1 4 = .int .i64 L.e.2 := by simp only [gnCell, hL]
    simp only [gnV, e0, e1, e2, e3, e4] at hqb ⊢
    have q0 : W.cell? ⟨q, 0, none⟩ = some (.int .i64 L.c) := hqb.cell 0
    have q1 : W.cell? ⟨q, 1, none⟩ = some (.int .i64 L.v) := hqb.cell 1
    have q2 : W.cell? ⟨q, 2, none⟩ = some (.slice L.A L.n L.k) := hqb.cell 2
    have q3 : W.cell? ⟨q, 3, none⟩ = some (.int .i64 L.e.1) := hqb.cell 3
    have q4 : W.cell? ⟨q, 4, none⟩ = some (.int .i64 L.e.2) := hqb.cell 4
    have HEN := kept (ended_any L X hel.e W)
    simp only [GL.val] at HEN
    have HQ := kept (And.intro hI1 (And.intro hqb (And.intro hq hel.e)))
    clear e0 e1 e2 e3 e4 hbs h7 hs1 hkb htb hBB hg7 hw7 hi hE hI1 hI2 hqb hel hL hxl
    cases hx : X.ended
    · rw [hx] at HEN
      gi_wp2_with fail
      refine (CallsIn.inRound l (callsIn_wide.2 HEN.out)).mono ?_
      rintro e w2 ⟨rfl, hb2⟩
      have HB2 := kept hb2
      clear hb2
      gi_wp2
      obtain ⟨hbs, h7, hs1, hkb, htb, hBB, hg7, hw7, hi⟩ := HCT.out
      obtain ⟨hI1, hqb, hq, he⟩ := HQ.out
      have hb2 := HB2.out
      have hsz := hI1.size
      refine ⟨⟨hb2.size, fun k o hB hk ho => (hb2.block k (Array.getElem?_eq_some_iff.1 hk).1).trans hk⟩, ⟨hb2.block _ (by omega), hb2.block _ (by omega)⟩, hI1.trans (hb2.mono hI1.size), fun y hy h => ?_⟩
      rw [List.map_append] at hy
      rcases List.mem_append.1 hy with hy | hy
      · exact HRest.out.1 y hy h
      · simp only [List.map_cons, List.map_nil, List.mem_singleton] at hy
        subst hy
        rw [hgx, HRest.out.2, hx, Bool.false_and]
    · rw [hx] at HEN
      have HCM := fun W => kept (cmp_pair L.e b W)
      have hlt' : decide (ordR L.e.1 L.e.2 b.1 b.2 < 0) = ltR L.e b := rfl
      have HLT : Hid (endAt b X = ltR L.e b) := kept (by rw [HRest.out.2, hx, Bool.true_and, HQ.out.2.2.2])
      generalize ordR L.e.1 L.e.2 b.1 b.2 = o at HCM hlt'
      generalize ltR L.e b = lt at hlt' HLT
      gi_wp2_with fail
      refine (CallsIn.inRound l (callsIn_wide.2 HEN.out)).mono ?_
      rintro e w2 ⟨rfl, hb2⟩
      obtain ⟨hbs, h7, hs1, hkb, htb, hBB, hg7, hw7, hi⟩ := HCT.out
      have hb02 := HQ.out.1.trans (hb2.mono HQ.out.1.size)
      obtain ⟨t0, t1⟩ := htb.keeps (Keeps.of_below hb02)
      have hq2 := HQ.out.2.1.below hb2 HQ.out.2.1.lt
      have p3 : w2.cell? ⟨q, 3, none⟩ = some (.int .i64 L.e.1) := hq2.cell 3
      have p4 : w2.cell? ⟨q, 4, none⟩ = some (.int .i64 L.e.2) := hq2.cell 4
      have HB2 := kept (And.intro hb2 hb02)
      clear hb2 hb02 hq2 hbs h7 hs1 hkb htb hBB hg7 hw7 hi
      cases lt
      · have hno : decide (o < 0) = false := hlt'
        have hno' : ¬ o < 0 := by simpa using hno
        gi_wp2_with fail
        refine (CallsIn.inRound l (callsIn_wide.2 (HCM _).out)).mono ?_
        rintro e w3 ⟨rfl, hb3⟩
        have HB3 := kept hb3
        clear hb3
        gi_wp2
        obtain ⟨hbs, h7, hs1, hkb, htb, hBB, hg7, hw7, hi⟩ := HCT.out
        obtain ⟨hI1, hqb, hq, he⟩ := HQ.out
        have hb2 := HB2.out.1.trans (HB3.out.mono HB2.out.1.size)
        have hsz := hI1.size
        refine ⟨⟨hb2.size, fun k o hB hk ho => (hb2.block k (Array.getElem?_eq_some_iff.1 hk).1).trans hk⟩, ⟨hb2.block _ (by omega), hb2.block _ (by omega)⟩, hI1.trans (hb2.mono hI1.size), fun y hy h => ?_⟩
        rw [List.map_append] at hy
        rcases List.mem_append.1 hy with hy | hy
        · exact HRest.out.1 y hy h
        · simp only [List.map_cons, List.map_nil, List.mem_singleton] at hy
          subst hy
          rw [hgx, HLT.out]
      · have hno : decide (o < 0) = true := hlt'
        have hno' : o < 0 := by simpa using hno
        have hxn : (x.1 : Int) < (n : Int) := by have := x.2; omega
        have hwr : wrap64 ((x.1 : Int) + 1) = (x.1 : Int) + 1 := IntWalk.wrap64_in _ ⟨by omega, by omega⟩
        gi_wp2_with fail
        refine (CallsIn.inRound l (callsIn_wide.2 (HCM _).out)).mono ?_
        rintro e w3 ⟨rfl, hb3⟩
        have hb73 := HB2.out.2.trans (hb3.mono HB2.out.2.size)
        have hk3 := HCT.out.2.2.2.1.below hb73 HCT.out.2.2.2.1.lt
        have k0 : w3.cell? ⟨w.heap.size + 1, 0, none⟩ = some (.int .i64 0) := hk3.cell 0
        have f0 := hk3.frozen 0
        have HB3 := kept (And.intro hb3 (And.intro hb73 hk3))
        clear hb3 hb73 hk3
        gi_wp2
        obtain ⟨hbs, h7, hs1, hkb, htb, hBB, hg7, hw7, hi⟩ := HCT.out
        obtain ⟨hb3, hb73, hk3⟩ := HB3.out
        have hy := hk3.set_ 0 (.int .i64 ((x.1 : Int) + 1))
        have ht : Turned W7 (w3.setCell ⟨w.heap.size + 1, 0, none⟩ (.int .i64 ((x.1 : Int) + 1))) (fun j => j = w.heap.size + 1) := (Turned.of_below hb73 (fun j => j = w.heap.size + 1)).setCell (p := ⟨w.heap.size + 1, 0, none⟩) (fun _ => rfl) _
        have htW : Turned W (w3.setCell ⟨w.heap.size + 1, 0, none⟩ (.int .i64 ((x.1 : Int) + 1))) (fun j => j = w.heap.size + 1) := (Turned.of_below (HB2.out.1.trans (hb3.mono HB2.out.1.size)) (fun j => j = w.heap.size + 1)).setCell (p := ⟨w.heap.size + 1, 0, none⟩) (fun _ => rfl) _
        refine ⟨⟨htW.size, fun k o hB hk ho => (htW.block k (Array.getElem?_eq_some_iff.1 hk).1 (by omega)).trans hk⟩, rfl, ht, pre.map (·.1), x.1, by rw [List.map_append]; rfl, HRest.out.1, fun h => by rw [hgx, HLT.out], hy⟩
  case done =>
    rintro D ys W hD hys ⟨hI1, hI2⟩ hK
    obtain ⟨hbs, h7, hs1, hkb, htb, hBB, hg7, hw7, hi⟩ := HCT.out
    have hk3 := hkb.below hI1 hkb.lt
    have k0 : W.cell? ⟨w.heap.size + 1, 0, none⟩ = some (.int .i64 0) := hk3.cell 0
    have f0 := hk3.frozen 0
    have HZ : Hid (ebl gs b = 0) := kept (ebl_found hi b 0 (Nat.zero_le _) (fun i h _ => hI2 i (by
      rw [show ys.map (·.1) = downTo n 0 from hys]
      unfold downTo
      rw [List.mem_map]
      have h7g := h7.gn
      exact ⟨n - 1 - i, by rw [List.mem_range]; omega, by omega⟩) h) (fun h h0 => absurd h0 (by omega)))
    have HI := kept (And.intro hI1 hk3)
    clear hI1 hI2 hys hk3
    gi_wp2
    obtain ⟨hI1, hk3⟩ := HI.out
    have hy := hk3.set_ 0 (.int .i64 0)
    have ht : Turned W7 (W.setCell ⟨w.heap.size + 1, 0, none⟩ (.int .i64 0)) (fun j => j = w.heap.size + 1) := (Turned.of_below hI1 (fun j => j = w.heap.size + 1)).setCell (p := ⟨w.heap.size + 1, 0, none⟩) (fun _ => rfl) _
    have htW : Turned W (W.setCell ⟨w.heap.size + 1, 0, none⟩ (.int .i64 0)) (fun j => j = w.heap.size + 1) := (Turned.refl W (fun j => j = w.heap.size + 1)).setCell (p := ⟨w.heap.size + 1, 0, none⟩) (fun _ => rfl) _
    simp only [List.set_cons_zero] at hy
    generalize W.setCell ⟨w.heap.size + 1, 0, none⟩ (.int .i64 0) = Y at hy ht htW ⊢
    have hKY : Y.heap[D]? = some (.deferred (some [])) := htW.obj hK (by omega)
    refine ⟨by simp, .inl ⟨_, _, rfl, run_takeDeferred hKY, ?_⟩⟩
    have tZ := putObj_turned Y D (.deferred none)
    have bZ := tZ.blk hy (by omega)
    have x0 : (Y.putObj D (.deferred none)).cell? ⟨w.heap.size + 1, 0, none⟩ = some (.int .i64 0) := bZ.cell 0
    refine ⟨.int .i64 0, by simp [results, Tryz.results76, go_sem, x0], by rw [HZ.out]; rfl, ?_⟩
    exact ((Turned.of_below hBB (fun _ => False)).chain (ht.chain (T := fun j => j = w.heap.size + 1) tZ (fun j hj e => by omega)) (fun j hj e => by omega)).below_
  case stop =>
    rintro D cd pre W hD ⟨q, hq, hpre⟩ ⟨rfl, ht, pre', x, e1, e2, e3, e4⟩ hK
    obtain ⟨hbs, h7, hs1, hkb, htb, hBB, hg7, hw7, hi⟩ := HCT.out
    have h7g := h7.gn
    have hEB : Hid (((x : Int) + 1) = (ebl gs b : Int)) := kept (by
      have hq0 : q < n := by
        rcases Nat.lt_or_ge q n with h | h
        · exact h
        · have hl := congrArg List.length (e1.symm.trans hpre)
          rw [downTo_length] at hl
          simp at hl
          omega
      rw [hpre, downTo_step hq0] at e1
      obtain ⟨h1, h2⟩ := List.append_inj' e1 rfl
      obtain rfl : q = x := by simpa using h2
      subst h1
      rw [ebl_found hi b (q + 1) (by omega) (fun i h hqi => e2 i (by
        unfold downTo
        rw [List.mem_map]
        exact ⟨n - 1 - i, by rw [List.mem_range]; omega, by omega⟩) h) (fun h h0 => e3 (by omega))]
      omega)
    have tZ := putObj_turned W D (.deferred none)
    have bZ := tZ.blk e4 (by omega)
    have x0 : (W.putObj D (.deferred none)).cell? ⟨w.heap.size + 1, 0, none⟩ = some (.int .i64 ((x : Int) + 1)) := bZ.cell 0
    gi_wp2
    refine ⟨by simp, .inl ⟨_, _, rfl, run_takeDeferred hK, ?_⟩⟩
    refine ⟨.int .i64 ((x : Int) + 1), by simp [results, Tryz.results76, go_sem, x0], by rw [hEB.out], ?_⟩
    exact ((Turned.of_below hBB (fun _ => False)).chain (ht.chain (T := fun j => j = w.heap.size + 1) tZ (fun j hj e => by omega)) (fun j hj e => by omega)).below_
end Go.Proofs.YtlckeebbjnhejaaGreat
end
