/-
  Texts laid together: Kw Kx IndexSplitsWalk.
-/
import Derived.Test.YtlckeebbjnhejaaGreatBLc
import Derived.Test.YtlckeebbjnhejaaGreatBHc
import Derived.BigQuiet
section
/-
  Stage 12's law: New, lives, made.
-/
namespace Go.Proofs.YtlckeebbjnhejaaGreat
open Go.ChangeShapes Go.WideShapes Go.ChangeAt Go.RowKit Go.Deep
set_option linter.unusedVariables false
set_option linter.unusedSimpArgs false

/-- An index without keys, laid anew. -/
theorem Ix.new (w : World) : Ix (w.alloc (.cells #[.slice none 0 0, .int .i64 0, .int .i64 0] 70)) w.heap.size (footX w.heap.size none 0 0 []) (0, 0) [] :=
  ⟨none, 0, 0, [], ⟨Blk.new w 70 #[.slice none 0 0, .int .i64 0, .int .i64 0], World.ownsRow_nil _ _ _ _, rfl, fun E hE => absurd hE (by simp), List.Pairwise.nil⟩, fun _ => Iff.rfl, rfl⟩
theorem foot_new {w : World} {j : Nat} (hj : footX w.heap.size none 0 0 [] j) : w.heap.size ≤ j := by
  rcases hj with e | e | ⟨L, hL, _⟩
  · omega
  · cases e
  · simp at hL
theorem xnew_any (w : World) : Calls Tryz.prog 20 #[] w fun e w' => e = .returned (.pointer (some ⟨w.heap.size, 0, none⟩)) ∧ w' = w.alloc (.cells #[.slice none 0 0, .int .i64 0, .int .i64 0] 70) := by
  go_enter Tryz.func20, Tryz.ntmps20
  go_wp2
  go_returns
  exact ⟨rfl, rfl⟩
/-- Both, without a key. -/
theorem Jt.new (w : World) : Jt w ((w.alloc (.cells #[.slice none 0 0, .int .i64 0, .int .i64 0] 70)).alloc (.cells #[.slice none 0 0, .int .i64 0, .int .i64 0] 50)) w.heap.size (footX w.heap.size none 0 0 []) (0, 0) [] (w.heap.size + 1) 0 := by
  have hb := (Below.refl _ (w.alloc (.cells #[.slice none 0 0, .int .i64 0, .int .i64 0] 70))).alloc (Nat.le_refl _) (.cells #[.slice none 0 0, .int .i64 0, .int .i64 0] 50)
  have hk := Blk.new (w.alloc (.cells #[.slice none 0 0, .int .i64 0, .int .i64 0] 70)) 50 #[.slice none 0 0, .int .i64 0, .int .i64 0]
  rw [World.size_alloc] at hk
  exact ⟨(Ix.new w).below hb, fun j hj => foot_new hj, ⟨none, 0, 0, 0, 0, [], ⟨hk, World.ownsRow_nil _ _ _ _, rfl, fun K hK => absurd hK (by simp), Nat.le_refl _, by omega⟩⟩, bel_to hb ((Below.refl _ w).alloc (Nat.le_refl _) _), XGood.nil _⟩
/-- An index of the law's own. -/
def MineX (w W : World) (x : Nat) (l : Rv) (P : List PE) : Prop := ∃ F, Ix W x F l P ∧ (∀ j, F j → w.heap.size ≤ j) ∧ Below w.heap.size w W
theorem MineX.below {w W W' : World} {x : Nat} {l : Rv} {P : List PE} (h : MineX w W x l P) (hb : Below W.heap.size W W') : MineX w W' x l P := by
  obtain ⟨F, h1, h2, h3⟩ := h
  exact ⟨F, h1.below hb, h2, bel_to hb h3⟩
theorem MineX.bel {w W : World} {x : Nat} {l : Rv} {P : List PE} (h : MineX w W x l P) : Below w.heap.size w W := by
  obtain ⟨F, h1, h2, h3⟩ := h
  exact h3
theorem MineX.left {w W W' : World} {x : Nat} {F : Nat → Prop} {l : Rv} {P : List PE} (h2 : ∀ j, F j → w.heap.size ≤ j) (h3 : Below w.heap.size w W) (hl : IxLeft W x F l P W') : MineX w W' x l P := by
  obtain ⟨F', k1, k2, k3⟩ := hl
  refine ⟨F', k1, fun j hj => ?_, bel_left h3 k3 (fun j hj => h2 j hj.1)⟩
  rcases k2 j hj with e | e
  · exact h2 j e
  · exact Nat.le_trans h3.size e
theorem rd_mark (W : World) {C : Array Value} {ys : List UInt8} {n : Nat} (hC : C = (cellsOf ys).toArray) (hn : ys.length = n) (f : Nat × Nat) : Rd (W.alloc (.cells C 5 f)) (some ⟨W.heap.size, 0, none⟩) n ys := by
  subst hC hn
  exact Rd.marked W 5 ys f
theorem below_row (W : World) (C : Array Value) (f : Nat × Nat) : Below W.heap.size W (W.alloc (.cells C 5 f)) := (Below.refl _ W).alloc (Nat.le_refl _) _
theorem MineX.put {w W : World} {x : Nat} {l l' : Rv} {P P' : List PE} (h : MineX w W x l P) {N : Nat} (hg : XGood l P N) (hN : N ≤ 800000) {C : Array Value} (f : Nat × Nat) {ys : List UInt8} {n : Nat} (hC : C = (cellsOf ys).toArray) (hn : ys.length = n) (hn2 : n ≤ 1000) {a b : Int}
    (hc : chC l P ys (a, b) (fun gs => mcG gs (a, b)) = 0) (hl : chL l P ys (a, b) (fun gs => mcG gs (a, b)) = l') (hp : chP l P ys (a, b) (fun gs => mcG gs (a, b)) (fun gs => putG gs (a, b)) = P') :
    Calls Tryz.prog 23 #[.pointer (some ⟨x, 0, none⟩), .slice (some ⟨W.heap.size, 0, none⟩) n n, .agg #[.int .i64 a, .int .i64 b]] (W.alloc (.cells C 5 f)) fun e w' => e = .returned (.int .i64 0) ∧ MineX w w' x l' P' := by
  obtain ⟨F, h1, h2, h3⟩ := h
  have hb := below_row W C f
  refine (xputP_any (h1.below hb) hg.inv hN _ n n ys (rd_mark W hC hn f) hn2 (a, b)).mono fun e w' ⟨he, hl'⟩ => ⟨?_, ?_⟩
  · rw [he]
    show Ending.returned (.int .i64 (chC l P ys (a, b) (fun gs => mcG gs (a, b)))) = _
    rw [hc]
  · rw [← hl, ← hp]
    exact MineX.left h2 (bel_to hb h3) hl'
theorem MineX.tomb {w W : World} {x : Nat} {l l' : Rv} {P P' : List PE} (h : MineX w W x l P) {N : Nat} (hg : XGood l P N) (hN : N ≤ 800000) {C : Array Value} (f : Nat × Nat) {ys : List UInt8} {n : Nat} (hC : C = (cellsOf ys).toArray) (hn : ys.length = n) (hn2 : n ≤ 1000) {a b : Int}
    (hc : chC l P ys (a, b) (fun gs => tombC gs (a, b)) = 0) (hl : chL l P ys (a, b) (fun gs => tombC gs (a, b)) = l') (hp : chP l P ys (a, b) (fun gs => tombC gs (a, b)) (fun gs => tombG gs (a, b)) = P') :
    Calls Tryz.prog 24 #[.pointer (some ⟨x, 0, none⟩), .slice (some ⟨W.heap.size, 0, none⟩) n n, .agg #[.int .i64 a, .int .i64 b]] (W.alloc (.cells C 5 f)) fun e w' => e = .returned (.int .i64 0) ∧ MineX w w' x l' P' := by
  obtain ⟨F, h1, h2, h3⟩ := h
  have hb := below_row W C f
  refine (xtombP_any (h1.below hb) hg.inv hN _ n n ys (rd_mark W hC hn f) hn2 (a, b)).mono fun e w' ⟨he, hl'⟩ => ⟨?_, ?_⟩
  · rw [he]
    show Ending.returned (.int .i64 (chC l P ys (a, b) (fun gs => tombC gs (a, b)))) = _
    rw [hc]
  · rw [← hl, ← hp]
    exact MineX.left h2 (bel_to hb h3) hl'
/-- A range from no key on, to the end that is a zero byte. -/
theorem MineX.range {w W : World} {x : Nat} {l : Rv} {P : List PE} (h : MineX w W x l P) {N : Nat} (hg : XGood l P N) (hN : N ≤ 800000) {C : Array Value} (f : Nat × Nat) {ys : List UInt8} {n : Nat} (hC : C = (cellsOf ys).toArray) (hn : ys.length = n) (hn2 : n ≤ 1000) (m : Int) {t : Nat} (ht : (hitsX P [] ys m).length = t) :
    Calls Tryz.prog 12 #[.pointer (some ⟨x, 0, none⟩), .slice none 0 0, .slice (some ⟨W.heap.size, 0, none⟩) n n, .int .i64 m] (W.alloc (.cells C 5 f)) fun e w' => ∃ A' k', e = .returned (.slice A' t k') ∧ MineX w w' x l P := by
  obtain ⟨F, h1, h2, h3⟩ := h
  have hb := below_row W C f
  refine (xrangeP_any (h1.below hb) hg.inv hN none 0 0 [] (Rd.nil_ _ _) (by omega) _ n n ys (rd_mark W hC hn f) (by omega) m).mono fun e w' ⟨A', n', k', hs, he, ho, hh, hb2⟩ => ⟨A', k', ?_, ⟨F, (h1.below hb).below hb2, h2, bel_to hb2 (bel_to hb h3)⟩⟩
  rw [he]
  have : n' = t := by
    rw [← ho.ln, ← ht, ← hh, List.length_map]
  rw [this]
def lvP : Nat → List PE
  | 0 => []
  | 1 => [([97], [⟨1, 1, [(1, 0)], (0, 0)⟩])]
  | 2 => [([97], [⟨1, 1, [(1, 0)], (0, 0)⟩]), ([98], [⟨2, 1, [(2, 0)], (0, 0)⟩])]
  | _ => [([97], [⟨1, 1, [(1, 0)], (3, 0)⟩]), ([98], [⟨2, 1, [(2, 0)], (0, 0)⟩])]
theorem lv1 : chC (0, 0) (lvP 0) [97] (1, 0) (fun gs => mcG gs (1, 0)) = 0 ∧ chL (0, 0) (lvP 0) [97] (1, 0) (fun gs => mcG gs (1, 0)) = (1, 0) ∧ chP (0, 0) (lvP 0) [97] (1, 0) (fun gs => mcG gs (1, 0)) (fun gs => putG gs (1, 0)) = lvP 1 := ⟨by rfl, by rfl, by rfl⟩
theorem lv2 : chC (1, 0) (lvP 1) [98] (2, 0) (fun gs => mcG gs (2, 0)) = 0 ∧ chL (1, 0) (lvP 1) [98] (2, 0) (fun gs => mcG gs (2, 0)) = (2, 0) ∧ chP (1, 0) (lvP 1) [98] (2, 0) (fun gs => mcG gs (2, 0)) (fun gs => putG gs (2, 0)) = lvP 2 := ⟨by rfl, by rfl, by rfl⟩
theorem lv3 : chC (2, 0) (lvP 2) [97] (3, 0) (fun gs => tombC gs (3, 0)) = 0 ∧ chL (2, 0) (lvP 2) [97] (3, 0) (fun gs => tombC gs (3, 0)) = (3, 0) ∧ chP (2, 0) (lvP 2) [97] (3, 0) (fun gs => tombC gs (3, 0)) (fun gs => tombG gs (3, 0)) = lvP 3 := ⟨by rfl, by rfl, by rfl⟩
theorem lv4 : (hitsX (lvP 3) [] [0] 2).length = 2 ∧ (hitsX (lvP 3) [] [0] 3).length = 1 := ⟨by rfl, by rfl⟩
theorem lvg : XGood (0, 0) (lvP 0) 0 ∧ XGood (1, 0) (lvP 1) 1 ∧ XGood (2, 0) (lvP 2) 2 ∧ XGood (3, 0) (lvP 3) 3 := by
  have g0 : XGood (0, 0) (lvP 0) 0 := XGood.nil _
  have g1 := g0.change [97] (1, 0) (put_fit (1, 0))
  rw [lv1.2.1, lv1.2.2] at g1
  have g2 := g1.change [98] (2, 0) (put_fit (2, 0))
  rw [lv2.2.1, lv2.2.2] at g2
  have g3 := g2.change [97] (3, 0) (tomb_fit (3, 0))
  rw [lv3.2.1, lv3.2.2] at g3
  exact ⟨g0, g1, g2, g3⟩
set_option maxHeartbeats 4000000 in
theorem livesX_any (w : World) : Calls Tryz.prog 8 #[] w fun e w' => e = .returned (.bool true) ∧ Below w.heap.size w w' := by
  have HN := kept (xnew_any w)
  have HM0 : Hid (MineX w (w.alloc (.cells #[.slice none 0 0, .int .i64 0, .int .i64 0] 70)) w.heap.size (0, 0) (lvP 0)) := kept ⟨_, Ix.new w, fun j hj => foot_new hj, (Below.refl _ w).alloc (Nat.le_refl _) _⟩
  go_enter Tryz.func8, Tryz.ntmps8
  go_wp2_with fail
  with_reducible refine HN.out.mono ?_
  rintro e w1 ⟨rfl, hw1⟩
  rw [← hw1] at HM0
  clear hw1 HN
  generalize w.heap.size = x at HM0 ⊢
  have hc1 := conv_lit w1 #[.int .u8 97] 1 1
  have HP1 := kept (HM0.out.put lvg.1 (by omega) (1, 2) (C := #[.int .u8 97]) (ys := [97]) (n := 1) rfl rfl (by omega) lv1.1 lv1.2.1 lv1.2.2)
  go_wp2_with fail
  with_reducible refine HP1.out.mono ?_
  rintro e w2 ⟨rfl, hm⟩
  have hc2 := conv_lit w2 #[.int .u8 98] 1 1
  have HP2 := kept (hm.put lvg.2.1 (by omega) (1, 2) (C := #[.int .u8 98]) (ys := [98]) (n := 1) rfl rfl (by omega) lv2.1 lv2.2.1 lv2.2.2)
  clear hm HP1 HM0 hc1
  go_wp2_with fail
  with_reducible refine HP2.out.mono ?_
  rintro e w3 ⟨rfl, hm⟩
  have hc3 := conv_lit w3 #[.int .u8 97] 1 1
  have HP3 := kept (hm.tomb lvg.2.2.1 (by omega) (1, 2) (C := #[.int .u8 97]) (ys := [97]) (n := 1) rfl rfl (by omega) lv3.1 lv3.2.1 lv3.2.2)
  clear hm HP2 hc2
  go_wp2_with fail
  with_reducible refine HP3.out.mono ?_
  rintro e w4 ⟨rfl, hm⟩
  have HP4 := kept (hm.range lvg.2.2.2 (by omega) (0, 0) (C := #[.int .u8 0]) (ys := [0]) (n := 1) rfl rfl (by omega) 2 lv4.1)
  clear hm HP3 hc3
  go_wp2_with fail
  with_reducible refine HP4.out.mono ?_
  rintro e w5 ⟨A5, k5, rfl, hm⟩
  have HP5 := kept (hm.range lvg.2.2.2 (by omega) (0, 0) (C := #[.int .u8 0]) (ys := [0]) (n := 1) rfl rfl (by omega) 3 lv4.2)
  clear hm HP4
  go_wp2_with fail
  with_reducible refine HP5.out.mono ?_
  rintro e w6 ⟨A6, k6, rfl, hm⟩
  have HB := kept hm.bel
  clear hm HP5
  go_wp2
  go_returns
  exact ⟨rfl, HB.out⟩
/-- What made answers. -/
def MadeX (w : World) (e : Ending) (W : World) : Prop := ∃ x F l P y, e = .returned (.pointer (some ⟨x, 0, none⟩)) ∧ Jt w W x F l P y 120
/-- The same, and whose keys they are. -/
def MadeK (n : Nat) (X : Nat → AcK) (w : World) (e : Ending) (W : World) : Prop := ∃ x F l P y, e = .returned (.pointer (some ⟨x, 0, none⟩)) ∧ Jt w W x F l P y 120 ∧ ∀ e ∈ P, ∃ i, i < n ∧ (X i).xs = e.1
set_option maxHeartbeats 4000000 in
theorem madeK_any {w : World} {A : Option Addr} {n c : Nat} {X : Nat → AcK} (hX : RdAcK w A n X) (hf : Few n X) :
    Calls Tryz.prog 10 #[.slice A n c] w (MadeK n X w) := by
  have HN := kept (xnew_any w)
  have H0 : Hid (∃ F l P, Jt w ((w.alloc (.cells #[.slice none 0 0, .int .i64 0, .int .i64 0] 70)).alloc (.cells #[.slice none 0 0, .int .i64 0, .int .i64 0] 50)) w.heap.size F l P (w.heap.size + 1) (2 * 0) ∧ ∀ e ∈ P, ∃ i, i < 0 ∧ (X i).xs = e.1) := kept ⟨_, _, _, Jt.new w, fun e he => absurd he (by simp)⟩
  have HX := kept hX
  have HFW := kept hf
  have hn60 : n ≤ 60 := hf.1
  clear hX hf
  go_enter Tryz.func10, Tryz.ntmps10
  go_wp2_with fail
  with_reducible refine HN.out.mono ?_
  rintro e w1 ⟨rfl, hw1⟩
  subst hw1
  go_upto_region 2 with fail
  generalize (w.alloc (.cells #[.slice none 0 0, .int .i64 0, .int .i64 0] 70)).alloc (.cells #[.slice none 0 0, .int .i64 0, .int .i64 0] 50) = W0 at H0 ⊢
  clear HN
  go_wp2
  go_loopw [12] (fun i wr => ∃ (j : Nat), j ≤ n ∧ i = .int .i64 (j : Int) ∧ Hid (∃ F l P, Jt w wr w.heap.size F l P (w.heap.size + 1) (2 * j) ∧ ∀ e ∈ P, ∃ i, i < j ∧ (X i).xs = e.1)) (fun i _ => n - (intOf i).toNat)
  case atStart => exact ⟨0, Nat.zero_le _, rfl, H0⟩
  case round =>
    obtain ⟨j, hj, rfl, HI⟩ := hrel
    clear H0
    have hj0 : (0 : Int) ≤ (j : Int) := by omega
    by_cases hjn : j < n
    · obtain ⟨F, l, P, hm, hkk⟩ := HI.out
      have HKK := kept hkk
      clear hkk
      obtain ⟨g, o, hA, a0, a1, a2, a3, a4, a5, a6⟩ := (HX.out.keeps (Keeps.of_below hm.bel)).1 j hjn
      have HV := kept (And.intro (HX.out.2 j hjn) (HFW.out.2 j hjn))
      obtain ⟨xx, hxx⟩ : ∃ xx, X j = xx := ⟨_, rfl⟩
      rw [hxx] at a0 a1 a2 a3 a4 a5 a6 HV
      have HXX := kept (congrArg AcK.xs hxx)
      clear hxx
      subst hA
      have hba : Below wr.heap.size wr (wr.alloc (.cells #[.int .i64 xx.k, .slice xx.A xx.n xx.kc, .bool xx.nx, .int .i64 xx.m, .int .i64 xx.s, .int .i64 xx.c, .int .i64 xx.v] 52)) := (Below.refl _ wr).alloc (Nat.le_refl _) _
      have HD := kept (doX_any (hm.below hba) (by omega) ⟨xx.k, xx.A, xx.n, xx.kc, xx.nx, xx.m, xx.s, xx.c, xx.v⟩ xx.xs HV.out.1.1 HV.out.2)
      have hjn' : (j : Int) < (n : Int) := by omega
      have hwj : wrap64 ((j : Int) + 1) = (j : Int) + 1 := IntWalk.wrap64_in _ ⟨by omega, by omega⟩
      have HJ := kept hjn
      clear hba hm HI hj hjn
      go_wp2_with (first | (go_at_call 21; (with_reducible refine (HD.out).mono ?_); rintro e w3 ⟨t, F', l', P', rfl, hj3, _, _, hki⟩; have HM3 : Hid (∃ F l P, Jt w w3 w.heap.size F l P (w.heap.size + 1) (2 * (j + 1)) ∧ ∀ e ∈ P, ∃ i, i < j + 1 ∧ (X i).xs = e.1) := kept ⟨F', l', P', hj3, fun e he => by rcases hki e he with ⟨e0, h0, h1⟩ | h1; (obtain ⟨i, hi, hx⟩ := HKK.out e0 h0; exact ⟨i, Nat.lt_succ_of_lt hi, hx.trans h1⟩); exact ⟨j, Nat.lt_succ_self j, HXX.out.trans h1.symm⟩⟩; clear hj3 hki))
      clear HD HV a0 a1 a2 a3 a4 a5 a6
      go_roundw
      case rel => exact ⟨j + 1, by have := HJ.out; omega, by go_num, HM3⟩
      case measure => have := HJ.out; simp [intOf]; omega
    · obtain rfl : j = n := by omega
      go_wp2
      go_returns
      obtain ⟨F, l, P, hm, hkk⟩ := HI.out
      exact ⟨w.heap.size, F, l, P, _, rfl, hm.mono (by omega), hkk⟩
theorem madeX_any {w : World} {A : Option Addr} {n c : Nat} {X : Nat → AcK} (hX : RdAcK w A n X) (hf : Few n X) :
    Calls Tryz.prog 10 #[.slice A n c] w (MadeX w) :=
  (madeK_any hX hf).mono fun e W ⟨x, F, l, P, y, h1, h2, _⟩ => ⟨x, F, l, P, y, h1, h2⟩
end Go.Proofs.YtlckeebbjnhejaaGreat
end

section
/-
  Lists of hits, one beside the other.
-/
namespace Go.Proofs.YtlckeebbjnhejaaGreat
open Go.ChangeShapes Go.WideShapes Go.ChangeAt Go.RowKit Go.Deep
set_option linter.unusedVariables false
set_option linter.unusedSimpArgs false
theorem HOut.joined {M M2 : Nat} {w w' : World} {A B A' : Option Addr} {n k m j c' : Nat} {hs hs2 : List HtL} (h1 : HOut M w A n k hs) (h2 : HOut M2 w B m j hs2) (hM : M ≤ M2) (own : w'.ownsRow M 37 5 (.slice A' (n + m) c') (n + m) (htC hs ++ htC hs2)) (g : w.grownBy w' (Value.slice A n k).ownBlock) : HOut M w' A' (n + m) c' (hs ++ hs2) := by
  refine ⟨by rw [htC_append]; exact own, fun H hH => ?_⟩
  rcases List.mem_append.1 hH with hH | hH
  · exact ⟨gown_apart (h1.key H hH).1 h1.row g (by decide), (h1.key H hH).2⟩
  · exact ⟨gown_apart (own_mono_ (h2.key H hH).1 hM) h1.row g (by decide), (h2.key H hH).2⟩
theorem HOut.src {M : Nat} {w : World} {A : Option Addr} {n k : Nat} {hs : List HtL} (h : HOut M w A n k hs) (h0 : 0 < n) : ∃ ad, A = some ad ∧ ∀ j u, (htC hs)[j]? = some u → w.cell? (ad.add j) = some u := by
  obtain ⟨g, rfl, _, _, _, _, hc⟩ := gown_at h.row h0
  exact ⟨_, rfl, fun j u hu => by rw [gadd_at, Nat.zero_add]; exact hc j u hu⟩
/-- Two lists that tell the same, at a place. -/
theorem pair_at {M M2 : Nat} {w : World} {A B : Option Addr} {n k j : Nat} {hs hs2 : List HtL} (h1 : HOut M w A n k hs) (h2 : HOut M2 w B n j hs2) (he : hs.map HtL.px = hs2.map HtL.px) {i : Nat} (hi : i < n) :
    ∃ (g g2 : Nat) (HA : Option Addr) (Hn Hc : Nat) (HA2 : Option Addr) (Hn2 Hc2 : Nat) (xs : List UInt8) (f : Rv × Int × Int), A = some ⟨g, 0, none⟩ ∧ B = some ⟨g2, 0, none⟩ ∧
      ((w.cell? ⟨g, i * 5, none⟩ = some (.slice HA Hn Hc) ∧ w.cell? ⟨g, i * 5 + 1, none⟩ = some (.int .i64 f.1.1) ∧ w.cell? ⟨g, i * 5 + 2, none⟩ = some (.int .i64 f.1.2) ∧ w.cell? ⟨g, i * 5 + 3, none⟩ = some (.int .i64 f.2.1) ∧ w.cell? ⟨g, i * 5 + 4, none⟩ = some (.int .i64 f.2.2)) ∧
       (w.cell? ⟨g2, i * 5, none⟩ = some (.slice HA2 Hn2 Hc2) ∧ w.cell? ⟨g2, i * 5 + 1, none⟩ = some (.int .i64 f.1.1) ∧ w.cell? ⟨g2, i * 5 + 2, none⟩ = some (.int .i64 f.1.2) ∧ w.cell? ⟨g2, i * 5 + 3, none⟩ = some (.int .i64 f.2.1) ∧ w.cell? ⟨g2, i * 5 + 4, none⟩ = some (.int .i64 f.2.2))) ∧
      Rd w HA Hn xs ∧ Rd w HA2 Hn2 xs := by
  obtain ⟨g, hA, H, hH, hc, hr, _⟩ := h1.at_ hi
  obtain ⟨g2, hB, H2, hH2, hc2, hr2, _⟩ := h2.at_ hi
  have hpx : H.px = H2.px := by
    have := congrArg (fun l => l[i]?) he
    rw [List.getElem?_map, List.getElem?_map, hH, hH2] at this
    exact Option.some.inj this
  obtain ⟨HA, Hn, Hc, xs, f⟩ := H
  obtain ⟨HA2, Hn2, Hc2, xs2, f2⟩ := H2
  injection hpx with e1 e2
  obtain rfl : xs = xs2 := e1
  obtain rfl : f = f2 := e2
  exact ⟨g, g2, HA, Hn, Hc, HA2, Hn2, Hc2, xs, f, hA, hB, ⟨hc, hc2⟩, hr, hr2⟩
theorem neq_fnd (a b c d : Int) (w : World) : (binOp .neq 31 (.agg #[.int .i64 a, .int .i64 b, .int .i64 c, .int .i64 d]) (.agg #[.int .i64 a, .int .i64 b, .int .i64 c, .int .i64 d])).run Tryz.prog w = .ok (.bool false) w := by
  go_simp
  try simp
/-! ### a range in two parts -/
structure PartC (key mid end_ : List UInt8) : Prop where
  e3 : end_ ≠ []
  z3 : end_ ≠ [0]
  e2 : mid ≠ []
  z2 : mid ≠ [0]
  k : ahead mid key = false
  m : ahead end_ mid = false
theorem in_two {key end_ k : List UInt8} (h1 : end_ ≠ []) (h2 : end_ ≠ [0]) : inB k key end_ = (!ahead k key && ahead k end_) := by
  unfold inB
  rw [if_neg h1]
  cases h : ahead k key <;> simp [h2]
theorem ahead_over {x a b : List UInt8} (h : ahead x a = true) (hab : ahead b a = false) : ahead x b = true := by
  rcases ahead_tri a b with e | e | e
  · exact ahead_trans h e
  · rw [← e]; exact h
  · rw [hab] at e; cases e
theorem ahead_under {x a b : List UInt8} (h : ahead x b = false) (hab : ahead b a = false) : ahead x a = false := by
  cases he : ahead x a with
  | false => rfl
  | true => rw [ahead_over he hab] at h; cases h
theorem hits_parts {key mid end_ : List UInt8} (hc : PartC key mid end_) (m : Int) : ∀ {P : List PE}, RiseX P → hitsX P key end_ m = hitsX P key mid m ++ hitsX P mid end_ m := by
  intro P hP
  unfold hitsX
  rw [← List.filterMap_append]
  congr 1
  induction P with
  | nil => rfl
  | cons e R ih =>
    have hR := List.pairwise_cons.1 hP
    have hx1 : inX key end_ e = (!ahead e.1 key && ahead e.1 end_) := in_two hc.e3 hc.z3
    have hx2 : inX key mid e = (!ahead e.1 key && ahead e.1 mid) := in_two hc.e2 hc.z2
    have hx3 : inX mid end_ e = (!ahead e.1 mid && ahead e.1 end_) := in_two hc.e3 hc.z3
    by_cases hm : ahead e.1 mid = true
    · have he := ahead_over hm hc.m
      rw [List.filter_cons, List.filter_cons, List.filter_cons, hx1, hx2, hx3, hm, he, ih hR.2]
      cases ahead e.1 key <;> simp
    · have hm : ahead e.1 mid = false := by simpa using hm
      have hall : ∀ x ∈ e :: R, ahead x.1 mid = false := fun x hx => by
        rcases List.mem_cons.1 hx with rfl | hx
        · exact hm
        · cases h : ahead x.1 mid with
          | false => rfl
          | true => rw [ahead_trans (hR.1 x hx) h] at hm; cases hm
      have h0 : (e :: R).filter (inX key mid) = [] := by
        rw [List.filter_eq_nil_iff]
        intro x hx
        rw [show inX key mid x = (!ahead x.1 key && ahead x.1 mid) from in_two hc.e2 hc.z2, hall x hx]
        simp
      rw [h0, List.nil_append]
      apply List.filter_congr
      intro x hx
      rw [show inX key end_ x = (!ahead x.1 key && ahead x.1 end_) from in_two hc.e3 hc.z3, show inX mid end_ x = (!ahead x.1 mid && ahead x.1 end_) from in_two hc.e3 hc.z3, hall x hx, ahead_under (hall x hx) hc.k]
end Go.Proofs.YtlckeebbjnhejaaGreat
end

section
/-
  The walk of the law IndexSplits.
-/
namespace Go.Proofs.YtlckeebbjnhejaaGreat
open Go.ChangeShapes Go.WideShapes Go.ChangeAt Go.RowKit Go.Deep
set_option linter.unusedVariables false
set_option linter.unusedSimpArgs false
namespace indexSplits
/-- A key among the acts', as it lies. -/
structure KyL where
  A : Option Addr
  n : Nat
  c : Nat
  xs : List UInt8
def KyL.val (K : KyL) : Value := .slice K.A K.n K.c
def kyC (ks : List KyL) : List Value := ks.map KyL.val
theorem kyinfo : (Tryz.prog.info? 23).map (fun i => (i.zero, i.size, i.bytes)) = some (some (.slice none 0 0), 1, 24) := by kernel_rfl
/-- The keys that were gathered of the first j acts. -/
structure KyI (w w3 wr : World) (X : Nat → AcK) (j : Nat) (Ak : Option Addr) (nk kk : Nat) (ks : List KyL) : Prop where
  own : wr.ownsRow w3.heap.size 23 1 (.slice Ak nk kk) nk (kyC ks)
  rd : ∀ K ∈ ks, Rd w K.A K.n K.xs ∧ K.n ≤ 100
  nd : (ks.map KyL.xs).Nodup
  all : ∀ i, i < j → (X i).xs ∈ ks.map KyL.xs
  bel : Below w3.heap.size w3 wr
theorem KyI.ln {w w3 wr : World} {X : Nat → AcK} {j : Nat} {Ak : Option Addr} {nk kk : Nat} {ks : List KyL} (h : KyI w w3 wr X j Ak nk kk ks) : ks.length = nk := by
  have := h.own.1
  simpa [kyC] using this
theorem KyI.below {w w3 wr w' : World} {X : Nat → AcK} {j : Nat} {Ak : Option Addr} {nk kk : Nat} {ks : List KyL} (h : KyI w w3 wr X j Ak nk kk ks) (hb : Below wr.heap.size wr w') : KyI w w3 w' X j Ak nk kk ks :=
  ⟨gown_turned h.own (Turned.of_below hb (fun _ => False)) (fun _ _ e => e), h.rd, h.nd, h.all, bel_to hb h.bel⟩
theorem KyI.at_ {w w3 wr : World} {X : Nat → AcK} {j : Nat} {Ak : Option Addr} {nk kk : Nat} {ks : List KyL} (h : KyI w w3 wr X j Ak nk kk ks) {q : Nat} (hq : q < nk) : ∃ g K, Ak = some ⟨g, 0, none⟩ ∧ ks[q]? = some K ∧ wr.cell? ⟨g, q, none⟩ = some (.slice K.A K.n K.c) ∧ Rd w K.A K.n K.xs ∧ K.n ≤ 100 := by
  obtain ⟨g, rfl, _, _, _, _, hc⟩ := gown_at h.own (by omega)
  have hl : q < ks.length := by rw [h.ln]; exact hq
  have hr := h.rd ks[q] (List.getElem_mem hl)
  exact ⟨g, ks[q], rfl, List.getElem?_eq_getElem hl, hc q _ (by rw [kyC, List.getElem?_map, List.getElem?_eq_getElem hl]; rfl), hr.1, hr.2⟩
/-- Is a key among the first q? -/
def amid (ks : List KyL) (xs : List UInt8) (q : Nat) : Bool := (ks.take q).any fun K => decide (K.xs = xs)
theorem amid_next {ks : List KyL} {xs : List UInt8} {q : Nat} {K : KyL} (h : ks[q]? = some K) : amid ks xs (q + 1) = (amid ks xs q || decide (K.xs = xs)) := by
  unfold amid
  rw [List.take_add_one, h, List.any_append]
  simp
theorem amid_all {ks : List KyL} {xs : List UInt8} {q : Nat} (h : ks.length = q) : amid ks xs q = true ↔ xs ∈ ks.map KyL.xs := by
  unfold amid
  rw [List.take_of_length_le (by omega), List.any_eq_true]
  constructor
  · rintro ⟨K, hK, he⟩
    exact List.mem_map.2 ⟨K, hK, by simpa using he⟩
  · intro hm
    obtain ⟨K, hK, rfl⟩ := List.mem_map.1 hm
    exact ⟨K, hK, by simp⟩
/-- How many of the first q changes are this one? -/
def fnd5 (cs : List ChL) (c : List UInt8 × Rv × Bool) (q : Nat) : Nat := (cs.take q).countP fun d => decide (d.px = c)
theorem fnd5_next {cs : List ChL} {c : List UInt8 × Rv × Bool} {q : Nat} {d : ChL} (h : cs[q]? = some d) : fnd5 cs c (q + 1) = fnd5 cs c q + (if d.px = c then 1 else 0) := by
  unfold fnd5
  rw [List.take_add_one, h, List.countP_append]
  by_cases he : d.px = c <;> simp [he]
theorem fnd5_le (cs : List ChL) (c : List UInt8 × Rv × Bool) (q : Nat) : fnd5 cs c q ≤ q := by
  unfold fnd5
  refine Nat.le_trans List.countP_le_length ?_
  rw [List.length_take]
  omega
theorem eql_rev (a b c d : Int) (w : World) : (binOp .eql 29 (.agg #[.int .i64 a, .int .i64 b]) (.agg #[.int .i64 c, .int .i64 d])).run Tryz.prog w = .ok (.bool (decide (a = c ∧ b = d))) w := by
  go_simp
  by_cases h1 : a = c <;> by_cases h2 : b = d <;> simp [h1, h2]
/-- How many changes the first j keys have. -/
def psum (ks : List KyL) (g : List UInt8 → Nat) (j : Nat) : Nat := (((ks.take j).map KyL.xs).map g).sum
theorem psum_next {ks : List KyL} {g : List UInt8 → Nat} {j : Nat} {K : KyL} (h : ks[j]? = some K) : psum ks g (j + 1) = psum ks g j + g K.xs := by
  unfold psum
  rw [List.take_add_one, h, List.map_append, List.map_append, List.sum_append]
  simp
theorem psum_le {ks : List KyL} {g : List UInt8 → Nat} (hg : ∀ k, g k ≤ 14520) : ∀ j, psum ks g j ≤ j * 14520
  | 0 => by simp [psum]
  | j + 1 => by
    have ih := psum_le (ks := ks) hg j
    cases h : ks[j]? with
    | none =>
      have hl : ks.length ≤ j := by simpa using h
      have : psum ks g (j + 1) = psum ks g j := by unfold psum; rw [List.take_of_length_le (by omega), List.take_of_length_le hl]
      omega
    | some K =>
      rw [psum_next h]
      have := hg K.xs
      omega
theorem chg_sub {P : List PE} {k e : List UInt8} {main : Int} {c : List UInt8 × Rv × Bool} (h : c ∈ chgX P k e main) : c ∈ P.flatMap (chgE main) := by
  obtain ⟨x, hx, hc⟩ := List.mem_flatMap.1 h
  exact List.mem_flatMap.2 ⟨x, (List.mem_filter.1 hx).1, hc⟩
theorem lo_bound {l : Rv} {P : List PE} (h : XGood l P 120) (main : Int) (k : List UInt8) : (sinceG (loX P k) main).length ≤ 14520 := by
  rcases parted h.inv.rise k with ⟨_, Q, e0, R, rfl, _, h0, hlo, _⟩ | ⟨_, Q, R, rfl, _, hlo, _⟩
  · rw [hlo]
    exact since_bound (h.inv.bd e0 (by simp)) main
  · rw [hlo]
    simp [sinceG]
set_option maxRecDepth 100000 in
set_option maxHeartbeats 8000000 in
theorem walk (w : World) (A : Option Addr) (n c : Nat) (hnc : n ≤ c) (hcm : c ≤ maxLen) (X : Nat → AcK) (hX : RdAcK w A n X) (main : Int) (wa : (Lit.int .i64 main).wf = true) :
    Calls Tryz.prog 7 #[.slice A n c, .int .i64 main] w fun e w' => e = .returned (.bool true) ∧ Below w.heap.size w w' := by
  have HL := kept (livesX_any w)
  have HF := fun W (h : Below w.heap.size w W) => kept (few_any (hX.keeps (Keeps.of_below h)) hnc hcm)
  have HX := kept hX
  clear hX hnc hcm wa
  go_enter Tryz.func7, Tryz.ntmps7
  go_wp2_with fail
  with_reducible refine HL.out.mono ?_
  rintro e w1 ⟨rfl, hb⟩
  have HB1 := kept hb
  clear hb HL
  go_wp2_with fail
  with_reducible refine (HF w1 HB1.out).out.mono ?_
  rintro e w2 ⟨t, rfl, hf, hb⟩
  have HB2 := kept (bel_to hb HB1.out)
  clear hb HF
  cases t with
  | false =>
    have HL2 := kept (livesX_any w2)
    clear hf
    go_wp2_with fail
    with_reducible refine HL2.out.mono ?_
    rintro e w3 ⟨rfl, hb⟩
    have HB3 := kept (bel_to hb HB2.out)
    clear hb
    go_wp2
    go_returns
    exact ⟨rfl, HB3.out⟩
  | true =>
    have HFW := kept (hf rfl)
    have hn60 : n ≤ 60 := (hf rfl).1
    have HM := kept (madeK_any (c := c) (HX.out.keeps (Keeps.of_below HB2.out)) (hf rfl))
    clear hf
    go_wp2_with fail
    with_reducible refine HM.out.mono ?_
    rintro e w3 ⟨x, F, l, P, y, rfl, hj, hkey⟩
    have HJ := kept hj
    have HKEY := kept hkey
    have HB3 := kept (bel_to hj.bel HB2.out)
    have H0 : Hid (∃ ks, KyI w w3 w3 X 0 none 0 0 ks) := kept ⟨[], World.ownsRow_nil _ _ _ _, fun K hK => absurd hK (by simp), List.nodup_nil, fun i hi => absurd hi (by omega), Below.refl _ _⟩
    clear hj hkey HM
    go_wp2
    go_loopw [6, 34] (fun k i wr => ∃ (j nk kk : Nat) (Ak : Option Addr), j ≤ n ∧ nk ≤ j ∧ i = .int .i64 (j : Int) ∧ k = .slice Ak nk kk ∧ Hid (∃ ks, KyI w w3 wr X j Ak nk kk ks)) (fun _ i _ => n - (intOf i).toNat)
    case atStart => exact ⟨0, 0, 0, none, Nat.zero_le _, Nat.le_refl _, rfl, rfl, H0⟩
    case round =>
      obtain ⟨j, nk, kk, Ak, hj, hnj, rfl, rfl, HI⟩ := hrel
      clear H0
      have hj0 : (0 : Int) ≤ (j : Int) := by omega
      by_cases hjn : j < n
      · obtain ⟨ks, hk⟩ := HI.out
        obtain ⟨g, o, hA, a0, a1, a2, a3, a4, a5, a6⟩ := (HX.out.keeps (Keeps.of_below (bel_to hk.bel HB3.out))).1 j hjn
        have HV := kept (And.intro (HX.out.2 j hjn) (HFW.out.2 j hjn))
        obtain ⟨xx, hxx⟩ : ∃ xx, X j = xx := ⟨_, rfl⟩
        rw [hxx] at a0 a1 a2 a3 a4 a5 a6 HV
        have HXX := kept (congrArg AcK.xs hxx)
        subst hA
        have hba : Below wr.heap.size wr (wr.alloc (.cells #[.int .i64 xx.k, .slice xx.A xx.n xx.kc, .bool xx.nx, .int .i64 xx.m, .int .i64 xx.s, .int .i64 xx.c, .int .i64 xx.v] 52)) := (Below.refl _ wr).alloc (Nat.le_refl _) _
        have HK1 := kept (hk.below hba)
        have HAB := kept (Blk.new wr 52 #[.int .i64 xx.k, .slice xx.A xx.n xx.kc, .bool xx.nx, .int .i64 xx.m, .int .i64 xx.s, .int .i64 xx.c, .int .i64 xx.v])
        have HJ1 := kept (And.intro hjn hnj)
        have HIN0 : Hid (Below (wr.alloc (.cells #[.int .i64 xx.k, .slice xx.A xx.n xx.kc, .bool xx.nx, .int .i64 xx.m, .int .i64 xx.s, .int .i64 xx.c, .int .i64 xx.v] 52)).heap.size (wr.alloc (.cells #[.int .i64 xx.k, .slice xx.A xx.n xx.kc, .bool xx.nx, .int .i64 xx.m, .int .i64 xx.s, .int .i64 xx.c, .int .i64 xx.v] 52)) (wr.alloc (.cells #[.int .i64 xx.k, .slice xx.A xx.n xx.kc, .bool xx.nx, .int .i64 xx.m, .int .i64 xx.s, .int .i64 xx.c, .int .i64 xx.v] 52))) := kept (Below.refl _ _)
        have hjn' : (j : Int) < (n : Int) := by omega
        have hnk60 : nk ≤ 60 := by omega
        clear hk hba hxx HI hjn hj hnj
        obtain ⟨wb, rfl⟩ : ∃ wb, wb = wr := ⟨_, rfl⟩
        go_upto_region 9 with fail
        generalize (wb.alloc (.cells #[.int .i64 xx.k, .slice xx.A xx.n xx.kc, .bool xx.nx, .int .i64 xx.m, .int .i64 xx.s, .int .i64 xx.c, .int .i64 xx.v] 52)) = W1 at HK1 HAB HIN0 ⊢
        clear a0 a1 a2 a3 a4 a5 a6
        have hcA1 := hnk60
        clear hcA1 hj0 hjn' hnk60 hn60
        go_wp2
        go_loopw [9, 40] (fun b i wr => ∃ (q : Nat), q ≤ nk ∧ i = .int .i64 (q : Int) ∧ b = .bool (amid ks xx.xs q) ∧ Hid (Below W1.heap.size W1 wr)) (fun _ i _ => nk - (intOf i).toNat)
        case atStart => exact ⟨0, Nat.zero_le _, rfl, rfl, HIN0⟩
        case round =>
          obtain ⟨q, hq, rfl, rfl, HI⟩ := hrel
          clear HIN0
          have hq0 : (0 : Int) ≤ (q : Int) := by omega
          by_cases hqn : q < nk
          · obtain ⟨g2, K, hAk, hKq, kc, hrd, hKn⟩ := (HK1.out.below HI.out).at_ hqn
            subst hAk
            have hqn' : (q : Int) < (nk : Int) := by omega
            have HWQ : Hid (wrap64 ((q : Int) + 1) = (q : Int) + 1) := kept (IntWalk.wrap64_in _ ⟨by omega, by have := HJ1.out; have := HFW.out.1; omega⟩)
            have e1 : wr.cell? ⟨wb.heap.size, 1, none⟩ = some (.slice xx.A xx.n xx.kc) := (HAB.out.below HI.out HAB.out.lt).cell 1
            have HQN := kept hqn
            have HNX := kept (amid_next (xs := xx.xs) hKq)
            have HBQ := kept (bel_to HI.out (bel_to HK1.out.bel HB3.out))
            have HSM := kept (same_any K.A xx.A K.n xx.n K.c xx.kc K.xs xx.xs wr (hrd.keeps (Keeps.of_below HBQ.out)) (HV.out.1.1.keeps (Keeps.of_below HBQ.out)) _ rfl)
            clear hrd hKn hq hqn hKq
            generalize amid ks xx.xs q = b at HNX ⊢
            cases b with
            | false =>
              go_wp2_with fail
              with_reducible refine HSM.out.mono ?_
              rintro e _ ⟨rfl, rfl⟩
              go_wp2
              go_roundw
              case rel => exact ⟨q + 1, by have := HQN.out; omega, by rw [HWQ.out]; go_num, by rw [HNX.out]; simp, HI⟩
              case measure => exact measY HQN.out _ HWQ.out
            | true =>
              go_wp2
              go_roundw
              case rel => exact ⟨q + 1, by have := HQN.out; omega, by rw [HWQ.out]; go_num, by rw [HNX.out]; simp, HI⟩
              case measure => exact measY HQN.out _ HWQ.out
          · obtain rfl : q = nk := by omega
            clear hqn hq
            have HWJ : Hid (wrap64 ((j : Int) + 1) = (j : Int) + 1) := kept (IntWalk.wrap64_in _ ⟨by omega, by have := HJ1.out; have := HFW.out.1; omega⟩)
            have HK2 := kept (HK1.out.below HI.out)
            have HMM := kept (amid_all (xs := xx.xs) HK1.out.ln)
            have e1 : wr.cell? ⟨wb.heap.size, 1, none⟩ = some (.slice xx.A xx.n xx.kc) := (HAB.out.below HI.out HAB.out.lt).cell 1
            generalize amid ks xx.xs q = b at HMM ⊢
            cases b with
            | true =>
              have HK3 : Hid (∃ ks, KyI w w3 wr X (j + 1) Ak q kk ks) := kept ⟨ks, HK2.out.own, HK2.out.rd, HK2.out.nd, fun i hi => by
                rcases Nat.lt_or_eq_of_le (Nat.le_of_lt_succ hi) with h1 | rfl
                · exact HK2.out.all i h1
                · rw [HXX.out]; exact HMM.out.1 rfl, HK2.out.bel⟩
              clear e1 HMM HK2 HK1
              go_wp2
              go_roundw
              case rel => exact ⟨j + 1, q, kk, Ak, by have := HJ1.out; omega, by have := HJ1.out; omega, by rw [HWJ.out]; go_num, rfl, HK3⟩
              case measure => exact measY HJ1.out.1 _ HWJ.out
            | false =>
              have HK5 := kept (HK2.out.below ((Below.refl _ wr).alloc (Nat.le_refl _) (.cells #[.slice xx.A xx.n xx.kc] 23)))
              have HRB := kept (Blk.new wr 23 #[.slice xx.A xx.n xx.kc])
              have HNM := kept (show xx.xs ∉ ks.map KyL.xs from fun h => by have := HMM.out.2 h; cases this)
              have HQ60 : Hid (q + 1 ≤ 3000000) := kept (by have := HJ1.out; have := HFW.out.1; omega)
              clear HMM HK2 HK1
              go_wp2_with (first | (at_builtin; refine wpList_append_h rfl _ _ 55 rfl 23 rfl rfl Tryz.underlying55 kyinfo rfl (by decide) (by decide) HK5.out.own (m := 1) (ys := [.slice xx.A xx.n xx.kc]) rfl (fun _ => ⟨_, rfl, fun j u hj => by rw [gadd_at, Nat.zero_add]; exact (HRB.out.cell j).trans hj⟩) (by intro u hu; simp only [List.mem_cons, List.not_mem_nil, or_false] at hu; rcases hu with rfl; rfl) HQ60.out HK5.out.bel.size ?_; intro A6 c6 w6 h6 g6; have HF6 := kept (And.intro h6 g6); clear h6 g6))
              have HK6 : Hid (∃ ks, KyI w w3 w6 X (j + 1) A6 (q + 1) c6 ks) := kept ⟨ks ++ [⟨xx.A, xx.n, xx.kc, xx.xs⟩], by
                obtain ⟨h6, g6⟩ := HF6.out
                refine ⟨by rw [kyC, List.map_append]; exact h6, fun K hK => ?_, ?_, fun i hi => ?_, bel_grown HK5.out.bel (Nat.le_refl _) HK5.out.own g6⟩
                · rcases List.mem_append.1 hK with hK | hK
                  · exact HK5.out.rd K hK
                  · obtain rfl := List.mem_singleton.1 hK
                    exact ⟨HV.out.1.1, HV.out.2⟩
                · rw [List.map_append]
                  refine List.nodup_append.2 ⟨HK5.out.nd, by simp, fun a ha b hb e => ?_⟩
                  obtain rfl : b = xx.xs := by simpa using hb
                  exact HNM.out (e ▸ ha)
                · rw [List.map_append]
                  rcases Nat.lt_or_eq_of_le (Nat.le_of_lt_succ hi) with h1 | rfl
                  · exact List.mem_append.2 (.inl (HK5.out.all i h1))
                  · rw [HXX.out]; simp⟩
              clear HF6 HK5 HRB HNM
              go_roundw
              case rel => exact ⟨j + 1, q + 1, c6, A6, by have := HJ1.out; omega, by have := HJ1.out; omega, by rw [HWJ.out]; go_num, rfl, HK6⟩
              case measure => exact measY HJ1.out.1 _ HWJ.out
      · obtain rfl : j = n := by omega
        obtain ⟨ks, hk⟩ := HI.out
        have HK := kept hk
        have HNK := kept hnj
        clear hk HI hjn hj hnj hj0 hn60 HX
        obtain ⟨wb, rfl⟩ : ∃ wb, wb = wr := ⟨_, rfl⟩
        have hbz := below_row wb #[.int .u8 0] (0, 0)
        have HBZ := kept (bel_to hbz HK.out.bel)
        have HS := kept (xsinceP_any (HJ.out.ix.below HBZ.out) HJ.out.good.inv none 0 0 [] (Rd.nil_ _ _) (by omega) (some ⟨wb.heap.size, 0, none⟩) 1 1 [0] (rd_mark wb (C := #[.int .u8 0]) (ys := [0]) rfl rfl (0, 0)) (by omega) main)
        have HBZ1 := kept hbz
        clear hbz
        go_wp2_with fail
        with_reducible refine HS.out.mono ?_
        rintro e w5 ⟨A5, n5, k5, all, rfl, ho5, hp5, hs5, hb5⟩
        have HO5 := kept ho5
        rw [chg_all] at hp5
        have HND := kept (chg_nodup HJ.out.good main)
        have HST := kept (strict_of hs5 (by
          have h1 := (hp5.map fun c => c.2.1).nodup_iff.2 HND.out
          rwa [List.map_map] at h1))
        have HP5 := kept hp5
        have HK5 := kept ((HK.out.below HBZ1.out).below hb5)
        have HB5 := kept (bel_to hb5 HBZ.out)
        have HTOT : Hid (psum ks (fun k => (sinceG (loX P k) main).length) nk = n5) := kept (by
          have h1 := sum_keys HJ.out.good.inv.rise main HK.out.nd (fun e he => by
            obtain ⟨i, hi, hx⟩ := HKEY.out e he
            rw [← hx]
            exact HK.out.all i hi)
          have h2 := hp5.length_eq
          rw [List.length_map, ho5.ln] at h2
          unfold psum
          rw [List.take_of_length_le (by rw [HK.out.ln]; exact Nat.le_refl _), h1, h2])
        have HG := kept (lo_bound HJ.out.good main)
        obtain ⟨gf, hgf⟩ : ∃ gf : List UInt8 → Nat, gf = fun k => (sinceG (loX P k) main).length := ⟨_, rfl⟩
        have HGF := kept (fun k => (congrFun hgf k : gf k = (sinceG (loX P k) main).length))
        rw [← hgf] at HTOT
        have HPB := kept (psum_le (ks := ks) (g := gf) (fun k => by rw [HGF.out k]; exact HG.out k))
        have HL5 : Hid (n5 ≤ 871200) := kept (by have h1 := HPB.out nk; rw [HTOT.out] at h1; have := HNK.out; have := HFW.out.1; omega)
        have H0 : Hid (Below w5.heap.size w5 w5) := kept (Below.refl _ _)
        have hp0 : psum ks gf 0 = 0 := by simp [psum]
        clear ho5 hp5 hs5 hb5 HS HBZ HBZ1 hgf HG HKEY
        go_wp2
        go_loopw [12, 66] (fun t i wr => ∃ (j : Nat), j ≤ nk ∧ i = .int .i64 (j : Int) ∧ t = .int .i64 ((psum ks gf j : Nat) : Int) ∧ Hid (Below w5.heap.size w5 wr)) (fun _ i _ => nk - (intOf i).toNat)
        case atStart => exact ⟨0, Nat.zero_le _, rfl, by rw [hp0]; rfl, H0⟩
        case round =>
          obtain ⟨i, hi, rfl, rfl, HI⟩ := hrel
          clear H0 hp0
          have hi0 : (0 : Int) ≤ (i : Int) := by omega
          by_cases hin : i < nk
          · have hin' : (i : Int) < (nk : Int) := by omega
            obtain ⟨g2, K, hAk, hKi, kc, hrd, hKn⟩ := (HK5.out.below HI.out).at_ hin
            subst hAk
            have HWI : Hid (wrap64 ((i : Int) + 1) = (i : Int) + 1) := kept (IntWalk.wrap64_in _ ⟨by omega, by have := HNK.out; have := HFW.out.1; omega⟩)
            have HIN := kept hin
            have HPN := kept (psum_next (g := gf) hKi)
            have HBI := kept (bel_to HI.out HB5.out)
            have HKR := kept (And.intro hrd hKn)
            have HS := kept (xsinceP_any (HJ.out.ix.below HBI.out) HJ.out.good.inv K.A K.n K.c K.xs (hrd.keeps (Keeps.of_below (bel_to HBI.out HB3.out))) (by omega) none 0 0 [] (Rd.nil_ _ _) (by omega) main)
            clear hrd hKn hKi hin hi
            go_wp2_with fail
            with_reducible refine HS.out.mono ?_
            rintro e w6 ⟨A6, n6, k6, cs, rfl, ho6, hp6, _, hb6⟩
            have HSUB := kept (fun (C : ChL) (hC : C ∈ cs) => chg_sub (hp6.mem_iff.1 (List.mem_map.2 ⟨C, hC, rfl⟩)))
            rw [chg_one HJ.out.good.inv.rise] at hp6
            have HO6 := kept ho6
            have HP6 := kept hp6
            have HB6 := kept (bel_to hb6 HI.out)
            have HN6 : Hid (n6 = gf K.xs) := kept (by
              have h2 := hp6.length_eq
              rw [List.length_map, List.length_map, ho6.ln] at h2
              rw [h2, HGF.out])
            have HQ0 : Hid (Below w6.heap.size w6 w6) := kept (Below.refl _ _)
            clear ho6 hp6 hb6 HS kc hi0 hin'
            go_wp2
            go_loopw [12, 75] (fun t i' wr => ∃ (q : Nat), q ≤ n6 ∧ i' = .int .i64 (q : Int) ∧ t = .int .i64 ((psum ks gf i + q : Nat) : Int) ∧ Hid (Below w6.heap.size w6 wr)) (fun _ i' _ => n6 - (intOf i').toNat)
            case atStart => exact ⟨0, Nat.zero_le _, rfl, rfl, HQ0⟩
            case round =>
              obtain ⟨q, hq, rfl, rfl, HI6⟩ := hrel
              clear HQ0
              have hq0 : (0 : Int) ≤ (q : Int) := by omega
              by_cases hqn : q < n6
              · have hqn' : (q : Int) < (n6 : Int) := by omega
                obtain ⟨gc, hA6, C, hCq, ⟨c0, c1, c2, c3⟩, hcr, hCn⟩ := (HO6.out.below HI6.out).at_ hqn
                subst hA6
                have hCm : C ∈ cs := List.mem_of_getElem? hCq
                have HCK : Hid (C.xs = K.xs) := kept (by
                  have := HP6.out.mem_iff.1 (List.mem_map.2 ⟨C, hCm, rfl⟩)
                  obtain ⟨p, _, hp⟩ := List.mem_map.1 this
                  exact (congrArg Prod.fst hp).symm)
                have HF5 : Hid (fnd5 all C.px n5 = 1) := kept (by
                  unfold fnd5
                  rw [List.take_of_length_le (by rw [HO5.out.ln]; exact Nat.le_refl _)]
                  exact once HP5.out HND.out (HSUB.out C hCm))
                have HWQ : Hid (wrap64 ((q : Int) + 1) = (q : Int) + 1) := kept (IntWalk.wrap64_in _ ⟨by omega, by have h1 := HPB.out (i + 1); rw [HPN.out, ← HN6.out] at h1; have := HIN.out; have := HNK.out; have := HFW.out.1; omega⟩)
                have HQN := kept hqn
                have HWN : Hid (wrap64 (((psum ks gf i : Nat) : Int) + (q : Int) + 1) = ((psum ks gf i + (q + 1) : Nat) : Int)) := kept (by
                  rw [IntWalk.wrap64_in _ ⟨by omega, by have h1 := HPB.out (i + 1); rw [HPN.out, ← HN6.out] at h1; have := HIN.out; have := HNK.out; have := HFW.out.1; omega⟩]
                  omega)
                have hba : Below wr.heap.size wr (wr.alloc (.cells #[.slice C.A C.n C.c, .int .i64 C.q.1, .int .i64 C.q.2, .bool C.t] 59)) := (Below.refl _ wr).alloc (Nat.le_refl _) _
                have HCB := kept (Blk.new wr 59 #[.slice C.A C.n C.c, .int .i64 C.q.1, .int .i64 C.q.2, .bool C.t])
                have HCR := kept (hcr.below hba)
                have HB67 := kept (bel_to hba HI6.out)
                obtain ⟨wc, rfl⟩ : ∃ wc, wc = wr := ⟨_, rfl⟩
                clear hcr hCm hCq hCn hba hqn hq
                go_upto_region 25 with fail
                generalize wc.alloc (.cells #[.slice C.A C.n C.c, .int .i64 C.q.1, .int .i64 C.q.2, .bool C.t] 59) = W7 at HCB HCR HB67 ⊢
                have HR0 : Hid (Below W7.heap.size W7 W7) := kept (Below.refl _ _)
                have hf0 : fnd5 all C.px 0 = 0 := by simp [fnd5]
                clear c0 c1 c2 c3 hq0 hqn'
                go_wp2
                go_loopw [18, 81] (fun f p' wr => ∃ (p : Nat), p ≤ n5 ∧ p' = .int .i64 (p : Int) ∧ f = .int .i64 ((fnd5 all C.px p : Nat) : Int) ∧ Hid (Below W7.heap.size W7 wr)) (fun _ p' _ => n5 - (intOf p').toNat)
                case atStart => exact ⟨0, Nat.zero_le _, rfl, by rw [hf0]; rfl, HR0⟩
                case round =>
                  obtain ⟨p, hp, rfl, rfl, HI7⟩ := hrel
                  clear HR0 hf0
                  have hp0 : (0 : Int) ≤ (p : Int) := by omega
                  by_cases hpn : p < n5
                  · have hpn' : (p : Int) < (n5 : Int) := by omega
                    have HB57 := kept (bel_to HI7.out (bel_to HB67.out HB6.out))
                    obtain ⟨gd, hA5, D, hDp, ⟨d0, d1, d2, d3⟩, hdr, hDn⟩ := (HO5.out.below HB57.out).at_ hpn
                    subst hA5
                    have HWP : Hid (wrap64 ((p : Int) + 1) = (p : Int) + 1) := kept (IntWalk.wrap64_in _ ⟨by omega, by have := HL5.out; omega⟩)
                    have HPNN := kept hpn
                    have HFN := kept (fnd5_next (c := C.px) hDp)
                    have HFL := kept (fnd5_le all C.px p)
                    have HWF : Hid (wrap64 (((fnd5 all C.px p : Nat) : Int) + 1) = ((fnd5 all C.px p + 1 : Nat) : Int)) := kept (by
                      rw [IntWalk.wrap64_in _ ⟨by omega, by have := HFL.out; have := HL5.out; omega⟩]
                      omega)
                    have hbd : Below wr.heap.size wr (wr.alloc (.cells #[.slice D.A D.n D.c, .int .i64 D.q.1, .int .i64 D.q.2, .bool D.t] 59)) := (Below.refl _ wr).alloc (Nat.le_refl _) _
                    have HBD := kept hbd
                    have HDB := kept (Blk.new wr 59 #[.slice D.A D.n D.c, .int .i64 D.q.1, .int .i64 D.q.2, .bool D.t])
                    have HC7 := kept ((HCB.out.below HI7.out HCB.out.lt).below hbd (HCB.out.below HI7.out HCB.out.lt).lt)
                    have HSM := kept (same_any D.A C.A D.n C.n D.c C.c D.xs C.xs (wr.alloc (.cells #[.slice D.A D.n D.c, .int .i64 D.q.1, .int .i64 D.q.2, .bool D.t] 59)) (hdr.below hbd) ((HCR.out.below HI7.out).below hbd) _ rfl)
                    clear hdr hDn hDp hbd hpn hp hp0
                    go_upto_region 29 with fail
                    generalize wr.alloc (.cells #[.slice D.A D.n D.c, .int .i64 D.q.1, .int .i64 D.q.2, .bool D.t] 59) = W8 at HBD HDB HC7 HSM ⊢
                    clear d0 d1 d2 d3
                    have u0 : W8.cell? ⟨wr.heap.size, 0, none⟩ = some (.slice D.A D.n D.c) := HDB.out.cell 0
                    have u1 : W8.cell? ⟨wr.heap.size, 1, none⟩ = some (.int .i64 D.q.1) := HDB.out.cell 1
                    have u2 : W8.cell? ⟨wr.heap.size, 2, none⟩ = some (.int .i64 D.q.2) := HDB.out.cell 2
                    have u3 : W8.cell? ⟨wr.heap.size, 3, none⟩ = some (.bool D.t) := HDB.out.cell 3
                    have v0 : W8.cell? ⟨wc.heap.size, 0, none⟩ = some (.slice C.A C.n C.c) := HC7.out.cell 0
                    have v1 : W8.cell? ⟨wc.heap.size, 1, none⟩ = some (.int .i64 C.q.1) := HC7.out.cell 1
                    have v2 : W8.cell? ⟨wc.heap.size, 2, none⟩ = some (.int .i64 C.q.2) := HC7.out.cell 2
                    have v3 : W8.cell? ⟨wc.heap.size, 3, none⟩ = some (.bool C.t) := HC7.out.cell 3
                    have hrv := fun W => eql_rev D.q.1 D.q.2 C.q.1 C.q.2 W
                    by_cases h1 : D.q.1 = C.q.1 ∧ D.q.2 = C.q.2
                    · by_cases h2 : D.t = C.t
                      · by_cases h3 : D.xs = C.xs
                        · have HNE := kept (show D.px = C.px from by unfold ChL.px; rw [h3, h2, show D.q = C.q from Prod.ext h1.1 h1.2])
                          rw [decide_eq_true h3] at HSM
                          have hbt : (D.t == C.t) = true := by rw [h2]; simp
                          simp only [decide_eq_true h1] at hrv
                          clear h1 h2 h3
                          go_wp2_with fail
                          with_reducible refine HSM.out.mono ?_
                          rintro e _ ⟨rfl, rfl⟩
                          go_wp2
                          go_roundw
                          case rel => exact ⟨p + 1, by have := HPNN.out; omega, by rw [HWP.out]; go_num, by rw [HFN.out, if_pos HNE.out, HWF.out], kept (bel_to HBD.out HI7.out)⟩
                          case measure => exact measY HPNN.out _ HWP.out
                        · have HNE := kept (show ¬ D.px = C.px from fun e => h3 (congrArg Prod.fst e))
                          rw [decide_eq_false h3] at HSM
                          have hbt : (D.t == C.t) = true := by rw [h2]; simp
                          simp only [decide_eq_true h1] at hrv
                          clear h1 h2 h3
                          go_wp2_with fail
                          with_reducible refine HSM.out.mono ?_
                          rintro e _ ⟨rfl, rfl⟩
                          go_wp2
                          go_roundw
                          case rel => exact ⟨p + 1, by have := HPNN.out; omega, by rw [HWP.out]; go_num, by rw [HFN.out, if_neg HNE.out, Nat.add_zero], kept (bel_to HBD.out HI7.out)⟩
                          case measure => exact measY HPNN.out _ HWP.out
                      · have HNE := kept (show ¬ D.px = C.px from fun e => h2 (congrArg (fun c => c.2.2) e))
                        have hbt : (D.t == C.t) = false := by simpa using h2
                        simp only [decide_eq_true h1] at hrv
                        clear h1 h2 HSM
                        go_wp2
                        go_roundw
                        case rel => exact ⟨p + 1, by have := HPNN.out; omega, by rw [HWP.out]; go_num, by rw [HFN.out, if_neg HNE.out, Nat.add_zero], kept (bel_to HBD.out HI7.out)⟩
                        case measure => exact measY HPNN.out _ HWP.out
                    · have HNE := kept (show ¬ D.px = C.px from fun e => h1 (by have h := congrArg (fun c => c.2.1) e; have h : D.q = C.q := h; rw [h]; exact ⟨rfl, rfl⟩))
                      simp only [decide_eq_false h1] at hrv
                      clear h1 HSM
                      go_wp2
                      go_roundw
                      case rel => exact ⟨p + 1, by have := HPNN.out; omega, by rw [HWP.out]; go_num, by rw [HFN.out, if_neg HNE.out, Nat.add_zero], kept (bel_to HBD.out HI7.out)⟩
                      case measure => exact measY HPNN.out _ HWP.out
                  · obtain rfl : p = n5 := by omega
                    rw [HF5.out]
                    clear hpn hp hp0
                    have HC7 := kept (HCB.out.below HI7.out HCB.out.lt)
                    have v0 : wr.cell? ⟨wc.heap.size, 0, none⟩ = some (.slice C.A C.n C.c) := HC7.out.cell 0
                    have HB57 := kept (bel_to (bel_to HI7.out (bel_to HB67.out HB6.out)) HB5.out)
                    have HSM := kept (same_any C.A K.A C.n K.n C.c K.c C.xs K.xs wr (HCR.out.below HI7.out) (HKR.out.1.keeps (Keeps.of_below (bel_to HB57.out HB3.out))) true (decide_eq_true HCK.out))
                    go_wp2_with fail
                    with_reducible refine HSM.out.mono ?_
                    rintro e _ ⟨rfl, rfl⟩
                    go_wp2
                    go_roundw
                    case rel => exact ⟨q + 1, by have := HQN.out; omega, by rw [HWQ.out]; go_num, by rw [HWN.out], kept (bel_to HI7.out HB67.out)⟩
                    case measure => exact measY HQN.out _ HWQ.out
              · obtain rfl : q = n6 := by omega
                have HPQ : Hid (psum ks gf i + q = psum ks gf (i + 1)) := kept (by rw [HPN.out, HN6.out])
                clear hqn hq
                go_wp2
                go_roundw
                case rel => exact ⟨i + 1, by have := HIN.out; omega, by rw [HWI.out]; go_num, by rw [HPQ.out], kept (bel_to HI6.out HB6.out)⟩
                case measure => exact measY HIN.out _ HWI.out
          · obtain rfl : i = nk := by omega
            rw [HTOT.out]
            have H6 : Hid (Below w5.heap.size w5 wr) := HI
            clear HI hin hi hi0
            go_wp2
            go_loopw [122] (fun p' wr => ∃ (p : Nat), p ≤ n5 ∧ p' = .int .i64 (p : Int) ∧ Hid (Below w5.heap.size w5 wr)) (fun p' _ => n5 - (intOf p').toNat)
            case atStart => exact ⟨0, Nat.zero_le _, rfl, H6⟩
            case round =>
              obtain ⟨p, hp, rfl, HI⟩ := hrel
              clear H6
              have hp0 : (0 : Int) ≤ (p : Int) := by omega
              by_cases hpn : p < n5
              · have hpn' : (p : Int) < (n5 : Int) := by omega
                have HPNN := kept hpn
                have HWP : Hid (wrap64 ((p : Int) + 1) = (p : Int) + 1) := kept (IntWalk.wrap64_in _ ⟨by omega, by have := HL5.out; omega⟩)
                rcases Nat.eq_zero_or_pos p with h0 | h0
                · subst h0
                  have hz : decide ((0 : Int) < ((0 : Nat) : Int)) = false := by simp
                  clear hpn hp hp0
                  go_wp2
                  go_quiet (fail)
                  go_wp2
                  go_roundw
                  case rel => exact ⟨0 + 1, by have := HPNN.out; omega, by first | rfl | go_num, kept (drewN_below HI.out _)⟩
                  case measure => first | exact measY HPNN.out 1 rfl | (have := HPNN.out; simp [intOf]; omega)
                · obtain ⟨r, hr⟩ : ∃ r, r + 1 = p := ⟨p - 1, by omega⟩
                  obtain ⟨g1, hA5, D, hDp, ⟨d0, d1, d2, d3⟩, _, _⟩ := (HO5.out.below HI.out).at_ (i := r) (by omega)
                  obtain ⟨g2, hA52, C, hCp, ⟨c0, c1, c2, c3⟩, _, _⟩ := (HO5.out.below HI.out).at_ (i := p) hpn
                  obtain rfl : g1 = g2 := by rw [hA5] at hA52; injection hA52 with e; injection e
                  subst hA5
                  have hst : ltR D.q C.q = true := by
                    have h1 := List.pairwise_iff_getElem.1 HST.out r p (by rw [HO5.out.ln]; omega) (by rw [HO5.out.ln]; omega) (by omega)
                    rw [(List.getElem?_eq_some_iff.1 hDp).2, (List.getElem?_eq_some_iff.1 hCp).2] at h1
                    exact h1
                  rw [ltR_iff] at hst
                  have hgt : (0 : Int) < (p : Int) := by omega
                  have hws : wrap64 ((p : Int) - 1) = (r : Int) := by rw [IntWalk.wrap64_in _ ⟨by omega, by have := HL5.out; omega⟩]; omega
                  have hr0 : (0 : Int) ≤ (r : Int) := by omega
                  have hrn : (r : Int) < (n5 : Int) := by omega
                  have hgd2 : decide (0 < p) = true := decide_eq_true h0
                  clear d0 d3 c0 c3 hDp hCp hA52 hpn hp hr
                  have hgd : decide ((0 : Int) < (p : Int)) = true := decide_eq_true hgt
                  rcases hst with h1 | ⟨h1, h2⟩
                  · have e1 : decide (D.q.1 < C.q.1) = true := decide_eq_true h1
                    go_wp2
                    go_quiet (fail)
                    go_wp2
                    go_roundw
                    case rel => exact ⟨p + 1, by have := HPNN.out; omega, by rw [HWP.out]; go_num, kept (drewN_below HI.out _)⟩
                    case measure => exact measY HPNN.out _ HWP.out
                  · have e1 : decide (D.q.1 < C.q.1) = false := decide_eq_false (by omega)
                    have e2 : (D.q.1 == C.q.1) = true := by rw [h1]; simp
                    have e3 : decide (D.q.2 < C.q.2) = true := decide_eq_true h2
                    go_wp2
                    go_quiet (fail)
                    go_wp2
                    go_roundw
                    case rel => exact ⟨p + 1, by have := HPNN.out; omega, by rw [HWP.out]; go_num, kept (drewN_below HI.out _)⟩
                    case measure => exact measY HPNN.out _ HWP.out
              · obtain rfl : p = n5 := by omega
                go_wp2
                go_returns
                exact ⟨by simp, bel_to HI.out (bel_to HB5.out HB3.out)⟩
end indexSplits
end Go.Proofs.YtlckeebbjnhejaaGreat
end
