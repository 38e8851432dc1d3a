/-
  package gens, call by call: slices.Clone of revisions and of generations; Copy.
-/
import Derived.Test.YthpaliagmnclfaaGw
namespace Go.Proofs.Ythpaliagmnclfaa
open Go.ChangeShapes Go.WideShapes Go.ChangeAt Go.RowKit Go.Deep
set_option linter.unusedVariables false
set_option linter.unusedSimpArgs false

set_option maxRecDepth 100000 in
theorem cloR_any (A : Option Addr) (n c : Nat) (V : List Value) (w : World) (h : w.ownsRow 0 29 2 (.slice A n c) n V) (h1c : ∀ u ∈ V, u.oneCell' = true) (hn : n ≤ 1000000) :
    Calls Try.prog 17 #[.slice A n c] w fun e w' => ∃ A' c', e = .returned (.slice A' n c') ∧ w'.ownsRow w.heap.size 29 2 (.slice A' n c') n V ∧ Below w.heap.size w w' := by
  have q : ∀ (w : World) (a : Option Addr) (n c n' c' : Nat), (binOp .eql 58 (.slice a n c) (.slice none n' c')).run Try.prog w = .ok (.bool a.isNone) w := fun w a n c n' c' => Lib.run_eql_slice_nil w _ _ a n c n' c' Try.underlying58
  obtain ⟨h1, h2, h3⟩ := gown_cap h
  have hl := h.1
  cases A with
  | none =>
    obtain ⟨rfl, rfl⟩ := h3 rfl
    obtain rfl : V = [] := List.eq_nil_of_length_eq_zero (by omega)
    clear h
    go_enter Try.func17, Try.ntmps17
    go_wp2
    go_ret
    exact ⟨none, 0, rfl, World.ownsRow_nil _ _ _ _, Below.refl _ _⟩
  | some ad =>
    have had : ∃ g, ad = ⟨g, 0, none⟩ := by
      rcases h.2 with ⟨e0, _⟩ | ⟨g, cap, cur, hv, _⟩
      · cases e0
      · injection hv with hA _ _
        exact ⟨g, by injection hA⟩
    obtain ⟨g, rfl⟩ := had
    have hb0 := (Below.refl w.heap.size w).alloc (Nat.le_refl _) (.cells #[] 29)
    have HC := kept (fun j u (hu : V[j]? = some u) => (Keeps.of_below hb0).cell_ (h.cells (g := g) rfl j u hu))
    have HO : Hid ((w.alloc (.cells #[] 29)).ownsRow w.heap.size 29 2 (.slice (some ⟨w.heap.size, 0, none⟩) 0 0) 0 []) := kept ⟨rfl, .inr ⟨w.heap.size, 0, #[], rfl, Nat.le_refl _, Blk.new w 29 #[], Nat.le_refl _, Nat.zero_le _, rfl, rfl⟩⟩
    have HB := kept hb0
    have HSZ := kept (show w.heap.size ≤ (w.alloc (.cells #[] 29)).heap.size by simp)
    clear h hb0 h3
    go_enter Try.func17, Try.ntmps17
    go_wp2_with (first | (at_builtin; refine wpList_append_g rfl _ _ 58 rfl 29 ⟨g, 0, none⟩ rfl rfl Try.underlying58 revinfo rfl (by decide) (by decide) HO.out (by exact hl) HC.out h1c (by omega) HSZ.out ?_; intro A8 c8 w8 h8 g8 loc8; have H8 := kept (And.intro h8 g8); clear h8 g8 loc8))
    go_returns
    obtain ⟨h8, g8⟩ := H8.out
    rw [Nat.zero_add, List.nil_append] at h8
    refine ⟨A8, c8, rfl, h8, HB.out.grown g8 HSZ.out (fun j hj => ?_)⟩
    simp [Value.ownBlock] at hj
    omega
set_option maxRecDepth 100000 in
theorem cloG_any (A : Option Addr) (n c : Nat) (V : List Value) (w : World) (h : w.ownsRow 0 60 5 (.slice A n c) n V) (h1c : ∀ u ∈ V, u.oneCell' = true) (hn : n ≤ 1000000) :
    Calls Try.prog 16 #[.slice A n c] w fun e w' => ∃ A' c', e = .returned (.slice A' n c') ∧ w'.ownsRow w.heap.size 60 5 (.slice A' n c') n V ∧ Below w.heap.size w w' := by
  have q : ∀ (w : World) (a : Option Addr) (n c n' c' : Nat), (binOp .eql 52 (.slice a n c) (.slice none n' c')).run Try.prog w = .ok (.bool a.isNone) w := fun w a n c n' c' => Lib.run_eql_slice_nil w _ _ a n c n' c' Try.underlying52
  obtain ⟨h1, h2, h3⟩ := gown_cap h
  have hl := h.1
  cases A with
  | none =>
    obtain ⟨rfl, rfl⟩ := h3 rfl
    obtain rfl : V = [] := List.eq_nil_of_length_eq_zero (by omega)
    clear h
    go_enter Try.func16, Try.ntmps16
    go_wp2
    go_ret
    exact ⟨none, 0, rfl, World.ownsRow_nil _ _ _ _, Below.refl _ _⟩
  | some ad =>
    have had : ∃ g, ad = ⟨g, 0, none⟩ := by
      rcases h.2 with ⟨e0, _⟩ | ⟨g, cap, cur, hv, _⟩
      · cases e0
      · injection hv with hA _ _
        exact ⟨g, by injection hA⟩
    obtain ⟨g, rfl⟩ := had
    have hb0 := (Below.refl w.heap.size w).alloc (Nat.le_refl _) (.cells #[] 60)
    have HC := kept (fun j u (hu : V[j]? = some u) => (Keeps.of_below hb0).cell_ (h.cells (g := g) rfl j u hu))
    have HO : Hid ((w.alloc (.cells #[] 60)).ownsRow w.heap.size 60 5 (.slice (some ⟨w.heap.size, 0, none⟩) 0 0) 0 []) := kept ⟨rfl, .inr ⟨w.heap.size, 0, #[], rfl, Nat.le_refl _, Blk.new w 60 #[], Nat.le_refl _, Nat.zero_le _, rfl, rfl⟩⟩
    have HB := kept hb0
    have HSZ := kept (show w.heap.size ≤ (w.alloc (.cells #[] 60)).heap.size by simp)
    clear h hb0 h3
    go_enter Try.func16, Try.ntmps16
    go_wp2_with (first | (at_builtin; refine wpList_append_g rfl _ _ 52 rfl 60 ⟨g, 0, none⟩ rfl rfl Try.underlying52 geninfo rfl (by decide) (by decide) HO.out (by exact hl) HC.out h1c (by omega) HSZ.out ?_; intro A8 c8 w8 h8 g8 loc8; have H8 := kept (And.intro h8 g8); clear h8 g8 loc8))
    go_returns
    obtain ⟨h8, g8⟩ := H8.out
    rw [Nat.zero_add, List.nil_append] at h8
    refine ⟨A8, c8, rfl, h8, HB.out.grown g8 HSZ.out (fun j hj => ?_)⟩
    simp [Value.ownBlock] at hj
    omega
theorem own_mono_ {w : World} {base base' : Nat} {e : TypeId} {sz : Nat} {v : Value} {n : Nat} {xs : List Value} (h : w.ownsRow base e sz v n xs) (hb : base' ≤ base) : w.ownsRow base' e sz v n xs := by
  refine ⟨h.1, ?_⟩
  rcases h.2 with h0 | ⟨g, cap, cur, hv, hg, r⟩
  · exact .inl h0
  · exact .inr ⟨g, cap, cur, hv, Nat.le_trans hb hg, r⟩
theorem gfrozen_ {w : World} {g : Nat} {e : TypeId} {cur : Array Value} (h : w.heap[g]? = some (.cells cur e (0, 0))) (i : Nat) : w.frozen? ⟨g, i, none⟩ = false := by simp [World.frozen?, h]
/-- Between two rounds of Copy: the first i rows are apart. -/
structure CpI (w : World) (A' : Option Addr) (n c' : Nat) (Ls : List GL) (gs : List Gn) (Ls' : List GL) (i : Nat) (wi : World) : Prop where
  len : Ls'.length = n
  own : wi.ownsRow w.heap.size 60 5 (.slice A' n c') n (glC Ls')
  at_ : ∀ j (h1 : j < Ls'.length) (h2 : j < gs.length), j < i → GlAt wi Ls'[j] gs[j] ∧ ∀ g, Ls'[j].row.ownBlock = some g → w.heap.size ≤ g
  same : ∀ j (h1 : j < Ls'.length) (h2 : j < Ls.length), i ≤ j → Ls'[j] = Ls[j]
  ap : ∀ a b (h1 : a < Ls'.length) (h2 : b < Ls'.length), a < i → b < i → a ≠ b → ∀ g, Ls'[a].row.ownBlock = some g → Ls'[b].row.ownBlock ≠ some g
  bel : Below w.heap.size w wi
theorem CpI.below {w wi w' : World} {A' : Option Addr} {n c' i : Nat} {Ls : List GL} {gs : List Gn} {Ls' : List GL} (h : CpI w A' n c' Ls gs Ls' i wi) (hb : Below wi.heap.size wi w') : CpI w A' n c' Ls gs Ls' i w' :=
  ⟨h.len, gown_turned h.own (Turned.of_below hb (fun _ => False)) (fun _ _ e => e), fun j h1 h2 hj => ⟨(h.at_ j h1 h2 hj).1.below hb, (h.at_ j h1 h2 hj).2⟩, h.same, h.ap, bel_to hb h.bel⟩
/-- One row more is apart. -/
theorem CpI.step {w wi w2 : World} {A' : Option Addr} {n c' i : Nat} {Ls : List GL} {gs : List Gn} {Ls' : List GL} (h : CpI w A' n c' Ls gs Ls' i wi) {g2 : Nat} (hA : A' = some ⟨g2, 0, none⟩) (hi : i < Ls'.length) (hg : i < gs.length) (hx : GlAt wi Ls'[i] gs[i]) (B : Option Addr) (k : Nat)
    (hb : Below wi.heap.size wi w2) (hown : w2.ownsRow wi.heap.size 29 2 (.slice B Ls'[i].n k) Ls'[i].n (rvC gs[i].ps)) :
    CpI w A' n c' Ls gs (Ls'.set i { Ls'[i] with A := B, k := k }) (i + 1) (w2.setCell ⟨g2, i * 5 + 2, none⟩ (.slice B Ls'[i].n k)) := by
  have h2 := h.below hb
  have ho2 := h2.own
  rw [hA] at ho2
  have hs := gown_set ho2 (i * 5 + 2) (.slice B Ls'[i].n k)
  rw [glC_set Ls' i hi 2 (.slice B Ls'[i].n k) { Ls'[i] with A := B, k := k } (by decide) rfl] at hs
  have hg2 : w.heap.size ≤ g2 ∧ g2 < wi.heap.size := by
    have := gown_lt h.own (g := g2) (by rw [hA]; rfl)
    exact this
  have tX : Turned w2 (w2.setCell ⟨g2, i * 5 + 2, none⟩ (.slice B Ls'[i].n k)) (fun j => j = g2) := (Turned.refl w2 (fun j => j = g2)).setCell (p := ⟨g2, i * 5 + 2, none⟩) (fun _ => rfl) _
  obtain ⟨cg, hcg⟩ := gown_cl (k := 0) ho2 (g := g2) rfl
  have hnew : ∀ j, (Value.slice B Ls'[i].n k).ownBlock = some j → wi.heap.size ≤ j := fun j hj => (gown_lt hown hj).1
  refine ⟨by simp [h.len], by rw [hA]; exact hs, fun j h1 h3 hj => ?_, fun j h1 h3 hj => ?_, fun a b h1 h3 ha hb' hab g hga => ?_, h2.bel.setCell (p := ⟨g2, i * 5 + 2, none⟩) hg2.1 _⟩
  · rw [List.length_set] at h1
    rw [List.getElem_set]
    by_cases hij : i = j
    · subst hij
      rw [if_pos rfl]
      refine ⟨⟨hx.c, hx.v, hx.e, hx.n, ?_⟩, fun g hg => Nat.le_trans h.bel.size (hnew g hg)⟩
      refine own_mono_ (gown_turned hown tX (fun j hj e => ?_)) (Nat.zero_le _)
      have := hnew j hj
      omega
    · rw [if_neg hij]
      obtain ⟨y1, y2⟩ := h2.at_ j h1 h3 (by omega)
      refine ⟨y1.turned tX (fun q hq e => ?_), y2⟩
      obtain ⟨cq, hcq⟩ := gown_cl (k := 0) y1.own hq
      exact ne_of_types hcq hcg (by decide) e
  · rw [List.length_set] at h1
    rw [List.getElem_set, if_neg (by omega)]
    exact h.same j h1 h3 (by omega)
  · rw [List.length_set] at h1 h3
    rw [List.getElem_set] at hga ⊢
    have hold : ∀ j (h1 : j < Ls'.length), j < i → ∀ g, Ls'[j].row.ownBlock = some g → g < wi.heap.size := fun j h1 hj g hg => (h.at_ j h1 (by rw [h.len] at h1 hi; omega) hj).1.lt hg
    by_cases hia : i = a
    · subst hia
      rw [if_pos rfl] at hga
      rw [if_neg hab]
      intro e2
      have y1 := hold b h3 (by omega) g e2
      have y2 := hnew g hga
      omega
    · rw [if_neg hia] at hga
      have y1 := hold a h1 (by omega) g hga
      by_cases hib : i = b
      · rw [if_pos hib]
        intro e2
        have y2 := hnew g e2
        omega
      · rw [if_neg hib]
        exact h.ap a b h1 h3 (by omega) (by omega) hab g hga
set_option maxRecDepth 100000 in
set_option maxHeartbeats 2000000 in
theorem gcopy_any {w : World} {r : Nat} {F : Nat → Prop} {gs : List Gn} (h : Gs w r F gs) {N : Nat} (hN : BdG gs N) (hn : N ≤ 900000) :
    Calls Try.prog 9 #[.pointer (some ⟨r, 0, none⟩)] w fun e w' => ∃ r' F', e = .returned (.pointer (some ⟨r', 0, none⟩)) ∧ Gs w' r' F' gs ∧ (∀ j, F' j → w.heap.size ≤ j) ∧ Below w.heap.size w w' := by
  obtain ⟨A, n, k, Ls, h, hF⟩ := h
  have hnN : n ≤ N := by rw [← h.gn]; exact hN.1
  have hNs := hN.2
  have HC := kept (cloG_any A n k (glC Ls) w h.own (glC_one _) (by omega))
  have hr : w.cell? ⟨r, 0, none⟩ = some (.slice A n k) := h.box.cell 0
  have HH := kept h
  have hnn : (n : Int) ≤ 900000 := by omega
  clear h hF hN
  go_enter Try.func9, Try.ntmps9
  go_wp2_with fail
  with_reducible refine HC.out.mono ?_
  rintro e w1 ⟨A', c', rfl, hown, hb⟩
  have H0 : Hid (CpI w A' n c' Ls gs Ls 0 w1) := kept ⟨HH.out.ln, hown, fun j _ _ hj => absurd hj (by omega), fun _ _ _ _ => rfl, fun a b _ _ ha => absurd ha (by omega), hb⟩
  clear hown hb HC hr
  go_wp2
  go_loopw [15] (fun i wr => ∃ j : Nat, j ≤ n ∧ i = .int .i64 (j : Int) ∧ ∃ Ls', Hid (CpI w A' n c' Ls gs Ls' j wr)) (fun i _ => n - (intOf i).toNat)
  case atStart => exact ⟨0, Nat.zero_le _, rfl, Ls, H0⟩
  case round =>
    obtain ⟨j, hj, rfl, Ls', HI⟩ := hrel
    clear H0
    by_cases hjn : j < n
    · have hi := HI.out
      have hl1 : j < Ls'.length := by rw [hi.len]; exact hjn
      have hl2 : j < gs.length := by rw [HH.out.gn]; exact hjn
      have hl3 : j < Ls.length := by rw [HH.out.ln]; exact hjn
      have hsame := hi.same j hl1 hl3 (Nat.le_refl _)
      have hx := (HH.out.below hi.bel).el j hl3 hl2
      rw [← hsame] at hx
      obtain ⟨g2, hA, _, hgl, _, _, hc⟩ := gown_at hi.own (by omega)
      have hcc := fun q (hq : q < 5) => glC_at Ls' j hl1 q hq
      have c0 := hc _ _ (hcc 0 (by omega))
      have c1 := hc _ _ (hcc 1 (by omega))
      have c2 := hc _ _ (hcc 2 (by omega))
      have c3 := hc _ _ (hcc 3 (by omega))
      have c4 := hc _ _ (hcc 4 (by omega))
      have hST := fun B k w2 hb ho => hi.step hA hl1 hl2 hx B k (w2 := w2) hb ho
      obtain ⟨cg, hcg⟩ := gown_cl (k := 0) hi.own (g := g2) (by rw [hA]; rfl)
      generalize hLd : Ls'[j] = L at hST hx c0 c1 c2 c3 c4
      have hxn : gs[j].ps.length ≤ 900000 := by have := hNs gs[j] (List.getElem_mem hl2); omega
      generalize gs[j] = x at hST hx hxn
      replace c0 : wr.cell? ⟨g2, j * 5, none⟩ = some (.int .i64 L.c) := c0
      replace c1 : wr.cell? ⟨g2, j * 5 + 1, none⟩ = some (.int .i64 L.v) := c1
      replace c2 : wr.cell? ⟨g2, j * 5 + 2, none⟩ = some (.slice L.A L.n L.k) := c2
      replace c3 : wr.cell? ⟨g2, j * 5 + 3, none⟩ = some (.int .i64 L.e.1) := c3
      replace c4 : wr.cell? ⟨g2, j * 5 + 4, none⟩ = some (.int .i64 L.e.2) := c4
      have hj0 : (0 : Int) ≤ (j : Int) := by omega
      have hjn' : (j : Int) < (n : Int) := by omega
      have hwj : wrap64 ((j : Int) + 1) = (j : Int) + 1 := IntWalk.wrap64_in _ ⟨by omega, by omega⟩
      have hbW : Below wr.heap.size wr (wr.alloc (.cells #[.int .i64 L.c, .int .i64 L.v, .slice L.A L.n L.k, .int .i64 L.e.1, .int .i64 L.e.2] 60)) := (Below.refl _ wr).alloc (Nat.le_refl _) _
      have HCL := kept (cloR_any L.A L.n L.k (rvC x.ps) (wr.alloc (.cells #[.int .i64 L.c, .int .i64 L.v, .slice L.A L.n L.k, .int .i64 L.e.1, .int .i64 L.e.2] 60)) (hx.below hbW).own (rvC_one _) (by rw [hx.n]; omega))
      have HST := kept hST
      have HCX := kept (And.intro hbW (And.intro hcg (And.intro hgl (show Blk (wr.alloc (.cells #[.int .i64 L.c, .int .i64 L.v, .slice L.A L.n L.k, .int .i64 L.e.1, .int .i64 L.e.2] 60)) wr.heap.size 60 [.int .i64 L.c, .int .i64 L.v, .slice L.A L.n L.k, .int .i64 L.e.1, .int .i64 L.e.2] from Blk.new wr 60 #[.int .i64 L.c, .int .i64 L.v, .slice L.A L.n L.k, .int .i64 L.e.1, .int .i64 L.e.2]))))
      have HC2 := kept c2
      subst hA
      clear hi hl1 hl2 hl3 hsame hx hgl hc hcc hST hcg hLd hbW hxn HI hjn hj
      go_wp2_with fail
      with_reducible refine HCL.out.mono ?_
      rintro e w2 ⟨B, k2, rfl, hown2, hb2⟩
      have hb12 := bel_to hb2 HCX.out.1
      have d2 := (Keeps.of_below hb12).cell_ HC2.out
      obtain ⟨hbW, hcg, hgl, hbk⟩ := HCX.out
      have f2 : w2.frozen? ⟨g2, j * 5 + 2, none⟩ = false := gfrozen_ ((hb12.block g2 hgl).trans hcg) (j * 5 + 2)
      have HN2 := kept (HST.out B k2 w2 hb12 (own_mono_ hown2 hbW.size))
      clear hown2 hb2 hb12 hbW hcg hgl hbk c0 c1 c2 c3 c4 HCL HST
      have HJ := kept (show j + 1 ≤ n by omega)
      have HJ2 := kept (show j < n by omega)
      go_wp2
      go_roundw
      case rel => exact ⟨j + 1, HJ.out, by go_num, _, HN2⟩
      case measure => have := HJ2.out; simp [intOf]; omega
    · obtain rfl : j = n := by omega
      have hi := HI.out
      have hb := (Below.refl wr.heap.size wr).alloc (Nat.le_refl _) (.cells #[.slice A' j c'] 54)
      have hi2 := hi.below hb
      have hbk := Blk.new wr 54 #[.slice A' j c']
      have hgs : GsL (wr.alloc (.cells #[.slice A' j c'] 54)) wr.heap.size A' j c' Ls' gs := by
        refine ⟨hbk, hi.len, HH.out.gn, own_mono_ hi2.own (Nat.zero_le _), fun a h1 h2 => (hi2.at_ a h1 h2 (by rw [← hi.len]; exact h1)).1, fun a b h1 h2 hab => hi2.ap a b h1 h2 (by rw [← hi.len]; exact h1) (by rw [← hi.len]; exact h2) hab⟩
      have HG := kept (And.intro hgs (And.intro (show ∀ q, footG wr.heap.size A' j c' Ls' q → w.heap.size ≤ q from fun q hq => by
        rcases hq with e | e | ⟨L, hL, e⟩
        · rw [e]; exact hi.bel.size
        · exact (gown_lt hi.own e).1
        · obtain ⟨a, ha, rfl⟩ := List.getElem_of_mem hL
          exact (hi.at_ a ha (by rw [HH.out.gn, ← hi.len]; exact ha) (by rw [← hi.len]; exact ha)).2 q e) (bel_to hb hi.bel)))
      clear hi hb hi2 hbk hgs HI
      go_wp2
      go_ret
      exact ⟨wr.heap.size, _, rfl, ⟨A', j, c', Ls', HG.out.1, fun _ => Iff.rfl⟩, HG.out.2.1, HG.out.2.2⟩
end Go.Proofs.Ythpaliagmnclfaa
