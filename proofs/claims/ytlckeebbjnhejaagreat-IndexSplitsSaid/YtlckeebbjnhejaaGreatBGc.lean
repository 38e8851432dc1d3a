/-
  Texts laid together: Gc Gd Ge.
-/
import Derived.Test.YtlckeebbjnhejaaGreatBVo
import Derived.Test.YtlckeebbjnhejaaGreatBTu
import Derived.Maps.AppendAt
section
/-
  package gens in memory: a generation's cells, a history (its block, its row of generations, their rows of puts), what may turn.
-/
namespace Go.Proofs.YtlckeebbjnhejaaGreat
open Go.ChangeShapes Go.WideShapes Go.ChangeAt Go.RowKit Go.Deep
set_option linter.unusedVariables false
set_option linter.unusedSimpArgs false

/-! ### rows -/
theorem gadd_at (b o j : Nat) : (⟨b, o, none⟩ : Addr).add j = ⟨b, o + j, none⟩ := by unfold Addr.add; split <;> simp_all
theorem gown_turned {w w' : World} {T : Nat → Prop} {base sz n : Nat} {e : TypeId} {v : Value} {xs : List Value} (h : w.ownsRow base e sz v n xs) (t : Turned w w' T) (hn : ∀ g, v.ownBlock = some g → ¬ T g) : w'.ownsRow base e sz v n xs := by
  refine ⟨h.1, ?_⟩
  rcases h.2 with h0 | ⟨g, cap, cur, rfl, hb, hh, r⟩
  · exact .inl h0
  · exact .inr ⟨g, cap, cur, rfl, hb, (t.block g (Array.getElem?_eq_some_iff.1 hh).1 (hn g rfl)).trans hh, r⟩
theorem gown_lt {w : World} {base sz n : Nat} {e : TypeId} {v : Value} {xs : List Value} (h : w.ownsRow base e sz v n xs) {g : Nat} (hg : v.ownBlock = some g) : base ≤ g ∧ g < w.heap.size := h.lt g hg
/-- A row's block, and its cells. -/
theorem gown_at {w : World} {base sz n k : Nat} {e : TypeId} {A : Option Addr} {xs : List Value} (h : w.ownsRow base e sz (.slice A n k) n xs) (hn : 0 < n) : ∃ g, A = some ⟨g, 0, none⟩ ∧ base ≤ g ∧ g < w.heap.size ∧ n ≤ k ∧ k ≤ maxLen ∧ ∀ j u, xs[j]? = some u → w.cell? ⟨g, j, none⟩ = some u := by
  rcases h.2 with ⟨e0, h0⟩ | ⟨g, cap, cur, hv, hb, hh, h1, h2, h3, h4⟩
  · omega
  · injection hv with hA _ hc
    subst hA hc
    refine ⟨g, rfl, hb, (Array.getElem?_eq_some_iff.1 hh).1, h1, h2, fun j u hu => ?_⟩
    have := h.cells (g := g) rfl j u hu
    rwa [gadd_at, Nat.zero_add] at this
theorem gown_cap {w : World} {base sz n k : Nat} {e : TypeId} {A : Option Addr} {xs : List Value} (h : w.ownsRow base e sz (.slice A n k) n xs) : n ≤ k ∧ k ≤ maxLen ∧ (A = none → n = 0 ∧ k = 0) := by
  rcases h.2 with ⟨e0, h0⟩ | ⟨g, cap, cur, hv, hb, hh, h1, h2, h3, h4⟩
  · injection e0 with e1 e2 e3
    subst e1 e2 e3
    exact ⟨Nat.le_refl _, Nat.zero_le _, fun _ => ⟨rfl, rfl⟩⟩
  · injection hv with hA _ hc
    subst hA hc
    exact ⟨h1, h2, fun e => by cases e⟩
/-- Revisions as cells. -/
def rvC (ps : List Rv) : List Value := ps.flatMap fun p => [.int .i64 p.1, .int .i64 p.2]
theorem rvC_cons (p : Rv) (ps : List Rv) : rvC (p :: ps) = .int .i64 p.1 :: .int .i64 p.2 :: rvC ps := rfl
theorem rvC_length : ∀ ps : List Rv, (rvC ps).length = ps.length * 2
  | [] => rfl
  | p :: ps => by rw [rvC_cons]; simp [rvC_length ps]; omega
theorem rvC_append (a b : List Rv) : rvC (a ++ b) = rvC a ++ rvC b := by simp [rvC]
theorem rvC_one (ps : List Rv) : ∀ u ∈ rvC ps, u.oneCell' = true := by
  intro u hu
  unfold rvC at hu
  obtain ⟨p, _, hp⟩ := List.mem_flatMap.1 hu
  simp only [List.mem_cons, List.not_mem_nil, or_false] at hp
  rcases hp with rfl | rfl <;> rfl
theorem rvC_at : ∀ (ps : List Rv) (i : Nat) (h : i < ps.length), (rvC ps)[i * 2]? = some (.int .i64 ps[i].1) ∧ (rvC ps)[i * 2 + 1]? = some (.int .i64 ps[i].2)
  | p :: ps, 0, _ => ⟨rfl, rfl⟩
  | p :: ps, i + 1, h => by
    have := rvC_at ps i (by simpa using h)
    rw [rvC_cons, show (i + 1) * 2 = i * 2 + 1 + 1 by omega]
    simpa using this
theorem rvC_drop (ps : List Rv) : ∀ k, (rvC ps).drop (k * 2) = rvC (ps.drop k) := by
  induction ps with
  | nil => intro k; simp [rvC]
  | cons p ps ih =>
    intro k
    cases k with
    | zero => simp
    | succ k =>
      rw [rvC_cons, show (k + 1) * 2 = k * 2 + 1 + 1 by omega]
      simpa using ih k
/-- Where a generation's row of puts lies, beside its numbers. -/
structure GL where
  c : Int
  v : Int
  A : Option Addr
  n : Nat
  k : Nat
  e : Rv
def GL.row (L : GL) : Value := .slice L.A L.n L.k
def GL.cells (L : GL) : List Value := [.int .i64 L.c, .int .i64 L.v, .slice L.A L.n L.k, .int .i64 L.e.1, .int .i64 L.e.2]
def GL.val (L : GL) : Value := .agg #[.int .i64 L.c, .int .i64 L.v, .slice L.A L.n L.k, .int .i64 L.e.1, .int .i64 L.e.2]
def glC (Ls : List GL) : List Value := Ls.flatMap GL.cells
theorem glC_cons (L : GL) (Ls : List GL) : glC (L :: Ls) = L.cells ++ glC Ls := rfl
theorem glC_append (a b : List GL) : glC (a ++ b) = glC a ++ glC b := by simp [glC]
theorem glC_length : ∀ Ls : List GL, (glC Ls).length = Ls.length * 5
  | [] => rfl
  | L :: Ls => by rw [glC_cons, List.length_append, glC_length Ls]; simp [GL.cells]; omega
theorem glC_one (Ls : List GL) : ∀ u ∈ glC Ls, u.oneCell' = true := by
  intro u hu
  obtain ⟨L, _, hp⟩ := List.mem_flatMap.1 hu
  simp only [GL.cells, List.mem_cons, List.not_mem_nil, or_false] at hp
  rcases hp with rfl | rfl | rfl | rfl | rfl <;> rfl
theorem glC_drop (Ls : List GL) : ∀ k, (glC Ls).drop (k * 5) = glC (Ls.drop k) := by
  induction Ls with
  | nil => intro k; simp [glC]
  | cons L Ls ih =>
    intro k
    cases k with
    | zero => simp
    | succ k =>
      rw [glC_cons, show (k + 1) * 5 = k * 5 + 5 by omega]
      show (L.cells ++ glC Ls).drop (k * 5 + 5) = glC (Ls.drop k)
      rw [show k * 5 + 5 = L.cells.length + k * 5 by simp [GL.cells]; omega, ← List.drop_drop, List.drop_left]
      exact ih k
theorem glC_at : ∀ (Ls : List GL) (i : Nat) (h : i < Ls.length) (j : Nat), j < 5 → (glC Ls)[i * 5 + j]? = Ls[i].cells[j]?
  | L :: Ls, 0, _, j, hj => by rw [glC_cons, List.getElem?_append_left (by simp [GL.cells]; omega)]; simp
  | L :: Ls, i + 1, h, j, hj => by
    rw [glC_cons, List.getElem?_append_right (by simp [GL.cells]; omega)]
    have := glC_at Ls i (by simpa using h) j hj
    rw [show (i + 1) * 5 + j - L.cells.length = i * 5 + j by simp [GL.cells]; omega, this]
    simp
/-- A generation as it lies. -/
structure GlAt (w : World) (L : GL) (x : Gn) : Prop where
  c : L.c = x.c
  v : L.v = x.v
  e : L.e = x.e
  n : L.n = x.ps.length
  own : w.ownsRow 0 29 2 (.slice L.A L.n L.k) L.n (rvC x.ps)
theorem GlAt.turned {w w' : World} {T : Nat → Prop} {L : GL} {x : Gn} (h : GlAt w L x) (t : Turned w w' T) (hn : ∀ g, L.row.ownBlock = some g → ¬ T g) : GlAt w' L x := ⟨h.c, h.v, h.e, h.n, gown_turned h.own t hn⟩
theorem GlAt.below {w w' : World} {L : GL} {x : Gn} (h : GlAt w L x) (hb : Below w.heap.size w w') : GlAt w' L x := h.turned (Turned.of_below hb (fun _ => False)) (fun _ _ h => h)
theorem GlAt.lt {w : World} {L : GL} {x : Gn} (h : GlAt w L x) {g : Nat} (hg : L.row.ownBlock = some g) : g < w.heap.size := (gown_lt h.own hg).2
/-- A history as it lies. -/
structure GsL (w : World) (r : Nat) (A : Option Addr) (n k : Nat) (Ls : List GL) (gs : List Gn) : Prop where
  box : Blk w r 102 [.slice A n k]
  ln : Ls.length = n
  gn : gs.length = n
  own : w.ownsRow 0 99 5 (.slice A n k) n (glC Ls)
  el : ∀ (i : Nat) (h1 : i < Ls.length) (h2 : i < gs.length), GlAt w Ls[i] gs[i]
  ap : ∀ (i j : Nat) (h1 : i < Ls.length) (h2 : j < Ls.length), i ≠ j → ∀ g, Ls[i].row.ownBlock = some g → Ls[j].row.ownBlock ≠ some g
def footG (r : Nat) (A : Option Addr) (n k : Nat) (Ls : List GL) (j : Nat) : Prop := j = r ∨ (Value.slice A n k).ownBlock = some j ∨ ∃ L ∈ Ls, L.row.ownBlock = some j
theorem GsL.turned {w w' : World} {T : Nat → Prop} {r : Nat} {A : Option Addr} {n k : Nat} {Ls : List GL} {gs : List Gn} (h : GsL w r A n k Ls gs) (t : Turned w w' T) (hn : ∀ j, footG r A n k Ls j → ¬ T j) : GsL w' r A n k Ls gs :=
  ⟨t.blk h.box (hn r (.inl rfl)), h.ln, h.gn, gown_turned h.own t (fun g hg => hn g (.inr (.inl hg))), fun i h1 h2 => (h.el i h1 h2).turned t (fun g hg => hn g (.inr (.inr ⟨_, List.getElem_mem h1, hg⟩))), h.ap⟩
theorem GsL.below {w w' : World} {r : Nat} {A : Option Addr} {n k : Nat} {Ls : List GL} {gs : List Gn} (h : GsL w r A n k Ls gs) (hb : Below w.heap.size w w') : GsL w' r A n k Ls gs := h.turned (Turned.of_below hb (fun _ => False)) (fun _ _ h => h)
theorem GsL.lt {w : World} {r : Nat} {A : Option Addr} {n k : Nat} {Ls : List GL} {gs : List Gn} (h : GsL w r A n k Ls gs) {j : Nat} (hj : footG r A n k Ls j) : j < w.heap.size := by
  rcases hj with rfl | hj | ⟨L, hL, hj⟩
  · exact h.box.lt
  · exact (gown_lt h.own hj).2
  · obtain ⟨i, hi, rfl⟩ := List.getElem_of_mem hL
    exact (h.el i hi (by rw [h.gn, ← h.ln]; exact hi)).lt hj
/-- A history in block r that lies in the blocks of F. -/
def Gs (w : World) (r : Nat) (F : Nat → Prop) (gs : List Gn) : Prop := ∃ A n k Ls, GsL w r A n k Ls gs ∧ ∀ j, F j ↔ footG r A n k Ls j
theorem Gs.turned {w w' : World} {T F : Nat → Prop} {r : Nat} {gs : List Gn} (h : Gs w r F gs) (t : Turned w w' T) (hn : ∀ j, F j → ¬ T j) : Gs w' r F gs := by
  obtain ⟨A, n, k, Ls, h1, h2⟩ := h
  exact ⟨A, n, k, Ls, h1.turned t (fun j hj => hn j ((h2 j).2 hj)), h2⟩
theorem Gs.below {w w' : World} {F : Nat → Prop} {r : Nat} {gs : List Gn} (h : Gs w r F gs) (hb : Below w.heap.size w w') : Gs w' r F gs := h.turned (Turned.of_below hb (fun _ => False)) (fun _ _ h => h)
theorem Gs.lt {w : World} {F : Nat → Prop} {r : Nat} {gs : List Gn} (h : Gs w r F gs) {j : Nat} (hj : F j) : j < w.heap.size := by
  obtain ⟨A, n, k, Ls, h1, h2⟩ := h
  exact h1.lt ((h2 j).1 hj)
/-- What a call leaves of a history. -/
def GLeft (w : World) (r : Nat) (F : Nat → Prop) (gs' : List Gn) (w' : World) : Prop := ∃ F', Gs w' r F' gs' ∧ (∀ j, F' j → F j ∨ w.heap.size ≤ j) ∧ Turned w w' F
theorem GLeft.of_below {w w' : World} {r : Nat} {F : Nat → Prop} {gs : List Gn} (h : Gs w r F gs) (hb : Below w.heap.size w w') : GLeft w r F gs w' := ⟨F, h.below hb, fun j hj => .inl hj, Turned.of_below hb F⟩
/-- How much there may be. -/
def BdG (gs : List Gn) (N : Nat) : Prop := gs.length ≤ N ∧ ∀ x ∈ gs, x.ps.length ≤ N
theorem BdG.mono {gs : List Gn} {N M : Nat} (h : BdG gs N) (hm : N ≤ M) : BdG gs M := ⟨Nat.le_trans h.1 hm, fun x hx => Nat.le_trans (h.2 x hx) hm⟩

/-! ### a generation's own calls -/
theorem neq_rv (a b : Rv) (w : World) : (binOp .neq 29 (.agg #[.int .i64 a.1, .int .i64 a.2]) (.agg #[.int .i64 b.1, .int .i64 b.2])).run Tryz.prog w = .ok (.bool (!(decide (a = b)))) w := by
  obtain ⟨a, b'⟩ := a
  obtain ⟨c, d⟩ := b
  go_simp
  by_cases h1 : a = c <;> by_cases h2 : b' = d <;> simp [h1, h2]
theorem eql_rv (a b : Rv) (w : World) : (binOp .eql 29 (.agg #[.int .i64 a.1, .int .i64 a.2]) (.agg #[.int .i64 b.1, .int .i64 b.2])).run Tryz.prog w = .ok (.bool (decide (a = b))) w := by
  obtain ⟨a, b'⟩ := a
  obtain ⟨c, d⟩ := b
  go_simp
  by_cases h1 : a = c <;> by_cases h2 : b' = d <;> simp [h1, h2]
theorem ended_any (L : GL) (x : Gn) (he : L.e = x.e) (w : World) :
    Calls Tryz.prog 78 #[L.val] w fun e w' => e = .returned (.bool x.ended) ∧ Below w.heap.size w w' := by
  obtain ⟨c, v, A, n, k, e1, e2⟩ := L
  have hx : x.ended = !(decide ((e1, e2) = ((0, 0) : Rv))) := by
    unfold Gn.ended
    rw [← he]
  rw [hx]
  have hn := fun w => neq_rv (e1, e2) (0, 0) w
  generalize (!(decide ((e1, e2) = ((0, 0) : Rv)))) = b at hn ⊢
  have HB0 := kept ((Below.refl w.heap.size w).alloc (Nat.le_refl _) (.cells #[.int .i64 c, .int .i64 v, .slice A n k, .int .i64 e1, .int .i64 e2] 99))
  clear he hx
  simp only [GL.val]
  go_enter Tryz.func78, Tryz.ntmps78
  go_wp2
  go_returns
  exact ⟨rfl, HB0.out⟩
theorem found_any (L : GL) (q : Rv) (m : Int) (w : World) :
    Calls Tryz.prog 54 #[L.val, .agg #[.int .i64 q.1, .int .i64 q.2], .int .i64 m] w fun e w' => e = .returned (.agg #[.int .i64 q.1, .int .i64 q.2, .int .i64 L.c, .int .i64 (wrap64 (L.v + m))]) ∧ Below w.heap.size w w' := by
  obtain ⟨c, v, A, n, k, e1, e2⟩ := L
  obtain ⟨q1, q2⟩ := q
  have hB := (((Below.refl w.heap.size w).alloc (Nat.le_refl _) (.cells #[.int .i64 c, .int .i64 v, .slice A n k, .int .i64 e1, .int .i64 e2] 99)).alloc (by simp) (.cells #[.int .i64 q1, .int .i64 q2] 29)).alloc (by simp; omega) (.cells #[.int .i64 q1, .int .i64 q2, .int .i64 c, .int .i64 (wrap64 (v + m))] 31)
  have hk := Blk.new ((w.alloc (.cells #[.int .i64 c, .int .i64 v, .slice A n k, .int .i64 e1, .int .i64 e2] 99)).alloc (.cells #[.int .i64 q1, .int .i64 q2] 29)) 31 #[.int .i64 q1, .int .i64 q2, .int .i64 c, .int .i64 (wrap64 (v + m))]
  rw [World.size_alloc, World.size_alloc] at hk
  simp only [GL.val]
  go_enter Tryz.func54, Tryz.ntmps54
  go_wp2
  generalize (((w.alloc (.cells #[.int .i64 c, .int .i64 v, .slice A n k, .int .i64 e1, .int .i64 e2] 99)).alloc (.cells #[.int .i64 q1, .int .i64 q2] 29)).alloc (.cells #[.int .i64 q1, .int .i64 q2, .int .i64 c, .int .i64 (wrap64 (v + m))] 31)) = X at hB hk ⊢
  have x0 : X.cell? ⟨w.heap.size + 1 + 1, 0, none⟩ = some (.int .i64 q1) := hk.cell 0
  have x1 : X.cell? ⟨w.heap.size + 1 + 1, 1, none⟩ = some (.int .i64 q2) := hk.cell 1
  have x2 : X.cell? ⟨w.heap.size + 1 + 1, 2, none⟩ = some (.int .i64 c) := hk.cell 2
  have x3 : X.cell? ⟨w.heap.size + 1 + 1, 3, none⟩ = some (.int .i64 (wrap64 (v + m))) := hk.cell 3
  exact bodyPost_ret (v := .agg #[.int .i64 q1, .int .i64 q2, .int .i64 c, .int .i64 (wrap64 (v + m))]) (by simp [results, Tryz.results54, go_sem, x0, x1, x2, x3]) rfl ⟨rfl, hB⟩
end Go.Proofs.YtlckeebbjnhejaaGreat
end

section
/-
  package gens: how many puts are below a revision (slices.BinarySearchFunc over revisions); a generation's last revision.
-/
namespace Go.Proofs.YtlckeebbjnhejaaGreat
open Go.ChangeShapes Go.WideShapes Go.ChangeAt Go.RowKit Go.Deep
set_option linter.unusedVariables false
set_option linter.unusedSimpArgs false

/-- A row of revisions, whoever owns it. -/
def RdR (w : World) (A : Option Addr) (n : Nat) (ps : List Rv) : Prop := ps.length = n ∧ ∀ i (h : i < ps.length), ∃ g o, A = some ⟨g, o, none⟩ ∧ w.cell? ⟨g, o + i * 2, none⟩ = some (.int .i64 ps[i].1) ∧ w.cell? ⟨g, o + i * 2 + 1, none⟩ = some (.int .i64 ps[i].2)
theorem RdR.keeps {w w' : World} {A : Option Addr} {n : Nat} {ps : List Rv} (h : RdR w A n ps) (k : Keeps w w') : RdR w' A n ps := ⟨h.1, fun i hi => by
  obtain ⟨g, o, e, h1, h2⟩ := h.2 i hi
  exact ⟨g, o, e, k.cell_ h1, k.cell_ h2⟩⟩
theorem RdR.of_own {w : World} {base n k : Nat} {A : Option Addr} {ps : List Rv} (h : w.ownsRow base 29 2 (.slice A n k) n (rvC ps)) : RdR w A n ps := by
  have hl := h.1
  rw [rvC_length] at hl
  refine ⟨by omega, fun i hi => ?_⟩
  obtain ⟨g, rfl, _, _, _, _, hc⟩ := gown_at h (by omega)
  obtain ⟨h1, h2⟩ := rvC_at ps i hi
  exact ⟨g, 0, rfl, by rw [Nat.zero_add]; exact hc _ _ h1, by rw [Nat.zero_add]; exact hc _ _ h2⟩
theorem cmp_pair (a b : Rv) (w : World) :
    Calls Tryz.prog 32 #[.agg #[.int .i64 a.1, .int .i64 a.2], .agg #[.int .i64 b.1, .int .i64 b.2]] w fun e w' => e = .returned (.int .i64 (ordR a.1 a.2 b.1 b.2)) ∧ Below w.heap.size w w' := cmp_rev a.1 a.2 b.1 b.2 w
set_option maxRecDepth 100000 in
set_option maxHeartbeats 4000000 in
theorem bsR (A : Option Addr) (n k : Nat) (ps : List Rv) (b : Rv) (w : World) (h1 : RdR w A n ps) (hn : n ≤ 1000000) (hs : List.Pairwise (fun a b => ltR a b = true) ps) :
    Calls Tryz.prog 107 #[.slice A n k, .agg #[.int .i64 b.1, .int .i64 b.2], .func (.func 32) #[] #[]] w fun e w' => (∃ t, e = .returned (.tuple #[.int .i64 (cntR ps b : Int), .bool t])) ∧ Below w.heap.size w w' := by
  have HS := kept (cntR_sorted hs b)
  have HI := kept (h1.keeps (Keeps.alloc w (.cells #[.int .i64 b.1, .int .i64 b.2] 29)))
  have HN := kept h1.1
  have HB := kept ((Below.refl w.heap.size w).alloc (Nat.le_refl _) (.cells #[.int .i64 b.1, .int .i64 b.2] 29))
  have HT := kept (two_new w 29 b.1 b.2)
  have H0 : Hid (((∀ t (h : t < ps.length), t < 0 → ltR ps[t] b = true) ∧ ∀ t (h : t < ps.length), n ≤ t → ltR ps[t] b = false) ∧ Below (w.alloc (.cells #[.int .i64 b.1, .int .i64 b.2] 29)).heap.size (w.alloc (.cells #[.int .i64 b.1, .int .i64 b.2] 29)) (w.alloc (.cells #[.int .i64 b.1, .int .i64 b.2] 29))) := kept ⟨⟨fun t h h0 => absurd h0 (by omega), fun t h h0 => absurd h (by rw [h1.1]; omega)⟩, Below.refl _ _⟩
  clear h1 hs
  go_enter Tryz.func107, Tryz.ntmps107
  go_wp2
  generalize w.alloc (.cells #[.int .i64 b.1, .int .i64 b.2] 29) = W0 at HI HB HT H0 ⊢
  go_loopw [9, 10] (fun i j wr => ∃ a c : Nat, a ≤ c ∧ c ≤ n ∧ i = .int .i64 (a : Int) ∧ j = .int .i64 (c : Int) ∧ Hid (((∀ t (h : t < ps.length), t < a → ltR ps[t] b = true) ∧ ∀ t (h : t < ps.length), c ≤ t → ltR ps[t] b = false) ∧ Below W0.heap.size W0 wr)) (fun i j _ => (intOf j).toNat - (intOf i).toNat)
  case atStart => exact ⟨0, n, Nat.zero_le _, Nat.le_refl _, rfl, rfl, H0⟩
  case round =>
    obtain ⟨a, c, hab, hbn, rfl, rfl, HL⟩ := hrel
    clear H0
    obtain ⟨t0, t1⟩ := HT.out.keeps (Keeps.of_below HL.out.2)
    by_cases hlt : a < c
    · obtain ⟨q, hq⟩ : ∃ q, (a + c) / 2 = q := ⟨_, rfl⟩
      have hw1 : IntKind.i64.wrap ((a : Int) + (c : Int)) = (a : Int) + (c : Int) := by rw [IntKind.wrap_i64]; omega
      have hw2 : IntKind.u64.wrap ((a : Int) + (c : Int)) = (a : Int) + (c : Int) := by rw [IntKind.wrap_u64]; omega
      have hlt' : (a : Int) < (c : Int) := by omega
      have hq' : ((a : Int) + (c : Int)) / 2 = (q : Int) := by omega
      have hqn : q < n := by omega
      have hq0 : (0 : Int) ≤ (q : Int) := by omega
      have hqn' : (q : Int) < (n : Int) := by omega
      have hqI : q < ps.length := by rw [HN.out]; exact hqn
      obtain ⟨g, o, hA, z0, z1⟩ := (HI.out.keeps (Keeps.of_below HL.out.2)).2 q hqI
      have HP := (fun W => kept (cmp_pair ps[q] b W))
      have HQ : Hid (a ≤ q ∧ q < c ∧ q < ps.length) := kept ⟨by omega, by omega, hqI⟩
      have hor : decide (ordR ps[q].1 ps[q].2 b.1 b.2 < 0) = ltR ps[q] b := rfl
      have HOR : Hid (∀ h : q < ps.length, ltR ps[q] b = ltR (ps[q]'hqI) b) := kept (fun _ => rfl)
      generalize ps[q] = pq at HP z0 z1 hor HOR
      generalize ordR pq.1 pq.2 b.1 b.2 = or at HP hor
      generalize ltR pq b = l at hor HOR
      subst hA
      clear hq
      by_cases hneg : or < 0
      · have hneg' := hneg
        obtain rfl : l = true := by rw [← hor]; simpa using hneg
        clear hor
        have HX := kept (HL.out.2.drew)
        have HS0 := kept (show (fun W' => (W'.cell? ⟨w.heap.size, 0, none⟩ = some (.int .i64 b.1) ∧ W'.cell? ⟨w.heap.size, 1, none⟩ = some (.int .i64 b.2)) ∧ (W'.cell? ⟨g, o + q * 2, none⟩ = some (.int .i64 pq.1) ∧ W'.cell? ⟨g, o + q * 2 + 1, none⟩ = some (.int .i64 pq.2))) wr.drew from ⟨⟨t0, t1⟩, ⟨z0, z1⟩⟩)
        clear z0 z1 t0 t1
        go_wp2
        refine wp_region_held_drew (S := (fun W' => (W'.cell? ⟨w.heap.size, 0, none⟩ = some (.int .i64 b.1) ∧ W'.cell? ⟨w.heap.size, 1, none⟩ = some (.int .i64 b.2)) ∧ (W'.cell? ⟨g, o + q * 2, none⟩ = some (.int .i64 pq.1) ∧ W'.cell? ⟨g, o + q * 2 + 1, none⟩ = some (.int .i64 pq.2)))) (by kernel_rfl) ?_ (fun hHeld => ?_)
        · ((try dsimp only); (first | with_reducible exact HS0.out | with_reducible exact HS1.out))
        refine hand_take 0 (some 24) ?_ (by kernel_rfl) (by kernel_rfl) (by kernel_rfl) (by kernel_rfl) (by kernel_rfl) (fun _ _ _ h => h) ?_ (by assumption) ?_
        rotate_left
        · (intro o ho w hSw; (simp only [List.getElem?_toArray, List.getElem?_cons_succ, List.getElem?_cons_zero, Option.some.injEq] at ho); subst ho; (try dsimp only at hSw); go_simp; (first | done | with_reducible rfl))
        (try simp only [Act.put, List.setIfInBounds_toArray, List.set_cons_zero, List.set_cons_succ])
        refine hand_take 1 (some 25) ?_ (by kernel_rfl) (by kernel_rfl) (by kernel_rfl) (by kernel_rfl) (by kernel_rfl) (fun _ _ _ h => h) ?_ (by assumption) ?_
        rotate_left
        · (intro o ho w hSw; (simp only [List.getElem?_toArray, List.getElem?_cons_succ, List.getElem?_cons_zero, Option.some.injEq] at ho); subst ho; (try dsimp only at hSw); go_simp; (first | done | with_reducible rfl))
        (try simp only [Act.put, List.setIfInBounds_toArray, List.set_cons_zero, List.set_cons_succ])
        refine hand_take 2 (some 26) ?_ (by kernel_rfl) (by kernel_rfl) (by kernel_rfl) (by kernel_rfl) (by kernel_rfl) (fun _ _ _ h => h) ?_ (by assumption) ?_
        rotate_left
        · (intro o ho w hSw; (simp only [List.getElem?_toArray, List.getElem?_cons_succ, List.getElem?_cons_zero, Option.some.injEq] at ho); subst ho; (try dsimp only at hSw); go_simp; (first | done | with_reducible rfl))
        (try simp only [Act.put, List.setIfInBounds_toArray, List.set_cons_zero, List.set_cons_succ])
        refine hand_take 3 (some 27) ?_ (by kernel_rfl) (by kernel_rfl) (by kernel_rfl) (by kernel_rfl) (by kernel_rfl) (fun _ _ _ h => h) ?_ (by assumption) ?_
        rotate_left
        · (intro o ho w hSw; (simp only [List.getElem?_toArray, List.getElem?_cons_succ, List.getElem?_cons_zero, Option.some.injEq] at ho); subst ho; (try dsimp only at hSw); go_simp; (first | done | with_reducible rfl))
        (try simp only [Act.put, List.setIfInBounds_toArray, List.set_cons_zero, List.set_cons_succ])
        refine hand_take 4 (some 28) ?_ (by kernel_rfl) (by kernel_rfl) (by kernel_rfl) (by kernel_rfl) (by kernel_rfl) (fun _ _ _ h => h) ?_ (by assumption) ?_
        rotate_left
        · (intro o ho w hSw; (simp only [List.getElem?_toArray, List.getElem?_cons_succ, List.getElem?_cons_zero, Option.some.injEq] at ho); subst ho; (try dsimp only at hSw); go_simp; (first | done | with_reducible rfl))
        (try simp only [Act.put, List.setIfInBounds_toArray, List.set_cons_zero, List.set_cons_succ])
        refine hand_take 5 (some 29) ?_ (by kernel_rfl) (by kernel_rfl) (by kernel_rfl) (by kernel_rfl) (by kernel_rfl) (fun _ _ _ h => h) ?_ (by assumption) ?_
        rotate_left
        · (intro o ho w hSw; (simp only [List.getElem?_toArray, List.getElem?_cons_succ, List.getElem?_cons_zero, Option.some.injEq] at ho); subst ho; (try dsimp only at hSw); go_simp; (first | done | with_reducible rfl))
        (try simp only [Act.put, List.setIfInBounds_toArray, List.set_cons_zero, List.set_cons_succ])
        refine hand_ready 6 (by kernel_rfl) (by kernel_rfl) (fun o ho K hK => ?_)
        (simp only [List.getElem?_toArray, List.getElem?_cons_succ, List.getElem?_cons_zero, Option.some.injEq] at ho)
        subst ho
        go_simp
        (go_at_call 32; (with_reducible refine (HP _).out.mono ?_); rintro e w1 ⟨rfl, hb1⟩; have HS1 := kept (show (fun W' => (W'.cell? ⟨w.heap.size, 0, none⟩ = some (.int .i64 b.1) ∧ W'.cell? ⟨w.heap.size, 1, none⟩ = some (.int .i64 b.2)) ∧ (W'.cell? ⟨g, o + q * 2, none⟩ = some (.int .i64 pq.1) ∧ W'.cell? ⟨g, o + q * 2 + 1, none⟩ = some (.int .i64 pq.2))) w1 from ⟨⟨(Keeps.of_below hb1).cell_ HS0.out.1.1, (Keeps.of_below hb1).cell_ HS0.out.1.2⟩, ⟨(Keeps.of_below hb1).cell_ HS0.out.2.1, (Keeps.of_below hb1).cell_ HS0.out.2.2⟩⟩); have HB1 := kept (bel_to hb1 HX.out); clear hb1)
        (try go_wp2_with fail)
        refine hK.out _ _ ?_ (fun hHeld => ?_)
        · ((try dsimp only); (first | with_reducible exact HS0.out | with_reducible exact HS1.out))
        clear hK K
        (try simp only [Act.put, List.setIfInBounds_toArray, List.set_cons_zero, List.set_cons_succ])
        refine hand_take 7 (some 31) ?_ (by kernel_rfl) (by kernel_rfl) (by kernel_rfl) (by kernel_rfl) (by kernel_rfl) (fun _ _ _ h => h) ?_ (by assumption) ?_
        rotate_left
        · (intro o ho w hSw; (simp only [List.getElem?_toArray, List.getElem?_cons_succ, List.getElem?_cons_zero, Option.some.injEq] at ho); subst ho; (try dsimp only at hSw); go_simp; (first | done | with_reducible rfl))
        (try simp only [Act.put, List.setIfInBounds_toArray, List.set_cons_zero, List.set_cons_succ])
        refine wpAnyH_done (by kernel_rfl) ?_ _
        clear hHeld
        try go_wp2
        have HE : Hid (((∀ t (h : t < ps.length), t < q + 1 → ltR ps[t] b = true) ∧ ∀ t (h : t < ps.length), c ≤ t → ltR ps[t] b = false) ∧ Below W0.heap.size W0 w1) := kept ⟨⟨fun t h h0 => HS.out t q h HQ.out.2.2 (by omega) (HOR.out HQ.out.2.2), HL.out.1.2⟩, HB1.out⟩
        go_roundw
        case rel => exact ⟨q + 1, c, by have := HQ.out; omega, hbn, by go_num, rfl, HE⟩
        case measure => have := HQ.out; simp [intOf]; omega
      · have hneg' : ¬ or < 0 := hneg
        obtain rfl : l = false := by rw [← hor]; simpa using hneg
        clear hor
        have HX := kept (HL.out.2.drew)
        have HS0 := kept (show (fun W' => (W'.cell? ⟨w.heap.size, 0, none⟩ = some (.int .i64 b.1) ∧ W'.cell? ⟨w.heap.size, 1, none⟩ = some (.int .i64 b.2)) ∧ (W'.cell? ⟨g, o + q * 2, none⟩ = some (.int .i64 pq.1) ∧ W'.cell? ⟨g, o + q * 2 + 1, none⟩ = some (.int .i64 pq.2))) wr.drew from ⟨⟨t0, t1⟩, ⟨z0, z1⟩⟩)
        clear z0 z1 t0 t1
        go_wp2
        refine wp_region_held_drew (S := (fun W' => (W'.cell? ⟨w.heap.size, 0, none⟩ = some (.int .i64 b.1) ∧ W'.cell? ⟨w.heap.size, 1, none⟩ = some (.int .i64 b.2)) ∧ (W'.cell? ⟨g, o + q * 2, none⟩ = some (.int .i64 pq.1) ∧ W'.cell? ⟨g, o + q * 2 + 1, none⟩ = some (.int .i64 pq.2)))) (by kernel_rfl) ?_ (fun hHeld => ?_)
        · ((try dsimp only); (first | with_reducible exact HS0.out | with_reducible exact HS1.out))
        refine hand_take 0 (some 24) ?_ (by kernel_rfl) (by kernel_rfl) (by kernel_rfl) (by kernel_rfl) (by kernel_rfl) (fun _ _ _ h => h) ?_ (by assumption) ?_
        rotate_left
        · (intro o ho w hSw; (simp only [List.getElem?_toArray, List.getElem?_cons_succ, List.getElem?_cons_zero, Option.some.injEq] at ho); subst ho; (try dsimp only at hSw); go_simp; (first | done | with_reducible rfl))
        (try simp only [Act.put, List.setIfInBounds_toArray, List.set_cons_zero, List.set_cons_succ])
        refine hand_take 1 (some 25) ?_ (by kernel_rfl) (by kernel_rfl) (by kernel_rfl) (by kernel_rfl) (by kernel_rfl) (fun _ _ _ h => h) ?_ (by assumption) ?_
        rotate_left
        · (intro o ho w hSw; (simp only [List.getElem?_toArray, List.getElem?_cons_succ, List.getElem?_cons_zero, Option.some.injEq] at ho); subst ho; (try dsimp only at hSw); go_simp; (first | done | with_reducible rfl))
        (try simp only [Act.put, List.setIfInBounds_toArray, List.set_cons_zero, List.set_cons_succ])
        refine hand_take 2 (some 26) ?_ (by kernel_rfl) (by kernel_rfl) (by kernel_rfl) (by kernel_rfl) (by kernel_rfl) (fun _ _ _ h => h) ?_ (by assumption) ?_
        rotate_left
        · (intro o ho w hSw; (simp only [List.getElem?_toArray, List.getElem?_cons_succ, List.getElem?_cons_zero, Option.some.injEq] at ho); subst ho; (try dsimp only at hSw); go_simp; (first | done | with_reducible rfl))
        (try simp only [Act.put, List.setIfInBounds_toArray, List.set_cons_zero, List.set_cons_succ])
        refine hand_take 3 (some 27) ?_ (by kernel_rfl) (by kernel_rfl) (by kernel_rfl) (by kernel_rfl) (by kernel_rfl) (fun _ _ _ h => h) ?_ (by assumption) ?_
        rotate_left
        · (intro o ho w hSw; (simp only [List.getElem?_toArray, List.getElem?_cons_succ, List.getElem?_cons_zero, Option.some.injEq] at ho); subst ho; (try dsimp only at hSw); go_simp; (first | done | with_reducible rfl))
        (try simp only [Act.put, List.setIfInBounds_toArray, List.set_cons_zero, List.set_cons_succ])
        refine hand_take 4 (some 28) ?_ (by kernel_rfl) (by kernel_rfl) (by kernel_rfl) (by kernel_rfl) (by kernel_rfl) (fun _ _ _ h => h) ?_ (by assumption) ?_
        rotate_left
        · (intro o ho w hSw; (simp only [List.getElem?_toArray, List.getElem?_cons_succ, List.getElem?_cons_zero, Option.some.injEq] at ho); subst ho; (try dsimp only at hSw); go_simp; (first | done | with_reducible rfl))
        (try simp only [Act.put, List.setIfInBounds_toArray, List.set_cons_zero, List.set_cons_succ])
        refine hand_take 5 (some 29) ?_ (by kernel_rfl) (by kernel_rfl) (by kernel_rfl) (by kernel_rfl) (by kernel_rfl) (fun _ _ _ h => h) ?_ (by assumption) ?_
        rotate_left
        · (intro o ho w hSw; (simp only [List.getElem?_toArray, List.getElem?_cons_succ, List.getElem?_cons_zero, Option.some.injEq] at ho); subst ho; (try dsimp only at hSw); go_simp; (first | done | with_reducible rfl))
        (try simp only [Act.put, List.setIfInBounds_toArray, List.set_cons_zero, List.set_cons_succ])
        refine hand_ready 6 (by kernel_rfl) (by kernel_rfl) (fun o ho K hK => ?_)
        (simp only [List.getElem?_toArray, List.getElem?_cons_succ, List.getElem?_cons_zero, Option.some.injEq] at ho)
        subst ho
        go_simp
        (go_at_call 32; (with_reducible refine (HP _).out.mono ?_); rintro e w1 ⟨rfl, hb1⟩; have HS1 := kept (show (fun W' => (W'.cell? ⟨w.heap.size, 0, none⟩ = some (.int .i64 b.1) ∧ W'.cell? ⟨w.heap.size, 1, none⟩ = some (.int .i64 b.2)) ∧ (W'.cell? ⟨g, o + q * 2, none⟩ = some (.int .i64 pq.1) ∧ W'.cell? ⟨g, o + q * 2 + 1, none⟩ = some (.int .i64 pq.2))) w1 from ⟨⟨(Keeps.of_below hb1).cell_ HS0.out.1.1, (Keeps.of_below hb1).cell_ HS0.out.1.2⟩, ⟨(Keeps.of_below hb1).cell_ HS0.out.2.1, (Keeps.of_below hb1).cell_ HS0.out.2.2⟩⟩); have HB1 := kept (bel_to hb1 HX.out); clear hb1)
        (try go_wp2_with fail)
        refine hK.out _ _ ?_ (fun hHeld => ?_)
        · ((try dsimp only); (first | with_reducible exact HS0.out | with_reducible exact HS1.out))
        clear hK K
        (try simp only [Act.put, List.setIfInBounds_toArray, List.set_cons_zero, List.set_cons_succ])
        refine hand_take 7 (some 31) ?_ (by kernel_rfl) (by kernel_rfl) (by kernel_rfl) (by kernel_rfl) (by kernel_rfl) (fun _ _ _ h => h) ?_ (by assumption) ?_
        rotate_left
        · (intro o ho w hSw; (simp only [List.getElem?_toArray, List.getElem?_cons_succ, List.getElem?_cons_zero, Option.some.injEq] at ho); subst ho; (try dsimp only at hSw); go_simp; (first | done | with_reducible rfl))
        (try simp only [Act.put, List.setIfInBounds_toArray, List.set_cons_zero, List.set_cons_succ])
        refine wpAnyH_done (by kernel_rfl) ?_ _
        clear hHeld
        try go_wp2
        have HE : Hid (((∀ t (h : t < ps.length), t < a → ltR ps[t] b = true) ∧ ∀ t (h : t < ps.length), q ≤ t → ltR ps[t] b = false) ∧ Below W0.heap.size W0 w1) := kept ⟨⟨HL.out.1.1, fun t h h0 => by
          cases hv : ltR ps[t] b with
          | false => rfl
          | true =>
            have := HS.out q t HQ.out.2.2 h h0 hv
            rw [HOR.out HQ.out.2.2] at this
            cases this⟩, HB1.out⟩
        go_roundw
        case rel => exact ⟨a, q, by have := HQ.out; omega, by have := HQ.out; omega, rfl, rfl, HE⟩
        case measure => have := HQ.out; simp [intOf]; omega
    · obtain rfl : a = c := by omega
      have hlt' : ¬ (a : Int) < (a : Int) := by omega
      have HAN : Hid (cntR ps b = a) := kept (cut_uniq (fun p => ltR p b) (by rw [HN.out]; exact hbn) HL.out.1.1 HL.out.1.2)
      have HBE := kept (bel_to HL.out.2 HB.out)
      by_cases han : a < n
      · have han' : (a : Int) < (n : Int) := by omega
        have haI : a < ps.length := by rw [HN.out]; exact han
        obtain ⟨g, o, hA, z0, z1⟩ := (HI.out.keeps (Keeps.of_below HL.out.2)).2 a haI
        have HP := (fun W => kept (cmp_pair ps[a] b W))
        generalize ps[a] = pq at HP z0 z1
        generalize ordR pq.1 pq.2 b.1 b.2 = or at HP
        subst hA
        have hda : decide ((a : Int) < (n : Int)) = true := by simp; omega
        have HX := kept (HBE.out.drew)
        have HS0 := kept (show (fun W' => (W'.cell? ⟨w.heap.size, 0, none⟩ = some (.int .i64 b.1) ∧ W'.cell? ⟨w.heap.size, 1, none⟩ = some (.int .i64 b.2)) ∧ (W'.cell? ⟨g, o + a * 2, none⟩ = some (.int .i64 pq.1) ∧ W'.cell? ⟨g, o + a * 2 + 1, none⟩ = some (.int .i64 pq.2))) wr.drew from ⟨⟨t0, t1⟩, ⟨z0, z1⟩⟩)
        clear z0 z1 t0 t1
        go_wp2
        refine wp_region_held_drew (S := (fun W' => (W'.cell? ⟨w.heap.size, 0, none⟩ = some (.int .i64 b.1) ∧ W'.cell? ⟨w.heap.size, 1, none⟩ = some (.int .i64 b.2)) ∧ (W'.cell? ⟨g, o + a * 2, none⟩ = some (.int .i64 pq.1) ∧ W'.cell? ⟨g, o + a * 2 + 1, none⟩ = some (.int .i64 pq.2)))) (by kernel_rfl) ?_ (fun hHeld => ?_)
        · ((try dsimp only); (first | with_reducible exact HS0.out | with_reducible exact HS1.out))
        refine hand_take 0 (some 35) ?_ (by kernel_rfl) (by kernel_rfl) (by kernel_rfl) (by kernel_rfl) (by kernel_rfl) (fun _ _ _ h => h) ?_ (by assumption) ?_
        rotate_left
        · (intro o ho w hSw; (simp only [List.getElem?_toArray, List.getElem?_cons_succ, List.getElem?_cons_zero, Option.some.injEq] at ho); subst ho; (try dsimp only at hSw); go_simp; (first | done | with_reducible rfl))
        (try simp only [Act.put, List.setIfInBounds_toArray, List.set_cons_zero, List.set_cons_succ])
        refine hand_take 1 (some 36) ?_ (by kernel_rfl) (by kernel_rfl) (by kernel_rfl) (by kernel_rfl) (by kernel_rfl) (fun _ _ _ h => h) ?_ (by assumption) ?_
        rotate_left
        · (intro o ho w hSw; (simp only [List.getElem?_toArray, List.getElem?_cons_succ, List.getElem?_cons_zero, Option.some.injEq] at ho); subst ho; (try dsimp only at hSw); go_simp; (first | done | with_reducible rfl))
        (try simp only [Act.put, List.setIfInBounds_toArray, List.set_cons_zero, List.set_cons_succ])
        refine hand_take 2 (some 37) ?_ (by kernel_rfl) (by kernel_rfl) (by kernel_rfl) (by kernel_rfl) (by kernel_rfl) (fun _ _ _ h => h) ?_ (by assumption) ?_
        rotate_left
        · (intro o ho w hSw; (simp only [List.getElem?_toArray, List.getElem?_cons_succ, List.getElem?_cons_zero, Option.some.injEq] at ho); subst ho; (try dsimp only at hSw); go_simp; (first | done | with_reducible rfl))
        (try simp only [Act.put, List.setIfInBounds_toArray, List.set_cons_zero, List.set_cons_succ])
        refine hand_take 3 (some 38) ?_ (by kernel_rfl) (by kernel_rfl) (by kernel_rfl) (by kernel_rfl) (by kernel_rfl) (fun _ _ _ h => h) ?_ (by assumption) ?_
        rotate_left
        · (intro o ho w hSw; (simp only [List.getElem?_toArray, List.getElem?_cons_succ, List.getElem?_cons_zero, Option.some.injEq] at ho); subst ho; (try dsimp only at hSw); go_simp; (first | done | with_reducible rfl))
        (try simp only [Act.put, List.setIfInBounds_toArray, List.set_cons_zero, List.set_cons_succ])
        refine hand_take 4 (some 39) ?_ (by kernel_rfl) (by kernel_rfl) (by kernel_rfl) (by kernel_rfl) (by kernel_rfl) (fun _ _ _ h => h) ?_ (by assumption) ?_
        rotate_left
        · (intro o ho w hSw; (simp only [List.getElem?_toArray, List.getElem?_cons_succ, List.getElem?_cons_zero, Option.some.injEq] at ho); subst ho; (try dsimp only at hSw); go_simp; (first | done | with_reducible rfl))
        (try simp only [Act.put, List.setIfInBounds_toArray, List.set_cons_zero, List.set_cons_succ])
        refine hand_take 5 (some 40) ?_ (by kernel_rfl) (by kernel_rfl) (by kernel_rfl) (by kernel_rfl) (by kernel_rfl) (fun _ _ _ h => h) ?_ (by assumption) ?_
        rotate_left
        · (intro o ho w hSw; (simp only [List.getElem?_toArray, List.getElem?_cons_succ, List.getElem?_cons_zero, Option.some.injEq] at ho); subst ho; (try dsimp only at hSw); go_simp; (first | done | with_reducible rfl))
        (try simp only [Act.put, List.setIfInBounds_toArray, List.set_cons_zero, List.set_cons_succ])
        refine hand_take 6 (some 41) ?_ (by kernel_rfl) (by kernel_rfl) (by kernel_rfl) (by kernel_rfl) (by kernel_rfl) (fun _ _ _ h => h) ?_ (by assumption) ?_
        rotate_left
        · (intro o ho w hSw; (simp only [List.getElem?_toArray, List.getElem?_cons_succ, List.getElem?_cons_zero, Option.some.injEq] at ho); subst ho; (try dsimp only at hSw); go_simp; (first | done | with_reducible rfl))
        (try simp only [Act.put, List.setIfInBounds_toArray, List.set_cons_zero, List.set_cons_succ])
        refine hand_take 7 (some 42) ?_ (by kernel_rfl) (by kernel_rfl) (by kernel_rfl) (by kernel_rfl) (by kernel_rfl) (fun _ _ _ h => h) ?_ (by assumption) ?_
        rotate_left
        · (intro o ho w hSw; (simp only [List.getElem?_toArray, List.getElem?_cons_succ, List.getElem?_cons_zero, Option.some.injEq] at ho); subst ho; (try dsimp only at hSw); go_simp; (first | done | with_reducible rfl))
        (try simp only [Act.put, List.setIfInBounds_toArray, List.set_cons_zero, List.set_cons_succ])
        refine hand_take 8 (some 43) ?_ (by kernel_rfl) (by kernel_rfl) (by kernel_rfl) (by kernel_rfl) (by kernel_rfl) (fun _ _ _ h => h) ?_ (by assumption) ?_
        rotate_left
        · (intro o ho w hSw; (simp only [List.getElem?_toArray, List.getElem?_cons_succ, List.getElem?_cons_zero, Option.some.injEq] at ho); subst ho; (try dsimp only at hSw); go_simp; (first | done | with_reducible rfl))
        (try simp only [Act.put, List.setIfInBounds_toArray, List.set_cons_zero, List.set_cons_succ])
        refine hand_take 9 (some 44) ?_ (by kernel_rfl) (by kernel_rfl) (by kernel_rfl) (by kernel_rfl) (by kernel_rfl) (fun _ _ _ h => h) ?_ (by assumption) ?_
        rotate_left
        · (intro o ho w hSw; (simp only [List.getElem?_toArray, List.getElem?_cons_succ, List.getElem?_cons_zero, Option.some.injEq] at ho); subst ho; (try dsimp only at hSw); go_simp; (first | done | with_reducible rfl))
        (try simp only [Act.put, List.setIfInBounds_toArray, List.set_cons_zero, List.set_cons_succ])
        refine hand_take 10 (some 45) ?_ (by kernel_rfl) (by kernel_rfl) (by kernel_rfl) (by kernel_rfl) (by kernel_rfl) (fun _ _ _ h => h) ?_ (by assumption) ?_
        rotate_left
        · (intro o ho w hSw; (simp only [List.getElem?_toArray, List.getElem?_cons_succ, List.getElem?_cons_zero, Option.some.injEq] at ho); subst ho; (try dsimp only at hSw); go_simp; (first | done | with_reducible rfl))
        (try simp only [Act.put, List.setIfInBounds_toArray, List.set_cons_zero, List.set_cons_succ])
        refine hand_ready 11 (by kernel_rfl) (by kernel_rfl) (fun o ho K hK => ?_)
        (simp only [List.getElem?_toArray, List.getElem?_cons_succ, List.getElem?_cons_zero, Option.some.injEq] at ho)
        subst ho
        go_simp
        (go_at_call 32; (with_reducible refine (HP _).out.mono ?_); rintro e w1 ⟨rfl, hb1⟩; have HS1 := kept (show (fun W' => (W'.cell? ⟨w.heap.size, 0, none⟩ = some (.int .i64 b.1) ∧ W'.cell? ⟨w.heap.size, 1, none⟩ = some (.int .i64 b.2)) ∧ (W'.cell? ⟨g, o + a * 2, none⟩ = some (.int .i64 pq.1) ∧ W'.cell? ⟨g, o + a * 2 + 1, none⟩ = some (.int .i64 pq.2))) w1 from ⟨⟨(Keeps.of_below hb1).cell_ HS0.out.1.1, (Keeps.of_below hb1).cell_ HS0.out.1.2⟩, ⟨(Keeps.of_below hb1).cell_ HS0.out.2.1, (Keeps.of_below hb1).cell_ HS0.out.2.2⟩⟩); have HB1 := kept (bel_to hb1 HX.out); clear hb1)
        (try go_wp2_with fail)
        refine hK.out _ _ ?_ (fun hHeld => ?_)
        · ((try dsimp only); (first | with_reducible exact HS0.out | with_reducible exact HS1.out))
        clear hK K
        (try simp only [Act.put, List.setIfInBounds_toArray, List.set_cons_zero, List.set_cons_succ])
        refine hand_take 12 (some 47) ?_ (by kernel_rfl) (by kernel_rfl) (by kernel_rfl) (by kernel_rfl) (by kernel_rfl) (fun _ _ _ h => h) ?_ (by assumption) ?_
        rotate_left
        · (intro o ho w hSw; (simp only [List.getElem?_toArray, List.getElem?_cons_succ, List.getElem?_cons_zero, Option.some.injEq] at ho); subst ho; (try dsimp only at hSw); go_simp; (first | done | with_reducible rfl))
        (try simp only [Act.put, List.setIfInBounds_toArray, List.set_cons_zero, List.set_cons_succ])
        refine hand_take 13 (some 48) ?_ (by kernel_rfl) (by kernel_rfl) (by kernel_rfl) (by kernel_rfl) (by kernel_rfl) (fun _ _ _ h => h) ?_ (by assumption) ?_
        rotate_left
        · (intro o ho w hSw; (simp only [List.getElem?_toArray, List.getElem?_cons_succ, List.getElem?_cons_zero, Option.some.injEq] at ho); subst ho; (try dsimp only at hSw); go_simp; (first | done | with_reducible rfl))
        (try simp only [Act.put, List.setIfInBounds_toArray, List.set_cons_zero, List.set_cons_succ])
        refine hand_take 14 (some 6) ?_ (by kernel_rfl) (by kernel_rfl) (by kernel_rfl) (by kernel_rfl) (by kernel_rfl) (fun _ _ _ h => h) ?_ (by assumption) ?_
        rotate_left
        · (intro o ho w hSw; (simp only [List.getElem?_toArray, List.getElem?_cons_succ, List.getElem?_cons_zero, Option.some.injEq] at ho); subst ho; (try dsimp only at hSw); go_simp; (first | done | with_reducible rfl))
        (try simp only [Act.put, List.setIfInBounds_toArray, List.set_cons_zero, List.set_cons_succ])
        refine hand_take 15 (some 7) ?_ (by kernel_rfl) (by kernel_rfl) (by kernel_rfl) (by kernel_rfl) (by kernel_rfl) (fun _ _ _ h => h) ?_ (by assumption) ?_
        rotate_left
        · (intro o ho w hSw; (simp only [List.getElem?_toArray, List.getElem?_cons_succ, List.getElem?_cons_zero, Option.some.injEq] at ho); subst ho; (try dsimp only at hSw); go_simp; (first | done | with_reducible rfl))
        (try simp only [Act.put, List.setIfInBounds_toArray, List.set_cons_zero, List.set_cons_succ])
        refine wpAnyH_done (by kernel_rfl) ?_ _
        clear hHeld
        try go_wp2
        go_returns
        rw [HAN.out]
        exact ⟨⟨_, rfl⟩, HB1.out⟩
      · have han' : ¬ (a : Int) < (n : Int) := by omega
        have hda : decide ((a : Int) < (n : Int)) = false := by simp; omega
        clear t0 t1
        go_wp2
        refine wp_region_held_drew (S := (fun _ => True)) (by kernel_rfl) ?_ (fun hHeld => ?_)
        · ((try dsimp only); (try trivial))
        refine hand_take 0 (some 35) ?_ (by kernel_rfl) (by kernel_rfl) (by kernel_rfl) (by kernel_rfl) (by kernel_rfl) (fun _ _ _ h => h) ?_ (by assumption) ?_
        rotate_left
        · (intro o ho w hSw; (simp only [List.getElem?_toArray, List.getElem?_cons_succ, List.getElem?_cons_zero, Option.some.injEq] at ho); subst ho; (try dsimp only at hSw); go_simp; (first | done | with_reducible rfl))
        (try simp only [Act.put, List.setIfInBounds_toArray, List.set_cons_zero, List.set_cons_succ])
        refine hand_take 1 (some 36) ?_ (by kernel_rfl) (by kernel_rfl) (by kernel_rfl) (by kernel_rfl) (by kernel_rfl) (fun _ _ _ h => h) ?_ (by assumption) ?_
        rotate_left
        · (intro o ho w hSw; (simp only [List.getElem?_toArray, List.getElem?_cons_succ, List.getElem?_cons_zero, Option.some.injEq] at ho); subst ho; (try dsimp only at hSw); go_simp; (first | done | with_reducible rfl))
        (try simp only [Act.put, List.setIfInBounds_toArray, List.set_cons_zero, List.set_cons_succ])
        refine hand_take 2 (some 37) ?_ (by kernel_rfl) (by kernel_rfl) (by kernel_rfl) (by kernel_rfl) (by kernel_rfl) (fun _ _ _ h => h) ?_ (by assumption) ?_
        rotate_left
        · (intro o ho w hSw; (simp only [List.getElem?_toArray, List.getElem?_cons_succ, List.getElem?_cons_zero, Option.some.injEq] at ho); subst ho; (try dsimp only at hSw); go_simp; (first | done | with_reducible rfl))
        (try simp only [Act.put, List.setIfInBounds_toArray, List.set_cons_zero, List.set_cons_succ])
        refine hand_take 3 (some 38) ?_ (by kernel_rfl) (by kernel_rfl) (by kernel_rfl) (by kernel_rfl) (by kernel_rfl) (fun _ _ _ h => h) ?_ (by assumption) ?_
        rotate_left
        · (intro o ho w hSw; (simp only [List.getElem?_toArray, List.getElem?_cons_succ, List.getElem?_cons_zero, Option.some.injEq] at ho); subst ho; (try dsimp only at hSw); go_simp; (first | done | with_reducible rfl))
        (try simp only [Act.put, List.setIfInBounds_toArray, List.set_cons_zero, List.set_cons_succ])
        refine hand_take 4 (some 39) ?_ (by kernel_rfl) (by kernel_rfl) (by kernel_rfl) (by kernel_rfl) (by kernel_rfl) (fun _ _ _ h => h) ?_ (by assumption) ?_
        rotate_left
        · (intro o ho w hSw; (simp only [List.getElem?_toArray, List.getElem?_cons_succ, List.getElem?_cons_zero, Option.some.injEq] at ho); subst ho; (try dsimp only at hSw); go_simp; (first | done | with_reducible rfl))
        (try simp only [Act.put, List.setIfInBounds_toArray, List.set_cons_zero, List.set_cons_succ])
        refine hand_skip 5 (some 40) (by kernel_rfl) (by kernel_rfl) (by kernel_rfl) (by kernel_rfl) (by kernel_rfl) (fun _ _ _ h => h) (by assumption) ?_
        (try simp only [Act.put, List.setIfInBounds_toArray, List.set_cons_zero, List.set_cons_succ])
        refine hand_skip 6 (some 41) (by kernel_rfl) (by kernel_rfl) (by kernel_rfl) (by kernel_rfl) (by kernel_rfl) (fun _ _ _ h => h) (by assumption) ?_
        (try simp only [Act.put, List.setIfInBounds_toArray, List.set_cons_zero, List.set_cons_succ])
        refine hand_skip 7 (some 42) (by kernel_rfl) (by kernel_rfl) (by kernel_rfl) (by kernel_rfl) (by kernel_rfl) (fun _ _ _ h => h) (by assumption) ?_
        (try simp only [Act.put, List.setIfInBounds_toArray, List.set_cons_zero, List.set_cons_succ])
        refine hand_skip 8 (some 43) (by kernel_rfl) (by kernel_rfl) (by kernel_rfl) (by kernel_rfl) (by kernel_rfl) (fun _ _ _ h => h) (by assumption) ?_
        (try simp only [Act.put, List.setIfInBounds_toArray, List.set_cons_zero, List.set_cons_succ])
        refine hand_skip 9 (some 44) (by kernel_rfl) (by kernel_rfl) (by kernel_rfl) (by kernel_rfl) (by kernel_rfl) (fun _ _ _ h => h) (by assumption) ?_
        (try simp only [Act.put, List.setIfInBounds_toArray, List.set_cons_zero, List.set_cons_succ])
        refine hand_skip 10 (some 45) (by kernel_rfl) (by kernel_rfl) (by kernel_rfl) (by kernel_rfl) (by kernel_rfl) (fun _ _ _ h => h) (by assumption) ?_
        (try simp only [Act.put, List.setIfInBounds_toArray, List.set_cons_zero, List.set_cons_succ])
        refine hand_skip 11 (some 46) (by kernel_rfl) (by kernel_rfl) (by kernel_rfl) (by kernel_rfl) (by kernel_rfl) (fun _ _ _ h => h) (by assumption) ?_
        (try simp only [Act.put, List.setIfInBounds_toArray, List.set_cons_zero, List.set_cons_succ])
        refine hand_skip 12 (some 47) (by kernel_rfl) (by kernel_rfl) (by kernel_rfl) (by kernel_rfl) (by kernel_rfl) (fun _ _ _ h => h) (by assumption) ?_
        (try simp only [Act.put, List.setIfInBounds_toArray, List.set_cons_zero, List.set_cons_succ])
        refine hand_take 13 (some 48) ?_ (by kernel_rfl) (by kernel_rfl) (by kernel_rfl) (by kernel_rfl) (by kernel_rfl) (fun _ _ _ h => h) ?_ (by assumption) ?_
        rotate_left
        · (intro o ho w hSw; (simp only [List.getElem?_toArray, List.getElem?_cons_succ, List.getElem?_cons_zero, Option.some.injEq] at ho); subst ho; (try dsimp only at hSw); go_simp; (first | done | with_reducible rfl))
        (try simp only [Act.put, List.setIfInBounds_toArray, List.set_cons_zero, List.set_cons_succ])
        refine hand_take 14 (some 6) ?_ (by kernel_rfl) (by kernel_rfl) (by kernel_rfl) (by kernel_rfl) (by kernel_rfl) (fun _ _ _ h => h) ?_ (by assumption) ?_
        rotate_left
        · (intro o ho w hSw; (simp only [List.getElem?_toArray, List.getElem?_cons_succ, List.getElem?_cons_zero, Option.some.injEq] at ho); subst ho; (try dsimp only at hSw); go_simp; (first | done | with_reducible rfl))
        (try simp only [Act.put, List.setIfInBounds_toArray, List.set_cons_zero, List.set_cons_succ])
        refine hand_take 15 (some 7) ?_ (by kernel_rfl) (by kernel_rfl) (by kernel_rfl) (by kernel_rfl) (by kernel_rfl) (fun _ _ _ h => h) ?_ (by assumption) ?_
        rotate_left
        · (intro o ho w hSw; (simp only [List.getElem?_toArray, List.getElem?_cons_succ, List.getElem?_cons_zero, Option.some.injEq] at ho); subst ho; (try dsimp only at hSw); go_simp; (first | done | with_reducible rfl))
        (try simp only [Act.put, List.setIfInBounds_toArray, List.set_cons_zero, List.set_cons_succ])
        refine wpAnyH_done (by kernel_rfl) ?_ _
        try go_wp2
        go_returns
        rw [HAN.out]
        exact ⟨⟨_, rfl⟩, HBE.out.drew⟩
end Go.Proofs.YtlckeebbjnhejaaGreat
end

section
/-
  package gens: generation.below, generation.newest.
-/
namespace Go.Proofs.YtlckeebbjnhejaaGreat
open Go.ChangeShapes Go.WideShapes Go.ChangeAt Go.RowKit Go.Deep
set_option linter.unusedVariables false
set_option linter.unusedSimpArgs false

theorem gstore2 {B : Nat} {w W : World} {b : Nat} {t : TypeId} {x y : Value} (hq : Blk W b t [x, y]) (hb : Below B w W) (hB : B ≤ b) (u v : Value) :
    (((W.setCell ⟨b, 0, none⟩ u).setCell ⟨b, 1, none⟩ v).cell? ⟨b, 0, none⟩ = some u ∧ ((W.setCell ⟨b, 0, none⟩ u).setCell ⟨b, 1, none⟩ v).cell? ⟨b, 1, none⟩ = some v) ∧ Below B w ((W.setCell ⟨b, 0, none⟩ u).setCell ⟨b, 1, none⟩ v) := by
  have h := (hq.set_ 0 u).set_ 1 v
  exact ⟨⟨h.cell 0, h.cell 1⟩, (hb.setCell (p := ⟨b, 0, none⟩) hB u).setCell (p := ⟨b, 1, none⟩) hB v⟩
theorem below_any (L : GL) (x : Gn) (b : Rv) (w : World) (h : RdR w L.A L.n x.ps) (hn : L.n ≤ 1000000) (hs : List.Pairwise (fun a b => ltR a b = true) x.ps) :
    Calls Tryz.prog 77 #[L.val, .agg #[.int .i64 b.1, .int .i64 b.2]] w fun e w' => e = .returned (.int .i64 (cntR x.ps b : Int)) ∧ Below w.heap.size w w' := by
  obtain ⟨c, v, A, n, k, e1, e2⟩ := L
  have HB0 := kept (((Below.refl w.heap.size w).alloc (Nat.le_refl _) (.cells #[.int .i64 c, .int .i64 v, .slice A n k, .int .i64 e1, .int .i64 e2] 99)).alloc (by simp) (.cells #[.int .i64 b.1, .int .i64 b.2] 29))
  have HS := kept (bsR A n k x.ps b _ (h.keeps (Keeps.of_below HB0.out)) hn hs)
  generalize ((cntR x.ps b : Nat) : Int) = m at HS ⊢
  clear h hn hs
  simp only [GL.val]
  go_enter Tryz.func77, Tryz.ntmps77
  go_wp2_with (first | (go_at_call 107; (with_reducible refine (HS.out).mono ?_); rintro e w1 ⟨⟨t, rfl⟩, hb1⟩; have HB1 := kept (bel_to hb1 HB0.out); clear hb1))
  go_returns
  exact ⟨rfl, HB1.out⟩
/-- A generation's last revision. -/
theorem newestx_any (L : GL) (x : Gn) (he : L.e = x.e) (hl : L.n = x.ps.length) (w : World) (h : RdR w L.A L.n x.ps) (hn : L.n ≤ 1000000) (h0 : x.ps ≠ []) :
    Calls Tryz.prog 131 #[L.val] w fun e w' => e = .returned (.agg #[.int .i64 (x.revs.getLastD (0, 0)).1, .int .i64 (x.revs.getLastD (0, 0)).2]) ∧ Below w.heap.size w w' := by
  obtain ⟨c, v, A, n, k, e1, e2⟩ := L
  have hB := kept (((Below.refl w.heap.size w).alloc (Nat.le_refl _) (.cells #[.int .i64 c, .int .i64 v, .slice A n k, .int .i64 e1, .int .i64 e2] 99)).alloc (by simp) (.cells #[.int .i64 0, .int .i64 0] 29))
  have HK := kept (And.intro ((Blk.new w 99 #[.int .i64 c, .int .i64 v, .slice A n k, .int .i64 e1, .int .i64 e2]).alloc (.cells #[.int .i64 0, .int .i64 0] 29)) (Blk.new (w.alloc (.cells #[.int .i64 c, .int .i64 v, .slice A n k, .int .i64 e1, .int .i64 e2] 99)) 29 #[.int .i64 0, .int .i64 0]))
  rw [World.size_alloc] at HK
  have HE := fun W => kept (ended_any ⟨c, v, A, n, k, e1, e2⟩ x he W)
  have hpos : 0 < n := by
    have hl' : n = x.ps.length := hl
    have := List.length_pos_iff.2 h0
    omega
  replace hl : n = x.ps.length := hl
  replace hn : n ≤ 1000000 := hn
  obtain ⟨g, o, hA, z0, z1⟩ := h.2 (n - 1) (by omega)
  simp only at hA
  subst hA
  have HZ := kept (And.intro z0 z1)
  have HR : Hid (x.ended = true → x.revs.getLastD (0, 0) = (e1, e2)) := kept (fun hx => by
    unfold Gn.revs; rw [if_pos hx]
    have : x.e = (e1, e2) := he.symm
    simp [this])
  have HR' : Hid (x.ended = false → x.revs.getLastD (0, 0) = x.ps[n - 1]'(by omega)) := kept (fun hx => by
    unfold Gn.revs
    simp only [hx, Bool.false_eq_true, if_false, List.append_nil]
    rw [List.getLastD_eq_getLast?, List.getLast?_eq_getElem?, List.getElem?_eq_getElem (by omega), Option.getD_some]
    congr 1
    omega)
  generalize x.ps[n - 1] = q at HR' HZ z0 z1
  generalize x.revs.getLastD (0, 0) = z at HR HR' ⊢
  clear z0 z1 h
  simp only [GL.val] at HE ⊢
  have hm : n - 1 < n := by omega
  obtain ⟨m, hm1⟩ : ∃ m : Nat, n - 1 = m := ⟨_, rfl⟩
  rw [hm1] at HZ
  have hnm : (n : Int) - 1 = (m : Int) := by omega
  have hm0 : (0 : Int) ≤ (m : Int) := by omega
  have hmn : (m : Int) < (n : Int) := by omega
  have hwr : wrap64 (m : Int) = (m : Int) := IntWalk.wrap64_in _ ⟨by omega, by omega⟩
  clear hl hm hm1 hpos hn he h0
  go_enter Tryz.func131, Tryz.ntmps131
  go_wp2_with fail
  generalize (w.alloc (.cells #[.int .i64 c, .int .i64 v, .slice (some ⟨g, o, none⟩) n k, .int .i64 e1, .int .i64 e2] 99)).alloc (.cells #[.int .i64 0, .int .i64 0] 29) = W at HK hB ⊢
  with_reducible refine (HE _).out.mono ?_
  rintro e w1 ⟨rfl, hb1⟩
  have hk1 := HK.out.1.below hb1 HK.out.1.lt
  have hk2 := HK.out.2.below hb1 HK.out.2.lt
  have g0 : w1.cell? ⟨w.heap.size, 0, none⟩ = some (.int .i64 c) := hk1.cell 0
  have g1 : w1.cell? ⟨w.heap.size, 1, none⟩ = some (.int .i64 v) := hk1.cell 1
  have g2 : w1.cell? ⟨w.heap.size, 2, none⟩ = some (.slice (some ⟨g, o, none⟩) n k) := hk1.cell 2
  have g3 : w1.cell? ⟨w.heap.size, 3, none⟩ = some (.int .i64 e1) := hk1.cell 3
  have g4 : w1.cell? ⟨w.heap.size, 4, none⟩ = some (.int .i64 e2) := hk1.cell 4
  have q0 : w1.cell? ⟨w.heap.size + 1, 0, none⟩ = some (.int .i64 0) := hk2.cell 0
  have q1 : w1.cell? ⟨w.heap.size + 1, 1, none⟩ = some (.int .i64 0) := hk2.cell 1
  have f0 := hk2.frozen 0
  have f1 := hk2.frozen 1
  have HB1 := kept (bel_to hb1 hB.out)
  have HK2 := kept hk2
  have z0 := (Keeps.of_below HB1.out).cell_ HZ.out.1
  have z1 := (Keeps.of_below HB1.out).cell_ HZ.out.2
  clear hk1 hk2 hb1
  cases hx : x.ended
  · have hz := HR'.out hx
    subst hz
    clear HR HR' hx
    go_wp2
    have hx2 := gstore2 HK2.out HB1.out (by omega) (.int .i64 z.1) (.int .i64 z.2)
    generalize (w1.setCell ⟨w.heap.size + 1, 0, none⟩ (.int .i64 z.1)).setCell ⟨w.heap.size + 1, 1, none⟩ (.int .i64 z.2) = X at hx2 ⊢
    obtain ⟨⟨v0, v1⟩, hbx⟩ := hx2
    exact bodyPost_ret (v := .agg #[(.int .i64 z.1), (.int .i64 z.2)]) (by simp [results, Tryz.results131, go_sem, v0, v1]) rfl ⟨rfl, hbx⟩
  · have hz := HR.out hx
    subst hz
    clear HR HR' hx
    go_wp2
    have hx2 := gstore2 HK2.out HB1.out (by omega) (.int .i64 e1) (.int .i64 e2)
    generalize (w1.setCell ⟨w.heap.size + 1, 0, none⟩ (.int .i64 e1)).setCell ⟨w.heap.size + 1, 1, none⟩ (.int .i64 e2) = X at hx2 ⊢
    obtain ⟨⟨v0, v1⟩, hbx⟩ := hx2
    exact bodyPost_ret (v := .agg #[(.int .i64 e1), (.int .i64 e2)]) (by simp [results, Tryz.results131, go_sem, v0, v1]) rfl ⟨rfl, hbx⟩
end Go.Proofs.YtlckeebbjnhejaaGreat
end
