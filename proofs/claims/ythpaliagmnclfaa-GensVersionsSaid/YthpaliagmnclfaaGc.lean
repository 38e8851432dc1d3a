/-
  package gens in memory: a generation's cells, a history (its block, its row of generations, their rows of puts), what may turn.
-/
import Derived.Test.YthpaliagmnclfaaGb
import Derived.Test.YthpaliagmnclfaaTu
import Derived.Maps.AppendAt
namespace Go.Proofs.Ythpaliagmnclfaa
open Go.ChangeShapes Go.WideShapes Go.ChangeAt Go.RowKit Go.Deep
set_option linter.unusedVariables false
set_option linter.unusedSimpArgs false

/-! ### rows -/
theorem gadd_at (b o j : Nat) : (⟨b, o, none⟩ : Addr).add j = ⟨b, o + j, none⟩ := by unfold Addr.add; split <;> simp_all
theorem gown_turned {w w' : World} {T : Nat → Prop} {base sz n : Nat} {e : TypeId} {v : Value} {xs : List Value} (h : w.ownsRow base e sz v n xs) (t : Turned w w' T) (hn : ∀ g, v.ownBlock = some g → ¬ T g) : w'.ownsRow base e sz v n xs := by
  refine ⟨h.1, ?_⟩
  rcases h.2 with h0 | ⟨g, cap, cur, rfl, hb, hh, r⟩
  · exact .inl h0
  · exact .inr ⟨g, cap, cur, rfl, hb, (t.block g (Array.getElem?_eq_some_iff.1 hh).1 (hn g rfl)).trans hh, r⟩
theorem gown_lt {w : World} {base sz n : Nat} {e : TypeId} {v : Value} {xs : List Value} (h : w.ownsRow base e sz v n xs) {g : Nat} (hg : v.ownBlock = some g) : base ≤ g ∧ g < w.heap.size := h.lt g hg
/-- A row's block, and its cells. -/
theorem gown_at {w : World} {base sz n k : Nat} {e : TypeId} {A : Option Addr} {xs : List Value} (h : w.ownsRow base e sz (.slice A n k) n xs) (hn : 0 < n) : ∃ g, A = some ⟨g, 0, none⟩ ∧ base ≤ g ∧ g < w.heap.size ∧ n ≤ k ∧ k ≤ maxLen ∧ ∀ j u, xs[j]? = some u → w.cell? ⟨g, j, none⟩ = some u := by
  rcases h.2 with ⟨e0, h0⟩ | ⟨g, cap, cur, hv, hb, hh, h1, h2, h3, h4⟩
  · omega
  · injection hv with hA _ hc
    subst hA hc
    refine ⟨g, rfl, hb, (Array.getElem?_eq_some_iff.1 hh).1, h1, h2, fun j u hu => ?_⟩
    have := h.cells (g := g) rfl j u hu
    rwa [gadd_at, Nat.zero_add] at this
theorem gown_cap {w : World} {base sz n k : Nat} {e : TypeId} {A : Option Addr} {xs : List Value} (h : w.ownsRow base e sz (.slice A n k) n xs) : n ≤ k ∧ k ≤ maxLen ∧ (A = none → n = 0 ∧ k = 0) := by
  rcases h.2 with ⟨e0, h0⟩ | ⟨g, cap, cur, hv, hb, hh, h1, h2, h3, h4⟩
  · injection e0 with e1 e2 e3
    subst e1 e2 e3
    exact ⟨Nat.le_refl _, Nat.zero_le _, fun _ => ⟨rfl, rfl⟩⟩
  · injection hv with hA _ hc
    subst hA hc
    exact ⟨h1, h2, fun e => by cases e⟩
/-- Revisions as cells. -/
def rvC (ps : List Rv) : List Value := ps.flatMap fun p => [.int .i64 p.1, .int .i64 p.2]
theorem rvC_cons (p : Rv) (ps : List Rv) : rvC (p :: ps) = .int .i64 p.1 :: .int .i64 p.2 :: rvC ps := rfl
theorem rvC_length : ∀ ps : List Rv, (rvC ps).length = ps.length * 2
  | [] => rfl
  | p :: ps => by rw [rvC_cons]; simp [rvC_length ps]; omega
theorem rvC_append (a b : List Rv) : rvC (a ++ b) = rvC a ++ rvC b := by simp [rvC]
theorem rvC_one (ps : List Rv) : ∀ u ∈ rvC ps, u.oneCell' = true := by
  intro u hu
  unfold rvC at hu
  obtain ⟨p, _, hp⟩ := List.mem_flatMap.1 hu
  simp only [List.mem_cons, List.not_mem_nil, or_false] at hp
  rcases hp with rfl | rfl <;> rfl
theorem rvC_at : ∀ (ps : List Rv) (i : Nat) (h : i < ps.length), (rvC ps)[i * 2]? = some (.int .i64 ps[i].1) ∧ (rvC ps)[i * 2 + 1]? = some (.int .i64 ps[i].2)
  | p :: ps, 0, _ => ⟨rfl, rfl⟩
  | p :: ps, i + 1, h => by
    have := rvC_at ps i (by simpa using h)
    rw [rvC_cons, show (i + 1) * 2 = i * 2 + 1 + 1 by omega]
    simpa using this
theorem rvC_drop (ps : List Rv) : ∀ k, (rvC ps).drop (k * 2) = rvC (ps.drop k) := by
  induction ps with
  | nil => intro k; simp [rvC]
  | cons p ps ih =>
    intro k
    cases k with
    | zero => simp
    | succ k =>
      rw [rvC_cons, show (k + 1) * 2 = k * 2 + 1 + 1 by omega]
      simpa using ih k
/-- Where a generation's row of puts lies, beside its numbers. -/
structure GL where
  c : Int
  v : Int
  A : Option Addr
  n : Nat
  k : Nat
  e : Rv
def GL.row (L : GL) : Value := .slice L.A L.n L.k
def GL.cells (L : GL) : List Value := [.int .i64 L.c, .int .i64 L.v, .slice L.A L.n L.k, .int .i64 L.e.1, .int .i64 L.e.2]
def GL.val (L : GL) : Value := .agg #[.int .i64 L.c, .int .i64 L.v, .slice L.A L.n L.k, .int .i64 L.e.1, .int .i64 L.e.2]
def glC (Ls : List GL) : List Value := Ls.flatMap GL.cells
theorem glC_cons (L : GL) (Ls : List GL) : glC (L :: Ls) = L.cells ++ glC Ls := rfl
theorem glC_append (a b : List GL) : glC (a ++ b) = glC a ++ glC b := by simp [glC]
theorem glC_length : ∀ Ls : List GL, (glC Ls).length = Ls.length * 5
  | [] => rfl
  | L :: Ls => by rw [glC_cons, List.length_append, glC_length Ls]; simp [GL.cells]; omega
theorem glC_one (Ls : List GL) : ∀ u ∈ glC Ls, u.oneCell' = true := by
  intro u hu
  obtain ⟨L, _, hp⟩ := List.mem_flatMap.1 hu
  simp only [GL.cells, List.mem_cons, List.not_mem_nil, or_false] at hp
  rcases hp with rfl | rfl | rfl | rfl | rfl <;> rfl
theorem glC_drop (Ls : List GL) : ∀ k, (glC Ls).drop (k * 5) = glC (Ls.drop k) := by
  induction Ls with
  | nil => intro k; simp [glC]
  | cons L Ls ih =>
    intro k
    cases k with
    | zero => simp
    | succ k =>
      rw [glC_cons, show (k + 1) * 5 = k * 5 + 5 by omega]
      show (L.cells ++ glC Ls).drop (k * 5 + 5) = glC (Ls.drop k)
      rw [show k * 5 + 5 = L.cells.length + k * 5 by simp [GL.cells]; omega, ← List.drop_drop, List.drop_left]
      exact ih k
theorem glC_at : ∀ (Ls : List GL) (i : Nat) (h : i < Ls.length) (j : Nat), j < 5 → (glC Ls)[i * 5 + j]? = Ls[i].cells[j]?
  | L :: Ls, 0, _, j, hj => by rw [glC_cons, List.getElem?_append_left (by simp [GL.cells]; omega)]; simp
  | L :: Ls, i + 1, h, j, hj => by
    rw [glC_cons, List.getElem?_append_right (by simp [GL.cells]; omega)]
    have := glC_at Ls i (by simpa using h) j hj
    rw [show (i + 1) * 5 + j - L.cells.length = i * 5 + j by simp [GL.cells]; omega, this]
    simp
/-- A generation as it lies. -/
structure GlAt (w : World) (L : GL) (x : Gn) : Prop where
  c : L.c = x.c
  v : L.v = x.v
  e : L.e = x.e
  n : L.n = x.ps.length
  own : w.ownsRow 0 29 2 (.slice L.A L.n L.k) L.n (rvC x.ps)
theorem GlAt.turned {w w' : World} {T : Nat → Prop} {L : GL} {x : Gn} (h : GlAt w L x) (t : Turned w w' T) (hn : ∀ g, L.row.ownBlock = some g → ¬ T g) : GlAt w' L x := ⟨h.c, h.v, h.e, h.n, gown_turned h.own t hn⟩
theorem GlAt.below {w w' : World} {L : GL} {x : Gn} (h : GlAt w L x) (hb : Below w.heap.size w w') : GlAt w' L x := h.turned (Turned.of_below hb (fun _ => False)) (fun _ _ h => h)
theorem GlAt.lt {w : World} {L : GL} {x : Gn} (h : GlAt w L x) {g : Nat} (hg : L.row.ownBlock = some g) : g < w.heap.size := (gown_lt h.own hg).2
/-- A history as it lies. -/
structure GsL (w : World) (r : Nat) (A : Option Addr) (n k : Nat) (Ls : List GL) (gs : List Gn) : Prop where
  box : Blk w r 54 [.slice A n k]
  ln : Ls.length = n
  gn : gs.length = n
  own : w.ownsRow 0 60 5 (.slice A n k) n (glC Ls)
  el : ∀ (i : Nat) (h1 : i < Ls.length) (h2 : i < gs.length), GlAt w Ls[i] gs[i]
  ap : ∀ (i j : Nat) (h1 : i < Ls.length) (h2 : j < Ls.length), i ≠ j → ∀ g, Ls[i].row.ownBlock = some g → Ls[j].row.ownBlock ≠ some g
def footG (r : Nat) (A : Option Addr) (n k : Nat) (Ls : List GL) (j : Nat) : Prop := j = r ∨ (Value.slice A n k).ownBlock = some j ∨ ∃ L ∈ Ls, L.row.ownBlock = some j
theorem GsL.turned {w w' : World} {T : Nat → Prop} {r : Nat} {A : Option Addr} {n k : Nat} {Ls : List GL} {gs : List Gn} (h : GsL w r A n k Ls gs) (t : Turned w w' T) (hn : ∀ j, footG r A n k Ls j → ¬ T j) : GsL w' r A n k Ls gs :=
  ⟨t.blk h.box (hn r (.inl rfl)), h.ln, h.gn, gown_turned h.own t (fun g hg => hn g (.inr (.inl hg))), fun i h1 h2 => (h.el i h1 h2).turned t (fun g hg => hn g (.inr (.inr ⟨_, List.getElem_mem h1, hg⟩))), h.ap⟩
theorem GsL.below {w w' : World} {r : Nat} {A : Option Addr} {n k : Nat} {Ls : List GL} {gs : List Gn} (h : GsL w r A n k Ls gs) (hb : Below w.heap.size w w') : GsL w' r A n k Ls gs := h.turned (Turned.of_below hb (fun _ => False)) (fun _ _ h => h)
theorem GsL.lt {w : World} {r : Nat} {A : Option Addr} {n k : Nat} {Ls : List GL} {gs : List Gn} (h : GsL w r A n k Ls gs) {j : Nat} (hj : footG r A n k Ls j) : j < w.heap.size := by
  rcases hj with rfl | hj | ⟨L, hL, hj⟩
  · exact h.box.lt
  · exact (gown_lt h.own hj).2
  · obtain ⟨i, hi, rfl⟩ := List.getElem_of_mem hL
    exact (h.el i hi (by rw [h.gn, ← h.ln]; exact hi)).lt hj
/-- A history in block r that lies in the blocks of F. -/
def Gs (w : World) (r : Nat) (F : Nat → Prop) (gs : List Gn) : Prop := ∃ A n k Ls, GsL w r A n k Ls gs ∧ ∀ j, F j ↔ footG r A n k Ls j
theorem Gs.turned {w w' : World} {T F : Nat → Prop} {r : Nat} {gs : List Gn} (h : Gs w r F gs) (t : Turned w w' T) (hn : ∀ j, F j → ¬ T j) : Gs w' r F gs := by
  obtain ⟨A, n, k, Ls, h1, h2⟩ := h
  exact ⟨A, n, k, Ls, h1.turned t (fun j hj => hn j ((h2 j).2 hj)), h2⟩
theorem Gs.below {w w' : World} {F : Nat → Prop} {r : Nat} {gs : List Gn} (h : Gs w r F gs) (hb : Below w.heap.size w w') : Gs w' r F gs := h.turned (Turned.of_below hb (fun _ => False)) (fun _ _ h => h)
theorem Gs.lt {w : World} {F : Nat → Prop} {r : Nat} {gs : List Gn} (h : Gs w r F gs) {j : Nat} (hj : F j) : j < w.heap.size := by
  obtain ⟨A, n, k, Ls, h1, h2⟩ := h
  exact h1.lt ((h2 j).1 hj)
/-- What a call leaves of a history. -/
def GLeft (w : World) (r : Nat) (F : Nat → Prop) (gs' : List Gn) (w' : World) : Prop := ∃ F', Gs w' r F' gs' ∧ (∀ j, F' j → F j ∨ w.heap.size ≤ j) ∧ Turned w w' F
theorem GLeft.of_below {w w' : World} {r : Nat} {F : Nat → Prop} {gs : List Gn} (h : Gs w r F gs) (hb : Below w.heap.size w w') : GLeft w r F gs w' := ⟨F, h.below hb, fun j hj => .inl hj, Turned.of_below hb F⟩
/-- How much there may be. -/
def BdG (gs : List Gn) (N : Nat) : Prop := gs.length ≤ N ∧ ∀ x ∈ gs, x.ps.length ≤ N
theorem BdG.mono {gs : List Gn} {N M : Nat} (h : BdG gs N) (hm : N ≤ M) : BdG gs M := ⟨Nat.le_trans h.1 hm, fun x hx => Nat.le_trans (h.2 x hx) hm⟩

/-! ### a generation's own calls -/
theorem neq_rv (a b : Rv) (w : World) : (binOp .neq 29 (.agg #[.int .i64 a.1, .int .i64 a.2]) (.agg #[.int .i64 b.1, .int .i64 b.2])).run Try.prog w = .ok (.bool (!(decide (a = b)))) w := by
  obtain ⟨a, b'⟩ := a
  obtain ⟨c, d⟩ := b
  go_simp
  by_cases h1 : a = c <;> by_cases h2 : b' = d <;> simp [h1, h2]
theorem eql_rv (a b : Rv) (w : World) : (binOp .eql 29 (.agg #[.int .i64 a.1, .int .i64 a.2]) (.agg #[.int .i64 b.1, .int .i64 b.2])).run Try.prog w = .ok (.bool (decide (a = b))) w := by
  obtain ⟨a, b'⟩ := a
  obtain ⟨c, d⟩ := b
  go_simp
  by_cases h1 : a = c <;> by_cases h2 : b' = d <;> simp [h1, h2]
theorem ended_any (L : GL) (x : Gn) (he : L.e = x.e) (w : World) :
    Calls Try.prog 24 #[L.val] w fun e w' => e = .returned (.bool x.ended) ∧ Below w.heap.size w w' := by
  obtain ⟨c, v, A, n, k, e1, e2⟩ := L
  have hx : x.ended = !(decide ((e1, e2) = ((0, 0) : Rv))) := by
    unfold Gn.ended
    rw [← he]
  rw [hx]
  have hn := fun w => neq_rv (e1, e2) (0, 0) w
  generalize (!(decide ((e1, e2) = ((0, 0) : Rv)))) = b at hn ⊢
  have HB0 := kept ((Below.refl w.heap.size w).alloc (Nat.le_refl _) (.cells #[.int .i64 c, .int .i64 v, .slice A n k, .int .i64 e1, .int .i64 e2] 60))
  clear he hx
  simp only [GL.val]
  go_enter Try.func24, Try.ntmps24
  go_wp2
  go_returns
  exact ⟨rfl, HB0.out⟩
theorem found_any (L : GL) (q : Rv) (m : Int) (w : World) :
    Calls Try.prog 21 #[L.val, .agg #[.int .i64 q.1, .int .i64 q.2], .int .i64 m] w fun e w' => e = .returned (.agg #[.int .i64 q.1, .int .i64 q.2, .int .i64 L.c, .int .i64 (wrap64 (L.v + m))]) ∧ Below w.heap.size w w' := by
  obtain ⟨c, v, A, n, k, e1, e2⟩ := L
  obtain ⟨q1, q2⟩ := q
  have hB := (((Below.refl w.heap.size w).alloc (Nat.le_refl _) (.cells #[.int .i64 c, .int .i64 v, .slice A n k, .int .i64 e1, .int .i64 e2] 60)).alloc (by simp) (.cells #[.int .i64 q1, .int .i64 q2] 29)).alloc (by simp; omega) (.cells #[.int .i64 q1, .int .i64 q2, .int .i64 c, .int .i64 (wrap64 (v + m))] 33)
  have hk := Blk.new ((w.alloc (.cells #[.int .i64 c, .int .i64 v, .slice A n k, .int .i64 e1, .int .i64 e2] 60)).alloc (.cells #[.int .i64 q1, .int .i64 q2] 29)) 33 #[.int .i64 q1, .int .i64 q2, .int .i64 c, .int .i64 (wrap64 (v + m))]
  rw [World.size_alloc, World.size_alloc] at hk
  simp only [GL.val]
  go_enter Try.func21, Try.ntmps21
  go_wp2
  generalize (((w.alloc (.cells #[.int .i64 c, .int .i64 v, .slice A n k, .int .i64 e1, .int .i64 e2] 60)).alloc (.cells #[.int .i64 q1, .int .i64 q2] 29)).alloc (.cells #[.int .i64 q1, .int .i64 q2, .int .i64 c, .int .i64 (wrap64 (v + m))] 33)) = X at hB hk ⊢
  have x0 : X.cell? ⟨w.heap.size + 1 + 1, 0, none⟩ = some (.int .i64 q1) := hk.cell 0
  have x1 : X.cell? ⟨w.heap.size + 1 + 1, 1, none⟩ = some (.int .i64 q2) := hk.cell 1
  have x2 : X.cell? ⟨w.heap.size + 1 + 1, 2, none⟩ = some (.int .i64 c) := hk.cell 2
  have x3 : X.cell? ⟨w.heap.size + 1 + 1, 3, none⟩ = some (.int .i64 (wrap64 (v + m))) := hk.cell 3
  exact bodyPost_ret (v := .agg #[.int .i64 q1, .int .i64 q2, .int .i64 c, .int .i64 (wrap64 (v + m))]) (by simp [results, Try.results21, go_sem, x0, x1, x2, x3]) rfl ⟨rfl, hB⟩
end Go.Proofs.Ythpaliagmnclfaa
