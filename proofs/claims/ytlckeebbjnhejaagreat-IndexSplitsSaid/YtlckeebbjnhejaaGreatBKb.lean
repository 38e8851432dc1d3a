/-
  Texts laid together: Kb Kc.
-/
import Derived.Test.YtlckeebbjnhejaaGreatBKa
import Derived.Test.YtlckeebbjnhejaaGreatBGh
import Derived.Test.YtlckeebbjnhejaaGreatBGq
import Derived.Test.YtlckeebbjnhejaaGreatBGm
section
/-
  Package index in memory: an entry's cells, an index (its block, its row of entries, their keys and histories), what may turn.
-/
namespace Go.Proofs.YtlckeebbjnhejaaGreat
open Go.ChangeShapes Go.WideShapes Go.ChangeAt Go.RowKit Go.Deep
set_option linter.unusedVariables false
set_option linter.unusedSimpArgs false

/-- The blocks of a history are of three types. -/
theorem Gs.ty {w : World} {r : Nat} {F : Nat → Prop} {gs : List Gn} (h : Gs w r F gs) {j : Nat} (hj : F j) : ∃ cur t, w.heap[j]? = some (.cells cur t (0, 0)) ∧ (t = 102 ∨ t = 99 ∨ t = 29) := by
  obtain ⟨A, n, k, Ls, h1, h2⟩ := h
  rcases (h2 j).1 hj with rfl | hj | ⟨L, hL, hj⟩
  · exact ⟨_, _, h1.box, .inl rfl⟩
  · obtain ⟨c, hc⟩ := gown_cl (k := 0) h1.own hj
    exact ⟨_, _, hc, .inr (.inl rfl)⟩
  · obtain ⟨c, hc⟩ := h1.row_cl hL hj
    exact ⟨_, _, hc, .inr (.inr rfl)⟩
theorem Gs.not_ty {w : World} {r : Nat} {F : Nat → Prop} {gs : List Gn} (h : Gs w r F gs) {j : Nat} {cur : Array Value} {t : TypeId} {f : Nat × Nat} (hb : w.heap[j]? = some (.cells cur t f)) (h1 : t ≠ 102) (h2 : t ≠ 99) (h3 : t ≠ 29) : ¬ F j := fun hj => by
  obtain ⟨c, s, hc, ht⟩ := h.ty hj
  rcases ht with rfl | rfl | rfl
  · exact ne_of_types hc hb (fun e => h1 e.symm) rfl
  · exact ne_of_types hc hb (fun e => h2 e.symm) rfl
  · exact ne_of_types hc hb (fun e => h3 e.symm) rfl
theorem Gs.self {w : World} {r : Nat} {F : Nat → Prop} {gs : List Gn} (h : Gs w r F gs) : F r := by
  obtain ⟨A, n, k, Ls, h1, h2⟩ := h
  exact (h2 r).2 (.inl rfl)
/-- An entry, as it lies. -/
structure EnL where
  A : Option Addr
  n : Nat
  c : Nat
  xs : List UInt8
  r : Nat
  F : Nat → Prop
  gs : List Gn
def EnL.cells (E : EnL) : List Value := [.slice E.A E.n E.c, .pointer (some ⟨E.r, 0, none⟩)]
def EnL.px (E : EnL) : PE := (E.xs, E.gs)
def enX (Es : List EnL) : List Value := Es.flatMap EnL.cells
theorem enX_cons (E : EnL) (Es : List EnL) : enX (E :: Es) = E.cells ++ enX Es := rfl
theorem enX_append (a b : List EnL) : enX (a ++ b) = enX a ++ enX b := by simp [enX]
theorem enX_length : ∀ Es : List EnL, (enX Es).length = Es.length * 2
  | [] => rfl
  | E :: Es => by rw [enX_cons, List.length_append, enX_length Es]; simp [EnL.cells]; omega
theorem enX_one (Es : List EnL) : ∀ u ∈ enX Es, u.oneCell' = true := by
  intro u hu
  obtain ⟨L, _, hp⟩ := List.mem_flatMap.1 hu
  simp only [EnL.cells, List.mem_cons, List.not_mem_nil, or_false] at hp
  rcases hp with rfl | rfl <;> rfl
theorem enX_at : ∀ (Es : List EnL) (i : Nat) (h : i < Es.length), (enX Es)[i * 2]? = some (.slice Es[i].A Es[i].n Es[i].c) ∧ (enX Es)[i * 2 + 1]? = some (.pointer (some ⟨Es[i].r, 0, none⟩))
  | p :: es, 0, _ => ⟨rfl, rfl⟩
  | p :: es, i + 1, h => by
    have := enX_at es i (by simpa using h)
    have e : enX (p :: es) = .slice p.A p.n p.c :: .pointer (some ⟨p.r, 0, none⟩) :: enX es := rfl
    rw [e, show (i + 1) * 2 = i * 2 + 1 + 1 by omega]
    simpa using this
theorem enX_drop (Es : List EnL) : ∀ k, (enX Es).drop (k * 2) = enX (Es.drop k) := by
  induction Es with
  | nil => intro k; simp [enX]
  | cons p ps ih =>
    intro k
    cases k with
    | zero => simp
    | succ k =>
      have e : enX (p :: ps) = .slice p.A p.n p.c :: .pointer (some ⟨p.r, 0, none⟩) :: enX ps := rfl
      rw [e, show (k + 1) * 2 = k * 2 + 1 + 1 by omega]
      simpa using ih k
theorem enX_take (Es : List EnL) : ∀ k, (enX Es).take (k * 2) = enX (Es.take k) := by
  induction Es with
  | nil => intro k; simp [enX]
  | cons p ps ih =>
    intro k
    cases k with
    | zero => simp [enX]
    | succ k =>
      have e : enX (p :: ps) = .slice p.A p.n p.c :: .pointer (some ⟨p.r, 0, none⟩) :: enX ps := rfl
      have e2 : enX (p :: ps.take k) = .slice p.A p.n p.c :: .pointer (some ⟨p.r, 0, none⟩) :: enX (ps.take k) := rfl
      rw [e, List.take_succ_cons, e2, show (k + 1) * 2 = k * 2 + 1 + 1 by omega]
      simpa using ih k
/-- Where its key lies. -/
def EnL.kb (E : EnL) (j : Nat) : Prop := (Value.slice E.A E.n E.c).ownBlock = some j
structure EnAt (w : World) (E : EnL) : Prop where
  key : w.ownsRow 0 5 1 (.slice E.A E.n E.c) E.n (cellsOf E.xs)
  his : Gs w E.r E.F E.gs
  len : E.n ≤ 1000
theorem EnAt.turned {w w' : World} {T : Nat → Prop} {E : EnL} (h : EnAt w E) (t : Turned w w' T) (h1 : ∀ j, E.kb j → ¬ T j) (h2 : ∀ j, E.F j → ¬ T j) : EnAt w' E := ⟨gown_turned h.key t h1, h.his.turned t h2, h.len⟩
theorem EnAt.kty {w : World} {E : EnL} (h : EnAt w E) {j : Nat} (hj : E.kb j) : ∃ cur, w.heap[j]? = some (.cells cur 5 (0, 0)) := gown_cl (k := 0) h.key hj
/-- An index in block x that has these entries. -/
structure IxL (w : World) (x : Nat) (A : Option Addr) (n k : Nat) (l : Rv) (Es : List EnL) : Prop where
  box : Blk w x 70 [.slice A n k, .int .i64 l.1, .int .i64 l.2]
  row : w.ownsRow 0 67 2 (.slice A n k) n (enX Es)
  ln : Es.length = n
  all : ∀ E ∈ Es, EnAt w E
  ap : List.Pairwise (fun a b : EnL => ∀ j, a.F j → ¬ b.F j) Es
def footX (x : Nat) (A : Option Addr) (n k : Nat) (Es : List EnL) (j : Nat) : Prop := j = x ∨ (Value.slice A n k).ownBlock = some j ∨ ∃ E ∈ Es, E.kb j ∨ E.F j
section
variable {w w' : World} {x : Nat} {A : Option Addr} {n k : Nat} {l : Rv} {Es : List EnL} {T : Nat → Prop}
theorem IxL.turned (h : IxL w x A n k l Es) (t : Turned w w' T) (hn : ∀ j, footX x A n k Es j → ¬ T j) : IxL w' x A n k l Es :=
  ⟨t.blk h.box (hn x (.inl rfl)), gown_turned h.row t (fun g hg => hn g (.inr (.inl hg))), h.ln, fun E hE => (h.all E hE).turned t (fun g hg => hn g (.inr (.inr ⟨E, hE, .inl hg⟩))) (fun g hg => hn g (.inr (.inr ⟨E, hE, .inr hg⟩))), h.ap⟩
theorem IxL.below (h : IxL w x A n k l Es) (hb : Below w.heap.size w w') : IxL w' x A n k l Es := h.turned (Turned.of_below hb (fun _ => False)) (fun _ _ h => h)
theorem IxL.lt (h : IxL w x A n k l Es) {j : Nat} (hj : footX x A n k Es j) : j < w.heap.size := by
  rcases hj with rfl | hj | ⟨E, hE, hj | hj⟩
  · exact h.box.lt
  · exact (gown_lt h.row hj).2
  · exact (gown_lt (h.all E hE).key hj).2
  · exact (h.all E hE).his.lt hj
theorem IxL.ent (h : IxL w x A n k l Es) {i : Nat} (hi : i < n) : ∃ g, A = some ⟨g, 0, none⟩ ∧ ∃ E, Es[i]? = some E ∧ E ∈ Es ∧ w.cell? ⟨g, i * 2, none⟩ = some (.slice E.A E.n E.c) ∧ w.cell? ⟨g, i * 2 + 1, none⟩ = some (.pointer (some ⟨E.r, 0, none⟩)) ∧ EnAt w E := by
  obtain ⟨g, rfl, _, _, _, _, hc⟩ := gown_at h.row (by omega)
  have hl : i < Es.length := by rw [h.ln]; exact hi
  obtain ⟨h0, h1⟩ := enX_at Es i hl
  exact ⟨g, rfl, Es[i], List.getElem?_eq_getElem hl, List.getElem_mem _, hc _ _ h0, hc _ _ h1, h.all _ (List.getElem_mem _)⟩
/-- What turns histories' blocks alone leaves the rest of an index. -/
theorem IxL.apart_h (h : IxL w x A n k l Es) {F : Nat → Prop} {r : Nat} {gs : List Gn} (hg : Gs w r F gs) : ¬ F x ∧ (∀ j, (Value.slice A n k).ownBlock = some j → ¬ F j) ∧ ∀ E ∈ Es, ∀ j, E.kb j → ¬ F j := by
  refine ⟨hg.not_ty h.box (by decide) (by decide) (by decide), fun j hj => ?_, fun E hE j hj => ?_⟩
  · obtain ⟨c, hc⟩ := gown_cl (k := 0) h.row hj
    exact hg.not_ty hc (by decide) (by decide) (by decide)
  · obtain ⟨c, hc⟩ := (h.all E hE).kty hj
    exact hg.not_ty hc (by decide) (by decide) (by decide)
end
/-- One of its histories has turned. -/
theorem IxL.hist {w w' : World} {x : Nat} {A : Option Addr} {n k : Nat} {l : Rv} {Q R : List EnL} {E : EnL} (h : IxL w x A n k l (Q ++ E :: R)) {gs' : List Gn} (hl : GLeft w E.r E.F gs' w') : ∃ F', IxL w' x A n k l (Q ++ { E with F := F', gs := gs' } :: R) ∧ (∀ j, footX x A n k (Q ++ { E with F := F', gs := gs' } :: R) j → footX x A n k (Q ++ E :: R) j ∨ w.heap.size ≤ j) ∧ Turned w w' E.F := by
  obtain ⟨F', hg, hF, t⟩ := hl
  have hE : E ∈ Q ++ E :: R := by simp
  obtain ⟨a1, a2, a3⟩ := h.apart_h (h.all E hE).his
  have hp := List.pairwise_append.1 h.ap
  have hp2 := List.pairwise_cons.1 hp.2.1
  have hlt : ∀ e ∈ Q ++ E :: R, ∀ j, e.F j → j < w.heap.size := fun e he j hj => (h.all e he).his.lt hj
  have hd1 : ∀ e ∈ Q, ∀ j, e.F j → ¬ E.F j := fun e he j hj => hp.2.2 e he E (List.mem_cons_self ..) j hj
  have hd2 : ∀ e ∈ R, ∀ j, e.F j → ¬ E.F j := fun e he j hj hj2 => hp2.1 e he j hj2 hj
  have hmQ : ∀ {e}, e ∈ Q → e ∈ Q ++ E :: R := fun he => List.mem_append.2 (.inl he)
  have hmR : ∀ {e}, e ∈ R → e ∈ Q ++ E :: R := fun he => List.mem_append.2 (.inr (List.mem_cons_of_mem _ he))
  have hx : enX (Q ++ { E with F := F', gs := gs' } :: R) = enX (Q ++ E :: R) := by rw [enX_append, enX_append, enX_cons, enX_cons]; rfl
  refine ⟨F', ⟨t.blk h.box a1, by rw [hx]; exact gown_turned h.row t a2, by rw [← h.ln]; simp, fun e he => ?_, ?_⟩, fun j hj => ?_, t⟩
  · rcases List.mem_append.1 he with he | he
    · exact (h.all e (hmQ he)).turned t (a3 e (hmQ he)) (hd1 e he)
    · rcases List.mem_cons.1 he with rfl | he
      · exact ⟨gown_turned (h.all E hE).key t (a3 E hE), hg, (h.all E hE).len⟩
      · exact (h.all e (hmR he)).turned t (a3 e (hmR he)) (hd2 e he)
  · refine List.pairwise_append.2 ⟨hp.1, List.pairwise_cons.2 ⟨fun b hb j hj hj2 => ?_, hp2.2⟩, fun a ha b hb j hj hj2 => ?_⟩
    · rcases hF j hj with h1 | h1
      · exact hp2.1 b hb j h1 hj2
      · exact absurd (hlt b (hmR hb) j hj2) (by omega)
    · rcases List.mem_cons.1 hb with rfl | hb
      · rcases hF j hj2 with h1 | h1
        · exact hd1 a ha j hj h1
        · exact absurd (hlt a (hmQ ha) j hj) (by omega)
      · exact hp.2.2 a ha b (List.mem_cons_of_mem _ hb) j hj hj2
  · rcases hj with rfl | hj | ⟨e, he, hj⟩
    · exact .inl (.inl rfl)
    · exact .inl (.inr (.inl hj))
    · rcases List.mem_append.1 he with he | he
      · exact .inl (.inr (.inr ⟨e, hmQ he, hj⟩))
      · rcases List.mem_cons.1 he with rfl | he
        · rcases hj with hj | hj
          · exact .inl (.inr (.inr ⟨E, hE, .inl hj⟩))
          · rcases hF j hj with h1 | h1
            · exact .inl (.inr (.inr ⟨E, hE, .inr h1⟩))
            · exact .inr h1
        · exact .inl (.inr (.inr ⟨e, hmR he, hj⟩))
/-- An index in block x that lies in the blocks of F: its rows, its last revision. -/
def Ix (w : World) (x : Nat) (F : Nat → Prop) (l : Rv) (P : List PE) : Prop := ∃ A n k Es, IxL w x A n k l Es ∧ (∀ j, F j ↔ footX x A n k Es j) ∧ Es.map EnL.px = P
theorem Ix.turned {w w' : World} {T F : Nat → Prop} {x : Nat} {l : Rv} {P : List PE} (h : Ix w x F l P) (t : Turned w w' T) (hn : ∀ j, F j → ¬ T j) : Ix w' x F l P := by
  obtain ⟨A, n, k, Es, h1, h2, h3⟩ := h
  exact ⟨A, n, k, Es, h1.turned t (fun j hj => hn j ((h2 j).2 hj)), h2, h3⟩
theorem Ix.below {w w' : World} {F : Nat → Prop} {x : Nat} {l : Rv} {P : List PE} (h : Ix w x F l P) (hb : Below w.heap.size w w') : Ix w' x F l P := h.turned (Turned.of_below hb (fun _ => False)) (fun _ _ h => h)
theorem Ix.lt {w : World} {F : Nat → Prop} {x : Nat} {l : Rv} {P : List PE} (h : Ix w x F l P) {j : Nat} (hj : F j) : j < w.heap.size := by
  obtain ⟨A, n, k, Es, h1, h2, _⟩ := h
  exact h1.lt ((h2 j).1 hj)
/-- The blocks of an index are of six types. -/
theorem Ix.ty {w : World} {F : Nat → Prop} {x : Nat} {l : Rv} {P : List PE} (h : Ix w x F l P) {j : Nat} (hj : F j) : ∃ cur t, w.heap[j]? = some (.cells cur t (0, 0)) ∧ (t = 70 ∨ t = 67 ∨ t = 5 ∨ t = 102 ∨ t = 99 ∨ t = 29) := by
  obtain ⟨A, n, k, Es, h1, h2, _⟩ := h
  rcases (h2 j).1 hj with rfl | hj | ⟨E, hE, hj | hj⟩
  · exact ⟨_, _, h1.box, .inl rfl⟩
  · obtain ⟨c, hc⟩ := gown_cl (k := 0) h1.row hj
    exact ⟨_, _, hc, .inr (.inl rfl)⟩
  · obtain ⟨c, hc⟩ := (h1.all E hE).kty hj
    exact ⟨_, _, hc, .inr (.inr (.inl rfl))⟩
  · obtain ⟨c, t, hc, ht⟩ := (h1.all E hE).his.ty hj
    exact ⟨_, _, hc, .inr (.inr (.inr ht))⟩
/-- It is no row of bytes (an index's keys are never turned). -/
def NU (w : World) (j : Nat) : Prop := ∀ c f, w.heap[j]? ≠ some (.cells c 5 f)
theorem NU.of {w : World} {j : Nat} {c : Array Value} {t : TypeId} {f : Nat × Nat} (h : w.heap[j]? = some (.cells c t f)) (ht : t ≠ 5) : NU w j := fun c' f' e => ne_of_types h e ht rfl
theorem Gs.nu {w : World} {r : Nat} {F : Nat → Prop} {gs : List Gn} (h : Gs w r F gs) {j : Nat} (hj : F j) : NU w j := by
  obtain ⟨c, t, hc, ht⟩ := h.ty hj
  rcases ht with rfl | rfl | rfl <;> exact NU.of hc (by decide)
theorem NU.back {w w1 : World} (hb : Below w.heap.size w w1) {j : Nat} (h : NU w1 j) : NU w j := fun c f e => by
  have hl : j < w.heap.size := (Array.getElem?_eq_some_iff.1 e).1
  exact h c f ((hb.block j hl).trans e)
/-- What a call leaves of an index. -/
def IxLeft (w : World) (x : Nat) (F : Nat → Prop) (l' : Rv) (P' : List PE) (w' : World) : Prop := ∃ F', Ix w' x F' l' P' ∧ (∀ j, F' j → F j ∨ w.heap.size ≤ j) ∧ Turned w w' (fun j => F j ∧ NU w j)
theorem IxLeft.of_below {w w' : World} {x : Nat} {F : Nat → Prop} {l : Rv} {P : List PE} (h : Ix w x F l P) (hb : Below w.heap.size w w') : IxLeft w x F l P w' := ⟨F, h.below hb, fun j hj => .inl hj, Turned.of_below hb _⟩
theorem IxLeft.after {w w1 w' : World} {x : Nat} {F : Nat → Prop} {l : Rv} {P : List PE} (hb : Below w.heap.size w w1) (h : IxLeft w1 x F l P w') : IxLeft w x F l P w' := by
  obtain ⟨F', h1, h2, h3⟩ := h
  exact ⟨F', h1, fun j hj => (h2 j hj).imp id (fun h => Nat.le_trans hb.size h), (Turned.of_below hb _).trans (h3.mono (fun j _ hj => ⟨hj.1, hj.2.back hb⟩))⟩
theorem IxLeft.later {w w1 w' : World} {x : Nat} {F : Nat → Prop} {l : Rv} {P : List PE} (h : IxLeft w x F l P w1) (hb : Below w1.heap.size w1 w') : IxLeft w x F l P w' := by
  obtain ⟨F', h1, h2, h3⟩ := h
  exact ⟨F', h1.below hb, h2, h3.trans (Turned.of_below hb _)⟩
/-- What holds of an index's rows. -/
structure XInv (l : Rv) (P : List PE) (N : Nat) : Prop where
  rise : RiseX P
  inv : ∀ e ∈ P, GInv e.2
  bd : ∀ e ∈ P, BdG e.2 N
  ln : P.length ≤ N
theorem enX_one2 (E : EnL) : ∀ u ∈ E.cells, u.oneCell' = true := by
  intro u hu
  simp only [EnL.cells, List.mem_cons, List.not_mem_nil, or_false] at hu
  rcases hu with rfl | rfl <;> rfl
end Go.Proofs.YtlckeebbjnhejaaGreat
end

section
/-
  package index: where a key stands (slices.BinarySearchFunc over entries).
-/
namespace Go.Proofs.YtlckeebbjnhejaaGreat
open Go.ChangeShapes Go.WideShapes Go.ChangeAt Go.RowKit Go.Deep
set_option linter.unusedVariables false
set_option linter.unusedSimpArgs false

set_option maxRecDepth 100000 in
theorem against_any (A B : Option Addr) (r n m c d : Nat) (xs ys : List UInt8) (w : World) (h1 : Rd w A n xs) (h2 : Rd w B m ys) :
    Calls Tryz.prog 52 #[.agg #[.slice A n c, .pointer (some ⟨r, 0, none⟩)], .slice B m d] w fun e w' => e = .returned (.int .i64 (ordB xs ys)) ∧ Below w.heap.size w w' := by
  have HC := fun o => kept (compare_any A B n m c d xs ys (w.alloc o) (h1.alloc o) (h2.alloc o))
  have HB := fun o => kept ((Below.refl _ w).alloc (Nat.le_refl _) o)
  clear h1 h2
  go_enter Tryz.func52, Tryz.ntmps52
  go_wp2_with (first | (go_at_call 86; (with_reducible refine ((HC _).out).mono ?_); rintro e w' ⟨rfl, rfl⟩))
  go_ret
  exact ⟨rfl, (HB _).out⟩
theorem px_get {Es : List EnL} {i : Nat} {E : EnL} (h : Es[i]? = some E) : (Es.map EnL.px)[i]? = some (E.xs, E.gs) := by rw [List.getElem?_map, h]; rfl
/-- What the search has found. -/
def CutX (P : List PE) (k : List UInt8) (a c : Nat) : Prop := (∀ t (h : t < P.length), t < a → ahead P[t].1 k = true) ∧ ∀ t (h : t < P.length), c ≤ t → ahead P[t].1 k = false
theorem CutX.done {P : List PE} {k : List UInt8} {a : Nat} (h : CutX P k a a) (ha : a ≤ P.length) : plX P k = a := cut_uniq (fun e : PE => ahead e.1 k) ha h.1 h.2
theorem CutX.up {P : List PE} (hr : RiseX P) {k : List UInt8} {a c q : Nat} (h : CutX P k a c) {e : PE} (he : P[q]? = some e) (hk : ordB e.1 k < 0) : CutX P k (q + 1) c := by
  obtain ⟨hq, rfl⟩ := List.getElem?_eq_some_iff.1 he
  refine ⟨fun t ht htq => ?_, h.2⟩
  have h1 := ordB_neg.1 hk
  rw [plX_cut hr k q hq] at h1
  rw [plX_cut hr k t ht]
  simp only [decide_eq_true_eq] at h1 ⊢
  omega
theorem CutX.down {P : List PE} (hr : RiseX P) {k : List UInt8} {a c q : Nat} (h : CutX P k a c) {e : PE} (he : P[q]? = some e) (hk : ¬ ordB e.1 k < 0) : CutX P k a q := by
  obtain ⟨hq, rfl⟩ := List.getElem?_eq_some_iff.1 he
  refine ⟨h.1, fun t ht htq => ?_⟩
  rw [ordB_neg, plX_cut hr k q hq] at hk
  rw [plX_cut hr k t ht]
  simp only [decide_eq_true_eq, decide_eq_false_iff_not] at hk ⊢
  omega
set_option maxRecDepth 100000 in
set_option maxHeartbeats 4000000 in
theorem bsE_any {w : World} {x : Nat} {A : Option Addr} {n k : Nat} {l : Rv} {Es : List EnL} (h : IxL w x A n k l Es) (hr : RiseX (Es.map EnL.px)) (hn : n ≤ 1000000) (B : Option Addr) (m d : Nat) (ys : List UInt8) (h2 : Rd w B m ys) :
    Calls Tryz.prog 51 #[.slice A n k, .slice B m d, .func (.func 52) #[] #[]] w fun e w' => e = .returned (.tuple #[.int .i64 (plX (Es.map EnL.px) ys : Int), .bool (knX (Es.map EnL.px) ys)]) ∧ Below w.heap.size w w' := by
  obtain ⟨P, hP⟩ : ∃ P, Es.map EnL.px = P := ⟨_, rfl⟩
  have HG := kept (fun i E (he : Es[i]? = some E) => by have := px_get he; rw [hP] at this; exact this)
  have HN : Hid (P.length = n) := kept (by rw [← hP, List.length_map]; exact h.ln)
  rw [hP] at hr ⊢
  have HX := kept h
  have HY := kept h2
  have HS := kept hr
  have H0 : Hid (CutX P ys 0 n ∧ Below w.heap.size w w) := kept ⟨⟨fun t h h0 => absurd h0 (by omega), fun t h h0 => absurd h (by rw [HN.out]; omega)⟩, Below.refl _ _⟩
  clear h h2 hr hP
  go_enter Tryz.func51, Tryz.ntmps51
  go_wp2
  go_loopw [9, 10] (fun i j wr => ∃ a b : Nat, a ≤ b ∧ b ≤ n ∧ i = .int .i64 (a : Int) ∧ j = .int .i64 (b : Int) ∧ Hid (CutX P ys a b ∧ Below w.heap.size w wr)) (fun i j _ => (intOf j).toNat - (intOf i).toNat)
  case atStart => exact ⟨0, n, Nat.zero_le _, Nat.le_refl _, rfl, rfl, H0⟩
  case round =>
    obtain ⟨a, b, hab, hbn, rfl, rfl, HL⟩ := hrel
    clear H0
    by_cases hlt : a < b
    · obtain ⟨q, hq⟩ : ∃ q, (a + b) / 2 = q := ⟨_, rfl⟩
      have hw1 : IntKind.i64.wrap ((a : Int) + (b : Int)) = (a : Int) + (b : Int) := by rw [IntKind.wrap_i64]; omega
      have hw2 : IntKind.u64.wrap ((a : Int) + (b : Int)) = (a : Int) + (b : Int) := by rw [IntKind.wrap_u64]; omega
      have hlt' : (a : Int) < (b : Int) := by omega
      have hq' : ((a : Int) + (b : Int)) / 2 = (q : Int) := by omega
      have hqn : q < n := by omega
      have hq0 : (0 : Int) ≤ (q : Int) := by omega
      have hqn' : (q : Int) < (n : Int) := by omega
      obtain ⟨g, hA, E, he, _, z0, z1, hat⟩ := (HX.out.below HL.out.2).ent hqn
      have HP := kept (against_any E.A B E.r E.n m E.c d E.xs ys wr (Rd.of_own hat.key) (HY.out.below HL.out.2))
      have HQ : Hid (a ≤ q ∧ q < b) := kept ⟨by omega, by omega⟩
      have HE := kept (HG.out q E he)
      obtain ⟨or, hor⟩ : ∃ or, ordB E.xs ys = or := ⟨_, rfl⟩
      rw [hor] at HP
      have HOR := kept hor
      subst hA
      clear hor hq hat he
      by_cases hneg : or < 0
      · have hneg' := hneg
        go_wp2_with (first | (go_at_call 52; (with_reducible refine (HP.out).mono ?_); rintro e w1 ⟨rfl, hb1⟩; have HB1 := kept (HL.out.2.trans (hb1.mono HL.out.2.size)); clear hb1))
        have HZ : Hid (CutX P ys (q + 1) b ∧ Below w.heap.size w w1) := kept ⟨HL.out.1.up HS.out HE.out (by show ordB E.xs ys < 0; rw [HOR.out]; exact hneg), HB1.out⟩
        clear z0 z1
        go_roundw
        case rel => exact ⟨q + 1, b, by have := HQ.out; omega, hbn, by go_num, rfl, HZ⟩
        case measure => have := HQ.out; simp [intOf]; omega
      · have hneg' : ¬ or < 0 := hneg
        go_wp2_with (first | (go_at_call 52; (with_reducible refine (HP.out).mono ?_); rintro e w1 ⟨rfl, hb1⟩; have HB1 := kept (HL.out.2.trans (hb1.mono HL.out.2.size)); clear hb1))
        have HZ : Hid (CutX P ys a q ∧ Below w.heap.size w w1) := kept ⟨HL.out.1.down HS.out HE.out (by show ¬ ordB E.xs ys < 0; rw [HOR.out]; omega), HB1.out⟩
        clear z0 z1
        go_roundw
        case rel => exact ⟨a, q, by have := HQ.out; omega, by have := HQ.out; omega, rfl, rfl, HZ⟩
        case measure => have := HQ.out; simp [intOf]; omega
    · obtain rfl : a = b := by omega
      have hlt' : ¬ (a : Int) < (a : Int) := by omega
      have HAN : Hid (plX P ys = a) := kept (HL.out.1.done (by rw [HN.out]; exact hbn))
      by_cases han : a < n
      · have han' : (a : Int) < (n : Int) := by omega
        obtain ⟨g, hA, E, he, _, z0, z1, hat⟩ := (HX.out.below HL.out.2).ent han
        have HP := kept (against_any E.A B E.r E.n m E.c d E.xs ys wr (Rd.of_own hat.key) (HY.out.below HL.out.2))
        have HD : Hid (knX P ys = decide (ordB E.xs ys = 0)) := kept (by
          unfold knX
          rw [HAN.out, HG.out a E he]
          show decide (E.xs = ys) = _
          rw [decide_eq_decide]
          exact ordB_zer.symm)
        generalize ordB E.xs ys = or at HP HD
        subst hA
        clear hat he
        have hda : decide ((a : Int) < (n : Int)) = true := by simp; omega
        go_wp2_with (first | (go_at_call 52; (with_reducible refine (HP.out).mono ?_); rintro e w1 ⟨rfl, hb1⟩; have HB1 := kept (HL.out.2.trans (hb1.mono HL.out.2.size)); clear hb1))
        go_returns
        rw [HAN.out, HD.out]
        refine ⟨?_, HB1.out⟩
        by_cases h0 : or = 0
        · subst h0; rfl
        · have h1 : decide (or = 0) = false := by simpa using h0
          rw [h1]
          simp [h0]
      · have han' : ¬ (a : Int) < (n : Int) := by omega
        have hda : decide ((a : Int) < (n : Int)) = false := by simp; omega
        have HD : Hid (knX P ys = false) := kept (by
          unfold knX
          rw [HAN.out, List.getElem?_eq_none (by rw [HN.out]; omega)])
        go_wp2
        go_returns
        rw [HAN.out, HD.out]
        exact ⟨rfl, HL.out.2⟩
set_option maxHeartbeats 2000000 in
theorem placeL_any {w : World} {x : Nat} {A : Option Addr} {n k : Nat} {l : Rv} {Es : List EnL} (h : IxL w x A n k l Es) (hr : RiseX (Es.map EnL.px)) (hn : n ≤ 1000000) (B : Option Addr) (m d : Nat) (ys : List UInt8) (h2 : Rd w B m ys) :
    Calls Tryz.prog 25 #[.pointer (some ⟨x, 0, none⟩), .slice B m d] w fun e w' => e = .returned (.tuple #[.int .i64 (plX (Es.map EnL.px) ys : Int), .bool (knX (Es.map EnL.px) ys)]) ∧ Below w.heap.size w w' := by
  have HS := kept (bsE_any h hr hn B m d ys h2)
  generalize knX (Es.map EnL.px) ys = b at HS ⊢
  generalize (plX (Es.map EnL.px) ys : Int) = k at HS ⊢
  have b0 := h.box.cell 0
  clear h h2 hr
  go_enter Tryz.func25, Tryz.ntmps25
  go_wp2_with (first | (go_at_call 51; (with_reducible refine (HS.out).mono ?_); rintro e w1 ⟨rfl, hb⟩; have HB := kept hb; clear hb b0))
  go_returns
  exact ⟨rfl, HB.out⟩
end Go.Proofs.YtlckeebbjnhejaaGreat
end
