/-
  Texts laid together: Lc Ku Kv.
-/
import Derived.Test.YtlckeebbjnhejaaGreatBKn
import Derived.Test.YtlckeebbjnhejaaGreatBJg
import Derived.Test.YtlckeebbjnhejaaGreatBJa
import Derived.Test.YtlckeebbjnhejaaGreatBJi
import Derived.Test.YtlckeebbjnhejaaGreatBBase
import Derived.Deep.DeepCutAuto
section
/-
  Stage 12's law IndexSplits: what is pure of it.
-/
namespace Go.Proofs.YtlckeebbjnhejaaGreat
open Go.ChangeShapes Go.WideShapes Go.ChangeAt Go.RowKit Go.Deep
set_option linter.unusedVariables false
set_option linter.unusedSimpArgs false

theorem ahead_nil_ (k : List UInt8) : ahead k [] = false := by cases k <;> rfl
theorem in_all (k : List UInt8) : inB k [] [0] = true := by
  unfold inB
  rw [if_neg (by simp), ahead_nil_]
  simp
/-- The changes of all keys. -/
theorem chg_all (P : List PE) (main : Int) : chgX P [] [0] main = P.flatMap (chgE main) := by
  unfold chgX
  rw [List.filter_eq_self.2 (fun e _ => in_all e.1)]
theorem in_only (k key : List UInt8) : inB k key [] = decide (k = key) := by unfold inB; rw [if_pos rfl]
/-- The changes of one key. -/
theorem chg_one {P : List PE} (h : RiseX P) (k : List UInt8) (main : Int) : chgX P k [] main = (sinceG (loX P k) main).map fun p => (k, p.1, p.2) := by
  have none_of : ∀ Q : List PE, (∀ x ∈ Q, x.1 ≠ k) → Q.filter (inX k []) = [] := fun Q hQ => by
    rw [List.filter_eq_nil_iff]
    intro x hx
    show ¬ inB x.1 k [] = true
    rw [in_only]
    simpa using hQ x hx
  rcases parted h k with ⟨_, Q, e, R, rfl, _, he, hlo, _, hq, hr⟩ | ⟨_, Q, R, rfl, _, hlo, _, hq, hr⟩
  · have h1 := none_of Q (fun x hx => ahead_ne (hq x hx))
    have h2 := none_of R (fun x hx e2 => ahead_ne (hr x hx) e2.symm)
    unfold chgX
    rw [List.filter_append, h1, List.nil_append, List.filter_cons, if_pos (show inX k [] e = true from by show inB e.1 k [] = true; rw [in_only, he]; simp), h2, hlo]
    simp [chgE, he]
  · have h1 := none_of Q (fun x hx => ahead_ne (hq x hx))
    have h2 := none_of R (fun x hx e2 => ahead_ne (hr x hx) e2.symm)
    unfold chgX
    rw [List.filter_append, h1, h2, hlo]
    rfl
/-- No two changes have one revision. -/
theorem chg_nodup {l : Rv} {P : List PE} {N : Nat} (h : XGood l P N) (main : Int) : ((P.flatMap (chgE main)).map fun c => c.2.1).Nodup := by
  have h1 : (P.flatMap (chgE main)).map (fun c => c.2.1) = P.flatMap fun e => (sinceG e.2 main).map Prod.fst := by
    rw [List.map_flatMap]
    congr 1
    funext e
    unfold chgE
    rw [List.map_map]
    rfl
  rw [h1]
  show List.Pairwise (· ≠ ·) _
  rw [List.pairwise_flatMap]
  refine ⟨fun e he => ?_, ?_⟩
  · refine List.Pairwise.sublist (since_sub e.2 main) ((h.inv.inv e he).rise.imp fun {a b} hab e2 => ?_)
    rw [e2, ltR_irr] at hab
    cases hab
  · refine h.one.imp fun {a b} hab x hx y hy e2 => ?_
    exact hab x ((since_sub a.2 main).subset hx) (e2 ▸ (since_sub b.2 main).subset hy)
theorem strict_of {cs : List ChL} (hs : List.Pairwise (fun a b : ChL => ltR b.q a.q = false) cs) (hn : (cs.map fun c => c.px.2.1).Nodup) : List.Pairwise (fun a b : ChL => ltR a.q b.q = true) cs := by
  have hn2 : List.Pairwise (fun a b : ChL => a.q ≠ b.q) cs := (List.pairwise_map (f := fun c : ChL => c.px.2.1)).1 hn
  refine (hs.and hn2).imp fun {a b} hab => ?_
  obtain ⟨h1, h2⟩ := hab
  rw [← Bool.not_eq_true, ltR_iff] at h1
  rw [ltR_iff]
  have : ¬ (a.q.1 = b.q.1 ∧ a.q.2 = b.q.2) := fun e => h2 (Prod.ext e.1 e.2)
  omega
/-- A change is among all of them once. -/
theorem once {cs : List ChL} {L : List (List UInt8 × Rv × Bool)} (hp : (cs.map ChL.px).Perm L) (hn : (L.map fun c => c.2.1).Nodup) {c : List UInt8 × Rv × Bool} (hc : c ∈ L) : cs.countP (fun d => decide (d.px = c)) = 1 := by
  have hL : L.Nodup := (List.pairwise_map.1 (show List.Pairwise (· ≠ ·) (L.map fun c => c.2.1) from hn)).imp fun {a b} hab e => hab (by rw [e])
  have h1 : L.count c = 1 := by
    have a1 := List.nodup_iff_count.1 hL c
    have a2 := List.count_pos_iff.2 hc
    omega
  have h2 : (cs.map ChL.px).count c = L.count c := hp.count_eq c
  rw [← h1, ← h2]
  unfold List.count
  rw [List.countP_map]
  apply List.countP_congr
  intro d _
  simp
theorem sum_filter (g : List UInt8 → Nat) (p : List UInt8 → Bool) : ∀ l : List (List UInt8), (∀ k ∈ l, p k = false → g k = 0) → (l.map g).sum = ((l.filter p).map g).sum := by
  intro l
  induction l with
  | nil => intro _; rfl
  | cons k r ih =>
    intro h
    have hr := ih (fun x hx => h x (List.mem_cons_of_mem _ hx))
    rw [List.map_cons, List.sum_cons, List.filter_cons, hr]
    cases hp : p k with
    | true => simp
    | false => rw [h k (List.mem_cons_self ..) hp]; simp
theorem lo_mem {P : List PE} (h : RiseX P) {e : PE} (he : e ∈ P) : loX P e.1 = e.2 := by
  rcases parted h e.1 with ⟨_, Q, e0, R, rfl, _, h0, hlo, _, hq, hr⟩ | ⟨_, Q, R, rfl, _, hlo, _, hq, hr⟩
  · rcases List.mem_append.1 he with he | he
    · exact absurd rfl (ahead_ne (hq e he))
    · rcases List.mem_cons.1 he with rfl | he
      · exact hlo
      · exact absurd rfl (ahead_ne (hr e he))
  · rcases List.mem_append.1 he with he | he
    · exact absurd rfl (ahead_ne (hq e he))
    · exact absurd rfl (ahead_ne (hr e he))
theorem lo_not {P : List PE} (h : RiseX P) {k : List UInt8} (hk : k ∉ P.map Prod.fst) : loX P k = [] := by
  rcases parted h k with ⟨_, Q, e0, R, rfl, _, h0, _⟩ | ⟨_, Q, R, rfl, _, hlo, _⟩
  · exact absurd (by rw [← h0]; simp) hk
  · exact hlo
/-- Asked key by key, all of them are told. -/
theorem sum_keys {P : List PE} (h : RiseX P) (main : Int) {keys : List (List UInt8)} (hn : keys.Nodup) (hk : ∀ e ∈ P, e.1 ∈ keys) : (keys.map fun k => (sinceG (loX P k) main).length).sum = (P.flatMap (chgE main)).length := by
  have hPn : (P.map Prod.fst).Nodup := List.pairwise_map.2 (h.imp fun {a b} hab => ahead_ne hab)
  rw [sum_filter (fun k => (sinceG (loX P k) main).length) (fun k => decide (k ∈ P.map Prod.fst)) keys (fun k _ hp => by
    show (sinceG (loX P k) main).length = 0
    rw [lo_not h (by simpa using hp)]
    rfl)]
  have hperm : (keys.filter fun k => decide (k ∈ P.map Prod.fst)).Perm (P.map Prod.fst) := by
    refine (List.perm_ext_iff_of_nodup (hn.filter _) hPn).2 fun a => ?_
    rw [List.mem_filter]
    refine ⟨fun ha => by simpa using ha.2, fun ha => ⟨?_, by simpa using ha⟩⟩
    obtain ⟨e, he, rfl⟩ := List.mem_map.1 ha
    exact hk e he
  rw [(hperm.map _).sum_nat, List.map_map, List.length_flatMap]
  congr 1
  apply List.map_congr_left
  intro e he
  show (sinceG (loX P e.1) main).length = (chgE main e).length
  rw [lo_mem h he]
  simp [chgE]
end Go.Proofs.YtlckeebbjnhejaaGreat
end

section
/-
  Stage 12's law: both indexes side by side, all of them made since w0.
-/
namespace Go.Proofs.YtlckeebbjnhejaaGreat
open Go.ChangeShapes Go.WideShapes Go.ChangeAt Go.RowKit Go.Deep
set_option linter.unusedVariables false
set_option linter.unusedSimpArgs false

/-- The document's index, all of it from block B on. -/
def RX (w : World) (B y N : Nat) : Prop := ∃ A n k m s Ks, RXs w B y N A n k m s Ks
theorem RX.below {w w' : World} {B y N : Nat} (h : RX w B y N) (hb : Below w.heap.size w w') : RX w' B y N := by
  obtain ⟨A, n, k, m, s, Ks, h⟩ := h
  exact ⟨A, n, k, m, s, Ks, h.below hb⟩
theorem RX.turned {w w' : World} {B y N : Nat} {T : Nat → Prop} (h : RX w B y N) (t : Turned w w' T) (hT : NoX w T) : RX w' B y N := by
  obtain ⟨A, n, k, m, s, Ks, h⟩ := h
  exact ⟨A, n, k, m, s, Ks, h.turned t hT⟩
theorem RX.mono {w : World} {B y N M : Nat} (h : RX w B y N) (hm : N ≤ M) : RX w B y M := by
  obtain ⟨A, n, k, m, s, Ks, h⟩ := h
  exact ⟨A, n, k, m, s, Ks, h.mono hm⟩
theorem RX.box {w : World} {B y N : Nat} (h : RX w B y N) : ∃ cs, w.heap[y]? = some (.cells cs 50 (0, 0)) := by
  obtain ⟨A, n, k, m, s, Ks, h⟩ := h
  exact ⟨_, h.box⟩
theorem RX.le {w : World} {B y N : Nat} (h : RX w B y N) : B ≤ y := by
  obtain ⟨A, n, k, m, s, Ks, h⟩ := h
  exact h.le
/-- What turns of an index turns nothing of the document's. -/
theorem Ix.noX {w : World} {F : Nat → Prop} {x : Nat} {l : Rv} {P : List PE} (h : Ix w x F l P) : NoX w (fun j => F j ∧ NU w j) := fun j hj c t f hc ht => by
  obtain ⟨c', s, hs, hss⟩ := h.ty hj.1
  rw [hs] at hc
  injection hc with hc
  injection hc with _ hc _
  subst hc
  have hu := hj.2
  rcases hss with rfl | rfl | rfl | rfl | rfl | rfl
  · rcases ht with h | h | h | h <;> exact absurd h (by decide)
  · rcases ht with h | h | h | h <;> exact absurd h (by decide)
  · exact hu _ _ hs
  · rcases ht with h | h | h | h <;> exact absurd h (by decide)
  · rcases ht with h | h | h | h <;> exact absurd h (by decide)
  · rcases ht with h | h | h | h <;> exact absurd h (by decide)
theorem Ix.not_y {w : World} {F : Nat → Prop} {x y : Nat} {l : Rv} {P : List PE} (h : Ix w x F l P) {cs : Array Value} {f : Nat × Nat} (hy : w.heap[y]? = some (.cells cs 50 f)) : ¬ F y := fun hj => by
  obtain ⟨c', s, hs, hss⟩ := h.ty hj
  rcases hss with rfl | rfl | rfl | rfl | rfl | rfl <;> exact ne_of_types hs hy (by decide) rfl
/-- A byte that is written into a row of bytes. -/
def pokeK (b i : Nat) (v : UInt8) (K : DK) : DK := if (Value.slice K.A K.n K.c).ownBlock = some b then { K with xs := K.xs.set i v } else K
theorem cellsOf_set (xs : List UInt8) (i : Nat) (v : UInt8) : (cellsOf xs).set i (byteV v) = cellsOf (xs.set i v) := by simp [cellsOf, List.map_set]
theorem DKAt.poke {w : World} {B N : Nat} {K : DK} (h : DKAt w B N K) {b : Nat} {cs : Array Value} {f : Nat × Nat} (hb : w.heap[b]? = some (.cells cs 5 f)) (i : Nat) (v : UInt8) : DKAt (w.setCell ⟨b, i, none⟩ (byteV v)) B N (pokeK b i v K) := by
  have t : Turned w (w.setCell ⟨b, i, none⟩ (byteV v)) (fun j => j = b) := (Turned.refl w (fun j => j = b)).setCell (p := ⟨b, i, none⟩) (fun _ => rfl) _
  have hent : (w.setCell ⟨b, i, none⟩ (byteV v)).ownsRow B 124 5 (.slice K.G K.gn K.gk) K.gn (renC K.I) := gown_turned h.ent t (fun g hg e => by
    obtain ⟨c, hc⟩ := gown_cl (k := 0) h.ent hg
    exact ne_of_types hc hb (by decide) e)
  unfold pokeK
  by_cases ho : (Value.slice K.A K.n K.c).ownBlock = some b
  · rw [if_pos ho]
    refine ⟨?_, hent, h.len, h.gl⟩
    have hA : K.A = some ⟨b, 0, none⟩ := by
      rcases h.key.2 with ⟨e, _⟩ | ⟨g, cap, cur, e, _⟩
      · rw [e] at ho; cases ho
      · rw [e] at ho
        injection e with e1 _ _
        rw [e1]
        have : g = b := Option.some.inj ho
        rw [this]
    have hk := h.key
    show (w.setCell ⟨b, i, none⟩ (byteV v)).ownsRow B 5 1 (.slice K.A K.n K.c) K.n (cellsOf (K.xs.set i v))
    rw [hA] at hk ⊢
    rw [← cellsOf_set]
    exact gown_set hk i (byteV v)
  · rw [if_neg ho]
    exact ⟨gown_turned h.key t (fun g hg e => ho (by rw [← e]; exact hg)), hent, h.len, h.gl⟩
theorem pokeK_cells (b i : Nat) (v : UInt8) (Ks : List DK) : kC (Ks.map (pokeK b i v)) = kC Ks := by
  unfold kC
  rw [List.flatMap_map]
  congr 1
  funext K
  unfold pokeK
  split <;> rfl
theorem RX.poke {w : World} {B y N : Nat} (h : RX w B y N) {b : Nat} {cs : Array Value} {f : Nat × Nat} (hb : w.heap[b]? = some (.cells cs 5 f)) (i : Nat) (v : UInt8) : RX (w.setCell ⟨b, i, none⟩ (byteV v)) B y N := by
  obtain ⟨A, n, k, m, s, Ks, h⟩ := h
  have t : Turned w (w.setCell ⟨b, i, none⟩ (byteV v)) (fun j => j = b) := (Turned.refl w (fun j => j = b)).setCell (p := ⟨b, i, none⟩) (fun _ => rfl) _
  refine ⟨A, n, k, m, s, Ks.map (pokeK b i v), t.blk h.box (fun e => ne_of_types (show w.heap[y]? = some _ from h.box) hb (by decide) e), ?_, by rw [List.length_map]; exact h.ln, fun K hK => ?_, h.nN, h.le⟩
  · rw [pokeK_cells]
    exact gown_turned h.row t (fun g hg e => by
      obtain ⟨c, hc⟩ := gown_cl (k := 0) h.row hg
      exact ne_of_types hc hb (by decide) e)
  · obtain ⟨K0, h0, rfl⟩ := List.mem_map.1 hK
    exact (h.all K0 h0).poke hb i v
/-- Both. -/
structure Jt (w0 W : World) (x : Nat) (F : Nat → Prop) (l : Rv) (P : List PE) (y N : Nat) : Prop where
  ix : Ix W x F l P
  lo : ∀ j, F j → w0.heap.size ≤ j
  rx : RX W w0.heap.size y N
  bel : Below w0.heap.size w0 W
  good : XGood l P N
section
variable {w0 W W' : World} {x y N : Nat} {F : Nat → Prop} {l l' : Rv} {P P' : List PE}
theorem Jt.below (h : Jt w0 W x F l P y N) (hb : Below W.heap.size W W') : Jt w0 W' x F l P y N := ⟨h.ix.below hb, h.lo, h.rx.below hb, bel_to hb h.bel, h.good⟩
theorem Jt.mono {M : Nat} (h : Jt w0 W x F l P y N) (hm : N ≤ M) : Jt w0 W x F l P y M := ⟨h.ix, h.lo, h.rx.mono hm, h.bel, h.good.mono hm⟩
theorem Jt.dev (h : Jt w0 W x F l P y N) (hl : IxLeft W x F l' P' W') {M : Nat} (hm : N ≤ M) (hg : XGood l' P' M) : ∃ F', Jt w0 W' x F' l' P' y M ∧ (∀ j, F' j → F j ∨ W.heap.size ≤ j) ∧ Turned W W' (fun j => F j ∧ NU W j) := by
  obtain ⟨F', h1, h2, h3⟩ := hl
  refine ⟨F', ⟨h1, fun j hj => ?_, (h.rx.turned h3 h.ix.noX).mono hm, bel_left h.bel h3 (fun j hj => h.lo j hj.1), hg⟩, h2, h3⟩
  rcases h2 j hj with e | e
  · exact h.lo j e
  · exact Nat.le_trans h.bel.size e
theorem Jt.doc (h : Jt w0 W x F l P y N) {M : Nat} (hm : N ≤ M) (hr : RX W' w0.heap.size y M) (t : Turned W W' (fun j => j = y)) : Jt w0 W' x F l P y M := by
  obtain ⟨cs, hy⟩ := h.rx.box
  exact ⟨h.ix.turned t (fun j hj e => h.ix.not_y hy (e ▸ hj)), h.lo, hr, bel_left h.bel t (fun j hj => by rw [hj]; exact h.rx.le), h.good.mono hm⟩
theorem Jt.poke (h : Jt w0 W x F l P y N) {b : Nat} {cs : Array Value} {f : Nat × Nat} (hb : W.heap[b]? = some (.cells cs 5 f)) (hn : ¬ F b) (h0 : w0.heap.size ≤ b) (i : Nat) (v : UInt8) : Jt w0 (W.setCell ⟨b, i, none⟩ (byteV v)) x F l P y N := by
  have t : Turned W (W.setCell ⟨b, i, none⟩ (byteV v)) (fun j => j = b) := (Turned.refl W (fun j => j = b)).setCell (p := ⟨b, i, none⟩) (fun _ => rfl) _
  exact ⟨h.ix.turned t (fun j hj e => hn (e ▸ hj)), h.lo, h.rx.poke hb i v, bel_left h.bel t (fun j hj => by rw [hj]; exact h0), h.good⟩
end
end Go.Proofs.YtlckeebbjnhejaaGreat
end

section
/-
  Stage 12's law: an act done on both indexes.
-/
namespace Go.Proofs.YtlckeebbjnhejaaGreat
open Go.ChangeShapes Go.WideShapes Go.ChangeAt Go.RowKit Go.Deep
set_option linter.unusedVariables false
set_option linter.unusedSimpArgs false

/-- No key has come but this one. -/
def KeyIn (P : List PE) (xs : List UInt8) (P' : List PE) : Prop := ∀ e ∈ P', (∃ e0 ∈ P, e0.1 = e.1) ∨ e.1 = xs
theorem KeyIn.refl (P : List PE) (xs : List UInt8) : KeyIn P xs P := fun e he => .inl ⟨e, he, rfl⟩
theorem KeyIn.ch {P : List PE} (h : RiseX P) (l : Rv) (xs : List UInt8) (q : Rv) (tc : List Gn → Int) (tg : List Gn → List Gn) : KeyIn P xs (chP l P xs q tc tg) := by
  unfold chP
  by_cases hc : ltR l q = true ∧ tc (loX P xs) = 0
  · rw [if_pos hc]
    intro e he
    rcases parted h xs with ⟨_, Q, e0, R, hP, _, h0, _, hch, _⟩ | ⟨_, Q, R, hP, _, _, hch, _⟩
    · rw [hch] at he
      rcases List.mem_append.1 he with he | he
      · exact .inl ⟨e, by rw [hP]; exact List.mem_append.2 (.inl he), rfl⟩
      · rcases List.mem_cons.1 he with rfl | he
        · exact .inr rfl
        · exact .inl ⟨e, by rw [hP]; exact List.mem_append.2 (.inr (List.mem_cons_of_mem _ he)), rfl⟩
    · rw [hch] at he
      rcases List.mem_append.1 he with he | he
      · exact .inl ⟨e, by rw [hP]; exact List.mem_append.2 (.inl he), rfl⟩
      · rcases List.mem_cons.1 he with rfl | he
        · exact .inr rfl
        · exact .inl ⟨e, by rw [hP]; exact List.mem_append.2 (.inr he), rfl⟩
  · rw [if_neg hc]
    exact KeyIn.refl P xs
theorem KeyIn.cm (P : List PE) (xs : List UInt8) (a : Int) : KeyIn P xs (compactP P a) := fun e he => by
  obtain ⟨e0, h0, rfl⟩ := List.mem_map.1 (List.mem_filter.1 he).1
  exact .inl ⟨e0, h0, rfl⟩
/-- What an act leaves. -/
def DoX (w0 W : World) (x : Nat) (F : Nat → Prop) (y N : Nat) (P : List PE) (xs : List UInt8) (e : Ending) (W' : World) : Prop := ∃ (t : Bool) (F' : Nat → Prop) (l' : Rv) (P' : List PE), e = .returned (.bool t) ∧ Jt w0 W' x F' l' P' y (N + 2) ∧ (∀ j, F' j → F j ∨ W.heap.size ≤ j) ∧ Turned W W' (fun j => (F j ∧ NU W j) ∨ j = y) ∧ KeyIn P xs P'
/-- The same, in the midst of it. -/
def MidX (w0 W : World) (x : Nat) (F : Nat → Prop) (y N : Nat) (P : List PE) (ks : List UInt8) (B3 : Option Addr) (n c3 : Nat) (W' : World) : Prop := ∃ (F' : Nat → Prop) (l' : Rv) (P' : List PE), Jt w0 W' x F' l' P' y (N + 2) ∧ (∀ j, F' j → F j ∨ W.heap.size ≤ j) ∧ Turned W W' (fun j => (F j ∧ NU W j) ∨ j = y) ∧ (∃ zs, W'.ownsRow W.heap.size 5 1 (.slice B3 n c3) n (cellsOf zs)) ∧ (∀ j, (Value.slice B3 n c3).ownBlock = some j → ¬ F' j) ∧ KeyIn P ks P'
structure AcV where
  k : Int
  A : Option Addr
  n : Nat
  kc : Nat
  nx : Bool
  m : Int
  s : Int
  c : Int
  v : Int
def AcV.cells (a : AcV) : List Value := [.int .i64 a.k, .slice a.A a.n a.kc, .bool a.nx, .int .i64 a.m, .int .i64 a.s, .int .i64 a.c, .int .i64 a.v]
/-- What stands behind an act's beginning: its own copy of the act, its revision. -/
def StX (W wx : World) (a : AcV) (q : Rv) : Prop := Blk wx (W.heap.size + 1) 29 [.int .i64 q.1, .int .i64 q.2] ∧ Blk wx W.heap.size 52 a.cells ∧ Below W.heap.size W wx
theorem bits_byte2 (y : UInt8) : Value.int .u8 (Go.bits .xor .u8 (y.toNat : Int) 255) = byteV (y ^^^ 255) := by
  have := Go.u8_xor_nat y.toNat 255 y.toNat_lt (by decide)
  rw [show ((255 : Nat) : Int) = 255 from rfl] at this
  rw [this]
  unfold byteV
  rw [UInt8.toNat_xor]
  rfl
/-- The other's call, behind the one's. -/
theorem mid_doc {w0 W W6 W7 : World} {x y N n c3 : Nat} {F F' : Nat → Prop} {l' : Rv} {P' : List PE} {B3 : Option Addr} {zs : List UInt8} (hj : Jt w0 W6 x F' l' P' y (N + 1)) (hF : ∀ j, F' j → F j ∨ W.heap.size ≤ j) (t6 : Turned W W6 (fun j => (F j ∧ NU W j) ∨ j = y)) (own : W6.ownsRow W.heap.size 5 1 (.slice B3 n c3) n (cellsOf zs)) (hn : ∀ j, (Value.slice B3 n c3).ownBlock = some j → ¬ F' j)
    (hr : RX W7 w0.heap.size y (N + 2)) (t7 : Turned W6 W7 (fun j => j = y)) {P : List PE} {ks : List UInt8} (hk : KeyIn P ks P') : MidX w0 W x F y N P ks B3 n c3 W7 := by
  obtain ⟨cs, hy⟩ := hj.rx.box
  refine ⟨F', l', P', hj.doc (Nat.le_succ _) hr t7, hF, t6.trans (t7.mono (fun j _ e => .inr e)), ⟨zs, gown_turned own t7 (fun j hj e => ?_)⟩, hn, hk⟩
  obtain ⟨c, hc⟩ := gown_cl (k := 0) own hj
  exact ne_of_types hc hy (by decide) e
theorem MidX.below {w0 W W' W2 : World} {x y N n c3 : Nat} {F : Nat → Prop} {B3 : Option Addr} {P : List PE} {ks : List UInt8} (h : MidX w0 W x F y N P ks B3 n c3 W') (hb : Below W'.heap.size W' W2) : MidX w0 W x F y N P ks B3 n c3 W2 := by
  obtain ⟨F', l', P', h1, h2, h3, ⟨zs, h4⟩, h5⟩ := h
  exact ⟨F', l', P', h1.below hb, h2, h3.trans (Turned.of_below hb _), ⟨zs, gown_turned h4 (Turned.of_below hb (fun _ => False)) (fun _ _ e => e)⟩, h5⟩
theorem MidX.done {w0 W W' : World} {x y N n c3 : Nat} {F : Nat → Prop} {B3 : Option Addr} {P : List PE} {ks : List UInt8} (h : MidX w0 W x F y N P ks B3 n c3 W') (t : Bool) : DoX w0 W x F y N P ks (.returned (.bool t)) W' := by
  obtain ⟨F', l', P', h1, h2, h3, _, _, h6⟩ := h
  exact ⟨t, F', l', P', rfl, h1, h2, h3, h6⟩
/-- One of its own bytes is written. -/
theorem MidX.poke {w0 W W' : World} {x y N n c3 : Nat} {F : Nat → Prop} {B3 : Option Addr} {P : List PE} {ks : List UInt8} (h : MidX w0 W x F y N P ks B3 n c3 W') {j : Nat} (hj : j < n) (hw : w0.heap.size ≤ W.heap.size) : ∃ g z, B3 = some ⟨g, 0, none⟩ ∧ W'.cell? ⟨g, j, none⟩ = some (byteV z) ∧ W'.frozen? ⟨g, j, none⟩ = false ∧ ∀ v, MidX w0 W x F y N P ks B3 n c3 (W'.setCell ⟨g, j, none⟩ (byteV v)) := by
  obtain ⟨F', l', P', h1, h2, h3, ⟨zs, h4⟩, h5⟩ := h
  obtain ⟨g, rfl, hgb, _, _, _, hc⟩ := gown_at h4 (by omega)
  have hl : zs.length = n := by have := h4.1; rw [cellsOf_length] at this; omega
  obtain ⟨cur, hcur⟩ := gown_cl (k := 0) h4 (g := g) rfl
  refine ⟨g, zs[j], rfl, hc j _ (by rw [cellsOf, List.getElem?_map, List.getElem?_eq_getElem (by omega)]; rfl), gfrozen_ hcur j, fun v => ⟨F', l', P', h1.poke hcur (h5.1 g rfl) (Nat.le_trans hw hgb) j v, h2, h3.setCell (p := ⟨g, j, none⟩) (fun hlt => by have : g < W.heap.size := hlt; omega) _, ⟨zs.set j v, by rw [← cellsOf_set]; exact gown_set h4 j (byteV v)⟩, h5⟩⟩
set_option maxRecDepth 100000 in
set_option maxHeartbeats 8000000 in
theorem doX_any {w0 W : World} {x : Nat} {F : Nat → Prop} {l : Rv} {P : List PE} {y N : Nat} (h : Jt w0 W x F l P y N) (hN : N ≤ 700000) (a : AcV) (xs : List UInt8) (hrd : Rd w0 a.A a.n xs) (hn : a.n ≤ 100) :
    Calls Tryz.prog 21 #[.pointer (some ⟨x, 0, none⟩), .pointer (some ⟨y, 0, none⟩), .agg #[.int .i64 a.k, .slice a.A a.n a.kc, .bool a.nx, .int .i64 a.m, .int .i64 a.s, .int .i64 a.c, .int .i64 a.v]] W (DoX w0 W x F y N P xs) := by
  obtain ⟨k, A, n, kc, nx, m, s, c, v⟩ := a
  have hn : n ≤ 100 := hn
  have HJ := kept h
  have HR := kept hrd
  have HB0 := kept (((Below.refl W.heap.size W).alloc (Nat.le_refl _) (.cells #[.int .i64 k, .slice A n kc, .bool nx, .int .i64 m, .int .i64 s, .int .i64 c, .int .i64 v] 52)).alloc (by simp) (.cells #[.int .i64 m, .int .i64 s] 29))
  have HA0 := kept ((Blk.new W 52 #[.int .i64 k, .slice A n kc, .bool nx, .int .i64 m, .int .i64 s, .int .i64 c, .int .i64 v]).alloc (.cells #[.int .i64 m, .int .i64 s] 29))
  have hr0 := Blk.new (W.alloc (.cells #[.int .i64 k, .slice A n kc, .bool nx, .int .i64 m, .int .i64 s, .int .i64 c, .int .i64 v] 52)) 29 #[.int .i64 m, .int .i64 s]
  rw [World.size_alloc] at hr0
  have HR0 := kept hr0
  clear hr0 h hrd
  go_enter Tryz.func21, Tryz.ntmps21
  go_upto_region 2 with fail
  generalize (W.alloc (.cells #[.int .i64 k, .slice A n kc, .bool nx, .int .i64 m, .int .i64 s, .int .i64 c, .int .i64 v] 52)).alloc (.cells #[.int .i64 m, .int .i64 s] 29) = W2 at HB0 HA0 HR0 ⊢
  have HJ2 := kept (HJ.out.below HB0.out)
  obtain ⟨Ay, ny, ky, ym, ys, Ks, hy⟩ := HJ2.out.rx
  have HY := kept hy
  clear hy
  go_cut [24] (fun t wx => ∃ b : Bool, t = .bool b ∧ wx = W2)
  case first =>
    have a2 : W2.cell? ⟨W.heap.size, 2, none⟩ = some (.bool nx) := HA0.out.cell 2
    have y1 : W2.cell? ⟨y, 1, none⟩ = some (.int .i64 ym) := HY.out.box.cell 1
    cases nx with
    | false =>
      go_wp2_with fail
      go_meet
      exact ⟨false, rfl, rfl⟩
    | true =>
      go_wp2_with fail
      go_meet
      exact ⟨decide (ym < 1152921504606846976), rfl, rfl⟩
  case rest =>
  obtain ⟨b24, rfl, rfl⟩ := hcut
  go_upto_if 24 with fail
  go_cut [] (fun wx => ∃ q : Rv, Hid (StX W wx ⟨k, A, n, kc, nx, m, s, c, v⟩ q))
  case first =>
    cases b24 with
    | false =>
      go_wp2_with fail
      go_meet
      exact ⟨(m, s), kept ⟨HR0.out, HA0.out, HB0.out⟩⟩
    | true =>
      have HS0 := kept (show (fun W' : World => W'.cell? ⟨y, 1, none⟩ = some (.int .i64 ym) ∧ W'.cell? ⟨W.heap.size, 3, none⟩ = some (.int .i64 m) ∧ W'.cell? ⟨W.heap.size, 4, none⟩ = some (.int .i64 s)) wc.drew from ⟨HY.out.box.cell 1, HA0.out.cell 3, HA0.out.cell 4⟩)
      have r0 := HR0.out.cell 0
      have r1 := HR0.out.cell 1
      have f0 := HR0.out.frozen 0
      have f1 := HR0.out.frozen 1
      go_wp2_with fail
      refine region_L [15] ((fun W' : World => W'.cell? ⟨y, 1, none⟩ = some (.int .i64 ym) ∧ W'.cell? ⟨W.heap.size, 3, none⟩ = some (.int .i64 m) ∧ W'.cell? ⟨W.heap.size, 4, none⟩ = some (.int .i64 s))) (by kernel_rfl) ?_ (fun hHeld => ?_)
      · ((try dsimp only); (with_reducible exact HS0.out))
      (try simp only [List.size_toArray, List.length_cons, List.length_nil, Nat.reduceAdd, Array.replicate_succ, Array.replicate_zero, List.push_toArray, List.append_toArray, List.nil_append, List.cons_append])
      refine take_P 0 (some 25) ?_ (by (intro o ho w; (simp only [List.getElem?_toArray, List.getElem?_cons_succ, List.getElem?_cons_zero, Option.some.injEq] at ho); subst ho; go_simp; (first | done | with_reducible rfl))) (by ((try simp only [Act.put, hA, h0, h1]); (first | done | rfl))) (by first | exact fun _ => by assumption | exact fun hE => absurd hE (by decide))
      (try simp only [Act.put, List.setIfInBounds_toArray, List.set_cons_zero, List.set_cons_succ])
      refine take_P 1 (some 26) ?_ (by (intro o ho w; (simp only [List.getElem?_toArray, List.getElem?_cons_succ, List.getElem?_cons_zero, Option.some.injEq] at ho); subst ho; go_simp; (first | done | with_reducible rfl))) (by ((try simp only [Act.put, hA, h0, h1]); (first | done | rfl))) (by first | exact fun _ => by assumption | exact fun hE => absurd hE (by decide))
      (try simp only [Act.put, List.setIfInBounds_toArray, List.set_cons_zero, List.set_cons_succ])
      refine take_P 2 (some 27) ?_ (by (intro o ho w; (simp only [List.getElem?_toArray, List.getElem?_cons_succ, List.getElem?_cons_zero, Option.some.injEq] at ho); subst ho; go_simp; (first | done | with_reducible rfl))) (by ((try simp only [Act.put, hA, h0, h1]); (first | done | rfl))) (by first | exact fun _ => by assumption | exact fun hE => absurd hE (by decide))
      (try simp only [Act.put, List.setIfInBounds_toArray, List.set_cons_zero, List.set_cons_succ])
      refine take_P 3 (some 28) ?_ (by (intro o ho w; (simp only [List.getElem?_toArray, List.getElem?_cons_succ, List.getElem?_cons_zero, Option.some.injEq] at ho); subst ho; go_simp; (first | done | with_reducible rfl))) (by ((try simp only [Act.put, hA, h0, h1]); (first | done | rfl))) (by first | exact fun _ => by assumption | exact fun hE => absurd hE (by decide))
      (try simp only [Act.put, List.setIfInBounds_toArray, List.set_cons_zero, List.set_cons_succ])
      refine take_L 4 (some 29) ?_ (by (intro o ho w hSw; (simp only [List.getElem?_toArray, List.getElem?_cons_succ, List.getElem?_cons_zero, Option.some.injEq] at ho); subst ho; (try dsimp only at hSw); go_simp; (first | done | with_reducible rfl))) (by ((try simp only [Act.put, hA, h0, h1]); (first | done | rfl)))
      (try simp only [Act.put, List.setIfInBounds_toArray, List.set_cons_zero, List.set_cons_succ])
      refine take_P 5 (some 30) ?_ (by (intro o ho w; (simp only [List.getElem?_toArray, List.getElem?_cons_succ, List.getElem?_cons_zero, Option.some.injEq] at ho); subst ho; go_simp; (first | done | with_reducible rfl))) (by ((try simp only [Act.put, hA, h0, h1]); (first | done | rfl))) (by first | exact fun _ => by assumption | exact fun hE => absurd hE (by decide))
      (try simp only [Act.put, List.setIfInBounds_toArray, List.set_cons_zero, List.set_cons_succ])
      refine take_P 6 (some 31) ?_ (by (intro o ho w; (simp only [List.getElem?_toArray, List.getElem?_cons_succ, List.getElem?_cons_zero, Option.some.injEq] at ho); subst ho; go_simp; (first | done | with_reducible rfl))) (by ((try simp only [Act.put, hA, h0, h1]); (first | done | rfl))) (by first | exact fun _ => by assumption | exact fun hE => absurd hE (by decide))
      (try simp only [Act.put, List.setIfInBounds_toArray, List.set_cons_zero, List.set_cons_succ])
      refine take_L 7 (some 32) ?_ (by (intro o ho w hSw; (simp only [List.getElem?_toArray, List.getElem?_cons_succ, List.getElem?_cons_zero, Option.some.injEq] at ho); subst ho; (try dsimp only at hSw); go_simp; (first | done | with_reducible rfl))) (by ((try simp only [Act.put, hA, h0, h1]); (first | done | rfl)))
      (try simp only [Act.put, List.setIfInBounds_toArray, List.set_cons_zero, List.set_cons_succ])
      refine take_P 8 (some 33) ?_ (by (intro o ho w; (simp only [List.getElem?_toArray, List.getElem?_cons_succ, List.getElem?_cons_zero, Option.some.injEq] at ho); subst ho; go_simp; (first | done | with_reducible rfl))) (by ((try simp only [Act.put, hA, h0, h1]); (first | done | rfl))) (by first | exact fun _ => by assumption | exact fun hE => absurd hE (by decide))
      (try simp only [Act.put, List.setIfInBounds_toArray, List.set_cons_zero, List.set_cons_succ])
      refine take_P 9 (some 34) ?_ (by (intro o ho w; (simp only [List.getElem?_toArray, List.getElem?_cons_succ, List.getElem?_cons_zero, Option.some.injEq] at ho); subst ho; go_simp; (first | done | with_reducible rfl))) (by ((try simp only [Act.put, hA, h0, h1]); (first | done | rfl))) (by first | exact fun _ => by assumption | exact fun hE => absurd hE (by decide))
      (try simp only [Act.put, List.setIfInBounds_toArray, List.set_cons_zero, List.set_cons_succ])
      refine take_P 10 (some 35) ?_ (by (intro o ho w; (simp only [List.getElem?_toArray, List.getElem?_cons_succ, List.getElem?_cons_zero, Option.some.injEq] at ho); subst ho; go_simp; (first | done | with_reducible rfl))) (by ((try simp only [Act.put, hA, h0, h1]); (first | done | rfl))) (by first | exact fun _ => by assumption | exact fun hE => absurd hE (by decide))
      (try simp only [Act.put, List.setIfInBounds_toArray, List.set_cons_zero, List.set_cons_succ])
      refine take_P 11 (some 36) ?_ (by (intro o ho w; (simp only [List.getElem?_toArray, List.getElem?_cons_succ, List.getElem?_cons_zero, Option.some.injEq] at ho); subst ho; go_simp; (first | done | with_reducible rfl))) (by ((try simp only [Act.put, hA, h0, h1]); (first | done | rfl))) (by first | exact fun _ => by assumption | exact fun hE => absurd hE (by decide))
      (try simp only [Act.put, List.setIfInBounds_toArray, List.set_cons_zero, List.set_cons_succ])
      refine take_L 12 (some 37) ?_ (by (intro o ho w hSw; (simp only [List.getElem?_toArray, List.getElem?_cons_succ, List.getElem?_cons_zero, Option.some.injEq] at ho); subst ho; (try dsimp only at hSw); go_simp; (first | done | with_reducible rfl))) (by ((try simp only [Act.put, hA, h0, h1]); (first | done | rfl)))
      (try simp only [Act.put, List.setIfInBounds_toArray, List.set_cons_zero, List.set_cons_succ])
      refine take_P 13 (some 38) ?_ (by (intro o ho w; (simp only [List.getElem?_toArray, List.getElem?_cons_succ, List.getElem?_cons_zero, Option.some.injEq] at ho); subst ho; go_simp; (first | done | with_reducible rfl))) (by ((try simp only [Act.put, hA, h0, h1]); (first | done | rfl))) (by first | exact fun _ => by assumption | exact fun hE => absurd hE (by decide))
      (try simp only [Act.put, List.setIfInBounds_toArray, List.set_cons_zero, List.set_cons_succ])
      refine take_P 14 (some 39) ?_ (by (intro o ho w; (simp only [List.getElem?_toArray, List.getElem?_cons_succ, List.getElem?_cons_zero, Option.some.injEq] at ho); subst ho; go_simp; (first | done | with_reducible rfl))) (by ((try simp only [Act.put, hA, h0, h1]); (first | done | rfl))) (by first | exact fun _ => by assumption | exact fun hE => absurd hE (by decide))
      (try simp only [Act.put, List.setIfInBounds_toArray, List.set_cons_zero, List.set_cons_succ])
      refine ready_L 15 (fun o ho K hK => ?_)
      (simp only [List.getElem?_toArray, List.getElem?_cons_succ, List.getElem?_cons_zero, Option.some.injEq] at ho)
      subst ho
      go_simp
      skip
      refine hK.out _ _ ?_ (fun hHeld => ?_)
      · (first | exact fun hE => absurd hE (by decide) | (intro _; (try dsimp only); (with_reducible exact HS0.out)))
      clear hK K
      (try replace hHeld := hHeld (by decide))
      (try simp only [Act.put, List.setIfInBounds_toArray, List.set_cons_zero, List.set_cons_succ])
      refine done_L (by kernel_rfl) ?_ _
      go_wp2_with fail
      go_meet
      have hne : W.heap.size ≠ (⟨W.heap.size + 1, 0, none⟩ : Addr).block := Nat.ne_of_lt (Nat.lt_succ_self _)
      refine ⟨(_, _), kept ⟨(HR0.out.set_ 0 _).set_ 1 _, (HA0.out.far (p := ⟨W.heap.size + 1, 0, none⟩) hne _).far (p := ⟨W.heap.size + 1, 1, none⟩) hne _, ((HB0.out.setCell (p := ⟨W.heap.size + 1, 0, none⟩) (Nat.le_succ _) _).setCell (p := ⟨W.heap.size + 1, 1, none⟩) (Nat.le_succ _) _).drew⟩⟩
  case rest =>
  obtain ⟨q, HST⟩ := hcut
  have a1 : wc.cell? ⟨W.heap.size, 1, none⟩ = some (.slice A n kc) := HST.out.2.1.cell 1
  have HW0 : Hid (w0.heap.size ≤ W.heap.size) := kept HJ.out.bel.size
  have HTW := kept (twin_any A n kc xs wc (HR.out.below (bel_to HST.out.2.2 HJ.out.bel)) (by omega))
  clear HY HJ2 HR0 HA0 HB0
  go_wp2_with fail
  with_reducible refine HTW.out.mono ?_
  rintro e w3 ⟨B3, c3, rfl, ho3, hb3⟩
  have HBW3 := kept (bel_to hb3 HST.out.2.2)
  have HJ3 := kept (HJ.out.below HBW3.out)
  have HR3 := kept (HST.out.1.below hb3 HST.out.1.lt)
  have HA3 := kept (HST.out.2.1.below hb3 HST.out.2.1.lt)
  have HO3 := kept (own_mono_ ho3 HST.out.2.2.size)
  have HRD3 := kept (show Rd w3.drew B3 n xs from Rd.of_own ho3)
  have HLTF := kept (fun j (hj : F j) => HJ.out.ix.lt hj)
  have a0 : w3.cell? ⟨W.heap.size, 0, none⟩ = some (.int .i64 k) := HA3.out.cell 0
  have HSZ : Hid (W.heap.size + 1 < w3.heap.size) := kept HR3.out.lt
  -- what a call of the one leaves
  have HTT : Hid (∀ w6, Turned w3.drew w6 (fun j => F j ∧ NU w3.drew j) → Turned W w6 (fun j => (F j ∧ NU W j) ∨ j = y)) := kept (fun w6 t => (Turned.of_below HBW3.out _).drew.trans (t.mono (fun j _ hj => .inl ⟨hj.1, NU.back HBW3.out hj.2⟩)))
  have HOW : Hid (∀ w6, Turned w3.drew w6 (fun j => F j ∧ NU w3.drew j) → w6.ownsRow W.heap.size 5 1 (.slice B3 n c3) n (cellsOf xs)) := kept (fun w6 t => gown_turned (w := w3.drew) HO3.out t (fun j hj e => by have h1 := (gown_lt HO3.out hj).1; have h2 := HLTF.out j e.1; omega))
  have HNF : Hid (∀ j, (Value.slice B3 n c3).ownBlock = some j → ¬ (F j ∨ w3.drew.heap.size ≤ j)) := kept (fun j hj e => by
    have h1 := gown_lt HO3.out hj
    rcases e with e | e
    · have := HLTF.out j e; omega
    · have e : w3.heap.size ≤ j := e
      omega)
  have HSK : Hid (∀ w6, Turned w3.drew w6 (fun j => F j ∧ NU w3.drew j) → ((fun W' : World => (W'.cell? ⟨W.heap.size + 1, 0, none⟩ = some (.int .i64 q.1) ∧ W'.cell? ⟨W.heap.size + 1, 1, none⟩ = some (.int .i64 q.2)) ∧ W'.cell? ⟨W.heap.size, 1, none⟩ = some (.slice A n kc) ∧ W'.cell? ⟨W.heap.size, 5, none⟩ = some (.int .i64 c) ∧ W'.cell? ⟨W.heap.size, 6, none⟩ = some (.int .i64 v)) w6)) := kept (fun w6 t => by
    have h1 : Blk w6 (W.heap.size + 1) 29 [.int .i64 q.1, .int .i64 q.2] := t.blk (w := w3.drew) HR3.out (fun e => by have := HLTF.out _ e.1; omega)
    have h2 := t.blk (w := w3.drew) HA3.out (fun e => by have := HLTF.out _ e.1; omega)
    exact ⟨⟨h1.cell 0, h1.cell 1⟩, h2.cell 1, h2.cell 5, h2.cell 6⟩)
  have HYL : Hid (y < W.heap.size) := kept (by obtain ⟨cs, hcs⟩ := HJ.out.rx.box; exact (Array.getElem?_eq_some_iff.1 hcs).1)
  have HSK2 : Hid (∀ w6 w7 : World, ((fun W' : World => (W'.cell? ⟨W.heap.size + 1, 0, none⟩ = some (.int .i64 q.1) ∧ W'.cell? ⟨W.heap.size + 1, 1, none⟩ = some (.int .i64 q.2)) ∧ W'.cell? ⟨W.heap.size, 1, none⟩ = some (.slice A n kc) ∧ W'.cell? ⟨W.heap.size, 5, none⟩ = some (.int .i64 c) ∧ W'.cell? ⟨W.heap.size, 6, none⟩ = some (.int .i64 v)) w6) → Turned w6 w7 (fun j => j = y) → ((fun W' : World => (W'.cell? ⟨W.heap.size + 1, 0, none⟩ = some (.int .i64 q.1) ∧ W'.cell? ⟨W.heap.size + 1, 1, none⟩ = some (.int .i64 q.2)) ∧ W'.cell? ⟨W.heap.size, 1, none⟩ = some (.slice A n kc) ∧ W'.cell? ⟨W.heap.size, 5, none⟩ = some (.int .i64 c) ∧ W'.cell? ⟨W.heap.size, 6, none⟩ = some (.int .i64 v)) w7)) := kept (fun w6 w7 h t => by
    have hc : ∀ {p : Addr} {u : Value}, w6.cell? p = some u → p.block ≠ y → w7.cell? p = some u := fun hu hp => by
      have hl : _ < w6.heap.size := block_lt_of_cell hu
      rw [World.cell?_of_block (t.block _ hl hp)]
      exact hu
    have hy := HYL.out
    exact ⟨⟨hc h.1.1 (by show W.heap.size + 1 ≠ y; omega), hc h.1.2 (by show W.heap.size + 1 ≠ y; omega)⟩, hc h.2.1 (by show W.heap.size ≠ y; omega), hc h.2.2.1 (by show W.heap.size ≠ y; omega), hc h.2.2.2 (by show W.heap.size ≠ y; omega)⟩)
  have HS0 := kept (show ((fun W' : World => (W'.cell? ⟨W.heap.size + 1, 0, none⟩ = some (.int .i64 q.1) ∧ W'.cell? ⟨W.heap.size + 1, 1, none⟩ = some (.int .i64 q.2)) ∧ W'.cell? ⟨W.heap.size, 1, none⟩ = some (.slice A n kc) ∧ W'.cell? ⟨W.heap.size, 5, none⟩ = some (.int .i64 c) ∧ W'.cell? ⟨W.heap.size, 6, none⟩ = some (.int .i64 v)) w3.drew) from ⟨⟨HR3.out.cell 0, HR3.out.cell 1⟩, HA3.out.cell 1, HA3.out.cell 5, HA3.out.cell 6⟩)
  clear ho3 hb3 a1
  by_cases k0 : k = 0
  · subst k0
    have HSXX := trivial
    clear HSXX
    go_wp2
    clear a0
    have HDV := kept (xputP_any (HJ3.out.ix.below ((Below.refl _ w3).drew)) HJ3.out.good.inv (by omega) B3 n c3 xs HRD3.out (by omega) q)
    refine wp_region_held_drew (S := (fun W' : World => (W'.cell? ⟨W.heap.size + 1, 0, none⟩ = some (.int .i64 q.1) ∧ W'.cell? ⟨W.heap.size + 1, 1, none⟩ = some (.int .i64 q.2)) ∧ W'.cell? ⟨W.heap.size, 1, none⟩ = some (.slice A n kc) ∧ W'.cell? ⟨W.heap.size, 5, none⟩ = some (.int .i64 c) ∧ W'.cell? ⟨W.heap.size, 6, none⟩ = some (.int .i64 v))) (by kernel_rfl) ?_ (fun hHeld => ?_)
    · ((try dsimp only); (first | with_reducible exact HS0.out | with_reducible exact HS1.out | with_reducible exact HS2.out))
    refine hand_take 0 (some 57) ?_ (by kernel_rfl) (by kernel_rfl) (by kernel_rfl) (by kernel_rfl) (by kernel_rfl) (fun _ _ _ h => h) ?_ (by assumption) ?_
    rotate_left
    · (intro o ho w hSw; (simp only [List.getElem?_toArray, List.getElem?_cons_succ, List.getElem?_cons_zero, Option.some.injEq] at ho); subst ho; (try dsimp only at hSw); go_simp; (first | done | with_reducible rfl))
    (try simp only [Act.put, List.setIfInBounds_toArray, List.set_cons_zero, List.set_cons_succ])
    refine hand_take 1 (some 58) ?_ (by kernel_rfl) (by kernel_rfl) (by kernel_rfl) (by kernel_rfl) (by kernel_rfl) (fun _ _ _ h => h) ?_ (by assumption) ?_
    rotate_left
    · (intro o ho w hSw; (simp only [List.getElem?_toArray, List.getElem?_cons_succ, List.getElem?_cons_zero, Option.some.injEq] at ho); subst ho; (try dsimp only at hSw); go_simp; (first | done | with_reducible rfl))
    (try simp only [Act.put, List.setIfInBounds_toArray, List.set_cons_zero, List.set_cons_succ])
    refine hand_take 2 (some 59) ?_ (by kernel_rfl) (by kernel_rfl) (by kernel_rfl) (by kernel_rfl) (by kernel_rfl) (fun _ _ _ h => h) ?_ (by assumption) ?_
    rotate_left
    · (intro o ho w hSw; (simp only [List.getElem?_toArray, List.getElem?_cons_succ, List.getElem?_cons_zero, Option.some.injEq] at ho); subst ho; (try dsimp only at hSw); go_simp; (first | done | with_reducible rfl))
    (try simp only [Act.put, List.setIfInBounds_toArray, List.set_cons_zero, List.set_cons_succ])
    refine hand_take 4 (some 61) ?_ (by kernel_rfl) (by kernel_rfl) (by kernel_rfl) (by kernel_rfl) (by kernel_rfl) (fun _ _ _ h => h) ?_ (by assumption) ?_
    rotate_left
    · (intro o ho w hSw; (simp only [List.getElem?_toArray, List.getElem?_cons_succ, List.getElem?_cons_zero, Option.some.injEq] at ho); subst ho; (try dsimp only at hSw); go_simp; (first | done | with_reducible rfl))
    (try simp only [Act.put, List.setIfInBounds_toArray, List.set_cons_zero, List.set_cons_succ])
    refine hand_take 5 (some 62) ?_ (by kernel_rfl) (by kernel_rfl) (by kernel_rfl) (by kernel_rfl) (by kernel_rfl) (fun _ _ _ h => h) ?_ (by assumption) ?_
    rotate_left
    · (intro o ho w hSw; (simp only [List.getElem?_toArray, List.getElem?_cons_succ, List.getElem?_cons_zero, Option.some.injEq] at ho); subst ho; (try dsimp only at hSw); go_simp; (first | done | with_reducible rfl))
    (try simp only [Act.put, List.setIfInBounds_toArray, List.set_cons_zero, List.set_cons_succ])
    refine hand_take 6 (some 63) ?_ (by kernel_rfl) (by kernel_rfl) (by kernel_rfl) (by kernel_rfl) (by kernel_rfl) (fun _ _ _ h => h) ?_ (by assumption) ?_
    rotate_left
    · (intro o ho w hSw; (simp only [List.getElem?_toArray, List.getElem?_cons_succ, List.getElem?_cons_zero, Option.some.injEq] at ho); subst ho; (try dsimp only at hSw); go_simp; (first | done | with_reducible rfl))
    (try simp only [Act.put, List.setIfInBounds_toArray, List.set_cons_zero, List.set_cons_succ])
    refine hand_take 7 (some 64) ?_ (by kernel_rfl) (by kernel_rfl) (by kernel_rfl) (by kernel_rfl) (by kernel_rfl) (fun _ _ _ h => h) ?_ (by assumption) ?_
    rotate_left
    · (intro o ho w hSw; (simp only [List.getElem?_toArray, List.getElem?_cons_succ, List.getElem?_cons_zero, Option.some.injEq] at ho); subst ho; (try dsimp only at hSw); go_simp; (first | done | with_reducible rfl))
    (try simp only [Act.put, List.setIfInBounds_toArray, List.set_cons_zero, List.set_cons_succ])
    refine hand_ready 3 (by kernel_rfl) (by kernel_rfl) (fun o ho K hK => ?_)
    (simp only [List.getElem?_toArray, List.getElem?_cons_succ, List.getElem?_cons_zero, Option.some.injEq] at ho)
    subst ho
    go_simp
    (go_at_call 23; (with_reducible refine HDV.out.mono ?_); rintro e w6 ⟨rfl, hl⟩; obtain ⟨F6, hj6, hf6, t6⟩ := (HJ3.out.below ((Below.refl _ w3).drew)).dev hl (Nat.le_succ _) (HJ3.out.good.change xs q (put_fit q)); have HD6 := kept (And.intro hj6 (And.intro hf6 t6)); have HS1 := kept (HSK.out w6 t6); have HDC := kept (fun (Ay' : Option Addr) (ny' ky' : Nat) (ym' ys' : Int) (Ks' : List DK) (hy6 : RXs w6 w0.heap.size y (N + 1) Ay' ny' ky' ym' ys' Ks') => xput_any hy6 (by omega) A n kc xs (fun W' t => HR.out.below (bel_left (HD6.out.1.bel) t (fun j e => by rw [e]; exact HD6.out.1.rx.le))) (by omega) q); clear hl hj6 hf6 t6)
    (try go_wp2_with fail)
    refine hK.out _ _ ?_ (fun hHeld => ?_)
    · ((try dsimp only); (first | with_reducible exact HS0.out | with_reducible exact HS1.out | with_reducible exact HS2.out))
    clear hK K
    (try simp only [Act.put, List.setIfInBounds_toArray, List.set_cons_zero, List.set_cons_succ])
    refine hand_ready 8 (by kernel_rfl) (by kernel_rfl) (fun o ho K hK => ?_)
    (simp only [List.getElem?_toArray, List.getElem?_cons_succ, List.getElem?_cons_zero, Option.some.injEq] at ho)
    subst ho
    go_simp
    (obtain ⟨Ay', ny', ky', ym', ys', Ks', hy6⟩ := HD6.out.1.rx; go_at_call 37; (with_reducible refine (HDC.out _ _ _ _ _ _ hy6).mono ?_); rintro e w7 ⟨er, rfl, Ay7, ny7, ky7, ym7, ys7, Ks7, hy7, t7⟩; have HMID := kept (mid_doc HD6.out.1 (fun j hj => (HD6.out.2.1 j hj).imp id (fun e => Nat.le_trans HBW3.out.size e)) (HTT.out w6 HD6.out.2.2) (HOW.out w6 HD6.out.2.2) (fun j hj e => HNF.out j hj (HD6.out.2.1 j e)) ⟨Ay7, ny7, ky7, ym7, ys7, Ks7, hy7⟩ t7 (KeyIn.ch HJ3.out.good.inv.rise l xs q (fun gs => mcG gs q) (fun gs => putG gs q))); have HS2 := kept (HSK2.out w6 w7 HS1.out t7); clear hy6 hy7 t7)
    (try go_wp2_with fail)
    refine hK.out _ _ ?_ (fun hHeld => ?_)
    · ((try dsimp only); (first | with_reducible exact HS0.out | with_reducible exact HS1.out | with_reducible exact HS2.out))
    clear hK K
    (try simp only [Act.put, List.setIfInBounds_toArray, List.set_cons_zero, List.set_cons_succ])
    refine hand_take 9 (some 9) ?_ (by kernel_rfl) (by kernel_rfl) (by kernel_rfl) (by kernel_rfl) (by kernel_rfl) (fun _ _ _ h => h) ?_ (by assumption) ?_
    rotate_left
    · (intro o ho w hSw; (simp only [List.getElem?_toArray, List.getElem?_cons_succ, List.getElem?_cons_zero, Option.some.injEq] at ho); subst ho; (try dsimp only at hSw); go_simp; (first | done | with_reducible rfl))
    (try simp only [Act.put, List.setIfInBounds_toArray, List.set_cons_zero, List.set_cons_succ])
    refine hand_take 10 (some 10) ?_ (by kernel_rfl) (by kernel_rfl) (by kernel_rfl) (by kernel_rfl) (by kernel_rfl) (fun _ _ _ h => h) ?_ (by assumption) ?_
    rotate_left
    · (intro o ho w hSw; (simp only [List.getElem?_toArray, List.getElem?_cons_succ, List.getElem?_cons_zero, Option.some.injEq] at ho); subst ho; (try dsimp only at hSw); go_simp; (first | done | with_reducible rfl))
    (try simp only [Act.put, List.setIfInBounds_toArray, List.set_cons_zero, List.set_cons_succ])
    refine wpAnyH_done (by kernel_rfl) ?_ _
    clear hHeld
    go_wp2
    go_loopw [122] (fun i wr => ∃ (j : Nat), j ≤ n ∧ i = .int .i64 (j : Int) ∧ Hid (MidX w0 W x F y N P xs B3 n c3 wr)) (fun i _ => n - (intOf i).toNat)
    case atStart => exact ⟨0, Nat.zero_le _, rfl, HMID⟩
    case round =>
      obtain ⟨j, hj, rfl, HI⟩ := hrel
      have hj0 : (0 : Int) ≤ (j : Int) := by omega
      by_cases hjn : j < n
      · obtain ⟨g, z, hB, cz0, fz, hpk⟩ := HI.out.poke hjn HW0.out
        subst hB
        have hjn' : (j : Int) < (n : Int) := by omega
        have hwj : wrap64 ((j : Int) + 1) = (j : Int) + 1 := IntWalk.wrap64_in _ ⟨by omega, by omega⟩
        have HPK := kept hpk
        have HJN := kept hjn
        have cz : wr.cell? ⟨g, j, none⟩ = some (.int .u8 (z.toNat : Int)) := cz0
        have HBY := kept (bits_byte2 z)
        clear hpk hjn cz0
        go_wp2
        go_roundw
        case rel => exact ⟨j + 1, by have := HJN.out; omega, by go_num, by rw [HBY.out]; exact kept (HPK.out _)⟩
        case measure => have := HJN.out; simp [intOf]; omega
      · obtain rfl : j = n := by omega
        have hjn' : ¬ (j : Int) < (j : Int) := by omega
        go_wp2
        go_returns
        exact HI.out.done _
  · have k0' : (k == 0) = false := by simpa using k0
    by_cases k1 : k = 1
    · subst k1
      go_wp2
      clear a0
      have HDV := kept (xtombP_any (HJ3.out.ix.below ((Below.refl _ w3).drew)) HJ3.out.good.inv (by omega) B3 n c3 xs HRD3.out (by omega) q)
      refine wp_region_held_drew (S := (fun W' : World => (W'.cell? ⟨W.heap.size + 1, 0, none⟩ = some (.int .i64 q.1) ∧ W'.cell? ⟨W.heap.size + 1, 1, none⟩ = some (.int .i64 q.2)) ∧ W'.cell? ⟨W.heap.size, 1, none⟩ = some (.slice A n kc) ∧ W'.cell? ⟨W.heap.size, 5, none⟩ = some (.int .i64 c) ∧ W'.cell? ⟨W.heap.size, 6, none⟩ = some (.int .i64 v))) (by kernel_rfl) ?_ (fun hHeld => ?_)
      · ((try dsimp only); (first | with_reducible exact HS0.out | with_reducible exact HS1.out | with_reducible exact HS2.out))
      refine hand_take 0 (some 68) ?_ (by kernel_rfl) (by kernel_rfl) (by kernel_rfl) (by kernel_rfl) (by kernel_rfl) (fun _ _ _ h => h) ?_ (by assumption) ?_
      rotate_left
      · (intro o ho w hSw; (simp only [List.getElem?_toArray, List.getElem?_cons_succ, List.getElem?_cons_zero, Option.some.injEq] at ho); subst ho; (try dsimp only at hSw); go_simp; (first | done | with_reducible rfl))
      (try simp only [Act.put, List.setIfInBounds_toArray, List.set_cons_zero, List.set_cons_succ])
      refine hand_take 1 (some 69) ?_ (by kernel_rfl) (by kernel_rfl) (by kernel_rfl) (by kernel_rfl) (by kernel_rfl) (fun _ _ _ h => h) ?_ (by assumption) ?_
      rotate_left
      · (intro o ho w hSw; (simp only [List.getElem?_toArray, List.getElem?_cons_succ, List.getElem?_cons_zero, Option.some.injEq] at ho); subst ho; (try dsimp only at hSw); go_simp; (first | done | with_reducible rfl))
      (try simp only [Act.put, List.setIfInBounds_toArray, List.set_cons_zero, List.set_cons_succ])
      refine hand_take 2 (some 70) ?_ (by kernel_rfl) (by kernel_rfl) (by kernel_rfl) (by kernel_rfl) (by kernel_rfl) (fun _ _ _ h => h) ?_ (by assumption) ?_
      rotate_left
      · (intro o ho w hSw; (simp only [List.getElem?_toArray, List.getElem?_cons_succ, List.getElem?_cons_zero, Option.some.injEq] at ho); subst ho; (try dsimp only at hSw); go_simp; (first | done | with_reducible rfl))
      (try simp only [Act.put, List.setIfInBounds_toArray, List.set_cons_zero, List.set_cons_succ])
      refine hand_take 4 (some 72) ?_ (by kernel_rfl) (by kernel_rfl) (by kernel_rfl) (by kernel_rfl) (by kernel_rfl) (fun _ _ _ h => h) ?_ (by assumption) ?_
      rotate_left
      · (intro o ho w hSw; (simp only [List.getElem?_toArray, List.getElem?_cons_succ, List.getElem?_cons_zero, Option.some.injEq] at ho); subst ho; (try dsimp only at hSw); go_simp; (first | done | with_reducible rfl))
      (try simp only [Act.put, List.setIfInBounds_toArray, List.set_cons_zero, List.set_cons_succ])
      refine hand_take 5 (some 73) ?_ (by kernel_rfl) (by kernel_rfl) (by kernel_rfl) (by kernel_rfl) (by kernel_rfl) (fun _ _ _ h => h) ?_ (by assumption) ?_
      rotate_left
      · (intro o ho w hSw; (simp only [List.getElem?_toArray, List.getElem?_cons_succ, List.getElem?_cons_zero, Option.some.injEq] at ho); subst ho; (try dsimp only at hSw); go_simp; (first | done | with_reducible rfl))
      (try simp only [Act.put, List.setIfInBounds_toArray, List.set_cons_zero, List.set_cons_succ])
      refine hand_take 6 (some 74) ?_ (by kernel_rfl) (by kernel_rfl) (by kernel_rfl) (by kernel_rfl) (by kernel_rfl) (fun _ _ _ h => h) ?_ (by assumption) ?_
      rotate_left
      · (intro o ho w hSw; (simp only [List.getElem?_toArray, List.getElem?_cons_succ, List.getElem?_cons_zero, Option.some.injEq] at ho); subst ho; (try dsimp only at hSw); go_simp; (first | done | with_reducible rfl))
      (try simp only [Act.put, List.setIfInBounds_toArray, List.set_cons_zero, List.set_cons_succ])
      refine hand_take 7 (some 75) ?_ (by kernel_rfl) (by kernel_rfl) (by kernel_rfl) (by kernel_rfl) (by kernel_rfl) (fun _ _ _ h => h) ?_ (by assumption) ?_
      rotate_left
      · (intro o ho w hSw; (simp only [List.getElem?_toArray, List.getElem?_cons_succ, List.getElem?_cons_zero, Option.some.injEq] at ho); subst ho; (try dsimp only at hSw); go_simp; (first | done | with_reducible rfl))
      (try simp only [Act.put, List.setIfInBounds_toArray, List.set_cons_zero, List.set_cons_succ])
      refine hand_ready 3 (by kernel_rfl) (by kernel_rfl) (fun o ho K hK => ?_)
      (simp only [List.getElem?_toArray, List.getElem?_cons_succ, List.getElem?_cons_zero, Option.some.injEq] at ho)
      subst ho
      go_simp
      (go_at_call 24; (with_reducible refine HDV.out.mono ?_); rintro e w6 ⟨rfl, hl⟩; obtain ⟨F6, hj6, hf6, t6⟩ := (HJ3.out.below ((Below.refl _ w3).drew)).dev hl (Nat.le_succ _) (HJ3.out.good.change xs q (tomb_fit q)); have HD6 := kept (And.intro hj6 (And.intro hf6 t6)); have HS1 := kept (HSK.out w6 t6); have HDC := kept (fun (Ay' : Option Addr) (ny' ky' : Nat) (ym' ys' : Int) (Ks' : List DK) (hy6 : RXs w6 w0.heap.size y (N + 1) Ay' ny' ky' ym' ys' Ks') => xtomb_any hy6 (by omega) A n kc xs (fun W' t => HR.out.below (bel_left (HD6.out.1.bel) t (fun j e => by rw [e]; exact HD6.out.1.rx.le))) (by omega) q); clear hl hj6 hf6 t6)
      (try go_wp2_with fail)
      refine hK.out _ _ ?_ (fun hHeld => ?_)
      · ((try dsimp only); (first | with_reducible exact HS0.out | with_reducible exact HS1.out | with_reducible exact HS2.out))
      clear hK K
      (try simp only [Act.put, List.setIfInBounds_toArray, List.set_cons_zero, List.set_cons_succ])
      refine hand_ready 8 (by kernel_rfl) (by kernel_rfl) (fun o ho K hK => ?_)
      (simp only [List.getElem?_toArray, List.getElem?_cons_succ, List.getElem?_cons_zero, Option.some.injEq] at ho)
      subst ho
      go_simp
      (obtain ⟨Ay', ny', ky', ym', ys', Ks', hy6⟩ := HD6.out.1.rx; go_at_call 38; (with_reducible refine (HDC.out _ _ _ _ _ _ hy6).mono ?_); rintro e w7 ⟨er, rfl, Ay7, ny7, ky7, ym7, ys7, Ks7, hy7, t7⟩; have HMID := kept (mid_doc HD6.out.1 (fun j hj => (HD6.out.2.1 j hj).imp id (fun e => Nat.le_trans HBW3.out.size e)) (HTT.out w6 HD6.out.2.2) (HOW.out w6 HD6.out.2.2) (fun j hj e => HNF.out j hj (HD6.out.2.1 j e)) ⟨Ay7, ny7, ky7, ym7, ys7, Ks7, hy7⟩ t7 (KeyIn.ch HJ3.out.good.inv.rise l xs q (fun gs => tombC gs q) (fun gs => tombG gs q))); have HS2 := kept (HSK2.out w6 w7 HS1.out t7); clear hy6 hy7 t7)
      (try go_wp2_with fail)
      refine hK.out _ _ ?_ (fun hHeld => ?_)
      · ((try dsimp only); (first | with_reducible exact HS0.out | with_reducible exact HS1.out | with_reducible exact HS2.out))
      clear hK K
      (try simp only [Act.put, List.setIfInBounds_toArray, List.set_cons_zero, List.set_cons_succ])
      refine hand_take 9 (some 9) ?_ (by kernel_rfl) (by kernel_rfl) (by kernel_rfl) (by kernel_rfl) (by kernel_rfl) (fun _ _ _ h => h) ?_ (by assumption) ?_
      rotate_left
      · (intro o ho w hSw; (simp only [List.getElem?_toArray, List.getElem?_cons_succ, List.getElem?_cons_zero, Option.some.injEq] at ho); subst ho; (try dsimp only at hSw); go_simp; (first | done | with_reducible rfl))
      (try simp only [Act.put, List.setIfInBounds_toArray, List.set_cons_zero, List.set_cons_succ])
      refine hand_take 10 (some 10) ?_ (by kernel_rfl) (by kernel_rfl) (by kernel_rfl) (by kernel_rfl) (by kernel_rfl) (fun _ _ _ h => h) ?_ (by assumption) ?_
      rotate_left
      · (intro o ho w hSw; (simp only [List.getElem?_toArray, List.getElem?_cons_succ, List.getElem?_cons_zero, Option.some.injEq] at ho); subst ho; (try dsimp only at hSw); go_simp; (first | done | with_reducible rfl))
      (try simp only [Act.put, List.setIfInBounds_toArray, List.set_cons_zero, List.set_cons_succ])
      refine wpAnyH_done (by kernel_rfl) ?_ _
      clear hHeld
      go_wp2
      go_loopw [122] (fun i wr => ∃ (j : Nat), j ≤ n ∧ i = .int .i64 (j : Int) ∧ Hid (MidX w0 W x F y N P xs B3 n c3 wr)) (fun i _ => n - (intOf i).toNat)
      case atStart => exact ⟨0, Nat.zero_le _, rfl, HMID⟩
      case round =>
        obtain ⟨j, hj, rfl, HI⟩ := hrel
        have hj0 : (0 : Int) ≤ (j : Int) := by omega
        by_cases hjn : j < n
        · obtain ⟨g, z, hB, cz0, fz, hpk⟩ := HI.out.poke hjn HW0.out
          subst hB
          have hjn' : (j : Int) < (n : Int) := by omega
          have hwj : wrap64 ((j : Int) + 1) = (j : Int) + 1 := IntWalk.wrap64_in _ ⟨by omega, by omega⟩
          have HPK := kept hpk
          have HJN := kept hjn
          have cz : wr.cell? ⟨g, j, none⟩ = some (.int .u8 (z.toNat : Int)) := cz0
          have HBY := kept (bits_byte2 z)
          clear hpk hjn cz0
          go_wp2
          go_roundw
          case rel => exact ⟨j + 1, by have := HJN.out; omega, by go_num, by rw [HBY.out]; exact kept (HPK.out _)⟩
          case measure => have := HJN.out; simp [intOf]; omega
        · obtain rfl : j = n := by omega
          have hjn' : ¬ (j : Int) < (j : Int) := by omega
          go_wp2
          go_returns
          exact HI.out.done _
    · have k1' : (k == 1) = false := by simpa using k1
      by_cases k2 : k = 2
      · subst k2
        have r30 : w3.cell? ⟨W.heap.size + 1, 0, none⟩ = some (.int .i64 q.1) := HR3.out.cell 0
        have HKE := kept (keepP_any HJ3.out.ix HJ3.out.good.inv (by omega) q.1)
        have hklen : (sortRv (keepX P q.1)).length ≤ N := by
          rw [(sortRv_perm _).length_eq]
          exact Nat.le_trans (List.length_filterMap_le _ _) HJ3.out.good.inv.ln
        have HKL := kept hklen
        generalize sortRv (keepX P q.1) = ks at HKE HKL
        clear hklen
        go_wp2_with fail
        with_reducible refine HKE.out.mono ?_
        rintro e w5 ⟨A5, n5, c5, rfl, ho5, hb5⟩
        have HB5 := kept hb5
        have hn5 : n5 ≤ N := by have h1 := ho5.1; rw [rvC_length] at h1; have := HKL.out; omega
        have HO5 := kept (RdR.of_own ho5)
        have HJ5 := kept (HJ3.out.below hb5)
        have HBW5 := kept (bel_to hb5 HBW3.out)
        have HS0' := kept (show (fun W' : World => W'.cell? ⟨W.heap.size + 1, 0, none⟩ = some (.int .i64 q.1)) w5.drew from (HR3.out.below hb5 HR3.out.lt).cell 0)
        obtain ⟨Ay5, ny5, ky5, ym5, ys5, Ks5, hy5⟩ := HJ5.out.rx
        have HDK := kept (xkeep_any (w := w5.drew) (hy5.below ((Below.refl _ w5).drew)) (by omega) q.1)
        clear ho5 hb5 hy5 r30 a0
        go_wp2
        refine wp_region_held_drew (S := (fun W' : World => W'.cell? ⟨W.heap.size + 1, 0, none⟩ = some (.int .i64 q.1))) (by kernel_rfl) ?_ (fun hHeld => ?_)
        · ((try dsimp only); (first | with_reducible exact HS0'.out | with_reducible exact HS1.out | with_reducible exact HS2.out))
        refine hand_take 0 (some 83) ?_ (by kernel_rfl) (by kernel_rfl) (by kernel_rfl) (by kernel_rfl) (by kernel_rfl) (fun _ _ _ h => h) ?_ (by assumption) ?_
        rotate_left
        · (intro o ho w hSw; (simp only [List.getElem?_toArray, List.getElem?_cons_succ, List.getElem?_cons_zero, Option.some.injEq] at ho); subst ho; (try dsimp only at hSw); go_simp; (first | done | with_reducible rfl))
        (try simp only [Act.put, List.setIfInBounds_toArray, List.set_cons_zero, List.set_cons_succ])
        refine hand_take 1 (some 84) ?_ (by kernel_rfl) (by kernel_rfl) (by kernel_rfl) (by kernel_rfl) (by kernel_rfl) (fun _ _ _ h => h) ?_ (by assumption) ?_
        rotate_left
        · (intro o ho w hSw; (simp only [List.getElem?_toArray, List.getElem?_cons_succ, List.getElem?_cons_zero, Option.some.injEq] at ho); subst ho; (try dsimp only at hSw); go_simp; (first | done | with_reducible rfl))
        (try simp only [Act.put, List.setIfInBounds_toArray, List.set_cons_zero, List.set_cons_succ])
        refine hand_take 2 (some 85) ?_ (by kernel_rfl) (by kernel_rfl) (by kernel_rfl) (by kernel_rfl) (by kernel_rfl) (fun _ _ _ h => h) ?_ (by assumption) ?_
        rotate_left
        · (intro o ho w hSw; (simp only [List.getElem?_toArray, List.getElem?_cons_succ, List.getElem?_cons_zero, Option.some.injEq] at ho); subst ho; (try dsimp only at hSw); go_simp; (first | done | with_reducible rfl))
        (try simp only [Act.put, List.setIfInBounds_toArray, List.set_cons_zero, List.set_cons_succ])
        refine hand_take 3 (some 86) ?_ (by kernel_rfl) (by kernel_rfl) (by kernel_rfl) (by kernel_rfl) (by kernel_rfl) (fun _ _ _ h => h) ?_ (by assumption) ?_
        rotate_left
        · (intro o ho w hSw; (simp only [List.getElem?_toArray, List.getElem?_cons_succ, List.getElem?_cons_zero, Option.some.injEq] at ho); subst ho; (try dsimp only at hSw); go_simp; (first | done | with_reducible rfl))
        (try simp only [Act.put, List.setIfInBounds_toArray, List.set_cons_zero, List.set_cons_succ])
        refine hand_ready 4 (by kernel_rfl) (by kernel_rfl) (fun o ho K hK => ?_)
        (simp only [List.getElem?_toArray, List.getElem?_cons_succ, List.getElem?_cons_zero, Option.some.injEq] at ho)
        subst ho
        go_simp
        (go_at_call 39; (with_reducible refine HDK.out.mono ?_); rintro e w6 ⟨A6, n6, c6, ps6, rfl, ho6, hn6, hb6⟩; have HB6 := kept (bel_to hb6 ((Below.refl w5.heap.size w5).drew)); have HSM := kept (samerevs_any (c := c5) (d := c6) (HO5.out.keeps (Keeps.of_below HB6.out)) (RdR.of_own ho6) (by omega)); have HS1 := kept (show (fun W' : World => W'.cell? ⟨W.heap.size + 1, 0, none⟩ = some (.int .i64 q.1)) w6 from (Keeps.of_below hb6).cell_ HS0'.out); clear ho6 hb6)
        (try go_wp2_with fail)
        refine hK.out _ _ ?_ (fun hHeld => ?_)
        · ((try dsimp only); (first | with_reducible exact HS0'.out | with_reducible exact HS1.out | with_reducible exact HS2.out))
        clear hK K
        (try simp only [Act.put, List.setIfInBounds_toArray, List.set_cons_zero, List.set_cons_succ])
        refine hand_ready 5 (by kernel_rfl) (by kernel_rfl) (fun o ho K hK => ?_)
        (simp only [List.getElem?_toArray, List.getElem?_cons_succ, List.getElem?_cons_zero, Option.some.injEq] at ho)
        subst ho
        go_simp
        (go_at_call 16; (with_reducible refine HSM.out.mono ?_); rintro e w7 ⟨rfl, hb7⟩; have HB7 := kept (bel_to hb7 HB6.out); have HS2 := kept (show (fun W' : World => W'.cell? ⟨W.heap.size + 1, 0, none⟩ = some (.int .i64 q.1)) w7 from (Keeps.of_below hb7).cell_ HS1.out); clear hb7; generalize decide (ks = ps6) = bb)
        (try go_wp2_with fail)
        refine hK.out _ _ ?_ (fun hHeld => ?_)
        · ((try dsimp only); (first | with_reducible exact HS0'.out | with_reducible exact HS1.out | with_reducible exact HS2.out))
        clear hK K
        (try simp only [Act.put, List.setIfInBounds_toArray, List.set_cons_zero, List.set_cons_succ])
        cases bb with
        | false =>
          refine hand_take 6 (some 89) ?_ (by kernel_rfl) (by kernel_rfl) (by kernel_rfl) (by kernel_rfl) (by kernel_rfl) (fun _ _ _ h => h) ?_ (by assumption) ?_
          rotate_left
          · (intro o ho w hSw; (simp only [List.getElem?_toArray, List.getElem?_cons_succ, List.getElem?_cons_zero, Option.some.injEq] at ho); subst ho; (try dsimp only at hSw); go_simp; (first | done | with_reducible rfl))
          (try simp only [Act.put, List.setIfInBounds_toArray, List.set_cons_zero, List.set_cons_succ])
          refine hand_skip 7 (some 90) (by kernel_rfl) (by kernel_rfl) (by kernel_rfl) (by kernel_rfl) (by kernel_rfl) (fun _ _ _ h => h) (by assumption) ?_
          (try simp only [Act.put, List.setIfInBounds_toArray, List.set_cons_zero, List.set_cons_succ])
          refine hand_skip 8 (some 91) (by kernel_rfl) (by kernel_rfl) (by kernel_rfl) (by kernel_rfl) (by kernel_rfl) (fun _ _ _ h => h) (by assumption) ?_
          (try simp only [Act.put, List.setIfInBounds_toArray, List.set_cons_zero, List.set_cons_succ])
          refine hand_skip 9 (some 92) (by kernel_rfl) (by kernel_rfl) (by kernel_rfl) (by kernel_rfl) (by kernel_rfl) (fun _ _ _ h => h) (by assumption) ?_
          (try simp only [Act.put, List.setIfInBounds_toArray, List.set_cons_zero, List.set_cons_succ])
          refine hand_skip 10 (some 93) (by kernel_rfl) (by kernel_rfl) (by kernel_rfl) (by kernel_rfl) (by kernel_rfl) (fun _ _ _ h => h) (by assumption) ?_
          (try simp only [Act.put, List.setIfInBounds_toArray, List.set_cons_zero, List.set_cons_succ])
          refine hand_skip 11 (some 94) (by kernel_rfl) (by kernel_rfl) (by kernel_rfl) (by kernel_rfl) (by kernel_rfl) (fun _ _ _ h => h) (by assumption) ?_
          (try simp only [Act.put, List.setIfInBounds_toArray, List.set_cons_zero, List.set_cons_succ])
          refine hand_skip 12 (some 95) (by kernel_rfl) (by kernel_rfl) (by kernel_rfl) (by kernel_rfl) (by kernel_rfl) (fun _ _ _ h => h) (by assumption) ?_
          (try simp only [Act.put, List.setIfInBounds_toArray, List.set_cons_zero, List.set_cons_succ])
          refine hand_skip 13 (some 96) (by kernel_rfl) (by kernel_rfl) (by kernel_rfl) (by kernel_rfl) (by kernel_rfl) (fun _ _ _ h => h) (by assumption) ?_
          (try simp only [Act.put, List.setIfInBounds_toArray, List.set_cons_zero, List.set_cons_succ])
          refine hand_skip 14 (some 97) (by kernel_rfl) (by kernel_rfl) (by kernel_rfl) (by kernel_rfl) (by kernel_rfl) (fun _ _ _ h => h) (by assumption) ?_
          (try simp only [Act.put, List.setIfInBounds_toArray, List.set_cons_zero, List.set_cons_succ])
          refine hand_skip 15 (some 98) (by kernel_rfl) (by kernel_rfl) (by kernel_rfl) (by kernel_rfl) (by kernel_rfl) (fun _ _ _ h => h) (by assumption) ?_
          (try simp only [Act.put, List.setIfInBounds_toArray, List.set_cons_zero, List.set_cons_succ])
          refine hand_take 16 (some 99) ?_ (by kernel_rfl) (by kernel_rfl) (by kernel_rfl) (by kernel_rfl) (by kernel_rfl) (fun _ _ _ h => h) ?_ (by assumption) ?_
          rotate_left
          · (intro o ho w hSw; (simp only [List.getElem?_toArray, List.getElem?_cons_succ, List.getElem?_cons_zero, Option.some.injEq] at ho); subst ho; (try dsimp only at hSw); go_simp; (first | done | with_reducible rfl))
          (try simp only [Act.put, List.setIfInBounds_toArray, List.set_cons_zero, List.set_cons_succ])
          refine hand_take 17 (some 6) ?_ (by kernel_rfl) (by kernel_rfl) (by kernel_rfl) (by kernel_rfl) (by kernel_rfl) (fun _ _ _ h => h) ?_ (by assumption) ?_
          rotate_left
          · (intro o ho w hSw; (simp only [List.getElem?_toArray, List.getElem?_cons_succ, List.getElem?_cons_zero, Option.some.injEq] at ho); subst ho; (try dsimp only at hSw); go_simp; (first | done | with_reducible rfl))
          (try simp only [Act.put, List.setIfInBounds_toArray, List.set_cons_zero, List.set_cons_succ])
          refine wpAnyH_done (by kernel_rfl) ?_ _
          clear hHeld
          go_wp2
          go_returns
          exact ⟨_, F, l, P, rfl, (HJ5.out.below HB7.out).mono (by omega), fun j hj => .inl hj, (Turned.of_below (bel_to HB7.out HBW5.out) _), KeyIn.refl P xs⟩
        | true =>
          have HCM := kept (compactP_any (HJ5.out.below HB7.out).ix HJ5.out.good.inv (by omega) q.1)
          refine hand_take 6 (some 89) ?_ (by kernel_rfl) (by kernel_rfl) (by kernel_rfl) (by kernel_rfl) (by kernel_rfl) (fun _ _ _ h => h) ?_ (by assumption) ?_
          rotate_left
          · (intro o ho w hSw; (simp only [List.getElem?_toArray, List.getElem?_cons_succ, List.getElem?_cons_zero, Option.some.injEq] at ho); subst ho; (try dsimp only at hSw); go_simp; (first | done | with_reducible rfl))
          (try simp only [Act.put, List.setIfInBounds_toArray, List.set_cons_zero, List.set_cons_succ])
          refine hand_take 7 (some 90) ?_ (by kernel_rfl) (by kernel_rfl) (by kernel_rfl) (by kernel_rfl) (by kernel_rfl) (fun _ _ _ h => h) ?_ (by assumption) ?_
          rotate_left
          · (intro o ho w hSw; (simp only [List.getElem?_toArray, List.getElem?_cons_succ, List.getElem?_cons_zero, Option.some.injEq] at ho); subst ho; (try dsimp only at hSw); go_simp; (first | done | with_reducible rfl))
          (try simp only [Act.put, List.setIfInBounds_toArray, List.set_cons_zero, List.set_cons_succ])
          refine hand_take 8 (some 91) ?_ (by kernel_rfl) (by kernel_rfl) (by kernel_rfl) (by kernel_rfl) (by kernel_rfl) (fun _ _ _ h => h) ?_ (by assumption) ?_
          rotate_left
          · (intro o ho w hSw; (simp only [List.getElem?_toArray, List.getElem?_cons_succ, List.getElem?_cons_zero, Option.some.injEq] at ho); subst ho; (try dsimp only at hSw); go_simp; (first | done | with_reducible rfl))
          (try simp only [Act.put, List.setIfInBounds_toArray, List.set_cons_zero, List.set_cons_succ])
          refine hand_take 9 (some 92) ?_ (by kernel_rfl) (by kernel_rfl) (by kernel_rfl) (by kernel_rfl) (by kernel_rfl) (fun _ _ _ h => h) ?_ (by assumption) ?_
          rotate_left
          · (intro o ho w hSw; (simp only [List.getElem?_toArray, List.getElem?_cons_succ, List.getElem?_cons_zero, Option.some.injEq] at ho); subst ho; (try dsimp only at hSw); go_simp; (first | done | with_reducible rfl))
          (try simp only [Act.put, List.setIfInBounds_toArray, List.set_cons_zero, List.set_cons_succ])
          refine hand_take 11 (some 94) ?_ (by kernel_rfl) (by kernel_rfl) (by kernel_rfl) (by kernel_rfl) (by kernel_rfl) (fun _ _ _ h => h) ?_ (by assumption) ?_
          rotate_left
          · (intro o ho w hSw; (simp only [List.getElem?_toArray, List.getElem?_cons_succ, List.getElem?_cons_zero, Option.some.injEq] at ho); subst ho; (try dsimp only at hSw); go_simp; (first | done | with_reducible rfl))
          (try simp only [Act.put, List.setIfInBounds_toArray, List.set_cons_zero, List.set_cons_succ])
          refine hand_take 12 (some 95) ?_ (by kernel_rfl) (by kernel_rfl) (by kernel_rfl) (by kernel_rfl) (by kernel_rfl) (fun _ _ _ h => h) ?_ (by assumption) ?_
          rotate_left
          · (intro o ho w hSw; (simp only [List.getElem?_toArray, List.getElem?_cons_succ, List.getElem?_cons_zero, Option.some.injEq] at ho); subst ho; (try dsimp only at hSw); go_simp; (first | done | with_reducible rfl))
          (try simp only [Act.put, List.setIfInBounds_toArray, List.set_cons_zero, List.set_cons_succ])
          refine hand_take 13 (some 96) ?_ (by kernel_rfl) (by kernel_rfl) (by kernel_rfl) (by kernel_rfl) (by kernel_rfl) (fun _ _ _ h => h) ?_ (by assumption) ?_
          rotate_left
          · (intro o ho w hSw; (simp only [List.getElem?_toArray, List.getElem?_cons_succ, List.getElem?_cons_zero, Option.some.injEq] at ho); subst ho; (try dsimp only at hSw); go_simp; (first | done | with_reducible rfl))
          (try simp only [Act.put, List.setIfInBounds_toArray, List.set_cons_zero, List.set_cons_succ])
          refine hand_ready 10 (by kernel_rfl) (by kernel_rfl) (fun o ho K hK => ?_)
          (simp only [List.getElem?_toArray, List.getElem?_cons_succ, List.getElem?_cons_zero, Option.some.injEq] at ho)
          subst ho
          go_simp
          (go_at_call 17; (with_reducible refine HCM.out.mono ?_); rintro e w8 ⟨A8, n8, c8, rfl, h8⟩; obtain ⟨ho8, hl8⟩ := h8.out; obtain ⟨F8, hj8, hf8, t8⟩ := (HJ5.out.below HB7.out).dev hl8 (Nat.le_succ _) ((HJ5.out.good.compact q.1).mono (Nat.le_succ _)); have HD8 := kept (And.intro hj8 (And.intro hf8 t8)); have HO8 := kept ho8; have HS3 := kept (show (fun W' : World => W'.cell? ⟨W.heap.size + 1, 0, none⟩ = some (.int .i64 q.1)) w8 from (t8.blk (HR3.out.below (bel_to HB7.out HB5.out) HR3.out.lt) (fun e => by have := HLTF.out _ e.1; omega)).cell 0); clear ho8 hl8 hj8 hf8 t8 h8)
          (try go_wp2_with fail)
          refine hK.out _ _ ?_ (fun hHeld => ?_)
          · ((try dsimp only); (first | with_reducible exact HS2.out | with_reducible exact HS3.out | with_reducible exact HS4.out | with_reducible exact HS5.out))
          clear hK K
          (try simp only [Act.put, List.setIfInBounds_toArray, List.set_cons_zero, List.set_cons_succ])
          refine hand_ready 14 (by kernel_rfl) (by kernel_rfl) (fun o ho K hK => ?_)
          (simp only [List.getElem?_toArray, List.getElem?_cons_succ, List.getElem?_cons_zero, Option.some.injEq] at ho)
          subst ho
          go_simp
          (obtain ⟨Ay8, ny8, ky8, ym8, ys8, Ks8, hy8⟩ := HD8.out.1.rx; go_at_call 40; (with_reducible refine (xcompact_any hy8 (by omega) q.1).mono ?_); rintro e w9 ⟨A9, n9, c9, ps9, rfl, ho9, hn9, Ay9, ny9, ky9, ym9, ys9, Ks9, hy9, t9⟩; have HJ9 := kept (And.intro (HD8.out.1.doc (Nat.le_succ _) ⟨Ay9, ny9, ky9, ym9, ys9, Ks9, hy9⟩ t9) t9); have HSM9 := kept (samerevs_any (c := c8) (d := c9) (RdR.of_own (gown_turned HO8.out t9 (fun j hj e => by obtain ⟨c, hc⟩ := gown_cl (k := 0) HO8.out hj; exact ne_of_types hc (show w8.heap[y]? = some _ from hy8.box) (by decide) e))) (RdR.of_own ho9) (by have h1 := HO8.out.1; rw [rvC_length] at h1; have h2 := (sortRv_perm (keepX P q.1)).length_eq; have h3 := List.length_filterMap_le (fun e : PE => (getG e.2 q.1).map fun f => f.1) P; have h4 := HJ5.out.good.inv.ln; have h5 : (keepX P q.1).length ≤ P.length := h3; omega)); have HS4 := kept (show (fun W' : World => W'.cell? ⟨W.heap.size + 1, 0, none⟩ = some (.int .i64 q.1)) w9 from by have hl := block_lt_of_cell HS3.out; have hyl := HYL.out; show w9.cell? ⟨W.heap.size + 1, 0, none⟩ = some (.int .i64 q.1); rw [World.cell?_of_block (t9.block _ hl (by show ¬ (W.heap.size + 1 = y); omega))]; exact HS3.out); clear hy8 ho9 hy9 t9)
          (try go_wp2_with fail)
          refine hK.out _ _ ?_ (fun hHeld => ?_)
          · ((try dsimp only); (first | with_reducible exact HS2.out | with_reducible exact HS3.out | with_reducible exact HS4.out | with_reducible exact HS5.out))
          clear hK K
          (try simp only [Act.put, List.setIfInBounds_toArray, List.set_cons_zero, List.set_cons_succ])
          refine hand_ready 15 (by kernel_rfl) (by kernel_rfl) (fun o ho K hK => ?_)
          (simp only [List.getElem?_toArray, List.getElem?_cons_succ, List.getElem?_cons_zero, Option.some.injEq] at ho)
          subst ho
          go_simp
          (go_at_call 16; (with_reducible refine HSM9.out.mono ?_); rintro e w10 ⟨rfl, hb10⟩; have HB10 := kept hb10; have HS5 := kept (show (fun W' : World => W'.cell? ⟨W.heap.size + 1, 0, none⟩ = some (.int .i64 q.1)) w10 from (Keeps.of_below hb10).cell_ HS4.out); clear hb10)
          (try go_wp2_with fail)
          refine hK.out _ _ ?_ (fun hHeld => ?_)
          · ((try dsimp only); (first | with_reducible exact HS2.out | with_reducible exact HS3.out | with_reducible exact HS4.out | with_reducible exact HS5.out))
          clear hK K
          (try simp only [Act.put, List.setIfInBounds_toArray, List.set_cons_zero, List.set_cons_succ])
          refine hand_take 16 (some 99) ?_ (by kernel_rfl) (by kernel_rfl) (by kernel_rfl) (by kernel_rfl) (by kernel_rfl) (fun _ _ _ h => h) ?_ (by assumption) ?_
          rotate_left
          · (intro o ho w hSw; (simp only [List.getElem?_toArray, List.getElem?_cons_succ, List.getElem?_cons_zero, Option.some.injEq] at ho); subst ho; (try dsimp only at hSw); go_simp; (first | done | with_reducible rfl))
          (try simp only [Act.put, List.setIfInBounds_toArray, List.set_cons_zero, List.set_cons_succ])
          refine hand_take 17 (some 6) ?_ (by kernel_rfl) (by kernel_rfl) (by kernel_rfl) (by kernel_rfl) (by kernel_rfl) (fun _ _ _ h => h) ?_ (by assumption) ?_
          rotate_left
          · (intro o ho w hSw; (simp only [List.getElem?_toArray, List.getElem?_cons_succ, List.getElem?_cons_zero, Option.some.injEq] at ho); subst ho; (try dsimp only at hSw); go_simp; (first | done | with_reducible rfl))
          (try simp only [Act.put, List.setIfInBounds_toArray, List.set_cons_zero, List.set_cons_succ])
          refine wpAnyH_done (by kernel_rfl) ?_ _
          clear hHeld
          go_wp2
          go_returns
          obtain ⟨hj9, t9⟩ := HJ9.out
          exact ⟨_, F8, l, _, rfl, hj9.below HB10.out, fun j hj => (HD8.out.2.1 j hj).imp id (fun e => Nat.le_trans (bel_to HB7.out HBW5.out).size e), (((Turned.of_below (bel_to HB7.out HBW5.out) _).trans (HD8.out.2.2.mono (fun j _ e => .inl ⟨e.1, NU.back (bel_to HB7.out HBW5.out) e.2⟩))).trans (t9.mono (fun j _ e => .inr e))).trans (Turned.of_below HB10.out _), KeyIn.cm P xs q.1⟩
      · have k2' : (k == 2) = false := by simpa using k2
        by_cases k3 : k = 3
        · subst k3
          go_wp2
          clear a0
          have HDV := kept (xrestP_any (HJ3.out.ix.below ((Below.refl _ w3).drew)) HJ3.out.good.inv (by omega) B3 n c3 xs HRD3.out (by omega) q c v)
          refine wp_region_held_drew (S := (fun W' : World => (W'.cell? ⟨W.heap.size + 1, 0, none⟩ = some (.int .i64 q.1) ∧ W'.cell? ⟨W.heap.size + 1, 1, none⟩ = some (.int .i64 q.2)) ∧ W'.cell? ⟨W.heap.size, 1, none⟩ = some (.slice A n kc) ∧ W'.cell? ⟨W.heap.size, 5, none⟩ = some (.int .i64 c) ∧ W'.cell? ⟨W.heap.size, 6, none⟩ = some (.int .i64 v))) (by kernel_rfl) ?_ (fun hHeld => ?_)
          · ((try dsimp only); (first | with_reducible exact HS0.out | with_reducible exact HS1.out | with_reducible exact HS2.out))
          refine hand_take 0 (some 102) ?_ (by kernel_rfl) (by kernel_rfl) (by kernel_rfl) (by kernel_rfl) (by kernel_rfl) (fun _ _ _ h => h) ?_ (by assumption) ?_
          rotate_left
          · (intro o ho w hSw; (simp only [List.getElem?_toArray, List.getElem?_cons_succ, List.getElem?_cons_zero, Option.some.injEq] at ho); subst ho; (try dsimp only at hSw); go_simp; (first | done | with_reducible rfl))
          (try simp only [Act.put, List.setIfInBounds_toArray, List.set_cons_zero, List.set_cons_succ])
          refine hand_take 1 (some 103) ?_ (by kernel_rfl) (by kernel_rfl) (by kernel_rfl) (by kernel_rfl) (by kernel_rfl) (fun _ _ _ h => h) ?_ (by assumption) ?_
          rotate_left
          · (intro o ho w hSw; (simp only [List.getElem?_toArray, List.getElem?_cons_succ, List.getElem?_cons_zero, Option.some.injEq] at ho); subst ho; (try dsimp only at hSw); go_simp; (first | done | with_reducible rfl))
          (try simp only [Act.put, List.setIfInBounds_toArray, List.set_cons_zero, List.set_cons_succ])
          refine hand_take 2 (some 104) ?_ (by kernel_rfl) (by kernel_rfl) (by kernel_rfl) (by kernel_rfl) (by kernel_rfl) (fun _ _ _ h => h) ?_ (by assumption) ?_
          rotate_left
          · (intro o ho w hSw; (simp only [List.getElem?_toArray, List.getElem?_cons_succ, List.getElem?_cons_zero, Option.some.injEq] at ho); subst ho; (try dsimp only at hSw); go_simp; (first | done | with_reducible rfl))
          (try simp only [Act.put, List.setIfInBounds_toArray, List.set_cons_zero, List.set_cons_succ])
          refine hand_take 3 (some 105) ?_ (by kernel_rfl) (by kernel_rfl) (by kernel_rfl) (by kernel_rfl) (by kernel_rfl) (fun _ _ _ h => h) ?_ (by assumption) ?_
          rotate_left
          · (intro o ho w hSw; (simp only [List.getElem?_toArray, List.getElem?_cons_succ, List.getElem?_cons_zero, Option.some.injEq] at ho); subst ho; (try dsimp only at hSw); go_simp; (first | done | with_reducible rfl))
          (try simp only [Act.put, List.setIfInBounds_toArray, List.set_cons_zero, List.set_cons_succ])
          refine hand_take 4 (some 106) ?_ (by kernel_rfl) (by kernel_rfl) (by kernel_rfl) (by kernel_rfl) (by kernel_rfl) (fun _ _ _ h => h) ?_ (by assumption) ?_
          rotate_left
          · (intro o ho w hSw; (simp only [List.getElem?_toArray, List.getElem?_cons_succ, List.getElem?_cons_zero, Option.some.injEq] at ho); subst ho; (try dsimp only at hSw); go_simp; (first | done | with_reducible rfl))
          (try simp only [Act.put, List.setIfInBounds_toArray, List.set_cons_zero, List.set_cons_succ])
          refine hand_take 5 (some 107) ?_ (by kernel_rfl) (by kernel_rfl) (by kernel_rfl) (by kernel_rfl) (by kernel_rfl) (fun _ _ _ h => h) ?_ (by assumption) ?_
          rotate_left
          · (intro o ho w hSw; (simp only [List.getElem?_toArray, List.getElem?_cons_succ, List.getElem?_cons_zero, Option.some.injEq] at ho); subst ho; (try dsimp only at hSw); go_simp; (first | done | with_reducible rfl))
          (try simp only [Act.put, List.setIfInBounds_toArray, List.set_cons_zero, List.set_cons_succ])
          refine hand_take 6 (some 108) ?_ (by kernel_rfl) (by kernel_rfl) (by kernel_rfl) (by kernel_rfl) (by kernel_rfl) (fun _ _ _ h => h) ?_ (by assumption) ?_
          rotate_left
          · (intro o ho w hSw; (simp only [List.getElem?_toArray, List.getElem?_cons_succ, List.getElem?_cons_zero, Option.some.injEq] at ho); subst ho; (try dsimp only at hSw); go_simp; (first | done | with_reducible rfl))
          (try simp only [Act.put, List.setIfInBounds_toArray, List.set_cons_zero, List.set_cons_succ])
          refine hand_take 7 (some 109) ?_ (by kernel_rfl) (by kernel_rfl) (by kernel_rfl) (by kernel_rfl) (by kernel_rfl) (fun _ _ _ h => h) ?_ (by assumption) ?_
          rotate_left
          · (intro o ho w hSw; (simp only [List.getElem?_toArray, List.getElem?_cons_succ, List.getElem?_cons_zero, Option.some.injEq] at ho); subst ho; (try dsimp only at hSw); go_simp; (first | done | with_reducible rfl))
          (try simp only [Act.put, List.setIfInBounds_toArray, List.set_cons_zero, List.set_cons_succ])
          refine hand_take 9 (some 111) ?_ (by kernel_rfl) (by kernel_rfl) (by kernel_rfl) (by kernel_rfl) (by kernel_rfl) (fun _ _ _ h => h) ?_ (by assumption) ?_
          rotate_left
          · (intro o ho w hSw; (simp only [List.getElem?_toArray, List.getElem?_cons_succ, List.getElem?_cons_zero, Option.some.injEq] at ho); subst ho; (try dsimp only at hSw); go_simp; (first | done | with_reducible rfl))
          (try simp only [Act.put, List.setIfInBounds_toArray, List.set_cons_zero, List.set_cons_succ])
          refine hand_take 10 (some 112) ?_ (by kernel_rfl) (by kernel_rfl) (by kernel_rfl) (by kernel_rfl) (by kernel_rfl) (fun _ _ _ h => h) ?_ (by assumption) ?_
          rotate_left
          · (intro o ho w hSw; (simp only [List.getElem?_toArray, List.getElem?_cons_succ, List.getElem?_cons_zero, Option.some.injEq] at ho); subst ho; (try dsimp only at hSw); go_simp; (first | done | with_reducible rfl))
          (try simp only [Act.put, List.setIfInBounds_toArray, List.set_cons_zero, List.set_cons_succ])
          refine hand_take 11 (some 113) ?_ (by kernel_rfl) (by kernel_rfl) (by kernel_rfl) (by kernel_rfl) (by kernel_rfl) (fun _ _ _ h => h) ?_ (by assumption) ?_
          rotate_left
          · (intro o ho w hSw; (simp only [List.getElem?_toArray, List.getElem?_cons_succ, List.getElem?_cons_zero, Option.some.injEq] at ho); subst ho; (try dsimp only at hSw); go_simp; (first | done | with_reducible rfl))
          (try simp only [Act.put, List.setIfInBounds_toArray, List.set_cons_zero, List.set_cons_succ])
          refine hand_take 12 (some 114) ?_ (by kernel_rfl) (by kernel_rfl) (by kernel_rfl) (by kernel_rfl) (by kernel_rfl) (fun _ _ _ h => h) ?_ (by assumption) ?_
          rotate_left
          · (intro o ho w hSw; (simp only [List.getElem?_toArray, List.getElem?_cons_succ, List.getElem?_cons_zero, Option.some.injEq] at ho); subst ho; (try dsimp only at hSw); go_simp; (first | done | with_reducible rfl))
          (try simp only [Act.put, List.setIfInBounds_toArray, List.set_cons_zero, List.set_cons_succ])
          refine hand_take 13 (some 115) ?_ (by kernel_rfl) (by kernel_rfl) (by kernel_rfl) (by kernel_rfl) (by kernel_rfl) (fun _ _ _ h => h) ?_ (by assumption) ?_
          rotate_left
          · (intro o ho w hSw; (simp only [List.getElem?_toArray, List.getElem?_cons_succ, List.getElem?_cons_zero, Option.some.injEq] at ho); subst ho; (try dsimp only at hSw); go_simp; (first | done | with_reducible rfl))
          (try simp only [Act.put, List.setIfInBounds_toArray, List.set_cons_zero, List.set_cons_succ])
          refine hand_take 14 (some 116) ?_ (by kernel_rfl) (by kernel_rfl) (by kernel_rfl) (by kernel_rfl) (by kernel_rfl) (fun _ _ _ h => h) ?_ (by assumption) ?_
          rotate_left
          · (intro o ho w hSw; (simp only [List.getElem?_toArray, List.getElem?_cons_succ, List.getElem?_cons_zero, Option.some.injEq] at ho); subst ho; (try dsimp only at hSw); go_simp; (first | done | with_reducible rfl))
          (try simp only [Act.put, List.setIfInBounds_toArray, List.set_cons_zero, List.set_cons_succ])
          refine hand_take 15 (some 117) ?_ (by kernel_rfl) (by kernel_rfl) (by kernel_rfl) (by kernel_rfl) (by kernel_rfl) (fun _ _ _ h => h) ?_ (by assumption) ?_
          rotate_left
          · (intro o ho w hSw; (simp only [List.getElem?_toArray, List.getElem?_cons_succ, List.getElem?_cons_zero, Option.some.injEq] at ho); subst ho; (try dsimp only at hSw); go_simp; (first | done | with_reducible rfl))
          (try simp only [Act.put, List.setIfInBounds_toArray, List.set_cons_zero, List.set_cons_succ])
          refine hand_take 16 (some 118) ?_ (by kernel_rfl) (by kernel_rfl) (by kernel_rfl) (by kernel_rfl) (by kernel_rfl) (fun _ _ _ h => h) ?_ (by assumption) ?_
          rotate_left
          · (intro o ho w hSw; (simp only [List.getElem?_toArray, List.getElem?_cons_succ, List.getElem?_cons_zero, Option.some.injEq] at ho); subst ho; (try dsimp only at hSw); go_simp; (first | done | with_reducible rfl))
          (try simp only [Act.put, List.setIfInBounds_toArray, List.set_cons_zero, List.set_cons_succ])
          refine hand_ready 8 (by kernel_rfl) (by kernel_rfl) (fun o ho K hK => ?_)
          (simp only [List.getElem?_toArray, List.getElem?_cons_succ, List.getElem?_cons_zero, Option.some.injEq] at ho)
          subst ho
          go_simp
          (go_at_call 41; (with_reducible refine HDV.out.mono ?_); rintro e w6 ⟨rfl, hl⟩; obtain ⟨F6, hj6, hf6, t6⟩ := (HJ3.out.below ((Below.refl _ w3).drew)).dev hl (Nat.le_succ _) (HJ3.out.good.change xs q (rest_fit q c v)); have HD6 := kept (And.intro hj6 (And.intro hf6 t6)); have HS1 := kept (HSK.out w6 t6); have HDC := kept (fun (Ay' : Option Addr) (ny' ky' : Nat) (ym' ys' : Int) (Ks' : List DK) (hy6 : RXs w6 w0.heap.size y (N + 1) Ay' ny' ky' ym' ys' Ks') => xrest_any hy6 (by omega) A n kc xs (fun W' t => HR.out.below (bel_left (HD6.out.1.bel) t (fun j e => by rw [e]; exact HD6.out.1.rx.le))) (by omega) q c v false); clear hl hj6 hf6 t6)
          (try go_wp2_with fail)
          refine hK.out _ _ ?_ (fun hHeld => ?_)
          · ((try dsimp only); (first | with_reducible exact HS0.out | with_reducible exact HS1.out | with_reducible exact HS2.out))
          clear hK K
          (try simp only [Act.put, List.setIfInBounds_toArray, List.set_cons_zero, List.set_cons_succ])
          refine hand_ready 17 (by kernel_rfl) (by kernel_rfl) (fun o ho K hK => ?_)
          (simp only [List.getElem?_toArray, List.getElem?_cons_succ, List.getElem?_cons_zero, Option.some.injEq] at ho)
          subst ho
          go_simp
          (obtain ⟨Ay', ny', ky', ym', ys', Ks', hy6⟩ := HD6.out.1.rx; go_at_call 42; (with_reducible refine (HDC.out _ _ _ _ _ _ hy6).mono ?_); rintro e w7 ⟨er, rfl, Ay7, ny7, ky7, ym7, ys7, Ks7, hy7, t7⟩; have HMID := kept (mid_doc HD6.out.1 (fun j hj => (HD6.out.2.1 j hj).imp id (fun e => Nat.le_trans HBW3.out.size e)) (HTT.out w6 HD6.out.2.2) (HOW.out w6 HD6.out.2.2) (fun j hj e => HNF.out j hj (HD6.out.2.1 j e)) ⟨Ay7, ny7, ky7, ym7, ys7, Ks7, hy7⟩ t7 (KeyIn.ch HJ3.out.good.inv.rise l xs q (fun gs => restC gs q c v) (fun gs => restG gs q c v))); have HS2 := kept (HSK2.out w6 w7 HS1.out t7); clear hy6 hy7 t7)
          (try go_wp2_with fail)
          refine hK.out _ _ ?_ (fun hHeld => ?_)
          · ((try dsimp only); (first | with_reducible exact HS0.out | with_reducible exact HS1.out | with_reducible exact HS2.out))
          clear hK K
          (try simp only [Act.put, List.setIfInBounds_toArray, List.set_cons_zero, List.set_cons_succ])
          refine hand_take 18 (some 9) ?_ (by kernel_rfl) (by kernel_rfl) (by kernel_rfl) (by kernel_rfl) (by kernel_rfl) (fun _ _ _ h => h) ?_ (by assumption) ?_
          rotate_left
          · (intro o ho w hSw; (simp only [List.getElem?_toArray, List.getElem?_cons_succ, List.getElem?_cons_zero, Option.some.injEq] at ho); subst ho; (try dsimp only at hSw); go_simp; (first | done | with_reducible rfl))
          (try simp only [Act.put, List.setIfInBounds_toArray, List.set_cons_zero, List.set_cons_succ])
          refine hand_take 19 (some 10) ?_ (by kernel_rfl) (by kernel_rfl) (by kernel_rfl) (by kernel_rfl) (by kernel_rfl) (fun _ _ _ h => h) ?_ (by assumption) ?_
          rotate_left
          · (intro o ho w hSw; (simp only [List.getElem?_toArray, List.getElem?_cons_succ, List.getElem?_cons_zero, Option.some.injEq] at ho); subst ho; (try dsimp only at hSw); go_simp; (first | done | with_reducible rfl))
          (try simp only [Act.put, List.setIfInBounds_toArray, List.set_cons_zero, List.set_cons_succ])
          refine wpAnyH_done (by kernel_rfl) ?_ _
          clear hHeld
          go_wp2
          go_loopw [122] (fun i wr => ∃ (j : Nat), j ≤ n ∧ i = .int .i64 (j : Int) ∧ Hid (MidX w0 W x F y N P xs B3 n c3 wr)) (fun i _ => n - (intOf i).toNat)
          case atStart => exact ⟨0, Nat.zero_le _, rfl, HMID⟩
          case round =>
            obtain ⟨j, hj, rfl, HI⟩ := hrel
            have hj0 : (0 : Int) ≤ (j : Int) := by omega
            by_cases hjn : j < n
            · obtain ⟨g, z, hB, cz0, fz, hpk⟩ := HI.out.poke hjn HW0.out
              subst hB
              have hjn' : (j : Int) < (n : Int) := by omega
              have hwj : wrap64 ((j : Int) + 1) = (j : Int) + 1 := IntWalk.wrap64_in _ ⟨by omega, by omega⟩
              have HPK := kept hpk
              have HJN := kept hjn
              have cz : wr.cell? ⟨g, j, none⟩ = some (.int .u8 (z.toNat : Int)) := cz0
              have HBY := kept (bits_byte2 z)
              clear hpk hjn cz0
              go_wp2
              go_roundw
              case rel => exact ⟨j + 1, by have := HJN.out; omega, by go_num, by rw [HBY.out]; exact kept (HPK.out _)⟩
              case measure => have := HJN.out; simp [intOf]; omega
            · obtain rfl : j = n := by omega
              have hjn' : ¬ (j : Int) < (j : Int) := by omega
              go_wp2
              go_returns
              exact HI.out.done _
        · have k3' : (k == 3) = false := by simpa using k3
          go_wp2
          clear a0
          have HDV := kept (xrestTP_any (HJ3.out.ix.below ((Below.refl _ w3).drew)) HJ3.out.good.inv (by omega) B3 n c3 xs HRD3.out (by omega) q 0 0)
          refine wp_region_held_drew (S := (fun W' : World => (W'.cell? ⟨W.heap.size + 1, 0, none⟩ = some (.int .i64 q.1) ∧ W'.cell? ⟨W.heap.size + 1, 1, none⟩ = some (.int .i64 q.2)) ∧ W'.cell? ⟨W.heap.size, 1, none⟩ = some (.slice A n kc) ∧ W'.cell? ⟨W.heap.size, 5, none⟩ = some (.int .i64 c) ∧ W'.cell? ⟨W.heap.size, 6, none⟩ = some (.int .i64 v))) (by kernel_rfl) ?_ (fun hHeld => ?_)
          · ((try dsimp only); (first | with_reducible exact HS0.out | with_reducible exact HS1.out | with_reducible exact HS2.out))
          refine hand_take 0 (some 45) ?_ (by kernel_rfl) (by kernel_rfl) (by kernel_rfl) (by kernel_rfl) (by kernel_rfl) (fun _ _ _ h => h) ?_ (by assumption) ?_
          rotate_left
          · (intro o ho w hSw; (simp only [List.getElem?_toArray, List.getElem?_cons_succ, List.getElem?_cons_zero, Option.some.injEq] at ho); subst ho; (try dsimp only at hSw); go_simp; (first | done | with_reducible rfl))
          (try simp only [Act.put, List.setIfInBounds_toArray, List.set_cons_zero, List.set_cons_succ])
          refine hand_take 1 (some 46) ?_ (by kernel_rfl) (by kernel_rfl) (by kernel_rfl) (by kernel_rfl) (by kernel_rfl) (fun _ _ _ h => h) ?_ (by assumption) ?_
          rotate_left
          · (intro o ho w hSw; (simp only [List.getElem?_toArray, List.getElem?_cons_succ, List.getElem?_cons_zero, Option.some.injEq] at ho); subst ho; (try dsimp only at hSw); go_simp; (first | done | with_reducible rfl))
          (try simp only [Act.put, List.setIfInBounds_toArray, List.set_cons_zero, List.set_cons_succ])
          refine hand_take 2 (some 47) ?_ (by kernel_rfl) (by kernel_rfl) (by kernel_rfl) (by kernel_rfl) (by kernel_rfl) (fun _ _ _ h => h) ?_ (by assumption) ?_
          rotate_left
          · (intro o ho w hSw; (simp only [List.getElem?_toArray, List.getElem?_cons_succ, List.getElem?_cons_zero, Option.some.injEq] at ho); subst ho; (try dsimp only at hSw); go_simp; (first | done | with_reducible rfl))
          (try simp only [Act.put, List.setIfInBounds_toArray, List.set_cons_zero, List.set_cons_succ])
          refine hand_take 3 (some 48) ?_ (by kernel_rfl) (by kernel_rfl) (by kernel_rfl) (by kernel_rfl) (by kernel_rfl) (fun _ _ _ h => h) ?_ (by assumption) ?_
          rotate_left
          · (intro o ho w hSw; (simp only [List.getElem?_toArray, List.getElem?_cons_succ, List.getElem?_cons_zero, Option.some.injEq] at ho); subst ho; (try dsimp only at hSw); go_simp; (first | done | with_reducible rfl))
          (try simp only [Act.put, List.setIfInBounds_toArray, List.set_cons_zero, List.set_cons_succ])
          refine hand_take 5 (some 50) ?_ (by kernel_rfl) (by kernel_rfl) (by kernel_rfl) (by kernel_rfl) (by kernel_rfl) (fun _ _ _ h => h) ?_ (by assumption) ?_
          rotate_left
          · (intro o ho w hSw; (simp only [List.getElem?_toArray, List.getElem?_cons_succ, List.getElem?_cons_zero, Option.some.injEq] at ho); subst ho; (try dsimp only at hSw); go_simp; (first | done | with_reducible rfl))
          (try simp only [Act.put, List.setIfInBounds_toArray, List.set_cons_zero, List.set_cons_succ])
          refine hand_take 6 (some 51) ?_ (by kernel_rfl) (by kernel_rfl) (by kernel_rfl) (by kernel_rfl) (by kernel_rfl) (fun _ _ _ h => h) ?_ (by assumption) ?_
          rotate_left
          · (intro o ho w hSw; (simp only [List.getElem?_toArray, List.getElem?_cons_succ, List.getElem?_cons_zero, Option.some.injEq] at ho); subst ho; (try dsimp only at hSw); go_simp; (first | done | with_reducible rfl))
          (try simp only [Act.put, List.setIfInBounds_toArray, List.set_cons_zero, List.set_cons_succ])
          refine hand_take 7 (some 52) ?_ (by kernel_rfl) (by kernel_rfl) (by kernel_rfl) (by kernel_rfl) (by kernel_rfl) (fun _ _ _ h => h) ?_ (by assumption) ?_
          rotate_left
          · (intro o ho w hSw; (simp only [List.getElem?_toArray, List.getElem?_cons_succ, List.getElem?_cons_zero, Option.some.injEq] at ho); subst ho; (try dsimp only at hSw); go_simp; (first | done | with_reducible rfl))
          (try simp only [Act.put, List.setIfInBounds_toArray, List.set_cons_zero, List.set_cons_succ])
          refine hand_take 8 (some 53) ?_ (by kernel_rfl) (by kernel_rfl) (by kernel_rfl) (by kernel_rfl) (by kernel_rfl) (fun _ _ _ h => h) ?_ (by assumption) ?_
          rotate_left
          · (intro o ho w hSw; (simp only [List.getElem?_toArray, List.getElem?_cons_succ, List.getElem?_cons_zero, Option.some.injEq] at ho); subst ho; (try dsimp only at hSw); go_simp; (first | done | with_reducible rfl))
          (try simp only [Act.put, List.setIfInBounds_toArray, List.set_cons_zero, List.set_cons_succ])
          refine hand_ready 4 (by kernel_rfl) (by kernel_rfl) (fun o ho K hK => ?_)
          (simp only [List.getElem?_toArray, List.getElem?_cons_succ, List.getElem?_cons_zero, Option.some.injEq] at ho)
          subst ho
          go_simp
          (go_at_call 41; (with_reducible refine HDV.out.mono ?_); rintro e w6 ⟨rfl, hl⟩; obtain ⟨F6, hj6, hf6, t6⟩ := (HJ3.out.below ((Below.refl _ w3).drew)).dev hl (Nat.le_succ _) (HJ3.out.good.change xs q (tomb_fit q)); have HD6 := kept (And.intro hj6 (And.intro hf6 t6)); have HS1 := kept (HSK.out w6 t6); have HDC := kept (fun (Ay' : Option Addr) (ny' ky' : Nat) (ym' ys' : Int) (Ks' : List DK) (hy6 : RXs w6 w0.heap.size y (N + 1) Ay' ny' ky' ym' ys' Ks') => xrest_any hy6 (by omega) A n kc xs (fun W' t => HR.out.below (bel_left (HD6.out.1.bel) t (fun j e => by rw [e]; exact HD6.out.1.rx.le))) (by omega) q 0 0 true); clear hl hj6 hf6 t6)
          (try go_wp2_with fail)
          refine hK.out _ _ ?_ (fun hHeld => ?_)
          · ((try dsimp only); (first | with_reducible exact HS0.out | with_reducible exact HS1.out | with_reducible exact HS2.out))
          clear hK K
          (try simp only [Act.put, List.setIfInBounds_toArray, List.set_cons_zero, List.set_cons_succ])
          refine hand_ready 9 (by kernel_rfl) (by kernel_rfl) (fun o ho K hK => ?_)
          (simp only [List.getElem?_toArray, List.getElem?_cons_succ, List.getElem?_cons_zero, Option.some.injEq] at ho)
          subst ho
          go_simp
          (obtain ⟨Ay', ny', ky', ym', ys', Ks', hy6⟩ := HD6.out.1.rx; go_at_call 42; (with_reducible refine (HDC.out _ _ _ _ _ _ hy6).mono ?_); rintro e w7 ⟨er, rfl, Ay7, ny7, ky7, ym7, ys7, Ks7, hy7, t7⟩; have HMID := kept (mid_doc HD6.out.1 (fun j hj => (HD6.out.2.1 j hj).imp id (fun e => Nat.le_trans HBW3.out.size e)) (HTT.out w6 HD6.out.2.2) (HOW.out w6 HD6.out.2.2) (fun j hj e => HNF.out j hj (HD6.out.2.1 j e)) ⟨Ay7, ny7, ky7, ym7, ys7, Ks7, hy7⟩ t7 (KeyIn.ch HJ3.out.good.inv.rise l xs q (fun gs => tombC gs q) (fun gs => tombG gs q))); have HS2 := kept (HSK2.out w6 w7 HS1.out t7); clear hy6 hy7 t7)
          (try go_wp2_with fail)
          refine hK.out _ _ ?_ (fun hHeld => ?_)
          · ((try dsimp only); (first | with_reducible exact HS0.out | with_reducible exact HS1.out | with_reducible exact HS2.out))
          clear hK K
          (try simp only [Act.put, List.setIfInBounds_toArray, List.set_cons_zero, List.set_cons_succ])
          refine hand_take 10 (some 9) ?_ (by kernel_rfl) (by kernel_rfl) (by kernel_rfl) (by kernel_rfl) (by kernel_rfl) (fun _ _ _ h => h) ?_ (by assumption) ?_
          rotate_left
          · (intro o ho w hSw; (simp only [List.getElem?_toArray, List.getElem?_cons_succ, List.getElem?_cons_zero, Option.some.injEq] at ho); subst ho; (try dsimp only at hSw); go_simp; (first | done | with_reducible rfl))
          (try simp only [Act.put, List.setIfInBounds_toArray, List.set_cons_zero, List.set_cons_succ])
          refine hand_take 11 (some 10) ?_ (by kernel_rfl) (by kernel_rfl) (by kernel_rfl) (by kernel_rfl) (by kernel_rfl) (fun _ _ _ h => h) ?_ (by assumption) ?_
          rotate_left
          · (intro o ho w hSw; (simp only [List.getElem?_toArray, List.getElem?_cons_succ, List.getElem?_cons_zero, Option.some.injEq] at ho); subst ho; (try dsimp only at hSw); go_simp; (first | done | with_reducible rfl))
          (try simp only [Act.put, List.setIfInBounds_toArray, List.set_cons_zero, List.set_cons_succ])
          refine wpAnyH_done (by kernel_rfl) ?_ _
          clear hHeld
          go_wp2
          go_loopw [122] (fun i wr => ∃ (j : Nat), j ≤ n ∧ i = .int .i64 (j : Int) ∧ Hid (MidX w0 W x F y N P xs B3 n c3 wr)) (fun i _ => n - (intOf i).toNat)
          case atStart => exact ⟨0, Nat.zero_le _, rfl, HMID⟩
          case round =>
            obtain ⟨j, hj, rfl, HI⟩ := hrel
            have hj0 : (0 : Int) ≤ (j : Int) := by omega
            by_cases hjn : j < n
            · obtain ⟨g, z, hB, cz0, fz, hpk⟩ := HI.out.poke hjn HW0.out
              subst hB
              have hjn' : (j : Int) < (n : Int) := by omega
              have hwj : wrap64 ((j : Int) + 1) = (j : Int) + 1 := IntWalk.wrap64_in _ ⟨by omega, by omega⟩
              have HPK := kept hpk
              have HJN := kept hjn
              have cz : wr.cell? ⟨g, j, none⟩ = some (.int .u8 (z.toNat : Int)) := cz0
              have HBY := kept (bits_byte2 z)
              clear hpk hjn cz0
              go_wp2
              go_roundw
              case rel => exact ⟨j + 1, by have := HJN.out; omega, by go_num, by rw [HBY.out]; exact kept (HPK.out _)⟩
              case measure => have := HJN.out; simp [intOf]; omega
            · obtain rfl : j = n := by omega
              have hjn' : ¬ (j : Int) < (j : Int) := by omega
              go_wp2
              go_returns
              exact HI.out.done _
end Go.Proofs.YtlckeebbjnhejaaGreat
end
