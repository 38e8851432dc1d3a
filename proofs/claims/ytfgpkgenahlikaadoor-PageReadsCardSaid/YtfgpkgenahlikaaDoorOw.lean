/-
  Slices of structs of the call's own, whose fields may be slices themselves: what they read as, and append onto them. No program is named.
-/
import Derived.Test.YtfgpkgenahlikaaDoorPg
import Derived.Maps.AppendAt
namespace Go.Proofs.YtfgpkgenahlikaaDoor
open Go.ChangeShapes Go.WideShapes Go.ChangeAt Go.RowKit
set_option linter.unusedVariables false

/-- How an element lies (L), and what it reads as (x). -/
structure Sort' (Λ α : Type) where
  size : Nat
  cells : Λ → List Value
  R : World → Λ → α → Prop
  apart : Λ → Nat → Prop
  pos : 0 < size
  len : ∀ L, (cells L).length = size
  one : ∀ L u, u ∈ cells L → u.oneCell' = true
  fresh : ∀ {w L x g}, R w L x → w.heap.size ≤ g → apart L g
  keep : ∀ {w w' : World} {g L x}, R w L x → apart L g → w.grownBy w' (some g) → R w' L x
section
variable {Λ α : Type} {K : Sort' Λ α} {w w' : World} {base : Nat} {e : TypeId} {F : Nat → Prop} {A : Option Addr} {n c : Nat} {I : List α}
theorem Sort'.below {L : Λ} {x : α} (h : K.R w L x) (hb : Below w.heap.size w w') : K.R w' L x :=
  K.keep h (K.fresh h (Nat.le_refl _)) ⟨hb.os, hb.tape, hb.output, hb.size, fun k hk _ => hb.block k hk⟩
/-- The slice at A is the call's own and reads as I; no element's own memory lies in it, nor in a block of F. -/
def Ow (K : Sort' Λ α) (w : World) (base : Nat) (e : TypeId) (F : Nat → Prop) (A : Option Addr) (n c : Nat) (I : List α) : Prop :=
  ∃ Ls : List Λ, Ls.length = n ∧ I.length = n ∧ w.ownsRow base e K.size (.slice A n c) n (Ls.flatMap K.cells) ∧ (∀ k (h1 : k < Ls.length) (h2 : k < I.length), K.R w Ls[k] I[k]) ∧
    (∀ g, (Value.slice A n c).ownBlock = some g → (∀ L ∈ Ls, K.apart L g) ∧ ¬ F g) ∧ (∀ g, F g → ∀ L ∈ Ls, K.apart L g)
theorem Ow.nil_ (w : World) : Ow K w base e F none 0 0 [] := ⟨[], rfl, rfl, World.ownsRow_nil _ _ _ _, fun k h => absurd h (by simp), fun g h => by simp [Value.ownBlock] at h, fun g _ L h => absurd h (by simp)⟩
theorem Ow.len_ (h : Ow K w base e F A n c I) : I.length = n := h.choose_spec.2.1
theorem Ow.lt (h : Ow K w base e F A n c I) {g : Nat} (hg : (Value.slice A n c).ownBlock = some g) : base ≤ g ∧ g < w.heap.size := by
  obtain ⟨Ls, _, _, ho, _⟩ := h
  exact ho.lt g hg
theorem flat_at (K : Sort' Λ α) : ∀ (Ls : List Λ) (k j : Nat) (hk : k < Ls.length), j < K.size → (Ls.flatMap K.cells)[k * K.size + j]? = (K.cells Ls[k])[j]?
  | L :: r, 0, j, _, hj => by
    rw [List.flatMap_cons, Nat.zero_mul, Nat.zero_add, List.getElem?_append_left (by rw [K.len]; exact hj)]
    rfl
  | L :: r, k + 1, j, hk, hj => by
    rw [List.flatMap_cons, List.getElem?_append_right (by rw [K.len, Nat.succ_mul]; omega), K.len]
    have e : (k + 1) * K.size + j - K.size = k * K.size + j := by rw [Nat.succ_mul]; omega
    rw [e]
    exact flat_at K r k j (by simpa using hk) hj
/-- Element k: its cells, and what it reads as. -/
theorem Ow.at_ (h : Ow K w base e F A n c I) {k : Nat} (hk : k < n) : ∃ g L, A = some ⟨g, 0, none⟩ ∧ base ≤ g ∧ g < w.heap.size ∧ K.R w L (I[k]'(by rw [h.len_]; exact hk)) ∧ ∀ j u, (K.cells L)[j]? = some u → w.cell? ⟨g, k * K.size + j, none⟩ = some u := by
  have hl := h.len_
  obtain ⟨Ls, h1, h2, ho, hr, _⟩ := h
  rcases ho.2 with ⟨_, h0⟩ | ⟨g, cap, cur, hv, hbg, hb, hr1, hr2, hr3, hr4⟩
  · omega
  · injection hv with hA _ _
    subst hA
    refine ⟨g, Ls[k]'(by omega), rfl, hbg, (Array.getElem?_eq_some_iff.1 hb).1, hr k (by omega) (by omega), fun j u hu => ?_⟩
    have hj : j < K.size := by have := (List.getElem?_eq_some_iff.1 hu).1; rwa [K.len] at this
    have := ho.cells (g := g) rfl (k * K.size + j) u (by rw [flat_at K Ls k j (by omega) hj]; exact hu)
    rw [add_at, Nat.zero_add] at this
    exact this
theorem Ow.turn {r : Nat} (h : Ow K w base e F A n c I) (hg : w.grownBy w' (some r)) (hr : F r ∨ w.heap.size ≤ r) : Ow K w' base e F A n c I := by
  have hlt := fun g => h.lt (g := g)
  obtain ⟨Ls, h1, h2, ho, hrd, hap, hF⟩ := h
  refine ⟨Ls, h1, h2, ?_, fun k k1 k2 => ?_, hap, hF⟩
  · have hne : (Value.slice A n c).ownBlock = none ∨ (Value.slice A n c).ownBlock ≠ some r := by
      cases hv : (Value.slice A n c).ownBlock with
      | none => exact .inl rfl
      | some g =>
        refine .inr fun e => ?_
        obtain rfl := Option.some.inj e
        rcases hr with hr | hr
        · exact (hap _ hv).2 hr
        · have := (hlt _ hv).2; omega
    exact ho.kept (row := some r) hg hne
  · refine K.keep (hrd k k1 k2) ?_ hg
    rcases hr with hr | hr
    · exact hF r hr _ (List.getElem_mem k1)
    · exact K.fresh (hrd k k1 k2) hr
theorem Ow.below (h : Ow K w base e F A n c I) (hb : Below w.heap.size w w') : Ow K w' base e F A n c I :=
  h.turn (r := w.heap.size) ⟨hb.os, hb.tape, hb.output, hb.size, fun k hk _ => hb.block k hk⟩ (.inr (Nat.le_refl _))
theorem Ow.mono {F' : Nat → Prop} (h : Ow K w base e F A n c I) (hF : ∀ r, F' r → F r) : Ow K w base e F' A n c I := by
  obtain ⟨Ls, h1, h2, ho, hrd, hap, hFF⟩ := h
  exact ⟨Ls, h1, h2, ho, hrd, fun g hg => ⟨(hap g hg).1, fun h => (hap g hg).2 (hF g h)⟩, fun g hg => hFF g (hF g hg)⟩
theorem Ow.drew (h : Ow K w base e F A n c I) : Ow K w.drew base e F A n c I := h.below ((Below.refl _ _).drew)
/-- append(v, y) where y lies at ad. -/
theorem wp_append_ow {P : Program} {o : Oper} {a : Act} {Kk : Act → World → Prop} {Q : Exit → Act → World → Prop} (s x : Operand) (t : TypeId) (ho : o.op = .call { callee := .builtin .append, args := #[s, x], argTypes := #[t, t] })
    (ht : P.underlying t = some (.slice e)) {z : Value} {bytes : Nat} (hinfo : (P.info? e).map (fun i => (i.zero, i.size, i.bytes)) = some (some z, K.size, bytes)) (hzs : z.cells.size = K.size)
    (hs : a.eval s = .slice A n c) (hown : Ow K w base e F A n c I) (ad : Addr) (k : Nat) (L : Λ) (y : α) (hx : a.eval x = .slice (some ad) 1 k) (hnews : ∀ j u, (K.cells L)[j]? = some u → w.cell? (ad.add j) = some u)
    (hy : K.R w L y) (hya : ∀ g, (Value.slice A n c).ownBlock = some g → K.apart L g) (hyF : ∀ g, F g → K.apart L g) (hFlt : ∀ g, F g → g < w.heap.size)
    (h63 : n + 1 ≤ maxLen) (hbytes : (n + 1) * bytes ≤ 140737488355328) (hbase : base ≤ w.heap.size)
    (h : ∀ A' c' w', Ow K w' base e F A' (n + 1) c' (I ++ [y]) → Below base w w' → (∀ g, g < w.heap.size → (Value.slice A n c).ownBlock ≠ some g → w'.heap[g]? = w.heap[g]?) → Kk (a.put o.dst (.slice A' (n + 1) c')) w') : o.wp P a w Kk Q := by
  have hlt := fun g => hown.lt (g := g)
  obtain ⟨Ls, h1, h2, hor, hrd, hap, hF⟩ := hown
  obtain ⟨i, hi, hz, hsize, hby⟩ := info_parts hinfo
  obtain ⟨v', w', hrun, hr2, hg, _, hloc⟩ := run_append_own_at (P := P) w base t o.type e i z K.size bytes ht hi hz hsize hby hzs K.pos _ n _ hor ad 1 k (K.cells L) (by rw [K.len, Nat.one_mul]) hnews (K.one L) h63 hbytes hbase
  obtain ⟨A', c', rfl⟩ : ∃ A' c', v' = .slice A' (n + 1) c' := by
    rcases hr2.2 with ⟨_, h0⟩ | ⟨g, cap, cur, hv, _⟩
    · omega
    · exact ⟨_, _, hv⟩
  have hgg : ∀ g, (Value.slice A n c).ownBlock = some g → w.grownBy w' (some g) := fun g e => by rw [← e]; exact hg
  have hkeep : ∀ {M : Λ} {u : α}, K.R w M u → (∀ g, (Value.slice A n c).ownBlock = some g → K.apart M g) → K.R w' M u := fun {M u} hM hMa => by
    cases hv : (Value.slice A n c).ownBlock with
    | none => exact K.keep hM (K.fresh hM (Nat.le_refl _)) ⟨hg.os, hg.tape, hg.output, hg.size, fun k hk _ => hg.block k hk (by rw [hv]; exact fun e => by cases e)⟩
    | some g => exact K.keep hM (hMa g hv) (hgg g hv)
  unfold Oper.wp execOp
  simp only [ho, resolve, invoke, builtin, Sem.run_bind, Sem.run_pure, Result.andThen_ok, List.map_toArray, List.map_cons, List.map_nil, hs, hx, hrun]
  refine h A' c' w' ⟨Ls ++ [L], by simp [h1], by simp [h2], ?_, fun j k1 k2 => ?_, fun g hgv => ?_, fun g hgF M hM => ?_⟩ ?_ ?_
  · rw [List.flatMap_append, List.flatMap_singleton]
    exact hr2
  · by_cases hj : j < n
    · rw [List.getElem_append_left (by omega), List.getElem_append_left (by omega)]
      exact hkeep (hrd j (by omega) (by omega)) (fun g hv => (hap g hv).1 _ (List.getElem_mem _))
    · have hjn : j = n := by simp [h1] at k1; omega
      subst hjn
      rw [List.getElem_append_right (by omega), List.getElem_append_right (by omega)]
      simp only [h1, h2, Nat.sub_self, List.getElem_cons_zero]
      exact hkeep hy hya
  · rcases hloc with e | e
    · rw [e] at hgv
      refine ⟨fun M hM => ?_, (hap g hgv).2⟩
      rcases List.mem_append.1 hM with hM | hM
      · exact (hap g hgv).1 M hM
      · obtain rfl := List.mem_singleton.1 hM
        exact hya g hgv
    · rw [e] at hgv
      obtain rfl := Option.some.inj hgv
      refine ⟨fun M hM => ?_, fun hf => by have := hFlt _ hf; omega⟩
      rcases List.mem_append.1 hM with hM | hM
      · obtain ⟨q, hq, rfl⟩ := List.getElem_of_mem hM
        exact K.fresh (hrd q hq (by omega)) (Nat.le_refl _)
      · obtain rfl := List.mem_singleton.1 hM
        exact K.fresh hy (Nat.le_refl _)
  · rcases List.mem_append.1 hM with hM | hM
    · exact hF g hgF M hM
    · obtain rfl := List.mem_singleton.1 hM
      exact hyF g hgF
  · exact (Below.refl base w).grown hg hbase (fun g hv => (hlt g hv).1)
  · exact fun g hg1 hg2 => hg.block g hg1 (fun e => hg2 e.symm)
theorem wpList_append_ow {P : Program} {ops : Array Oper} {rest : List Oper} {o : Oper} {a : Act} {Q : Exit → Act → World → Prop} (hgd : o.guard = none) (s x : Operand) (t : TypeId) (ho : o.op = .call { callee := .builtin .append, args := #[s, x], argTypes := #[t, t] })
    (ht : P.underlying t = some (.slice e)) {z : Value} {bytes : Nat} (hinfo : (P.info? e).map (fun i => (i.zero, i.size, i.bytes)) = some (some z, K.size, bytes)) (hzs : z.cells.size = K.size)
    (hs : a.eval s = .slice A n c) (hown : Ow K w base e F A n c I) (ad : Addr) (k : Nat) (L : Λ) (y : α) (hx : a.eval x = .slice (some ad) 1 k) (hnews : ∀ j u, (K.cells L)[j]? = some u → w.cell? (ad.add j) = some u)
    (hy : K.R w L y) (hya : ∀ g, (Value.slice A n c).ownBlock = some g → K.apart L g) (hyF : ∀ g, F g → K.apart L g) (hFlt : ∀ g, F g → g < w.heap.size)
    (h63 : n + 1 ≤ maxLen) (hbytes : (n + 1) * bytes ≤ 140737488355328) (hbase : base ≤ w.heap.size)
    (h : ∀ A' c' w', Ow K w' base e F A' (n + 1) c' (I ++ [y]) → Below base w w' → (∀ g, g < w.heap.size → (Value.slice A n c).ownBlock ≠ some g → w'.heap[g]? = w.heap[g]?) → wpList P ops Q rest (a.put o.dst (.slice A' (n + 1) c')) w') : wpList P ops Q (o :: rest) a w :=
  wpList_plain hgd fun _ hK => wp_append_ow s x t ho ht hinfo hzs hs hown ad k L y hx hnews hy hya hyF hFlt h63 hbytes hbase fun A' c' w' a1 a2 a3 => hK _ _ (h A' c' w' a1 a2 a3)
end

/-! ### items, kids, numbers -/
/-- The bytes of a slice of bytes lie apart from block g. -/
def apartA (A : Option Addr) (n g : Nat) : Prop := ∀ a, A = some a → 0 < n → a.block ≠ g
theorem Rd.fresh {w : World} {A : Option Addr} {n g : Nat} {xs : List UInt8} (h : Rd w A n xs) (hg : w.heap.size ≤ g) : apartA A n g := fun a e h0 => by
  obtain ⟨b, e', hb⟩ := h.lt h0
  rw [e] at e'
  obtain rfl := Option.some.inj e'
  omega
theorem Rd.grown {w w' : World} {A : Option Addr} {n g : Nat} {xs : List UInt8} (h : Rd w A n xs) (ha : apartA A n g) (hg : w.grownBy w' (some g)) : Rd w' A n xs := by
  refine ⟨h.1, fun h0 => ?_⟩
  obtain ⟨a, e, hc⟩ := h.2 h0
  refine ⟨a, e, fun j hj => ?_⟩
  have hb : (a.add j).block < w.heap.size := World.block_lt_of_cell? w _ (hc j hj)
  rw [World.cell?_of_block (w := w) (hg.block _ hb (fun e' => ha a e h0 (by rw [add_block] at e'; exact (Option.some.inj e'))))]
  exact hc j hj
def kItem : Sort' LayI Itm where
  size := 4
  cells L := [.slice L.ka L.kn L.kc, .slice L.va L.vn L.vc, .int .i64 L.size, .int .i64 L.more]
  R := RdIt
  apart L g := apartA L.ka L.kn g ∧ apartA L.va L.vn g
  pos := by decide
  len _ := rfl
  one L u h := by
    simp only [List.mem_cons, List.not_mem_nil, or_false] at h
    rcases h with rfl | rfl | rfl | rfl <;> rfl
  fresh h hg := ⟨h.1.fresh hg, h.2.1.fresh hg⟩
  keep h ha hg := ⟨h.1.grown ha.1 hg, h.2.1.grown ha.2 hg, h.2.2⟩
def kKid : Sort' LayK Kd where
  size := 2
  cells L := [.slice L.ka L.kn L.kc, .int .i64 L.page]
  R := RdKd
  apart L g := apartA L.ka L.kn g
  pos := by decide
  len _ := rfl
  one L u h := by
    simp only [List.mem_cons, List.not_mem_nil, or_false] at h
    rcases h with rfl | rfl <;> rfl
  fresh h hg := h.1.fresh hg
  keep h ha hg := ⟨h.1.grown ha hg, h.2⟩
def kNum : Sort' Int Int where
  size := 1
  cells x := [.int .i64 x]
  R _ L x := x = L
  apart _ _ := True
  pos := by decide
  len _ := rfl
  one L u h := by
    simp only [List.mem_cons, List.not_mem_nil, or_false] at h
    rcases h with rfl; rfl
  fresh _ _ := trivial
  keep h _ _ := h
section
variable {w : World} {base : Nat} {e : TypeId} {F : Nat → Prop} {A : Option Addr} {n c : Nat}
theorem Ow.items {I : List Itm} (h : Ow kItem w base e F A n c I) : RdItems w A n I := by
  refine ⟨h.len_, fun h0 => ?_, fun b o ea k hk => ?_⟩
  · obtain ⟨g, L, rfl, _⟩ := h.at_ h0
    exact ⟨_, _, rfl⟩
  · obtain ⟨g, L, rfl, _, _, hr, hc⟩ := h.at_ (k := k) (by rw [← h.len_]; exact hk)
    simp only [Option.some.injEq, Addr.mk.injEq, and_true] at ea
    obtain ⟨rfl, rfl⟩ := ea
    exact ⟨L, hr, by rw [Nat.zero_add]; exact hc 0 _ rfl, by rw [Nat.zero_add]; exact hc 1 _ rfl, by rw [Nat.zero_add]; exact hc 2 _ rfl, by rw [Nat.zero_add]; exact hc 3 _ rfl⟩
theorem Ow.kids {I : List Kd} (h : Ow kKid w base e F A n c I) : RdKids w A n I := by
  refine ⟨h.len_, fun h0 => ?_, fun b o ea k hk => ?_⟩
  · obtain ⟨g, L, rfl, _⟩ := h.at_ h0
    exact ⟨_, _, rfl⟩
  · obtain ⟨g, L, rfl, _, _, hr, hc⟩ := h.at_ (k := k) (by rw [← h.len_]; exact hk)
    simp only [Option.some.injEq, Addr.mk.injEq, and_true] at ea
    obtain ⟨rfl, rfl⟩ := ea
    exact ⟨L, hr, by rw [Nat.zero_add]; exact hc 0 _ rfl, by rw [Nat.zero_add]; exact hc 1 _ rfl⟩
theorem Ow.nums {I : List Int} (h : Ow kNum w base e F A n c I) : RdNums w A n I := by
  refine ⟨h.len_, fun h0 => ?_, fun b o ea k hk => ?_⟩
  · obtain ⟨g, L, rfl, _⟩ := h.at_ h0
    exact ⟨_, _, rfl⟩
  · obtain ⟨g, L, rfl, _, _, hr, hc⟩ := h.at_ (k := k) (by rw [← h.len_]; exact hk)
    simp only [Option.some.injEq, Addr.mk.injEq, and_true] at ea
    obtain ⟨rfl, rfl⟩ := ea
    have := hc 0 _ rfl
    have hr : I[k] = L := hr
    rw [hr, Nat.zero_add]
    simpa [kNum] using this
end
end Go.Proofs.YtfgpkgenahlikaaDoor
