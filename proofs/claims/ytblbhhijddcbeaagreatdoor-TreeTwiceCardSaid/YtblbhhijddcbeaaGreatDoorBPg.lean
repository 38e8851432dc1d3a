/- Pg Ow Pr -/
import Derived.Test.YtblbhhijddcbeaaGreatDoorBSeal
import Derived.Test.YtblbhhijddcbeaaGreatDoorBCmp
import Derived.Maps.AppendAt
section
namespace Go.Proofs.YtblbhhijddcbeaaGreatDoor
open Go.ChangeShapes Go.WideShapes Go.ChangeAt Go.RowKit
set_option linter.unusedVariables false
set_option linter.unusedSimpArgs false
set_option maxRecDepth 100000
set_option maxHeartbeats 16000000
structure Itm where
 key : List UInt8
 val : List UInt8
 size : Int
 more : Int
 deriving DecidableEq
structure Kd where
 key : List UInt8
 page : Int
 deriving DecidableEq
structure Pg where
 kind : Int
 txn : Int
 next : Int
 items : List Itm
 kids : List Kd
 data : List UInt8
 ids : List Int
 deriving DecidableEq
structure LayI where
 ka : Option Addr
 kn : Nat
 kc : Nat
 va : Option Addr
 vn : Nat
 vc : Nat
 size : Int
 more : Int
abbrev LayI.val (L : LayI) : Value := .agg #[.slice L.ka L.kn L.kc, .slice L.va L.vn L.vc, .int .i64 L.size, .int .i64 L.more]
structure LayK where
 ka : Option Addr
 kn : Nat
 kc : Nat
 page : Int
abbrev LayK.val (L : LayK) : Value := .agg #[.slice L.ka L.kn L.kc, .int .i64 L.page]
def RdIt (w : World) (L : LayI) (x : Itm) : Prop := Rd w L.ka L.kn x.key ∧ Rd w L.va L.vn x.val ∧ x.size = L.size ∧ x.more = L.more ∧ L.kn ≤ 140737488355328 ∧ L.vn ≤ 140737488355328
def RdKd (w : World) (L : LayK) (x : Kd) : Prop := Rd w L.ka L.kn x.key ∧ x.page = L.page ∧ L.kn ≤ 140737488355328
theorem RdIt.below {w w' : World} {L : LayI} {x : Itm} (h : RdIt w L x) (hb : Below w.heap.size w w') : RdIt w' L x := ⟨h.1.below hb, h.2.1.below hb, h.2.2⟩
theorem RdKd.below {w w' : World} {L : LayK} {x : Kd} (h : RdKd w L x) (hb : Below w.heap.size w w') : RdKd w' L x := ⟨h.1.below hb, h.2⟩
theorem add_at (b o j : Nat) : (⟨b, o, none⟩ : Addr).add j = ⟨b, o + j, none⟩ := by unfold Addr.add; split <;> simp_all
def RdItems (w : World) (A : Option Addr) (n : Nat) (I : List Itm) : Prop :=
 I.length = n ∧ (0 < n → ∃ b o, A = some ⟨b, o, none⟩) ∧ ∀ b o, A = some ⟨b, o, none⟩ → ∀ k (h : k < I.length), ∃ L : LayI, RdIt w L I[k] ∧
  w.cell? ⟨b, o + k * 4, none⟩ = some (.slice L.ka L.kn L.kc) ∧ w.cell? ⟨b, o + k * 4 + 1, none⟩ = some (.slice L.va L.vn L.vc) ∧ w.cell? ⟨b, o + k * 4 + 2, none⟩ = some (.int .i64 L.size) ∧ w.cell? ⟨b, o + k * 4 + 3, none⟩ = some (.int .i64 L.more)
def RdKids (w : World) (A : Option Addr) (n : Nat) (I : List Kd) : Prop :=
 I.length = n ∧ (0 < n → ∃ b o, A = some ⟨b, o, none⟩) ∧ ∀ b o, A = some ⟨b, o, none⟩ → ∀ k (h : k < I.length), ∃ L : LayK, RdKd w L I[k] ∧
  w.cell? ⟨b, o + k * 2, none⟩ = some (.slice L.ka L.kn L.kc) ∧ w.cell? ⟨b, o + k * 2 + 1, none⟩ = some (.int .i64 L.page)
def RdNums (w : World) (A : Option Addr) (n : Nat) (I : List Int) : Prop :=
 I.length = n ∧ (0 < n → ∃ b o, A = some ⟨b, o, none⟩) ∧ ∀ b o, A = some ⟨b, o, none⟩ → ∀ k (h : k < I.length), w.cell? ⟨b, o + k, none⟩ = some (.int .i64 I[k])
section
variable {w w' : World} {A : Option Addr} {n : Nat}
theorem RdItems.nil_ (w : World) (A : Option Addr) : RdItems w A 0 [] := ⟨rfl, fun h => absurd h (by omega), fun _ _ _ k h => absurd h (by simp)⟩
theorem RdKids.nil_ (w : World) (A : Option Addr) : RdKids w A 0 [] := ⟨rfl, fun h => absurd h (by omega), fun _ _ _ k h => absurd h (by simp)⟩
theorem RdNums.nil_ (w : World) (A : Option Addr) : RdNums w A 0 [] := ⟨rfl, fun h => absurd h (by omega), fun _ _ _ k h => absurd h (by simp)⟩
theorem cell_below (hb : Below w.heap.size w w') {p : Addr} {v : Value} (h : w.cell? p = some v) : w'.cell? p = some v := (hb.cell (World.block_lt_of_cell? w _ h)).trans h
theorem RdItems.below {I : List Itm} (h : RdItems w A n I) (hb : Below w.heap.size w w') : RdItems w' A n I := ⟨h.1, h.2.1, fun b o e k hk => by
 obtain ⟨L, hr, h0, h1, h2, h3⟩ := h.2.2 b o e k hk; exact ⟨L, hr.below hb, cell_below hb h0, cell_below hb h1, cell_below hb h2, cell_below hb h3⟩⟩
theorem RdKids.below {I : List Kd} (h : RdKids w A n I) (hb : Below w.heap.size w w') : RdKids w' A n I := ⟨h.1, h.2.1, fun b o e k hk => by
 obtain ⟨L, hr, h0, h1⟩ := h.2.2 b o e k hk; exact ⟨L, hr.below hb, cell_below hb h0, cell_below hb h1⟩⟩
theorem RdNums.below {I : List Int} (h : RdNums w A n I) (hb : Below w.heap.size w w') : RdNums w' A n I := ⟨h.1, h.2.1, fun b o e k hk => cell_below hb (h.2.2 b o e k hk)⟩
theorem RdItems.at_ {I : List Itm} (h : RdItems w A n I) {k : Nat} (hk : k < n) : ∃ (b o : Nat) (L : LayI), A = some ⟨b, o, none⟩ ∧ RdIt w L (I[k]'(by rw [h.1]; exact hk)) ∧
 w.cell? ⟨b, o + k * 4, none⟩ = some (.slice L.ka L.kn L.kc) ∧ w.cell? ⟨b, o + k * 4 + 1, none⟩ = some (.slice L.va L.vn L.vc) ∧ w.cell? ⟨b, o + k * 4 + 2, none⟩ = some (.int .i64 L.size) ∧ w.cell? ⟨b, o + k * 4 + 3, none⟩ = some (.int .i64 L.more) := by
 obtain ⟨b, o, e⟩ := h.2.1 (by omega); obtain ⟨L, hr⟩ := h.2.2 b o e k (by rw [h.1]; exact hk); exact ⟨b, o, L, e, hr⟩
theorem RdKids.at_ {I : List Kd} (h : RdKids w A n I) {k : Nat} (hk : k < n) : ∃ (b o : Nat) (L : LayK), A = some ⟨b, o, none⟩ ∧ RdKd w L (I[k]'(by rw [h.1]; exact hk)) ∧
 w.cell? ⟨b, o + k * 2, none⟩ = some (.slice L.ka L.kn L.kc) ∧ w.cell? ⟨b, o + k * 2 + 1, none⟩ = some (.int .i64 L.page) := by
 obtain ⟨b, o, e⟩ := h.2.1 (by omega); obtain ⟨L, hr⟩ := h.2.2 b o e k (by rw [h.1]; exact hk); exact ⟨b, o, L, e, hr⟩
theorem RdNums.at_ {I : List Int} (h : RdNums w A n I) {k : Nat} (hk : k < n) : ∃ (b o : Nat), A = some ⟨b, o, none⟩ ∧ w.cell? ⟨b, o + k, none⟩ = some (.int .i64 (I[k]'(by rw [h.1]; exact hk))) := by
 obtain ⟨b, o, e⟩ := h.2.1 (by omega); exact ⟨b, o, e, h.2.2 b o e k (by rw [h.1]; exact hk)⟩
end
structure Lay where
 kind : Int
 txn : Int
 next : Int
 a1 : Option Addr
 n1 : Nat
 c1 : Nat
 a2 : Option Addr
 n2 : Nat
 c2 : Nat
 a3 : Option Addr
 n3 : Nat
 c3 : Nat
 a4 : Option Addr
 n4 : Nat
 c4 : Nat
abbrev Lay.val (l : Lay) : Value := .agg #[.int .i64 l.kind, .int .u64 l.txn, .int .i64 l.next, .slice l.a1 l.n1 l.c1, .slice l.a2 l.n2 l.c2, .slice l.a3 l.n3 l.c3, .slice l.a4 l.n4 l.c4]
structure RdPg (w : World) (l : Lay) (P : Pg) : Prop where
 kind : P.kind = l.kind
 txn : P.txn = l.txn
 next : P.next = l.next
 items : RdItems w l.a1 l.n1 P.items
 kids : RdKids w l.a2 l.n2 P.kids
 data : Rd w l.a3 l.n3 P.data
 ids : RdNums w l.a4 l.n4 P.ids
 t0 : 0 ≤ P.txn
 t1 : P.txn < 18446744073709551616
 b1 : l.n1 ≤ 140737488355328
 b2 : l.n2 ≤ 140737488355328
 b3 : l.n3 ≤ 140737488355328
 b4 : l.n4 ≤ 140737488355328
theorem RdPg.below {w w' : World} {l : Lay} {P : Pg} (h : RdPg w l P) (hb : Below w.heap.size w w') : RdPg w' l P :=
 ⟨h.kind, h.txn, h.next, h.items.below hb, h.kids.below hb, h.data.below hb, h.ids.below hb, h.t0, h.t1, h.b1, h.b2, h.b3, h.b4⟩
theorem RdPg.n1 {w : World} {l : Lay} {P : Pg} (h : RdPg w l P) : P.items.length = l.n1 := h.items.1
theorem RdPg.n2 {w : World} {l : Lay} {P : Pg} (h : RdPg w l P) : P.kids.length = l.n2 := h.kids.1
theorem RdPg.n3 {w : World} {l : Lay} {P : Pg} (h : RdPg w l P) : P.data.length = l.n3 := h.data.1
theorem RdPg.n4 {w : World} {l : Lay} {P : Pg} (h : RdPg w l P) : P.ids.length = l.n4 := h.ids.1
def isPg (i : Int) : Bool := decide (1 ≤ i) && decide (i < 1024)
def itemOk (x : Itm) : Bool := decide (x.key.length ≤ 32) && decide (0 ≤ x.size) && decide (x.size ≤ 4096) &&
 (if x.size ≤ 64 then decide ((x.val.length : Int) = x.size) && decide (x.more = 0) else decide (x.val.length = 0) && isPg x.more)
def kidOk (x : Kd) : Bool := decide (x.key.length ≤ 32) && isPg x.page
def ordU {α : Type} (ok : α → Bool) (cmp : α → α → Int) (I : List α) (k : Nat) : Bool :=
 (List.range k).all fun i => match I[i]? with
  | none => true
  | some x => ok x && (i == 0 || match I[i - 1]? with | none => true | some y => decide (cmp y x < 0))
def cmpI (a b : Itm) : Int := ordB a.key b.key
def cmpK (a b : Kd) : Int := ordB a.key b.key
def cmpN (a b : Int) : Int := if a < b then -1 else if b < a then 1 else 0
def ownB (P : Pg) : Bool := decide (1 ≤ P.kind) && decide (P.kind ≤ 4) &&
 (decide (P.kind = 1) || decide (P.items.length = 0)) && (decide (P.kind = 2) || decide (P.kids.length = 0)) && (decide (P.kind = 3) || decide (P.data.length = 0)) && (decide (P.kind = 4) || decide (P.ids.length = 0)) &&
 (decide (P.kind = 4) || decide (0 < P.items.length + P.kids.length + P.data.length + P.ids.length))
def nextB (P : Pg) : Bool := decide (P.next = 0) || (decide (P.kind ≠ 1) && decide (P.kind ≠ 2) && isPg P.next)
def thingsB (P : Pg) : Bool := ordU itemOk cmpI P.items P.items.length && ordU kidOk cmpK P.kids P.kids.length && ordU isPg cmpN P.ids P.ids.length
def itemUse (x : Itm) : Nat := 3 + x.key.length + (if x.size ≤ 64 then x.val.length else 4)
def kidUse (x : Kd) : Nat := 5 + x.key.length
def usedN (P : Pg) : Nat := P.data.length + P.ids.length * 4 + (P.items.map itemUse).sum + (P.kids.map kidUse).sum
def rightB (P : Pg) : Bool := ownB P && nextB P && thingsB P && decide (usedN P ≤ 237)
structure Sort' (Λ α : Type) where
 size : Nat
 cells : Λ → List Value
 R : World → Λ → α → Prop
 apart : Λ → Nat → Prop
 pos : 0 < size
 len : ∀ L, (cells L).length = size
 one : ∀ L u, u ∈ cells L → u.oneCell' = true
 fresh : ∀ {w L x g}, R w L x → w.heap.size ≤ g → apart L g
 keep : ∀ {w w' : World} {g L x}, R w L x → apart L g → w.grownBy w' (some g) → R w' L x
section
variable {Λ α : Type} {K : Sort' Λ α} {w w' : World} {base : Nat} {e : TypeId} {F : Nat → Prop} {A : Option Addr} {n c : Nat} {I : List α}
theorem Sort'.below {L : Λ} {x : α} (h : K.R w L x) (hb : Below w.heap.size w w') : K.R w' L x :=
 K.keep h (K.fresh h (Nat.le_refl _)) ⟨hb.os, hb.tape, hb.output, hb.size, fun k hk _ => hb.block k hk⟩
def Ow (K : Sort' Λ α) (w : World) (base : Nat) (e : TypeId) (F : Nat → Prop) (A : Option Addr) (n c : Nat) (I : List α) : Prop :=
 ∃ Ls : List Λ, Ls.length = n ∧ I.length = n ∧ w.ownsRow base e K.size (.slice A n c) n (Ls.flatMap K.cells) ∧ (∀ k (h1 : k < Ls.length) (h2 : k < I.length), K.R w Ls[k] I[k]) ∧
   (∀ g, (Value.slice A n c).ownBlock = some g → (∀ L ∈ Ls, K.apart L g) ∧ ¬ F g) ∧ (∀ g, F g → ∀ L ∈ Ls, K.apart L g)
theorem Ow.nil_ (w : World) : Ow K w base e F none 0 0 [] := ⟨[], rfl, rfl, World.ownsRow_nil _ _ _ _, fun k h => absurd h (by simp), fun g h => by simp [Value.ownBlock] at h, fun g _ L h => absurd h (by simp)⟩
theorem Ow.len_ (h : Ow K w base e F A n c I) : I.length = n := h.choose_spec.2.1
theorem Ow.lt (h : Ow K w base e F A n c I) {g : Nat} (hg : (Value.slice A n c).ownBlock = some g) : base ≤ g ∧ g < w.heap.size := by
 obtain ⟨Ls, _, _, ho, _⟩ := h; exact ho.lt g hg
theorem flat_at (K : Sort' Λ α) : ∀ (Ls : List Λ) (k j : Nat) (hk : k < Ls.length), j < K.size → (Ls.flatMap K.cells)[k * K.size + j]? = (K.cells Ls[k])[j]?
 | L :: r, 0, j, _, hj => by
   rw [List.flatMap_cons, Nat.zero_mul, Nat.zero_add, List.getElem?_append_left (by rw [K.len]; exact hj)]; rfl
 | L :: r, k + 1, j, hk, hj => by
   rw [List.flatMap_cons, List.getElem?_append_right (by rw [K.len, Nat.succ_mul]; omega), K.len]; have e : (k + 1) * K.size + j - K.size = k * K.size + j := by rw [Nat.succ_mul]; omega
   rw [e]; exact flat_at K r k j (by simpa using hk) hj
theorem Ow.at_ (h : Ow K w base e F A n c I) {k : Nat} (hk : k < n) : ∃ g L, A = some ⟨g, 0, none⟩ ∧ base ≤ g ∧ g < w.heap.size ∧ K.R w L (I[k]'(by rw [h.len_]; exact hk)) ∧ ∀ j u, (K.cells L)[j]? = some u → w.cell? ⟨g, k * K.size + j, none⟩ = some u := by
 have hl := h.len_; obtain ⟨Ls, h1, h2, ho, hr, _⟩ := h; rcases ho.2 with ⟨_, h0⟩ | ⟨g, cap, cur, hv, hbg, hb, hr1, hr2, hr3, hr4⟩
 · omega
 · injection hv with hA _ _
   subst hA; refine ⟨g, Ls[k]'(by omega), rfl, hbg, (Array.getElem?_eq_some_iff.1 hb).1, hr k (by omega) (by omega), fun j u hu => ?_⟩; have hj : j < K.size := by have := (List.getElem?_eq_some_iff.1 hu).1; rwa [K.len] at this
   have := ho.cells (g := g) rfl (k * K.size + j) u (by rw [flat_at K Ls k j (by omega) hj]; exact hu); rw [add_at, Nat.zero_add] at this; exact this
theorem Ow.turn {r : Nat} (h : Ow K w base e F A n c I) (hg : w.grownBy w' (some r)) (hr : F r ∨ w.heap.size ≤ r) : Ow K w' base e F A n c I := by
 have hlt := fun g => h.lt (g := g)
 obtain ⟨Ls, h1, h2, ho, hrd, hap, hF⟩ := h; refine ⟨Ls, h1, h2, ?_, fun k k1 k2 => ?_, hap, hF⟩
 · have hne : (Value.slice A n c).ownBlock = none ∨ (Value.slice A n c).ownBlock ≠ some r := by
    cases hv : (Value.slice A n c).ownBlock with
    | none => exact .inl rfl
    | some g =>
      refine .inr fun e => ?_
      obtain rfl := Option.some.inj e; rcases hr with hr | hr
      · exact (hap _ hv).2 hr
      · have := (hlt _ hv).2; omega
   exact ho.kept (row := some r) hg hne
 · refine K.keep (hrd k k1 k2) ?_ hg; rcases hr with hr | hr
   · exact hF r hr _ (List.getElem_mem k1)
   · exact K.fresh (hrd k k1 k2) hr
theorem Ow.below (h : Ow K w base e F A n c I) (hb : Below w.heap.size w w') : Ow K w' base e F A n c I :=
 h.turn (r := w.heap.size) ⟨hb.os, hb.tape, hb.output, hb.size, fun k hk _ => hb.block k hk⟩ (.inr (Nat.le_refl _))
theorem Ow.mono {F' : Nat → Prop} (h : Ow K w base e F A n c I) (hF : ∀ r, F' r → F r) : Ow K w base e F' A n c I := by
 obtain ⟨Ls, h1, h2, ho, hrd, hap, hFF⟩ := h; exact ⟨Ls, h1, h2, ho, hrd, fun g hg => ⟨(hap g hg).1, fun h => (hap g hg).2 (hF g h)⟩, fun g hg => hFF g (hF g hg)⟩
theorem wp_append_ow {P : Program} {o : Oper} {a : Act} {Kk : Act → World → Prop} {Q : Exit → Act → World → Prop} (s x : Operand) (t : TypeId) (ho : o.op = .call { callee := .builtin .append, args := #[s, x], argTypes := #[t, t] })
 (ht : P.underlying t = some (.slice e)) {z : Value} {bytes : Nat} (hinfo : (P.info? e).map (fun i => (i.zero, i.size, i.bytes)) = some (some z, K.size, bytes)) (hzs : z.cells.size = K.size)
 (hs : a.eval s = .slice A n c) (hown : Ow K w base e F A n c I) (ad : Addr) (k : Nat) (L : Λ) (y : α) (hx : a.eval x = .slice (some ad) 1 k) (hnews : ∀ j u, (K.cells L)[j]? = some u → w.cell? (ad.add j) = some u)
 (hy : K.R w L y) (hya : ∀ g, (Value.slice A n c).ownBlock = some g → K.apart L g) (hyF : ∀ g, F g → K.apart L g) (hFlt : ∀ g, F g → g < w.heap.size)
 (h63 : n + 1 ≤ maxLen) (hbytes : (n + 1) * bytes ≤ 140737488355328) (hbase : base ≤ w.heap.size)
 (h : ∀ A' c' w', Ow K w' base e F A' (n + 1) c' (I ++ [y]) → Below base w w' → (∀ g, g < w.heap.size → (Value.slice A n c).ownBlock ≠ some g → w'.heap[g]? = w.heap[g]?) → Kk (a.put o.dst (.slice A' (n + 1) c')) w') : o.wp P a w Kk Q := by
 have hlt := fun g => hown.lt (g := g)
 obtain ⟨Ls, h1, h2, hor, hrd, hap, hF⟩ := hown; obtain ⟨i, hi, hz, hsize, hby⟩ := info_parts hinfo; obtain ⟨v', w', hrun, hr2, hg, _, hloc⟩ := run_append_own_at (P := P) w base t o.type e i z K.size bytes ht hi hz hsize hby hzs K.pos _ n _ hor ad 1 k (K.cells L) (by rw [K.len, Nat.one_mul]) hnews (K.one L) h63 hbytes hbase; obtain ⟨A', c', rfl⟩ : ∃ A' c', v' = .slice A' (n + 1) c' := by
  rcases hr2.2 with ⟨_, h0⟩ | ⟨g, cap, cur, hv, _⟩
  · omega
  · exact ⟨_, _, hv⟩
 have hgg : ∀ g, (Value.slice A n c).ownBlock = some g → w.grownBy w' (some g) := fun g e => by rw [← e]; exact hg
 have hkeep : ∀ {M : Λ} {u : α}, K.R w M u → (∀ g, (Value.slice A n c).ownBlock = some g → K.apart M g) → K.R w' M u := fun {M u} hM hMa => by
  cases hv : (Value.slice A n c).ownBlock with
  | none => exact K.keep hM (K.fresh hM (Nat.le_refl _)) ⟨hg.os, hg.tape, hg.output, hg.size, fun k hk _ => hg.block k hk (by rw [hv]; exact fun e => by cases e)⟩
  | some g => exact K.keep hM (hMa g hv) (hgg g hv)
 unfold Oper.wp execOp; simp only [ho, resolve, invoke, builtin, Sem.run_bind, Sem.run_pure, Result.andThen_ok, List.map_toArray, List.map_cons, List.map_nil, hs, hx, hrun]; refine h A' c' w' ⟨Ls ++ [L], by simp [h1], by simp [h2], ?_, fun j k1 k2 => ?_, fun g hgv => ?_, fun g hgF M hM => ?_⟩ ?_ ?_
 · rw [List.flatMap_append, List.flatMap_singleton]; exact hr2
 · by_cases hj : j < n
   · rw [List.getElem_append_left (by omega), List.getElem_append_left (by omega)]; exact hkeep (hrd j (by omega) (by omega)) (fun g hv => (hap g hv).1 _ (List.getElem_mem _))
   · have hjn : j = n := by simp [h1] at k1; omega
     subst hjn; rw [List.getElem_append_right (by omega), List.getElem_append_right (by omega)]; simp only [h1, h2, Nat.sub_self, List.getElem_cons_zero]; exact hkeep hy hya
 · rcases hloc with e | e
   · rw [e] at hgv; refine ⟨fun M hM => ?_, (hap g hgv).2⟩; rcases List.mem_append.1 hM with hM | hM
     · exact (hap g hgv).1 M hM
     · obtain rfl := List.mem_singleton.1 hM; exact hya g hgv
   · rw [e] at hgv; obtain rfl := Option.some.inj hgv; refine ⟨fun M hM => ?_, fun hf => by have := hFlt _ hf; omega⟩; rcases List.mem_append.1 hM with hM | hM
     · obtain ⟨q, hq, rfl⟩ := List.getElem_of_mem hM; exact K.fresh (hrd q hq (by omega)) (Nat.le_refl _)
     · obtain rfl := List.mem_singleton.1 hM; exact K.fresh hy (Nat.le_refl _)
 · rcases List.mem_append.1 hM with hM | hM
   · exact hF g hgF M hM
   · obtain rfl := List.mem_singleton.1 hM; exact hyF g hgF
 · exact (Below.refl base w).grown hg hbase (fun g hv => (hlt g hv).1)
 · exact fun g hg1 hg2 => hg.block g hg1 (fun e => hg2 e.symm)
theorem wpList_append_ow {P : Program} {ops : Array Oper} {rest : List Oper} {o : Oper} {a : Act} {Q : Exit → Act → World → Prop} (hgd : o.guard = none) (s x : Operand) (t : TypeId) (ho : o.op = .call { callee := .builtin .append, args := #[s, x], argTypes := #[t, t] })
 (ht : P.underlying t = some (.slice e)) {z : Value} {bytes : Nat} (hinfo : (P.info? e).map (fun i => (i.zero, i.size, i.bytes)) = some (some z, K.size, bytes)) (hzs : z.cells.size = K.size)
 (hs : a.eval s = .slice A n c) (hown : Ow K w base e F A n c I) (ad : Addr) (k : Nat) (L : Λ) (y : α) (hx : a.eval x = .slice (some ad) 1 k) (hnews : ∀ j u, (K.cells L)[j]? = some u → w.cell? (ad.add j) = some u)
 (hy : K.R w L y) (hya : ∀ g, (Value.slice A n c).ownBlock = some g → K.apart L g) (hyF : ∀ g, F g → K.apart L g) (hFlt : ∀ g, F g → g < w.heap.size)
 (h63 : n + 1 ≤ maxLen) (hbytes : (n + 1) * bytes ≤ 140737488355328) (hbase : base ≤ w.heap.size)
 (h : ∀ A' c' w', Ow K w' base e F A' (n + 1) c' (I ++ [y]) → Below base w w' → (∀ g, g < w.heap.size → (Value.slice A n c).ownBlock ≠ some g → w'.heap[g]? = w.heap[g]?) → wpList P ops Q rest (a.put o.dst (.slice A' (n + 1) c')) w') : wpList P ops Q (o :: rest) a w :=
 wpList_plain hgd fun _ hK => wp_append_ow s x t ho ht hinfo hzs hs hown ad k L y hx hnews hy hya hyF hFlt h63 hbytes hbase fun A' c' w' a1 a2 a3 => hK _ _ (h A' c' w' a1 a2 a3)
end
def apartA (A : Option Addr) (n g : Nat) : Prop := ∀ a, A = some a → 0 < n → a.block ≠ g
theorem Rd.fresh {w : World} {A : Option Addr} {n g : Nat} {xs : List UInt8} (h : Rd w A n xs) (hg : w.heap.size ≤ g) : apartA A n g := fun a e h0 => by
 obtain ⟨b, e', hb⟩ := h.lt h0; rw [e] at e'; obtain rfl := Option.some.inj e'; omega
theorem Rd.grown {w w' : World} {A : Option Addr} {n g : Nat} {xs : List UInt8} (h : Rd w A n xs) (ha : apartA A n g) (hg : w.grownBy w' (some g)) : Rd w' A n xs := by
 refine ⟨h.1, fun h0 => ?_⟩; obtain ⟨a, e, hc⟩ := h.2 h0; refine ⟨a, e, fun j hj => ?_⟩; have hb : (a.add j).block < w.heap.size := World.block_lt_of_cell? w _ (hc j hj); rw [World.cell?_of_block (w := w) (hg.block _ hb (fun e' => ha a e h0 (by rw [add_block] at e'; exact (Option.some.inj e'))))]; exact hc j hj
def kItem : Sort' LayI Itm where
 size := 4
 cells L := [.slice L.ka L.kn L.kc, .slice L.va L.vn L.vc, .int .i64 L.size, .int .i64 L.more]
 R := RdIt
 apart L g := apartA L.ka L.kn g ∧ apartA L.va L.vn g
 pos := by decide
 len _ := rfl
 one L u h := by
  simp only [List.mem_cons, List.not_mem_nil, or_false] at h; rcases h with rfl | rfl | rfl | rfl <;> rfl
 fresh h hg := ⟨h.1.fresh hg, h.2.1.fresh hg⟩
 keep h ha hg := ⟨h.1.grown ha.1 hg, h.2.1.grown ha.2 hg, h.2.2⟩
def kKid : Sort' LayK Kd where
 size := 2
 cells L := [.slice L.ka L.kn L.kc, .int .i64 L.page]
 R := RdKd
 apart L g := apartA L.ka L.kn g
 pos := by decide
 len _ := rfl
 one L u h := by
  simp only [List.mem_cons, List.not_mem_nil, or_false] at h; rcases h with rfl | rfl <;> rfl
 fresh h hg := h.1.fresh hg
 keep h ha hg := ⟨h.1.grown ha hg, h.2⟩
def kNum : Sort' Int Int where
 size := 1
 cells x := [.int .i64 x]
 R _ L x := x = L
 apart _ _ := True
 pos := by decide
 len _ := rfl
 one L u h := by
  simp only [List.mem_cons, List.not_mem_nil, or_false] at h; rcases h with rfl; rfl
 fresh _ _ := trivial
 keep h _ _ := h
section
variable {w : World} {base : Nat} {e : TypeId} {F : Nat → Prop} {A : Option Addr} {n c : Nat}
theorem Ow.items {I : List Itm} (h : Ow kItem w base e F A n c I) : RdItems w A n I := by
 refine ⟨h.len_, fun h0 => ?_, fun b o ea k hk => ?_⟩
 · obtain ⟨g, L, rfl, _⟩ := h.at_ h0; exact ⟨_, _, rfl⟩
 · obtain ⟨g, L, rfl, _, _, hr, hc⟩ := h.at_ (k := k) (by rw [← h.len_]; exact hk); simp only [Option.some.injEq, Addr.mk.injEq, and_true] at ea; obtain ⟨rfl, rfl⟩ := ea; exact ⟨L, hr, by rw [Nat.zero_add]; exact hc 0 _ rfl, by rw [Nat.zero_add]; exact hc 1 _ rfl, by rw [Nat.zero_add]; exact hc 2 _ rfl, by rw [Nat.zero_add]; exact hc 3 _ rfl⟩
theorem Ow.kids {I : List Kd} (h : Ow kKid w base e F A n c I) : RdKids w A n I := by
 refine ⟨h.len_, fun h0 => ?_, fun b o ea k hk => ?_⟩
 · obtain ⟨g, L, rfl, _⟩ := h.at_ h0; exact ⟨_, _, rfl⟩
 · obtain ⟨g, L, rfl, _, _, hr, hc⟩ := h.at_ (k := k) (by rw [← h.len_]; exact hk); simp only [Option.some.injEq, Addr.mk.injEq, and_true] at ea; obtain ⟨rfl, rfl⟩ := ea; exact ⟨L, hr, by rw [Nat.zero_add]; exact hc 0 _ rfl, by rw [Nat.zero_add]; exact hc 1 _ rfl⟩
theorem Ow.nums {I : List Int} (h : Ow kNum w base e F A n c I) : RdNums w A n I := by
 refine ⟨h.len_, fun h0 => ?_, fun b o ea k hk => ?_⟩
 · obtain ⟨g, L, rfl, _⟩ := h.at_ h0; exact ⟨_, _, rfl⟩
 · obtain ⟨g, L, rfl, _, _, hr, hc⟩ := h.at_ (k := k) (by rw [← h.len_]; exact hk); simp only [Option.some.injEq, Addr.mk.injEq, and_true] at ea; obtain ⟨rfl, rfl⟩ := ea; have := hc 0 _ rfl; have hr : I[k] = L := hr; rw [hr, Nat.zero_add]; simpa [kNum] using this
end
theorem isKey_any (A : Option Addr) (n c : Nat) (w : World) (b : Bool) (hb : decide (n ≤ 32) = b) :
 Calls Tryz.prog 247 #[.slice A n c] w fun e w' => e = .returned (.bool b) ∧ w = w' := by
 subst hb; go_enter Tryz.func247, Tryz.ntmps247; go_wp2; go_ret; exact ⟨ret_bool (by simp <;> omega), rfl⟩
theorem isInline_any (i : Int) (w : World) (b : Bool) (hb : decide (i ≤ 64) = b) :
 Calls Tryz.prog 224 #[.int .i64 i] w fun e w' => e = .returned (.bool b) ∧ w = w' := by
 subst hb; go_enter Tryz.func224, Tryz.ntmps224; go_wp2; go_ret; exact ⟨rfl, rfl⟩
theorem isPage_any (i : Int) (w : World) (b : Bool) (hb : isPg i = b) :
 Calls Tryz.prog 214 #[.int .i64 i] w fun e w' => e = .returned (.bool b) ∧ w = w' := by
 subst hb; go_enter Tryz.func214, Tryz.ntmps214; go_wp2
 all_goals
  go_ret; exact ⟨ret_bool (by unfold isPg; simp; omega), rfl⟩
theorem ret_num {k : IntKind} {a b : Int} (h : a = b) : Ending.returned (.int k a) = .returned (.int k b) := by rw [h]
theorem cmpInt_any (a b : Int) (w : World) :
 Calls Tryz.prog 223 #[.int .i64 a, .int .i64 b] w fun e w' => e = .returned (.int .i64 (cmpN a b)) ∧ w = w' := by
 have HC : Hid (cmpN a b = if a < b then -1 else if b < a then 1 else 0) := rfl; generalize cmpN a b = o at HC; go_enter Tryz.func223, Tryz.ntmps223; go_wp2
 all_goals
  go_ret; exact ⟨ret_num (by rw [HC.out]; first | rw [if_pos (by omega)] | rw [if_neg (by omega), if_pos (by omega)] | rw [if_neg (by omega), if_neg (by omega)]), rfl⟩
theorem counts_any (l : Lay) (w : World) :
 Calls Tryz.prog 130 #[l.val] w fun e w' => e = .returned (.agg #[.int .i64 0, .int .i64 l.n1, .int .i64 l.n2, .int .i64 l.n3, .int .i64 l.n4]) ∧ Below w.heap.size w w' := by
 obtain ⟨kind, txn, next, a1, n1, c1, a2, n2, c2, a3, n3, c3, a4, n4, c4⟩ := l; go_enter Tryz.func130, Tryz.ntmps130; go_wp2; exact bodyPost_ret (v := .agg #[.int .i64 0, .int .i64 n1, .int .i64 n2, .int .i64 n3, .int .i64 n4]) (by simp [results, Tryz.results130, go_sem]) rfl ⟨rfl, ((Below.refl _ _).alloc (Nat.le_refl _) _).alloc (by simp) _⟩
theorem itemSize_any (L : LayI) (w : World) (u : Nat) (h1 : L.kn ≤ 140737488355328) (h2 : L.vn ≤ 140737488355328) (hu : 3 + L.kn + (if L.size ≤ 64 then L.vn else 4) = u) :
 Calls Tryz.prog 204 #[L.val] w fun e w' => e = .returned (.int .i64 (u : Int)) ∧ Below w.heap.size w w' := by
 obtain ⟨ka, kn, kc, va, vn, vc, size, more⟩ := L; simp only at h1 h2 hu; have HU := kept hu; clear hu; by_cases hs : size ≤ 64
 · go_enter Tryz.func204, Tryz.ntmps204; go_wp2_with (first | (go_at_call 224; (with_reducible refine (isInline_any _ _ true (by simpa using hs)).mono ?_); rintro e w' ⟨rfl, rfl⟩))
   go_ret; exact ⟨ret_num (by have := HU.out; (first | rw [if_pos (by omega)] at this | rw [if_neg (by omega)] at this); omega), (Below.refl _ _).alloc (Nat.le_refl _) _⟩
 · go_enter Tryz.func204, Tryz.ntmps204; go_wp2_with (first | (go_at_call 224; (with_reducible refine (isInline_any _ _ false (by simpa using hs)).mono ?_); rintro e w' ⟨rfl, rfl⟩))
   go_ret; exact ⟨ret_num (by have := HU.out; (first | rw [if_pos (by omega)] at this | rw [if_neg (by omega)] at this); omega), (Below.refl _ _).alloc (Nat.le_refl _) _⟩
theorem rightKid_any (L : LayK) (w : World) (b : Bool) (hb : (decide (L.kn ≤ 32) && isPg L.page) = b) :
 Calls Tryz.prog 220 #[L.val] w fun e w' => e = .returned (.bool b) ∧ Below w.heap.size w w' := by
 obtain ⟨ka, kn, kc, page⟩ := L; subst hb; go_enter Tryz.func220, Tryz.ntmps220; go_wp2_with (first | (go_at_call 247; (with_reducible refine (isKey_any _ _ _ _ _ rfl).mono ?_); rintro e w' ⟨rfl, rfl⟩) | (go_at_call 214; (with_reducible refine (isPage_any _ _ _ rfl).mono ?_); rintro e w' ⟨rfl, rfl⟩))
 all_goals
  go_ret; exact ⟨ret_bool (by rw [Bool.eq_iff_iff]; simp [isPg] <;> omega), (Below.refl _ _).alloc (Nat.le_refl _) _⟩
theorem rightNext_any (l : Lay) (w : World) (b : Bool) (hb : (decide (l.next = 0) || (decide (l.kind ≠ 1) && decide (l.kind ≠ 2) && isPg l.next)) = b) :
 Calls Tryz.prog 176 #[l.val] w fun e w' => e = .returned (.bool b) ∧ Below w.heap.size w w' := by
 obtain ⟨kind, txn, next, a1, n1, c1, a2, n2, c2, a3, n3, c3, a4, n4, c4⟩ := l; simp only at hb; subst hb; go_enter Tryz.func176, Tryz.ntmps176; go_wp2_with (first | (go_at_call 214; (with_reducible refine (isPage_any _ _ _ rfl).mono ?_); rintro e w' ⟨rfl, rfl⟩))
 all_goals
  go_ret; exact ⟨ret_bool (by rw [Bool.eq_iff_iff]; simp [isPg] <;> omega), (Below.refl _ _).alloc (Nat.le_refl _) _⟩
theorem rightItem_any (L : LayI) (w : World) (b : Bool) (hb : (decide (L.kn ≤ 32) && decide (0 ≤ L.size) && decide (L.size ≤ 4096) && (if L.size ≤ 64 then decide ((L.vn : Int) = L.size) && decide (L.more = 0) else decide (L.vn = 0) && isPg L.more)) = b) :
 Calls Tryz.prog 216 #[L.val] w fun e w' => e = .returned (.bool b) ∧ Below w.heap.size w w' := by
 obtain ⟨ka, kn, kc, va, vn, vc, size, more⟩ := L; simp only at hb; have HB := kept hb; clear hb; by_cases hin : size ≤ 64
 all_goals
  go_enter Tryz.func216, Tryz.ntmps216; go_wp2_with (first | (go_at_call 247; (with_reducible refine (isKey_any _ _ _ _ _ rfl).mono ?_); rintro e w' ⟨rfl, rfl⟩) | (go_at_call 214; (with_reducible refine (isPage_any _ _ _ rfl).mono ?_); rintro e w' ⟨rfl, rfl⟩) | (go_at_call 224; (with_reducible refine (isInline_any _ _ _ rfl).mono ?_); rintro e w' ⟨rfl, rfl⟩))
  all_goals
   go_ret; exact ⟨ret_bool (by rw [← HB.out]; (first | rw [if_pos (by omega)] | rw [if_neg (by omega)]); rw [Bool.eq_iff_iff]; simp [isPg] <;> omega), (Below.refl _ _).alloc (Nat.le_refl _) _⟩
def cnt (l : Lay) : Nat → Nat
 | 1 => l.n1
 | 2 => l.n2
 | 3 => l.n3
 | 4 => l.n4
 | _ => 0
theorem ix0 (x0 x1 x2 x3 x4 : Value) (w : World) : (Instr.index 240 (.agg #[x0, x1, x2, x3, x4]) (.int .i64 0)).run Tryz.prog w = .ok x0 w := by kernel_rfl
theorem ix1 (x0 x1 x2 x3 x4 : Value) (w : World) : (Instr.index 240 (.agg #[x0, x1, x2, x3, x4]) (.int .i64 1)).run Tryz.prog w = .ok x1 w := by kernel_rfl
theorem ix2 (x0 x1 x2 x3 x4 : Value) (w : World) : (Instr.index 240 (.agg #[x0, x1, x2, x3, x4]) (.int .i64 2)).run Tryz.prog w = .ok x2 w := by kernel_rfl
theorem ix3 (x0 x1 x2 x3 x4 : Value) (w : World) : (Instr.index 240 (.agg #[x0, x1, x2, x3, x4]) (.int .i64 3)).run Tryz.prog w = .ok x3 w := by kernel_rfl
theorem ix4 (x0 x1 x2 x3 x4 : Value) (w : World) : (Instr.index 240 (.agg #[x0, x1, x2, x3, x4]) (.int .i64 4)).run Tryz.prog w = .ok x4 w := by kernel_rfl
end Go.Proofs.YtblbhhijddcbeaaGreatDoor
end
