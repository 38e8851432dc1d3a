/-
  A page as plain data, and what it means that a page's value reads so in memory: items, kids, bytes, numbers. Nothing is claimed here of the Go text.
-/
import Derived.Test.YtfgpkgenahlikaaDoorSeal
import Derived.Test.YtfgpkgenahlikaaDoorCmp
namespace Go.Proofs.YtfgpkgenahlikaaDoor
open Go.ChangeShapes Go.WideShapes Go.ChangeAt Go.RowKit
set_option linter.unusedVariables false

structure Itm where
  key : List UInt8
  val : List UInt8
  size : Int
  more : Int
  deriving DecidableEq
structure Kd where
  key : List UInt8
  page : Int
  deriving DecidableEq
structure Pg where
  kind : Int
  txn : Int
  next : Int
  items : List Itm
  kids : List Kd
  data : List UInt8
  ids : List Int
  deriving DecidableEq

/-- An item's four cells. -/
structure LayI where
  ka : Option Addr
  kn : Nat
  kc : Nat
  va : Option Addr
  vn : Nat
  vc : Nat
  size : Int
  more : Int
abbrev LayI.c0 (L : LayI) : Value := .slice L.ka L.kn L.kc
abbrev LayI.c1 (L : LayI) : Value := .slice L.va L.vn L.vc
abbrev LayI.c2 (L : LayI) : Value := .int .i64 L.size
abbrev LayI.c3 (L : LayI) : Value := .int .i64 L.more
abbrev LayI.val (L : LayI) : Value := .agg #[.slice L.ka L.kn L.kc, .slice L.va L.vn L.vc, .int .i64 L.size, .int .i64 L.more]
structure LayK where
  ka : Option Addr
  kn : Nat
  kc : Nat
  page : Int
abbrev LayK.val (L : LayK) : Value := .agg #[.slice L.ka L.kn L.kc, .int .i64 L.page]
/-- The cells of an item read as this item; of a kid, as this kid. -/
def RdIt (w : World) (L : LayI) (x : Itm) : Prop := Rd w L.ka L.kn x.key ∧ Rd w L.va L.vn x.val ∧ x.size = L.size ∧ x.more = L.more ∧ L.kn ≤ 140737488355328 ∧ L.vn ≤ 140737488355328
def RdKd (w : World) (L : LayK) (x : Kd) : Prop := Rd w L.ka L.kn x.key ∧ x.page = L.page ∧ L.kn ≤ 140737488355328
theorem RdIt.below {w w' : World} {L : LayI} {x : Itm} (h : RdIt w L x) (hb : Below w.heap.size w w') : RdIt w' L x := ⟨h.1.below hb, h.2.1.below hb, h.2.2⟩
theorem RdKd.below {w w' : World} {L : LayK} {x : Kd} (h : RdKd w L x) (hb : Below w.heap.size w w') : RdKd w' L x := ⟨h.1.below hb, h.2⟩

theorem add_at (b o j : Nat) : (⟨b, o, none⟩ : Addr).add j = ⟨b, o + j, none⟩ := by unfold Addr.add; split <;> simp_all
/-- The slice at A of n items; of kids; of numbers. -/
def RdItems (w : World) (A : Option Addr) (n : Nat) (I : List Itm) : Prop :=
  I.length = n ∧ (0 < n → ∃ b o, A = some ⟨b, o, none⟩) ∧ ∀ b o, A = some ⟨b, o, none⟩ → ∀ k (h : k < I.length), ∃ L : LayI, RdIt w L I[k] ∧
    w.cell? ⟨b, o + k * 4, none⟩ = some (.slice L.ka L.kn L.kc) ∧ w.cell? ⟨b, o + k * 4 + 1, none⟩ = some (.slice L.va L.vn L.vc) ∧ w.cell? ⟨b, o + k * 4 + 2, none⟩ = some (.int .i64 L.size) ∧ w.cell? ⟨b, o + k * 4 + 3, none⟩ = some (.int .i64 L.more)
def RdKids (w : World) (A : Option Addr) (n : Nat) (I : List Kd) : Prop :=
  I.length = n ∧ (0 < n → ∃ b o, A = some ⟨b, o, none⟩) ∧ ∀ b o, A = some ⟨b, o, none⟩ → ∀ k (h : k < I.length), ∃ L : LayK, RdKd w L I[k] ∧
    w.cell? ⟨b, o + k * 2, none⟩ = some (.slice L.ka L.kn L.kc) ∧ w.cell? ⟨b, o + k * 2 + 1, none⟩ = some (.int .i64 L.page)
def RdNums (w : World) (A : Option Addr) (n : Nat) (I : List Int) : Prop :=
  I.length = n ∧ (0 < n → ∃ b o, A = some ⟨b, o, none⟩) ∧ ∀ b o, A = some ⟨b, o, none⟩ → ∀ k (h : k < I.length), w.cell? ⟨b, o + k, none⟩ = some (.int .i64 I[k])
section
variable {w w' : World} {A : Option Addr} {n : Nat}
theorem RdItems.nil_ (w : World) (A : Option Addr) : RdItems w A 0 [] := ⟨rfl, fun h => absurd h (by omega), fun _ _ _ k h => absurd h (by simp)⟩
theorem RdKids.nil_ (w : World) (A : Option Addr) : RdKids w A 0 [] := ⟨rfl, fun h => absurd h (by omega), fun _ _ _ k h => absurd h (by simp)⟩
theorem RdNums.nil_ (w : World) (A : Option Addr) : RdNums w A 0 [] := ⟨rfl, fun h => absurd h (by omega), fun _ _ _ k h => absurd h (by simp)⟩
theorem cell_below (hb : Below w.heap.size w w') {p : Addr} {v : Value} (h : w.cell? p = some v) : w'.cell? p = some v := (hb.cell (World.block_lt_of_cell? w _ h)).trans h
theorem RdItems.below {I : List Itm} (h : RdItems w A n I) (hb : Below w.heap.size w w') : RdItems w' A n I := ⟨h.1, h.2.1, fun b o e k hk => by
  obtain ⟨L, hr, h0, h1, h2, h3⟩ := h.2.2 b o e k hk
  exact ⟨L, hr.below hb, cell_below hb h0, cell_below hb h1, cell_below hb h2, cell_below hb h3⟩⟩
theorem RdKids.below {I : List Kd} (h : RdKids w A n I) (hb : Below w.heap.size w w') : RdKids w' A n I := ⟨h.1, h.2.1, fun b o e k hk => by
  obtain ⟨L, hr, h0, h1⟩ := h.2.2 b o e k hk
  exact ⟨L, hr.below hb, cell_below hb h0, cell_below hb h1⟩⟩
theorem RdNums.below {I : List Int} (h : RdNums w A n I) (hb : Below w.heap.size w w') : RdNums w' A n I := ⟨h.1, h.2.1, fun b o e k hk => cell_below hb (h.2.2 b o e k hk)⟩
/-- One of them: where it lies. -/
theorem RdItems.at_ {I : List Itm} (h : RdItems w A n I) {k : Nat} (hk : k < n) : ∃ (b o : Nat) (L : LayI), A = some ⟨b, o, none⟩ ∧ RdIt w L (I[k]'(by rw [h.1]; exact hk)) ∧
    w.cell? ⟨b, o + k * 4, none⟩ = some (.slice L.ka L.kn L.kc) ∧ w.cell? ⟨b, o + k * 4 + 1, none⟩ = some (.slice L.va L.vn L.vc) ∧ w.cell? ⟨b, o + k * 4 + 2, none⟩ = some (.int .i64 L.size) ∧ w.cell? ⟨b, o + k * 4 + 3, none⟩ = some (.int .i64 L.more) := by
  obtain ⟨b, o, e⟩ := h.2.1 (by omega)
  obtain ⟨L, hr⟩ := h.2.2 b o e k (by rw [h.1]; exact hk)
  exact ⟨b, o, L, e, hr⟩
theorem RdKids.at_ {I : List Kd} (h : RdKids w A n I) {k : Nat} (hk : k < n) : ∃ (b o : Nat) (L : LayK), A = some ⟨b, o, none⟩ ∧ RdKd w L (I[k]'(by rw [h.1]; exact hk)) ∧
    w.cell? ⟨b, o + k * 2, none⟩ = some (.slice L.ka L.kn L.kc) ∧ w.cell? ⟨b, o + k * 2 + 1, none⟩ = some (.int .i64 L.page) := by
  obtain ⟨b, o, e⟩ := h.2.1 (by omega)
  obtain ⟨L, hr⟩ := h.2.2 b o e k (by rw [h.1]; exact hk)
  exact ⟨b, o, L, e, hr⟩
theorem RdNums.at_ {I : List Int} (h : RdNums w A n I) {k : Nat} (hk : k < n) : ∃ (b o : Nat), A = some ⟨b, o, none⟩ ∧ w.cell? ⟨b, o + k, none⟩ = some (.int .i64 (I[k]'(by rw [h.1]; exact hk))) := by
  obtain ⟨b, o, e⟩ := h.2.1 (by omega)
  exact ⟨b, o, e, h.2.2 b o e k (by rw [h.1]; exact hk)⟩
end

/-- A page's seven cells. -/
structure Lay where
  kind : Int
  txn : Int
  next : Int
  a1 : Option Addr
  n1 : Nat
  c1 : Nat
  a2 : Option Addr
  n2 : Nat
  c2 : Nat
  a3 : Option Addr
  n3 : Nat
  c3 : Nat
  a4 : Option Addr
  n4 : Nat
  c4 : Nat
abbrev Lay.val (l : Lay) : Value := .agg #[.int .i64 l.kind, .int .u64 l.txn, .int .i64 l.next, .slice l.a1 l.n1 l.c1, .slice l.a2 l.n2 l.c2, .slice l.a3 l.n3 l.c3, .slice l.a4 l.n4 l.c4]
/-- The page's cells read as this page. -/
structure RdPg (w : World) (l : Lay) (P : Pg) : Prop where
  kind : P.kind = l.kind
  txn : P.txn = l.txn
  next : P.next = l.next
  items : RdItems w l.a1 l.n1 P.items
  kids : RdKids w l.a2 l.n2 P.kids
  data : Rd w l.a3 l.n3 P.data
  ids : RdNums w l.a4 l.n4 P.ids
  t0 : 0 ≤ P.txn
  t1 : P.txn < 18446744073709551616
  b1 : l.n1 ≤ 140737488355328
  b2 : l.n2 ≤ 140737488355328
  b3 : l.n3 ≤ 140737488355328
  b4 : l.n4 ≤ 140737488355328
theorem RdPg.below {w w' : World} {l : Lay} {P : Pg} (h : RdPg w l P) (hb : Below w.heap.size w w') : RdPg w' l P :=
  ⟨h.kind, h.txn, h.next, h.items.below hb, h.kids.below hb, h.data.below hb, h.ids.below hb, h.t0, h.t1, h.b1, h.b2, h.b3, h.b4⟩
theorem RdPg.n1 {w : World} {l : Lay} {P : Pg} (h : RdPg w l P) : P.items.length = l.n1 := h.items.1
theorem RdPg.n2 {w : World} {l : Lay} {P : Pg} (h : RdPg w l P) : P.kids.length = l.n2 := h.kids.1
theorem RdPg.n3 {w : World} {l : Lay} {P : Pg} (h : RdPg w l P) : P.data.length = l.n3 := h.data.1
theorem RdPg.n4 {w : World} {l : Lay} {P : Pg} (h : RdPg w l P) : P.ids.length = l.n4 := h.ids.1

/-! ### what is right -/
def isPg (i : Int) : Bool := decide (1 ≤ i) && decide (i < 1024)
def itemOk (x : Itm) : Bool := decide (x.key.length ≤ 32) && decide (0 ≤ x.size) && decide (x.size ≤ 4096) &&
  (if x.size ≤ 64 then decide ((x.val.length : Int) = x.size) && decide (x.more = 0) else decide (x.val.length = 0) && isPg x.more)
def kidOk (x : Kd) : Bool := decide (x.key.length ≤ 32) && isPg x.page
/-- Each one right, and above the one ahead: the first k of them. -/
def ordU {α : Type} (ok : α → Bool) (cmp : α → α → Int) (I : List α) (k : Nat) : Bool :=
  (List.range k).all fun i => match I[i]? with
    | none => true
    | some x => ok x && (i == 0 || match I[i - 1]? with | none => true | some y => decide (cmp y x < 0))
def cmpI (a b : Itm) : Int := ordB a.key b.key
def cmpK (a b : Kd) : Int := ordB a.key b.key
def cmpN (a b : Int) : Int := if a < b then -1 else if b < a then 1 else 0
def ownB (P : Pg) : Bool := decide (1 ≤ P.kind) && decide (P.kind ≤ 4) &&
  (decide (P.kind = 1) || decide (P.items.length = 0)) && (decide (P.kind = 2) || decide (P.kids.length = 0)) && (decide (P.kind = 3) || decide (P.data.length = 0)) && (decide (P.kind = 4) || decide (P.ids.length = 0)) &&
  (decide (P.kind = 4) || decide (0 < P.items.length + P.kids.length + P.data.length + P.ids.length))
def nextB (P : Pg) : Bool := decide (P.next = 0) || (decide (P.kind ≠ 1) && decide (P.kind ≠ 2) && isPg P.next)
def thingsB (P : Pg) : Bool := ordU itemOk cmpI P.items P.items.length && ordU kidOk cmpK P.kids P.kids.length && ordU isPg cmpN P.ids P.ids.length
def itemUse (x : Itm) : Nat := 3 + x.key.length + (if x.size ≤ 64 then x.val.length else 4)
def kidUse (x : Kd) : Nat := 5 + x.key.length
def usedN (P : Pg) : Nat := P.data.length + P.ids.length * 4 + (P.items.map itemUse).sum + (P.kids.map kidUse).sum
def rightB (P : Pg) : Bool := ownB P && nextB P && thingsB P && decide (usedN P ≤ 237)
end Go.Proofs.YtfgpkgenahlikaaDoor
