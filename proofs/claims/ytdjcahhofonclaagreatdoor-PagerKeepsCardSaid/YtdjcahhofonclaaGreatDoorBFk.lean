/-
  Texts laid together: Fk.
-/
import Derived.Test.YtdjcahhofonclaaGreatDoorBFr6
import Derived.Test.YtdjcahhofonclaaGreatDoorBDk
section
/-
  A set of numbers kept in a map from numbers to bools; free's List beside two such maps, and what its methods leave of them.
-/
namespace Go.Proofs.YtdjcahhofonclaaGreatDoor
open Go.ChangeShapes Go.WideShapes Go.ChangeAt Go.RowKit
open Go.ChangeMaps Go.MapKept
set_option linter.unusedVariables false

def setF (X : List Int) (x : Int) : Option Value := if x ∈ X then some (.bool true) else none
theorem setF_some (X : List Int) (x : Int) : (setF X x).isSome = decide (x ∈ X) := by unfold setF; split <;> simp_all
theorem ownsMap_tight {H : Type} {P : Program} {k : TypeId} {R : Value → Option (DataW H × List MemPlace)} {w : World} {b n : Nat} {D : DataW H} (h : w.ownsMap P k R b n D) : w.ownsMap P k R b (Maps.size D) D := by
  obtain ⟨es, clock, hb, F, hs, rfl⟩ := h
  exact ⟨es, clock, hb, F, by simp [Maps.size, length_sorted], rfl⟩
/-- Block m of w is a map that has just these keys, each with true. -/
def MSet (w : World) (m : Nat) (X : List Int) : Prop := Rising X ∧ ∃ D, w.ownsMap Tryz.prog 3 valR m X.length D ∧ Ca D (setF X) ∧ Maps.size D = X.length
theorem boolU : Tryz.prog.underlying 125 = some (.map 3 4) := by kernel_rfl
theorem boolZ (w : World) : (zeroValue 4).run Tryz.prog w = .ok (.bool false) w := (zero_of_info (show (Tryz.prog.info? 4).map (fun i => (i.zero, i.size)) = some (some (.bool false), 1) by kernel_rfl)).1 w
theorem length_addI (x : Int) (X : List Int) : (addI x X).length = if x ∈ X then X.length else X.length + 1 := by
  unfold addI
  split
  · rfl
  · exact ins_length x X
def delI (x : Int) (X : List Int) : List Int := X.filter fun y => !decide (y = x)
theorem mem_delI {x z : Int} {X : List Int} : z ∈ delI x X ↔ z ∈ X ∧ z ≠ x := by simp [delI]
theorem Rising.delI {X : List Int} (h : Rising X) (x : Int) : Rising (delI x X) := List.Pairwise.sublist List.filter_sublist h
theorem length_delI {X : List Int} (h : Rising X) (x : Int) : (delI x X).length + (if x ∈ X then 1 else 0) = X.length := by
  induction X with
  | nil => rfl
  | cons y r ih =>
    obtain ⟨h1, h2⟩ := Rising.cons.1 h
    have ih := ih h2
    by_cases e : y = x
    · subst e
      have hn : y ∉ r := fun hm => by have := h1 y hm; omega
      rw [if_neg hn] at ih
      have e1 : YtdjcahhofonclaaGreatDoor.delI y (y :: r) = YtdjcahhofonclaaGreatDoor.delI y r := by simp [YtdjcahhofonclaaGreatDoor.delI]
      rw [e1, if_pos (List.mem_cons_self ..), List.length_cons]
      omega
    · have e1 : YtdjcahhofonclaaGreatDoor.delI x (y :: r) = y :: YtdjcahhofonclaaGreatDoor.delI x r := by simp [YtdjcahhofonclaaGreatDoor.delI, e]
      rw [e1, List.length_cons, List.length_cons]
      have e2 : (x ∈ y :: r) = (x ∈ r) := by simp [Ne.symm e]
      simp only [e2]
      omega
theorem delI_head {x : Int} {S : List Int} (h : Rising (x :: S)) : delI x (x :: S) = S := by
  obtain ⟨h1, h2⟩ := Rising.cons.1 h
  have e1 : delI x (x :: S) = delI x S := by simp [delI]
  rw [e1, delI, List.filter_eq_self]
  intro z hz
  have := h1 z hz
  simp; omega

section
variable {w w' : World} {m : Nat} {X Y : List Int}
theorem MSet.lt (h : MSet w m X) : m < w.heap.size := by obtain ⟨_, _, h, _⟩ := h; exact h.lt
theorem MSet.keep (h : MSet w m X) (e : w'.heap[m]? = w.heap[m]?) : MSet w' m X := by
  obtain ⟨hR, D, ⟨es, clock, hb, r⟩, hc⟩ := h
  exact ⟨hR, D, ⟨es, clock, e.trans hb, r⟩, hc⟩
theorem MSet.below (h : MSet w m X) (hb : Below w.heap.size w w') : MSet w' m X := h.keep (hb.block m h.lt)
theorem MSet.kind (h : MSet w m X) : ∃ es clock, w.heap[m]? = some (.map es clock) := by
  obtain ⟨_, D, ⟨es, clock, hb, r⟩, hc⟩ := h
  exact ⟨es, clock, hb⟩
theorem MSet.mv (h : MSet w m X) : Mv w m X.length (setF X) := by
  obtain ⟨_, D, h, hc, _⟩ := h
  exact ⟨D, h, hc⟩
theorem MSet.made (w : World) : MSet (w.alloc (.map #[] 0)) w.heap.size [] := by
  refine ⟨Rising.nil_, _, World.ownsMap_made w _ _ _, ?_, rfl⟩
  have e : setF [] = fun _ => none := by funext x; simp [setF]
  rw [e]
  exact Ca.empty
theorem MSet.look (h : MSet w m X) {x : Int} (hx : Wf x) : (Instr.lookup 125 (.map (some m)) (.int .i64 x) false).run Tryz.prog w = .ok (.bool (decide (x ∈ X))) w := by
  rw [h.mv.look1 boolU (boolZ w) hx]
  have e : (setF X x).getD (Value.bool false) = .bool (decide (x ∈ X)) := by unfold setF; split <;> simp_all
  rw [e]
theorem MSet.len (h : MSet w m X) (ty : TypeId) : (Builtin.len_ #[125] ty #[.map (some m)]).run Tryz.prog w = .ok (.int .i64 (X.length : Int)) w := by
  obtain ⟨_, D, h, hc, hs⟩ := h
  rw [h.len boolU ty, hs]
theorem MSet.put (h : MSet w m X) (hk : X.length < maxLen) {x : Int} (hx : Wf x) :
    ∃ w', (Instr.mapUpdate 125 (.map (some m)) (.int .i64 x) (.bool true)).run Tryz.prog w = .ok () w' ∧ MSet w' m (addI x X) ∧ w.grownBy w' (some m) := by
  obtain ⟨hR, D, h, hc, hs⟩ := h
  obtain ⟨w', hrun, h', ht⟩ := h.store keyI boolU hk (val := .bool true) (d := .held (.bool true)) (ps := []) (key_mk hx) rfl
  have hsz : Maps.size (D.put (.int .i64 x) (.held (.bool true))) = (addI x X).length := by
    rw [Maps.size_put (h.tidy keyI), hc.is, setF_some, hs, length_addI]
    simp
  refine ⟨w', hrun, ⟨hR.addI x, _, by rw [← hsz]; exact ownsMap_tight h', ?_, hsz⟩, ht.grown⟩
  have hp := hc.put h.isMap (x := x) (.bool true)
  have e : (fun y => if y = x then some (.bool true) else setF X y) = setF (addI x X) := by
    funext y
    by_cases hy : y = x
    · subst hy
      rw [if_pos rfl, setF, if_pos (mem_addI.2 (.inl rfl))]
    · rw [if_neg hy, setF, setF]
      by_cases hm : y ∈ X
      · rw [if_pos hm, if_pos (mem_addI.2 (.inr hm))]
      · rw [if_neg hm, if_neg (fun h => by rcases mem_addI.1 h with h | h; exact hy h; exact hm h)]
  rw [← e]
  exact hp
theorem Ca.del {D : DataW Value} {f : Int → Option Value} (h : Ca D f) (x : Int) : Ca (D.del (.int .i64 x)) (fun y => if y = x then none else f y) := by
  intro y
  by_cases hy : y = x
  · subst hy
    simp only [if_true]
    exact ⟨fun _ => ⟨Maps.has_del_same, fun z => Maps.atKey_del_same z⟩, fun u hu => by cases hu⟩
  · simp only [hy, if_false]
    have hne := lit_ne hy
    refine ⟨fun e => ?_, fun u hu => ?_⟩
    · rw [Maps.has_del_other hne]
      exact ⟨((h y).1 e).1, fun z => by rw [Maps.atKey_del_other hne]; exact ((h y).1 e).2 z⟩
    · rw [Maps.has_del_other hne]
      exact ⟨((h y).2 u hu).1, fun z => by rw [Maps.atKey_del_other hne]; exact ((h y).2 u hu).2 z⟩
theorem MSet.drop (h : MSet w m X) {x : Int} (hx : Wf x) (ty : TypeId) :
    ∃ w', (Builtin.delete_ #[125, 3] ty #[.map (some m), .int .i64 x]).run Tryz.prog w = .ok (.tuple #[]) w' ∧ MSet w' m (delI x X) ∧ w.grownBy w' (some m) := by
  obtain ⟨hR, D, h, hc, hs⟩ := h
  obtain ⟨w', hrun, h', ht⟩ := h.drop keyI boolU (key_mk hx) ty
  have hsz : Maps.size (D.del (.int .i64 x)) = (delI x X).length := by
    have h1 := Maps.size_del (k := .int .i64 x) (h.tidy keyI)
    have h2 := length_delI hR x
    rw [hc.is, setF_some, hs] at h1
    have h3 : (if decide (x ∈ X) = true then 1 else 0) = (if x ∈ X then 1 else 0 : Nat) := by simp
    rw [h3] at h1
    omega
  refine ⟨w', hrun, ⟨hR.delI x, _, by rw [← hsz]; exact ownsMap_tight h', ?_, hsz⟩, ht.grown⟩
  have hp := hc.del x
  have e : (fun y => if y = x then none else setF X y) = setF (delI x X) := by
    funext y
    by_cases hy : y = x
    · subst hy
      rw [if_pos rfl, setF, if_neg (fun h => (mem_delI.1 h).2 rfl)]
    · rw [if_neg hy, setF, setF]
      by_cases hm : y ∈ X
      · rw [if_pos hm, if_pos (mem_delI.2 ⟨hm, hy⟩)]
      · rw [if_neg hm, if_neg (fun h => hm (mem_delI.1 h).1)]
  rw [← e]
  exact hp
end

section
variable {ops : Array Oper} {rest : List Oper} {op : Oper} {a : Act} {w : World} {Q : Exit → Act → World → Prop} {m : Nat} {X : List Int}
theorem wpList_put_ms (hgd : op.guard = none) (x y v : Operand) (ho : op.op = .mapUpdate 125 x y v) (h : MSet w m X) (hk : X.length < maxLen) (hx : a.eval x = .map (some m)) (p : Int) (hy : a.eval y = .int .i64 p) (hp : Wf p) (hv : a.eval v = .bool true)
    (hK : ∀ w', MSet w' m (addI p X) → w.grownBy w' (some m) → wpList Tryz.prog ops Q rest (a.put op.dst undef) w') : wpList Tryz.prog ops Q (op :: rest) a w :=
  wpList_plain hgd fun _ hK' => by
    obtain ⟨w', hrun, h1, h2⟩ := h.put hk hp
    unfold Oper.wp
    simp [execOp, ho, hx, hy, hv, hrun, Result.andThen]
    exact hK' _ _ (hK w' h1 h2)
theorem wpList_del_ms (hgd : op.guard = none) (x y : Operand) (ho : op.op = .call { callee := .builtin .delete, args := #[x, y], argTypes := #[125, 3] }) (h : MSet w m X) (hx : a.eval x = .map (some m)) (p : Int) (hy : a.eval y = .int .i64 p) (hp : Wf p)
    (hK : ∀ w', MSet w' m (delI p X) → w.grownBy w' (some m) → wpList Tryz.prog ops Q rest (a.put op.dst (.tuple #[])) w') : wpList Tryz.prog ops Q (op :: rest) a w :=
  wpList_plain hgd fun _ hK' => by
    obtain ⟨w', hrun, h1, h2⟩ := h.drop hp op.type
    unfold Oper.wp
    simp [execOp, ho, resolve, invoke, builtin, hx, hy, hrun, Result.andThen]
    exact hK' _ _ (hK w' h1 h2)
end

/-! ### free's List beside two sets -/
theorem Lst.cells {w : World} {f : Fl} {s : FSt} (h : Lst w f s) {j : Nat} (hj : f.own j) : ∃ cs t q, w.heap[j]? = some (.cells cs t q) := by
  have own : ∀ {A : Option Addr} {n c : Nat} {S : List Int}, OwI w A n c S → blkOf A = some j → ∃ cs t q, w.heap[j]? = some (.cells cs t q) := fun ho hA => by
    rcases ho.form with ⟨rfl, _⟩ | ⟨g, cur, rfl, hg, _⟩
    · cases hA
    · cases hA; exact ⟨_, _, _, hg⟩
  rcases hj with rfl | hj | hj
  · exact ⟨_, _, _, h.2.1⟩
  · exact own h.2.2.1 hj
  · exact own h.2.2.2.1 hj
theorem Lst.apart {w : World} {f : Fl} {s : FSt} {m : Nat} {X : List Int} (h : Lst w f s) (hm : MSet w m X) : ¬ f.own m := fun ho => by
  obtain ⟨cs, t, q, e⟩ := h.cells ho
  obtain ⟨es, clock, e'⟩ := hm.kind
  rw [e] at e'
  cases e'
theorem MSet.left {w w' : World} {f : Fl} {s s' : FSt} {m : Nat} {X : List Int} (hm : MSet w m X) (h : Lst w f s) (l : LLeft w w' f s') : MSet w' m X := by
  obtain ⟨f', h1, h2, h3, h4⟩ := l
  exact hm.keep (h3.block m hm.lt (h.apart hm))
theorem Lst.typed {w : World} {f : Fl} {s : FSt} (h : Lst w f s) {j : Nat} (hj : f.own j) : ∃ cs t q, w.heap[j]? = some (.cells cs t q) ∧ (t = 167 ∨ t = 3) := by
  have own : ∀ {A : Option Addr} {n c : Nat} {S : List Int}, OwI w A n c S → blkOf A = some j → ∃ cs t q, w.heap[j]? = some (.cells cs t q) ∧ (t = 167 ∨ t = 3) := fun ho hA => by
    rcases ho.form with ⟨rfl, _⟩ | ⟨g, cur, rfl, hg, _⟩
    · cases hA
    · cases hA; exact ⟨_, _, _, hg, .inr rfl⟩
  rcases hj with rfl | hj | hj
  · exact ⟨_, _, _, h.2.1, .inl rfl⟩
  · exact own h.2.2.1 hj
  · exact own h.2.2.2.1 hj
/-- The list at r, and the two sets at ms and mh, all new to an elder world. -/
structure FO (a : World) (r ms mh : Nat) (s : FSt) (X Y : List Int) (w : World) : Prop where
  mine : Mine a r s w
  one : MSet w ms X
  two : MSet w mh Y
  ne : ms ≠ mh
  new1 : a.heap.size ≤ ms
  new2 : a.heap.size ≤ mh
section
variable {a w w' : World} {r ms mh : Nat} {s : FSt} {X Y : List Int}
theorem FO.below (h : FO a r ms mh s X Y w) (hb : Below w.heap.size w w') : FO a r ms mh s X Y w' := ⟨h.mine.below hb, h.one.below hb, h.two.below hb, h.ne, h.new1, h.new2⟩
theorem FO.alloc (h : FO a r ms mh s X Y w) (o : Obj) : FO a r ms mh s X Y (w.alloc o) := h.below ((Below.refl _ _).alloc (Nat.le_refl _) _)
theorem FO.drewN (h : FO a r ms mh s X Y w) (q : Nat) : FO a r ms mh s X Y (w.drewN q) := h.below ⟨rfl, rfl, rfl, Nat.le_refl _, fun _ _ => rfl⟩
theorem FO.drew (h : FO a r ms mh s X Y w) : FO a r ms mh s X Y w.drew := h.below ⟨rfl, rfl, rfl, Nat.le_refl _, fun _ _ => rfl⟩
theorem FO.made (h : Mine a r s w) : FO a r w.heap.size (w.heap.size + 1) s [] [] ((w.alloc (.map #[] 0)).alloc (.map #[] 0)) := by
  have h1 : Mine a r s (w.alloc (.map #[] 0)) := h.below ((Below.refl _ _).alloc (Nat.le_refl _) _)
  have h2 : Mine a r s ((w.alloc (.map #[] 0)).alloc (.map #[] 0)) := h1.below ((Below.refl _ _).alloc (Nat.le_refl _) _)
  have hs : (w.alloc (.map #[] 0)).heap.size = w.heap.size + 1 := by simp
  have h3 := MSet.made (w.alloc (.map #[] 0))
  rw [hs] at h3
  exact ⟨h2, (MSet.made w).below ((Below.refl _ _).alloc (Nat.le_refl _) _), h3, by omega, h.1.size, Nat.le_succ_of_le h.1.size⟩
theorem FO.bel (h : FO a r ms mh s X Y w) : Below a.heap.size a w := h.mine.1
/-- A block that is a set of its own, or that no one has, has turned. -/
theorem FO.mine_grown (h : FO a r ms mh s X Y w) {b : Nat} (hg : w.grownBy w' (some b)) (hb : a.heap.size ≤ b) (hn : ∀ f : Fl, f.r = r → Lst w f s → ¬ f.own b) : Mine a r s w' := by
  obtain ⟨h1, f, h2, h3, h4⟩ := h.mine
  refine ⟨⟨hg.os.trans h1.os, hg.tape.trans h1.tape, hg.output.trans h1.output, Nat.le_trans h1.size hg.size, fun j hj => (hg.block j (Nat.lt_of_lt_of_le hj h1.size) (fun e => by have := Option.some.inj e; omega)).trans (h1.block j hj)⟩, f, h2, ?_, h4⟩
  exact h3.same fun j hj => hg.block j (h3.lt hj) (fun e => hn f h2 h3 (by rw [← Option.some.inj e]; exact hj))
theorem FO.put1 (h : FO a r ms mh s X Y w) {X' : List Int} (h1 : MSet w' ms X') (hg : w.grownBy w' (some ms)) : FO a r ms mh s X' Y w' :=
  ⟨h.mine_grown hg h.new1 (fun f _ hl => hl.apart h.one), h1, h.two.keep (hg.block mh h.two.lt (fun e => h.ne (Option.some.inj e).symm)), h.ne, h.new1, h.new2⟩
theorem FO.put2 (h : FO a r ms mh s X Y w) {Y' : List Int} (h1 : MSet w' mh Y') (hg : w.grownBy w' (some mh)) : FO a r ms mh s X Y' w' :=
  ⟨h.mine_grown hg h.new2 (fun f _ hl => hl.apart h.two), h.one.keep (hg.block ms h.one.lt (fun e => h.ne (Option.some.inj e))), h1, h.ne, h.new1, h.new2⟩
theorem FO.left {f : Fl} {s' : FSt} (h : FO a r ms mh s X Y w) (hr : f.r = r) (hl : Lst w f s) (ho : ∀ j, f.own j → a.heap.size ≤ j) (l : LLeft w w' f s') : FO a r ms mh s' X Y w' := by
  subst hr
  exact ⟨l.mine h.bel ho, h.one.left hl l, h.two.left hl l, h.ne, h.new1, h.new2⟩
theorem take_fo (h : FO a r ms mh s X Y w) : Calls Tryz.prog 60 #[.pointer (some ⟨r, 0, none⟩)] w fun e w' => e = .returned (.tuple #[.int .i64 s.taken.1, .int .i64 s.taken.2]) ∧ Hid (FO a r ms mh s.take X Y w') := by
  obtain ⟨h1, f, hr, h3, h4⟩ := h.mine
  rw [← hr]
  refine (ftake_any f s w h3).mono ?_
  rintro e w' ⟨rfl, l⟩
  exact ⟨rfl, kept (by rw [hr]; exact h.left hr h3 h4 l.out)⟩
theorem settle_fo (h : FO a r ms mh s X Y w) : Calls Tryz.prog 81 #[.pointer (some ⟨r, 0, none⟩)] w fun e w' => e = .returned (.tuple #[]) ∧ Hid (FO a r ms mh s.settle X Y w') := by
  obtain ⟨h1, f, hr, h3, h4⟩ := h.mine
  rw [← hr]
  refine (settle_any f s w h3).mono ?_
  rintro e w' ⟨rfl, l⟩
  exact ⟨rfl, kept (by rw [hr]; exact h.left hr h3 h4 l.out)⟩
theorem room_fo (h : FO a r ms mh s X Y w) : Calls Tryz.prog 58 #[.pointer (some ⟨r, 0, none⟩)] w fun e w' => e = .returned (.int .i64 (s.S.length : Int)) ∧ w = w' := room_mine h.mine
theorem held_fo (h : FO a r ms mh s X Y w) : Calls Tryz.prog 80 #[.pointer (some ⟨r, 0, none⟩)] w fun e w' => ∃ A c, e = .returned (.slice A s.H.length c) ∧ Hid (FO a r ms mh s X Y w') := by
  refine (held_mine h.mine).mono ?_
  rintro e w' ⟨A, c, rfl, hs⟩
  exact ⟨A, c, rfl, kept (h.below hs.out.2.1)⟩
end

/-! ### one set poured into the other -/
theorem below_none {w w' : World} (hg : w.grownBy w' none) : Below w.heap.size w w' := ⟨hg.os, hg.tape, hg.output, hg.size, fun k hk => hg.block k hk (by simp)⟩
structure Pour (a : World) (r ms mh it : Nat) (s : FSt) (X Y : List Int) (lf : Int → Bool) (Z : List Int) (cnt : Nat) (w : World) : Prop where
  rg : Rg w mh it Y.length (setF Y) lf cnt
  fo : FO a r ms mh s Z Y w
  sub : ∀ x, lf x = true → x ∈ Y
  mem : ∀ x, x ∈ Z ↔ x ∈ X ∨ (x ∈ Y ∧ lf x = false)
  new : a.heap.size ≤ it
section
variable {a w w' w'' : World} {r ms mh it cnt cnt' : Nat} {s : FSt} {X Y Z : List Int} {lf : Int → Bool}
theorem Pour.start (h : FO a r ms mh s X Y w) (hr : Rg w' mh w.heap.size Y.length (setF Y) (fun x => (setF Y x).isSome) cnt) (hg : w.grownBy w' none) : Pour a r ms mh w.heap.size s X Y (fun x => (setF Y x).isSome) X cnt w' := by
  refine ⟨hr, h.below (below_none hg), fun x hx => ?_, fun x => ?_, h.bel.size⟩
  · simpa [setF_some] using hx
  · rw [setF_some]
    constructor
    · exact .inl
    · rintro (h1 | ⟨h1, h2⟩)
      · exact h1
      · simp [h1] at h2
theorem Pour.ne (h : Pour a r ms mh it s X Y lf Z cnt w) : it ≠ ms ∧ it ≠ mh := by
  obtain ⟨p, q, u, v, e⟩ := h.rg.iter
  constructor
  · rintro rfl
    obtain ⟨es, cl, e'⟩ := h.fo.one.kind
    rw [e] at e'; cases e'
  · rintro rfl
    obtain ⟨es, cl, e'⟩ := h.fo.two.kind
    rw [e] at e'; cases e'
theorem Pour.next (h : Pour a r ms mh it s X Y lf Z cnt w) (hg : w.grownBy w' (some it)) : FO a r ms mh s Z Y w' :=
  ⟨h.fo.mine_grown hg h.new (fun f _ hl ho => by
    obtain ⟨cs, t, q, e⟩ := hl.cells ho
    obtain ⟨p, q, u, v, e'⟩ := h.rg.iter
    rw [e] at e'; cases e'), h.fo.one.keep (hg.block ms h.fo.one.lt (fun e => h.ne.1 (Option.some.inj e).symm)), h.fo.two.keep (hg.block mh h.fo.two.lt (fun e => h.ne.2 (Option.some.inj e).symm)), h.fo.ne, h.fo.new1, h.fo.new2⟩
theorem Pour.step (h : Pour a r ms mh it s X Y lf Z cnt w) {p : Int} (hp : lf p = true) (hf : FO a r ms mh s Z Y w') (hr : Rg w' mh it Y.length (setF Y) (fun y => lf y && !decide (y = p)) cnt') (hm : MSet w'' ms (addI p Z)) (hg : w'.grownBy w'' (some ms)) :
    Pour a r ms mh it s X Y (fun y => lf y && !decide (y = p)) (addI p Z) cnt' w'' := by
  refine ⟨hr.kept hg (fun e => h.fo.ne (Option.some.inj e).symm) (fun e => h.ne.1 (Option.some.inj e)), hf.put1 hm hg, fun x hx => ?_, fun x => ?_, h.new⟩
  · simp only [Bool.and_eq_true] at hx
    exact h.sub x hx.1
  · rw [mem_addI, h.mem]
    have hpY := h.sub p hp
    by_cases e : x = p
    · subst e
      simp [hpY]
    · simp [e]
theorem Pour.done (h : Pour a r ms mh it s X Y lf Z cnt w) (hl : ∀ x, lf x = false) (hX : Rising X) : FO a r ms mh s (addAll X Y) Y w := by
  have e : Z = addAll X Y := Rising.uniq h.fo.one.1 (hX.addAll Y) fun z => by
    rw [h.mem, mem_addAll, hl]
    simp
  have := h.fo
  rwa [e] at this
theorem FO.renew (h : FO a r ms mh s X Y w) : FO a r ms w.heap.size s X [] (w.alloc (.map #[] 0)) := by
  have h1 := h.alloc (.map #[] 0)
  exact ⟨h1.mine, h1.one, MSet.made w, fun e => by have := h.one.lt; omega, h.new1, h.bel.size⟩
end
/-- .. the sets are the list's own, and nothing is both. -/
structure FOD (a : World) (r ms mh : Nat) (s : FSt) (w : World) : Prop where
  fo : FO a r ms mh s s.S s.H w
  dis : ∀ x, x ∈ s.S → x ∉ s.H
theorem FOD.alloc {a w : World} {r ms mh : Nat} {s : FSt} (h : FOD a r ms mh s w) (o : Obj) : FOD a r ms mh s (w.alloc o) := ⟨h.fo.alloc o, h.dis⟩
theorem FSt.ok.wf {s : FSt} (h : s.ok) : (∀ x ∈ s.S, Wf x) ∧ (∀ x ∈ s.H, Wf x) ∧ s.S.length < maxLen ∧ s.H.length < maxLen := by
  have hs := h.short
  refine ⟨fun x hx => ?_, fun x hx => ?_, by unfold maxLen; omega, by unfold maxLen; omega⟩
  · have := h.2.2.2.2.1 x hx
    have := h.2.1
    unfold Wf; omega
  · have := h.2.2.2.2.2 x hx
    have := h.2.1
    unfold Wf; omega
end Go.Proofs.YtdjcahhofonclaaGreatDoor
end
