/-
  Texts laid together: Fr6 Fd Fo Qa.
-/
import Derived.Test.YtdjcahhofonclaaGreatDoorBFm
import Derived.Test.YtdjcahhofonclaaGreatDoorBRows2
import Derived.Test.YtdjcahhofonclaaGreatDoorBRows3
import Derived.Maps.AppendAt
section
/-
  What the laws of layer 6 share: the lists that arguments read as, and plain facts on lists built up.
-/
namespace Go.Proofs.YtdjcahhofonclaaGreatDoor
open Go.ChangeShapes Go.WideShapes Go.ChangeAt Go.RowKit
set_option linter.unusedVariables false

def lstOf (Z : Nat → Int) (n : Nat) : List Int := (List.range n).map Z
theorem lstOf_length (Z : Nat → Int) (n : Nat) : (lstOf Z n).length = n := by simp [lstOf]
theorem lstOf_get (Z : Nat → Int) (n k : Nat) (h : k < (lstOf Z n).length) : (lstOf Z n)[k] = Z k := by simp [lstOf]
theorem vals_cell {w : World} {A : Option Addr} {n : Nat} {V : Nat → Value} (h : RdVals w A n V) (hn : 0 < n) : ∃ b o, A = some ⟨b, o, none⟩ ∧ ∀ j, j < n → w.cell? ⟨b, o + j, none⟩ = some (V j) := by
  obtain ⟨⟨b, o, s⟩, e, hc⟩ := h hn
  have hs : s = none := by
    have := World.cell?_spot (hc 0 (by omega))
    simpa [Addr.add] using this
  subst hs
  refine ⟨b, o, e, fun j hj => ?_⟩
  have := hc j hj
  rwa [show (⟨b, o, none⟩ : Addr).add j = ⟨b, o + j, none⟩ by unfold Addr.add; split <;> simp_all] at this
theorem RdI.of_vals {w : World} {A : Option Addr} {n : Nat} {Z : Nat → Int} (h : RdVals w A n (fun i => .int .i64 (Z i))) : RdI w A n (lstOf Z n) := by
  refine ⟨lstOf_length Z n, fun hn => ?_⟩
  obtain ⟨b, o, e, hc⟩ := vals_cell h hn
  exact ⟨b, o, e, fun j hj => by rw [lstOf_get]; exact hc j (by rwa [lstOf_length] at hj)⟩
theorem length_addAll {S Z : List Int} (hZ : Z.Nodup) (h : ∀ x ∈ Z, x ∉ S) : (addAll S Z).length = S.length + Z.length := by
  induction Z generalizing S with
  | nil => rfl
  | cons y r ih =>
    obtain ⟨h1, h2⟩ := List.nodup_cons.1 hZ
    have hy : y ∉ S := h y (List.mem_cons_self ..)
    show (addAll (addI y S) r).length = _
    rw [ih h2 (fun x hx hm => by
      rcases mem_addI.1 hm with rfl | hm
      · exact h1 hx
      · exact h x (List.mem_cons_of_mem _ hx) hm)]
    unfold addI
    rw [if_neg hy, ins_length, List.length_cons]
    omega
theorem newErr_zero {z : Int} {Z : List Int} (h : newErr z Z = 0) : (8 ≤ z ∧ z ≤ 1024) ∧ (∀ x ∈ Z, 2 ≤ x ∧ x < z) ∧ Z.Nodup := by
  unfold newErr at h
  split at h
  · cases h
  · split at h
    · split at h
      · rename_i h1 h2 h3
        refine ⟨by omega, fun x hx => ?_, h3⟩
        have := List.all_eq_true.1 h2 x hx
        simpa [finB] using this
      · cases h
    · cases h
theorem newErr_perm {z : Int} {Z Y : List Int} (h : Z.Perm Y) : newErr z Z = newErr z Y := by
  have h1 : Z.all (finB z) = Y.all (finB z) := by
    apply Bool.eq_iff_iff.2
    simp only [List.all_eq_true]
    exact ⟨fun k x hx => k x (h.mem_iff.2 hx), fun k x hx => k x (h.mem_iff.1 hx)⟩
  unfold newErr
  rw [h1]
  simp only [h.nodup_iff]
/-- A list of the caller's own, in a world behind an elder one. -/
def Mine (a : World) (r : Nat) (s : FSt) (w : World) : Prop := Below a.heap.size a w ∧ ∃ f : Fl, f.r = r ∧ Lst w f s ∧ ∀ j, f.own j → a.heap.size ≤ j
theorem LLeft.mine {a w w' : World} {f : Fl} {s : FSt} (h : LLeft w w' f s) (hb : Below a.heap.size a w) (ho : ∀ j, f.own j → a.heap.size ≤ j) : Mine a f.r s w' := h.only_new hb ho
theorem Mine.below {a w w' : World} {r : Nat} {s : FSt} (h : Mine a r s w) (hb : Below w.heap.size w w') : Mine a r s w' := by
  obtain ⟨h1, f, h2, h3, h4⟩ := h
  exact ⟨h1.trans (hb.mono h1.size), f, h2, h3.below hb, h4⟩
section
variable {a w : World} {r : Nat} {s : FSt}
theorem take_mine (h : Mine a r s w) : Calls Tryz.prog 60 #[.pointer (some ⟨r, 0, none⟩)] w fun e w' => e = .returned (.tuple #[.int .i64 s.taken.1, .int .i64 s.taken.2]) ∧ Hid (Mine a r s.take w') := by
  obtain ⟨h1, f, rfl, h3, h4⟩ := h
  refine (ftake_any f s w h3).mono ?_
  rintro e w' ⟨rfl, h⟩
  exact ⟨rfl, kept (h.out.mine h1 h4)⟩
theorem give_mine (h : Mine a r s w) (x : Int) : Calls Tryz.prog 48 #[.pointer (some ⟨r, 0, none⟩), .int .i64 x] w fun e w' => e = .returned (.int .i64 (s.may x)) ∧ Hid (Mine a r (s.give x) w') := by
  obtain ⟨h1, f, rfl, h3, h4⟩ := h
  refine (give_any f s x w h3).mono ?_
  rintro e w' ⟨rfl, h⟩
  exact ⟨rfl, kept (h.out.mine h1 h4)⟩
theorem hold_mine (h : Mine a r s w) (x : Int) : Calls Tryz.prog 49 #[.pointer (some ⟨r, 0, none⟩), .int .i64 x] w fun e w' => e = .returned (.int .i64 (s.may x)) ∧ Hid (Mine a r (s.hold x) w') := by
  obtain ⟨h1, f, rfl, h3, h4⟩ := h
  refine (hold_any f s x w h3).mono ?_
  rintro e w' ⟨rfl, h⟩
  exact ⟨rfl, kept (h.out.mine h1 h4)⟩
theorem settle_mine (h : Mine a r s w) : Calls Tryz.prog 81 #[.pointer (some ⟨r, 0, none⟩)] w fun e w' => e = .returned (.tuple #[]) ∧ Hid (Mine a r s.settle w') := by
  obtain ⟨h1, f, rfl, h3, h4⟩ := h
  refine (settle_any f s w h3).mono ?_
  rintro e w' ⟨rfl, h⟩
  exact ⟨rfl, kept (h.out.mine h1 h4)⟩
theorem room_mine (h : Mine a r s w) : Calls Tryz.prog 58 #[.pointer (some ⟨r, 0, none⟩)] w fun e w' => e = .returned (.int .i64 (s.S.length : Int)) ∧ w = w' := by
  obtain ⟨h1, f, rfl, h3, h4⟩ := h
  exact froom_any f s w h3
theorem spare_mine (h : Mine a r s w) : Calls Tryz.prog 44 #[.pointer (some ⟨r, 0, none⟩)] w fun e w' => ∃ A c, e = .returned (.slice A s.S.length c) ∧ Hid (Says w w' s.S A c) := by
  obtain ⟨h1, f, rfl, h3, h4⟩ := h
  exact spare_any f s w h3
theorem held_mine (h : Mine a r s w) : Calls Tryz.prog 80 #[.pointer (some ⟨r, 0, none⟩)] w fun e w' => ∃ A c, e = .returned (.slice A s.H.length c) ∧ Hid (Says w w' s.H A c) := by
  obtain ⟨h1, f, rfl, h3, h4⟩ := h
  exact held_any f s w h3
theorem Mine.ok (h : Mine a r s w) : s.ok := by
  obtain ⟨h1, f, rfl, h3, h4⟩ := h
  exact h3.1
theorem Mine.lt (h : Mine a r s w) : a.heap.size ≤ r ∧ r < w.heap.size := by
  obtain ⟨h1, f, rfl, h3, h4⟩ := h
  exact ⟨h4 _ (.inl rfl), h3.lt (.inl rfl)⟩
end
theorem new_mine (z : Int) (A : Option Addr) (n c : Nat) (Z : List Int) (a w : World) (hb : Below a.heap.size a w) (h : RdI w A n Z) (hn : n ≤ 1000000) (he : newErr z Z = 0) :
    Calls Tryz.prog 54 #[.int .i64 z, .slice A n c] w fun e w' => ∃ r : Nat, e = .returned (.tuple #[.pointer (some ⟨r, 0, none⟩), .int .i64 0]) ∧ Hid (Mine a r ⟨z, addAll [] Z, []⟩ w' ∧ Below w.heap.size w w' ∧ w.heap.size ≤ r) := by
  refine (fnew_good z A n c Z w h hn he).mono ?_
  rintro e w' ⟨f, rfl, hr⟩
  obtain ⟨h1, h2, h3⟩ := hr.out
  exact ⟨f.r, rfl, kept ⟨⟨hb.trans (h2.mono hb.size), f, rfl, h1, fun j hj => Nat.le_trans hb.size (h3 j hj)⟩, h2, h3 _ (.inl rfl)⟩⟩
end Go.Proofs.YtdjcahhofonclaaGreatDoor
end

section
/-
  terrierlaw06.do, and acts one behind the other.
-/
namespace Go.Proofs.YtdjcahhofonclaaGreatDoor
open Go.ChangeShapes Go.WideShapes Go.ChangeAt Go.RowKit
set_option linter.unusedVariables false

def FSt.act (s : FSt) (K N : Int) : FSt := if K = 0 then s.take else if K = 1 then s.give N else if K = 2 then s.hold N else s.settle
theorem Mine.alloc {a w : World} {r : Nat} {s : FSt} (h : Mine a r s w) (o : Obj) : Mine a r s (w.alloc o) := h.below ((Below.refl _ _).alloc (Nat.le_refl _) _)
theorem Lst.drewN {w : World} {f : Fl} {s : FSt} (h : Lst w f s) (q : Nat) : Lst (w.drewN q) f s := h
theorem Lst.alloc {w : World} {f : Fl} {s : FSt} (h : Lst w f s) (o : Obj) : Lst (w.alloc o) f s := h.below ((Below.refl _ _).alloc (Nat.le_refl _) _)
theorem LLeft.of_alloc {w w' : World} {o : Obj} {f : Fl} {s : FSt} (h : LLeft (w.alloc o) w' f s) : LLeft w w' f s := LLeft.step ((Turned.refl w _).alloc o) (fun _ hj => .inl hj) rfl h
/-- The pairs at a slice, by block and place. -/
theorem RdPairs.there {w : World} {A : Option Addr} {n : Nat} {K N : Nat → Int} (h : RdPairs w A n K N) {k : Nat} (hk : k < n) :
    ∃ b o, A = some ⟨b, o, none⟩ ∧ w.cell? ⟨b, o + k * 2, none⟩ = some (.int .i64 (K k)) ∧ w.cell? ⟨b, o + k * 2 + 1, none⟩ = some (.int .i64 (N k)) := by
  obtain ⟨⟨b, o, s⟩, e, hc⟩ := h.cell (by omega)
  have hs : s = none := by
    have := World.cell?_spot (hc 0 (by omega)).1
    simpa [Addr.add] using this
  subst hs
  obtain ⟨h0, h1⟩ := hc k hk
  have ha : ∀ j, (⟨b, o, none⟩ : Addr).add j = ⟨b, o + j, none⟩ := fun j => by unfold Addr.add; split <;> simp_all
  rw [ha] at h0 h1
  exact ⟨b, o, e, h0, h1⟩
theorem RdPairs.below {w w' : World} {A : Option Addr} {n : Nat} {K N : Nat → Int} (h : RdPairs w A n K N) (hb : Below w.heap.size w w') : RdPairs w' A n K N := ⟨fun hn => by
  obtain ⟨a, e, hc⟩ := h.cell hn
  refine ⟨a, e, fun i hi => ?_⟩
  obtain ⟨h0, h1⟩ := hc i hi
  exact ⟨(hb.cell (World.block_lt_of_cell? w _ h0)).trans h0, (hb.cell (World.block_lt_of_cell? w _ h1)).trans h1⟩, h.fits⟩
/-- The first k acts done. -/
def FSt.acts (s : FSt) (K N : Nat → Int) : Nat → FSt
  | 0 => s
  | k + 1 => (s.acts K N k).act (K k) (N k)
end Go.Proofs.YtdjcahhofonclaaGreatDoor
end

section
/-
  append of numbers to a slice of the program's own, from any slice; what the law FreeOrders says of plain lists.
-/
namespace Go.Proofs.YtdjcahhofonclaaGreatDoor
open Go.ChangeShapes Go.WideShapes Go.ChangeAt Go.RowKit
set_option linter.unusedVariables false

theorem intinfo : (Tryz.prog.info? 3).map (fun i => (i.zero, i.size, i.bytes)) = some (some (.int .i64 0), 1, 8) := by kernel_rfl
theorem RdI.cells {w : World} {m : Nat} {Y : List Int} {b o : Nat} (h : RdI w (some ⟨b, o, none⟩) m Y) : ∀ j u, (ints Y)[j]? = some u → w.cell? ((⟨b, o, none⟩ : Addr).add j) = some u := fun j u hj => by
  have hjl : j < Y.length := by have := (List.getElem?_eq_some_iff.1 hj).1; rwa [ints_length] at this
  rw [ints_get Y j hjl] at hj
  obtain rfl := Option.some.inj hj
  obtain ⟨b', o', e, hc⟩ := h.at_ (k := j) (by rw [← h.1]; exact hjl)
  cases e
  rw [show (⟨b, o, none⟩ : Addr).add j = ⟨b, o + j, none⟩ by unfold Addr.add; split <;> simp_all]
  exact hc
theorem ints_append (X Y : List Int) : ints (X ++ Y) = ints X ++ ints Y := by simp [ints]
set_option maxRecDepth 100000 in
theorem run_append_i {w : World} {A B : Option Addr} {n c m d : Nat} {X Y : List Int} (h : OwI w A n c X) (hr : RdI w B m Y) (hm : n + m ≤ 1000000) (ty : TypeId) :
    ∃ A' c' w', (Builtin.append_ #[23, 23] ty #[.slice A n c, .slice B m d]).run Tryz.prog w = .ok (.slice A' (n + m) c') w' ∧ OwI w' A' (n + m) c' (X ++ Y) ∧ Turned w w' (fun j => blkOf A = some j) ∧ (∀ g, blkOf A' = some g → blkOf A = some g ∨ w.heap.size ≤ g) := by
  obtain ⟨i, hi, hz, hsz, hby⟩ := info_parts intinfo
  rcases Nat.eq_zero_or_pos m with h0 | h0
  · subst h0
    obtain rfl : Y = [] := List.eq_nil_of_length_eq_zero hr.1
    refine ⟨A, c, w, ?_, by simpa using h, Turned.refl _ _, fun g hg => .inl hg⟩
    have ht := Tryz.underlying23
    rcases h.2.2 with ⟨hv, hn⟩ | ⟨g, cap, cur, hv, _, _, hnc, _⟩
    · injection hv with e1 e2 e3
      subst e1 e2 e3
      cases B <;> simp [Builtin.append_, run_underlying ht, sizeOf, typeInfo, hi, Builtin.lenOf, Builtin.firstCells, loadCells, loadCellsFrom]
    · injection hv with e1 e2 e3
      subst e1 e3
      cases B <;> simp [Builtin.append_, run_underlying ht, sizeOf, typeInfo, hi, Builtin.lenOf, Builtin.firstCells, loadCells, loadCellsFrom, hnc, storeCells]
  · obtain ⟨b, o, rfl, _⟩ := hr.2 h0
    obtain ⟨v', w', hrun, hown', hgrow, _, hloc⟩ := run_append_own_at (P := Tryz.prog) (w := w) 0 23 ty 3 i _ 1 8 Tryz.underlying23 hi hz hsz hby rfl (by decide) _ n (ints X) h.2 ⟨b, o, none⟩ m d (ints Y) (by rw [ints_length, hr.1]; omega) hr.cells (ints_one Y)
      (by unfold maxLen; omega) (by omega) (Nat.zero_le _)
    rw [← ints_append] at hown'
    have hv : ∃ A' c', v' = .slice A' (n + m) c' := by
      rcases hown'.2 with ⟨rfl, h⟩ | ⟨g, cap, cur, rfl, _⟩
      · omega
      · exact ⟨_, _, rfl⟩
    obtain ⟨A', c', rfl⟩ := hv
    have eb : ∀ (A : Option Addr) n c, (Value.slice A n c).ownBlock = blkOf A := fun A n c => by cases A <;> rfl
    rw [eb] at hgrow
    rw [eb, eb] at hloc
    refine ⟨A', c', w', hrun, ⟨by rw [List.length_append, h.1, hr.1], hown'⟩, Turned.of_grown hgrow (fun j hj => hj), fun g hg => ?_⟩
    rcases hloc with h1 | h1
    · exact .inl (h1 ▸ hg)
    · rw [h1] at hg; cases hg; exact .inr (Nat.le_refl _)
theorem wp_append_i {w : World} {o : Oper} {a : Act} {K : Act → World → Prop} {Q : Exit → Act → World → Prop} (s x : Operand) (ho : o.op = .call { callee := .builtin .append, args := #[s, x], argTypes := #[23, 23] })
    {A B : Option Addr} {n c m d : Nat} {X Y : List Int} (hs : a.eval s = .slice A n c) (hx : a.eval x = .slice B m d) (h : OwI w A n c X) (hr : RdI w B m Y) (hm : n + m ≤ 1000000)
    (hK : ∀ A' c' w', OwI w' A' (n + m) c' (X ++ Y) → Turned w w' (fun j => blkOf A = some j) → (∀ g, blkOf A' = some g → blkOf A = some g ∨ w.heap.size ≤ g) → K (a.put o.dst (.slice A' (n + m) c')) w') : o.wp Tryz.prog a w K Q := by
  obtain ⟨A', c', w', hrun, h2, h3, h4⟩ := run_append_i h hr hm o.type (d := d)
  unfold Oper.wp execOp
  simp only [ho, resolve, invoke, builtin, Sem.run_bind, Sem.run_pure, Result.andThen_ok, List.map_toArray, List.map_cons, List.map_nil, hs, hx, hrun]
  exact hK A' c' w' h2 h3 h4
theorem wpList_append_i {w : World} {ops : Array Oper} {rest : List Oper} {o : Oper} {a : Act} {Q : Exit → Act → World → Prop} (hgd : o.guard = none) (s x : Operand) (ho : o.op = .call { callee := .builtin .append, args := #[s, x], argTypes := #[23, 23] })
    {A B : Option Addr} {n c m d : Nat} {X Y : List Int} (hs : a.eval s = .slice A n c) (hx : a.eval x = .slice B m d) (h : OwI w A n c X) (hr : RdI w B m Y) (hm : n + m ≤ 1000000)
    (hK : ∀ A' c' w', OwI w' A' (n + m) c' (X ++ Y) → Turned w w' (fun j => blkOf A = some j) → (∀ g, blkOf A' = some g → blkOf A = some g ∨ w.heap.size ≤ g) → wpList Tryz.prog ops Q rest (a.put o.dst (.slice A' (n + m) c')) w') : wpList Tryz.prog ops Q (o :: rest) a w :=
  wpList_plain hgd fun _ hK' => wp_append_i s x ho hs hx h hr hm fun A' c' w' h2 h3 h4 => hK' _ _ (hK A' c' w' h2 h3 h4)
/-- A slice of no numbers, in a block of its own. -/
theorem OwI.none_new (w : World) : OwI (w.alloc (.cells #[] 3)) (some ⟨w.heap.size, 0, none⟩) 0 0 [] := ⟨rfl, by
  have := World.ownsRow_made (base := 0) (e := 3) (size := 1) w #[] 0 (Nat.zero_le _) (Nat.zero_le _) rfl
  simpa [ints] using this⟩
theorem RdI.take {w : World} {A : Option Addr} {n : Nat} {Z : List Int} (h : RdI w A n Z) {k : Nat} (hk : k ≤ n) : RdI w A k (Z.take k) := by
  refine ⟨by rw [List.length_take, h.1]; omega, fun h0 => ?_⟩
  obtain ⟨b, o, e, hc⟩ := h.2 (by omega)
  exact ⟨b, o, e, fun j hj => by rw [hc j (by rw [List.length_take] at hj; omega)]; simp⟩
theorem RdI.drop {w : World} {b o : Nat} {n : Nat} {Z : List Int} (h : RdI w (some ⟨b, o, none⟩) n Z) {k : Nat} (hk : k ≤ n) : RdI w (some ⟨b, o + k, none⟩) (n - k) (Z.drop k) := by
  refine ⟨by rw [List.length_drop, h.1], fun h0 => ⟨b, o + k, rfl, fun j hj => ?_⟩⟩
  rw [List.length_drop] at hj
  obtain ⟨b', o', e, hc⟩ := h.at_ (k := k + j) (by rw [← h.1]; omega)
  cases e
  rw [Nat.add_assoc, hc]
  simp
theorem turned_perm (Z : List Int) (k : Nat) : (Z.drop k ++ Z.take k).Perm Z := by
  have h := List.perm_append_comm (l₁ := Z.drop k) (l₂ := Z.take k)
  rwa [List.take_append_drop] at h
theorem addAll_perm {Z Y : List Int} (h : Z.Perm Y) : addAll [] Z = addAll [] Y :=
  Rising.uniq (Rising.addAll Rising.nil_ _) (Rising.addAll Rising.nil_ _) fun z => by
    rw [mem_addAll, mem_addAll, h.mem_iff]
end Go.Proofs.YtdjcahhofonclaaGreatDoor
end

section
/-
  package pager's smallest functions: chainLength, first, inBounds, leastRoom; slices.Contains of numbers.
-/
namespace Go.Proofs.YtdjcahhofonclaaGreatDoor
open Go.ChangeShapes Go.WideShapes Go.ChangeAt Go.RowKit
set_option linter.unusedVariables false

def needN (n : Nat) : Nat := (n + 59) / 60
theorem chainLength_any (n : Nat) (w : World) (hn : n ≤ 1000000) :
    Calls Tryz.prog 61 #[.int .i64 (n : Int)] w fun e w' => e = .returned (.int .i64 ((needN n : Nat) : Int)) ∧ w = w' := by
  have h1 : IntKind.i64.wrap ((n : Int) + 59) = (n : Int) + 59 := by simp [IntKind.wrap_i64]; omega
  have h2 : IntKind.i64.wrap (Int.tdiv ((n : Int) + 59) 60) = ((needN n : Nat) : Int) := by
    rw [Int.tdiv_eq_ediv_of_nonneg (by omega)]
    unfold needN
    simp [IntKind.wrap_i64]
    omega
  go_enter Tryz.func61, Tryz.ntmps61
  go_wp2
  go_ret
  exact ⟨rfl, rfl⟩
theorem leastRoom_any (n : Nat) (w : World) (hn : n ≤ 1000000) :
    Calls Tryz.prog 59 #[.int .i64 (n : Int)] w fun e w' => e = .returned (.int .i64 ((n / 60 + 2 : Nat) : Int)) ∧ w = w' := by
  have h2 : IntKind.i64.wrap (Int.tdiv (n : Int) 60) = ((n / 60 : Nat) : Int) := by
    rw [Int.tdiv_eq_ediv_of_nonneg (by omega)]
    simp [IntKind.wrap_i64]
    omega
  have h3 : IntKind.i64.wrap (((n / 60 : Nat) : Int) + 2) = ((n / 60 + 2 : Nat) : Int) := by simp [IntKind.wrap_i64]; omega
  go_enter Tryz.func59, Tryz.ntmps59
  go_wp2
  go_ret
  exact ⟨rfl, rfl⟩
theorem pInBounds_any (x z : Int) (w : World) :
    Calls Tryz.prog 86 #[.int .i64 x, .int .i64 z] w fun e w' => e = .returned (.bool (finB z x)) ∧ w = w' := by
  by_cases h1 : 2 ≤ x
  · by_cases h2 : x < z
    · have hb : finB z x = true := by simp [finB, h1, h2]
      rw [hb]
      go_enter Tryz.func86, Tryz.ntmps86
      go_wp2
      go_ret
      exact ⟨rfl, rfl⟩
    · have hb : finB z x = false := by simp [finB, h1, h2]
      rw [hb]
      go_enter Tryz.func86, Tryz.ntmps86
      go_wp2
      go_ret
      exact ⟨rfl, rfl⟩
  · have hb : finB z x = false := by simp [finB, h1]
    rw [hb]
    go_enter Tryz.func86, Tryz.ntmps86
    go_wp2
    go_ret
    exact ⟨rfl, rfl⟩
def headN (S : List Int) : Int := match S with | [] => 0 | x :: _ => x
theorem first_any (A : Option Addr) (n c : Nat) (Z : List Int) (w : World) (h : RdI w A n Z) :
    Calls Tryz.prog 39 #[.slice A n c] w fun e w' => e = .returned (.int .i64 (headN Z)) ∧ w = w' := by
  cases Z with
  | nil =>
    obtain rfl : n = 0 := h.1.symm
    clear h
    go_enter Tryz.func39, Tryz.ntmps39
    go_wp2
    go_ret
    exact ⟨rfl, rfl⟩
  | cons x r =>
    obtain ⟨m, rfl⟩ : ∃ m, n = m + 1 := ⟨r.length, by have := h.1; simpa using this.symm⟩
    obtain ⟨b, o, rfl, hc0⟩ := h.at_ (k := 0) (by omega)
    have hc : w.cell? ⟨b, o, none⟩ = some (.int .i64 x) := hc0
    clear hc0 h
    go_enter Tryz.func39, Tryz.ntmps39
    go_wp2
    go_ret
    exact ⟨rfl, rfl⟩
end Go.Proofs.YtdjcahhofonclaaGreatDoor
end
