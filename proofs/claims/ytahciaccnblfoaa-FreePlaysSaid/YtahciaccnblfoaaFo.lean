/-
  append of numbers to a slice of the program's own, from any slice; what the law FreeOrders says of plain lists.
-/
import Derived.Test.YtahciaccnblfoaaFd
import Derived.Maps.AppendAt
namespace Go.Proofs.Ytahciaccnblfoaa
open Go.ChangeShapes Go.WideShapes Go.ChangeAt Go.RowKit
set_option linter.unusedVariables false

theorem intinfo : (Try.prog.info? 3).map (fun i => (i.zero, i.size, i.bytes)) = some (some (.int .i64 0), 1, 8) := by kernel_rfl
theorem RdI.cells {w : World} {m : Nat} {Y : List Int} {b o : Nat} (h : RdI w (some ⟨b, o, none⟩) m Y) : ∀ j u, (ints Y)[j]? = some u → w.cell? ((⟨b, o, none⟩ : Addr).add j) = some u := fun j u hj => by
  have hjl : j < Y.length := by have := (List.getElem?_eq_some_iff.1 hj).1; rwa [ints_length] at this
  rw [ints_get Y j hjl] at hj
  obtain rfl := Option.some.inj hj
  obtain ⟨b', o', e, hc⟩ := h.at_ (k := j) (by rw [← h.1]; exact hjl)
  cases e
  rw [show (⟨b, o, none⟩ : Addr).add j = ⟨b, o + j, none⟩ by unfold Addr.add; split <;> simp_all]
  exact hc
theorem ints_append (X Y : List Int) : ints (X ++ Y) = ints X ++ ints Y := by simp [ints]
theorem run_append_i {w : World} {A B : Option Addr} {n c m d : Nat} {X Y : List Int} (h : OwI w A n c X) (hr : RdI w B m Y) (hm : n + m ≤ 1000000) (ty : TypeId) :
    ∃ A' c' w', (Builtin.append_ #[22, 22] ty #[.slice A n c, .slice B m d]).run Try.prog w = .ok (.slice A' (n + m) c') w' ∧ OwI w' A' (n + m) c' (X ++ Y) ∧ Turned w w' (fun j => blkOf A = some j) ∧ (∀ g, blkOf A' = some g → blkOf A = some g ∨ w.heap.size ≤ g) := by
  obtain ⟨i, hi, hz, hsz, hby⟩ := info_parts intinfo
  rcases Nat.eq_zero_or_pos m with h0 | h0
  · subst h0
    obtain rfl : Y = [] := List.eq_nil_of_length_eq_zero hr.1
    refine ⟨A, c, w, ?_, by simpa using h, Turned.refl _ _, fun g hg => .inl hg⟩
    have ht := Try.underlying22
    rcases h.2.2 with ⟨hv, hn⟩ | ⟨g, cap, cur, hv, _, _, hnc, _⟩
    · injection hv with e1 e2 e3
      subst e1 e2 e3
      cases B <;> simp [Builtin.append_, run_underlying ht, sizeOf, typeInfo, hi, Builtin.lenOf, Builtin.firstCells, loadCells, loadCellsFrom]
    · injection hv with e1 e2 e3
      subst e1 e3
      cases B <;> simp [Builtin.append_, run_underlying ht, sizeOf, typeInfo, hi, Builtin.lenOf, Builtin.firstCells, loadCells, loadCellsFrom, hnc, storeCells]
  · obtain ⟨b, o, rfl, _⟩ := hr.2 h0
    obtain ⟨v', w', hrun, hown', hgrow, _, hloc⟩ := run_append_own_at (P := Try.prog) (w := w) 0 22 ty 3 i _ 1 8 Try.underlying22 hi hz hsz hby rfl (by decide) _ n (ints X) h.2 ⟨b, o, none⟩ m d (ints Y) (by rw [ints_length, hr.1]; omega) hr.cells (ints_one Y)
      (by unfold maxLen; omega) (by omega) (Nat.zero_le _)
    rw [← ints_append] at hown'
    have hv : ∃ A' c', v' = .slice A' (n + m) c' := by
      rcases hown'.2 with ⟨rfl, h⟩ | ⟨g, cap, cur, rfl, _⟩
      · omega
      · exact ⟨_, _, rfl⟩
    obtain ⟨A', c', rfl⟩ := hv
    have eb : ∀ (A : Option Addr) n c, (Value.slice A n c).ownBlock = blkOf A := fun A n c => by cases A <;> rfl
    rw [eb] at hgrow
    rw [eb, eb] at hloc
    refine ⟨A', c', w', hrun, ⟨by rw [List.length_append, h.1, hr.1], hown'⟩, Turned.of_grown hgrow (fun j hj => hj), fun g hg => ?_⟩
    rcases hloc with h1 | h1
    · exact .inl (h1 ▸ hg)
    · rw [h1] at hg; cases hg; exact .inr (Nat.le_refl _)
theorem wp_append_i {w : World} {o : Oper} {a : Act} {K : Act → World → Prop} {Q : Exit → Act → World → Prop} (s x : Operand) (ho : o.op = .call { callee := .builtin .append, args := #[s, x], argTypes := #[22, 22] })
    {A B : Option Addr} {n c m d : Nat} {X Y : List Int} (hs : a.eval s = .slice A n c) (hx : a.eval x = .slice B m d) (h : OwI w A n c X) (hr : RdI w B m Y) (hm : n + m ≤ 1000000)
    (hK : ∀ A' c' w', OwI w' A' (n + m) c' (X ++ Y) → Turned w w' (fun j => blkOf A = some j) → (∀ g, blkOf A' = some g → blkOf A = some g ∨ w.heap.size ≤ g) → K (a.put o.dst (.slice A' (n + m) c')) w') : o.wp Try.prog a w K Q := by
  obtain ⟨A', c', w', hrun, h2, h3, h4⟩ := run_append_i h hr hm o.type (d := d)
  unfold Oper.wp execOp
  simp only [ho, resolve, invoke, builtin, Sem.run_bind, Sem.run_pure, Result.andThen_ok, List.map_toArray, List.map_cons, List.map_nil, hs, hx, hrun]
  exact hK A' c' w' h2 h3 h4
theorem wpList_append_i {w : World} {ops : Array Oper} {rest : List Oper} {o : Oper} {a : Act} {Q : Exit → Act → World → Prop} (hgd : o.guard = none) (s x : Operand) (ho : o.op = .call { callee := .builtin .append, args := #[s, x], argTypes := #[22, 22] })
    {A B : Option Addr} {n c m d : Nat} {X Y : List Int} (hs : a.eval s = .slice A n c) (hx : a.eval x = .slice B m d) (h : OwI w A n c X) (hr : RdI w B m Y) (hm : n + m ≤ 1000000)
    (hK : ∀ A' c' w', OwI w' A' (n + m) c' (X ++ Y) → Turned w w' (fun j => blkOf A = some j) → (∀ g, blkOf A' = some g → blkOf A = some g ∨ w.heap.size ≤ g) → wpList Try.prog ops Q rest (a.put o.dst (.slice A' (n + m) c')) w') : wpList Try.prog ops Q (o :: rest) a w :=
  wpList_plain hgd fun _ hK' => wp_append_i s x ho hs hx h hr hm fun A' c' w' h2 h3 h4 => hK' _ _ (hK A' c' w' h2 h3 h4)
/-- A slice of no numbers, in a block of its own. -/
theorem OwI.none_new (w : World) : OwI (w.alloc (.cells #[] 3)) (some ⟨w.heap.size, 0, none⟩) 0 0 [] := ⟨rfl, by
  have := World.ownsRow_made (base := 0) (e := 3) (size := 1) w #[] 0 (Nat.zero_le _) (Nat.zero_le _) rfl
  simpa [ints] using this⟩
theorem RdI.take {w : World} {A : Option Addr} {n : Nat} {Z : List Int} (h : RdI w A n Z) {k : Nat} (hk : k ≤ n) : RdI w A k (Z.take k) := by
  refine ⟨by rw [List.length_take, h.1]; omega, fun h0 => ?_⟩
  obtain ⟨b, o, e, hc⟩ := h.2 (by omega)
  exact ⟨b, o, e, fun j hj => by rw [hc j (by rw [List.length_take] at hj; omega)]; simp⟩
theorem RdI.drop {w : World} {b o : Nat} {n : Nat} {Z : List Int} (h : RdI w (some ⟨b, o, none⟩) n Z) {k : Nat} (hk : k ≤ n) : RdI w (some ⟨b, o + k, none⟩) (n - k) (Z.drop k) := by
  refine ⟨by rw [List.length_drop, h.1], fun h0 => ⟨b, o + k, rfl, fun j hj => ?_⟩⟩
  rw [List.length_drop] at hj
  obtain ⟨b', o', e, hc⟩ := h.at_ (k := k + j) (by rw [← h.1]; omega)
  cases e
  rw [Nat.add_assoc, hc]
  simp
theorem turned_perm (Z : List Int) (k : Nat) : (Z.drop k ++ Z.take k).Perm Z := by
  have h := List.perm_append_comm (l₁ := Z.drop k) (l₂ := Z.take k)
  rwa [List.take_append_drop] at h
theorem addAll_perm {Z Y : List Int} (h : Z.Perm Y) : addAll [] Z = addAll [] Y :=
  Rising.uniq (Rising.addAll Rising.nil_ _) (Rising.addAll Rising.nil_ _) fun z => by
    rw [mem_addAll, mem_addAll, h.mem_iff]
end Go.Proofs.Ytahciaccnblfoaa
