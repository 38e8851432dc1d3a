/-
  append of bytes beside blocks of other types; what a page of each kind wants to be right. No function is named.
-/
import Derived.Test.YtfgpkgenahlikaaDoorRo
namespace Go.Proofs.YtfgpkgenahlikaaDoor
open Go.ChangeShapes Go.WideShapes Go.ChangeAt Go.RowKit
set_option linter.unusedVariables false
set_option linter.unusedSimpArgs false

/-- Blocks of other types stand. -/
def Oth (e : TypeId) (w w' : World) : Prop := ∀ g t cs, t ≠ e → Blk w g t cs → Blk w' g t cs
theorem run_append_oth {P : Program} {w : World} {base : Nat} (t ty e : TypeId) {n : Nat} {xs : List UInt8} {v : Value} {A : Option Addr} {m : Nat} {ys : List UInt8}
    (ht : P.underlying t = some (.slice e)) (hinfo : (P.info? e).map (fun i => (i.zero, i.size, i.bytes)) = some (some (.int .u8 0), 1, 1)) (hown : w.ownsRow base e 1 v n (cellsOf xs)) (hr : Rd w A m ys)
    (hm : n + m ≤ 140737488355328) (hbase : base ≤ w.heap.size) (c : Nat) :
    ∃ A' c' w', (Builtin.append_ #[t, t] ty #[v, .slice A m c]).run P w = .ok (.slice A' (n + m) c') w' ∧ w'.ownsRow base e 1 (.slice A' (n + m) c') (n + m) (cellsOf (xs ++ ys)) ∧ Below base w w' ∧ Oth e w w' := by
  obtain ⟨i, hi, hz, hsz, hby⟩ := info_parts hinfo
  rcases Nat.eq_zero_or_pos m with h0 | h0
  · subst h0
    obtain rfl : ys = [] := List.eq_nil_of_length_eq_zero hr.1
    have hrun : (Builtin.append_ #[t, t] ty #[v, .slice A 0 c]).run P w = .ok v w := by
      rcases hown.2 with ⟨rfl, rfl⟩ | ⟨g, cap, cur, rfl, _, _, hnc, _⟩
      · cases A <;> simp [Builtin.append_, run_underlying ht, sizeOf, typeInfo, hi, Builtin.lenOf, Builtin.firstCells, loadCells, loadCellsFrom]
      · cases A <;> simp [Builtin.append_, run_underlying ht, sizeOf, typeInfo, hi, Builtin.lenOf, Builtin.firstCells, loadCells, loadCellsFrom, hnc, storeCells]
    have hv : ∃ A' c', v = .slice A' n c' := by
      rcases hown.2 with ⟨rfl, rfl⟩ | ⟨g, cap, cur, rfl, _⟩
      · exact ⟨_, _, rfl⟩
      · exact ⟨_, _, rfl⟩
    obtain ⟨A', c', rfl⟩ := hv
    exact ⟨A', c', w, hrun, by simpa using hown, Below.refl _ _, fun _ _ _ _ h => h⟩
  · obtain ⟨a, rfl, _⟩ := hr.2 h0
    obtain ⟨v', w', hrun, hown', hgrow, _⟩ := run_append_own (P := P) w base t ty e i _ 1 1 ht hi hz hsz hby rfl (by decide) v n (cellsOf xs) hown a m c (cellsOf ys) (by rw [cellsOf_length, hr.1]; omega) (hr.cells rfl) (cellsOf_one ys)
      (by unfold maxLen; omega) (by omega) hbase
    rw [← cellsOf_append] at hown'
    have hv : ∃ A' c', v' = .slice A' (n + m) c' := by
      rcases hown'.2 with ⟨rfl, h⟩ | ⟨g, cap, cur, rfl, _⟩
      · omega
      · exact ⟨_, _, rfl⟩
    obtain ⟨A', c', rfl⟩ := hv
    refine ⟨A', c', w', hrun, hown', (Below.refl base w).grown hgrow hbase (fun k hk => (hown.lt k hk).1), ?_⟩
    intro g t' cs hne hb
    refine (hgrow.block g hb.lt fun hk => ?_).trans hb
    rcases hown.2 with ⟨rfl, _⟩ | ⟨g', cap, cur, rfl, _, hh, _⟩
    · cases hk
    · have e1 : g = g' := by simpa [Value.ownBlock] using hk
      subst e1
      unfold Blk at hb
      rw [hh] at hb
      have := Option.some.inj hb
      injection this with _ e2 _
      exact hne e2.symm
theorem wpList_append_oth {P : Program} {w : World} {ops : Array Oper} {rest : List Oper} {o : Oper} {a : Act} {Q : Exit → Act → World → Prop} (hgd : o.guard = none) (s x : Operand) (t : TypeId)
    (ho : o.op = .call { callee := .builtin .append, args := #[s, x], argTypes := #[t, t] })
    (base : Nat) (e : TypeId) {n : Nat} {xs : List UInt8} {v : Value} {A : Option Addr} {m c : Nat} {ys : List UInt8} (hs : a.eval s = v) (hx : a.eval x = .slice A m c)
    (ht : P.underlying t = some (.slice e)) (hinfo : (P.info? e).map (fun i => (i.zero, i.size, i.bytes)) = some (some (.int .u8 0), 1, 1)) (hown : w.ownsRow base e 1 v n (cellsOf xs)) (hr : Rd w A m ys)
    (hm : n + m ≤ 140737488355328) (hbase : base ≤ w.heap.size) (tot : Nat) (zs : List UInt8) (htot : n + m = tot) (hz : xs ++ ys = zs)
    (h : ∀ A' c' w', w'.ownsRow base e 1 (.slice A' tot c') tot (cellsOf zs) → Below base w w' → Oth e w w' → wpList P ops Q rest (a.put o.dst (.slice A' tot c')) w') : wpList P ops Q (o :: rest) a w := by
  subst htot hz
  refine wpList_plain hgd fun _ hK => ?_
  obtain ⟨A', c', w', hrun, h2, h3, h4⟩ := run_append_oth (P := P) t o.type e ht hinfo hown hr hm hbase c
  unfold Oper.wp execOp
  simp only [ho, resolve, invoke, builtin, Sem.run_bind, Sem.run_pure, Result.andThen_ok, List.map_toArray, List.map_cons, List.map_nil, hs, hx, hrun]
  exact hK _ _ (h A' c' w' h2 h3 h4)
theorem right2 {P : Pg} (hk : P.kind = 2) (ho : ordU kidOk cmpK P.kids P.kids.length = true) : rightB P = (decide (0 < P.kids.length) && decide (P.items.length + P.data.length + P.ids.length = 0) && decide ((P.kids.map kidUse).sum ≤ 237) && decide (P.next = 0)) := by
  obtain ⟨kind, txn, next, I, J, D, N⟩ := P
  simp only at hk ho
  subst hk
  by_cases h0 : I.length + D.length + N.length = 0
  · obtain rfl : I = [] := List.eq_nil_of_length_eq_zero (by omega)
    obtain rfl : D = [] := List.eq_nil_of_length_eq_zero (by omega)
    obtain rfl : N = [] := List.eq_nil_of_length_eq_zero (by omega)
    rw [Bool.eq_iff_iff]
    unfold rightB thingsB
    simp only
    rw [ho]
    simp [ownB, nextB, usedN, ordU]
    omega
  · have h1 : ownB ⟨2, txn, next, I, J, D, N⟩ = false := by
      unfold ownB
      rw [Bool.eq_false_iff]
      intro hh
      simp only [Bool.and_eq_true, Bool.or_eq_true, decide_eq_true_eq] at hh
      omega
    unfold rightB
    rw [h1, decide_eq_false h0]
    simp
theorem right1 {P : Pg} (hk : P.kind = 1) (ho : ordU itemOk cmpI P.items P.items.length = true) : rightB P = (decide (0 < P.items.length) && decide (P.kids.length + P.data.length + P.ids.length = 0) && decide ((P.items.map itemUse).sum ≤ 237) && decide (P.next = 0)) := by
  obtain ⟨kind, txn, next, I, J, D, N⟩ := P
  simp only at hk ho
  subst hk
  by_cases h0 : J.length + D.length + N.length = 0
  · obtain rfl : J = [] := List.eq_nil_of_length_eq_zero (by omega)
    obtain rfl : D = [] := List.eq_nil_of_length_eq_zero (by omega)
    obtain rfl : N = [] := List.eq_nil_of_length_eq_zero (by omega)
    rw [Bool.eq_iff_iff]
    unfold rightB thingsB
    simp only
    rw [ho]
    simp [ownB, nextB, usedN, ordU]
    omega
  · have h1 : ownB ⟨1, txn, next, I, J, D, N⟩ = false := by
      unfold ownB
      rw [Bool.eq_false_iff]
      intro hh
      simp only [Bool.and_eq_true, Bool.or_eq_true, decide_eq_true_eq] at hh
      omega
    unfold rightB
    rw [h1, decide_eq_false h0]
    simp
theorem ahead_lt {a b : List UInt8} (h : ahead a b = true) : ordB a b < 0 := by
  unfold ordB
  rw [if_pos h]
  decide
theorem ahead_ge {a b : List UInt8} (h : ahead a b = false) : 0 ≤ ordB a b := by
  unfold ordB
  rw [if_neg (by simp [h])]
  split <;> decide
theorem encTo_le {α : Type} {f : α → List UInt8} {m : Nat} {I : List α} (h : ∀ x ∈ I, (f x).length ≤ m) (k : Nat) (hk : k ≤ I.length) : (encTo f I k).length ≤ m * k := by
  induction k with
  | zero => simp [encTo]
  | succ k ih =>
    rw [encTo_succ (by omega), List.length_append, Nat.mul_succ]
    have := ih (by omega)
    have := h I[k] (List.getElem_mem (by omega))
    omega
end Go.Proofs.YtfgpkgenahlikaaDoor
