/- Qg -/
import Derived.Test.YtblbhhijddcbeaaGreatDoorBQe
import Derived.Test.YtblbhhijddcbeaaGreatDoorBLay
import Derived.Test.YtblbhhijddcbeaaGreatDoorBDq
import Derived.Test.YtblbhhijddcbeaaGreatDoorBDy
section
/-
 The pages that were added: a map from numbers to bytes; its keys, rising; maps.Clone of it.
-/
namespace Go.Proofs.YtblbhhijddcbeaaGreatDoor
open Go.ChangeShapes Go.WideShapes Go.ChangeAt Go.RowKit Go.Maps Go.Sort Go.Shelf
open Go.ChangeMaps Go.MapKept
set_option linter.unusedVariables false
set_option linter.unusedSimpArgs false
abbrev Adds := Int → Option (List UInt8)
def AdV (w : World) (V : Int → Option Value) (add : Adds) : Prop :=
 ∀ x, (add x = none ∧ V x = none) ∨ ∃ bs A c, add x = some bs ∧ V x = some (.slice A 256 c) ∧ OwB w A 256 c bs ∧ 2 ≤ x ∧ x < 1024
def AdM (w : World) (m : Nat) (V : Int → Option Value) (add : Adds) : Prop := Mv w m 1022 V ∧ AdV w V add
theorem addU : Tryz.prog.underlying 74 = some (.map 3 46) := by kernel_rfl
theorem addZ (w : World) : (zeroValue 46).run Tryz.prog w = .ok (.slice none 0 0) w := (zero_of_info (show (Tryz.prog.info? 46).map (fun i => (i.zero, i.size)) = some (some (.slice none 0 0), 1) by kernel_rfl)).1 w
section
variable {w w' : World} {m : Nat} {V : Int → Option Value} {add : Adds}
theorem AdV.turned (h : AdV w V add) {T : Nat → Prop} (t : Turned w w' T) (hn : ∀ g, Cl w g 5 → ¬ T g) : AdV w' V add := fun x => by
 rcases h x with h | ⟨bs, A, c, h1, h2, h3, h4⟩
 · exact .inl h
 · exact .inr ⟨bs, A, c, h1, h2, h3.turned t (fun g hg => hn g (h3.cl hg)), h4⟩
theorem AdV.some_ (h : AdV w V add) {x : Int} : (V x).isSome = (add x).isSome := by
 rcases h x with ⟨h1, h2⟩ | ⟨bs, A, c, h1, h2, _⟩ <;> simp [h1, h2]
theorem AdV.range (h : AdV w V add) {x : Int} (hx : (add x).isSome = true) : 2 ≤ x ∧ x < 1024 := by
 rcases h x with ⟨h1, h2⟩ | ⟨bs, A, c, h1, h2, _, h3⟩
 · rw [h1] at hx; simp at hx
 · exact h3
theorem AdV.empty (w : World) : AdV w (fun _ => none) (fun _ => none) := fun x => .inl ⟨rfl, rfl⟩
theorem AdV.put (h : AdV w V add) {x : Int} {bs : List UInt8} {A : Option Addr} {c : Nat} (hb : OwB w A 256 c bs) (hx : 2 ≤ x ∧ x < 1024) : AdV w (fun y => if y = x then some (.slice A 256 c) else V y) (fun y => if y = x then some bs else add y) := fun y => by
 by_cases e : y = x
 · subst e; simp only [if_true]; exact .inr ⟨bs, A, c, rfl, rfl, hb, hx⟩
 · simp only [e, if_false]; exact h y
theorem AdV.del (h : AdV w V add) (x : Int) : AdV w (fun y => if y = x then none else V y) (fun y => if y = x then none else add y) := fun y => by
 by_cases e : y = x
 · simp [e]
 · simp only [e, if_false]; exact h y
theorem ownsMap_tight7 {H : Type} {P : Program} {k : TypeId} {R : Value → Option (DataW H × List MemPlace)} {w : World} {b n : Nat} {D : DataW H} (h : w.ownsMap P k R b n D) : w.ownsMap P k R b (Maps.size D) D := by
 obtain ⟨es, clock, hb, F, hs, rfl⟩ := h; exact ⟨es, clock, hb, F, by simp [Maps.size, length_sorted], rfl⟩
theorem rising_le {S : List Int} (hS : Rising S) (hb : ∀ x ∈ S, 2 ≤ x ∧ x < 1024) : S.length ≤ 1022 := by
 rcases hS.length_le (a := 2) (b := 1024) (fun z hz => (hb z hz).1) (fun z hz => (hb z hz).2) with h | h
 · rw [h]; exact Nat.zero_le _
 · omega
theorem Mv.tight {k : Nat} (h : Mv w m k V) (hb : ∀ x, (V x).isSome = true → 2 ≤ x ∧ x < 1024) : Mv w m 1022 V := by
 obtain ⟨D, hown, hca⟩ := h; obtain ⟨h1, h2⟩ := keys_facts hown; have hs : Maps.size D = (intKeys D).length := by
  obtain ⟨es, clock, _, F, _, rfl⟩ := hown; simp [Maps.size, intKeys]
 have h3 : (intKeys D).length ≤ 1022 := by
  rw [← (List.mergeSort_perm (intKeys D) (fun x y => decide (x ≤ y))).length_eq]; refine rising_le (sorted_rising h1) fun x hx => hb x ?_
  rw [← hca.is, ← h2 x]; exact (List.mergeSort_perm (intKeys D) _).mem_iff.1 hx
 exact ⟨D, (ownsMap_tight7 hown).mono (by omega), hca⟩
theorem Ca.del7 {D : DataW Value} {f : Int → Option Value} (h : Ca D f) (x : Int) : Ca (D.del (.int .i64 x)) (fun y => if y = x then none else f y) := by
 intro y; by_cases hy : y = x
 · subst hy; simp only [if_true]; exact ⟨fun _ => ⟨Maps.has_del_same, fun z => Maps.atKey_del_same z⟩, fun u hu => by cases hu⟩
 · simp only [hy, if_false]; have hne := lit_ne hy; refine ⟨fun e => ?_, fun u hu => ?_⟩
   · rw [Maps.has_del_other hne]; exact ⟨((h y).1 e).1, fun z => by rw [Maps.atKey_del_other hne]; exact ((h y).1 e).2 z⟩
   · rw [Maps.has_del_other hne]; exact ⟨((h y).2 u hu).1, fun z => by rw [Maps.atKey_del_other hne]; exact ((h y).2 u hu).2 z⟩
theorem Mv.del {T e : TypeId} {k : Nat} (h : Mv w m k V) (hT : Tryz.prog.underlying T = some (.map 3 e)) {x : Int} (hx : Wf x) (ty : TypeId) :
 ∃ w', (Builtin.delete_ #[T, 3] ty #[.map (some m), .int .i64 x]).run Tryz.prog w = .ok (.tuple #[]) w' ∧ Mv w' m k (fun y => if y = x then none else V y) ∧ w.grownBy w' (some m) := by
 obtain ⟨D, h, hc⟩ := h; obtain ⟨w', hrun, h', ht⟩ := h.drop keyI hT (key_mk hx) ty; exact ⟨w', hrun, ⟨_, h', hc.del7 x⟩, ht.grown⟩
end
section
variable {ops : Array Oper} {rest : List Oper} {op : Oper} {a : Act} {w : World} {Q : Exit → Act → World → Prop} {m k : Nat} {f : Int → Option Value}
theorem wpList_del_mv (hgd : op.guard = none) (T e : TypeId) (x y : Operand) (ho : op.op = .call { callee := .builtin .delete, args := #[x, y], argTypes := #[T, 3] }) (hT : Tryz.prog.underlying T = some (.map 3 e))
 (h : Mv w m k f) (hx : a.eval x = .map (some m)) (p : Int) (hy : a.eval y = .int .i64 p) (hp : Wf p)
 (hK : ∀ w', Mv w' m k (fun y => if y = p then none else f y) → w.grownBy w' (some m) → wpList Tryz.prog ops Q rest (a.put op.dst (.tuple #[])) w') : wpList Tryz.prog ops Q (op :: rest) a w :=
 wpList_plain hgd fun _ hK' => by
  obtain ⟨w', hrun, h1, h2⟩ := h.del hT hp op.type; unfold Oper.wp; simp [execOp, ho, resolve, invoke, builtin, hx, hy, hrun, Result.andThen]; exact hK' _ _ (hK w' h1 h2)
end
end Go.Proofs.YtblbhhijddcbeaaGreatDoor
end
