/- Fr6 Fd Fo Qa -/
import Derived.Test.YtblbhhijddcbeaaGreatDoorBFm
import Derived.Test.YtblbhhijddcbeaaGreatDoorBRows2
import Derived.Test.YtblbhhijddcbeaaGreatDoorBRows3
import Derived.Maps.AppendAt
section
namespace Go.Proofs.YtblbhhijddcbeaaGreatDoor
open Go.ChangeShapes Go.WideShapes Go.ChangeAt Go.RowKit
set_option linter.unusedVariables false
set_option linter.unusedSimpArgs false
set_option maxRecDepth 100000
set_option maxHeartbeats 16000000
theorem newErr_zero {z : Int} {Z : List Int} (h : newErr z Z = 0) : (8 ≤ z ∧ z ≤ 1024) ∧ (∀ x ∈ Z, 2 ≤ x ∧ x < z) ∧ Z.Nodup := by
 unfold newErr at h
 split at h
 · cases h
 · split at h
   · split at h
     · rename_i h1 h2 h3
       refine ⟨by omega, fun x hx => ?_, h3⟩; have := List.all_eq_true.1 h2 x hx; simpa [finB] using this
     · cases h
   · cases h
section
variable {a w : World} {r : Nat} {s : FSt}
end
theorem intinfo : (Tryz.prog.info? 3).map (fun i => (i.zero, i.size, i.bytes)) = some (some (.int .i64 0), 1, 8) := by kernel_rfl
theorem RdI.cells {w : World} {m : Nat} {Y : List Int} {b o : Nat} (h : RdI w (some ⟨b, o, none⟩) m Y) : ∀ j u, (ints Y)[j]? = some u → w.cell? ((⟨b, o, none⟩ : Addr).add j) = some u := fun j u hj => by
 have hjl : j < Y.length := by have := (List.getElem?_eq_some_iff.1 hj).1; rwa [ints_length] at this
 rw [ints_get Y j hjl] at hj; obtain rfl := Option.some.inj hj; obtain ⟨b', o', e, hc⟩ := h.at_ (k := j) (by rw [← h.1]; exact hjl); cases e; rw [show (⟨b, o, none⟩ : Addr).add j = ⟨b, o + j, none⟩ by unfold Addr.add; split <;> simp_all]; exact hc
theorem ints_append (X Y : List Int) : ints (X ++ Y) = ints X ++ ints Y := by simp [ints]
theorem run_append_i {w : World} {A B : Option Addr} {n c m d : Nat} {X Y : List Int} (h : OwI w A n c X) (hr : RdI w B m Y) (hm : n + m ≤ 1000000) (ty : TypeId) :
 ∃ A' c' w', (Builtin.append_ #[60, 60] ty #[.slice A n c, .slice B m d]).run Tryz.prog w = .ok (.slice A' (n + m) c') w' ∧ OwI w' A' (n + m) c' (X ++ Y) ∧ Turned w w' (fun j => blkOf A = some j) ∧ (∀ g, blkOf A' = some g → blkOf A = some g ∨ w.heap.size ≤ g) := by
 obtain ⟨i, hi, hz, hsz, hby⟩ := info_parts intinfo; rcases Nat.eq_zero_or_pos m with h0 | h0
 · subst h0; obtain rfl : Y = [] := List.eq_nil_of_length_eq_zero hr.1; refine ⟨A, c, w, ?_, by simpa using h, Turned.refl _ _, fun g hg => .inl hg⟩; have ht := Tryz.underlying60; rcases h.2.2 with ⟨hv, hn⟩ | ⟨g, cap, cur, hv, _, _, hnc, _⟩
   · injection hv with e1 e2 e3
     subst e1 e2 e3; cases B <;> simp [Builtin.append_, run_underlying ht, sizeOf, typeInfo, hi, Builtin.lenOf, Builtin.firstCells, loadCells, loadCellsFrom]
   · injection hv with e1 e2 e3
     subst e1 e3; cases B <;> simp [Builtin.append_, run_underlying ht, sizeOf, typeInfo, hi, Builtin.lenOf, Builtin.firstCells, loadCells, loadCellsFrom, hnc, storeCells]
 · obtain ⟨b, o, rfl, _⟩ := hr.2 h0; obtain ⟨v', w', hrun, hown', hgrow, _, hloc⟩ := run_append_own_at (P := Tryz.prog) (w := w) 0 60 ty 3 i _ 1 8 Tryz.underlying60 hi hz hsz hby rfl (by decide) _ n (ints X) h.2 ⟨b, o, none⟩ m d (ints Y) (by rw [ints_length, hr.1]; omega) hr.cells (ints_one Y)
    (by unfold maxLen; omega) (by omega) (Nat.zero_le _)
   rw [← ints_append] at hown'; have hv : ∃ A' c', v' = .slice A' (n + m) c' := by
    rcases hown'.2 with ⟨rfl, h⟩ | ⟨g, cap, cur, rfl, _⟩
    · omega
    · exact ⟨_, _, rfl⟩
   obtain ⟨A', c', rfl⟩ := hv; have eb : ∀ (A : Option Addr) n c, (Value.slice A n c).ownBlock = blkOf A := fun A n c => by cases A <;> rfl
   rw [eb] at hgrow; rw [eb, eb] at hloc; refine ⟨A', c', w', hrun, ⟨by rw [List.length_append, h.1, hr.1], hown'⟩, Turned.of_grown hgrow (fun j hj => hj), fun g hg => ?_⟩; rcases hloc with h1 | h1
   · exact .inl (h1 ▸ hg)
   · rw [h1] at hg; cases hg; exact .inr (Nat.le_refl _)
theorem wp_append_i {w : World} {o : Oper} {a : Act} {K : Act → World → Prop} {Q : Exit → Act → World → Prop} (s x : Operand) (ho : o.op = .call { callee := .builtin .append, args := #[s, x], argTypes := #[60, 60] })
 {A B : Option Addr} {n c m d : Nat} {X Y : List Int} (hs : a.eval s = .slice A n c) (hx : a.eval x = .slice B m d) (h : OwI w A n c X) (hr : RdI w B m Y) (hm : n + m ≤ 1000000)
 (hK : ∀ A' c' w', OwI w' A' (n + m) c' (X ++ Y) → Turned w w' (fun j => blkOf A = some j) → (∀ g, blkOf A' = some g → blkOf A = some g ∨ w.heap.size ≤ g) → K (a.put o.dst (.slice A' (n + m) c')) w') : o.wp Tryz.prog a w K Q := by
 obtain ⟨A', c', w', hrun, h2, h3, h4⟩ := run_append_i h hr hm o.type (d := d); unfold Oper.wp execOp; simp only [ho, resolve, invoke, builtin, Sem.run_bind, Sem.run_pure, Result.andThen_ok, List.map_toArray, List.map_cons, List.map_nil, hs, hx, hrun]; exact hK A' c' w' h2 h3 h4
theorem wpList_append_i {w : World} {ops : Array Oper} {rest : List Oper} {o : Oper} {a : Act} {Q : Exit → Act → World → Prop} (hgd : o.guard = none) (s x : Operand) (ho : o.op = .call { callee := .builtin .append, args := #[s, x], argTypes := #[60, 60] })
 {A B : Option Addr} {n c m d : Nat} {X Y : List Int} (hs : a.eval s = .slice A n c) (hx : a.eval x = .slice B m d) (h : OwI w A n c X) (hr : RdI w B m Y) (hm : n + m ≤ 1000000)
 (hK : ∀ A' c' w', OwI w' A' (n + m) c' (X ++ Y) → Turned w w' (fun j => blkOf A = some j) → (∀ g, blkOf A' = some g → blkOf A = some g ∨ w.heap.size ≤ g) → wpList Tryz.prog ops Q rest (a.put o.dst (.slice A' (n + m) c')) w') : wpList Tryz.prog ops Q (o :: rest) a w :=
 wpList_plain hgd fun _ hK' => wp_append_i s x ho hs hx h hr hm fun A' c' w' h2 h3 h4 => hK' _ _ (hK A' c' w' h2 h3 h4)
theorem RdI.take {w : World} {A : Option Addr} {n : Nat} {Z : List Int} (h : RdI w A n Z) {k : Nat} (hk : k ≤ n) : RdI w A k (Z.take k) := by
 refine ⟨by rw [List.length_take, h.1]; omega, fun h0 => ?_⟩; obtain ⟨b, o, e, hc⟩ := h.2 (by omega); exact ⟨b, o, e, fun j hj => by rw [hc j (by rw [List.length_take] at hj; omega)]; simp⟩
theorem RdI.drop {w : World} {b o : Nat} {n : Nat} {Z : List Int} (h : RdI w (some ⟨b, o, none⟩) n Z) {k : Nat} (hk : k ≤ n) : RdI w (some ⟨b, o + k, none⟩) (n - k) (Z.drop k) := by
 refine ⟨by rw [List.length_drop, h.1], fun h0 => ⟨b, o + k, rfl, fun j hj => ?_⟩⟩; rw [List.length_drop] at hj; obtain ⟨b', o', e, hc⟩ := h.at_ (k := k + j) (by rw [← h.1]; omega); cases e; rw [Nat.add_assoc, hc]; simp
def needN (n : Nat) : Nat := (n + 59) / 60
theorem chainLength_any (n : Nat) (w : World) (hn : n ≤ 1000000) :
 Calls Tryz.prog 67 #[.int .i64 (n : Int)] w fun e w' => e = .returned (.int .i64 ((needN n : Nat) : Int)) ∧ w = w' := by
 have h1 : IntKind.i64.wrap ((n : Int) + 59) = (n : Int) + 59 := by simp [IntKind.wrap_i64]; omega
 have h2 : IntKind.i64.wrap (Int.tdiv ((n : Int) + 59) 60) = ((needN n : Nat) : Int) := by
  rw [Int.tdiv_eq_ediv_of_nonneg (by omega)]; unfold needN; simp [IntKind.wrap_i64]; omega
 go_enter Tryz.func67, Tryz.ntmps67; go_wp2; go_ret; exact ⟨rfl, rfl⟩
theorem leastRoom_any (n : Nat) (w : World) (hn : n ≤ 1000000) :
 Calls Tryz.prog 152 #[.int .i64 (n : Int)] w fun e w' => e = .returned (.int .i64 ((n / 60 + 2 : Nat) : Int)) ∧ w = w' := by
 have h2 : IntKind.i64.wrap (Int.tdiv (n : Int) 60) = ((n / 60 : Nat) : Int) := by
  rw [Int.tdiv_eq_ediv_of_nonneg (by omega)]; simp [IntKind.wrap_i64]; omega
 have h3 : IntKind.i64.wrap (((n / 60 : Nat) : Int) + 2) = ((n / 60 + 2 : Nat) : Int) := by simp [IntKind.wrap_i64]; omega
 go_enter Tryz.func152, Tryz.ntmps152; go_wp2; go_ret; exact ⟨rfl, rfl⟩
theorem pInBounds_any (x z : Int) (w : World) :
 Calls Tryz.prog 83 #[.int .i64 x, .int .i64 z] w fun e w' => e = .returned (.bool (finB z x)) ∧ w = w' := by
 by_cases h1 : 2 ≤ x
 · by_cases h2 : x < z
   · have hb : finB z x = true := by simp [finB, h1, h2]
     rw [hb]; go_enter Tryz.func83, Tryz.ntmps83; go_wp2; go_ret; exact ⟨rfl, rfl⟩
   · have hb : finB z x = false := by simp [finB, h1, h2]
     rw [hb]; go_enter Tryz.func83, Tryz.ntmps83; go_wp2; go_ret; exact ⟨rfl, rfl⟩
 · have hb : finB z x = false := by simp [finB, h1]
   rw [hb]; go_enter Tryz.func83, Tryz.ntmps83; go_wp2; go_ret; exact ⟨rfl, rfl⟩
def headN (S : List Int) : Int := match S with | [] => 0 | x :: _ => x
theorem first_any (A : Option Addr) (n c : Nat) (Z : List Int) (w : World) (h : RdI w A n Z) :
 Calls Tryz.prog 39 #[.slice A n c] w fun e w' => e = .returned (.int .i64 (headN Z)) ∧ w = w' := by
 cases Z with
 | nil =>
   obtain rfl : n = 0 := h.1.symm; clear h; go_enter Tryz.func39, Tryz.ntmps39; go_wp2; go_ret; exact ⟨rfl, rfl⟩
 | cons x r =>
   obtain ⟨m, rfl⟩ : ∃ m, n = m + 1 := ⟨r.length, by have := h.1; simpa using this.symm⟩
   obtain ⟨b, o, rfl, hc0⟩ := h.at_ (k := 0) (by omega); have hc : w.cell? ⟨b, o, none⟩ = some (.int .i64 x) := hc0; clear hc0 h; go_enter Tryz.func39, Tryz.ntmps39; go_wp2; go_ret; exact ⟨rfl, rfl⟩
end Go.Proofs.YtblbhhijddcbeaaGreatDoor
end
