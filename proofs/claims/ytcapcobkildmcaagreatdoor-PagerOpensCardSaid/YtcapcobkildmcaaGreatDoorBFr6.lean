/- Fr6 Fd Fo Qa Fp -/
import Derived.Test.YtcapcobkildmcaaGreatDoorBFm
import Derived.Test.YtcapcobkildmcaaGreatDoorBRows2
import Derived.Test.YtcapcobkildmcaaGreatDoorBRows3
import Derived.Maps.AppendAt
section
namespace Go.Proofs.YtcapcobkildmcaaGreatDoor
open Go.ChangeShapes Go.WideShapes Go.ChangeAt Go.RowKit
set_option linter.unusedVariables false
set_option linter.unusedSimpArgs false
set_option maxRecDepth 100000
set_option maxHeartbeats 16000000
def lstOf (Z : Nat → Int) (n : Nat) : List Int := (List.range n).map Z
theorem lstOf_length (Z : Nat → Int) (n : Nat) : (lstOf Z n).length = n := by simp [lstOf]
theorem lstOf_get (Z : Nat → Int) (n k : Nat) (h : k < (lstOf Z n).length) : (lstOf Z n)[k] = Z k := by simp [lstOf]
theorem vals_cell {w : World} {A : Option Addr} {n : Nat} {V : Nat → Value} (h : RdVals w A n V) (hn : 0 < n) : ∃ b o, A = some ⟨b, o, none⟩ ∧ ∀ j, j < n → w.cell? ⟨b, o + j, none⟩ = some (V j) := by
 obtain ⟨⟨b, o, s⟩, e, hc⟩ := h hn; have hs : s = none := by
  have := World.cell?_spot (hc 0 (by omega)); simpa [Addr.add] using this
 subst hs; refine ⟨b, o, e, fun j hj => ?_⟩; have := hc j hj
 rwa [show (⟨b, o, none⟩ : Addr).add j = ⟨b, o + j, none⟩ by unfold Addr.add; split <;> simp_all] at this
theorem RdI.of_vals {w : World} {A : Option Addr} {n : Nat} {Z : Nat → Int} (h : RdVals w A n (fun i => .int .i64 (Z i))) : RdI w A n (lstOf Z n) := by
 refine ⟨lstOf_length Z n, fun hn => ?_⟩; obtain ⟨b, o, e, hc⟩ := vals_cell h hn; exact ⟨b, o, e, fun j hj => by rw [lstOf_get]; exact hc j (by rwa [lstOf_length] at hj)⟩
theorem newErr_zero {z : Int} {Z : List Int} (h : newErr z Z = 0) : (8 ≤ z ∧ z ≤ 1024) ∧ (∀ x ∈ Z, 2 ≤ x ∧ x < z) ∧ Z.Nodup := by
 unfold newErr at h
 split at h
 · cases h
 · split at h
   · split at h
     · rename_i h1 h2 h3
       refine ⟨by omega, fun x hx => ?_, h3⟩; have := List.all_eq_true.1 h2 x hx; simpa [finB] using this
     · cases h
   · cases h
section
variable {a w : World} {r : Nat} {s : FSt}
end
theorem intinfo : (Tryz.prog.info? 3).map (fun i => (i.zero, i.size, i.bytes)) = some (some (.int .i64 0), 1, 8) := by kernel_rfl
theorem RdI.cells {w : World} {m : Nat} {Y : List Int} {b o : Nat} (h : RdI w (some ⟨b, o, none⟩) m Y) : ∀ j u, (ints Y)[j]? = some u → w.cell? ((⟨b, o, none⟩ : Addr).add j) = some u := fun j u hj => by
 have hjl : j < Y.length := by have := (List.getElem?_eq_some_iff.1 hj).1; rwa [ints_length] at this
 rw [ints_get Y j hjl] at hj; obtain rfl := Option.some.inj hj; obtain ⟨b', o', e, hc⟩ := h.at_ (k := j) (by rw [← h.1]; exact hjl); cases e; rw [show (⟨b, o, none⟩ : Addr).add j = ⟨b, o + j, none⟩ by unfold Addr.add; split <;> simp_all]; exact hc
theorem ints_append (X Y : List Int) : ints (X ++ Y) = ints X ++ ints Y := by simp [ints]
theorem run_append_i {w : World} {A B : Option Addr} {n c m d : Nat} {X Y : List Int} (h : OwI w A n c X) (hr : RdI w B m Y) (hm : n + m ≤ 1000000) (ty : TypeId) :
 ∃ A' c' w', (Builtin.append_ #[60, 60] ty #[.slice A n c, .slice B m d]).run Tryz.prog w = .ok (.slice A' (n + m) c') w' ∧ OwI w' A' (n + m) c' (X ++ Y) ∧ Turned w w' (fun j => blkOf A = some j) ∧ (∀ g, blkOf A' = some g → blkOf A = some g ∨ w.heap.size ≤ g) := by
 obtain ⟨i, hi, hz, hsz, hby⟩ := info_parts intinfo; rcases Nat.eq_zero_or_pos m with h0 | h0
 · subst h0; obtain rfl : Y = [] := List.eq_nil_of_length_eq_zero hr.1; refine ⟨A, c, w, ?_, by simpa using h, Turned.refl _ _, fun g hg => .inl hg⟩; have ht := Tryz.underlying60; rcases h.2.2 with ⟨hv, hn⟩ | ⟨g, cap, cur, hv, _, _, hnc, _⟩
   · injection hv with e1 e2 e3
     subst e1 e2 e3; cases B <;> simp [Builtin.append_, run_underlying ht, sizeOf, typeInfo, hi, Builtin.lenOf, Builtin.firstCells, loadCells, loadCellsFrom]
   · injection hv with e1 e2 e3
     subst e1 e3; cases B <;> simp [Builtin.append_, run_underlying ht, sizeOf, typeInfo, hi, Builtin.lenOf, Builtin.firstCells, loadCells, loadCellsFrom, hnc, storeCells]
 · obtain ⟨b, o, rfl, _⟩ := hr.2 h0; obtain ⟨v', w', hrun, hown', hgrow, _, hloc⟩ := run_append_own_at (P := Tryz.prog) (w := w) 0 60 ty 3 i _ 1 8 Tryz.underlying60 hi hz hsz hby rfl (by decide) _ n (ints X) h.2 ⟨b, o, none⟩ m d (ints Y) (by rw [ints_length, hr.1]; omega) hr.cells (ints_one Y)
    (by unfold maxLen; omega) (by omega) (Nat.zero_le _)
   rw [← ints_append] at hown'; have hv : ∃ A' c', v' = .slice A' (n + m) c' := by
    rcases hown'.2 with ⟨rfl, h⟩ | ⟨g, cap, cur, rfl, _⟩
    · omega
    · exact ⟨_, _, rfl⟩
   obtain ⟨A', c', rfl⟩ := hv; have eb : ∀ (A : Option Addr) n c, (Value.slice A n c).ownBlock = blkOf A := fun A n c => by cases A <;> rfl
   rw [eb] at hgrow; rw [eb, eb] at hloc; refine ⟨A', c', w', hrun, ⟨by rw [List.length_append, h.1, hr.1], hown'⟩, Turned.of_grown hgrow (fun j hj => hj), fun g hg => ?_⟩; rcases hloc with h1 | h1
   · exact .inl (h1 ▸ hg)
   · rw [h1] at hg; cases hg; exact .inr (Nat.le_refl _)
theorem wp_append_i {w : World} {o : Oper} {a : Act} {K : Act → World → Prop} {Q : Exit → Act → World → Prop} (s x : Operand) (ho : o.op = .call { callee := .builtin .append, args := #[s, x], argTypes := #[60, 60] })
 {A B : Option Addr} {n c m d : Nat} {X Y : List Int} (hs : a.eval s = .slice A n c) (hx : a.eval x = .slice B m d) (h : OwI w A n c X) (hr : RdI w B m Y) (hm : n + m ≤ 1000000)
 (hK : ∀ A' c' w', OwI w' A' (n + m) c' (X ++ Y) → Turned w w' (fun j => blkOf A = some j) → (∀ g, blkOf A' = some g → blkOf A = some g ∨ w.heap.size ≤ g) → K (a.put o.dst (.slice A' (n + m) c')) w') : o.wp Tryz.prog a w K Q := by
 obtain ⟨A', c', w', hrun, h2, h3, h4⟩ := run_append_i h hr hm o.type (d := d); unfold Oper.wp execOp; simp only [ho, resolve, invoke, builtin, Sem.run_bind, Sem.run_pure, Result.andThen_ok, List.map_toArray, List.map_cons, List.map_nil, hs, hx, hrun]; exact hK A' c' w' h2 h3 h4
theorem wpList_append_i {w : World} {ops : Array Oper} {rest : List Oper} {o : Oper} {a : Act} {Q : Exit → Act → World → Prop} (hgd : o.guard = none) (s x : Operand) (ho : o.op = .call { callee := .builtin .append, args := #[s, x], argTypes := #[60, 60] })
 {A B : Option Addr} {n c m d : Nat} {X Y : List Int} (hs : a.eval s = .slice A n c) (hx : a.eval x = .slice B m d) (h : OwI w A n c X) (hr : RdI w B m Y) (hm : n + m ≤ 1000000)
 (hK : ∀ A' c' w', OwI w' A' (n + m) c' (X ++ Y) → Turned w w' (fun j => blkOf A = some j) → (∀ g, blkOf A' = some g → blkOf A = some g ∨ w.heap.size ≤ g) → wpList Tryz.prog ops Q rest (a.put o.dst (.slice A' (n + m) c')) w') : wpList Tryz.prog ops Q (o :: rest) a w :=
 wpList_plain hgd fun _ hK' => wp_append_i s x ho hs hx h hr hm fun A' c' w' h2 h3 h4 => hK' _ _ (hK A' c' w' h2 h3 h4)
theorem OwI.none_new (w : World) : OwI (w.alloc (.cells #[] 3)) (some ⟨w.heap.size, 0, none⟩) 0 0 [] := ⟨rfl, by
 have := World.ownsRow_made (base := 0) (e := 3) (size := 1) w #[] 0 (Nat.zero_le _) (Nat.zero_le _) rfl; simpa [ints] using this⟩
theorem RdI.take {w : World} {A : Option Addr} {n : Nat} {Z : List Int} (h : RdI w A n Z) {k : Nat} (hk : k ≤ n) : RdI w A k (Z.take k) := by
 refine ⟨by rw [List.length_take, h.1]; omega, fun h0 => ?_⟩; obtain ⟨b, o, e, hc⟩ := h.2 (by omega); exact ⟨b, o, e, fun j hj => by rw [hc j (by rw [List.length_take] at hj; omega)]; simp⟩
theorem RdI.drop {w : World} {b o : Nat} {n : Nat} {Z : List Int} (h : RdI w (some ⟨b, o, none⟩) n Z) {k : Nat} (hk : k ≤ n) : RdI w (some ⟨b, o + k, none⟩) (n - k) (Z.drop k) := by
 refine ⟨by rw [List.length_drop, h.1], fun h0 => ⟨b, o + k, rfl, fun j hj => ?_⟩⟩; rw [List.length_drop] at hj; obtain ⟨b', o', e, hc⟩ := h.at_ (k := k + j) (by rw [← h.1]; omega); cases e; rw [Nat.add_assoc, hc]; simp
def needN (n : Nat) : Nat := (n + 59) / 60
theorem chainLength_any (n : Nat) (w : World) (hn : n ≤ 1000000) :
 Calls Tryz.prog 81 #[.int .i64 (n : Int)] w fun e w' => e = .returned (.int .i64 ((needN n : Nat) : Int)) ∧ w = w' := by
 have h1 : IntKind.i64.wrap ((n : Int) + 59) = (n : Int) + 59 := by simp [IntKind.wrap_i64]; omega
 have h2 : IntKind.i64.wrap (Int.tdiv ((n : Int) + 59) 60) = ((needN n : Nat) : Int) := by
  rw [Int.tdiv_eq_ediv_of_nonneg (by omega)]; unfold needN; simp [IntKind.wrap_i64]; omega
 go_enter Tryz.func81, Tryz.ntmps81; go_wp2; go_ret; exact ⟨rfl, rfl⟩
theorem leastRoom_any (n : Nat) (w : World) (hn : n ≤ 1000000) :
 Calls Tryz.prog 142 #[.int .i64 (n : Int)] w fun e w' => e = .returned (.int .i64 ((n / 60 + 2 : Nat) : Int)) ∧ w = w' := by
 have h2 : IntKind.i64.wrap (Int.tdiv (n : Int) 60) = ((n / 60 : Nat) : Int) := by
  rw [Int.tdiv_eq_ediv_of_nonneg (by omega)]; simp [IntKind.wrap_i64]; omega
 have h3 : IntKind.i64.wrap (((n / 60 : Nat) : Int) + 2) = ((n / 60 + 2 : Nat) : Int) := by simp [IntKind.wrap_i64]; omega
 go_enter Tryz.func142, Tryz.ntmps142; go_wp2; go_ret; exact ⟨rfl, rfl⟩
theorem pInBounds_any (x z : Int) (w : World) :
 Calls Tryz.prog 112 #[.int .i64 x, .int .i64 z] w fun e w' => e = .returned (.bool (finB z x)) ∧ w = w' := by
 by_cases h1 : 2 ≤ x
 · by_cases h2 : x < z
   · have hb : finB z x = true := by simp [finB, h1, h2]
     rw [hb]; go_enter Tryz.func112, Tryz.ntmps112; go_wp2; go_ret; exact ⟨rfl, rfl⟩
   · have hb : finB z x = false := by simp [finB, h1, h2]
     rw [hb]; go_enter Tryz.func112, Tryz.ntmps112; go_wp2; go_ret; exact ⟨rfl, rfl⟩
 · have hb : finB z x = false := by simp [finB, h1]
   rw [hb]; go_enter Tryz.func112, Tryz.ntmps112; go_wp2; go_ret; exact ⟨rfl, rfl⟩
def headN (S : List Int) : Int := match S with | [] => 0 | x :: _ => x
theorem first_any (A : Option Addr) (n c : Nat) (Z : List Int) (w : World) (h : RdI w A n Z) :
 Calls Tryz.prog 51 #[.slice A n c] w fun e w' => e = .returned (.int .i64 (headN Z)) ∧ w = w' := by
 cases Z with
 | nil =>
   obtain rfl : n = 0 := h.1.symm; clear h; go_enter Tryz.func51, Tryz.ntmps51; go_wp2; go_ret; exact ⟨rfl, rfl⟩
 | cons x r =>
   obtain ⟨m, rfl⟩ : ∃ m, n = m + 1 := ⟨r.length, by have := h.1; simpa using this.symm⟩
   obtain ⟨b, o, rfl, hc0⟩ := h.at_ (k := 0) (by omega); have hc : w.cell? ⟨b, o, none⟩ = some (.int .i64 x) := hc0; clear hc0 h; go_enter Tryz.func51, Tryz.ntmps51; go_wp2; go_ret; exact ⟨rfl, rfl⟩
def sg (s : FSt) (x : Int) : Int := if x ∈ s.S then 1 else if x ∈ s.H then 2 else 0
def SimG (s : FSt) (G : List Int) : Prop := (G.length : Int) = s.z ∧ ∀ i (h : i < G.length), G[i] = sg s (i : Int)
section
variable {s : FSt} {G : List Int} {x : Int} {k : Nat}
theorem sg_one : sg s x = 1 ↔ x ∈ s.S := by
 unfold sg; by_cases h1 : x ∈ s.S
 · simp [h1]
 · by_cases h2 : x ∈ s.H <;> simp [h1, h2]
theorem sg_zero : sg s x = 0 ↔ x ∉ s.S ∧ x ∉ s.H := by
 unfold sg; by_cases h1 : x ∈ s.S
 · simp [h1]
 · by_cases h2 : x ∈ s.H <;> simp [h1, h2]
theorem getD_at {G : List Int} {i : Nat} (h : i < G.length) : G.getD i 0 = G[i] := by simp [List.getD, h]
theorem may_eq : s.may x = if 2 ≤ x ∧ x < s.z then (if sg s x = 0 then 0 else 8) else 2 := by
 unfold FSt.may; by_cases hb : 2 ≤ x ∧ x < s.z
 · rw [if_pos hb, if_pos hb]; by_cases h0 : sg s x = 0
   · rw [if_pos h0, if_neg (by have := sg_zero.1 h0; rintro (h | h); exact this.1 h; exact this.2 h)]
   · rw [if_neg h0, if_pos]; refine Classical.not_not.1 fun hn => h0 (sg_zero.2 ⟨fun h => hn (.inl h), fun h => hn (.inr h)⟩)
 · rw [if_neg hb, if_neg hb]
theorem SimG.give (h : SimG s G) (hm : s.may x = 0) : SimG (s.give x) (G.set x.toNat 1) := by
 have hb := may_zero hm; have hg : s.give x = { s with S := addI x s.S } := by unfold FSt.give; rw [if_pos hm]
 rw [hg]; refine ⟨by rw [List.length_set]; exact h.1, fun i hi => ?_⟩; rw [List.getElem_set]
 split
 · rename_i e
   exact (sg_one.2 (mem_addI.2 (.inl (by omega)))).symm
 · rename_i e
   rw [h.2 i (by rw [List.length_set] at hi; exact hi)]; have e1 : ((i : Int) ∈ addI x s.S) = ((i : Int) ∈ s.S) := by
    rw [mem_addI, eq_iff_iff]; constructor
    · rintro (h | h)
      · omega
      · exact h
    · exact .inr
   simp only [sg, e1]
end
def idx (G : List Int) (v : Int) : Nat → List Int
 | 0 => []
 | k + 1 => idx G v k ++ if G.getD k 0 = v then [(k : Int)] else []
theorem mem_idx {G : List Int} {v : Int} {k : Nat} {x : Int} : x ∈ idx G v k ↔ ∃ i : Nat, i < k ∧ x = (i : Int) ∧ G.getD i 0 = v := by
 induction k with
 | zero => simp [idx]
 | succ k ih =>
   simp only [idx, List.mem_append, ih]; constructor
   · rintro (⟨i, h1, h2, h3⟩ | h)
     · exact ⟨i, by omega, h2, h3⟩
     · split at h
       · rename_i hv
         exact ⟨k, by omega, by simpa using h, hv⟩
       · simp at h
   · rintro ⟨i, h1, h2, h3⟩; by_cases e : i = k
     · subst e
       right
       rw [if_pos h3]; simp [h2]
     · exact .inl ⟨i, by omega, h2, h3⟩
theorem rising_idx (G : List Int) (v : Int) (k : Nat) : Rising (idx G v k) := by
 induction k with
 | zero => exact Rising.nil_
 | succ k ih =>
   refine List.pairwise_append.2 ⟨ih, ?_, fun a ha b hb => ?_⟩
   · split
     · exact List.pairwise_singleton _ _
     · exact List.Pairwise.nil
   · obtain ⟨i, h1, rfl, _⟩ := mem_idx.1 ha
     split at hb
     · rw [List.mem_singleton.1 hb]; omega
     · simp at hb
theorem idx_length (G : List Int) (v : Int) (k : Nat) : (idx G v k).length ≤ k := by
 induction k with
 | zero => exact Nat.le_refl _
 | succ k ih =>
   simp only [idx, List.length_append]
   split <;> simp <;> omega
theorem idx_one {s : FSt} {G : List Int} (h : SimG s G) (ho : s.ok) : idx G 1 G.length = s.S := Rising.uniq (rising_idx _ _ _) ho.2.2.1 fun x => by
 rw [mem_idx]; constructor
 · rintro ⟨i, h1, rfl, h2⟩; rw [getD_at h1] at h2; exact sg_one.1 ((h.2 i h1).symm.trans h2)
 · intro hx; have hb := ho.2.2.2.2.1 x hx; obtain ⟨i, rfl⟩ := Int.eq_ofNat_of_zero_le (show 0 ≤ x by omega); have h1 := h.1; have hi : i < G.length := by omega
   exact ⟨i, hi, rfl, by rw [getD_at hi]; exact (h.2 i hi).trans (sg_one.2 hx)⟩
def Rf (w : World) (r g : Nat) (G : List Int) : Prop := r ≠ g ∧ Blk w r 213 [.slice (some ⟨g, 0, none⟩) G.length G.length] ∧ Blk w g 3 (ints G)
section
variable {w w' : World} {r g : Nat} {G : List Int}
theorem Rf.c0 (h : Rf w r g G) : w.cell? ⟨r, 0, none⟩ = some (.slice (some ⟨g, 0, none⟩) G.length G.length) := h.2.1.cell 0
theorem Rf.at_ (h : Rf w r g G) {k : Nat} (hk : k < G.length) : w.cell? ⟨g, k, none⟩ = some (.int .i64 G[k]) := by rw [h.2.2.cell]; exact ints_get G k hk
theorem Rf.fz (h : Rf w r g G) (k : Nat) : w.frozen? ⟨g, k, none⟩ = false := h.2.2.frozen k
theorem Rf.keep (h : Rf w r g G) (e1 : w'.heap[r]? = w.heap[r]?) (e2 : w'.heap[g]? = w.heap[g]?) : Rf w' r g G := ⟨h.1, e1.trans h.2.1, e2.trans h.2.2⟩
theorem Rf.below (h : Rf w r g G) (hb : Below w.heap.size w w') : Rf w' r g G := h.keep (hb.block _ h.2.1.lt) (hb.block _ h.2.2.lt)
theorem Rf.turned (h : Rf w r g G) {T : Nat → Prop} (t : Turned w w' T) (h1 : ¬ T r) (h2 : ¬ T g) : Rf w' r g G := h.keep (t.block _ h.2.1.lt h1) (t.block _ h.2.2.lt h2)
theorem ints_set (G : List Int) (k : Nat) (v : Int) : ints (G.set k v) = (ints G).set k (.int .i64 v) := List.map_set ..
theorem Rf.put (h : Rf w r g G) (k : Nat) (v : Int) : Rf (w.setCell ⟨g, k, none⟩ (.int .i64 v)) r g (G.set k v) :=
 ⟨h.1, by rw [List.length_set]; exact h.2.1.far h.1 _, by rw [ints_set]; exact h.2.2.set_ k _⟩
end
end Go.Proofs.YtcapcobkildmcaaGreatDoor
end
