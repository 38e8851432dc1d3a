/- Fs -/
import Derived.Test.YtblbhhijddcbeaaGreatDoorBTu
import Derived.Test.YtblbhhijddcbeaaGreatDoorBLaySl
import Derived.Sort.OwnSortedInts
section
namespace Go.Proofs.YtblbhhijddcbeaaGreatDoor
open Go.ChangeShapes Go.WideShapes Go.ChangeAt Go.RowKit
set_option linter.unusedVariables false
set_option linter.unusedSimpArgs false
set_option maxRecDepth 100000
set_option maxHeartbeats 16000000
def ints (S : List Int) : List Value := S.map (Value.int .i64)
def Rising (S : List Int) : Prop := S.Pairwise (· < ·)
def under (x : Int) (S : List Int) : Nat := S.countP (· < x)
def ins (x : Int) : List Int → List Int
 | [] => [x]
 | y :: r => if y < x then y :: ins x r else x :: y :: r
theorem ints_length (S : List Int) : (ints S).length = S.length := List.length_map _
theorem ints_get (S : List Int) (j : Nat) (h : j < S.length) : (ints S)[j]? = some (.int .i64 S[j]) := by simp [ints, h]
theorem ints_one (S : List Int) : ∀ v ∈ ints S, v.oneCell' = true := fun v hv => by
 obtain ⟨x, _, rfl⟩ := List.mem_map.1 hv; rfl
theorem mem_ins {x z : Int} {S : List Int} : z ∈ ins x S ↔ z = x ∨ z ∈ S := by
 induction S with
 | nil => simp [ins]
 | cons y r ih =>
   simp only [ins]
   split
   · simp only [List.mem_cons, ih]; constructor
     · rintro (h | h | h)
       · exact .inr (.inl h)
       · exact .inl h
       · exact .inr (.inr h)
     · rintro (h | h | h)
       · exact .inr (.inl h)
       · exact .inl h
       · exact .inr (.inr h)
   · simp
theorem Rising.cons {y : Int} {r : List Int} : Rising (y :: r) ↔ (∀ z ∈ r, y < z) ∧ Rising r := List.pairwise_cons
theorem Rising.nil_ : Rising [] := List.Pairwise.nil
theorem Rising.ins {S : List Int} (h : Rising S) {x : Int} (hx : x ∉ S) : Rising (ins x S) := by
 induction S with
 | nil => simp [Rising, YtblbhhijddcbeaaGreatDoor.ins]
 | cons y r ih =>
   obtain ⟨h1, h2⟩ := Rising.cons.1 h; simp only [YtblbhhijddcbeaaGreatDoor.ins]
   split
   · rename_i hlt
     refine Rising.cons.2 ⟨fun z hz => ?_, ih h2 (fun hm => hx (List.mem_cons_of_mem _ hm))⟩; rcases mem_ins.1 hz with rfl | hz
     · exact hlt
     · exact h1 z hz
   · rename_i hlt
     have hne : y ≠ x := fun e => hx (by rw [e]; exact List.mem_cons_self ..)
     refine Rising.cons.2 ⟨fun z hz => ?_, h⟩; rcases List.mem_cons.1 hz with rfl | hz
     · omega
     · have := h1 z hz; omega
theorem under_zero {x : Int} {S : List Int} (h : ∀ z ∈ S, x ≤ z) : under x S = 0 := by
 rw [under, List.countP_eq_zero]; intro z hz; have := h z hz; simpa using this
theorem under_le (x : Int) (S : List Int) : under x S ≤ S.length := List.countP_le_length
theorem Rising.at_ {S : List Int} (h : Rising S) (x : Int) : S.take (under x S) ++ x :: S.drop (under x S) = YtblbhhijddcbeaaGreatDoor.ins x S := by
 induction S with
 | nil => rfl
 | cons y r ih =>
   obtain ⟨h1, h2⟩ := Rising.cons.1 h; by_cases hlt : y < x
   · have e : under x (y :: r) = under x r + 1 := by simp [under, hlt]
     rw [e]; simp only [YtblbhhijddcbeaaGreatDoor.ins, hlt, if_true, List.take_succ_cons, List.drop_succ_cons, List.cons_append]; rw [ih h2]
   · have e : under x (y :: r) = 0 := under_zero fun z hz => by
      rcases List.mem_cons.1 hz with rfl | hz
      · omega
      · have := h1 z hz; omega
     rw [e]; simp [YtblbhhijddcbeaaGreatDoor.ins, hlt]
theorem Rising.uniq {S T : List Int} (hS : Rising S) (hT : Rising T) (h : ∀ z, z ∈ S ↔ z ∈ T) : S = T := by
 induction S generalizing T with
 | nil =>
   cases T with
   | nil => rfl
   | cons y r => exact absurd ((h y).2 (List.mem_cons_self ..)) (by simp)
 | cons x s ih =>
   cases T with
   | nil => exact absurd ((h x).1 (List.mem_cons_self ..)) (by simp)
   | cons y r =>
     obtain ⟨h1, h2⟩ := Rising.cons.1 hS; obtain ⟨k1, k2⟩ := Rising.cons.1 hT; have e : x = y := by
      rcases List.mem_cons.1 ((h x).1 (List.mem_cons_self ..)) with e | e
      · exact e
      · rcases List.mem_cons.1 ((h y).2 (List.mem_cons_self ..)) with e' | e'
        · exact e'.symm
        · have := k1 x e; have := h1 y e'; omega
     subst e
     congr 1
     refine ih h2 k2 fun z => ⟨fun hz => ?_, fun hz => ?_⟩
     · rcases List.mem_cons.1 ((h z).1 (List.mem_cons_of_mem _ hz)) with e | e
       · have := h1 z hz; omega
       · exact e
     · rcases List.mem_cons.1 ((h z).2 (List.mem_cons_of_mem _ hz)) with e | e
       · have := k1 z hz; omega
       · exact e
theorem Rising.length_le {S : List Int} (h : Rising S) {a b : Int} (ha : ∀ z ∈ S, a ≤ z) (hb : ∀ z ∈ S, z < b) : S = [] ∨ (S.length : Int) ≤ b - a := by
 induction S generalizing a with
 | nil => exact .inl rfl
 | cons y r ih =>
   right
   obtain ⟨h1, h2⟩ := Rising.cons.1 h; have ha' := ha y (List.mem_cons_self ..); have hb' := hb y (List.mem_cons_self ..); rcases ih h2 (a := y + 1) (fun z hz => by have := h1 z hz; omega) (fun z hz => hb z (List.mem_cons_of_mem _ hz)) with rfl | h3
   · simp; omega
   · simp only [List.length_cons]; omega
theorem Rising.le {S : List Int} (h : Rising S) : (S.take S.length).Pairwise (· ≤ ·) := by
 rw [List.take_length]; exact List.Pairwise.imp (fun h => Int.le_of_lt h) h
def addI (x : Int) (S : List Int) : List Int := if x ∈ S then S else ins x S
theorem mem_addI {x z : Int} {S : List Int} : z ∈ addI x S ↔ z = x ∨ z ∈ S := by
 unfold addI
 split
 · rename_i h
   exact ⟨.inr, fun h' => by rcases h' with rfl | h'; exact h; exact h'⟩
 · exact mem_ins
theorem Rising.addI {S : List Int} (h : Rising S) (x : Int) : Rising (addI x S) := by
 unfold YtblbhhijddcbeaaGreatDoor.addI
 split
 · exact h
 · rename_i hx
   exact h.ins hx
def OwI (w : World) (A : Option Addr) (n c : Nat) (S : List Int) : Prop := S.length = n ∧ w.ownsRow 0 3 1 (.slice A n c) n (ints S)
def blkOf (A : Option Addr) : Option Nat := A.map (·.block)
section
variable {w w' : World} {A : Option Addr} {n c : Nat} {S : List Int}
theorem OwI.cap (h : OwI w A n c S) : n ≤ c := own_cap h.2
theorem OwI.nil_ (w : World) : OwI w none 0 0 [] := ⟨rfl, World.ownsRow_nil _ _ _ _⟩
theorem OwI.lt (h : OwI w A n c S) {g : Nat} (hg : blkOf A = some g) : g < w.heap.size := by
 refine (h.2.lt g ?_).2; cases A with
 | none => cases hg
 | some a => exact hg
theorem OwI.keep (h : OwI w A n c S) (e : ∀ g, blkOf A = some g → w'.heap[g]? = w.heap[g]?) : OwI w' A n c S := by
 refine ⟨h.1, h.2.1, ?_⟩; rcases h.2.2 with h0 | ⟨g, cap, cur, hv, hb, hh, r⟩
 · exact .inl h0
 · refine .inr ⟨g, cap, cur, hv, hb, ?_, r⟩; injection hv with hA _ _
   rw [e g (by rw [hA]; rfl)]; exact hh
theorem OwI.turned (h : OwI w A n c S) {T : Nat → Prop} (t : Turned w w' T) (hn : ∀ g, blkOf A = some g → ¬ T g) : OwI w' A n c S := h.keep fun g hg => t.block g (h.lt hg) (hn g hg)
theorem OwI.below (h : OwI w A n c S) (hb : Below w.heap.size w w') : OwI w' A n c S := h.keep fun g hg => hb.block g (h.lt hg)
theorem OwI.form (h : OwI w A n c S) : (A = none ∧ n = 0 ∧ c = 0 ∧ S = []) ∨ ∃ g cur, A = some ⟨g, 0, none⟩ ∧ w.heap[g]? = some (.cells cur 3 (0, 0)) ∧ n ≤ c ∧ c ≤ maxLen ∧ cur.size = c ∧ cur.toList.take n = ints S := by
 rcases h.2.2 with ⟨h0, h1⟩ | ⟨g, cap, cur, hv, hb, hh, h1, h2, h3, h4⟩
 · injection h0 with hA hn hc
   subst hA hn hc; exact .inl ⟨rfl, rfl, rfl, List.eq_nil_of_length_eq_zero h.1⟩
 · injection hv with hA _ hc
   subst hA hc; exact .inr ⟨g, cur, rfl, hh, h1, h2, by omega, by simpa using h4⟩
theorem OwI.of_cells {g : Nat} {cur : Array Value} (hl : S.length = n) (hg : w.heap[g]? = some (.cells cur 3 (0, 0))) (hn : n ≤ c) (hc : c ≤ maxLen) (hs : cur.size = c) (h : ∀ j, j < n → w.cell? ⟨g, j, none⟩ = (ints S)[j]?) : OwI w (some ⟨g, 0, none⟩) n c S := by
 refine ⟨hl, by rw [ints_length, hl, Nat.mul_one], .inr ⟨g, c, cur, rfl, Nat.zero_le _, hg, hn, hc, by omega, ?_⟩⟩; rw [Nat.mul_one]; apply List.ext_getElem?; intro j; by_cases hj : j < n
 · rw [List.getElem?_take_of_lt hj, Array.getElem?_toList, ← h j hj, cell_of_row w g j cur _ _ hg]
 · rw [List.getElem?_take_eq_none (by omega), List.getElem?_eq_none (by rw [ints_length]; omega)]
theorem OwI.cell (h : OwI w A n c S) {g : Nat} (hA : A = some ⟨g, 0, none⟩) {j : Nat} (hj : j < n) : w.cell? ⟨g, j, none⟩ = some (.int .i64 (S[j]'(by rw [h.1]; exact hj))) := by
 subst hA; rw [h.2.cellAt j (by omega), ints_get S j (by rw [h.1]; exact hj)]
theorem OwI.head (h : OwI w A n c S) (hn : 0 < n) : ∃ g, A = some ⟨g, 0, none⟩ := by
 rcases h.form with ⟨_, h0, _⟩ | ⟨g, cur, hA, _⟩
 · omega
 · exact ⟨g, hA⟩
theorem OwI.getD (h : OwI w A n c S) {g : Nat} (hA : A = some ⟨g, 0, none⟩) : ∀ j, j < S.length → w.cell? ⟨g, 0 + j, none⟩ = some (.int .i64 (S.getD j 0)) := fun j hj => by
 rw [Nat.zero_add, h.cell hA (by rw [← h.1]; exact hj)]; simp [List.getD, hj]
end
theorem search_any (A : Option Addr) (n c : Nat) (S : List Int) (x : Int) (w : World) (h : OwI w A n c S) (hS : Rising S) (hn : n ≤ 1000000) :
 Calls Tryz.prog 136 #[.slice A n c, .int .i64 x] w fun e w' => e = .returned (.tuple #[.int .i64 ((under x S : Nat) : Int), .bool (decide (x ∈ S))]) ∧ ∃ q, w' = w.drewN q := by
 rcases Nat.eq_zero_or_pos n with h0 | h0
 · subst h0; obtain rfl : S = [] := List.eq_nil_of_length_eq_zero h.1; have hcon := Any.slices_BinarySearch_int_empty Tryz.searchA A c x w
   change Calls Tryz.prog 136 _ _ _ at hcon
   refine hcon.mono ?_; rintro e w' ⟨rfl, rfl⟩; exact ⟨rfl, 0, rfl⟩
 · obtain ⟨g, hA⟩ := h.head h0; have hcon := Any.slices_BinarySearch_int Tryz.searchA g 0 n c S x w (by rw [h.1]; exact Nat.le_refl _) (by omega) (h.getD hA) (by have := hS.le; rwa [h.1] at this)
   change Calls Tryz.prog 136 _ _ _ at hcon
   have ht : S.take n = S := List.take_of_length_le (by rw [h.1]; exact Nat.le_refl _); rw [ht] at hcon; rw [hA]; refine hcon.mono ?_; rintro e w' ⟨rfl, hq⟩; refine ⟨?_, hq⟩; simp [under]
theorem renI : Tryz.insertA_ren.t 3 = 3 := rfl
theorem insert_any (A : Option Addr) (n c i vb : Nat) (S : List Int) (x : Int) (w : World) (h : OwI w A n c S) (hi : i ≤ n) (hn : n ≤ 1000000) (hv : Blk w vb 3 [.int .i64 x]) (hne : blkOf A ≠ some vb) :
 Calls Tryz.prog 137 #[.slice A n c, .int .i64 i, .slice (some ⟨vb, 0, none⟩) 1 1] w fun e w' => ∃ A' c', e = .returned (.slice A' (n + 1) c') ∧
  OwI w' A' (n + 1) c' (S.take i ++ x :: S.drop i) ∧ Turned w w' (fun k => blkOf A = some k) ∧ (∀ g, blkOf A' = some g → blkOf A = some g ∨ w.heap.size ≤ g) := by
 have hvs : ∀ j v, [Value.int .i64 x][j]? = some v → w.cell? ⟨vb, 0 + j, none⟩ = some v := fun j v hj => by rw [Nat.zero_add, hv.cell]; exact hj
 have hv1 : ∀ v ∈ [Value.int .i64 x], v.oneCell' = true := fun v hv => by rw [List.mem_singleton.1 hv]; rfl
 have hSl : (S.take i ++ x :: S.drop i).length = n + 1 := by simp [h.1]; omega
 -- the cells of the longer row, one by one
 have hcut : ∀ j, (ints (S.take i ++ x :: S.drop i))[j]? = if j < i then (ints S)[j]? else if j = i then some (.int .i64 x) else (ints S)[j - 1]? := fun j => by
  have hlen : (S.take i).length = i := by rw [List.length_take, h.1]; omega
  simp only [ints, List.map_append, List.map_cons]; by_cases h1 : j < i
  · rw [List.getElem?_append_left (by rw [List.length_map, hlen]; exact h1), if_pos h1]; simp [h1]
  · rw [List.getElem?_append_right (by rw [List.length_map, hlen]; omega), List.length_map, hlen, if_neg h1]; by_cases h2 : j = i
    · rw [if_pos h2, h2, Nat.sub_self]; rfl
    · rw [if_neg h2, show j - i = (j - i - 1) + 1 by omega, List.getElem?_cons_succ]; simp only [List.getElem?_map, List.getElem?_drop]; rw [show i + (j - i - 1) = j - 1 by omega]
 rcases h.form with ⟨rfl, rfl, rfl, rfl⟩ | ⟨g, cur, rfl, hg, hnc, hcm, hcs, htk⟩
 · obtain rfl : i = 0 := by omega
   have hcon := Any2.slices_Insert_int_end_grow Tryz.insertA none 0 0 vb 0 1 1 [] [.int .i64 x] w (by omega) (by omega) (by omega) (by omega) rfl rfl (fun _ => rfl) (fun a e => by cases e) hvs hv1; (try rw [renI] at hcon)
   change Calls Tryz.prog 137 _ _ _ at hcon
   refine hcon.mono ?_; rintro e w' ⟨rfl, rfl⟩; have hG := grownCap_ge w (0 + 1) 0 3; have hGm := grownCap_le_maxLen w (0 + 1) 0 3 (by unfold maxLen; omega); refine ⟨_, _, rfl, OwI.of_cells (g := w.heap.size) hSl (by rw [show w.heap.size = w.drew.heap.size from rfl]; exact heap_alloc_new _ _) hG hGm ?_ ?_, (Turned.refl _ _).drew.alloc _, fun g hg => .inr ?_⟩
   · have hG' : 1 ≤ grownCap w 1 0 3 := hG; simp only [Array.size_append, List.size_toArray, List.length_append, List.length_nil, List.length_singleton, size_zeroCells, Value.cells]; show 0 + 1 + (grownCap w 1 0 3 - 1) * 1 = grownCap w 1 0 3; omega
   · intro j hj; obtain rfl : j = 0 := by omega
     rw [hcut, World.cell?_alloc_at (w := w.drew) _ _ w.heap.size 0 rfl, Array.getElem?_append_left (by simp)]; simp
   · cases hg; exact Nat.le_refl _
 · have hfz : ∀ j, w.frozen? ⟨g, j, none⟩ = false := fun j => frozen_of_row w g j cur _ hg
   have hcell : ∀ j, w.cell? ⟨g, j, none⟩ = cur[j]? := fun j => cell_of_row w g j cur _ _ hg
   have hSn : ∀ j, j < n → w.cell? ⟨g, j, none⟩ = (ints S)[j]? := fun j hj => by
    rw [hcell, ← htk, List.getElem?_take_of_lt hj, Array.getElem?_toList]
   have hcs' : ∀ j v, (ints S)[j]? = some v → w.cell? ⟨g, 0 + j, none⟩ = some v := fun j v hj => by
    have hjn : j < n := by have := (List.getElem?_eq_some_iff.1 hj).1; rwa [ints_length, h.1] at this
    rw [Nat.zero_add, hSn j hjn, hj]
   have hvg : vb ≠ g := fun e => hne (by rw [e]; rfl)
   have hglt : g < w.heap.size := (Array.getElem?_eq_some_iff.1 hg).1; by_cases hroom : n + 1 ≤ c
   · have hsm : ∀ j, j < n + 1 → (w.cell? ⟨g, 0 + j, none⟩).isSome = true := fun j hj => by
      rw [Nat.zero_add, hcell, Array.getElem?_eq_getElem (by omega)]; rfl
     by_cases hin : i = n
     · subst hin; have hcon := Any2.slices_Insert_int_end_room Tryz.insertA g 0 i c vb 0 1 1 [.int .i64 x] w (by omega) hroom (by unfold maxLen at hcm; omega) rfl (fun j hj => by have := hsm i (by omega); rwa [show 0 + i + j = 0 + i by omega]) (fun j hj => hfz _) hvs hv1; (try rw [renI] at hcon)
       change Calls Tryz.prog 137 _ _ _ at hcon
       refine hcon.mono ?_; rintro e w' ⟨rfl, rfl⟩; obtain ⟨cur', hb', hs'⟩ := shape_setCells g 3 [.int .i64 x] (0 + i) w cur hg; refine ⟨_, _, rfl, OwI.of_cells hSl hb' hroom hcm (by omega) ?_, (Turned.refl _ _).grown (grown_setCells g _ _ w).1 (fun j _ e => by cases e; rfl), fun k hk => .inl hk⟩; intro j hj; rw [hcut]; by_cases h1 : j < i
       · rw [if_pos h1, World.cell?_setCells_out g _ _ w ⟨g, j, none⟩ (fun _ _ => by left; show j < 0 + i; omega), hSn j h1]
       · obtain rfl : j = i := by omega
         rw [if_neg (by omega), if_pos rfl]; have := World.cell?_setCells_in g [.int .i64 x] (0 + j) w (fun k hk => by have := hsm j (by omega); simp only [List.length_singleton] at hk; rwa [show 0 + j + k = 0 + j by omega]) 0 (by simp); simpa using this
     · have hlt : i < n := by omega
       have hcon := Any2.slices_Insert_int_shift Tryz.insertA g 0 n c i vb 0 1 1 (ints S) [.int .i64 x] w hlt (by omega) hroom (by unfold maxLen at hcm; omega) hvg (by rw [ints_length, h.1]) rfl hcs' hsm (fun j _ => hfz _) hvs (ints_one S) hv1
        3 3 1 cur.size (by unfold Blk at hv; simp [World.shape?, hv]) (by simp [World.shape?, hg]) (by omega) (hv.frozen 0) (hv.frozen 1)
       (try rw [renI] at hcon)
       change Calls Tryz.prog 137 _ _ _ at hcon
       refine hcon.mono ?_; rintro e w' ⟨rfl, rfl⟩; have hg' : w.drew.heap[g]? = some (.cells cur 3 (0, 0)) := hg; obtain ⟨cur1, hb1, hs1⟩ := shape_setCells g 3 ((ints S).drop i) (0 + (i + 1)) w.drew cur hg'; obtain ⟨cur2, hb2, hs2⟩ := shape_setCells g 3 [.int .i64 x] (0 + i) _ cur1 hb1; have hdl : ((ints S).drop i).length = n - i := by rw [List.length_drop, ints_length, h.1]
       refine ⟨_, _, rfl, OwI.of_cells hSl hb2 hroom hcm (by omega) ?_, ((Turned.refl w _).drew.grown (grown_setCells g _ _ w.drew).1 (fun j _ e => by cases e; rfl)).grown (grown_setCells g _ _ _).1 (fun j _ e => by cases e; rfl), fun k hk => .inl hk⟩; intro j hj; rw [hcut]; by_cases h2 : j = i
       · subst h2; rw [if_neg (by omega), if_pos rfl]; have := World.cell?_setCells_in g [.int .i64 x] (0 + j) (w.drew.setCells g (0 + (j + 1)) ((ints S).drop j)) (fun k hk => by
          simp only [List.length_singleton] at hk; rw [cell_of_row _ g _ cur1 _ _ hb1, Array.getElem?_eq_getElem (by omega)]; rfl) 0 (by simp)
         simpa using this
       · rw [World.cell?_setCells_out g [.int .i64 x] (0 + i) _ ⟨g, j, none⟩ (fun _ _ => by simp only [List.length_singleton]; omega)]; by_cases h1 : j < i
         · rw [if_pos h1, World.cell?_setCells_out g _ _ w.drew ⟨g, j, none⟩ (fun _ _ => by left; show j < 0 + (i + 1); omega)]; exact hSn j (by omega)
         · rw [if_neg h1, if_neg h2]; have := World.cell?_setCells_in g ((ints S).drop i) (0 + (i + 1)) w.drew (fun k hk => by
            rw [hdl] at hk; rw [cell_of_row _ g _ cur _ _ hg', Array.getElem?_eq_getElem (by omega)]; rfl) (j - (i + 1)) (by rw [hdl]; omega)
           rw [show 0 + (i + 1) + (j - (i + 1)) = j by omega] at this; rw [this, ← List.getElem?_eq_getElem, List.getElem?_drop, show i + (j - (i + 1)) = j - 1 by omega]
   · have hG := grownCap_ge w (n + 1) c 3; have hGm := grownCap_le_maxLen w (n + 1) c 3 (by unfold maxLen; omega); by_cases hin : i = n
     · subst hin; have hcon := Any2.slices_Insert_int_end_grow Tryz.insertA (some ⟨g, 0, none⟩) i c vb 0 1 1 (ints S) [.int .i64 x] w (by omega) hnc (by omega) (by omega) (by rw [ints_length, h.1]) rfl (fun e => by cases e) (fun a e j v hj => by
        cases e; have := hcs' j v hj; rw [Addr.add_lit]; exact this) hvs hv1
       (try rw [renI] at hcon)
       change Calls Tryz.prog 137 _ _ _ at hcon
       refine hcon.mono ?_; rintro e w' ⟨rfl, rfl⟩; refine ⟨_, _, rfl, OwI.of_cells (g := w.heap.size) hSl (by rw [show w.heap.size = w.drew.heap.size from rfl]; exact heap_alloc_new _ _) hG hGm ?_ ?_, (Turned.refl _ _).drew.alloc _, fun k hk => .inr ?_⟩
       · simp only [Array.size_append, List.size_toArray, List.length_append, ints_length, h.1, List.length_singleton, size_zeroCells, Value.cells]; show i + 1 + (grownCap w (i + 1) c 3 - (i + 1)) * 1 = _; omega
       · intro j hj; rw [hcut, World.cell?_alloc_at (w := w.drew) _ _ w.heap.size j rfl]; rw [Array.getElem?_append_left (by simp [ints_length, h.1]; omega)]; by_cases h1 : j < i
         · rw [if_pos h1]; simp only [List.getElem?_toArray]; rw [List.getElem?_append_left (by rw [ints_length, h.1]; exact h1)]
         · obtain rfl : j = i := by omega
           rw [if_neg (by omega), if_pos rfl]; simp only [List.getElem?_toArray]; rw [List.getElem?_append_right (by rw [ints_length, h.1]; exact Nat.le_refl _), ints_length, h.1, Nat.sub_self]; rfl
       · cases hk; exact Nat.le_refl _
     · have hlt : i < n := by omega
       have hcon := Any2.slices_Insert_int_grow Tryz.insertA g 0 n c i vb 0 1 1 (ints S) [.int .i64 x] w hlt (by omega) hnc (by omega) (by omega) (by rw [ints_length, h.1]) rfl hcs' hvs (ints_one S) hv1; (try rw [renI] at hcon)
       change Calls Tryz.prog 137 _ _ _ at hcon
       refine hcon.mono ?_; rintro e w' ⟨rfl, rfl⟩; obtain ⟨ROW, hROW⟩ : ∃ ROW : Array Value, ROW = ((ints S).take i).toArray ++ Builtin.zeroCells (Value.int .i64 0).cells (n + 1 - i) ++ Builtin.zeroCells (Value.int .i64 0).cells (grownCap w (n + 1) c 3 - (n + 1)) := ⟨_, rfl⟩
       have hRs : ROW.size = grownCap w (n + 1) c 3 := by
        rw [hROW]; simp only [Array.size_append, List.size_toArray, List.length_take, ints_length, h.1, size_zeroCells, Value.cells]; show min i n + (n + 1 - i) * 1 + (grownCap w (n + 1) c 3 - (n + 1)) * 1 = _; omega
       have hRt : ∀ j, j < i → ROW[j]? = (ints S)[j]? := fun j hj => by
        rw [hROW, Array.getElem?_append_left (by simp only [Array.size_append, List.size_toArray, List.length_take, ints_length, h.1]; omega), Array.getElem?_append_left (by simp only [List.size_toArray, List.length_take, ints_length, h.1]; omega)]; simp [hj]
       show ∃ A' c', _ ∧ OwI ((((w.alloc (.cells (((ints S).take i).toArray ++ Builtin.zeroCells (Value.int .i64 0).cells (n + 1 - i) ++ Builtin.zeroCells (Value.int .i64 0).cells (grownCap w (n + 1) c 3 - (n + 1))) 3)).drew.setCells w.heap.size i [.int .i64 x]).drew).setCells w.heap.size (i + 1) ((ints S).drop i)) A' (n + 1) c' _ ∧ Turned w ((((w.alloc (.cells (((ints S).take i).toArray ++ Builtin.zeroCells (Value.int .i64 0).cells (n + 1 - i) ++ Builtin.zeroCells (Value.int .i64 0).cells (grownCap w (n + 1) c 3 - (n + 1))) 3)).drew.setCells w.heap.size i [.int .i64 x]).drew).setCells w.heap.size (i + 1) ((ints S).drop i)) _ ∧ _; rw [← hROW]; obtain ⟨W1, hW1⟩ : ∃ W1, W1 = (w.alloc (.cells ROW 3)).drew := ⟨_, rfl⟩
       have hb1 : W1.heap[w.heap.size]? = some (.cells ROW 3 (0, 0)) := by rw [hW1]; exact heap_alloc_new _ _
       have hT1 : Turned w W1 (fun k => blkOf (some (⟨g, 0, none⟩ : Addr)) = some k) := by rw [hW1]; exact ((Turned.refl _ _).alloc _).drew
       rw [← hW1]; obtain ⟨cur1, hc1, hs1⟩ := shape_setCells w.heap.size 3 [.int .i64 x] i W1 ROW hb1; have hc1' : (W1.setCells w.heap.size i [.int .i64 x]).drew.heap[w.heap.size]? = some (.cells cur1 3 (0, 0)) := hc1; obtain ⟨cur2, hc2, hs2⟩ := shape_setCells w.heap.size 3 ((ints S).drop i) (i + 1) _ cur1 hc1'; have hdl : ((ints S).drop i).length = n - i := by rw [List.length_drop, ints_length, h.1]
       refine ⟨_, _, rfl, OwI.of_cells hSl hc2 hG hGm (by omega) ?_, ((hT1.grown (grown_setCells w.heap.size _ _ W1).1 (fun j hj e => by cases e; exact absurd hj (Nat.lt_irrefl _))).drew).grown (grown_setCells w.heap.size _ _ _).1 (fun j hj e => by cases e; exact absurd hj (Nat.lt_irrefl _)), fun k hk => .inr (by cases hk; exact Nat.le_refl _)⟩; intro j hj; rw [hcut]; by_cases h3 : i < j
       · rw [if_neg (by omega), if_neg (by omega)]; have := World.cell?_setCells_in w.heap.size ((ints S).drop i) (i + 1) (W1.setCells w.heap.size i [.int .i64 x]).drew (fun k hk => by
          rw [hdl] at hk; rw [cell_of_row _ _ _ cur1 _ _ hc1', Array.getElem?_eq_getElem (by omega)]; rfl) (j - (i + 1)) (by rw [hdl]; omega)
         rw [show i + 1 + (j - (i + 1)) = j by omega] at this; rw [this, ← List.getElem?_eq_getElem, List.getElem?_drop, show i + (j - (i + 1)) = j - 1 by omega]
       · rw [World.cell?_setCells_out w.heap.size _ _ _ ⟨w.heap.size, j, none⟩ (fun _ _ => by left; show j < i + 1; omega)]; show (W1.setCells w.heap.size i [.int .i64 x]).cell? _ = _; by_cases h2 : j = i
         · subst h2; rw [if_neg (by omega), if_pos rfl]; have := World.cell?_setCells_in w.heap.size [.int .i64 x] j W1 (fun k hk => by
            simp only [List.length_singleton] at hk; rw [cell_of_row _ _ _ ROW _ _ hb1, Array.getElem?_eq_getElem (by omega)]; rfl) 0 (by simp)
           simpa using this
         · rw [if_pos (by omega), World.cell?_setCells_out w.heap.size _ _ _ ⟨w.heap.size, j, none⟩ (fun _ _ => by left; show j < i; omega), cell_of_row _ _ _ ROW _ _ hb1]; exact hRt j (by omega)
theorem delete_any (A : Option Addr) (n c : Nat) (x : Int) (S : List Int) (w : World) (h : OwI w A (n + 1) c (x :: S)) :
 Calls Tryz.prog 168 #[.slice A (n + 1) c, .int .i64 0, .int .i64 1] w fun e w' => e = .returned (.slice A n c) ∧ OwI w' A n c S ∧ Turned w w' (fun k => blkOf A = some k) ∧ w'.heap.size = w.heap.size := by
 rcases h.form with ⟨_, h0, _⟩ | ⟨g, cur, rfl, hg, hnc, hcm, hcs, htk⟩
 · omega
 · have hH := holds_of_blockI (ss := x :: S) hg (by rw [h.1]; exact htk); have hl : (x :: S).length = n + 1 := h.1; have hcon := Any.slices_Delete_int Tryz.deleteA g 0 c 0 1 (x :: S) w hH (by rw [hl]; exact hnc) (by unfold maxLen at hcm; omega) (by omega) (by rw [hl]; omega)
   change Calls Tryz.prog 168 _ _ _ at hcon
   rw [hl] at hcon; refine hcon.mono ?_; rintro e w' ⟨rfl, q, rfl⟩; have hd : ((x :: S).take 0 ++ (x :: S).drop 1 ++ List.replicate (1 - 0) 0) = S ++ [0] := by simp
   rw [hd]; have hg2 := heap_sortedI (n := q) (os := #[]) (S ++ [0]).toArray hg; have hg1 := grownBy_sortedI (w := w) (g := g) (n := q) (os := #[]) (S ++ [0]).toArray; have hgr : ∀ W : World, _root_.Go.Sort.grow W #[] = W := fun W => by simp [_root_.Go.Sort.grow]
   rw [hgr] at hg1 hg2; have hls : S.length = n := by simpa using hl
   refine ⟨rfl, OwI.of_cells hls hg2 (by omega) hcm (by simp [_root_.Go.Sort.putCells, hcs]) ?_, Turned.of_grown hg1 (fun j e => by cases e; rfl), by simp [_root_.Go.Sort.ahead]⟩; intro j hj; rw [cell_of_row _ _ _ _ _ _ hg2]; have e : ((_root_.Go.Sort.putCells (Value.int .i64) 0 (S ++ [0]).toArray cur).toList.take (S ++ [0]).length)[j]? = ((S ++ [0]).map (Value.int .i64))[j]? := by rw [take_putCellsI cur (S ++ [0]) (by simp [hls]; omega)]
   rw [List.getElem?_take_of_lt (by simp [hls]; omega), Array.getElem?_toList] at e; rw [e, ints, List.map_append, List.getElem?_append_left (by simp [hls]; exact hj)]
theorem clone_any_i (A : Option Addr) (n c : Nat) (S : List Int) (w : World) (h : OwI w A n c S) (hn : n ≤ 1000000) :
 Calls Tryz.prog 132 #[.slice A n c] w fun e w' => ∃ A' c', e = .returned (.slice A' n c') ∧ OwI w' A' n c' S ∧ Below w.heap.size w w' ∧ ∀ g, blkOf A' = some g → w.heap.size ≤ g := by
 have up : ∀ (v' : Value) (w' : World), w'.ownsRow w.heap.size 3 1 v' n (ints S) → ∃ A' c', v' = .slice A' n c' ∧ OwI w' A' n c' S ∧ ∀ g, blkOf A' = some g → w.heap.size ≤ g := fun v' w' ho => by
  have hlt := ho.lt; rcases ho.2 with ⟨rfl, h0⟩ | ⟨g, cap, cur, rfl, _⟩
  · exact ⟨none, 0, by rw [h0], ⟨h.1, by rw [h0] at ho ⊢; exact own_mono ho (Nat.zero_le _)⟩, fun g hg => by cases hg⟩
  · exact ⟨_, cap, rfl, ⟨h.1, own_mono ho (Nat.zero_le _)⟩, fun k hk => (hlt k (by cases hk; rfl)).1⟩
 rcases h.form with ⟨rfl, rfl, rfl, rfl⟩ | ⟨g, cur, rfl, hg, hnc, hcm, hcs, htk⟩
 · have hcon := Any.slices_Clone_int_nil Tryz.cloneA 0 0 w
   change Calls Tryz.prog 132 _ _ _ at hcon
   refine hcon.mono ?_; rintro e w' ⟨rfl, rfl⟩; exact ⟨none, 0, rfl, OwI.nil_ _, Below.refl _ _, fun g hg => by cases hg⟩
 · have hcon := Any.slices_Clone_int Tryz.cloneA g 0 n c S w (by rw [h.1]; exact Nat.le_refl _) (by omega) (h.getD rfl)
   change Calls Tryz.prog 132 _ _ _ at hcon
   rw [List.take_of_length_le (by rw [h.1]; exact Nat.le_refl _)] at hcon; refine hcon.mono ?_; rintro e w' ⟨v', rfl, hown, _, hb⟩; obtain ⟨A', c', rfl, h1, h2⟩ := up v' w' hown; exact ⟨A', c', rfl, h1, hb, h2⟩
end Go.Proofs.YtblbhhijddcbeaaGreatDoor
end
