/- Dc Dw -/
import Derived.Test.YtblbhhijddcbeaaGreatDoorBDk
import Derived.Laws.LoneSync
section
namespace Go.Proofs.YtblbhhijddcbeaaGreatDoor
open Go.ChangeShapes Go.WideShapes Go.ChangeAt Go.RowKit
set_option linter.unusedVariables false
set_option linter.unusedSimpArgs false
set_option maxRecDepth 100000
set_option maxHeartbeats 16000000
structure St where
 pages : List (List UInt8)
 cache : Int → Option (List UInt8)
 fuse : Int
 done : Nat
structure Dk where
 r : Nat
 g : Nat
 m : Nat
 cap : Nat
def Dk.own (d : Dk) (i : Nat) : Prop := i = d.r ∨ i = d.g ∨ i = d.m
def St.ok (S : St) : Prop := 8 ≤ S.pages.length ∧ S.pages.length ≤ 1024 ∧ (∀ x xs, S.cache x = some xs → 0 ≤ x ∧ x < S.pages.length ∧ xs.length = 256) ∧ -1 ≤ S.fuse ∧ S.fuse ≤ 9223372036854775807
def DskB (w : World) (d : Dk) (S : St) (B : Nat) : Prop :=
 S.ok ∧ Blk w d.r 115 [.slice (some ⟨d.g, 0, none⟩) S.pages.length d.cap, .map (some d.m), .int .i64 S.fuse, .int .i64 (S.done : Int)] ∧ PgAt w d.g d.cap S.pages ∧ ∃ k, k ≤ B ∧ Mv w d.m k (fun x => (S.cache x).map pageV)
def Dsk (w : World) (d : Dk) (S : St) : Prop := DskB w d S S.done
def St.page (S : St) (p : Int) : List UInt8 := (S.cache p).getD (S.pages.getD p.toNat [])
def St.count (S : St) : St := { S with fuse := if 0 < S.fuse then S.fuse - 1 else S.fuse, done := S.done + 1 }
section
variable {w w' : World} {d : Dk} {S : St}
theorem Dsk.c0 (h : Dsk w d S) : w.cell? ⟨d.r, 0, none⟩ = some (.slice (some ⟨d.g, 0, none⟩) S.pages.length d.cap) := h.2.1.cell 0
theorem Dsk.c1 (h : Dsk w d S) : w.cell? ⟨d.r, 1, none⟩ = some (.map (some d.m)) := h.2.1.cell 1
theorem Dsk.c2 (h : Dsk w d S) : w.cell? ⟨d.r, 2, none⟩ = some (.int .i64 S.fuse) := h.2.1.cell 2
theorem Dsk.rg (h : Dsk w d S) : d.r ≠ d.g := by
 intro e; obtain ⟨_, hb, ⟨cur, hg, _⟩, _⟩ := h; unfold Blk at hb; rw [e, hg] at hb; simp at hb
theorem Dsk.rm (h : Dsk w d S) : d.r ≠ d.m := by
 intro e; obtain ⟨_, hb, _, k, _, hm⟩ := h; obtain ⟨es, cl, hm⟩ := hm.kind; unfold Blk at hb; rw [e, hm] at hb; simp at hb
theorem Dsk.gm (h : Dsk w d S) : d.g ≠ d.m := by
 intro e; obtain ⟨_, _, ⟨cur, hg, _⟩, k, _, hm⟩ := h; obtain ⟨es, cl, hm⟩ := hm.kind; rw [e, hm] at hg; simp at hg
theorem Dsk.lt (h : Dsk w d S) (i : Nat) (hi : d.own i) : i < w.heap.size := by
 rcases hi with rfl | rfl | rfl
 · exact h.2.1.lt
 · exact h.2.2.1.lt
 · obtain ⟨k, _, hm⟩ := h.2.2.2; exact hm.lt
theorem Dsk.same (h : Dsk w d S) (he : ∀ i, d.own i → w'.heap[i]? = w.heap[i]?) : Dsk w' d S := by
 obtain ⟨h1, h2, h3, k, h4, h5⟩ := h; exact ⟨h1, (he _ (.inl rfl)).trans h2, h3.keep (he _ (.inr (.inl rfl))), k, h4, h5.keep (he _ (.inr (.inr rfl)))⟩
theorem Dsk.turned (h : Dsk w d S) {T : Nat → Prop} (t : Turned w w' T) (hn : ∀ i, d.own i → ¬ T i) : Dsk w' d S := h.same fun i hi => t.block i (h.lt i hi) (hn i hi)
theorem Dsk.below (h : Dsk w d S) (hb : Below w.heap.size w w') : Dsk w' d S := h.same fun i hi => hb.block i (h.lt i hi)
theorem DskB.rg {B : Nat} (h : DskB w d S B) : d.r ≠ d.g := by
 intro e; obtain ⟨_, hb, ⟨cur, hg, _⟩, _⟩ := h; unfold Blk at hb; rw [e, hg] at hb; simp at hb
theorem DskB.rm {B : Nat} (h : DskB w d S B) : d.r ≠ d.m := by
 intro e; obtain ⟨_, hb, _, k, _, hm⟩ := h; obtain ⟨es, cl, hm⟩ := hm.kind; unfold Blk at hb; rw [e, hm] at hb; simp at hb
theorem DskB.set {B : Nat} (h : DskB w d S B) {fu : Int} (h1 : -1 ≤ fu) (h2 : fu ≤ 9223372036854775807) : DskB (w.setCell ⟨d.r, 2, none⟩ (.int .i64 fu)) d { S with fuse := fu } B := by
 have r1 := h.rg; have r2 := h.rm; obtain ⟨⟨o1, o2, o3, _, _⟩, hr, hg, k, hk, hm⟩ := h; exact ⟨⟨o1, o2, o3, h1, h2⟩, hr.set_ 2 _, hg.keep (Below.heap_setCell w _ _ _ (fun e => r1 e.symm)), k, hk, hm.keep (Below.heap_setCell w _ _ _ (fun e => r2 e.symm))⟩
theorem DskB.tell {B : Nat} (h : DskB w d S B) : DskB (w.setCell ⟨d.r, 3, none⟩ (.int .i64 ((S.done + 1 : Nat) : Int))) d { S with done := S.done + 1 } B := by
 have r1 := h.rg; have r2 := h.rm; obtain ⟨o, hr, hg, k, hk, hm⟩ := h; exact ⟨o, hr.set_ 3 _, hg.keep (Below.heap_setCell w _ _ _ (fun e => r1 e.symm)), k, hk, hm.keep (Below.heap_setCell w _ _ _ (fun e => r2 e.symm))⟩
end
theorem alive_dead (d : Dk) (S : St) (w : World) (h : Dsk w d S) (hf : S.fuse = 0) :
 Calls Tryz.prog 113 #[.pointer (some ⟨d.r, 0, none⟩)] w fun e w' => e = .returned (.int .i64 10) ∧ w = w' := by
 have c2 := h.c2; rw [hf] at c2; clear h hf; go_enter Tryz.func113, Tryz.ntmps113; go_wp2; go_ret; exact ⟨rfl, rfl⟩
theorem alive_ok (d : Dk) (S : St) (w : World) (h : Dsk w d S) (hf : S.fuse ≠ 0) :
 Calls Tryz.prog 113 #[.pointer (some ⟨d.r, 0, none⟩)] w fun e w' => e = .returned (.int .i64 0) ∧ w = w' := by
 have c2 := h.c2; have hb : (S.fuse == 0) = false := by simp [hf]
 clear h hf; go_enter Tryz.func113, Tryz.ntmps113; go_wp2; go_ret; exact ⟨rfl, rfl⟩
theorem has_dead (d : Dk) (S : St) (p : Int) (w : World) (h : Dsk w d S) (hf : S.fuse = 0) :
 Calls Tryz.prog 64 #[.pointer (some ⟨d.r, 0, none⟩), .int .i64 p] w fun e w' => e = .returned (.int .i64 10) ∧ w = w' := by
 have H := kept (alive_dead d S w h hf); clear h hf; go_enter Tryz.func64, Tryz.ntmps64; go_wp2_with (first | (go_at_call 113; (with_reducible refine (H.out).mono ?_); rintro e w' ⟨rfl, rfl⟩))
 go_ret; exact ⟨rfl, rfl⟩
theorem has_range (d : Dk) (S : St) (p : Int) (w : World) (h : Dsk w d S) (hf : S.fuse ≠ 0) (hp : p < 0 ∨ (S.pages.length : Int) ≤ p) :
 Calls Tryz.prog 64 #[.pointer (some ⟨d.r, 0, none⟩), .int .i64 p] w fun e w' => e = .returned (.int .i64 2) ∧ w = w' := by
 have H := kept (alive_ok d S w h hf); have c0 := h.c0; clear h hf; by_cases h0 : p < 0
 · clear hp; go_enter Tryz.func64, Tryz.ntmps64; go_wp2_with (first | (go_at_call 113; (with_reducible refine (H.out).mono ?_); rintro e w' ⟨rfl, rfl⟩))
   go_ret; exact ⟨rfl, rfl⟩
 · have h1 : (S.pages.length : Int) ≤ p := by omega
   clear hp; go_enter Tryz.func64, Tryz.ntmps64; go_wp2_with (first | (go_at_call 113; (with_reducible refine (H.out).mono ?_); rintro e w' ⟨rfl, rfl⟩))
   go_ret; exact ⟨rfl, rfl⟩
theorem has_ok (d : Dk) (S : St) (p : Int) (w : World) (h : Dsk w d S) (hf : S.fuse ≠ 0) (hp0 : 0 ≤ p) (hp : p < (S.pages.length : Int)) :
 Calls Tryz.prog 64 #[.pointer (some ⟨d.r, 0, none⟩), .int .i64 p] w fun e w' => e = .returned (.int .i64 0) ∧ w = w' := by
 have H := kept (alive_ok d S w h hf); have c0 := h.c0; clear h hf; have h0 : ¬ p < 0 := by omega
 have h1 : ¬ (S.pages.length : Int) ≤ p := by omega
 go_enter Tryz.func64, Tryz.ntmps64; go_wp2_with (first | (go_at_call 113; (with_reducible refine (H.out).mono ?_); rintro e w' ⟨rfl, rfl⟩))
 go_ret; exact ⟨rfl, rfl⟩
theorem size_any (d : Dk) (S : St) (w : World) (h : Dsk w d S) :
 Calls Tryz.prog 47 #[.pointer (some ⟨d.r, 0, none⟩)] w fun e w' => e = .returned (.int .i64 (S.pages.length : Int)) ∧ w = w' := by
 have c0 := h.c0; clear h; go_enter Tryz.func47, Tryz.ntmps47; go_wp2; go_ret; exact ⟨rfl, rfl⟩
theorem add64 {a : Addr} {x y : Int} {w : World} (hc : w.cell? a = some (.int .i64 x)) (hz : w.frozen? a = false) (h0 : -9223372036854775808 ≤ x + y) (h1 : x + y ≤ 9223372036854775807) :
 (callFunc 166 #[.pointer (some a), .int .i64 y]).run Tryz.prog w = .ok (.value (.int .i64 (x + y))) (w.setCell a (.int .i64 (x + y))) :=
 run_call_add Tryz.func166 (by kernel_rfl) (by kernel_rfl) (by kernel_rfl) .i64 (by rfl) hc hz (by simp [go_sem, IntKind.wrap_i64]; omega)
theorem addA_any (b : Nat) (x : Int) (w : World) (hc : w.cell? ⟨b, 3, none⟩ = some (.int .i64 x)) (hz : w.frozen? ⟨b, 3, none⟩ = false) (h0 : 0 ≤ x) (h1 : x ≤ 9223372036854775806) :
 Calls Tryz.prog 114 #[.pointer (some ⟨b, 3, none⟩), .int .i64 1] w fun e w' => e = .returned (.int .i64 (x + 1)) ∧ Hid (w' = w.setCell ⟨b, 3, none⟩ (.int .i64 (x + 1))) := by
 have hl := add64 (y := 1) hc hz (by omega) (by omega); clear hc hz h0 h1; go_enter Tryz.func114, Tryz.ntmps114; go_wp2; go_ret; exact ⟨rfl, rfl⟩
theorem count_any (d : Dk) (S : St) (w : World) (h : DskB w d S (S.done + 1)) (hd : S.done ≤ 1000000) :
 Calls Tryz.prog 65 #[.pointer (some ⟨d.r, 0, none⟩)] w fun e w' => e = .returned (.tuple #[]) ∧ Hid (Dsk w' d S.count ∧ Turned w w' d.own ∧ w'.heap.size = w.heap.size) := by
 have HL := kept (addA_any d.r _ w (h.2.1.cell 3) (h.2.1.frozen 3) (by omega) (by omega)); have hk := h.1.2.2.2; have h1 := h.tell; have t1 : Turned w (w.setCell ⟨d.r, 3, none⟩ (.int .i64 ((S.done + 1 : Nat) : Int))) d.own := (Turned.refl w _).setCell (fun _ => .inl rfl) _; have e1 : ((S.done + 1 : Nat) : Int) = (S.done : Int) + 1 := by omega
 rw [e1] at h1 t1; generalize hw1 : w.setCell ⟨d.r, 3, none⟩ (.int .i64 ((S.done : Int) + 1)) = w1 at h1 t1; have hs1 : w1.heap.size = w.heap.size := by rw [← hw1]; simp [World.setCell]
 have HW := kept hw1; have HS := kept hs1; clear hw1 hs1 e1 h hd; have c2 : w1.cell? ⟨d.r, 2, none⟩ = some (.int .i64 S.fuse) := h1.2.1.cell 2; have f2 : w1.frozen? ⟨d.r, 2, none⟩ = false := h1.2.1.frozen 2; by_cases hp : 0 < S.fuse
 · have h2 := h1.set (fu := S.fuse - 1) (by omega) (by omega); have t2 := t1.setCell (p := ⟨d.r, 2, none⟩) (fun _ => .inl rfl) (.int .i64 (S.fuse - 1)); have H : Hid (Dsk (w1.setCell ⟨d.r, 2, none⟩ (.int .i64 (S.fuse - 1))) d S.count ∧ Turned w (w1.setCell ⟨d.r, 2, none⟩ (.int .i64 (S.fuse - 1))) d.own ∧ (w1.setCell ⟨d.r, 2, none⟩ (.int .i64 (S.fuse - 1))).heap.size = w.heap.size) := by
    refine ⟨?_, t2, by have := HS.out; simpa [World.setCell] using this⟩; have : S.count = { S with fuse := S.fuse - 1, done := S.done + 1 } := by simp [St.count, hp]
    rw [this]; exact h2
   clear h1 t1 h2 t2; go_enter Tryz.func65, Tryz.ntmps65; go_wp2_with (first | (go_at_call 114; (with_reducible refine (HL.out).mono ?_); rintro e w' ⟨rfl, hw'⟩; have hw'' := hw'.out.trans HW.out; clear hw'; subst hw''))
   go_end0
   exact ⟨rfl, H⟩
 · have H : Hid (Dsk w1 d S.count ∧ Turned w w1 d.own ∧ w1.heap.size = w.heap.size) := by
    refine ⟨?_, t1, HS.out⟩; have : S.count = { S with done := S.done + 1 } := by simp [St.count, hp]
    rw [this]; exact h1
   clear h1 t1; go_enter Tryz.func65, Tryz.ntmps65; go_wp2_with (first | (go_at_call 114; (with_reducible refine (HL.out).mono ?_); rintro e w' ⟨rfl, hw'⟩; have hw'' := hw'.out.trans HW.out; clear hw'; subst hw''))
   go_end0
   exact ⟨rfl, H⟩
theorem mapU : Tryz.prog.underlying 108 = some (.map 3 117) := by kernel_rfl
def fresh (k : Nat) : St := ⟨List.replicate k noughts, fun _ => none, -1, 0⟩
theorem heap_alloc_lt (w : World) (o : Obj) {i : Nat} (h : i < w.heap.size) : (w.alloc o).heap[i]? = w.heap[i]? := Below.heap_alloc w o i h
theorem noughts_cells : cellsOf noughts = List.replicate 256 (byteV 0) := List.map_replicate
theorem fresh_pages (w : World) (k : Nat) : PgAt (w.alloc (.cells (madeCells (pageV noughts).cells (k * 256)) 117)) w.heap.size k (List.replicate k noughts) := by
 refine ⟨madeCells (pageV noughts).cells (k * 256), heap_alloc_new w _, size_madeCells _ _, by simp, fun i hi => ?_⟩; have hik : i < k := by simpa using hi
 rw [List.getElem_replicate]; refine ⟨noughts_length, fun j v hv => ?_⟩; have hj : j < 256 := by have := (List.getElem?_eq_some_iff.1 hv).1; rwa [cellsOf_length, noughts_length] at this
 rw [cell_of_row _ _ _ _ _ _ (heap_alloc_new w _)]; have hlt : i * 256 + j < k * 256 := by have : (i + 1) * 256 ≤ k * 256 := Nat.mul_le_mul_right _ (by omega); omega
 have hsz : (pageV noughts).cells.size = 256 := by
  show (cellsOf noughts).toArray.size = 256; rw [List.size_toArray, cellsOf_length, noughts_length]
 have e1 : (i * 256 + j) % 256 = j := by omega
 have e2 : (pageV noughts).cells[j]! = byteV 0 := by
  show (cellsOf noughts).toArray[j]! = byteV 0; have hj' : j < (cellsOf noughts).toArray.size := by rw [List.size_toArray, cellsOf_length, noughts_length]; exact hj
  rw [getElem!_pos (cellsOf noughts).toArray j hj', List.getElem_toArray]; simp only [noughts_cells, List.getElem_replicate]
 have e3 : v = byteV 0 := by
  rw [noughts_cells, List.getElem?_replicate, if_pos hj] at hv; exact (Option.some.inj hv).symm
 simp only [madeCells, Array.getElem?_map, Array.getElem?_range, hlt, if_true, Option.map_some, hsz, e1, e2, e3]
theorem fresh_dsk (w : World) (k : Nat) (h1 : 8 ≤ k) (h2 : k ≤ 1024) :
 Dsk (((w.alloc (.cells (madeCells (pageV noughts).cells (k * 256)) 117)).alloc (.map #[] 0)).alloc (.cells #[.slice (some ⟨w.heap.size, 0, none⟩) k k, .map (some (w.heap.size + 1)), .int .i64 (-1), .int .i64 0] 115))
  ⟨w.heap.size + 1 + 1, w.heap.size, w.heap.size + 1, k⟩ (fresh k) := by
 refine ⟨⟨by simp [fresh]; omega, by simp [fresh]; omega, fun x xs e => by simp [fresh] at e, by simp [fresh], by simp [fresh]⟩, ?_, ?_, 0, Nat.le_refl _, ?_⟩
 · have := Blk.new ((w.alloc (.cells (madeCells (pageV noughts).cells (k * 256)) 117)).alloc (.map #[] 0)) 115 #[.slice (some ⟨w.heap.size, 0, none⟩) k k, .map (some (w.heap.size + 1)), .int .i64 (-1), .int .i64 0]; simpa [fresh] using this
 · exact (fresh_pages w k).keep ((heap_alloc_lt _ _ (by simp; omega)).trans (heap_alloc_lt _ _ (by simp)))
 · have := Mv.made (w.alloc (.cells (madeCells (pageV noughts).cells (k * 256)) 117)); have e : (w.alloc (.cells (madeCells (pageV noughts).cells (k * 256)) 117)).heap.size = w.heap.size + 1 := by simp
   rw [e] at this; exact this.keep (heap_alloc_lt _ _ (by simp))
theorem new_any (k : Nat) (w : World) (h1 : 8 ≤ k) (h2 : k ≤ 1024) :
 Calls Tryz.prog 32 #[.int .i64 (k : Int)] w fun e w' => ∃ d : Dk, e = .returned (.pointer (some ⟨d.r, 0, none⟩)) ∧ Dsk w' d (fresh k) ∧ (∀ i, d.own i → w.heap.size ≤ i) ∧ Below w.heap.size w w' := by
 obtain ⟨i, hi, hz, hsz⟩ : ∃ i, Tryz.prog.info? 117 = some i ∧ i.zero = some (pageV noughts) ∧ i.size = 256 := by
  have := pageInfo; cases hq : Tryz.prog.info? 117 with
  | none => rw [hq] at this; simp at this
  | some i => rw [hq] at this; simp at this; exact ⟨i, rfl, this⟩
 have hby : i.bytes = 256 := by
  have : (Tryz.prog.info? 117).map (·.bytes) = some 256 := by kernel_rfl
  rw [hi] at this; simpa using this
 have hmk := run_make (P := Tryz.prog) w 107 117 i (pageV noughts) Tryz.underlying107 hi hz .i64 .i64 (k : Int) (k : Int) (by omega) (by omega) (by rw [hby]; omega) (by omega); rw [Int.toNat_natCast, hsz] at hmk; have hmm := @run_makeMap Tryz.prog; generalize hcs : madeCells (pageV noughts).cells (k * 256) = cs at hmk; have HCS := kept hcs; clear hcs hi hz hsz hby; have a1 : ¬ (k : Int) < 8 := by omega
 have a2 : ¬ (1024 : Int) < (k : Int) := by omega
 go_enter Tryz.func32, Tryz.ntmps32; go_wp2; go_ret; have hcs := HCS.out; subst hcs; exact ⟨⟨w.heap.size + 1 + 1, w.heap.size, w.heap.size + 1, k⟩, rfl, fresh_dsk w k h1 h2, fun i hi => by rcases hi with rfl | rfl | rfl <;> simp <;> omega, (((Below.refl _ w).alloc (Nat.le_refl _) _).alloc (by simp) _).alloc (by simp; omega) _⟩
theorem two_step {w w1 w2 : World} (h1 : w.grownBy w1 none) (h2 : w1.grownBy w2 (some w.heap.size)) : Below w.heap.size w w2 :=
 ((Below.refl _ w).grown h1 (Nat.le_refl _) (fun _ e => by cases e)).grown h2 h1.size (fun _ e => by cases e; exact Nat.le_refl _)
theorem three_step {w w2 w3 : World} (h1 : Below w.heap.size w w2) (h2 : w2.grownBy w3 (some w.heap.size)) : Below w.heap.size w w3 :=
 h1.grown h2 h1.size (fun _ e => by cases e; exact Nat.le_refl _)
theorem read_ok (d : Dk) (S : St) (p : Int) (w : World) (h : Dsk w d S) (hf : S.fuse ≠ 0) (hp0 : 0 ≤ p) (hp : p < (S.pages.length : Int)) :
 Calls Tryz.prog 81 #[.pointer (some ⟨d.r, 0, none⟩), .int .i64 p] w fun e w' => ∃ b, e = .returned (.tuple #[.slice (some ⟨b, 0, none⟩) 256 256, .int .i64 0]) ∧ Blk w' b 117 (cellsOf (S.page p)) ∧ w.heap.size ≤ b ∧ Below w.heap.size w w' := by
 have H := kept (has_ok d S p w h hf hp0 hp); have c0 := h.c0; have c1 := h.c1; obtain ⟨k, hk, hm⟩ := h.2.2.2; have HM := kept hm; have HG := kept h.2.2.1; have HR := kept h.2.1.lt; have hw : Wf p := by have := h.1.2.1; unfold Wf; omega
 clear hm; obtain ⟨q, rfl⟩ := Int.eq_ofNat_of_zero_le hp0; have hq : q < S.pages.length := by omega
 have hlc := h.1.2.2.1; cases hcq : S.cache (q : Int) with
 | none =>
   have HPG : Hid (S.page (q : Int) = S.pages[q]) := by show _ = _; simp [St.page, hcq, hq]
   have HLN := kept (HG.out.len hq); have HC := kept hcq; clear h hf hlc hcq; go_enter Tryz.func81, Tryz.ntmps81; go_wp2_with (first | (go_at_call 64; (with_reducible refine (H.out).mono ?_); rintro e w' ⟨rfl, rfl⟩) | (at_lookup; refine wpList_look_ok rfl 108 117 _ _ rfl mapU (pageV noughts) pageZ HM.out rfl (q : Int) rfl hw (pageV noughts) false (by simp [HC.out]) (by simp [HC.out]) ?_) | ((with_reducible refine wpList_alloc_page rfl rfl ?_); intro w1 hb1 hg1 hs1) | ((with_reducible refine wpList_store_page rfl _ _ rfl w.heap.size 117 (cellsOf noughts) noughts ?_ ?_ ?_ ?_ ?_ ?_); rfl; rfl; exact hb1; exact (cellsOf_length _).trans noughts_length; exact noughts_length; intro w2 hb2 hg2 hs2; have hB2 := two_step hg1 hg2; have d0 := (hB2.cell (p := ⟨d.r, 0, none⟩) HR.out).trans c0; have HG2 := kept (HG.out.keep (hB2.block _ HG.out.lt)); have HB2 := kept hB2; clear hB2) | ((with_reducible refine wpList_load_page rfl _ rfl d.g (q * 256) ?_ S.pages[q] ?_ ?_ ?_); rfl; exact HG2.out.range hq; exact HLN.out) | ((with_reducible refine wpList_store_page rfl _ _ rfl w.heap.size 117 (cellsOf noughts) S.pages[q] ?_ ?_ ?_ ?_ ?_ ?_); rfl; rfl; exact hb2; exact (cellsOf_length _).trans noughts_length; exact HLN.out; intro w3 hb3 hg3 hs3; have HB3 := kept (three_step HB2.out hg3)))
   go_ret2; exact ⟨w.heap.size, rfl, by rw [HPG.out]; exact hb3, Nat.le_refl _, HB3.out⟩
 | some xs =>
   have HPG : Hid (S.page (q : Int) = xs) := by show _ = _; simp [St.page, hcq]
   have HLN := kept (hlc _ _ hcq).2.2; have HC := kept hcq; clear h hf hlc hcq; go_enter Tryz.func81, Tryz.ntmps81; go_wp2_with (first | (go_at_call 64; (with_reducible refine (H.out).mono ?_); rintro e w' ⟨rfl, rfl⟩) | (at_lookup; refine wpList_look_ok rfl 108 117 _ _ rfl mapU (pageV noughts) pageZ HM.out rfl (q : Int) rfl hw (pageV xs) true (by simp [HC.out]) (by simp [HC.out]) ?_) | ((with_reducible refine wpList_alloc_page rfl rfl ?_); intro w1 hb1 hg1 hs1) | ((with_reducible refine wpList_store_page rfl _ _ rfl w.heap.size 117 (cellsOf noughts) xs ?_ ?_ ?_ ?_ ?_ ?_); rfl; rfl; exact hb1; exact (cellsOf_length _).trans noughts_length; exact HLN.out; intro w2 hb2 hg2 hs2; have HB2 := kept (two_step hg1 hg2)))
   go_ret2; exact ⟨w.heap.size, rfl, by rw [HPG.out]; exact hb2, Nat.le_refl _, HB2.out⟩
theorem write_no (d : Dk) (p c : Int) (A : Option Addr) (n cp : Nat) (w : World) (hc : c ≠ 0) (H0 : Calls Tryz.prog 64 #[.pointer (some ⟨d.r, 0, none⟩), .int .i64 p] w fun e w' => e = .returned (.int .i64 c) ∧ w = w') :
 Calls Tryz.prog 28 #[.pointer (some ⟨d.r, 0, none⟩), .int .i64 p, .slice A n cp] w fun e w' => e = .returned (.int .i64 c) ∧ w = w' := by
 have H := kept H0; have hb : (c != 0) = true := by simp [hc]
 clear H0 hc; go_enter Tryz.func28, Tryz.ntmps28; go_wp2_with (first | (go_at_call 64; (with_reducible refine (H.out).mono ?_); rintro e w' ⟨rfl, rfl⟩))
 go_ret; exact ⟨rfl, rfl⟩
theorem put_dsk {w w1 : World} {d : Dk} {S : St} {p : Int} {xs : List UInt8} {k : Nat} (h : Dsk w d S) (hp0 : 0 ≤ p) (hp : p < (S.pages.length : Int)) (hl : xs.length = 256) (hk : k ≤ S.done)
 (hm : Mv w1 d.m (k + 1) (fun y => if y = p then some (pageV xs) else (S.cache y).map pageV)) (hg : w.drew.grownBy w1 (some d.m)) :
 DskB w1 d { S with cache := fun y => if y = p then some xs else S.cache y } (S.done + 1) := by
 have r1 := h.rm; have r2 := h.gm; have l1 := h.lt d.r (.inl rfl); have l2 := h.lt d.g (.inr (.inl rfl)); obtain ⟨⟨o1, o2, o3, o4⟩, hr, hgp, _⟩ := h; refine ⟨⟨o1, o2, fun x ys hx => ?_, o4⟩, (hg.block d.r l1 (fun e => r1 (Option.some.inj e))).trans hr, hgp.keep (hg.block d.g l2 (fun e => r2 (Option.some.inj e))), k + 1, by omega, ?_⟩
 · simp only at hx
   split at hx
   · rename_i e; obtain rfl := Option.some.inj hx; subst e; exact ⟨hp0, hp, hl⟩
   · exact o3 x ys hx
 · have e : (fun y => if y = p then some (pageV xs) else (S.cache y).map pageV) = fun y => (if y = p then some xs else S.cache y).map pageV := by
    funext y; split <;> rfl
   rw [e] at hm; exact hm
theorem array_at (a : Addr) (cp : Nat) (w : World) : (Instr.arrayAt 117 (.slice (some a) 256 cp)).run Tryz.prog w = .ok (.pointer (some a)) w := by
 simp [Instr.arrayAt, run_underlying pageU, Result.andThen]
def St.write (S : St) (p : Int) (xs : List UInt8) : St := ({ S with cache := fun y => if y = p then some xs else S.cache y } : St).count
theorem write_ok (d : Dk) (S : St) (p : Int) (A : Option Addr) (cp : Nat) (xs : List UInt8) (w : World) (h : Dsk w d S) (hf : S.fuse ≠ 0) (hp0 : 0 ≤ p) (hp : p < (S.pages.length : Int)) (hr : Rd w A 256 xs) (hd : S.done ≤ 1000000) :
 Calls Tryz.prog 28 #[.pointer (some ⟨d.r, 0, none⟩), .int .i64 p, .slice A 256 cp] w fun e w' => e = .returned (.int .i64 0) ∧ Hid (Dsk w' d (S.write p xs) ∧ Turned w w' d.own) := by
 have H := kept (has_ok d S p w h hf hp0 hp); have hw : Wf p := by have := h.1.2.1; unfold Wf; omega
 obtain ⟨⟨b, o, sp⟩, rfl, hcs⟩ := hr.2 (by omega); have hl := hr.1; obtain rfl : sp = none := by
  have := World.cell?_spot (hcs 0 (by omega)); simpa [Addr.add] using this
 have hra : w.rangeAt b o (cellsOf xs) := fun j v hv => by
  have := hr.cells rfl j v hv
  rwa [Addr.add_mid] at this
 have HRA := kept hra; have hAA := array_at ⟨b, o, none⟩ cp; have HL := kept hl; have c1 := h.c1; obtain ⟨k, hk, hm⟩ := h.2.2.2; have hkm : k < maxLen := by unfold maxLen; omega
 have HKM := kept hkm; have HM := kept hm; have HD := kept h; have HDN := kept hd; have HK := kept hk; clear h hf hr hcs hl hra hm hd hk hkm; go_enter Tryz.func28, Tryz.ntmps28; go_wp2_with (first | (go_at_call 64; (with_reducible refine (H.out).mono ?_); rintro e w' ⟨rfl, rfl⟩))
 refine wp_region_still_tail 8 (by kernel_rfl) (by kernel_rfl) ?_; simp only [List.take_succ_cons, List.take_zero, List.drop_succ_cons, List.drop_zero]
 iterate 7 still_step
 refine wpStill_load_page rfl _ rfl b o rfl xs HRA.out HL.out ?_; refine wpStill_nil ?_
 change wpList _ _ _ _ _ w.drew
 go_wp2_with (first | (at_mapUpdate; refine wpList_put_mv rfl 108 117 _ _ _ rfl mapU (w := w.drew) HM.out HKM.out rfl p rfl hw (pageV xs) rfl ?_; intro w1 hm1 hg1; have HC := kept (count_any d _ w1 (put_dsk HD.out hp0 hp HL.out HK.out hm1 hg1) HDN.out); have T1 : Hid (Turned w w1 d.own) := kept ((Turned.refl w _).drew.grown hg1 (fun j _ e => by cases e; exact .inr (.inr rfl))); clear hm1 hg1) | (go_at_call 65; (with_reducible refine (HC.out).mono ?_); rintro e w2 ⟨rfl, h2⟩))
 go_ret; exact ⟨rfl, h2.out.1, T1.out.trans (h2.out.2.1.mono fun j _ e => e)⟩
end Go.Proofs.YtblbhhijddcbeaaGreatDoor
end
