/-
  What the small calls of package disk answer and leave.
-/
import Derived.Test.YtfmljiidgaoihaaDm
import Derived.Laws.LoneSync
namespace Go.Proofs.Ytfmljiidgaoihaa
open Go.ChangeShapes Go.WideShapes Go.ChangeAt Go.RowKit
set_option linter.unusedVariables false

/-- What a disk holds. -/
structure St where
  pages : List (List UInt8)
  cache : Int → Option (List UInt8)
  fuse : Int
  done : Nat
/-- Where it lies: its own block, its pages', its cache's. -/
structure Dk where
  r : Nat
  g : Nat
  m : Nat
  cap : Nat
def Dk.own (d : Dk) (i : Nat) : Prop := i = d.r ∨ i = d.g ∨ i = d.m
def St.ok (S : St) : Prop := 8 ≤ S.pages.length ∧ S.pages.length ≤ 1024 ∧ (∀ x xs, S.cache x = some xs → 0 ≤ x ∧ x < S.pages.length ∧ xs.length = 256) ∧ -1 ≤ S.fuse ∧ S.fuse ≤ 9223372036854775807
def DskB (w : World) (d : Dk) (S : St) (B : Nat) : Prop :=
  S.ok ∧ Blk w d.r 72 [.slice (some ⟨d.g, 0, none⟩) S.pages.length d.cap, .map (some d.m), .int .i64 S.fuse, .int .i64 (S.done : Int)] ∧ PgAt w d.g d.cap S.pages ∧ ∃ k, k ≤ B ∧ Mv w d.m k (fun x => (S.cache x).map pageV)
/-- .. and the cache has no more entries than writes were done. -/
def Dsk (w : World) (d : Dk) (S : St) : Prop := DskB w d S S.done
def St.page (S : St) (p : Int) : List UInt8 := (S.cache p).getD (S.pages.getD p.toNat [])
def St.count (S : St) : St := { S with fuse := if 0 < S.fuse then S.fuse - 1 else S.fuse, done := S.done + 1 }

section
variable {w w' : World} {d : Dk} {S : St}
theorem Dsk.c0 (h : Dsk w d S) : w.cell? ⟨d.r, 0, none⟩ = some (.slice (some ⟨d.g, 0, none⟩) S.pages.length d.cap) := h.2.1.cell 0
theorem Dsk.c1 (h : Dsk w d S) : w.cell? ⟨d.r, 1, none⟩ = some (.map (some d.m)) := h.2.1.cell 1
theorem Dsk.c2 (h : Dsk w d S) : w.cell? ⟨d.r, 2, none⟩ = some (.int .i64 S.fuse) := h.2.1.cell 2
theorem Dsk.c3 (h : Dsk w d S) : w.cell? ⟨d.r, 3, none⟩ = some (.int .i64 (S.done : Int)) := h.2.1.cell 3
theorem Dsk.fz (h : Dsk w d S) (i : Nat) : w.frozen? ⟨d.r, i, none⟩ = false := h.2.1.frozen i
theorem Dsk.more (h : Dsk w d S) : DskB w d S (S.done + 1) := by
  obtain ⟨h1, h2, h3, k, hk, h4⟩ := h
  exact ⟨h1, h2, h3, k, Nat.le_succ_of_le hk, h4⟩
theorem Dsk.rg (h : Dsk w d S) : d.r ≠ d.g := by
  intro e
  obtain ⟨_, hb, ⟨cur, hg, _⟩, _⟩ := h
  unfold Blk at hb
  rw [e, hg] at hb
  simp at hb
theorem Dsk.rm (h : Dsk w d S) : d.r ≠ d.m := by
  intro e
  obtain ⟨_, hb, _, k, _, hm⟩ := h
  obtain ⟨es, cl, hm⟩ := hm.kind
  unfold Blk at hb
  rw [e, hm] at hb
  simp at hb
theorem Dsk.gm (h : Dsk w d S) : d.g ≠ d.m := by
  intro e
  obtain ⟨_, _, ⟨cur, hg, _⟩, k, _, hm⟩ := h
  obtain ⟨es, cl, hm⟩ := hm.kind
  rw [e, hm] at hg
  simp at hg
theorem Dsk.lt (h : Dsk w d S) (i : Nat) (hi : d.own i) : i < w.heap.size := by
  rcases hi with rfl | rfl | rfl
  · exact h.2.1.lt
  · exact h.2.2.1.lt
  · obtain ⟨k, _, hm⟩ := h.2.2.2; exact hm.lt
theorem Dsk.same (h : Dsk w d S) (he : ∀ i, d.own i → w'.heap[i]? = w.heap[i]?) : Dsk w' d S := by
  obtain ⟨h1, h2, h3, k, h4, h5⟩ := h
  exact ⟨h1, (he _ (.inl rfl)).trans h2, h3.keep (he _ (.inr (.inl rfl))), k, h4, h5.keep (he _ (.inr (.inr rfl)))⟩
theorem Dsk.turned (h : Dsk w d S) {T : Nat → Prop} (t : Turned w w' T) (hn : ∀ i, d.own i → ¬ T i) : Dsk w' d S := h.same fun i hi => t.block i (h.lt i hi) (hn i hi)
theorem Dsk.below (h : Dsk w d S) (hb : Below w.heap.size w w') : Dsk w' d S := h.same fun i hi => hb.block i (h.lt i hi)
theorem Dsk.drewN (h : Dsk w d S) (q : Nat) : Dsk (w.drewN q) d S := h
theorem Dsk.drew (h : Dsk w d S) : Dsk w.drew d S := h
/-- A block of another kind is none of the disk's. -/
theorem Dsk.not_own (h : Dsk w d S) {b : Nat} {t : TypeId} {cs : List Value} (hb : Blk w b t cs) (h1 : t ≠ 72) (h2 : t ≠ 75) : ¬ d.own b := by
  unfold Blk at hb
  obtain ⟨_, hr, ⟨cur, hg, _⟩, k, _, hm⟩ := h
  obtain ⟨es, cl, hm⟩ := hm.kind
  unfold Blk at hr
  rintro (rfl | rfl | rfl)
  · rw [hr] at hb; simp at hb; exact h1 hb.2.symm
  · rw [hg] at hb; simp at hb; exact h2 hb.2.symm
  · rw [hm] at hb; simp at hb
theorem DskB.rg {B : Nat} (h : DskB w d S B) : d.r ≠ d.g := by
  intro e
  obtain ⟨_, hb, ⟨cur, hg, _⟩, _⟩ := h
  unfold Blk at hb
  rw [e, hg] at hb
  simp at hb
theorem DskB.rm {B : Nat} (h : DskB w d S B) : d.r ≠ d.m := by
  intro e
  obtain ⟨_, hb, _, k, _, hm⟩ := h
  obtain ⟨es, cl, hm⟩ := hm.kind
  unfold Blk at hb
  rw [e, hm] at hb
  simp at hb
theorem DskB.set {B : Nat} (h : DskB w d S B) {fu : Int} (h1 : -1 ≤ fu) (h2 : fu ≤ 9223372036854775807) : DskB (w.setCell ⟨d.r, 2, none⟩ (.int .i64 fu)) d { S with fuse := fu } B := by
  have r1 := h.rg
  have r2 := h.rm
  obtain ⟨⟨o1, o2, o3, _, _⟩, hr, hg, k, hk, hm⟩ := h
  exact ⟨⟨o1, o2, o3, h1, h2⟩, hr.set_ 2 _, hg.keep (Below.heap_setCell w _ _ _ (fun e => r1 e.symm)), k, hk, hm.keep (Below.heap_setCell w _ _ _ (fun e => r2 e.symm))⟩
theorem Dsk.set (h : Dsk w d S) {fu : Int} (h1 : -1 ≤ fu) (h2 : fu ≤ 9223372036854775807) : Dsk (w.setCell ⟨d.r, 2, none⟩ (.int .i64 fu)) d { S with fuse := fu } := DskB.set h h1 h2
theorem DskB.tell {B : Nat} (h : DskB w d S B) : DskB (w.setCell ⟨d.r, 3, none⟩ (.int .i64 ((S.done + 1 : Nat) : Int))) d { S with done := S.done + 1 } B := by
  have r1 := h.rg
  have r2 := h.rm
  obtain ⟨o, hr, hg, k, hk, hm⟩ := h
  exact ⟨o, hr.set_ 3 _, hg.keep (Below.heap_setCell w _ _ _ (fun e => r1 e.symm)), k, hk, hm.keep (Below.heap_setCell w _ _ _ (fun e => r2 e.symm))⟩
end

theorem alive_dead (d : Dk) (S : St) (w : World) (h : Dsk w d S) (hf : S.fuse = 0) :
    Calls Try.prog 33 #[.pointer (some ⟨d.r, 0, none⟩)] w fun e w' => e = .returned (.int .i64 10) ∧ w = w' := by
  have c2 := h.c2
  rw [hf] at c2
  clear h hf
  go_enter Try.func33, Try.ntmps33
  go_wp2
  go_ret
  exact ⟨rfl, rfl⟩
theorem alive_ok (d : Dk) (S : St) (w : World) (h : Dsk w d S) (hf : S.fuse ≠ 0) :
    Calls Try.prog 33 #[.pointer (some ⟨d.r, 0, none⟩)] w fun e w' => e = .returned (.int .i64 0) ∧ w = w' := by
  have c2 := h.c2
  have hb : (S.fuse == 0) = false := by simp [hf]
  clear h hf
  go_enter Try.func33, Try.ntmps33
  go_wp2
  go_ret
  exact ⟨rfl, rfl⟩
theorem has_dead (d : Dk) (S : St) (p : Int) (w : World) (h : Dsk w d S) (hf : S.fuse = 0) :
    Calls Try.prog 32 #[.pointer (some ⟨d.r, 0, none⟩), .int .i64 p] w fun e w' => e = .returned (.int .i64 10) ∧ w = w' := by
  have H := kept (alive_dead d S w h hf)
  clear h hf
  go_enter Try.func32, Try.ntmps32
  go_wp2_with (first | (go_at_call 33; (with_reducible refine (H.out).mono ?_); rintro e w' ⟨rfl, rfl⟩))
  go_ret
  exact ⟨rfl, rfl⟩
theorem has_range (d : Dk) (S : St) (p : Int) (w : World) (h : Dsk w d S) (hf : S.fuse ≠ 0) (hp : p < 0 ∨ (S.pages.length : Int) ≤ p) :
    Calls Try.prog 32 #[.pointer (some ⟨d.r, 0, none⟩), .int .i64 p] w fun e w' => e = .returned (.int .i64 2) ∧ w = w' := by
  have H := kept (alive_ok d S w h hf)
  have c0 := h.c0
  clear h hf
  by_cases h0 : p < 0
  · clear hp
    go_enter Try.func32, Try.ntmps32
    go_wp2_with (first | (go_at_call 33; (with_reducible refine (H.out).mono ?_); rintro e w' ⟨rfl, rfl⟩))
    go_ret
    exact ⟨rfl, rfl⟩
  · have h1 : (S.pages.length : Int) ≤ p := by omega
    clear hp
    go_enter Try.func32, Try.ntmps32
    go_wp2_with (first | (go_at_call 33; (with_reducible refine (H.out).mono ?_); rintro e w' ⟨rfl, rfl⟩))
    go_ret
    exact ⟨rfl, rfl⟩
theorem has_ok (d : Dk) (S : St) (p : Int) (w : World) (h : Dsk w d S) (hf : S.fuse ≠ 0) (hp0 : 0 ≤ p) (hp : p < (S.pages.length : Int)) :
    Calls Try.prog 32 #[.pointer (some ⟨d.r, 0, none⟩), .int .i64 p] w fun e w' => e = .returned (.int .i64 0) ∧ w = w' := by
  have H := kept (alive_ok d S w h hf)
  have c0 := h.c0
  clear h hf
  have h0 : ¬ p < 0 := by omega
  have h1 : ¬ (S.pages.length : Int) ≤ p := by omega
  go_enter Try.func32, Try.ntmps32
  go_wp2_with (first | (go_at_call 33; (with_reducible refine (H.out).mono ?_); rintro e w' ⟨rfl, rfl⟩))
  go_ret
  exact ⟨rfl, rfl⟩
theorem size_any (d : Dk) (S : St) (w : World) (h : Dsk w d S) :
    Calls Try.prog 18 #[.pointer (some ⟨d.r, 0, none⟩)] w fun e w' => e = .returned (.int .i64 (S.pages.length : Int)) ∧ w = w' := by
  have c0 := h.c0
  clear h
  go_enter Try.func18, Try.ntmps18
  go_wp2
  go_ret
  exact ⟨rfl, rfl⟩

/-! ### the atomic number -/
theorem load64 {a : Addr} {x : Int} {w : World} (hc : w.cell? a = some (.int .i64 x)) : (callFunc 46 #[.pointer (some a)]).run Try.prog w = .ok (.value (.int .i64 x)) w :=
  run_call_load Try.func46 (by kernel_rfl) (by kernel_rfl) (by kernel_rfl) .i64 (by rfl) hc
theorem store64 {a : Addr} {y : Int} {u : Value} {w : World} (hc : w.cell? a = some u) (hz : w.frozen? a = false) : (callFunc 51 #[.pointer (some a), .int .i64 y]).run Try.prog w = .ok (.value (.tuple #[])) (w.setCell a (.int .i64 y)) :=
  run_call_store Try.func51 (by kernel_rfl) (by kernel_rfl) (by kernel_rfl) (by rfl) hc hz
theorem add64 {a : Addr} {x y : Int} {w : World} (hc : w.cell? a = some (.int .i64 x)) (hz : w.frozen? a = false) (h0 : -9223372036854775808 ≤ x + y) (h1 : x + y ≤ 9223372036854775807) :
    (callFunc 52 #[.pointer (some a), .int .i64 y]).run Try.prog w = .ok (.value (.int .i64 (x + y))) (w.setCell a (.int .i64 (x + y))) :=
  run_call_add Try.func52 (by kernel_rfl) (by kernel_rfl) (by kernel_rfl) .i64 (by rfl) hc hz (by simp [go_sem, IntKind.wrap_i64]; omega)

theorem loadA_any (b : Nat) (x : Int) (w : World) (hc : w.cell? ⟨b, 3, none⟩ = some (.int .i64 x)) :
    Calls Try.prog 35 #[.pointer (some ⟨b, 3, none⟩)] w fun e w' => e = .returned (.int .i64 x) ∧ w = w' := by
  have hl := load64 hc
  clear hc
  go_enter Try.func35, Try.ntmps35
  go_wp2
  go_ret
  exact ⟨rfl, rfl⟩
theorem addA_any (b : Nat) (x : Int) (w : World) (hc : w.cell? ⟨b, 3, none⟩ = some (.int .i64 x)) (hz : w.frozen? ⟨b, 3, none⟩ = false) (h0 : 0 ≤ x) (h1 : x ≤ 9223372036854775806) :
    Calls Try.prog 45 #[.pointer (some ⟨b, 3, none⟩), .int .i64 1] w fun e w' => e = .returned (.int .i64 (x + 1)) ∧ Hid (w' = w.setCell ⟨b, 3, none⟩ (.int .i64 (x + 1))) := by
  have hl := add64 (y := 1) hc hz (by omega) (by omega)
  clear hc hz h0 h1
  go_enter Try.func45, Try.ntmps45
  go_wp2
  go_ret
  exact ⟨rfl, rfl⟩
theorem done_any (d : Dk) (S : St) (w : World) (h : Dsk w d S) :
    Calls Try.prog 19 #[.pointer (some ⟨d.r, 0, none⟩)] w fun e w' => e = .returned (.int .i64 (S.done : Int)) ∧ w = w' := by
  have HL := kept (loadA_any d.r _ w h.c3)
  clear h
  go_enter Try.func19, Try.ntmps19
  go_wp2_with (first | (go_at_call 35; (with_reducible refine (HL.out).mono ?_); rintro e w' ⟨rfl, rfl⟩))
  go_ret
  exact ⟨rfl, rfl⟩
theorem count_any (d : Dk) (S : St) (w : World) (h : DskB w d S (S.done + 1)) (hd : S.done ≤ 1000000) :
    Calls Try.prog 34 #[.pointer (some ⟨d.r, 0, none⟩)] w fun e w' => e = .returned (.tuple #[]) ∧ Hid (Dsk w' d S.count ∧ Turned w w' d.own ∧ w'.heap.size = w.heap.size) := by
  have HL := kept (addA_any d.r _ w (h.2.1.cell 3) (h.2.1.frozen 3) (by omega) (by omega))
  have hk := h.1.2.2.2
  have h1 := h.tell
  have t1 : Turned w (w.setCell ⟨d.r, 3, none⟩ (.int .i64 ((S.done + 1 : Nat) : Int))) d.own := (Turned.refl w _).setCell (fun _ => .inl rfl) _
  have e1 : ((S.done + 1 : Nat) : Int) = (S.done : Int) + 1 := by omega
  rw [e1] at h1 t1
  generalize hw1 : w.setCell ⟨d.r, 3, none⟩ (.int .i64 ((S.done : Int) + 1)) = w1 at h1 t1
  have hs1 : w1.heap.size = w.heap.size := by rw [← hw1]; simp [World.setCell]
  have HW := kept hw1
  have HS := kept hs1
  clear hw1 hs1 e1 h hd
  have c2 : w1.cell? ⟨d.r, 2, none⟩ = some (.int .i64 S.fuse) := h1.2.1.cell 2
  have f2 : w1.frozen? ⟨d.r, 2, none⟩ = false := h1.2.1.frozen 2
  by_cases hp : 0 < S.fuse
  · have h2 := h1.set (fu := S.fuse - 1) (by omega) (by omega)
    have t2 := t1.setCell (p := ⟨d.r, 2, none⟩) (fun _ => .inl rfl) (.int .i64 (S.fuse - 1))
    have H : Hid (Dsk (w1.setCell ⟨d.r, 2, none⟩ (.int .i64 (S.fuse - 1))) d S.count ∧ Turned w (w1.setCell ⟨d.r, 2, none⟩ (.int .i64 (S.fuse - 1))) d.own ∧ (w1.setCell ⟨d.r, 2, none⟩ (.int .i64 (S.fuse - 1))).heap.size = w.heap.size) := by
      refine ⟨?_, t2, by have := HS.out; simpa [World.setCell] using this⟩
      have : S.count = { S with fuse := S.fuse - 1, done := S.done + 1 } := by simp [St.count, hp]
      rw [this]; exact h2
    clear h1 t1 h2 t2
    go_enter Try.func34, Try.ntmps34
    go_wp2_with (first | (go_at_call 45; (with_reducible refine (HL.out).mono ?_); rintro e w' ⟨rfl, hw'⟩; have hw'' := hw'.out.trans HW.out; clear hw'; subst hw''))
    go_end0
    exact ⟨rfl, H⟩
  · have H : Hid (Dsk w1 d S.count ∧ Turned w w1 d.own ∧ w1.heap.size = w.heap.size) := by
      refine ⟨?_, t1, HS.out⟩
      have : S.count = { S with done := S.done + 1 } := by simp [St.count, hp]
      rw [this]; exact h1
    clear h1 t1
    go_enter Try.func34, Try.ntmps34
    go_wp2_with (first | (go_at_call 45; (with_reducible refine (HL.out).mono ?_); rintro e w' ⟨rfl, hw'⟩; have hw'' := hw'.out.trans HW.out; clear hw'; subst hw''))
    go_end0
    exact ⟨rfl, H⟩
theorem fuse_dead (d : Dk) (S : St) (n : Int) (w : World) (h : Dsk w d S) (hf : S.fuse = 0) :
    Calls Try.prog 13 #[.pointer (some ⟨d.r, 0, none⟩), .int .i64 n] w fun e w' => e = .returned (.tuple #[]) ∧ w = w' := by
  have H := kept (alive_dead d S w h hf)
  clear h hf
  go_enter Try.func13, Try.ntmps13
  go_wp2_with (first | (go_at_call 33; (with_reducible refine (H.out).mono ?_); rintro e w' ⟨rfl, rfl⟩))
  go_end0
  exact ⟨rfl, rfl⟩
def fuseOf (n : Int) : Int := if n < -1 then -1 else n
theorem fuse_ok (d : Dk) (S : St) (n : Int) (w : World) (h : Dsk w d S) (hf : S.fuse ≠ 0) (hn : n ≤ 9223372036854775807) :
    Calls Try.prog 13 #[.pointer (some ⟨d.r, 0, none⟩), .int .i64 n] w fun e w' => e = .returned (.tuple #[]) ∧ Hid (Dsk w' d { S with fuse := fuseOf n } ∧ Turned w w' d.own ∧ w'.heap.size = w.heap.size) := by
  have HA := kept (alive_ok d S w h hf)
  have H : Hid (Dsk (w.setCell ⟨d.r, 2, none⟩ (.int .i64 (fuseOf n))) d { S with fuse := fuseOf n } ∧ Turned w (w.setCell ⟨d.r, 2, none⟩ (.int .i64 (fuseOf n))) d.own ∧ (w.setCell ⟨d.r, 2, none⟩ (.int .i64 (fuseOf n))).heap.size = w.heap.size) :=
    ⟨h.set (by unfold fuseOf; split <;> omega) (by unfold fuseOf; split <;> omega), (Turned.refl w _).setCell (fun _ => .inl rfl) _, by simp [World.setCell]⟩
  have c2 := h.c2
  have f2 := h.fz 2
  clear h hf
  by_cases hp : n < -1
  · have e : fuseOf n = -1 := by simp [fuseOf, hp]
    rw [e] at H ⊢
    clear e
    go_enter Try.func13, Try.ntmps13
    go_wp2_with (first | (go_at_call 33; (with_reducible refine (HA.out).mono ?_); rintro e w' ⟨rfl, rfl⟩))
    go_end0
    exact ⟨rfl, H⟩
  · have e : fuseOf n = n := by simp [fuseOf, hp]
    rw [e] at H ⊢
    clear e
    go_enter Try.func13, Try.ntmps13
    go_wp2_with (first | (go_at_call 33; (with_reducible refine (HA.out).mono ?_); rintro e w' ⟨rfl, rfl⟩))
    go_end0
    exact ⟨rfl, H⟩
end Go.Proofs.Ytfmljiidgaoihaa
