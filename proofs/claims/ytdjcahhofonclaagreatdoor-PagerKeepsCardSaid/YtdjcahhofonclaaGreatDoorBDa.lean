/-
  Texts laid together: Da Di.
-/
import Derived.Test.YtdjcahhofonclaaGreatDoorBDs
import Derived.Test.YtdjcahhofonclaaGreatDoorBRows3
import Derived.RegionCalls
import Derived.Deep.RegionWith
section
/-
  What an act does to a disk (terrierlaw03.do), and what a disk shows (image).
-/
namespace Go.Proofs.YtdjcahhofonclaaGreatDoor
open Go.ChangeShapes Go.WideShapes Go.ChangeAt Go.RowKit
set_option linter.unusedVariables false

/-- An act. -/
structure Ac where
  k : Int
  p : Int
  n : Int
  x : Int
def Ac.ok (a : Ac) : Prop := Wf a.k ∧ Wf a.p ∧ Wf a.n ∧ 0 ≤ a.x ∧ a.x ≤ 255
def Ac.val (a : Ac) : Value := .agg #[.int .i64 a.k, .int .i64 a.p, .int .i64 a.n, .int .u8 a.x]
/-- A write of a page, where it is done. -/
def St.tryWrite (S : St) (p : Int) (xs : List UInt8) : St := if S.fuse = 0 then S else if p < 0 ∨ (S.pages.length : Int) ≤ p then S else S.write p xs
def St.trySync (S : St) : St := if S.fuse = 0 then S else S.sync
def St.tryFuse (S : St) (n : Int) : St := if S.fuse = 0 then S else { S with fuse := fuseOf n }
def St.act (S : St) (a : Ac) : St :=
  if a.k = 0 then S.tryWrite a.p (fill a.x) else if a.k = 2 then S.trySync else if a.k = 3 then S.tryFuse a.n else if a.k = 4 then S.crash [(a.p, a.n)] else S
theorem act_len (S : St) (a : Ac) : (S.act a).pages.length = S.pages.length := by
  unfold St.act St.tryWrite St.trySync St.tryFuse
  repeat' split
  all_goals first | rfl | exact sync_len S | exact crash_len S _
theorem act_done (S : St) (a : Ac) : (S.act a).done ≤ S.done + 1 := by
  unfold St.act St.tryWrite St.trySync St.tryFuse
  repeat' split
  all_goals first | exact Nat.le_succ _ | exact Nat.le_refl _
/-- What a step leaves: the disk, and nothing else has turned. -/
def Left (w : World) (d : Dk) (S : St) (w' : World) : Prop := Dsk w' d S ∧ Turned w w' d.own
theorem Left.refl {w : World} {d : Dk} {S : St} (h : Dsk w d S) : Left w d S w := ⟨h, Turned.refl _ _⟩
theorem Left.before {w w1 w' : World} {d : Dk} {S : St} (h : Left w1 d S w') (hb : Below w.heap.size w w1) : Left w d S w' := ⟨h.1, (Turned.of_below hb _).trans h.2⟩
theorem Left.of_dsk {w w' : World} {d : Dk} {S : St} (h : Dsk w d S) (hb : Below w.heap.size w w') : Left w d S w' := ⟨h.below hb, Turned.of_below hb _⟩

/-! ### the calls, whatever they answer -/
def writeE (S : St) (p : Int) (n : Nat) : Int := if S.fuse = 0 then 10 else if p < 0 ∨ (S.pages.length : Int) ≤ p then 2 else if n = 256 then 0 else 4
theorem write_any (d : Dk) (S : St) (p : Int) (A : Option Addr) (cp : Nat) (xs : List UInt8) (w : World) (h : Dsk w d S) (hr : Rd w A 256 xs) (hd : S.done ≤ 1000000) :
    Calls Tryz.prog 30 #[.pointer (some ⟨d.r, 0, none⟩), .int .i64 p, .slice A 256 cp] w fun e w' => e = .returned (.int .i64 (writeE S p 256)) ∧ Hid (Left w d (S.tryWrite p xs) w') := by
  unfold writeE St.tryWrite
  by_cases hf : S.fuse = 0
  · rw [if_pos hf, if_pos hf]
    exact (write_no d p 10 A 256 cp w (by omega) (has_dead d S p w h hf)).mono fun e w' ⟨a, b⟩ => ⟨a, by subst b; exact Left.refl h⟩
  · rw [if_neg hf, if_neg hf]
    by_cases hp : p < 0 ∨ (S.pages.length : Int) ≤ p
    · rw [if_pos hp, if_pos hp]
      exact (write_no d p 2 A 256 cp w (by omega) (has_range d S p w h hf hp)).mono fun e w' ⟨a, b⟩ => ⟨a, by subst b; exact Left.refl h⟩
    · rw [if_neg hp, if_neg hp, if_pos rfl]
      exact (write_ok d S p A cp xs w h hf (by omega) (by omega) hr hd).mono fun e w' ⟨a, b⟩ => ⟨a, b.out⟩
def syncE (S : St) : Int := if S.fuse = 0 then 10 else 0
theorem sync_any (d : Dk) (S : St) (w : World) (h : Dsk w d S) (hd : S.done ≤ 1000000) :
    Calls Tryz.prog 32 #[.pointer (some ⟨d.r, 0, none⟩)] w fun e w' => e = .returned (.int .i64 (syncE S)) ∧ Hid (Left w d S.trySync w') := by
  unfold syncE St.trySync
  by_cases hf : S.fuse = 0
  · rw [if_pos hf, if_pos hf]
    exact (sync_no d S w h hf).mono fun e w' ⟨a, b⟩ => ⟨a, by subst b; exact Left.refl h⟩
  · rw [if_neg hf, if_neg hf]
    exact (sync_ok d S w h hf hd).mono fun e w' ⟨a, b⟩ => ⟨a, b.out⟩
theorem fuse_any (d : Dk) (S : St) (n : Int) (w : World) (h : Dsk w d S) (hn : n ≤ 9223372036854775807) :
    Calls Tryz.prog 16 #[.pointer (some ⟨d.r, 0, none⟩), .int .i64 n] w fun e w' => e = .returned (.tuple #[]) ∧ Hid (Left w d (S.tryFuse n) w') := by
  unfold St.tryFuse
  by_cases hf : S.fuse = 0
  · rw [if_pos hf]
    exact (fuse_dead d S n w h hf).mono fun e w' ⟨a, b⟩ => ⟨a, by subst b; exact Left.refl h⟩
  · rw [if_neg hf]
    exact (fuse_ok d S n w h hf hn).mono fun e w' ⟨a, b⟩ => ⟨a, b.out.1, b.out.2.1⟩
theorem kp_one {w : World} {b : Nat} {t : TypeId} {p n : Int} (h : Blk w b t [.int .i64 p, .int .i64 n]) (hp : Wf p) (hn : Wf n) : Kp w (some ⟨b, 0, none⟩) 1 [(p, n)] := by
  refine ⟨rfl, (fun q hq => by obtain rfl := List.mem_singleton.1 hq; exact ⟨hp, hn⟩), .inr ⟨b, 0, rfl, fun i hi => ?_⟩⟩
  obtain rfl : i = 0 := by simpa using hi
  exact ⟨h.cell 0, h.cell 1⟩
end Go.Proofs.YtdjcahhofonclaaGreatDoor
end

section
/-
  What a disk shows (terrierlaw03.image).
-/
namespace Go.Proofs.YtdjcahhofonclaaGreatDoor
open Go.ChangeShapes Go.WideShapes Go.ChangeAt Go.RowKit
set_option linter.unusedVariables false

theorem Dsk.page_len {w : World} {d : Dk} {S : St} (h : Dsk w d S) {p : Nat} (hp : p < S.pages.length) : (S.page (p : Int)).length = 256 := by
  unfold St.page
  cases hc : S.cache (p : Int) with
  | some xs => exact (h.1.2.2.1 _ _ hc).2.2
  | none =>
    show (S.pages.getD (Int.toNat (p : Int)) []).length = 256
    rw [Int.toNat_natCast, List.getD_eq_getElem?_getD, List.getElem?_eq_getElem hp]
    exact h.2.2.1.len hp
/-- The first k pages, one behind the other. -/
def img (S : St) (k : Nat) : List UInt8 := (List.range k).flatMap fun (p : Nat) => S.page (p : Int)
theorem img_succ (S : St) (k : Nat) : img S (k + 1) = img S k ++ S.page (k : Int) := by simp [img, List.range_succ, List.flatMap_append]
/-- What image answers. -/
def Shows (S : St) (w : World) (e : Ending) (w' : World) : Prop := ∃ A c, e = .returned (.tuple #[.slice A (S.pages.length * 256) c, .bool false]) ∧ Rd w' A (S.pages.length * 256) (img S S.pages.length) ∧ Below w.heap.size w w' ∧ ∀ a, A = some a → w.heap.size ≤ a.block
theorem own_new {w : World} {base : Nat} {e : TypeId} {A : Option Addr} {n c : Nat} {xs : List Value} (h : w.ownsRow base e 1 (.slice A n c) n xs) : ∀ a, A = some a → base ≤ a.block := by
  intro a e
  rcases h.2 with ⟨h0, _⟩ | ⟨g, cap, cur, hv, hb, _⟩
  · injection h0 with h0; rw [h0] at e; cases e
  · injection hv with hA; rw [hA] at e; cases e; exact hb
def OutR (w : World) (S : St) (k : Nat) (v : Value) (wr : World) : Prop := ∃ A c, v = .slice A (k * 256) c ∧ wr.ownsRow w.heap.size 5 1 (.slice A (k * 256) c) (k * 256) (cellsOf (img S k)) ∧ Below w.heap.size w wr
end Go.Proofs.YtdjcahhofonclaaGreatDoor
end
