/- Da Di -/
import Derived.Test.YtblbhhijddcbeaaGreatDoorBDs
import Derived.Test.YtblbhhijddcbeaaGreatDoorBRows3
import Derived.RegionCalls
import Derived.Deep.RegionWith
section
namespace Go.Proofs.YtblbhhijddcbeaaGreatDoor
open Go.ChangeShapes Go.WideShapes Go.ChangeAt Go.RowKit
set_option linter.unusedVariables false
set_option linter.unusedSimpArgs false
set_option maxRecDepth 100000
set_option maxHeartbeats 16000000
structure Ac where
 k : Int
 p : Int
 n : Int
 x : Int
def St.tryWrite (S : St) (p : Int) (xs : List UInt8) : St := if S.fuse = 0 then S else if p < 0 ∨ (S.pages.length : Int) ≤ p then S else S.write p xs
def St.trySync (S : St) : St := if S.fuse = 0 then S else S.sync
def Left (w : World) (d : Dk) (S : St) (w' : World) : Prop := Dsk w' d S ∧ Turned w w' d.own
theorem Left.refl {w : World} {d : Dk} {S : St} (h : Dsk w d S) : Left w d S w := ⟨h, Turned.refl _ _⟩
theorem Left.of_dsk {w w' : World} {d : Dk} {S : St} (h : Dsk w d S) (hb : Below w.heap.size w w') : Left w d S w' := ⟨h.below hb, Turned.of_below hb _⟩
def writeE (S : St) (p : Int) (n : Nat) : Int := if S.fuse = 0 then 10 else if p < 0 ∨ (S.pages.length : Int) ≤ p then 2 else if n = 256 then 0 else 4
theorem write_any (d : Dk) (S : St) (p : Int) (A : Option Addr) (cp : Nat) (xs : List UInt8) (w : World) (h : Dsk w d S) (hr : Rd w A 256 xs) (hd : S.done ≤ 1000000) :
 Calls Tryz.prog 28 #[.pointer (some ⟨d.r, 0, none⟩), .int .i64 p, .slice A 256 cp] w fun e w' => e = .returned (.int .i64 (writeE S p 256)) ∧ Hid (Left w d (S.tryWrite p xs) w') := by
 unfold writeE St.tryWrite; by_cases hf : S.fuse = 0
 · rw [if_pos hf, if_pos hf]; exact (write_no d p 10 A 256 cp w (by omega) (has_dead d S p w h hf)).mono fun e w' ⟨a, b⟩ => ⟨a, by subst b; exact Left.refl h⟩
 · rw [if_neg hf, if_neg hf]; by_cases hp : p < 0 ∨ (S.pages.length : Int) ≤ p
   · rw [if_pos hp, if_pos hp]; exact (write_no d p 2 A 256 cp w (by omega) (has_range d S p w h hf hp)).mono fun e w' ⟨a, b⟩ => ⟨a, by subst b; exact Left.refl h⟩
   · rw [if_neg hp, if_neg hp, if_pos rfl]; exact (write_ok d S p A cp xs w h hf (by omega) (by omega) hr hd).mono fun e w' ⟨a, b⟩ => ⟨a, b.out⟩
def syncE (S : St) : Int := if S.fuse = 0 then 10 else 0
theorem sync_any (d : Dk) (S : St) (w : World) (h : Dsk w d S) (hd : S.done ≤ 1000000) :
 Calls Tryz.prog 116 #[.pointer (some ⟨d.r, 0, none⟩)] w fun e w' => e = .returned (.int .i64 (syncE S)) ∧ Hid (Left w d S.trySync w') := by
 unfold syncE St.trySync; by_cases hf : S.fuse = 0
 · rw [if_pos hf, if_pos hf]; exact (sync_no d S w h hf).mono fun e w' ⟨a, b⟩ => ⟨a, by subst b; exact Left.refl h⟩
 · rw [if_neg hf, if_neg hf]; exact (sync_ok d S w h hf hd).mono fun e w' ⟨a, b⟩ => ⟨a, b.out⟩
theorem Dsk.page_len {w : World} {d : Dk} {S : St} (h : Dsk w d S) {p : Nat} (hp : p < S.pages.length) : (S.page (p : Int)).length = 256 := by
 unfold St.page; cases hc : S.cache (p : Int) with
 | some xs => exact (h.1.2.2.1 _ _ hc).2.2
 | none =>
   show (S.pages.getD (Int.toNat (p : Int)) []).length = 256; rw [Int.toNat_natCast, List.getD_eq_getElem?_getD, List.getElem?_eq_getElem hp]; exact h.2.2.1.len hp
theorem own_new {w : World} {base : Nat} {e : TypeId} {A : Option Addr} {n c : Nat} {xs : List Value} (h : w.ownsRow base e 1 (.slice A n c) n xs) : ∀ a, A = some a → base ≤ a.block := by
 intro a e; rcases h.2 with ⟨h0, _⟩ | ⟨g, cap, cur, hv, hb, _⟩
 · injection h0 with h0; rw [h0] at e; cases e
 · injection hv with hA; rw [hA] at e; cases e; exact hb
end Go.Proofs.YtblbhhijddcbeaaGreatDoor
end
