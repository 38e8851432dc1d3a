/-
  Both disks, side by side.
-/
import Derived.Test.YtfmljiidgaoihaaRsm
import Derived.Test.YtfmljiidgaoihaaDn
import Derived.Test.YtfmljiidgaoihaaDiskSyncsWalk
import Derived.Test.YtfmljiidgaoihaaDiskBurnsWalk
namespace Go.Proofs.Ytfmljiidgaoihaa
open Go.ChangeShapes Go.WideShapes Go.ChangeAt Go.RowKit
set_option linter.unusedVariables false

/-- The disk and the document's own, in one world. -/
def Trio (W : World) (d : Dk) (base r : Nat) (S : St) (R : RSt) (w : World) : Prop := Dsk w d S ∧ RefD w base r R ∧ Below W.heap.size W w
section
variable {W w w' w3 w4 : World} {d : Dk} {base r : Nat} {S S' : St} {R R' : RSt}
theorem Trio.below (h : Trio W d base r S R w) (hb : Below w.heap.size w w') : Trio W d base r S R w' := ⟨h.1.below hb, h.2.1.below hb, below_on hb h.2.2⟩
theorem Trio.left (h : Trio W d base r S R w) (hn : ∀ i, d.own i → W.heap.size ≤ i) (hl : Left w d S' w') : Trio W d base r S' R w' :=
  ⟨hl.1, h.2.1.disk h.1 hl.2, Turned.only_new h.2.2 hl.2 h.2.2.size hn⟩
theorem Trio.right (h : Trio W d base r S R w) (hb : W.heap.size ≤ base) (hl : RLeft w base r S' w') : ∃ R', Trio W d base r S R' w' ∧ Sim S' R' := by
  obtain ⟨R', h1, h2, h3⟩ := hl
  exact ⟨R', ⟨h.1.ref h3, h1, Turned.only_new h.2.2 h3 h.2.2.size (fun i hi => Nat.le_trans hb hi.1)⟩, h2⟩
/-- A block of one's own is written into, behind a call of the disk. -/
theorem Trio.spoil (h : Trio W d base r S R w) (hn : ∀ i, d.own i → W.heap.size ≤ i) (hb : Below w.heap.size w w3) (hl : Left w3 d S' w4) {b : Nat} {t : TypeId} {cs : List Value} (hk : Blk w3 b t cs) (h1 : t ≠ 72) (h2 : t ≠ 75) (hnew : w.heap.size ≤ b) (i : Nat) (u : Value) :
    Trio W d base r S' R (w4.setCell ⟨b, i, none⟩ u) := by
  have hd3 := h.1.below hb
  have hno : ¬ d.own b := hd3.not_own hk h1 h2
  have t0 : Turned w4 (w4.setCell ⟨b, i, none⟩ u) (fun j => j = b) := (Turned.refl w4 (fun j => j = b)).setCell (T := fun j => j = b) (p := ⟨b, i, none⟩) (fun _ => rfl) u
  have t1 : Turned w (w4.setCell ⟨b, i, none⟩ u) d.own := ((Turned.of_below hb _).trans hl.2).setCell (p := ⟨b, i, none⟩) (fun e => absurd hnew (Nat.not_le.2 e)) u
  have B3 : Below W.heap.size W w3 := below_on hb h.2.2
  have B4 := Turned.only_new B3 hl.2 B3.size hn
  exact ⟨hl.1.turned t0 (fun j hj e => hno (by rw [← e]; exact hj)), h.2.1.disk h.1 t1, B4.setCell (p := ⟨b, i, none⟩) (Nat.le_trans h.2.2.size hnew) u⟩
end
/-- Behind k acts. -/
def Play (W : World) (d : Dk) (base r m k : Nat) (w : World) : Prop := ∃ S R, Trio W d base r S R w ∧ Sim S R ∧ S.pages.length = m ∧ S.done ≤ k
theorem tryWrite_len (S : St) (p : Int) (xs : List UInt8) : (S.tryWrite p xs).pages.length = S.pages.length := by
  unfold St.tryWrite
  split
  · rfl
  · split <;> rfl
theorem tryWrite_done (S : St) (p : Int) (xs : List UInt8) : (S.tryWrite p xs).done ≤ S.done + 1 := by
  unfold St.tryWrite
  split
  · omega
  · split
    · omega
    · rw [write_done]; omega
theorem trySync_len (S : St) : S.trySync.pages.length = S.pages.length := by
  unfold St.trySync
  split
  · rfl
  · exact sync_len S
theorem trySync_done (S : St) : S.trySync.done ≤ S.done + 1 := by
  unfold St.trySync
  split
  · omega
  · exact Nat.le_refl _
theorem tryFuse_len (S : St) (n : Int) : (S.tryFuse n).pages.length = S.pages.length := by
  unfold St.tryFuse
  split <;> rfl
theorem tryFuse_done (S : St) (n : Int) : (S.tryFuse n).done = S.done := by
  unfold St.tryFuse
  split <;> rfl
def readE (S : St) (p : Int) : Int := if S.fuse = 0 then 10 else if p < 0 ∨ (S.pages.length : Int) ≤ p then 2 else 0
theorem readE_ok {S : St} {p : Int} (h : readE S p = 0) : S.fuse ≠ 0 ∧ 0 ≤ p ∧ p < (S.pages.length : Int) := by
  unfold readE at h
  by_cases h1 : S.fuse = 0
  · rw [if_pos h1] at h; omega
  · rw [if_neg h1] at h
    by_cases h2 : p < 0 ∨ (S.pages.length : Int) ≤ p
    · rw [if_pos h2] at h; omega
    · exact ⟨h1, by omega, by omega⟩
theorem read_bad (d : Dk) (S : St) (p : Int) (w : World) (h : Dsk w d S) (hc : readE S p ≠ 0) :
    Calls Try.prog 12 #[.pointer (some ⟨d.r, 0, none⟩), .int .i64 p] w fun e w' => e = .returned (.tuple #[.slice none 0 0, .int .i64 (readE S p)]) ∧ w = w' := by
  unfold readE at hc ⊢
  by_cases h1 : S.fuse = 0
  · rw [if_pos h1]; exact read_no d p 10 w (by omega) (has_dead d S p w h h1)
  · rw [if_neg h1] at hc ⊢
    by_cases h2 : p < 0 ∨ (S.pages.length : Int) ≤ p
    · rw [if_pos h2]; exact read_no d p 2 w (by omega) (has_range d S p w h h1 h2)
    · rw [if_neg h2] at hc; exact absurd rfl hc
theorem rread_bad (base r : Nat) (S : St) (R : RSt) (p : Int) (w : World) (h : RefD w base r R) (hs : Sim S R) (hc : readE S p ≠ 0) :
    Calls Try.prog 24 #[.pointer (some ⟨r, 0, none⟩), .int .i64 p] w fun e w' => e = .returned (.tuple #[.slice none 0 0, .int .i64 (readE S p)]) ∧ w = w' := by
  have e : rhasE R p = readE S p := hs.hasE p
  rw [← e] at hc ⊢
  exact rread_no base r R p w h hc
theorem writeN_any (d : Dk) (S : St) (p : Int) (A : Option Addr) (n cp : Nat) (w : World) (h : Dsk w d S) (hn : n ≠ 256) :
    Calls Try.prog 15 #[.pointer (some ⟨d.r, 0, none⟩), .int .i64 p, .slice A n cp] w fun e w' => e = .returned (.int .i64 (writeE S p n)) ∧ w = w' := by
  unfold writeE
  by_cases h1 : S.fuse = 0
  · rw [if_pos h1]; exact write_no d p 10 A n cp w (by omega) (has_dead d S p w h h1)
  · rw [if_neg h1]
    by_cases h2 : p < 0 ∨ (S.pages.length : Int) ≤ p
    · rw [if_pos h2]; exact write_no d p 2 A n cp w (by omega) (has_range d S p w h h1 h2)
    · rw [if_neg h2, if_neg hn]; exact write_form d S p A n cp w h h1 (by omega) (by omega) hn
/-- Any count of noughts, made. -/
theorem make_noughts (n : Nat) (hn : n < 600) : ∃ Z : Obj, Z = .cells (List.replicate n (Value.int .u8 0)).toArray 5 (0, 0) ∧ ∀ w : World, (Instr.makeSlice 26 (.int .i64 (n : Int)) (.int .i64 (n : Int))).run Try.prog w = .ok (.slice (some ⟨w.heap.size, 0, none⟩) n n) (w.alloc Z) := by
  refine ⟨_, rfl, fun w => ?_⟩
  obtain ⟨i, hi, hz, hsz, hby⟩ := info_parts (show (Try.prog.info? 5).map (fun i => (i.zero, i.size, i.bytes)) = some (some (.int .u8 0), 1, 1) by kernel_rfl)
  have hmk := run_make (P := Try.prog) w 26 5 i (.int .u8 0) Try.underlying26 hi hz .i64 .i64 (n : Int) (n : Int) (by omega) (by omega) (by rw [hby]; omega) (by omega)
  rw [hsz] at hmk
  have e : madeCells (Value.int .u8 0).cells ((n : Int).toNat * 1) = (List.replicate n (.int .u8 0)).toArray := by
    apply Array.ext
    · rw [size_madeCells, List.size_toArray, List.length_replicate, Nat.mul_one, Int.toNat_natCast]
    · intro j h1 h2
      have e1 : (List.replicate n (Value.int .u8 0)).toArray[j] = .int .u8 0 := by simp only [List.getElem_toArray, List.getElem_replicate]
      rw [e1]
      simp [madeCells, Value.cells, Nat.mod_one]
  rw [e, Int.toNat_natCast] at hmk
  exact hmk
end Go.Proofs.Ytfmljiidgaoihaa
