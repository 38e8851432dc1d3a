/-
  What an act does to a disk (terrierlaw03.do), and what a disk shows (image).
-/
import Derived.Test.YtfmljiidgaoihaaDf
import Derived.Test.YtfmljiidgaoihaaRows3
import Derived.RegionCalls
import Derived.Deep.RegionWith
namespace Go.Proofs.Ytfmljiidgaoihaa
open Go.ChangeShapes Go.WideShapes Go.ChangeAt Go.RowKit
set_option linter.unusedVariables false

/-- An act. -/
structure Ac where
  k : Int
  p : Int
  n : Int
  x : Int
def Ac.ok (a : Ac) : Prop := Wf a.k ∧ Wf a.p ∧ Wf a.n ∧ 0 ≤ a.x ∧ a.x ≤ 255
def Ac.val (a : Ac) : Value := .agg #[.int .i64 a.k, .int .i64 a.p, .int .i64 a.n, .int .u8 a.x]
/-- A write of a page, where it is done. -/
def St.tryWrite (S : St) (p : Int) (xs : List UInt8) : St := if S.fuse = 0 then S else if p < 0 ∨ (S.pages.length : Int) ≤ p then S else S.write p xs
def St.trySync (S : St) : St := if S.fuse = 0 then S else S.sync
def St.tryFuse (S : St) (n : Int) : St := if S.fuse = 0 then S else { S with fuse := fuseOf n }
def St.act (S : St) (a : Ac) : St :=
  if a.k = 0 then S.tryWrite a.p (fill a.x) else if a.k = 2 then S.trySync else if a.k = 3 then S.tryFuse a.n else if a.k = 4 then S.crash [(a.p, a.n)] else S
theorem act_len (S : St) (a : Ac) : (S.act a).pages.length = S.pages.length := by
  unfold St.act St.tryWrite St.trySync St.tryFuse
  repeat' split
  all_goals first | rfl | exact sync_len S | exact crash_len S _
theorem act_done (S : St) (a : Ac) : (S.act a).done ≤ S.done + 1 := by
  unfold St.act St.tryWrite St.trySync St.tryFuse
  repeat' split
  all_goals first | exact Nat.le_succ _ | exact Nat.le_refl _
/-- What a step leaves: the disk, and nothing else has turned. -/
def Left (w : World) (d : Dk) (S : St) (w' : World) : Prop := Dsk w' d S ∧ Turned w w' d.own
theorem Left.refl {w : World} {d : Dk} {S : St} (h : Dsk w d S) : Left w d S w := ⟨h, Turned.refl _ _⟩
theorem Left.before {w w1 w' : World} {d : Dk} {S : St} (h : Left w1 d S w') (hb : Below w.heap.size w w1) : Left w d S w' := ⟨h.1, (Turned.of_below hb _).trans h.2⟩
theorem Left.of_dsk {w w' : World} {d : Dk} {S : St} (h : Dsk w d S) (hb : Below w.heap.size w w') : Left w d S w' := ⟨h.below hb, Turned.of_below hb _⟩

/-! ### the calls, whatever they answer -/
def writeE (S : St) (p : Int) (n : Nat) : Int := if S.fuse = 0 then 10 else if p < 0 ∨ (S.pages.length : Int) ≤ p then 2 else if n = 256 then 0 else 4
theorem write_any (d : Dk) (S : St) (p : Int) (A : Option Addr) (cp : Nat) (xs : List UInt8) (w : World) (h : Dsk w d S) (hr : Rd w A 256 xs) (hd : S.done ≤ 1000000) :
    Calls Try.prog 15 #[.pointer (some ⟨d.r, 0, none⟩), .int .i64 p, .slice A 256 cp] w fun e w' => e = .returned (.int .i64 (writeE S p 256)) ∧ Hid (Left w d (S.tryWrite p xs) w') := by
  unfold writeE St.tryWrite
  by_cases hf : S.fuse = 0
  · rw [if_pos hf, if_pos hf]
    exact (write_no d p 10 A 256 cp w (by omega) (has_dead d S p w h hf)).mono fun e w' ⟨a, b⟩ => ⟨a, by subst b; exact Left.refl h⟩
  · rw [if_neg hf, if_neg hf]
    by_cases hp : p < 0 ∨ (S.pages.length : Int) ≤ p
    · rw [if_pos hp, if_pos hp]
      exact (write_no d p 2 A 256 cp w (by omega) (has_range d S p w h hf hp)).mono fun e w' ⟨a, b⟩ => ⟨a, by subst b; exact Left.refl h⟩
    · rw [if_neg hp, if_neg hp, if_pos rfl]
      exact (write_ok d S p A cp xs w h hf (by omega) (by omega) hr hd).mono fun e w' ⟨a, b⟩ => ⟨a, b.out⟩
def syncE (S : St) : Int := if S.fuse = 0 then 10 else 0
theorem sync_any (d : Dk) (S : St) (w : World) (h : Dsk w d S) (hd : S.done ≤ 1000000) :
    Calls Try.prog 17 #[.pointer (some ⟨d.r, 0, none⟩)] w fun e w' => e = .returned (.int .i64 (syncE S)) ∧ Hid (Left w d S.trySync w') := by
  unfold syncE St.trySync
  by_cases hf : S.fuse = 0
  · rw [if_pos hf, if_pos hf]
    exact (sync_no d S w h hf).mono fun e w' ⟨a, b⟩ => ⟨a, by subst b; exact Left.refl h⟩
  · rw [if_neg hf, if_neg hf]
    exact (sync_ok d S w h hf hd).mono fun e w' ⟨a, b⟩ => ⟨a, b.out⟩
theorem fuse_any (d : Dk) (S : St) (n : Int) (w : World) (h : Dsk w d S) (hn : n ≤ 9223372036854775807) :
    Calls Try.prog 13 #[.pointer (some ⟨d.r, 0, none⟩), .int .i64 n] w fun e w' => e = .returned (.tuple #[]) ∧ Hid (Left w d (S.tryFuse n) w') := by
  unfold St.tryFuse
  by_cases hf : S.fuse = 0
  · rw [if_pos hf]
    exact (fuse_dead d S n w h hf).mono fun e w' ⟨a, b⟩ => ⟨a, by subst b; exact Left.refl h⟩
  · rw [if_neg hf]
    exact (fuse_ok d S n w h hf hn).mono fun e w' ⟨a, b⟩ => ⟨a, b.out.1, b.out.2.1⟩
theorem kp_one {w : World} {b : Nat} {t : TypeId} {p n : Int} (h : Blk w b t [.int .i64 p, .int .i64 n]) (hp : Wf p) (hn : Wf n) : Kp w (some ⟨b, 0, none⟩) 1 [(p, n)] := by
  refine ⟨rfl, (fun q hq => by obtain rfl := List.mem_singleton.1 hq; exact ⟨hp, hn⟩), .inr ⟨b, 0, rfl, fun i hi => ?_⟩⟩
  obtain rfl : i = 0 := by simpa using hi
  exact ⟨h.cell 0, h.cell 1⟩
set_option maxHeartbeats 1000000 in
theorem do_any (d : Dk) (S : St) (a : Ac) (w : World) (h : Dsk w d S) (ha : a.ok) (hd : S.done ≤ 1000000) :
    Calls Try.prog 30 #[.pointer (some ⟨d.r, 0, none⟩), a.val] w fun e w' => e = .returned (.tuple #[]) ∧ Hid (Left w d (S.act a) w') := by
  obtain ⟨k, p, n, x⟩ := a
  obtain ⟨wk, wp, wn, x0, x1⟩ := ha
  have HW := kept h
  have hdd := hd
  have hnn : n ≤ 9223372036854775807 := wn.2
  have HP : Hid (Wf p) := kept wp
  have HN : Hid (Wf n) := kept wn
  have HBL := kept ((Below.refl _ w).alloc (Nat.le_refl _) (.cells #[.int .i64 k, .int .i64 p, .int .i64 n, .int .u8 x] 42))
  have HBK : Hid (Blk (w.alloc (.cells #[.int .i64 k, .int .i64 p, .int .i64 n, .int .u8 x] 42)) w.heap.size 42 [.int .i64 k, .int .i64 p, .int .i64 n, .int .u8 x]) := kept (Blk.new w 42 #[.int .i64 k, .int .i64 p, .int .i64 n, .int .u8 x])
  clear h hd wk wp wn
  show Calls Try.prog 30 #[.pointer (some ⟨d.r, 0, none⟩), .agg #[.int .i64 k, .int .i64 p, .int .i64 n, .int .u8 x]] w _
  by_cases k0 : k = 0
  · subst k0
    have HA : Hid (S.act ⟨0, p, n, x⟩ = S.tryWrite p (fill x)) := kept (by simp [St.act])
    generalize hw1 : w.alloc (.cells #[.int .i64 0, .int .i64 p, .int .i64 n, .int .u8 x] 42) = w1 at HBL HBK
    have HW1 := kept hw1
    clear hw1
    go_enter Try.func30, Try.ntmps30
    go_wp2
    rw [HW1.out]
    have e1 : w1.cell? ⟨w.heap.size, 1, none⟩ = some (.int .i64 p) := HBK.out.cell 1
    have e3 : w1.cell? ⟨w.heap.size, 3, none⟩ = some (.int .u8 x) := HBK.out.cell 3
    go_region_with (first | (go_at_call 16; (with_reducible refine (filled_any x _ x0 x1).mono ?_); rintro e w2 ⟨b, rfl, hk2, hn2, hb2⟩; have HK2 := kept hk2; have HB2 : Hid (Below w1.heap.size w1 w2) := kept ⟨hb2.os, hb2.tape, hb2.output, hb2.size, hb2.block⟩; have e1' : w2.cell? ⟨w.heap.size, 1, none⟩ = some (.int .i64 p) := (HB2.out.cell (p := ⟨w.heap.size, 1, none⟩) HBK.out.lt).trans e1; clear hk2 hn2 hb2) | (go_at_call 15; (with_reducible refine (write_any d S p (some ⟨b, 0, none⟩) 256 (fill x) w2 (HW.out.below (HBL.out.trans (HB2.out.mono HBL.out.size))) (HK2.out.rd (fill_length x)) hdd).mono ?_); rintro e w3 ⟨rfl, h3⟩))
    all_goals
      go_end0
      exact ⟨rfl, kept (HA.out ▸ h3.out.before (HBL.out.trans (HB2.out.mono HBL.out.size)))⟩
  by_cases k2 : k = 2
  · subst k2
    have HA : Hid (S.act ⟨2, p, n, x⟩ = S.trySync) := kept (by simp [St.act])
    have HS := kept (sync_any d S _ (HW.out.below HBL.out) hdd)
    clear k0
    go_enter Try.func30, Try.ntmps30
    go_wp2_with (first | (go_at_call 17; (with_reducible refine (HS.out).mono ?_); rintro e w3 ⟨rfl, h3⟩))
    go_end0
    exact ⟨rfl, kept (HA.out ▸ h3.out.before HBL.out)⟩
  by_cases k3 : k = 3
  · subst k3
    have HA : Hid (S.act ⟨3, p, n, x⟩ = S.tryFuse n) := kept (by simp [St.act])
    have HS := kept (fuse_any d S n _ (HW.out.below HBL.out) hnn)
    clear k0 k2
    go_enter Try.func30, Try.ntmps30
    go_wp2_with (first | (go_at_call 13; (with_reducible refine (HS.out).mono ?_); rintro e w3 ⟨rfl, h3⟩))
    go_end0
    exact ⟨rfl, kept (HA.out ▸ h3.out.before HBL.out)⟩
  by_cases k4 : k = 4
  · subst k4
    have HA : Hid (S.act ⟨4, p, n, x⟩ = S.crash [(p, n)]) := kept (by simp [St.act])
    clear k0 k2 k3
    go_enter Try.func30, Try.ntmps30
    have HB2 := kept (HBL.out.alloc HBL.out.size (.cells #[.int .i64 p, .int .i64 n] 46))
    have HK2 : Hid (Kp ((w.alloc (.cells #[.int .i64 4, .int .i64 p, .int .i64 n, .int .u8 x] 42)).alloc (.cells #[.int .i64 p, .int .i64 n] 46)) (some ⟨w.heap.size + 1, 0, none⟩) 1 [(p, n)]) := kept (by
      have := Blk.new (w.alloc (.cells #[.int .i64 4, .int .i64 p, .int .i64 n, .int .u8 x] 42)) 46 #[.int .i64 p, .int .i64 n]
      have e : (w.alloc (.cells #[.int .i64 4, .int .i64 p, .int .i64 n, .int .u8 x] 42)).heap.size = w.heap.size + 1 := by simp
      rw [e] at this
      exact kp_one this HP.out HN.out)
    have HC := kept (crash_any d S (some ⟨w.heap.size + 1, 0, none⟩) 1 1 [(p, n)] _ (HW.out.below HB2.out) HK2.out (by omega))
    go_wp2_with (first | (go_at_call 14; (with_reducible refine (HC.out).mono ?_); rintro e w3 ⟨rfl, h3⟩))
    go_end0
    exact ⟨rfl, kept (HA.out ▸ (show Left _ d _ w3 from h3.out).before HB2.out)⟩
  · have HA : Hid (S.act ⟨k, p, n, x⟩ = S) := kept (by simp [St.act, k0, k2, k3, k4])
    have b0 : (k == 0) = false := by simp [k0]
    have b2 : (k == 2) = false := by simp [k2]
    have b3 : (k == 3) = false := by simp [k3]
    have b4 : (k == 4) = false := by simp [k4]
    clear k0 k2 k3 k4
    go_enter Try.func30, Try.ntmps30
    go_wp2
    go_end0
    exact ⟨rfl, kept (HA.out.symm ▸ Left.of_dsk HW.out HBL.out)⟩
end Go.Proofs.Ytfmljiidgaoihaa
