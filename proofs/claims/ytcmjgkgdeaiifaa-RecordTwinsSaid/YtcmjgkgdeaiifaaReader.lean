/-
  What octets.NewReader and the methods of its Reader answer and leave, call by call.
-/
import Derived.Test.YtcmjgkgdeaiifaaEnd
namespace Go.Proofs.Ytcmjgkgdeaiifaa
open Go.ChangeShapes Go.WideShapes Go.ChangeAt Go.RowKit
set_option linter.unusedVariables false

/-- Block r is a reader over the slice A that reads as xs, at the place pos, with this error. -/
def Rdr (w : World) (r : Nat) (A : Option Addr) (n c : Nat) (xs : List UInt8) (pos : Nat) (err : Int) : Prop :=
  Blk w r 60 [.slice A n c, .int .i64 (pos : Int), .int .i64 err] ∧ Rd w A n xs
/-- Nothing but block r, and what is new, has turned. -/
def Only (w w' : World) (r : Nat) : Prop := w.grownBy w' (some r)

section
variable {w w' : World} {r : Nat} {A : Option Addr} {n c : Nat} {xs : List UInt8} {pos : Nat} {err : Int}
theorem Rdr.slice (h : Rdr w r A n c xs pos err) : w.cell? ⟨r, 0, none⟩ = some (.slice A n c) := h.1.cell 0
theorem Rdr.place (h : Rdr w r A n c xs pos err) : w.cell? ⟨r, 1, none⟩ = some (.int .i64 (pos : Int)) := h.1.cell 1
theorem Rdr.error (h : Rdr w r A n c xs pos err) : w.cell? ⟨r, 2, none⟩ = some (.int .i64 err) := h.1.cell 2
theorem Rdr.frozen (h : Rdr w r A n c xs pos err) (i : Nat) : w.frozen? ⟨r, i, none⟩ = false := h.1.frozen i
theorem Rdr.drewN (h : Rdr w r A n c xs pos err) (q : Nat) : Rdr (w.drewN q) r A n c xs pos err := h
theorem Rdr.apart (h : Rdr w r A n c xs pos err) {a : Addr} {j : Nat} {x : UInt8} (hc : w.cell? (a.add j) = some (byteV x)) : a.block ≠ r := by
  intro hb
  have hs := World.cell?_spot hc
  have hb' : (a.add j).block = r := by rw [add_block]; exact hb
  generalize haddr : a.add j = ad at hc hs hb'
  obtain ⟨b, o, s⟩ := ad
  simp only at hs hb'
  subst hs hb'
  rw [h.1.cell o] at hc
  rcases o with _ | _ | _ | o <;> simp [byteV] at hc
theorem Rdr.rd_other (h : Rdr w r A n c xs pos err) {A' : Option Addr} {m : Nat} {ys : List UInt8} (hr : Rd w A' m ys) (i : Nat) (u : Value) : Rd (w.setCell ⟨r, i, none⟩ u) A' m ys := by
  refine ⟨hr.1, fun hn => ?_⟩
  obtain ⟨a, e, hc⟩ := hr.2 hn
  refine ⟨a, e, fun j hj => ?_⟩
  have hb := h.apart (hc j hj)
  rw [World.cell?_setCell_other w ⟨r, i, none⟩ (a.add j) u (fun e => hb (by have := congrArg Addr.block e; rw [add_block] at this; exact this.symm ▸ rfl))]
  exact hc j hj
theorem Rdr.rd_set (h : Rdr w r A n c xs pos err) (i : Nat) (u : Value) : Rd (w.setCell ⟨r, i, none⟩ u) A n xs := h.rd_other h.2 i u
theorem Rdr.set_err (h : Rdr w r A n c xs pos err) (e : Int) : Rdr (w.setCell ⟨r, 2, none⟩ (.int .i64 e)) r A n c xs pos e := ⟨h.1.set_ 2 _, h.rd_set 2 _⟩
theorem Rdr.set_pos (h : Rdr w r A n c xs pos err) (p : Nat) : Rdr (w.setCell ⟨r, 1, none⟩ (.int .i64 (p : Int))) r A n c xs p err := ⟨h.1.set_ 1 _, h.rd_set 1 _⟩
theorem Rdr.below (h : Rdr w r A n c xs pos err) (hb : Below w.heap.size w w') : Rdr w' r A n c xs pos err := ⟨h.1.below hb h.1.lt, h.2.below hb⟩
theorem Only.refl (w : World) (r : Nat) : Only w w r := ⟨rfl, rfl, rfl, Nat.le_refl _, fun _ _ _ => rfl⟩
theorem Only.trans {a b c : World} (h : Only a b r) (k : Only b c r) : Only a c r :=
  ⟨k.os.trans h.os, k.tape.trans h.tape, k.output.trans h.output, Nat.le_trans h.size k.size, fun i hi hn => (k.block i (Nat.lt_of_lt_of_le hi h.size) hn).trans (h.block i hi hn)⟩
theorem Only.drewN {a w : World} (h : Only a w r) (q : Nat) : Only a (w.drewN q) r := ⟨h.os, h.tape, h.output, h.size, h.block⟩
theorem Only.setCell {a w : World} (h : Only a w r) (i : Nat) (u : Value) : Only a (w.setCell ⟨r, i, none⟩ u) r :=
  ⟨h.os, h.tape, h.output, by simpa [World.setCell] using h.size, fun k hk hn => (Below.heap_setCell w ⟨r, i, none⟩ u k (fun e => hn (by rw [e]))).trans (h.block k hk hn)⟩
theorem Only.of_below {a w : World} (h : Below a.heap.size a w) : Only a w r := ⟨h.os, h.tape, h.output, h.size, fun k hk _ => h.block k hk⟩
theorem Only.below {B : Nat} {a w w' : World} (h : Below B a w) (k : Only w w' r) (hB : B ≤ w.heap.size) (hr : B ≤ r) : Below B a w' :=
  h.grown k hB (fun i hi => by have := Option.some.inj hi; omega)
/-- What reads below block B reads so still. -/
theorem Only.rd {B : Nat} {A' : Option Addr} {m : Nat} {ys : List UInt8} {a w w' : World} (h : Rd a A' m ys) (hb : Below a.heap.size a w) (k : Only w w' r) (hr : a.heap.size ≤ r) : Rd w' A' m ys :=
  h.below (k.below hb hb.size hr)
end

theorem newReader_any (A : Option Addr) (n c : Nat) (xs : List UInt8) (w : World) (hr : Rd w A n xs) (hl : n ≤ 140737488355328) :
    Calls Try.prog 31 #[.slice A n c] w fun e w' => ∃ r A' c', e = .returned (.pointer (some ⟨r, 0, none⟩)) ∧ Rdr w' r A' n c' xs 0 0 ∧ n ≤ c' ∧ w.heap.size ≤ r ∧ Below w.heap.size w w' := by
  have HR := kept hr
  clear hr
  go_enter Try.func31, Try.ntmps31
  go_wp2_with (first | (go_at_call 39; (with_reducible refine (clone_any _ _ _ _ _ HR.out hl).mono ?_); rintro e w1 ⟨A1, c1, rfl, hown1, hb1⟩; have HO1 := kept hown1; have HB1 := kept hb1; clear hown1 hb1))
  go_ret
  have hblk := Blk.new w1 60 #[.slice A1 n c1, .int .i64 0, .int .i64 0]
  exact ⟨w1.heap.size, A1, c1, rfl, ⟨hblk, (Rd.of_own HO1.out).alloc _⟩, own_cap HO1.out, HB1.out.size, HB1.out.alloc HB1.out.size _⟩

theorem stopped_no (r : Nat) (A : Option Addr) (n c : Nat) (xs : List UInt8) (pos : Nat) (w : World) (h : Rdr w r A n c xs pos 0) :
    Calls Try.prog 42 #[.pointer (some ⟨r, 0, none⟩)] w fun e w' => e = .returned (.bool false) ∧ w = w' := by
  have he := h.error
  clear h
  go_enter Try.func42, Try.ntmps42
  go_wp2
  go_ret
  exact ⟨rfl, rfl⟩
theorem stopped_yes (r : Nat) (A : Option Addr) (n c : Nat) (xs : List UInt8) (pos : Nat) (err : Int) (w : World) (h : Rdr w r A n c xs pos err) (hne : err ≠ 0) :
    Calls Try.prog 42 #[.pointer (some ⟨r, 0, none⟩)] w fun e w' => e = .returned (.bool true) ∧ w = w' := by
  have he := h.error
  have hb : (err != 0) = true := by simp [hne]
  clear h hne
  go_enter Try.func42, Try.ntmps42
  go_wp2
  go_ret
  exact ⟨rfl, rfl⟩
/-- What a reader's End tells: its first error; else that there is more; else nothing. -/
def endE (n pos : Nat) (err : Int) : Int := if err ≠ 0 then err else if pos < n then 5 else 0
theorem endR_any (r : Nat) (A : Option Addr) (n c : Nat) (xs : List UInt8) (pos : Nat) (err : Int) (w : World) (h : Rdr w r A n c xs pos err) (hl : n ≤ 140737488355328) (hp : pos ≤ n) :
    Calls Try.prog 35 #[.pointer (some ⟨r, 0, none⟩)] w fun e w' => e = .returned (.int .i64 (endE n pos err)) ∧ Hid (∃ q, w' = w.drewN q) := by
  have h0 := h.slice
  have h1 := h.place
  have h2 := h.error
  clear h
  by_cases hne : err = 0
  · subst hne
    by_cases hlt : pos < n
    · have hE : Hid (endE n pos 0 = 5) := by show _ = _; simp [endE, hlt]
      have hd : decide (pos < n) = true := by simp [hlt]
      go_enter Try.func35, Try.ntmps35
      go_wp2
      go_quiet (fail)
      go_wp2
      go_ret
      exact ⟨ret_int (by rw [hE.out]), ⟨_, rfl⟩⟩
    · have hE : Hid (endE n pos 0 = 0) := by show _ = _; simp [endE, hlt]
      have hd : decide (pos < n) = false := by simp; omega
      go_enter Try.func35, Try.ntmps35
      go_wp2
      go_quiet (fail)
      go_wp2
      go_ret
      exact ⟨ret_int (by rw [hE.out]), ⟨_, rfl⟩⟩
  · have hE : Hid (endE n pos err = err) := by show _ = _; simp [endE, hne]
    have hb : (err != 0) = true := by simp [hne]
    clear hne
    go_enter Try.func35, Try.ntmps35
    go_wp2
    go_ret
    exact ⟨ret_int (by rw [hE.out]), ⟨0, rfl⟩⟩

/-- A contract that leaves the world, turned for a region that only reads. -/
theorem turn {P : Program} {f : FuncId} {args : Array Value} {w : World} {v : Value} (h : Calls P f args w fun e w' => e = .returned v ∧ w = w') : Calls P f args w fun e w' => e = .returned v ∧ w' = w :=
  h.mono fun _ _ ⟨a, b⟩ => ⟨a, b.symm⟩

theorem num_stopped (r : Nat) (A : Option Addr) (n c : Nat) (xs : List UInt8) (pos : Nat) (err size : Int) (w : World) (h : Rdr w r A n c xs pos err) (hne : err ≠ 0) :
    Calls Try.prog 32 #[.pointer (some ⟨r, 0, none⟩), .int .i64 size] w fun e w' => e = .returned (.int .u64 0) ∧ w = w' := by
  have HS := kept (stopped_yes r A n c xs pos err w h hne)
  clear h hne
  go_enter Try.func32, Try.ntmps32
  go_wp2_with (first | (go_at_call 42; (with_reducible refine (HS.out).mono ?_); rintro e w' ⟨rfl, rfl⟩))
  go_ret
  exact ⟨rfl, rfl⟩
theorem num_bad (r : Nat) (A : Option Addr) (n c : Nat) (xs : List UInt8) (pos : Nat) (size v e0 : Int) (w : World) (h : Rdr w r A n c xs pos 0) (he : e0 ≠ 0)
    (hg : ∀ W, Rd W A n xs → Calls Try.prog 43 #[.slice A n c, .int .i64 (pos : Int), .int .i64 size] W fun e w' => e = .returned (.tuple #[.int .u64 v, .int .i64 e0]) ∧ W = w') :
    Calls Try.prog 32 #[.pointer (some ⟨r, 0, none⟩), .int .i64 size] w fun e w' => e = .returned (.int .u64 0) ∧ Hid (Rdr w' r A n c xs pos e0 ∧ Only w w' r) := by
  have HS := kept (stopped_no r A n c xs pos w h)
  have HG := kept hg
  have HRD := kept h.2
  have h0 := h.slice
  have h1 := h.place
  have h2 := h.error
  have h3 := h.frozen 2
  have hb : (e0 != 0) = true := by simp [he]
  have HP := fun q => kept ((h.drewN q).set_err e0)
  have HO := fun q => kept (((Only.refl w r).drewN q).setCell 2 (.int .i64 e0))
  clear h hg he
  go_enter Try.func32, Try.ntmps32
  go_wp2_with fail
  with_reducible refine HS.out.mono ?_
  rintro e w' ⟨rfl, rfl⟩
  go_wp2
  go_quiet ((go_at_call 43; exact Calls.quiet_of_same (turn (HG.out _ (HRD.out.drewN _)))))
  go_wp2
  go_ret
  exact ⟨rfl, (HP _).out, (HO _).out⟩
theorem num_ok (r : Nat) (A : Option Addr) (n c : Nat) (xs : List UInt8) (pos size : Nat) (w : World) (h : Rdr w r A n c xs pos 0) (hl : n ≤ 140737488355328) (h1 : 1 ≤ size) (h2 : size ≤ 8) (hp : pos + size ≤ n) :
    Calls Try.prog 32 #[.pointer (some ⟨r, 0, none⟩), .int .i64 (size : Int)] w fun e w' => e = .returned (.int .u64 ((num (part xs pos size) 0 : Nat) : Int)) ∧ Hid (Rdr w' r A n c xs (pos + size) 0 ∧ Only w w' r) := by
  have HS := kept (stopped_no r A n c xs pos w h)
  have HG := fun W (hr : Rd W A n xs) => kept (get_ok A n c pos size xs W h1 h2 hr hl hp)
  have HRD := kept h.2
  have g0 := h.slice
  have g1 := h.place
  have g2 := h.error
  have g3 := h.frozen 1
  have HP := fun q => kept ((h.drewN q).set_pos (pos + size))
  have HO := fun q u => kept (((Only.refl w r).drewN q).setCell 1 u)
  have HC : Hid (((pos + size : Nat) : Int) = (pos : Int) + (size : Int)) := by show _ = _; simp
  clear h
  go_enter Try.func32, Try.ntmps32
  go_wp2_with fail
  with_reducible refine HS.out.mono ?_
  rintro e w' ⟨rfl, rfl⟩
  go_wp2
  go_quiet ((go_at_call 43; exact Calls.quiet_of_same (turn (HG _ (HRD.out.drewN _)).out)))
  go_wp2
  go_ret
  refine ⟨rfl, ?_, (HO _ _).out⟩
  rw [← HC.out]
  exact (HP _).out
end Go.Proofs.Ytcmjgkgdeaiifaa
