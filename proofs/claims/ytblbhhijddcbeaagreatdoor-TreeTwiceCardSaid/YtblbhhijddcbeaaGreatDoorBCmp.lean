/- Cmp End Reader -/
import Derived.Test.YtblbhhijddcbeaaGreatDoorBBase
import Derived.Lib.Bytealg
import Derived.Laws.Externs
import Derived.Deep.QuietTactic
import Derived.BigQuiet
import Derived.Deep.Draws
section
namespace Go.Proofs.YtblbhhijddcbeaaGreatDoor
open Go.ChangeShapes Go.WideShapes Go.ChangeAt Go.RowKit
set_option linter.unusedVariables false
set_option linter.unusedSimpArgs false
set_option maxRecDepth 100000
set_option maxHeartbeats 16000000
def ahead : List UInt8 → List UInt8 → Bool
 | _, [] => false
 | [], _ :: _ => true
 | x :: a, y :: b => if x = y then ahead a b else decide (x < y)
def ordB (a b : List UInt8) : Int := if ahead a b then -1 else if ahead b a then 1 else 0
theorem ordB_eq : ∀ a b : List UInt8, Lib.compareBytes a b = ordB a b
 | [], [] => by simp [Lib.compareBytes, ordB, ahead]
 | [], _ :: _ => by simp [Lib.compareBytes, ordB, ahead]
 | _ :: _, [] => by simp [Lib.compareBytes, ordB, ahead]
 | x :: a, y :: b => by
   have ih := ordB_eq a b; unfold Lib.compareBytes; by_cases h : x = y
   · subst h; simp [ih, ordB, ahead, UInt8.lt_irrefl]
   · have h' : ¬ y = x := fun e => h e.symm
     by_cases hl : x < y
     · simp [ordB, ahead, h, hl]
     · have hg : y < x := by
        have h1 : x.toNat ≠ y.toNat := fun e => h (UInt8.toNat_inj.1 e)
        simp only [UInt8.lt_iff_toNat_lt] at hl ⊢; omega
       simp [ordB, ahead, h, hl, h', hg]
theorem run_loadBytes8 {P : Program} {w : World} : ∀ (xs : List UInt8) (a : Addr) (acc : ByteArray), (∀ j (h : j < xs.length), w.cell? (a.add j) = some (byteV xs[j])) →
 (Extern.Bytes.loadBytes a xs.length acc).run P w = .ok ⟨acc.data ++ xs.toArray⟩ w
 | [], a, acc, _ => by simp [Extern.Bytes.loadBytes]
 | x :: l, a, acc, h => by
   have h0 : w.cell? a = some (.int .u8 (x.toNat : Int)) := by
    have := h 0 (by simp); simpa [Addr.add, byteV] using this
   have ih := run_loadBytes8 (P := P) (w := w) l (a.add 1) (acc.push x) (fun j hj => by
    have := h (j + 1) (by simpa using hj); rw [add_add, Nat.add_comm 1 j]; simpa using this)
   have e : ((x.toNat : Int).toNat).toUInt8 = x := by simp
   simp only [List.length_cons, Extern.Bytes.loadBytes, Sem.run_bind, run_load, h0, Result.andThen]; rw [e, ih]
   congr 1
   apply ByteArray.ext; simp [ByteArray.push]
theorem Rd.bytes {P : Program} {w : World} {A : Option Addr} {n : Nat} {xs : List UInt8} (h : Rd w A n xs) (c : Nat) : (Extern.Bytes.bytesOf (.slice A n c)).run P w = .ok (strOf xs) w := by
 have hx := h.1; rcases A with _ | a
 · rcases Nat.eq_zero_or_pos n with hn | hn
   · subst hn; obtain rfl : xs = [] := List.eq_nil_of_length_eq_zero hx; rfl
   · obtain ⟨a, e, _⟩ := h.2 hn; cases e
 · have := run_loadBytes8 (P := P) (w := w) xs a .empty (fun j hj => by
    obtain ⟨a', e, hc⟩ := h.2 (by omega); cases e; exact hc j hj)
   rw [hx] at this; simp only [Extern.Bytes.bytesOf, this]
   congr 1
   apply ByteArray.ext; show (#[] : Array UInt8) ++ xs.toArray = xs.toArray; simp
theorem run_compare8 {P : Program} {w : World} {A B : Option Addr} {n m : Nat} {xs ys : List UInt8} (h1 : Rd w A n xs) (h2 : Rd w B m ys) (c d : Nat) :
 (Extern.BytealgCompare.compare #[.slice A n c, .slice B m d]).run P w = .ok (.int .i64 (ordB xs ys)) w := by
 change Sem.run P (do pure (goInt (Extern.BytealgCompare.cmp (← Extern.Bytes.bytesOf (.slice A n c)) (← Extern.Bytes.bytesOf (.slice B m d))))) w = _
 simp only [Sem.run_bind, Sem.run_pure, Result.andThen, h1.bytes c, h2.bytes d]; rw [Lib.cmp_eq, ← ordB_eq]; rfl
theorem compare_any (A B : Option Addr) (n m c d : Nat) (xs ys : List UInt8) (w : World) (h1 : Rd w A n xs) (h2 : Rd w B m ys) :
 Calls Tryz.prog 218 #[.slice A n c, .slice B m d] w fun e w' => e = .returned (.int .i64 (ordB xs ys)) ∧ w = w' := by
 have hc := kept (run_compare8 (P := Tryz.prog) h1 h2 c d); clear h1 h2; generalize ordB xs ys = o at hc; go_enter Tryz.func218, Tryz.ntmps218; go_wp2; rw [run_callFunc_extern Tryz.func140 (by kernel_rfl) (by kernel_rfl) (by kernel_rfl) (e := Extern.BytealgCompare.compare) (by kernel_rfl), hc.out]; simp only [Result.andThen]; rw [Oper.upon_value]; go_wp2; go_ret; exact ⟨rfl, rfl⟩
theorem drewN_below {B : Nat} {a w : World} (h : Below B a w) (n : Nat) : Below B a (w.drewN n) := ⟨h.os, h.tape, h.output, h.size, h.block⟩
theorem Rd.drewN {w : World} {A : Option Addr} {n : Nat} {xs : List UInt8} (h : Rd w A n xs) (k : Nat) : Rd (w.drewN k) A n xs := h
def full (xs : List UInt8) : Bool := decide (∀ x ∈ xs, x = 255)
theorem ahead_self : ∀ a : List UInt8, ahead a a = false
 | [] => rfl
 | x :: a => by simp [ahead, ahead_self a]
theorem ahead_eq : ∀ a b : List UInt8, ahead a b = false → ahead b a = false → a = b
 | [], [], _, _ => rfl
 | [], _ :: _, h, _ => by simp [ahead] at h
 | _ :: _, [], _, h => by simp [ahead] at h
 | x :: a, y :: b, h, h' => by
   unfold ahead at h h'; by_cases e : x = y
   · subst e; rw [if_pos rfl] at h h'; rw [ahead_eq a b h h']
   · rw [if_neg e] at h; rw [if_neg (fun e' => e e'.symm)] at h'; simp only [decide_eq_false_iff_not] at h h'; rw [UInt8.lt_iff_toNat_lt] at h h'; exact absurd (UInt8.toNat_inj.1 (by omega)) e
def Rdr (w : World) (r : Nat) (A : Option Addr) (n c : Nat) (xs : List UInt8) (pos : Nat) (err : Int) : Prop :=
 Blk w r 327 [.slice A n c, .int .i64 (pos : Int), .int .i64 err] ∧ Rd w A n xs
def Only (w w' : World) (r : Nat) : Prop := w.grownBy w' (some r)
section
variable {w w' : World} {r : Nat} {A : Option Addr} {n c : Nat} {xs : List UInt8} {pos : Nat} {err : Int}
theorem Rdr.slice (h : Rdr w r A n c xs pos err) : w.cell? ⟨r, 0, none⟩ = some (.slice A n c) := h.1.cell 0
theorem Rdr.place (h : Rdr w r A n c xs pos err) : w.cell? ⟨r, 1, none⟩ = some (.int .i64 (pos : Int)) := h.1.cell 1
theorem Rdr.error (h : Rdr w r A n c xs pos err) : w.cell? ⟨r, 2, none⟩ = some (.int .i64 err) := h.1.cell 2
theorem Rdr.frozen (h : Rdr w r A n c xs pos err) (i : Nat) : w.frozen? ⟨r, i, none⟩ = false := h.1.frozen i
theorem Rdr.drewN (h : Rdr w r A n c xs pos err) (q : Nat) : Rdr (w.drewN q) r A n c xs pos err := h
theorem Rdr.apart (h : Rdr w r A n c xs pos err) {a : Addr} {j : Nat} {x : UInt8} (hc : w.cell? (a.add j) = some (byteV x)) : a.block ≠ r := by
 intro hb; have hs := World.cell?_spot hc; have hb' : (a.add j).block = r := by rw [add_block]; exact hb
 generalize haddr : a.add j = ad at hc hs hb'; obtain ⟨b, o, s⟩ := ad; simp only at hs hb'; subst hs hb'; rw [h.1.cell o] at hc; rcases o with _ | _ | _ | o <;> simp [byteV] at hc
theorem Rdr.rd_other (h : Rdr w r A n c xs pos err) {A' : Option Addr} {m : Nat} {ys : List UInt8} (hr : Rd w A' m ys) (i : Nat) (u : Value) : Rd (w.setCell ⟨r, i, none⟩ u) A' m ys := by
 refine ⟨hr.1, fun hn => ?_⟩; obtain ⟨a, e, hc⟩ := hr.2 hn; refine ⟨a, e, fun j hj => ?_⟩; have hb := h.apart (hc j hj); rw [World.cell?_setCell_other w ⟨r, i, none⟩ (a.add j) u (fun e => hb (by have := congrArg Addr.block e; rw [add_block] at this; exact this.symm ▸ rfl))]; exact hc j hj
theorem Rdr.rd_set (h : Rdr w r A n c xs pos err) (i : Nat) (u : Value) : Rd (w.setCell ⟨r, i, none⟩ u) A n xs := h.rd_other h.2 i u
theorem Rdr.set_err (h : Rdr w r A n c xs pos err) (e : Int) : Rdr (w.setCell ⟨r, 2, none⟩ (.int .i64 e)) r A n c xs pos e := ⟨h.1.set_ 2 _, h.rd_set 2 _⟩
theorem Rdr.set_pos (h : Rdr w r A n c xs pos err) (p : Nat) : Rdr (w.setCell ⟨r, 1, none⟩ (.int .i64 (p : Int))) r A n c xs p err := ⟨h.1.set_ 1 _, h.rd_set 1 _⟩
theorem Rdr.below (h : Rdr w r A n c xs pos err) (hb : Below w.heap.size w w') : Rdr w' r A n c xs pos err := ⟨h.1.below hb h.1.lt, h.2.below hb⟩
theorem Only.refl (w : World) (r : Nat) : Only w w r := ⟨rfl, rfl, rfl, Nat.le_refl _, fun _ _ _ => rfl⟩
theorem Only.trans {a b c : World} (h : Only a b r) (k : Only b c r) : Only a c r :=
 ⟨k.os.trans h.os, k.tape.trans h.tape, k.output.trans h.output, Nat.le_trans h.size k.size, fun i hi hn => (k.block i (Nat.lt_of_lt_of_le hi h.size) hn).trans (h.block i hi hn)⟩
theorem Only.drewN {a w : World} (h : Only a w r) (q : Nat) : Only a (w.drewN q) r := ⟨h.os, h.tape, h.output, h.size, h.block⟩
theorem Only.setCell {a w : World} (h : Only a w r) (i : Nat) (u : Value) : Only a (w.setCell ⟨r, i, none⟩ u) r :=
 ⟨h.os, h.tape, h.output, by simpa [World.setCell] using h.size, fun k hk hn => (Below.heap_setCell w ⟨r, i, none⟩ u k (fun e => hn (by rw [e]))).trans (h.block k hk hn)⟩
theorem Only.of_below {a w : World} (h : Below a.heap.size a w) : Only a w r := ⟨h.os, h.tape, h.output, h.size, fun k hk _ => h.block k hk⟩
theorem Only.below {B : Nat} {a w w' : World} (h : Below B a w) (k : Only w w' r) (hB : B ≤ w.heap.size) (hr : B ≤ r) : Below B a w' :=
 h.grown k hB (fun i hi => by have := Option.some.inj hi; omega)
end
theorem newReader_any (A : Option Addr) (n c : Nat) (xs : List UInt8) (w : World) (hr : Rd w A n xs) (hl : n ≤ 140737488355328) :
 Calls Tryz.prog 183 #[.slice A n c] w fun e w' => ∃ r A' c', e = .returned (.pointer (some ⟨r, 0, none⟩)) ∧ Rdr w' r A' n c' xs 0 0 ∧ n ≤ c' ∧ w.heap.size ≤ r ∧ Below w.heap.size w w' := by
 have HR := kept hr; clear hr; go_enter Tryz.func183, Tryz.ntmps183; go_wp2_with (first | (go_at_call 228; (with_reducible refine (clone_any _ _ _ _ _ HR.out hl).mono ?_); rintro e w1 ⟨A1, c1, rfl, hown1, hb1⟩; have HO1 := kept hown1; have HB1 := kept hb1; clear hown1 hb1))
 go_ret; have hblk := Blk.new w1 327 #[.slice A1 n c1, .int .i64 0, .int .i64 0]; exact ⟨w1.heap.size, A1, c1, rfl, ⟨hblk, (Rd.of_own HO1.out).alloc _⟩, own_cap HO1.out, HB1.out.size, HB1.out.alloc HB1.out.size _⟩
theorem stopped_no (r : Nat) (A : Option Addr) (n c : Nat) (xs : List UInt8) (pos : Nat) (w : World) (h : Rdr w r A n c xs pos 0) :
 Calls Tryz.prog 236 #[.pointer (some ⟨r, 0, none⟩)] w fun e w' => e = .returned (.bool false) ∧ w = w' := by
 have he := h.error; clear h; go_enter Tryz.func236, Tryz.ntmps236; go_wp2; go_ret; exact ⟨rfl, rfl⟩
theorem stopped_yes (r : Nat) (A : Option Addr) (n c : Nat) (xs : List UInt8) (pos : Nat) (err : Int) (w : World) (h : Rdr w r A n c xs pos err) (hne : err ≠ 0) :
 Calls Tryz.prog 236 #[.pointer (some ⟨r, 0, none⟩)] w fun e w' => e = .returned (.bool true) ∧ w = w' := by
 have he := h.error; have hb : (err != 0) = true := by simp [hne]
 clear h hne; go_enter Tryz.func236, Tryz.ntmps236; go_wp2; go_ret; exact ⟨rfl, rfl⟩
theorem at_any (r : Nat) (A : Option Addr) (n c : Nat) (xs : List UInt8) (pos : Nat) (err : Int) (w : World) (h : Rdr w r A n c xs pos err) :
 Calls Tryz.prog 186 #[.pointer (some ⟨r, 0, none⟩)] w fun e w' => e = .returned (.int .i64 (pos : Int)) ∧ w = w' := by
 have he := h.place; clear h; go_enter Tryz.func186, Tryz.ntmps186; go_wp2; go_ret; exact ⟨rfl, rfl⟩
def endE (n pos : Nat) (err : Int) : Int := if err ≠ 0 then err else if pos < n then 5 else 0
theorem endR_any (r : Nat) (A : Option Addr) (n c : Nat) (xs : List UInt8) (pos : Nat) (err : Int) (w : World) (h : Rdr w r A n c xs pos err) (hl : n ≤ 140737488355328) (hp : pos ≤ n) :
 Calls Tryz.prog 187 #[.pointer (some ⟨r, 0, none⟩)] w fun e w' => e = .returned (.int .i64 (endE n pos err)) ∧ Hid (∃ q, w' = w.drewN q) := by
 have h0 := h.slice; have h1 := h.place; have h2 := h.error; clear h; by_cases hne : err = 0
 · subst hne; by_cases hlt : pos < n
   · have hE : Hid (endE n pos 0 = 5) := by show _ = _; simp [endE, hlt]
     have hd : decide (pos < n) = true := by simp [hlt]
     go_enter Tryz.func187, Tryz.ntmps187; go_wp2
     go_quiet (fail)
     go_wp2; go_ret; exact ⟨ret_int (by rw [hE.out]), ⟨_, rfl⟩⟩
   · have hE : Hid (endE n pos 0 = 0) := by show _ = _; simp [endE, hlt]
     have hd : decide (pos < n) = false := by simp; omega
     go_enter Tryz.func187, Tryz.ntmps187; go_wp2
     go_quiet (fail)
     go_wp2; go_ret; exact ⟨ret_int (by rw [hE.out]), ⟨_, rfl⟩⟩
 · have hE : Hid (endE n pos err = err) := by show _ = _; simp [endE, hne]
   have hb : (err != 0) = true := by simp [hne]
   clear hne; go_enter Tryz.func187, Tryz.ntmps187; go_wp2; go_ret; exact ⟨ret_int (by rw [hE.out]), ⟨0, rfl⟩⟩
theorem turn {P : Program} {f : FuncId} {args : Array Value} {w : World} {v : Value} (h : Calls P f args w fun e w' => e = .returned v ∧ w = w') : Calls P f args w fun e w' => e = .returned v ∧ w' = w :=
 h.mono fun _ _ ⟨a, b⟩ => ⟨a, b.symm⟩
theorem num_stopped (r : Nat) (A : Option Addr) (n c : Nat) (xs : List UInt8) (pos : Nat) (err size : Int) (w : World) (h : Rdr w r A n c xs pos err) (hne : err ≠ 0) :
 Calls Tryz.prog 229 #[.pointer (some ⟨r, 0, none⟩), .int .i64 size] w fun e w' => e = .returned (.int .u64 0) ∧ w = w' := by
 have HS := kept (stopped_yes r A n c xs pos err w h hne); clear h hne; go_enter Tryz.func229, Tryz.ntmps229; go_wp2_with (first | (go_at_call 236; (with_reducible refine (HS.out).mono ?_); rintro e w' ⟨rfl, rfl⟩))
 go_ret; exact ⟨rfl, rfl⟩
theorem num_bad (r : Nat) (A : Option Addr) (n c : Nat) (xs : List UInt8) (pos : Nat) (size v e0 : Int) (w : World) (h : Rdr w r A n c xs pos 0) (he : e0 ≠ 0)
 (hg : ∀ W, Rd W A n xs → Calls Tryz.prog 227 #[.slice A n c, .int .i64 (pos : Int), .int .i64 size] W fun e w' => e = .returned (.tuple #[.int .u64 v, .int .i64 e0]) ∧ W = w') :
 Calls Tryz.prog 229 #[.pointer (some ⟨r, 0, none⟩), .int .i64 size] w fun e w' => e = .returned (.int .u64 0) ∧ Hid (Rdr w' r A n c xs pos e0 ∧ Only w w' r) := by
 have HS := kept (stopped_no r A n c xs pos w h); have HG := kept hg; have HRD := kept h.2; have h0 := h.slice; have h1 := h.place; have h2 := h.error; have h3 := h.frozen 2; have hb : (e0 != 0) = true := by simp [he]
 have HP := fun q => kept ((h.drewN q).set_err e0)
 have HO := fun q => kept (((Only.refl w r).drewN q).setCell 2 (.int .i64 e0))
 clear h hg he; go_enter Tryz.func229, Tryz.ntmps229; go_wp2_with fail
 with_reducible refine HS.out.mono ?_
 rintro e w' ⟨rfl, rfl⟩; go_wp2
 go_quiet ((go_at_call 227; exact Calls.quiet_of_same (turn (HG.out _ (HRD.out.drewN _)))))
 go_wp2; go_ret; exact ⟨rfl, (HP _).out, (HO _).out⟩
theorem num_ok (r : Nat) (A : Option Addr) (n c : Nat) (xs : List UInt8) (pos size : Nat) (w : World) (h : Rdr w r A n c xs pos 0) (hl : n ≤ 140737488355328) (h1 : 1 ≤ size) (h2 : size ≤ 8) (hp : pos + size ≤ n) :
 Calls Tryz.prog 229 #[.pointer (some ⟨r, 0, none⟩), .int .i64 (size : Int)] w fun e w' => e = .returned (.int .u64 ((num (part xs pos size) 0 : Nat) : Int)) ∧ Hid (Rdr w' r A n c xs (pos + size) 0 ∧ Only w w' r) := by
 have HS := kept (stopped_no r A n c xs pos w h); have HG := fun W (hr : Rd W A n xs) => kept (get_ok A n c pos size xs W h1 h2 hr hl hp)
 have HRD := kept h.2; have g0 := h.slice; have g1 := h.place; have g2 := h.error; have g3 := h.frozen 1; have HP := fun q => kept ((h.drewN q).set_pos (pos + size))
 have HO := fun q u => kept (((Only.refl w r).drewN q).setCell 1 u)
 have HC : Hid (((pos + size : Nat) : Int) = (pos : Int) + (size : Int)) := by show _ = _; simp
 clear h; go_enter Tryz.func229, Tryz.ntmps229; go_wp2_with fail
 with_reducible refine HS.out.mono ?_
 rintro e w' ⟨rfl, rfl⟩; go_wp2
 go_quiet ((go_at_call 227; exact Calls.quiet_of_same (turn (HG _ (HRD.out.drewN _)).out)))
 go_wp2; go_ret; refine ⟨rfl, ?_, (HO _ _).out⟩; rw [← HC.out]; exact (HP _).out
end Go.Proofs.YtblbhhijddcbeaaGreatDoor
end
