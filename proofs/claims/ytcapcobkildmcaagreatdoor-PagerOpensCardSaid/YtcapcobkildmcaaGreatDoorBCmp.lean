/- Cmp End Reader -/
import Derived.Test.YtcapcobkildmcaaGreatDoorBBase
import Derived.Lib.Bytealg
import Derived.Laws.Externs
import Derived.Deep.QuietTactic
import Derived.BigQuiet
import Derived.Deep.Draws
section
namespace Go.Proofs.YtcapcobkildmcaaGreatDoor
open Go.ChangeShapes Go.WideShapes Go.ChangeAt Go.RowKit
set_option linter.unusedVariables false
set_option linter.unusedSimpArgs false
set_option maxRecDepth 100000
set_option maxHeartbeats 16000000
def ahead : List UInt8 → List UInt8 → Bool
 | _, [] => false
 | [], _ :: _ => true
 | x :: a, y :: b => if x = y then ahead a b else decide (x < y)
def ordB (a b : List UInt8) : Int := if ahead a b then -1 else if ahead b a then 1 else 0
theorem ordB_eq : ∀ a b : List UInt8, Lib.compareBytes a b = ordB a b
 | [], [] => by simp [Lib.compareBytes, ordB, ahead]
 | [], _ :: _ => by simp [Lib.compareBytes, ordB, ahead]
 | _ :: _, [] => by simp [Lib.compareBytes, ordB, ahead]
 | x :: a, y :: b => by
   have ih := ordB_eq a b; unfold Lib.compareBytes; by_cases h : x = y
   · subst h; simp [ih, ordB, ahead, UInt8.lt_irrefl]
   · have h' : ¬ y = x := fun e => h e.symm
     by_cases hl : x < y
     · simp [ordB, ahead, h, hl]
     · have hg : y < x := by
        have h1 : x.toNat ≠ y.toNat := fun e => h (UInt8.toNat_inj.1 e)
        simp only [UInt8.lt_iff_toNat_lt] at hl ⊢; omega
       simp [ordB, ahead, h, hl, h', hg]
def common : List UInt8 → List UInt8 → Nat
 | x :: a, y :: b => if x = y then common a b + 1 else 0
 | _, _ => 0
theorem run_loadBytes8 {P : Program} {w : World} : ∀ (xs : List UInt8) (a : Addr) (acc : ByteArray), (∀ j (h : j < xs.length), w.cell? (a.add j) = some (byteV xs[j])) →
 (Extern.Bytes.loadBytes a xs.length acc).run P w = .ok ⟨acc.data ++ xs.toArray⟩ w
 | [], a, acc, _ => by simp [Extern.Bytes.loadBytes]
 | x :: l, a, acc, h => by
   have h0 : w.cell? a = some (.int .u8 (x.toNat : Int)) := by
    have := h 0 (by simp); simpa [Addr.add, byteV] using this
   have ih := run_loadBytes8 (P := P) (w := w) l (a.add 1) (acc.push x) (fun j hj => by
    have := h (j + 1) (by simpa using hj); rw [add_add, Nat.add_comm 1 j]; simpa using this)
   have e : ((x.toNat : Int).toNat).toUInt8 = x := by simp
   simp only [List.length_cons, Extern.Bytes.loadBytes, Sem.run_bind, run_load, h0, Result.andThen]; rw [e, ih]
   congr 1
   apply ByteArray.ext; simp [ByteArray.push]
theorem Rd.bytes {P : Program} {w : World} {A : Option Addr} {n : Nat} {xs : List UInt8} (h : Rd w A n xs) (c : Nat) : (Extern.Bytes.bytesOf (.slice A n c)).run P w = .ok (strOf xs) w := by
 have hx := h.1; rcases A with _ | a
 · rcases Nat.eq_zero_or_pos n with hn | hn
   · subst hn; obtain rfl : xs = [] := List.eq_nil_of_length_eq_zero hx; rfl
   · obtain ⟨a, e, _⟩ := h.2 hn; cases e
 · have := run_loadBytes8 (P := P) (w := w) xs a .empty (fun j hj => by
    obtain ⟨a', e, hc⟩ := h.2 (by omega); cases e; exact hc j hj)
   rw [hx] at this; simp only [Extern.Bytes.bytesOf, this]
   congr 1
   apply ByteArray.ext; show (#[] : Array UInt8) ++ xs.toArray = xs.toArray; simp
theorem run_compare8 {P : Program} {w : World} {A B : Option Addr} {n m : Nat} {xs ys : List UInt8} (h1 : Rd w A n xs) (h2 : Rd w B m ys) (c d : Nat) :
 (Extern.BytealgCompare.compare #[.slice A n c, .slice B m d]).run P w = .ok (.int .i64 (ordB xs ys)) w := by
 change Sem.run P (do pure (goInt (Extern.BytealgCompare.cmp (← Extern.Bytes.bytesOf (.slice A n c)) (← Extern.Bytes.bytesOf (.slice B m d))))) w = _
 simp only [Sem.run_bind, Sem.run_pure, Result.andThen, h1.bytes c, h2.bytes d]; rw [Lib.cmp_eq, ← ordB_eq]; rfl
theorem compare_any (A B : Option Addr) (n m c d : Nat) (xs ys : List UInt8) (w : World) (h1 : Rd w A n xs) (h2 : Rd w B m ys) :
 Calls Tryz.prog 264 #[.slice A n c, .slice B m d] w fun e w' => e = .returned (.int .i64 (ordB xs ys)) ∧ w = w' := by
 have hc := kept (run_compare8 (P := Tryz.prog) h1 h2 c d); clear h1 h2; generalize ordB xs ys = o at hc; go_enter Tryz.func264, Tryz.ntmps264; go_wp2; rw [run_callFunc_extern Tryz.func180 (by kernel_rfl) (by kernel_rfl) (by kernel_rfl) (e := Extern.BytealgCompare.compare) (by kernel_rfl), hc.out]; simp only [Result.andThen]; rw [Oper.upon_value]; go_wp2; go_ret; exact ⟨rfl, rfl⟩
theorem common_is : ∀ (a b : List UInt8) (k : Nat), (∀ j, j < k → ∃ (h1 : j < a.length) (h2 : j < b.length), a[j] = b[j]) → (∀ (h1 : k < a.length) (h2 : k < b.length), a[k] ≠ b[k]) → common a b = k
 | [], _, k, h, _ => by
   cases k with
   | zero => rfl
   | succ k => obtain ⟨h1, _⟩ := h 0 (by omega); simp at h1
 | _ :: _, [], k, h, _ => by
   cases k with
   | zero => rfl
   | succ k => obtain ⟨_, h2, _⟩ := h 0 (by omega); simp at h2
 | x :: a, y :: b, k, h, hn => by
   unfold common; cases k with
   | zero =>
     have := hn (by simp) (by simp); rw [if_neg (by simpa using this)]
   | succ k =>
     obtain ⟨_, _, e⟩ := h 0 (by omega); rw [if_pos (by simpa using e), common_is a b k (fun j hj => by
      obtain ⟨h1, h2, e2⟩ := h (j + 1) (by omega); exact ⟨by simpa using h1, by simpa using h2, by simpa using e2⟩) (fun h1 h2 => by
      have := hn (by simpa using h1) (by simpa using h2); simpa using this)]
theorem ahead_common : ∀ (a b : List UInt8), ahead a b = (if h : common a b < b.length then (if h' : common a b < a.length then decide (a[common a b] < b[common a b]) else true) else false)
 | [], [] => by simp [ahead, common]
 | [], _ :: _ => by simp [ahead, common]
 | _ :: _, [] => by simp [ahead, common]
 | x :: a, y :: b => by
   have ih := ahead_common a b; unfold ahead common; by_cases e : x = y
   · simp only [e, if_true, ih, List.length_cons, Nat.add_lt_add_iff_right]; simp
   · simp [e]
theorem drewN_below {B : Nat} {a w : World} (h : Below B a w) (n : Nat) : Below B a (w.drewN n) := ⟨h.os, h.tape, h.output, h.size, h.block⟩
theorem Rd.drewN {w : World} {A : Option Addr} {n : Nat} {xs : List UInt8} (h : Rd w A n xs) (k : Nat) : Rd (w.drewN k) A n xs := h
def Alike (xs ys : List UInt8) (k : Nat) : Prop := ∀ j, j < k → ∃ (h1 : j < xs.length) (h2 : j < ys.length), xs[j] = ys[j]
theorem alike_zero (xs ys : List UInt8) : Alike xs ys 0 := fun j hj => absurd hj (by omega)
theorem alike_next {w : World} {A B : Option Addr} {n m : Nat} {xs ys : List UInt8} (h1 : Rd w A n xs) (h2 : Rd w B m ys) {k : Nat} (h : Alike xs ys k) (hn : k < n) (hm : k < m) :
 ∃ (a b : Addr) (x y : Nat), A = some a ∧ B = some b ∧ w.cell? (a.add k) = some (.int .u8 (x : Int)) ∧ w.cell? (b.add k) = some (.int .u8 (y : Int)) ∧ x < 256 ∧ y < 256 ∧
   ((x = y ∧ Hid (Alike xs ys (k + 1))) ∨ (x ≠ y ∧ Hid (common xs ys = k) ∧ Hid (ahead xs ys = decide (x < y)))) := by
 have hx := h1.1; have hy := h2.1; obtain ⟨a, ea, hca⟩ := h1.at_ (k := k) (by omega); obtain ⟨b, eb, hcb⟩ := h2.at_ (k := k) (by omega); refine ⟨a, b, _, _, ea, eb, hca, hcb, UInt8.toNat_lt _, UInt8.toNat_lt _, ?_⟩; by_cases e : xs[k] = ys[k]
 · refine .inl ⟨by rw [e], fun j hj => ?_⟩; rcases Nat.lt_succ_iff_lt_or_eq.1 hj with h' | h'
   · exact h j h'
   · subst h'; exact ⟨by omega, by omega, e⟩
 · have hc : common xs ys = k := common_is xs ys k h (fun _ _ => e); refine .inr ⟨fun e' => e (UInt8.toNat_inj.1 e'), hc, ?_⟩; show ahead xs ys = _; rw [ahead_common]; subst hc; rw [dif_pos (by omega), dif_pos (by omega)]; simp [UInt8.lt_iff_toNat_lt]
theorem alike_end {n m : Nat} {xs ys : List UInt8} (h1 : xs.length = n) (h2 : ys.length = m) {k : Nat} (h : Alike xs ys k) (hk : k ≤ n) (hm : k ≤ m) (he : k = n ∨ k = m) : common xs ys = k ∧ ahead xs ys = decide (k < m) := by
 have hc : common xs ys = k := common_is xs ys k h (fun h1 h2 => by omega); refine ⟨hc, ?_⟩; rw [ahead_common]; subst hc; by_cases hlt : common xs ys < ys.length
 · rw [dif_pos hlt, dif_neg (by omega)]
   simp; omega
 · rw [dif_neg hlt]
   simp; omega
theorem drawn3 (w : World) (q r t : Nat) : ∃ s, ((w.drewN q).drewN r).drewN t = w.drewN s := ⟨q + (r + t), by rw [World.drewN_drewN, World.drewN_drewN]⟩
theorem ahead_any (A B : Option Addr) (n m c d : Nat) (xs ys : List UInt8) (w : World) (h1 : Rd w A n xs) (h2 : Rd w B m ys) (hn : n ≤ 140737488355328) (hm : m ≤ 140737488355328) :
 Calls Tryz.prog 30 #[.slice A n c, .slice B m d] w fun e w' => e = .returned (.bool (ahead xs ys)) ∧ Hid (∃ q, w' = w.drewN q) := by
 have HA := kept h1; have HB := kept h2; clear h1 h2; go_enter Tryz.func30, Tryz.ntmps30; go_wp2; go_loopw [5] (fun i wr => ∃ k : Nat, k ≤ n ∧ k ≤ m ∧ i = .int .i64 k ∧ Hid (Alike xs ys k) ∧ Hid (∃ q, wr = w.drewN q)) (fun i _ => n - (intOf i).toNat)
 case atStart => exact ⟨0, by omega, by omega, rfl, alike_zero _ _, ⟨0, rfl⟩⟩
 case round =>
  obtain ⟨k, hk1, hk2, rfl, HC, HW⟩ := hrel; by_cases hlt : k < n ∧ k < m
  · obtain ⟨hl1, hl2⟩ := hlt; obtain ⟨q, rfl⟩ := HW.out; obtain ⟨a, b, x, y, rfl, rfl, hca, hcb, hx, hy, hcase⟩ := alike_next HA.out HB.out HC.out hl1 hl2; have hi1 : (0 : Int) ≤ (k : Int) := by omega
    have hi2 : (k : Int) < (n : Int) := by omega
    have hi3 : (k : Int) < (m : Int) := by omega
    rcases hcase with ⟨e, HE⟩ | ⟨e, _, HE⟩
    · subst e; go_wp2
      go_quiet (fail)
      go_wp2; go_roundw
      case rel => exact ⟨k + 1, by omega, by omega, by go_num, HE, ⟨_, rfl⟩⟩
      case measure => simp [intOf]; omega
    · have hb : ((x : Int) != (y : Int)) = true := by simp; omega
      clear e; go_wp2
      go_quiet (fail)
      go_wp2
      go_quiet (fail)
      go_wp2; go_ret; exact ⟨ret_bool (by rw [HE.out]), drawn3 _ _ _ _⟩
  · have HE := kept (alike_end HA.out.1 HB.out.1 HC.out hk1 hk2 (by omega)).2; by_cases hkm : k < m
    · have hkn : k = n := by omega
      subst hkn; go_wp2; go_ret; exact ⟨ret_bool (by rw [HE.out]; simp [hkm]), HW.out⟩
    · go_wp2; go_ret; exact ⟨ret_bool (by rw [HE.out]; simp [hkm]), HW.out⟩
def Rdr (w : World) (r : Nat) (A : Option Addr) (n c : Nat) (xs : List UInt8) (pos : Nat) (err : Int) : Prop :=
 Blk w r 336 [.slice A n c, .int .i64 (pos : Int), .int .i64 err] ∧ Rd w A n xs
def Only (w w' : World) (r : Nat) : Prop := w.grownBy w' (some r)
section
variable {w w' : World} {r : Nat} {A : Option Addr} {n c : Nat} {xs : List UInt8} {pos : Nat} {err : Int}
theorem Rdr.slice (h : Rdr w r A n c xs pos err) : w.cell? ⟨r, 0, none⟩ = some (.slice A n c) := h.1.cell 0
theorem Rdr.place (h : Rdr w r A n c xs pos err) : w.cell? ⟨r, 1, none⟩ = some (.int .i64 (pos : Int)) := h.1.cell 1
theorem Rdr.error (h : Rdr w r A n c xs pos err) : w.cell? ⟨r, 2, none⟩ = some (.int .i64 err) := h.1.cell 2
theorem Rdr.frozen (h : Rdr w r A n c xs pos err) (i : Nat) : w.frozen? ⟨r, i, none⟩ = false := h.1.frozen i
theorem Rdr.drewN (h : Rdr w r A n c xs pos err) (q : Nat) : Rdr (w.drewN q) r A n c xs pos err := h
theorem Rdr.apart (h : Rdr w r A n c xs pos err) {a : Addr} {j : Nat} {x : UInt8} (hc : w.cell? (a.add j) = some (byteV x)) : a.block ≠ r := by
 intro hb; have hs := World.cell?_spot hc; have hb' : (a.add j).block = r := by rw [add_block]; exact hb
 generalize haddr : a.add j = ad at hc hs hb'; obtain ⟨b, o, s⟩ := ad; simp only at hs hb'; subst hs hb'; rw [h.1.cell o] at hc; rcases o with _ | _ | _ | o <;> simp [byteV] at hc
theorem Rdr.rd_other (h : Rdr w r A n c xs pos err) {A' : Option Addr} {m : Nat} {ys : List UInt8} (hr : Rd w A' m ys) (i : Nat) (u : Value) : Rd (w.setCell ⟨r, i, none⟩ u) A' m ys := by
 refine ⟨hr.1, fun hn => ?_⟩; obtain ⟨a, e, hc⟩ := hr.2 hn; refine ⟨a, e, fun j hj => ?_⟩; have hb := h.apart (hc j hj); rw [World.cell?_setCell_other w ⟨r, i, none⟩ (a.add j) u (fun e => hb (by have := congrArg Addr.block e; rw [add_block] at this; exact this.symm ▸ rfl))]; exact hc j hj
theorem Rdr.rd_set (h : Rdr w r A n c xs pos err) (i : Nat) (u : Value) : Rd (w.setCell ⟨r, i, none⟩ u) A n xs := h.rd_other h.2 i u
theorem Rdr.set_err (h : Rdr w r A n c xs pos err) (e : Int) : Rdr (w.setCell ⟨r, 2, none⟩ (.int .i64 e)) r A n c xs pos e := ⟨h.1.set_ 2 _, h.rd_set 2 _⟩
theorem Rdr.set_pos (h : Rdr w r A n c xs pos err) (p : Nat) : Rdr (w.setCell ⟨r, 1, none⟩ (.int .i64 (p : Int))) r A n c xs p err := ⟨h.1.set_ 1 _, h.rd_set 1 _⟩
theorem Rdr.below (h : Rdr w r A n c xs pos err) (hb : Below w.heap.size w w') : Rdr w' r A n c xs pos err := ⟨h.1.below hb h.1.lt, h.2.below hb⟩
theorem Only.refl (w : World) (r : Nat) : Only w w r := ⟨rfl, rfl, rfl, Nat.le_refl _, fun _ _ _ => rfl⟩
theorem Only.trans {a b c : World} (h : Only a b r) (k : Only b c r) : Only a c r :=
 ⟨k.os.trans h.os, k.tape.trans h.tape, k.output.trans h.output, Nat.le_trans h.size k.size, fun i hi hn => (k.block i (Nat.lt_of_lt_of_le hi h.size) hn).trans (h.block i hi hn)⟩
theorem Only.drewN {a w : World} (h : Only a w r) (q : Nat) : Only a (w.drewN q) r := ⟨h.os, h.tape, h.output, h.size, h.block⟩
theorem Only.setCell {a w : World} (h : Only a w r) (i : Nat) (u : Value) : Only a (w.setCell ⟨r, i, none⟩ u) r :=
 ⟨h.os, h.tape, h.output, by simpa [World.setCell] using h.size, fun k hk hn => (Below.heap_setCell w ⟨r, i, none⟩ u k (fun e => hn (by rw [e]))).trans (h.block k hk hn)⟩
theorem Only.of_below {a w : World} (h : Below a.heap.size a w) : Only a w r := ⟨h.os, h.tape, h.output, h.size, fun k hk _ => h.block k hk⟩
theorem Only.below {B : Nat} {a w w' : World} (h : Below B a w) (k : Only w w' r) (hB : B ≤ w.heap.size) (hr : B ≤ r) : Below B a w' :=
 h.grown k hB (fun i hi => by have := Option.some.inj hi; omega)
end
theorem newReader_any (A : Option Addr) (n c : Nat) (xs : List UInt8) (w : World) (hr : Rd w A n xs) (hl : n ≤ 140737488355328) :
 Calls Tryz.prog 152 #[.slice A n c] w fun e w' => ∃ r A' c', e = .returned (.pointer (some ⟨r, 0, none⟩)) ∧ Rdr w' r A' n c' xs 0 0 ∧ n ≤ c' ∧ w.heap.size ≤ r ∧ Below w.heap.size w w' := by
 have HR := kept hr; clear hr; go_enter Tryz.func152, Tryz.ntmps152; go_wp2_with (first | (go_at_call 212; (with_reducible refine (clone_any _ _ _ _ _ HR.out hl).mono ?_); rintro e w1 ⟨A1, c1, rfl, hown1, hb1⟩; have HO1 := kept hown1; have HB1 := kept hb1; clear hown1 hb1))
 go_ret; have hblk := Blk.new w1 336 #[.slice A1 n c1, .int .i64 0, .int .i64 0]; exact ⟨w1.heap.size, A1, c1, rfl, ⟨hblk, (Rd.of_own HO1.out).alloc _⟩, own_cap HO1.out, HB1.out.size, HB1.out.alloc HB1.out.size _⟩
theorem stopped_no (r : Nat) (A : Option Addr) (n c : Nat) (xs : List UInt8) (pos : Nat) (w : World) (h : Rdr w r A n c xs pos 0) :
 Calls Tryz.prog 220 #[.pointer (some ⟨r, 0, none⟩)] w fun e w' => e = .returned (.bool false) ∧ w = w' := by
 have he := h.error; clear h; go_enter Tryz.func220, Tryz.ntmps220; go_wp2; go_ret; exact ⟨rfl, rfl⟩
theorem stopped_yes (r : Nat) (A : Option Addr) (n c : Nat) (xs : List UInt8) (pos : Nat) (err : Int) (w : World) (h : Rdr w r A n c xs pos err) (hne : err ≠ 0) :
 Calls Tryz.prog 220 #[.pointer (some ⟨r, 0, none⟩)] w fun e w' => e = .returned (.bool true) ∧ w = w' := by
 have he := h.error; have hb : (err != 0) = true := by simp [hne]
 clear h hne; go_enter Tryz.func220, Tryz.ntmps220; go_wp2; go_ret; exact ⟨rfl, rfl⟩
theorem at_any (r : Nat) (A : Option Addr) (n c : Nat) (xs : List UInt8) (pos : Nat) (err : Int) (w : World) (h : Rdr w r A n c xs pos err) :
 Calls Tryz.prog 155 #[.pointer (some ⟨r, 0, none⟩)] w fun e w' => e = .returned (.int .i64 (pos : Int)) ∧ w = w' := by
 have he := h.place; clear h; go_enter Tryz.func155, Tryz.ntmps155; go_wp2; go_ret; exact ⟨rfl, rfl⟩
def endE (n pos : Nat) (err : Int) : Int := if err ≠ 0 then err else if pos < n then 5 else 0
theorem endR_any (r : Nat) (A : Option Addr) (n c : Nat) (xs : List UInt8) (pos : Nat) (err : Int) (w : World) (h : Rdr w r A n c xs pos err) (hl : n ≤ 140737488355328) (hp : pos ≤ n) :
 Calls Tryz.prog 156 #[.pointer (some ⟨r, 0, none⟩)] w fun e w' => e = .returned (.int .i64 (endE n pos err)) ∧ Hid (∃ q, w' = w.drewN q) := by
 have h0 := h.slice; have h1 := h.place; have h2 := h.error; clear h; by_cases hne : err = 0
 · subst hne; by_cases hlt : pos < n
   · have hE : Hid (endE n pos 0 = 5) := by show _ = _; simp [endE, hlt]
     have hd : decide (pos < n) = true := by simp [hlt]
     go_enter Tryz.func156, Tryz.ntmps156; go_wp2
     go_quiet (fail)
     go_wp2; go_ret; exact ⟨ret_int (by rw [hE.out]), ⟨_, rfl⟩⟩
   · have hE : Hid (endE n pos 0 = 0) := by show _ = _; simp [endE, hlt]
     have hd : decide (pos < n) = false := by simp; omega
     go_enter Tryz.func156, Tryz.ntmps156; go_wp2
     go_quiet (fail)
     go_wp2; go_ret; exact ⟨ret_int (by rw [hE.out]), ⟨_, rfl⟩⟩
 · have hE : Hid (endE n pos err = err) := by show _ = _; simp [endE, hne]
   have hb : (err != 0) = true := by simp [hne]
   clear hne; go_enter Tryz.func156, Tryz.ntmps156; go_wp2; go_ret; exact ⟨ret_int (by rw [hE.out]), ⟨0, rfl⟩⟩
theorem turn {P : Program} {f : FuncId} {args : Array Value} {w : World} {v : Value} (h : Calls P f args w fun e w' => e = .returned v ∧ w = w') : Calls P f args w fun e w' => e = .returned v ∧ w' = w :=
 h.mono fun _ _ ⟨a, b⟩ => ⟨a, b.symm⟩
theorem num_stopped (r : Nat) (A : Option Addr) (n c : Nat) (xs : List UInt8) (pos : Nat) (err size : Int) (w : World) (h : Rdr w r A n c xs pos err) (hne : err ≠ 0) :
 Calls Tryz.prog 213 #[.pointer (some ⟨r, 0, none⟩), .int .i64 size] w fun e w' => e = .returned (.int .u64 0) ∧ w = w' := by
 have HS := kept (stopped_yes r A n c xs pos err w h hne); clear h hne; go_enter Tryz.func213, Tryz.ntmps213; go_wp2_with (first | (go_at_call 220; (with_reducible refine (HS.out).mono ?_); rintro e w' ⟨rfl, rfl⟩))
 go_ret; exact ⟨rfl, rfl⟩
theorem num_bad (r : Nat) (A : Option Addr) (n c : Nat) (xs : List UInt8) (pos : Nat) (size v e0 : Int) (w : World) (h : Rdr w r A n c xs pos 0) (he : e0 ≠ 0)
 (hg : ∀ W, Rd W A n xs → Calls Tryz.prog 210 #[.slice A n c, .int .i64 (pos : Int), .int .i64 size] W fun e w' => e = .returned (.tuple #[.int .u64 v, .int .i64 e0]) ∧ W = w') :
 Calls Tryz.prog 213 #[.pointer (some ⟨r, 0, none⟩), .int .i64 size] w fun e w' => e = .returned (.int .u64 0) ∧ Hid (Rdr w' r A n c xs pos e0 ∧ Only w w' r) := by
 have HS := kept (stopped_no r A n c xs pos w h); have HG := kept hg; have HRD := kept h.2; have h0 := h.slice; have h1 := h.place; have h2 := h.error; have h3 := h.frozen 2; have hb : (e0 != 0) = true := by simp [he]
 have HP := fun q => kept ((h.drewN q).set_err e0)
 have HO := fun q => kept (((Only.refl w r).drewN q).setCell 2 (.int .i64 e0))
 clear h hg he; go_enter Tryz.func213, Tryz.ntmps213; go_wp2_with fail
 with_reducible refine HS.out.mono ?_
 rintro e w' ⟨rfl, rfl⟩; go_wp2
 go_quiet ((go_at_call 210; exact Calls.quiet_of_same (turn (HG.out _ (HRD.out.drewN _)))))
 go_wp2; go_ret; exact ⟨rfl, (HP _).out, (HO _).out⟩
theorem num_ok (r : Nat) (A : Option Addr) (n c : Nat) (xs : List UInt8) (pos size : Nat) (w : World) (h : Rdr w r A n c xs pos 0) (hl : n ≤ 140737488355328) (h1 : 1 ≤ size) (h2 : size ≤ 8) (hp : pos + size ≤ n) :
 Calls Tryz.prog 213 #[.pointer (some ⟨r, 0, none⟩), .int .i64 (size : Int)] w fun e w' => e = .returned (.int .u64 ((num (part xs pos size) 0 : Nat) : Int)) ∧ Hid (Rdr w' r A n c xs (pos + size) 0 ∧ Only w w' r) := by
 have HS := kept (stopped_no r A n c xs pos w h); have HG := fun W (hr : Rd W A n xs) => kept (get_ok A n c pos size xs W h1 h2 hr hl hp)
 have HRD := kept h.2; have g0 := h.slice; have g1 := h.place; have g2 := h.error; have g3 := h.frozen 1; have HP := fun q => kept ((h.drewN q).set_pos (pos + size))
 have HO := fun q u => kept (((Only.refl w r).drewN q).setCell 1 u)
 have HC : Hid (((pos + size : Nat) : Int) = (pos : Int) + (size : Int)) := by show _ = _; simp
 clear h; go_enter Tryz.func213, Tryz.ntmps213; go_wp2_with fail
 with_reducible refine HS.out.mono ?_
 rintro e w' ⟨rfl, rfl⟩; go_wp2
 go_quiet ((go_at_call 210; exact Calls.quiet_of_same (turn (HG _ (HRD.out.drewN _)).out)))
 go_wp2; go_ret; refine ⟨rfl, ?_, (HO _ _).out⟩; rw [← HC.out]; exact (HP _).out
end Go.Proofs.YtcapcobkildmcaaGreatDoor
end
