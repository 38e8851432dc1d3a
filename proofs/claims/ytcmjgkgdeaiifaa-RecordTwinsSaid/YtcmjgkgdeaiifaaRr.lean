/-
  The document's reader: its block, its state as plain data, and what Num and Bytes answer from any state.
-/
import Derived.Test.YtcmjgkgdeaiifaaRs
import Derived.Test.YtcmjgkgdeaiifaaHnd
namespace Go.Proofs.Ytcmjgkgdeaiifaa
open Go.ChangeShapes Go.WideShapes Go.ChangeAt Go.RowKit
set_option linter.unusedVariables false
attribute [local go_sem ↓] Go.wp_at_zero Go.wp_at_succ

/-- Block r is the document's reader over the slice A that reads as xs, at the place pos, with this error. -/
def Rdf (w : World) (r : Nat) (A : Option Addr) (n c : Nat) (xs : List UInt8) (pos : Nat) (err : Int) : Prop :=
  Blk w r 56 [.slice A n c, .int .i64 (pos : Int), .int .i64 err] ∧ Rd w A n xs
section
variable {w w' : World} {r : Nat} {A : Option Addr} {n c : Nat} {xs : List UInt8} {pos : Nat} {err : Int}
theorem Rdf.slice (h : Rdf w r A n c xs pos err) : w.cell? ⟨r, 0, none⟩ = some (.slice A n c) := h.1.cell 0
theorem Rdf.place (h : Rdf w r A n c xs pos err) : w.cell? ⟨r, 1, none⟩ = some (.int .i64 (pos : Int)) := h.1.cell 1
theorem Rdf.error (h : Rdf w r A n c xs pos err) : w.cell? ⟨r, 2, none⟩ = some (.int .i64 err) := h.1.cell 2
theorem Rdf.frozen (h : Rdf w r A n c xs pos err) (i : Nat) : w.frozen? ⟨r, i, none⟩ = false := h.1.frozen i
theorem Rdf.drewN (h : Rdf w r A n c xs pos err) (q : Nat) : Rdf (w.drewN q) r A n c xs pos err := h
theorem Rdf.apart (h : Rdf w r A n c xs pos err) {a : Addr} {j : Nat} {x : UInt8} (hc : w.cell? (a.add j) = some (byteV x)) : a.block ≠ r := by
  intro hb
  have hs := World.cell?_spot hc
  have hb' : (a.add j).block = r := by rw [add_block]; exact hb
  generalize haddr : a.add j = ad at hc hs hb'
  obtain ⟨b, o, s⟩ := ad
  simp only at hs hb'
  subst hs hb'
  rw [h.1.cell o] at hc
  rcases o with _ | _ | _ | o <;> simp [byteV] at hc
theorem Rdf.rd_other (h : Rdf w r A n c xs pos err) {A' : Option Addr} {m : Nat} {ys : List UInt8} (hr : Rd w A' m ys) (i : Nat) (u : Value) : Rd (w.setCell ⟨r, i, none⟩ u) A' m ys := by
  refine ⟨hr.1, fun hn => ?_⟩
  obtain ⟨a, e, hc⟩ := hr.2 hn
  refine ⟨a, e, fun j hj => ?_⟩
  have hb := h.apart (hc j hj)
  rw [World.cell?_setCell_other w ⟨r, i, none⟩ (a.add j) u (fun e => hb (by have := congrArg Addr.block e; rw [add_block] at this; exact this.symm ▸ rfl))]
  exact hc j hj
theorem Rdf.rd_set (h : Rdf w r A n c xs pos err) (i : Nat) (u : Value) : Rd (w.setCell ⟨r, i, none⟩ u) A n xs := h.rd_other h.2 i u
theorem Rdf.set_err (h : Rdf w r A n c xs pos err) (e : Int) : Rdf (w.setCell ⟨r, 2, none⟩ (.int .i64 e)) r A n c xs pos e := ⟨h.1.set_ 2 _, h.rd_set 2 _⟩
theorem Rdf.set_pos (h : Rdf w r A n c xs pos err) (p : Nat) : Rdf (w.setCell ⟨r, 1, none⟩ (.int .i64 (p : Int))) r A n c xs p err := ⟨h.1.set_ 1 _, h.rd_set 1 _⟩
theorem Rdf.below (h : Rdf w r A n c xs pos err) (hb : Below w.heap.size w w') : Rdf w' r A n c xs pos err := ⟨h.1.below hb h.1.lt, h.2.below hb⟩
end
def RF (w : World) (r : Nat) (A : Option Addr) (n c : Nat) (xs : List UInt8) (s : Rst) : Prop := Rdf w r A n c xs s.1 s.2 ∧ s.1 ≤ n ∧ (s.2 = 0 ∨ s.2 = 3) ∧ n ≤ c ∧ n ≤ 140737488355328
section
variable {w w' : World} {r g : Nat} {A : Option Addr} {n c : Nat} {xs : List UInt8} {s : Rst} {t : TypeId} {cs : List Value}
theorem RF.below (h : RF w r A n c xs s) (hb : Below w.heap.size w w') : RF w' r A n c xs s := ⟨h.1.below hb, h.2⟩
theorem RF.drewN (h : RF w r A n c xs s) (q : Nat) : RF (w.drewN q) r A n c xs s := ⟨h.1.drewN q, h.2⟩
theorem RF.lt (h : RF w r A n c xs s) : r < w.heap.size := h.1.1.lt
theorem RF.len_ (h : RF w r A n c xs s) : xs.length = n := h.1.2.1
theorem RF.set_ (h : RF w r A n c xs s) (hg : r ≠ g) (ha : apartA A n g) (i : Nat) (u : Value) : RF (w.setCell ⟨g, i, none⟩ u) r A n c xs s :=
  ⟨⟨h.1.1.far hg u, h.1.2.grown ha ((Only.refl w g).setCell i u)⟩, h.2⟩
theorem RF.apart (h : RF w r A n c xs s) (hg : w.heap.size ≤ g) : apartA A n g := h.1.2.fresh hg
theorem RF.alloc (h : RF w r A n c xs s) (o : Obj) : RF (w.alloc o) r A n c xs s := h.below ((Below.refl _ _).alloc (Nat.le_refl _) o)
end
theorem refNum_any (r : Nat) (A : Option Addr) (n c : Nat) (xs : List UInt8) (s : Rst) (k : Nat) (w : World) (h : RF w r A n c xs s) (h1 : 1 ≤ k) (h2 : k ≤ 8) :
    Calls Try.prog 37 #[.pointer (some ⟨r, 0, none⟩), .int .i64 (k : Int)] w fun e w' => e = .returned (.int .u64 (((rnum xs k s).1 : Nat) : Int)) ∧ Hid (RF w' r A n c xs (rnum xs k s).2 ∧ Only w w' r) := by
  obtain ⟨pos, err⟩ := s
  have hl := h.len_
  obtain ⟨hr, hp, he, hc, hb⟩ := h
  simp only at hr hp he
  have e0 := hr.slice
  have e1 := hr.place
  have e2 := hr.error
  have f1 := hr.frozen 1
  have f2 := hr.frozen 2
  by_cases h0 : err = 0
  · subst h0
    by_cases hk : pos + k ≤ n
    · simp only [rnum, hl, hk, if_true, ne_eq, not_true_eq_false, if_false]
      have HG := fun W (hr : Rd W A n xs) => kept (refGet_ok A n c pos k xs W h1 h2 hr hb hk)
      have HRD := kept hr.2
      have HP := fun q => kept ((((hr.drewN q).set_err 0).set_pos (pos + k)))
      have HO := fun q u => kept (((((Only.refl w r).drewN q).setCell 2 (.int .i64 0))).setCell 1 u)
      have HC : Hid (((pos + k : Nat) : Int) = (pos : Int) + (k : Int)) := by show _ = _; simp
      have HM := kept (And.intro hk (And.intro hc hb))
      have hw : IntKind.i64.wrap ((pos : Int) + (k : Int)) = (pos : Int) + (k : Int) := IntWalk.i64_in _ ⟨by omega, by omega⟩
      clear hr hl hc hp he
      go_enter Try.func37, Try.ntmps37
      go_wp2
      go_quiet ((go_at_call 46; exact Calls.quiet_of_same (turn (HG _ (HRD.out.drewN _)).out)))
      go_wp2
      go_ret
      refine ⟨rfl, ⟨?_, HM.out.1, .inl rfl, HM.out.2.1, HM.out.2.2⟩, (HO _ _).out⟩
      rw [← HC.out]
      exact (HP _).out
    · simp only [rnum, hl, hk, ne_eq, not_true_eq_false, if_false]
      have HG := fun W => kept (refGet_short A n c (pos : Int) (k : Int) W (by omega) (by omega) hb (.inr (by omega)) (by omega))
      have HP := fun q => kept ((hr.drewN q).set_err 3)
      have HO := fun q => kept ((((Only.refl w r).drewN q).setCell 2 (.int .i64 3)))
      have HM := kept (And.intro hp (And.intro hc hb))
      clear hr hl hc hp he
      go_enter Try.func37, Try.ntmps37
      go_wp2
      go_quiet ((go_at_call 46; exact Calls.quiet_of_same (turn (HG _).out)))
      go_wp2
      go_ret
      exact ⟨rfl, ⟨(HP _).out, HM.out.1, .inr rfl, HM.out.2.1, HM.out.2.2⟩, (HO _).out⟩
  · simp only [rnum, ne_eq, h0, not_false_eq_true, if_true]
    have HR := kept (And.intro hr (And.intro hp (And.intro he (And.intro hc hb))))
    have hne : (err != 0) = true := by simp [h0]
    clear hr hl hc hp he h0
    go_enter Try.func37, Try.ntmps37
    go_wp2
    go_ret
    exact ⟨rfl, HR.out, Only.refl _ _⟩
theorem refNum1 (r : Nat) (A : Option Addr) (n c : Nat) (xs : List UInt8) (s : Rst) (w : World) (h : RF w r A n c xs s) :
    Calls Try.prog 37 #[.pointer (some ⟨r, 0, none⟩), .int .i64 1] w fun e w' => e = .returned (.int .u64 (((rnum xs 1 s).1 : Nat) : Int)) ∧ Hid (RF w' r A n c xs (rnum xs 1 s).2 ∧ Only w w' r) := refNum_any r A n c xs s 1 w h (by omega) (by omega)
theorem refNum2 (r : Nat) (A : Option Addr) (n c : Nat) (xs : List UInt8) (s : Rst) (w : World) (h : RF w r A n c xs s) :
    Calls Try.prog 37 #[.pointer (some ⟨r, 0, none⟩), .int .i64 2] w fun e w' => e = .returned (.int .u64 (((rnum xs 2 s).1 : Nat) : Int)) ∧ Hid (RF w' r A n c xs (rnum xs 2 s).2 ∧ Only w w' r) := refNum_any r A n c xs s 2 w h (by omega) (by omega)
theorem refNum4 (r : Nat) (A : Option Addr) (n c : Nat) (xs : List UInt8) (s : Rst) (w : World) (h : RF w r A n c xs s) :
    Calls Try.prog 37 #[.pointer (some ⟨r, 0, none⟩), .int .i64 4] w fun e w' => e = .returned (.int .u64 (((rnum xs 4 s).1 : Nat) : Int)) ∧ Hid (RF w' r A n c xs (rnum xs 4 s).2 ∧ Only w w' r) := refNum_any r A n c xs s 4 w h (by omega) (by omega)
theorem refNum8 (r : Nat) (A : Option Addr) (n c : Nat) (xs : List UInt8) (s : Rst) (w : World) (h : RF w r A n c xs s) :
    Calls Try.prog 37 #[.pointer (some ⟨r, 0, none⟩), .int .i64 8] w fun e w' => e = .returned (.int .u64 (((rnum xs 8 s).1 : Nat) : Int)) ∧ Hid (RF w' r A n c xs (rnum xs 8 s).2 ∧ Only w w' r) := refNum_any r A n c xs s 8 w h (by omega) (by omega)
theorem refBytes_any (r : Nat) (A : Option Addr) (n c : Nat) (xs : List UInt8) (s : Rst) (m : Nat) (w : World) (h : RF w r A n c xs s) (hm : m ≤ 140737488355328) :
    Calls Try.prog 47 #[.pointer (some ⟨r, 0, none⟩), .int .i64 (m : Int)] w fun e w' => ∃ A' n' c', e = .returned (.slice A' n' c') ∧ Hid (Rd w' A' n' (rbytes xs m s).1 ∧ New A' n' w.heap.size ∧ n' ≤ c' ∧ n' ≤ m) ∧ Hid (RF w' r A n c xs (rbytes xs m s).2 ∧ Only w w' r) := by
  obtain ⟨pos, err⟩ := s
  have hl := h.len_
  obtain ⟨hr, hp, he, hc, hb⟩ := h
  simp only at hr hp he
  have e0 := hr.slice
  have e1 := hr.place
  have e2 := hr.error
  have f1 := hr.frozen 1
  have f2 := hr.frozen 2
  have hd0 : decide ((m : Int) < 0) = false := by simp
  by_cases h0 : err = 0
  · subst h0
    by_cases hk : pos + m ≤ n
    · simp only [rbytes, hl, hk, if_true, ne_eq, not_true_eq_false, if_false]
      have hd1 : decide ((n : Int) - (pos : Int) < (m : Int)) = false := by simp; omega
      have HH := kept hr
      have HM := kept (And.intro hk (And.intro hc (And.intro hb hm)))
      have hmid := hr.2.mid hk hc
      obtain ⟨X, hX⟩ : ∃ X, (if c = pos then A else A.map (fun x => x.add pos)) = X := ⟨_, rfl⟩
      rw [hX] at hmid
      have HMID := kept hmid
      have HLT := kept hr.1.lt
      have HC0 := kept e0
      have HC1 := kept e1
      have HF := kept f1
      have hq1 : ((pos : Int) + (m : Int)).toNat = pos + m := by omega
      have hq2 : IntKind.i64.wrap ((pos : Int) + (m : Int)) = (pos : Int) + (m : Int) := IntWalk.i64_in _ ⟨by omega, by omega⟩
      have hi1 : (0 : Int) ≤ (pos : Int) := by omega
      have hi2 : (pos : Int) ≤ (pos : Int) + (m : Int) := by omega
      have hi3 : (pos : Int) + (m : Int) ≤ (c : Int) := by omega
      have hi4 : IntKind.i64.wrap ((n : Int) - (pos : Int)) = (n : Int) - (pos : Int) := IntWalk.i64_in _ ⟨by omega, by omega⟩
      clear hr hl hc hp he hmid hk
      go_enter Try.func47, Try.ntmps47
      go_wp2
      go_quiet (fail)
      go_wp2
      go_region_held3 (fun w' => w'.cell? ⟨r, 0, none⟩ = some (.slice A n c) ∧ w'.cell? ⟨r, 1, none⟩ = some (.int .i64 (pos : Int))) (go_keep) (first | (go_at_call 18; (with_reducible refine (twin_any _ _ _ (part xs pos m) _ (HMID.out.drewN _) HM.out.2.2.2).mono ?_); rintro e w1 ⟨A1, c1, rfl, hown1, hb1⟩; have k0 : w1.cell? ⟨r, 0, none⟩ = some (.slice A n c) := (hb1.cell (p := ⟨r, 0, none⟩) HLT.out).trans HC0.out; have k1 : w1.cell? ⟨r, 1, none⟩ = some (.int .i64 (pos : Int)) := (hb1.cell (p := ⟨r, 1, none⟩) HLT.out).trans HC1.out; have k2 : w1.frozen? ⟨r, 1, none⟩ = false := (hb1.frozen (p := ⟨r, 1, none⟩) HLT.out).trans HF.out; have HO1 := kept (Rd.of_own hown1); have HNW := kept (And.intro (new_of_own hown1) (own_cap hown1)); have HB1 := kept ((HH.out.drewN _).below hb1); have HOW := kept (Only.of_below (r := r) hb1); clear hown1 hb1))
      clear hq1
      have HP := kept (HB1.out.set_pos (pos + m))
      have HC : Hid (((pos + m : Nat) : Int) = (pos : Int) + (m : Int)) := Int.natCast_add pos m
      have HR2 := fun u => kept (HB1.out.rd_other HO1.out 1 u)
      have HO2 := fun u => kept (((Only.refl w r).drewN _ |>.trans HOW.out).setCell 1 u)
      go_wp2
      go_ret
      refine ⟨A1, m, c1, rfl, ⟨(HR2 _).out, HNW.out.1, HNW.out.2, Nat.le_refl _⟩, ⟨?_, HM.out.1, .inl rfl, HM.out.2.1, HM.out.2.2.1⟩, (HO2 _).out⟩
      rw [← HC.out]
      exact HP.out
    · simp only [rbytes, hl, hk, ne_eq, not_true_eq_false, if_false]
      have hd1 : decide ((n : Int) - (pos : Int) < (m : Int)) = true := by simp; omega
      have hi4 : IntKind.i64.wrap ((n : Int) - (pos : Int)) = (n : Int) - (pos : Int) := IntWalk.i64_in _ ⟨by omega, by omega⟩
      have HP := fun q => kept ((hr.drewN q).set_err 3)
      have HO := fun q => kept ((((Only.refl w r).drewN q).setCell 2 (.int .i64 3)))
      have HM := kept (And.intro hp (And.intro hc hb))
      clear hr hl hc hp he hk
      go_enter Try.func47, Try.ntmps47
      go_wp2
      go_quiet (fail)
      go_wp2
      go_ret
      exact ⟨none, 0, 0, rfl, ⟨Rd.nil_ _ _, New.nil_ _ _, Nat.le_refl _, Nat.zero_le _⟩, ⟨(HP _).out, HM.out.1, .inr rfl, HM.out.2.1, HM.out.2.2⟩, (HO _).out⟩
  · simp only [rbytes, ne_eq, h0, not_false_eq_true, if_true]
    have HR := kept (And.intro hr (And.intro hp (And.intro he (And.intro hc hb))))
    have hne : (err != 0) = true := by simp [h0]
    clear hr hl hc hp he h0
    go_enter Try.func47, Try.ntmps47
    go_wp2
    go_ret
    exact ⟨none, 0, 0, rfl, ⟨Rd.nil_ _ _, New.nil_ _ _, Nat.le_refl _, Nat.zero_le _⟩, HR.out, Only.refl _ _⟩
end Go.Proofs.Ytcmjgkgdeaiifaa
