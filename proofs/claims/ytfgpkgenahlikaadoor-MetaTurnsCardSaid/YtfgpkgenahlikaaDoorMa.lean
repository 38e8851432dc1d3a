/-
  A meta as plain data, what is right, its bytes; the small functions of package meta, call by call.
-/
import Derived.Test.YtfgpkgenahlikaaDoorRg
namespace Go.Proofs.YtfgpkgenahlikaaDoor
open Go.ChangeShapes Go.WideShapes Go.ChangeAt Go.RowKit
set_option linter.unusedVariables false

structure Mt where
  txn : Nat
  root : Int
  spare : Int
  size : Int
  deriving DecidableEq
abbrev Mt.val (m : Mt) : Value := .agg #[.int .u64 (m.txn : Int), .int .i64 m.root, .int .i64 m.spare, .int .i64 m.size]
def zeroMt : Mt := ⟨0, 0, 0, 0⟩
def beginsB (z i : Int) : Bool := decide (i = 0) || (decide (2 ≤ i) && decide (i < z))
def rightM (m : Mt) : Bool := decide (8 ≤ m.size) && decide (m.size ≤ 1024) && beginsB m.size m.root && beginsB m.size m.spare
def headM (t r s z : Nat) : List UInt8 := [9] ++ be t 8 ++ [84, 69, 82, 82, 1] ++ be r 4 ++ be s 4 ++ be z 4
def bodyN (t r s z : Nat) : List UInt8 := headM t r s z ++ List.replicate 218 0 ++ be t 8
def bodyM (m : Mt) : List UInt8 := bodyN m.txn m.root.toNat m.spare.toNat m.size.toNat
theorem headM_length (t r s z : Nat) : (headM t r s z).length = 26 := by simp [headM, be_length]
theorem bodyN_length (t r s z : Nat) : (bodyN t r s z).length = 252 := by
  unfold bodyN
  rw [List.length_append, List.length_append, headM_length, List.length_replicate, be_length]
theorem bodyM_length (m : Mt) : (bodyM m).length = 252 := bodyN_length _ _ _ _
theorem rightM_nat {m : Mt} (h : rightM m = true) : ∃ r s z : Nat, m = ⟨m.txn, (r : Int), (s : Int), (z : Int)⟩ ∧ r ≤ 1024 ∧ s ≤ 1024 ∧ z ≤ 1024 ∧ bodyM m = bodyN m.txn r s z := by
  obtain ⟨t, r, s, z⟩ := m
  unfold rightM beginsB at h
  simp only [Bool.and_eq_true, Bool.or_eq_true, decide_eq_true_eq] at h
  refine ⟨r.toNat, s.toNat, z.toNat, ?_, by omega, by omega, by omega, rfl⟩
  rw [show ((r.toNat : Nat) : Int) = r by omega, show ((s.toNat : Nat) : Int) = s by omega, show ((z.toNat : Nat) : Int) = z by omega]

theorem bel_to {w w1 w2 : World} (h : Below w1.heap.size w1 w2) (hb : Below w.heap.size w w1) : Below w.heap.size w w2 := hb.trans (h.mono hb.size)
/-- A meta's box: its four cells. -/
abbrev Fou (W : World) (b : Nat) (t r s z : Int) : Prop :=
  W.cell? ⟨b, 0, none⟩ = some (.int .u64 t) ∧ W.cell? ⟨b, 1, none⟩ = some (.int .i64 r) ∧ W.cell? ⟨b, 2, none⟩ = some (.int .i64 s) ∧ W.cell? ⟨b, 3, none⟩ = some (.int .i64 z)
/-- What was there reads as it did. -/
def Keeps (w w' : World) : Prop := w.heap.size ≤ w'.heap.size ∧ ∀ p : Addr, p.block < w.heap.size → w'.cell? p = w.cell? p
theorem Keeps.refl (w : World) : Keeps w w := ⟨Nat.le_refl _, fun _ _ => rfl⟩
theorem Keeps.trans {a b c : World} (h : Keeps a b) (k : Keeps b c) : Keeps a c := ⟨Nat.le_trans h.1 k.1, fun p hp => (k.2 p (Nat.lt_of_lt_of_le hp h.1)).trans (h.2 p hp)⟩
theorem Keeps.alloc (w : World) (o : Obj) : Keeps w (w.alloc o) := ⟨by simp, fun p hp => World.cell?_alloc_lt w o p hp⟩
theorem Keeps.of_below {w w' : World} (h : Below w.heap.size w w') : Keeps w w' := ⟨h.size, fun p hp => h.cell hp⟩
theorem Keeps.drewN (w : World) (q : Nat) : Keeps w (w.drewN q) := ⟨Nat.le_refl _, fun _ _ => rfl⟩
theorem Keeps.drew (w : World) : Keeps w w.drew := ⟨Nat.le_refl _, fun _ _ => rfl⟩
theorem Keeps.cell_ {w w' : World} (h : Keeps w w') {p : Addr} {v : Value} (hc : w.cell? p = some v) : w'.cell? p = some v := (h.2 p (World.block_lt_of_cell? w _ hc)).trans hc
theorem Rd.keeps {w w' : World} {A : Option Addr} {n : Nat} {xs : List UInt8} (h : Rd w A n xs) (k : Keeps w w') : Rd w' A n xs := h.keep k.2
theorem Fou.keeps {w w' : World} {b : Nat} {t r s z : Int} (h : Fou w b t r s z) (k : Keeps w w') : Fou w' b t r s z := ⟨k.cell_ h.1, k.cell_ h.2.1, k.cell_ h.2.2.1, k.cell_ h.2.2.2⟩
theorem Blk.fou {w : World} {b : Nat} {ty : TypeId} {t r s z : Int} (h : Blk w b ty [.int .u64 t, .int .i64 r, .int .i64 s, .int .i64 z]) : Fou w b t r s z := ⟨h.cell 0, h.cell 1, h.cell 2, h.cell 3⟩
theorem fou_new (w : World) (ty : TypeId) (t r s z : Int) : Fou (w.alloc (.cells #[.int .u64 t, .int .i64 r, .int .i64 s, .int .i64 z] ty)) w.heap.size t r s z := (Blk.new w ty #[.int .u64 t, .int .i64 r, .int .i64 s, .int .i64 z]).fou

theorem begins_any (t r s z i : Int) (w : World) (b : Bool) (hb : beginsB z i = b) :
    Calls Tryd.prog 59 #[.agg #[.int .u64 t, .int .i64 r, .int .i64 s, .int .i64 z], .int .i64 i] w fun e w' => e = .returned (.bool b) ∧ Below w.heap.size w w' := by
  subst hb
  go_enter Tryd.func59, Tryd.ntmps59
  go_wp2
  all_goals
    go_ret
    exact ⟨ret_bool (by rw [Bool.eq_iff_iff]; simp [beginsB] <;> omega), (Below.refl _ _).alloc (Nat.le_refl _) _⟩
theorem right_m (m : Mt) (w : World) :
    Calls Tryd.prog 28 #[m.val] w fun e w' => e = .returned (.bool (rightM m)) ∧ Below w.heap.size w w' := by
  obtain ⟨t, r, s, z⟩ := m
  have HR : Hid (rightM ⟨t, r, s, z⟩ = (decide (8 ≤ z) && decide (z ≤ 1024) && beginsB z r && beginsB z s)) := rfl
  have hc1 := fun w => kept (begins_any t r s z r w _ rfl)
  have hc2 := fun w => kept (begins_any t r s z s w _ rfl)
  have HF := kept (fou_new w 50 t r s z)
  have HB0 := kept ((Below.refl w.heap.size w).alloc (Nat.le_refl _) (.cells #[.int .u64 (t : Int), .int .i64 r, .int .i64 s, .int .i64 z] 50))
  generalize rightM ⟨t, r, s, z⟩ = o at HR
  generalize beginsB z r = b1 at HR hc1
  generalize beginsB z s = b2 at HR hc2
  by_cases h8 : z < 8
  · have HO : Hid (o = false) := by show _ = _; rw [HR.out]; simp; omega
    go_enter Tryd.func28, Tryd.ntmps28
    go_wp2
    go_ret
    exact ⟨ret_bool HO.out.symm, HB0.out⟩
  by_cases h9 : 1024 < z
  · have HO : Hid (o = false) := by show _ = _; rw [HR.out]; simp; omega
    have g1 : 8 ≤ z := by omega
    go_enter Tryd.func28, Tryd.ntmps28
    go_wp2
    go_ret
    exact ⟨ret_bool HO.out.symm, HB0.out⟩
  have HO : Hid (o = (b1 && b2)) := by show _ = _; rw [HR.out]; simp [show 8 ≤ z by omega, show z ≤ 1024 by omega]
  have g1 : 8 ≤ z := by omega
  have g2 : z ≤ 1024 := by omega
  clear h8 h9
  cases b1
  · go_enter Tryd.func28, Tryd.ntmps28
    go_wp2_with (first | (go_at_call 59; (with_reducible refine ((hc1 _).out).mono ?_); rintro e w1 ⟨rfl, hb1⟩; have HB1 := kept (bel_to hb1 HB0.out); clear hb1))
    go_ret
    exact ⟨ret_bool HO.out.symm, HB1.out⟩
  · go_enter Tryd.func28, Tryd.ntmps28
    go_wp2_with fail
    with_reducible refine (hc1 _).out.mono ?_
    rintro e w1 ⟨rfl, hb1⟩
    obtain ⟨n0, n1, n2, n3⟩ := HF.out.keeps (Keeps.of_below hb1)
    have HB1 := kept (bel_to hb1 HB0.out)
    clear hb1
    go_wp2_with (first | (go_at_call 59; (with_reducible refine ((hc2 _).out).mono ?_); rintro e w2 ⟨rfl, hb2⟩; have HB2 := kept (bel_to hb2 HB1.out); clear hb2))
    go_ret
    exact ⟨ret_bool (by rw [HO.out]; rfl), HB2.out⟩
theorem place_any (t : Nat) (r s z : Int) (w : World) (ht : t < 18446744073709551616) :
    Calls Tryd.prog 94 #[.agg #[.int .u64 (t : Int), .int .i64 r, .int .i64 s, .int .i64 z]] w fun e w' => e = .returned (.int .u64 ((t % 2 : Nat) : Int)) ∧ Below w.heap.size w w' := by
  go_enter Tryd.func94, Tryd.ntmps94
  go_wp2
  go_ret
  exact ⟨ret_int (by first | rfl | simp | omega), (Below.refl _ _).alloc (Nat.le_refl _) _⟩
theorem bytesEqual_any (A B : Option Addr) (n m c d : Nat) (xs ys : List UInt8) (w : World) (h1 : Rd w A n xs) (h2 : Rd w B m ys) (b : Bool) (hb : decide (xs = ys) = b) :
    Calls Tryd.prog 61 #[.slice A n c, .slice B m d] w fun e w' => e = .returned (.bool b) ∧ w = w' := by
  have c1 := h1.string (P := Tryd.prog) c 25 5 9 Tryd.underlying25 Tryd.underlying5 Tryd.underlying9
  have c2 := h2.string (P := Tryd.prog) d 25 5 9 Tryd.underlying25 Tryd.underlying5 Tryd.underlying9
  have hbb : ((strOf xs).toList == (strOf ys).toList) = b := by
    rw [strOf_toList, strOf_toList, ← hb]
    by_cases h : xs = ys
    · simp [h]
    · simp [h]
  clear hb h1 h2
  generalize strOf xs = s1 at c1 hbb
  generalize strOf ys = s2 at c2 hbb
  cases b <;> (go_enter Tryd.func61, Tryd.ntmps61; go_wp2; go_ret; exact ⟨rfl, rfl⟩)
theorem number_any (n s : Nat) (w : World) (h1 : 1 ≤ s) (h2 : s ≤ 8) (hn : n < 256 ^ s) :
    Calls Tryd.prog 56 #[.int .u64 (n : Int), .int .i64 (s : Int)] w fun e w' => ∃ A c, e = .returned (.slice A s c) ∧ w'.ownsRow w.heap.size 5 1 (.slice A s c) s (cellsOf (be n s)) ∧ Below w.heap.size w w' := by
  have HP := kept (put_ok n s w h1 h2 hn)
  clear hn
  go_enter Tryd.func56, Tryd.ntmps56
  go_wp2_with (first | (go_at_call 64; (with_reducible refine (HP.out).mono ?_); rintro e w1 ⟨A1, c1, rfl, hown, hb⟩; have HO := kept hown; have HB := kept hb; clear hown hb))
  go_ret
  exact ⟨A1, c1, rfl, HO.out, HB.out⟩
theorem number1 (w : World) : Calls Tryd.prog 56 #[.int .u64 9, .int .i64 1] w fun e w' => ∃ A c, e = .returned (.slice A 1 c) ∧ w'.ownsRow w.heap.size 5 1 (.slice A 1 c) 1 (cellsOf [9]) ∧ Below w.heap.size w w' := number_any 9 1 w (by omega) (by omega) (by omega)
theorem number8 (n : Nat) (w : World) (hn : n < 18446744073709551616) : Calls Tryd.prog 56 #[.int .u64 (n : Int), .int .i64 8] w fun e w' => ∃ A c, e = .returned (.slice A 8 c) ∧ w'.ownsRow w.heap.size 5 1 (.slice A 8 c) 8 (cellsOf (be n 8)) ∧ Below w.heap.size w w' := number_any n 8 w (by omega) (by omega) (by omega)
theorem number4 (n : Nat) (w : World) (hn : n ≤ 1024) : Calls Tryd.prog 56 #[.int .u64 (n : Int), .int .i64 4] w fun e w' => ∃ A c, e = .returned (.slice A 4 c) ∧ w'.ownsRow w.heap.size 5 1 (.slice A 4 c) 4 (cellsOf (be n 4)) ∧ Below w.heap.size w w' := number_any n 4 w (by omega) (by omega) (by omega)
theorem id_any (n : Nat) (w : World) (hn : n ≤ 1024) : Calls Tryd.prog 58 #[.int .i64 (n : Int)] w fun e w' => ∃ A c, e = .returned (.slice A 4 c) ∧ w'.ownsRow w.heap.size 5 1 (.slice A 4 c) 4 (cellsOf (be n 4)) ∧ Below w.heap.size w w' := by
  have HP := kept (number4 n w hn)
  go_enter Tryd.func58, Tryd.ntmps58
  go_wp2_with (first | (go_at_call 56; (with_reducible refine (HP.out).mono ?_); rintro e w1 ⟨A1, c1, rfl, hown, hb⟩; have HO := kept hown; have HB := kept hb; clear hown hb))
  go_ret
  exact ⟨A1, c1, rfl, HO.out, HB.out⟩
end Go.Proofs.YtfgpkgenahlikaaDoor
