/-
  Texts laid together: Rg Rs Fr Ma.
-/
import Derived.Test.YtdjcahhofonclaaGreatDoorBReader2
import Derived.Test.YtdjcahhofonclaaGreatDoorBPg
section
/-
  A reader's state as plain data, and what Num and Bytes answer from any state: one theorem each.
-/
namespace Go.Proofs.YtdjcahhofonclaaGreatDoor
open Go.ChangeShapes Go.WideShapes Go.ChangeAt Go.RowKit
set_option linter.unusedVariables false
attribute [local go_sem ↓] Go.wp_at_zero Go.wp_at_succ

/-- Where a reader is, and its error: 0 or 3. -/
abbrev Rst := Nat × Int
def rnum (xs : List UInt8) (k : Nat) (s : Rst) : Nat × Rst := if s.2 ≠ 0 then (0, s) else if s.1 + k ≤ xs.length then (num (part xs s.1 k) 0, (s.1 + k, 0)) else (0, (s.1, 3))
def rbytes (xs : List UInt8) (m : Nat) (s : Rst) : List UInt8 × Rst := if s.2 ≠ 0 then ([], s) else if s.1 + m ≤ xs.length then (part xs s.1 m, (s.1 + m, 0)) else ([], (s.1, 3))
def RS (w : World) (r : Nat) (A : Option Addr) (n c : Nat) (xs : List UInt8) (s : Rst) : Prop := Rdr w r A n c xs s.1 s.2 ∧ s.1 ≤ n ∧ (s.2 = 0 ∨ s.2 = 3) ∧ n ≤ c ∧ n ≤ 140737488355328
theorem rnum_lt (xs : List UInt8) (k : Nat) (s : Rst) : (rnum xs k s).1 < 256 ^ k := by
  unfold rnum
  split
  · exact Nat.pow_pos (by omega)
  · split
    · exact num_part_lt _ _ _ ‹_›
    · exact Nat.pow_pos (by omega)
theorem rbytes_len (xs : List UInt8) (m : Nat) (s : Rst) : (rbytes xs m s).1.length ≤ m := by
  unfold rbytes
  split
  · exact Nat.zero_le _
  · split
    · exact Nat.le_of_eq (part_length _ _ _ ‹_›)
    · exact Nat.zero_le _
section
variable {w w' : World} {r : Nat} {A : Option Addr} {n c : Nat} {xs : List UInt8} {s : Rst}
theorem RS.below (h : RS w r A n c xs s) (hb : Below w.heap.size w w') : RS w' r A n c xs s := ⟨h.1.below hb, h.2⟩
theorem RS.drewN (h : RS w r A n c xs s) (q : Nat) : RS (w.drewN q) r A n c xs s := ⟨h.1.drewN q, h.2⟩
theorem RS.lt (h : RS w r A n c xs s) : r < w.heap.size := h.1.1.lt
theorem RS.len_ (h : RS w r A n c xs s) : xs.length = n := h.1.2.1
end
/-- Num, from any state. -/
theorem num_any (r : Nat) (A : Option Addr) (n c : Nat) (xs : List UInt8) (s : Rst) (k : Nat) (w : World) (h : RS w r A n c xs s) (h1 : 1 ≤ k) (h2 : k ≤ 8) :
    Calls Tryz.prog 150 #[.pointer (some ⟨r, 0, none⟩), .int .i64 (k : Int)] w fun e w' => e = .returned (.int .u64 (((rnum xs k s).1 : Nat) : Int)) ∧ Hid (RS w' r A n c xs (rnum xs k s).2 ∧ Only w w' r) := by
  obtain ⟨pos, err⟩ := s
  have hl := h.len_
  obtain ⟨hr, hp, he, hc, hb⟩ := h
  simp only at hr hp he
  by_cases h0 : err = 0
  · subst h0
    by_cases hk : pos + k ≤ n
    · refine (num_ok r A n c xs pos k w hr hb h1 h2 hk).mono ?_
      rintro e w' ⟨rfl, hR, hO⟩
      simp only [rnum, hl, hk, if_true, ne_eq, not_true_eq_false, if_false]
      exact ⟨by first | trivial | rfl, ⟨hR, hk, .inl rfl, hc, hb⟩, hO⟩
    · refine (num_bad r A n c xs pos k 0 3 w hr (by decide) (fun W _ => get_short A n c pos k W (by omega) (by omega) hb (.inr (by omega)) (by omega))).mono ?_
      rintro e w' ⟨rfl, hR, hO⟩
      simp only [rnum, hl, hk, ne_eq, not_true_eq_false, if_false]
      exact ⟨by first | trivial | rfl, ⟨hR, hp, .inr rfl, hc, hb⟩, hO⟩
  · refine (num_stopped r A n c xs pos err k w hr h0).mono ?_
    rintro e w' ⟨rfl, rfl⟩
    simp only [rnum, ne_eq, h0, not_false_eq_true, if_true]
    exact ⟨by first | trivial | rfl, ⟨hr, hp, he, hc, hb⟩, Only.refl _ _⟩
theorem num1 (r : Nat) (A : Option Addr) (n c : Nat) (xs : List UInt8) (s : Rst) (w : World) (h : RS w r A n c xs s) :
    Calls Tryz.prog 150 #[.pointer (some ⟨r, 0, none⟩), .int .i64 1] w fun e w' => e = .returned (.int .u64 (((rnum xs 1 s).1 : Nat) : Int)) ∧ Hid (RS w' r A n c xs (rnum xs 1 s).2 ∧ Only w w' r) := num_any r A n c xs s 1 w h (by omega) (by omega)
theorem num2 (r : Nat) (A : Option Addr) (n c : Nat) (xs : List UInt8) (s : Rst) (w : World) (h : RS w r A n c xs s) :
    Calls Tryz.prog 150 #[.pointer (some ⟨r, 0, none⟩), .int .i64 2] w fun e w' => e = .returned (.int .u64 (((rnum xs 2 s).1 : Nat) : Int)) ∧ Hid (RS w' r A n c xs (rnum xs 2 s).2 ∧ Only w w' r) := num_any r A n c xs s 2 w h (by omega) (by omega)
theorem num4 (r : Nat) (A : Option Addr) (n c : Nat) (xs : List UInt8) (s : Rst) (w : World) (h : RS w r A n c xs s) :
    Calls Tryz.prog 150 #[.pointer (some ⟨r, 0, none⟩), .int .i64 4] w fun e w' => e = .returned (.int .u64 (((rnum xs 4 s).1 : Nat) : Int)) ∧ Hid (RS w' r A n c xs (rnum xs 4 s).2 ∧ Only w w' r) := num_any r A n c xs s 4 w h (by omega) (by omega)
theorem num8 (r : Nat) (A : Option Addr) (n c : Nat) (xs : List UInt8) (s : Rst) (w : World) (h : RS w r A n c xs s) :
    Calls Tryz.prog 150 #[.pointer (some ⟨r, 0, none⟩), .int .i64 8] w fun e w' => e = .returned (.int .u64 (((rnum xs 8 s).1 : Nat) : Int)) ∧ Hid (RS w' r A n c xs (rnum xs 8 s).2 ∧ Only w w' r) := num_any r A n c xs s 8 w h (by omega) (by omega)
/-- The slice lies in memory newer than these blocks. -/
def New (A : Option Addr) (n B : Nat) : Prop := ∀ g, g < B → apartA A n g
theorem New.nil_ (B c : Nat) : New none c B := fun g _ a e => by cases e
theorem new_of_own {w : World} {base : Nat} {e : TypeId} {A : Option Addr} {n c : Nat} {xs : List Value} (h : w.ownsRow base e 1 (.slice A n c) n xs) : New A n base := by
  intro g hg a e _ hh
  rcases h.2 with ⟨h0, _⟩ | ⟨g', cap, cur, hv, hb, _⟩
  · injection h0 with h0; rw [h0] at e; cases e
  · injection hv with hA; rw [hA] at e; cases e; simp only at hh; omega
theorem bytes_new (r : Nat) (A : Option Addr) (n c : Nat) (xs : List UInt8) (pos m : Nat) (w : World) (h : Rdr w r A n c xs pos 0) (hl : n ≤ 140737488355328) (hnc : n ≤ c) (hp : pos + m ≤ n) :
    Calls Tryz.prog 115 #[.pointer (some ⟨r, 0, none⟩), .int .i64 (m : Int)] w fun e w' => ∃ A' c', e = .returned (.slice A' m c') ∧ Hid (Rd w' A' m (part xs pos m) ∧ New A' m w.heap.size ∧ m ≤ c') ∧ Hid (Rdr w' r A n c xs (pos + m) 0 ∧ Only w w' r) := by
  have HS := kept (stopped_no r A n c xs pos w h)
  have HG := fun W => kept (holds_yes A n c pos m W hl hp)
  have HH := kept h
  have h0 := h.slice
  have h1 := h.place
  have h2 := h.error
  have h3 := h.frozen 1
  have hi1 : (0 : Int) ≤ (pos : Int) := by omega
  have hi2 : (pos : Int) ≤ (pos : Int) + (m : Int) := by omega
  have hi3 : (pos : Int) + (m : Int) ≤ (c : Int) := by omega
  clear h
  go_enter Tryz.func115, Tryz.ntmps115
  go_wp2_with fail
  with_reducible refine HS.out.mono ?_
  rintro e w' ⟨rfl, rfl⟩
  go_wp2
  go_quiet ((go_at_call 158; exact Calls.quiet_of_same (turn (HG _).out)))
  go_wp2
  have HM := kept (show m ≤ 140737488355328 by omega)
  have hmid := HH.out.2.mid hp hnc
  obtain ⟨X, hX⟩ : ∃ X, (if c = pos then A else A.map (fun x => x.add pos)) = X := ⟨_, rfl⟩
  rw [hX] at hmid
  have HMID := kept hmid
  clear hmid
  have HLT := kept HH.out.1.lt
  have HC0 := kept h0
  have HF := kept h3
  have HC1 := kept h1
  have hq1 : ((pos : Int) + (m : Int)).toNat = pos + m := by omega
  have hq2 : IntKind.i64.wrap ((pos : Int) + (m : Int)) = (pos : Int) + (m : Int) := IntWalk.i64_in _ ⟨by omega, by omega⟩
  go_region_held3 (fun w' => w'.cell? ⟨r, 0, none⟩ = some (.slice A n c) ∧ w'.cell? ⟨r, 1, none⟩ = some (.int .i64 (pos : Int))) (go_keep) (first | (go_at_call 149; (with_reducible refine (clone_any _ _ _ (part xs pos m) _ (HMID.out.drewN _) HM.out).mono ?_); rintro e w1 ⟨A1, c1, rfl, hown1, hb1⟩; have k0 : w1.cell? ⟨r, 0, none⟩ = some (.slice A n c) := (hb1.cell (p := ⟨r, 0, none⟩) HLT.out).trans HC0.out; have k1 : w1.cell? ⟨r, 1, none⟩ = some (.int .i64 (pos : Int)) := (hb1.cell (p := ⟨r, 1, none⟩) HLT.out).trans HC1.out; have k2 : w1.frozen? ⟨r, 1, none⟩ = false := (hb1.frozen (p := ⟨r, 1, none⟩) HLT.out).trans HF.out; have HO1 := kept (Rd.of_own hown1); have HNW := kept (And.intro (new_of_own hown1) (own_cap hown1)); have HB1 := kept ((HH.out.drewN _).below hb1); have HOW := kept (Only.of_below (r := r) hb1); clear hown1 hb1))
  clear hq1 hq2
  have HP := kept (HB1.out.set_pos (pos + m))
  have HC : Hid (((pos + m : Nat) : Int) = (pos : Int) + (m : Int)) := Int.natCast_add pos m
  have HR2 := fun u => kept (HB1.out.rd_other HO1.out 1 u)
  have HO2 := fun u => kept (((Only.refl w r).drewN _ |>.trans HOW.out).setCell 1 u)
  go_wp2
  go_ret
  refine ⟨A1, c1, rfl, ⟨(HR2 _).out, HNW.out⟩, ?_, (HO2 _).out⟩
  rw [← HC.out]
  exact HP.out
/-- Bytes, from any state. -/
theorem bytes_any (r : Nat) (A : Option Addr) (n c : Nat) (xs : List UInt8) (s : Rst) (m : Nat) (w : World) (h : RS w r A n c xs s) (hm : m ≤ 140737488355328) :
    Calls Tryz.prog 115 #[.pointer (some ⟨r, 0, none⟩), .int .i64 (m : Int)] w fun e w' => ∃ A' n' c', e = .returned (.slice A' n' c') ∧ Hid (Rd w' A' n' (rbytes xs m s).1 ∧ New A' n' w.heap.size ∧ n' ≤ c' ∧ n' ≤ m) ∧ Hid (RS w' r A n c xs (rbytes xs m s).2 ∧ Only w w' r) := by
  obtain ⟨pos, err⟩ := s
  have hl := h.len_
  obtain ⟨hr, hp, he, hc, hb⟩ := h
  simp only at hr hp he
  by_cases h0 : err = 0
  · subst h0
    by_cases hk : pos + m ≤ n
    · refine (bytes_new r A n c xs pos m w hr hb hc hk).mono ?_
      rintro e w' ⟨A', c', rfl, ⟨h1, h2, h3⟩, hR, hO⟩
      simp only [rbytes, hl, hk, if_true, ne_eq, not_true_eq_false, if_false]
      exact ⟨A', m, c', rfl, ⟨h1, h2, h3, Nat.le_refl _⟩, ⟨hR, hk, .inl rfl, hc, hb⟩, hO⟩
    · refine (bytes_short r A n c xs pos m w hr hb hp (.inr (by omega)) (by omega)).mono ?_
      rintro e w' ⟨rfl, hR, hO⟩
      simp only [rbytes, hl, hk, ne_eq, not_true_eq_false, if_false]
      exact ⟨none, 0, 0, rfl, ⟨Rd.nil_ _ _, New.nil_ _ _, Nat.le_refl _, Nat.zero_le _⟩, ⟨hR, hp, .inr rfl, hc, hb⟩, hO⟩
  · refine (bytes_stopped r A n c xs pos err m w hr h0).mono ?_
    rintro e w' ⟨rfl, rfl⟩
    simp only [rbytes, ne_eq, h0, not_false_eq_true, if_true]
    exact ⟨none, 0, 0, rfl, ⟨Rd.nil_ _ _, New.nil_ _ _, Nat.le_refl _, Nat.zero_le _⟩, ⟨hr, hp, he, hc, hb⟩, Only.refl _ _⟩
/-- readID: a number of four bytes. -/
theorem readID_any (r : Nat) (A : Option Addr) (n c : Nat) (xs : List UInt8) (s : Rst) (w : World) (h : RS w r A n c xs s) :
    Calls Tryz.prog 151 #[.pointer (some ⟨r, 0, none⟩)] w fun e w' => e = .returned (.int .i64 (((rnum xs 4 s).1 : Nat) : Int)) ∧ Hid (RS w' r A n c xs (rnum xs 4 s).2 ∧ Only w w' r) := by
  have HN := num4 r A n c xs s w h
  have hlt := rnum_lt xs 4 s
  obtain ⟨v, hv⟩ : ∃ v, (rnum xs 4 s).1 = v := ⟨_, rfl⟩
  obtain ⟨s', hs⟩ : ∃ s', (rnum xs 4 s).2 = s' := ⟨_, rfl⟩
  rw [hv, hs] at HN
  rw [hv] at hlt ⊢
  rw [hs]
  have HN := kept HN
  have hw : IntKind.i64.wrap (v : Int) = (v : Int) := IntWalk.i64_in _ ⟨by omega, by omega⟩
  clear h hv hs
  go_enter Tryz.func151, Tryz.ntmps151
  go_wp2_with (first | (go_at_call 150; (with_reducible refine (HN.out).mono ?_); rintro e w2 ⟨rfl, h2⟩))
  go_ret
  exact ⟨rfl, h2⟩
end Go.Proofs.YtdjcahhofonclaaGreatDoor
end

section
/-
  A reader beside a struct under way: what a store into the struct leaves.
-/
namespace Go.Proofs.YtdjcahhofonclaaGreatDoor
open Go.ChangeShapes Go.WideShapes Go.ChangeAt Go.RowKit
set_option linter.unusedVariables false
section
variable {w w' w0 : World} {r g : Nat} {A : Option Addr} {n c : Nat} {xs : List UInt8} {s : Rst} {t : TypeId} {cs : List Value}
theorem Blk.only (h : Blk w g t cs) (k : Only w w' r) (hne : g ≠ r) : Blk w' g t cs := (k.block g h.lt (fun e => hne (Option.some.inj e))).trans h
theorem RS.set_ (h : RS w r A n c xs s) (hg : r ≠ g) (ha : apartA A n g) (i : Nat) (u : Value) : RS (w.setCell ⟨g, i, none⟩ u) r A n c xs s :=
  ⟨⟨h.1.1.far hg u, h.1.2.grown ha ((Only.refl w g).setCell i u)⟩, h.2⟩
theorem RS.apart (h : RS w r A n c xs s) (hg : w.heap.size ≤ g) : apartA A n g := h.1.2.fresh hg
theorem RS.alloc (h : RS w r A n c xs s) (o : Obj) : RS (w.alloc o) r A n c xs s := h.below ((Below.refl _ _).alloc (Nat.le_refl _) o)
theorem Rd.only (h : Rd w A n xs) (ha : apartA A n r) (k : Only w w' r) : Rd w' A n xs := h.grown ha k
end
end Go.Proofs.YtdjcahhofonclaaGreatDoor
end

section
/-
  What is read of bytes that stand one behind the other. No program is named.
-/
namespace Go.Proofs.YtdjcahhofonclaaGreatDoor
open Go.ChangeShapes Go.WideShapes Go.ChangeAt Go.RowKit
set_option linter.unusedVariables false
set_option linter.unusedSimpArgs false

/-- From pos on there stands zs. -/
def Fro (ys : List UInt8) (pos : Nat) (zs : List UInt8) : Prop := ys.drop pos = zs ∧ pos ≤ ys.length
theorem Fro.skip {ys zs xs : List UInt8} {pos k : Nat} (h : Fro ys pos (xs ++ zs)) (hk : xs.length = k) : Fro ys (pos + k) zs ∧ part ys pos k = xs ∧ pos + k ≤ ys.length := by
  subst hk
  have hl := congrArg List.length h.1
  rw [List.length_drop, List.length_append] at hl
  have hp := h.2
  refine ⟨⟨?_, by omega⟩, ?_, by omega⟩
  · rw [← List.drop_drop, h.1, List.drop_left]
  · unfold part
    rw [h.1, List.take_left]
theorem Fro.num {ys zs : List UInt8} {pos k v : Nat} (h : Fro ys pos (be v k ++ zs)) (hv : v < 256 ^ k) : rnum ys k (pos, 0) = (v, (pos + k, 0)) ∧ Fro ys (pos + k) zs := by
  obtain ⟨h1, h2, h3⟩ := h.skip (be_length v k)
  refine ⟨?_, h1⟩
  unfold rnum
  simp only [ne_eq, not_true_eq_false, if_false, h3, if_true, h2, num_be v k hv]
theorem Fro.bytes {ys zs b : List UInt8} {pos k : Nat} (h : Fro ys pos (b ++ zs)) (hk : b.length = k) : rbytes ys k (pos, 0) = (b, (pos + k, 0)) ∧ Fro ys (pos + k) zs := by
  obtain ⟨h1, h2, h3⟩ := h.skip hk
  refine ⟨?_, h1⟩
  unfold rbytes
  simp only [ne_eq, not_true_eq_false, if_false, h3, if_true, h2]
end Go.Proofs.YtdjcahhofonclaaGreatDoor
end

section
/-
  A meta as plain data, what is right, its bytes; the small functions of package meta, call by call.
-/
namespace Go.Proofs.YtdjcahhofonclaaGreatDoor
open Go.ChangeShapes Go.WideShapes Go.ChangeAt Go.RowKit
set_option linter.unusedVariables false

structure Mt where
  txn : Nat
  root : Int
  spare : Int
  size : Int
  deriving DecidableEq
abbrev Mt.val (m : Mt) : Value := .agg #[.int .u64 (m.txn : Int), .int .i64 m.root, .int .i64 m.spare, .int .i64 m.size]
def zeroMt : Mt := ⟨0, 0, 0, 0⟩
def beginsB (z i : Int) : Bool := decide (i = 0) || (decide (2 ≤ i) && decide (i < z))
def rightM (m : Mt) : Bool := decide (8 ≤ m.size) && decide (m.size ≤ 1024) && beginsB m.size m.root && beginsB m.size m.spare
def headM (t r s z : Nat) : List UInt8 := [9] ++ be t 8 ++ [84, 69, 82, 82, 1] ++ be r 4 ++ be s 4 ++ be z 4
def bodyN (t r s z : Nat) : List UInt8 := headM t r s z ++ List.replicate 218 0 ++ be t 8
def bodyM (m : Mt) : List UInt8 := bodyN m.txn m.root.toNat m.spare.toNat m.size.toNat
theorem headM_length (t r s z : Nat) : (headM t r s z).length = 26 := by simp [headM, be_length]
theorem bodyN_length (t r s z : Nat) : (bodyN t r s z).length = 252 := by
  unfold bodyN
  rw [List.length_append, List.length_append, headM_length, List.length_replicate, be_length]
theorem bodyM_length (m : Mt) : (bodyM m).length = 252 := bodyN_length _ _ _ _
theorem rightM_nat {m : Mt} (h : rightM m = true) : ∃ r s z : Nat, m = ⟨m.txn, (r : Int), (s : Int), (z : Int)⟩ ∧ r ≤ 1024 ∧ s ≤ 1024 ∧ z ≤ 1024 ∧ bodyM m = bodyN m.txn r s z := by
  obtain ⟨t, r, s, z⟩ := m
  unfold rightM beginsB at h
  simp only [Bool.and_eq_true, Bool.or_eq_true, decide_eq_true_eq] at h
  refine ⟨r.toNat, s.toNat, z.toNat, ?_, by omega, by omega, by omega, rfl⟩
  rw [show ((r.toNat : Nat) : Int) = r by omega, show ((s.toNat : Nat) : Int) = s by omega, show ((z.toNat : Nat) : Int) = z by omega]

theorem bel_to {w w1 w2 : World} (h : Below w1.heap.size w1 w2) (hb : Below w.heap.size w w1) : Below w.heap.size w w2 := hb.trans (h.mono hb.size)
/-- A meta's box: its four cells. -/
abbrev Fou (W : World) (b : Nat) (t r s z : Int) : Prop :=
  W.cell? ⟨b, 0, none⟩ = some (.int .u64 t) ∧ W.cell? ⟨b, 1, none⟩ = some (.int .i64 r) ∧ W.cell? ⟨b, 2, none⟩ = some (.int .i64 s) ∧ W.cell? ⟨b, 3, none⟩ = some (.int .i64 z)
/-- What was there reads as it did. -/
def Keeps (w w' : World) : Prop := w.heap.size ≤ w'.heap.size ∧ ∀ p : Addr, p.block < w.heap.size → w'.cell? p = w.cell? p
theorem Keeps.refl (w : World) : Keeps w w := ⟨Nat.le_refl _, fun _ _ => rfl⟩
theorem Keeps.trans {a b c : World} (h : Keeps a b) (k : Keeps b c) : Keeps a c := ⟨Nat.le_trans h.1 k.1, fun p hp => (k.2 p (Nat.lt_of_lt_of_le hp h.1)).trans (h.2 p hp)⟩
theorem Keeps.alloc (w : World) (o : Obj) : Keeps w (w.alloc o) := ⟨by simp, fun p hp => World.cell?_alloc_lt w o p hp⟩
theorem Keeps.of_below {w w' : World} (h : Below w.heap.size w w') : Keeps w w' := ⟨h.size, fun p hp => h.cell hp⟩
theorem Keeps.drewN (w : World) (q : Nat) : Keeps w (w.drewN q) := ⟨Nat.le_refl _, fun _ _ => rfl⟩
theorem Keeps.drew (w : World) : Keeps w w.drew := ⟨Nat.le_refl _, fun _ _ => rfl⟩
theorem Keeps.cell_ {w w' : World} (h : Keeps w w') {p : Addr} {v : Value} (hc : w.cell? p = some v) : w'.cell? p = some v := (h.2 p (World.block_lt_of_cell? w _ hc)).trans hc
theorem Rd.keeps {w w' : World} {A : Option Addr} {n : Nat} {xs : List UInt8} (h : Rd w A n xs) (k : Keeps w w') : Rd w' A n xs := h.keep k.2
theorem Fou.keeps {w w' : World} {b : Nat} {t r s z : Int} (h : Fou w b t r s z) (k : Keeps w w') : Fou w' b t r s z := ⟨k.cell_ h.1, k.cell_ h.2.1, k.cell_ h.2.2.1, k.cell_ h.2.2.2⟩
theorem Blk.fou {w : World} {b : Nat} {ty : TypeId} {t r s z : Int} (h : Blk w b ty [.int .u64 t, .int .i64 r, .int .i64 s, .int .i64 z]) : Fou w b t r s z := ⟨h.cell 0, h.cell 1, h.cell 2, h.cell 3⟩
theorem fou_new (w : World) (ty : TypeId) (t r s z : Int) : Fou (w.alloc (.cells #[.int .u64 t, .int .i64 r, .int .i64 s, .int .i64 z] ty)) w.heap.size t r s z := (Blk.new w ty #[.int .u64 t, .int .i64 r, .int .i64 s, .int .i64 z]).fou

theorem begins_any (t r s z i : Int) (w : World) (b : Bool) (hb : beginsB z i = b) :
    Calls Tryz.prog 159 #[.agg #[.int .u64 t, .int .i64 r, .int .i64 s, .int .i64 z], .int .i64 i] w fun e w' => e = .returned (.bool b) ∧ Below w.heap.size w w' := by
  subst hb
  go_enter Tryz.func159, Tryz.ntmps159
  go_wp2
  all_goals
    go_ret
    exact ⟨ret_bool (by rw [Bool.eq_iff_iff]; simp [beginsB] <;> omega), (Below.refl _ _).alloc (Nat.le_refl _) _⟩
theorem right_m (m : Mt) (w : World) :
    Calls Tryz.prog 120 #[m.val] w fun e w' => e = .returned (.bool (rightM m)) ∧ Below w.heap.size w w' := by
  obtain ⟨t, r, s, z⟩ := m
  have HR : Hid (rightM ⟨t, r, s, z⟩ = (decide (8 ≤ z) && decide (z ≤ 1024) && beginsB z r && beginsB z s)) := rfl
  have hc1 := fun w => kept (begins_any t r s z r w _ rfl)
  have hc2 := fun w => kept (begins_any t r s z s w _ rfl)
  have HF := kept (fou_new w 87 t r s z)
  have HB0 := kept ((Below.refl w.heap.size w).alloc (Nat.le_refl _) (.cells #[.int .u64 (t : Int), .int .i64 r, .int .i64 s, .int .i64 z] 87))
  generalize rightM ⟨t, r, s, z⟩ = o at HR
  generalize beginsB z r = b1 at HR hc1
  generalize beginsB z s = b2 at HR hc2
  by_cases h8 : z < 8
  · have HO : Hid (o = false) := by show _ = _; rw [HR.out]; simp; omega
    go_enter Tryz.func120, Tryz.ntmps120
    go_wp2
    go_ret
    exact ⟨ret_bool HO.out.symm, HB0.out⟩
  by_cases h9 : 1024 < z
  · have HO : Hid (o = false) := by show _ = _; rw [HR.out]; simp; omega
    have g1 : 8 ≤ z := by omega
    go_enter Tryz.func120, Tryz.ntmps120
    go_wp2
    go_ret
    exact ⟨ret_bool HO.out.symm, HB0.out⟩
  have HO : Hid (o = (b1 && b2)) := by show _ = _; rw [HR.out]; simp [show 8 ≤ z by omega, show z ≤ 1024 by omega]
  have g1 : 8 ≤ z := by omega
  have g2 : z ≤ 1024 := by omega
  clear h8 h9
  cases b1
  · go_enter Tryz.func120, Tryz.ntmps120
    go_wp2_with (first | (go_at_call 159; (with_reducible refine ((hc1 _).out).mono ?_); rintro e w1 ⟨rfl, hb1⟩; have HB1 := kept (bel_to hb1 HB0.out); clear hb1))
    go_ret
    exact ⟨ret_bool HO.out.symm, HB1.out⟩
  · go_enter Tryz.func120, Tryz.ntmps120
    go_wp2_with fail
    with_reducible refine (hc1 _).out.mono ?_
    rintro e w1 ⟨rfl, hb1⟩
    obtain ⟨n0, n1, n2, n3⟩ := HF.out.keeps (Keeps.of_below hb1)
    have HB1 := kept (bel_to hb1 HB0.out)
    clear hb1
    go_wp2_with (first | (go_at_call 159; (with_reducible refine ((hc2 _).out).mono ?_); rintro e w2 ⟨rfl, hb2⟩; have HB2 := kept (bel_to hb2 HB1.out); clear hb2))
    go_ret
    exact ⟨ret_bool (by rw [HO.out]; rfl), HB2.out⟩
theorem place_any (t : Nat) (r s z : Int) (w : World) (ht : t < 18446744073709551616) :
    Calls Tryz.prog 169 #[.agg #[.int .u64 (t : Int), .int .i64 r, .int .i64 s, .int .i64 z]] w fun e w' => e = .returned (.int .u64 ((t % 2 : Nat) : Int)) ∧ Below w.heap.size w w' := by
  go_enter Tryz.func169, Tryz.ntmps169
  go_wp2
  go_ret
  exact ⟨ret_int (by first | rfl | simp | omega), (Below.refl _ _).alloc (Nat.le_refl _) _⟩
theorem bytesEqual_any (A B : Option Addr) (n m c d : Nat) (xs ys : List UInt8) (w : World) (h1 : Rd w A n xs) (h2 : Rd w B m ys) (b : Bool) (hb : decide (xs = ys) = b) :
    Calls Tryz.prog 197 #[.slice A n c, .slice B m d] w fun e w' => e = .returned (.bool b) ∧ w = w' := by
  have c1 := h1.string (P := Tryz.prog) c 62 5 9 Tryz.underlying62 Tryz.underlying5 Tryz.underlying9
  have c2 := h2.string (P := Tryz.prog) d 62 5 9 Tryz.underlying62 Tryz.underlying5 Tryz.underlying9
  have hbb : ((strOf xs).toList == (strOf ys).toList) = b := by
    rw [strOf_toList, strOf_toList, ← hb]
    by_cases h : xs = ys
    · simp [h]
    · simp [h]
  clear hb h1 h2
  generalize strOf xs = s1 at c1 hbb
  generalize strOf ys = s2 at c2 hbb
  cases b <;> (go_enter Tryz.func197, Tryz.ntmps197; go_wp2; go_ret; exact ⟨rfl, rfl⟩)
theorem number_any (n s : Nat) (w : World) (h1 : 1 ≤ s) (h2 : s ≤ 8) (hn : n < 256 ^ s) :
    Calls Tryz.prog 121 #[.int .u64 (n : Int), .int .i64 (s : Int)] w fun e w' => ∃ A c, e = .returned (.slice A s c) ∧ w'.ownsRow w.heap.size 5 1 (.slice A s c) s (cellsOf (be n s)) ∧ Below w.heap.size w w' := by
  have HP := kept (put_ok n s w h1 h2 hn)
  clear hn
  go_enter Tryz.func121, Tryz.ntmps121
  go_wp2_with (first | (go_at_call 137; (with_reducible refine (HP.out).mono ?_); rintro e w1 ⟨A1, c1, rfl, hown, hb⟩; have HO := kept hown; have HB := kept hb; clear hown hb))
  go_ret
  exact ⟨A1, c1, rfl, HO.out, HB.out⟩
theorem number1 (w : World) : Calls Tryz.prog 121 #[.int .u64 9, .int .i64 1] w fun e w' => ∃ A c, e = .returned (.slice A 1 c) ∧ w'.ownsRow w.heap.size 5 1 (.slice A 1 c) 1 (cellsOf [9]) ∧ Below w.heap.size w w' := number_any 9 1 w (by omega) (by omega) (by omega)
theorem number8 (n : Nat) (w : World) (hn : n < 18446744073709551616) : Calls Tryz.prog 121 #[.int .u64 (n : Int), .int .i64 8] w fun e w' => ∃ A c, e = .returned (.slice A 8 c) ∧ w'.ownsRow w.heap.size 5 1 (.slice A 8 c) 8 (cellsOf (be n 8)) ∧ Below w.heap.size w w' := number_any n 8 w (by omega) (by omega) (by omega)
theorem number4 (n : Nat) (w : World) (hn : n ≤ 1024) : Calls Tryz.prog 121 #[.int .u64 (n : Int), .int .i64 4] w fun e w' => ∃ A c, e = .returned (.slice A 4 c) ∧ w'.ownsRow w.heap.size 5 1 (.slice A 4 c) 4 (cellsOf (be n 4)) ∧ Below w.heap.size w w' := number_any n 4 w (by omega) (by omega) (by omega)
theorem id_any (n : Nat) (w : World) (hn : n ≤ 1024) : Calls Tryz.prog 123 #[.int .i64 (n : Int)] w fun e w' => ∃ A c, e = .returned (.slice A 4 c) ∧ w'.ownsRow w.heap.size 5 1 (.slice A 4 c) 4 (cellsOf (be n 4)) ∧ Below w.heap.size w w' := by
  have HP := kept (number4 n w hn)
  go_enter Tryz.func123, Tryz.ntmps123
  go_wp2_with (first | (go_at_call 121; (with_reducible refine (HP.out).mono ?_); rintro e w1 ⟨A1, c1, rfl, hown, hb⟩; have HO := kept hown; have HB := kept hb; clear hown hb))
  go_ret
  exact ⟨A1, c1, rfl, HO.out, HB.out⟩
end Go.Proofs.YtdjcahhofonclaaGreatDoor
end
