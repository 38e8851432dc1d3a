/-
  A reader's state as plain data, and what Num and Bytes answer from any state: one theorem each.
-/
import Derived.Test.YtcmjgkgdeaiifaaReader2
import Derived.Test.YtcmjgkgdeaiifaaAp
namespace Go.Proofs.Ytcmjgkgdeaiifaa
open Go.ChangeShapes Go.WideShapes Go.ChangeAt Go.RowKit
set_option linter.unusedVariables false
attribute [local go_sem ↓] Go.wp_at_zero Go.wp_at_succ

/-- Where a reader is, and its error: 0 or 3. -/
abbrev Rst := Nat × Int
def rnum (xs : List UInt8) (k : Nat) (s : Rst) : Nat × Rst := if s.2 ≠ 0 then (0, s) else if s.1 + k ≤ xs.length then (num (part xs s.1 k) 0, (s.1 + k, 0)) else (0, (s.1, 3))
def rbytes (xs : List UInt8) (m : Nat) (s : Rst) : List UInt8 × Rst := if s.2 ≠ 0 then ([], s) else if s.1 + m ≤ xs.length then (part xs s.1 m, (s.1 + m, 0)) else ([], (s.1, 3))
def RS (w : World) (r : Nat) (A : Option Addr) (n c : Nat) (xs : List UInt8) (s : Rst) : Prop := Rdr w r A n c xs s.1 s.2 ∧ s.1 ≤ n ∧ (s.2 = 0 ∨ s.2 = 3) ∧ n ≤ c ∧ n ≤ 140737488355328
theorem rnum_lt (xs : List UInt8) (k : Nat) (s : Rst) : (rnum xs k s).1 < 256 ^ k := by
  unfold rnum
  split
  · exact Nat.pow_pos (by omega)
  · split
    · exact num_part_lt _ _ _ ‹_›
    · exact Nat.pow_pos (by omega)
theorem rbytes_len (xs : List UInt8) (m : Nat) (s : Rst) : (rbytes xs m s).1.length ≤ m := by
  unfold rbytes
  split
  · exact Nat.zero_le _
  · split
    · exact Nat.le_of_eq (part_length _ _ _ ‹_›)
    · exact Nat.zero_le _
section
variable {w w' : World} {r : Nat} {A : Option Addr} {n c : Nat} {xs : List UInt8} {s : Rst}
theorem RS.below (h : RS w r A n c xs s) (hb : Below w.heap.size w w') : RS w' r A n c xs s := ⟨h.1.below hb, h.2⟩
theorem RS.drewN (h : RS w r A n c xs s) (q : Nat) : RS (w.drewN q) r A n c xs s := ⟨h.1.drewN q, h.2⟩
theorem RS.lt (h : RS w r A n c xs s) : r < w.heap.size := h.1.1.lt
theorem RS.len_ (h : RS w r A n c xs s) : xs.length = n := h.1.2.1
end
/-- Num, from any state. -/
theorem num_any (r : Nat) (A : Option Addr) (n c : Nat) (xs : List UInt8) (s : Rst) (k : Nat) (w : World) (h : RS w r A n c xs s) (h1 : 1 ≤ k) (h2 : k ≤ 8) :
    Calls Try.prog 32 #[.pointer (some ⟨r, 0, none⟩), .int .i64 (k : Int)] w fun e w' => e = .returned (.int .u64 (((rnum xs k s).1 : Nat) : Int)) ∧ Hid (RS w' r A n c xs (rnum xs k s).2 ∧ Only w w' r) := by
  obtain ⟨pos, err⟩ := s
  have hl := h.len_
  obtain ⟨hr, hp, he, hc, hb⟩ := h
  simp only at hr hp he
  by_cases h0 : err = 0
  · subst h0
    by_cases hk : pos + k ≤ n
    · refine (num_ok r A n c xs pos k w hr hb h1 h2 hk).mono ?_
      rintro e w' ⟨rfl, hR, hO⟩
      simp only [rnum, hl, hk, if_true, ne_eq, not_true_eq_false, if_false]
      exact ⟨by first | trivial | rfl, ⟨hR, hk, .inl rfl, hc, hb⟩, hO⟩
    · refine (num_bad r A n c xs pos k 0 3 w hr (by decide) (fun W _ => get_short A n c pos k W (by omega) (by omega) hb (.inr (by omega)) (by omega))).mono ?_
      rintro e w' ⟨rfl, hR, hO⟩
      simp only [rnum, hl, hk, ne_eq, not_true_eq_false, if_false]
      exact ⟨by first | trivial | rfl, ⟨hR, hp, .inr rfl, hc, hb⟩, hO⟩
  · refine (num_stopped r A n c xs pos err k w hr h0).mono ?_
    rintro e w' ⟨rfl, rfl⟩
    simp only [rnum, ne_eq, h0, not_false_eq_true, if_true]
    exact ⟨by first | trivial | rfl, ⟨hr, hp, he, hc, hb⟩, Only.refl _ _⟩
theorem num1 (r : Nat) (A : Option Addr) (n c : Nat) (xs : List UInt8) (s : Rst) (w : World) (h : RS w r A n c xs s) :
    Calls Try.prog 32 #[.pointer (some ⟨r, 0, none⟩), .int .i64 1] w fun e w' => e = .returned (.int .u64 (((rnum xs 1 s).1 : Nat) : Int)) ∧ Hid (RS w' r A n c xs (rnum xs 1 s).2 ∧ Only w w' r) := num_any r A n c xs s 1 w h (by omega) (by omega)
theorem num2 (r : Nat) (A : Option Addr) (n c : Nat) (xs : List UInt8) (s : Rst) (w : World) (h : RS w r A n c xs s) :
    Calls Try.prog 32 #[.pointer (some ⟨r, 0, none⟩), .int .i64 2] w fun e w' => e = .returned (.int .u64 (((rnum xs 2 s).1 : Nat) : Int)) ∧ Hid (RS w' r A n c xs (rnum xs 2 s).2 ∧ Only w w' r) := num_any r A n c xs s 2 w h (by omega) (by omega)
theorem num4 (r : Nat) (A : Option Addr) (n c : Nat) (xs : List UInt8) (s : Rst) (w : World) (h : RS w r A n c xs s) :
    Calls Try.prog 32 #[.pointer (some ⟨r, 0, none⟩), .int .i64 4] w fun e w' => e = .returned (.int .u64 (((rnum xs 4 s).1 : Nat) : Int)) ∧ Hid (RS w' r A n c xs (rnum xs 4 s).2 ∧ Only w w' r) := num_any r A n c xs s 4 w h (by omega) (by omega)
theorem num8 (r : Nat) (A : Option Addr) (n c : Nat) (xs : List UInt8) (s : Rst) (w : World) (h : RS w r A n c xs s) :
    Calls Try.prog 32 #[.pointer (some ⟨r, 0, none⟩), .int .i64 8] w fun e w' => e = .returned (.int .u64 (((rnum xs 8 s).1 : Nat) : Int)) ∧ Hid (RS w' r A n c xs (rnum xs 8 s).2 ∧ Only w w' r) := num_any r A n c xs s 8 w h (by omega) (by omega)
/-- The slice lies in memory newer than these blocks. -/
def New (A : Option Addr) (n B : Nat) : Prop := ∀ g, g < B → apartA A n g
theorem New.nil_ (B c : Nat) : New none c B := fun g _ a e => by cases e
theorem new_of_own {w : World} {base : Nat} {e : TypeId} {A : Option Addr} {n c : Nat} {xs : List Value} (h : w.ownsRow base e 1 (.slice A n c) n xs) : New A n base := by
  intro g hg a e _ hh
  rcases h.2 with ⟨h0, _⟩ | ⟨g', cap, cur, hv, hb, _⟩
  · injection h0 with h0; rw [h0] at e; cases e
  · injection hv with hA; rw [hA] at e; cases e; simp only at hh; omega
theorem bytes_new (r : Nat) (A : Option Addr) (n c : Nat) (xs : List UInt8) (pos m : Nat) (w : World) (h : Rdr w r A n c xs pos 0) (hl : n ≤ 140737488355328) (hnc : n ≤ c) (hp : pos + m ≤ n) :
    Calls Try.prog 44 #[.pointer (some ⟨r, 0, none⟩), .int .i64 (m : Int)] w fun e w' => ∃ A' c', e = .returned (.slice A' m c') ∧ Hid (Rd w' A' m (part xs pos m) ∧ New A' m w.heap.size ∧ m ≤ c') ∧ Hid (Rdr w' r A n c xs (pos + m) 0 ∧ Only w w' r) := by
  have HS := kept (stopped_no r A n c xs pos w h)
  have HG := fun W => kept (holds_yes A n c pos m W hl hp)
  have HH := kept h
  have h0 := h.slice
  have h1 := h.place
  have h2 := h.error
  have h3 := h.frozen 1
  have hi1 : (0 : Int) ≤ (pos : Int) := by omega
  have hi2 : (pos : Int) ≤ (pos : Int) + (m : Int) := by omega
  have hi3 : (pos : Int) + (m : Int) ≤ (c : Int) := by omega
  clear h
  go_enter Try.func44, Try.ntmps44
  go_wp2_with fail
  with_reducible refine HS.out.mono ?_
  rintro e w' ⟨rfl, rfl⟩
  go_wp2
  go_quiet ((go_at_call 50; exact Calls.quiet_of_same (turn (HG _).out)))
  go_wp2
  have HM := kept (show m ≤ 140737488355328 by omega)
  have hmid := HH.out.2.mid hp hnc
  obtain ⟨X, hX⟩ : ∃ X, (if c = pos then A else A.map (fun x => x.add pos)) = X := ⟨_, rfl⟩
  rw [hX] at hmid
  have HMID := kept hmid
  clear hmid
  have HLT := kept HH.out.1.lt
  have HC0 := kept h0
  have HF := kept h3
  have HC1 := kept h1
  have hq1 : ((pos : Int) + (m : Int)).toNat = pos + m := by omega
  have hq2 : IntKind.i64.wrap ((pos : Int) + (m : Int)) = (pos : Int) + (m : Int) := IntWalk.i64_in _ ⟨by omega, by omega⟩
  go_region_held3 (fun w' => w'.cell? ⟨r, 0, none⟩ = some (.slice A n c) ∧ w'.cell? ⟨r, 1, none⟩ = some (.int .i64 (pos : Int))) (go_keep) (first | (go_at_call 39; (with_reducible refine (clone_any _ _ _ (part xs pos m) _ (HMID.out.drewN _) HM.out).mono ?_); rintro e w1 ⟨A1, c1, rfl, hown1, hb1⟩; have k0 : w1.cell? ⟨r, 0, none⟩ = some (.slice A n c) := (hb1.cell (p := ⟨r, 0, none⟩) HLT.out).trans HC0.out; have k1 : w1.cell? ⟨r, 1, none⟩ = some (.int .i64 (pos : Int)) := (hb1.cell (p := ⟨r, 1, none⟩) HLT.out).trans HC1.out; have k2 : w1.frozen? ⟨r, 1, none⟩ = false := (hb1.frozen (p := ⟨r, 1, none⟩) HLT.out).trans HF.out; have HO1 := kept (Rd.of_own hown1); have HNW := kept (And.intro (new_of_own hown1) (own_cap hown1)); have HB1 := kept ((HH.out.drewN _).below hb1); have HOW := kept (Only.of_below (r := r) hb1); clear hown1 hb1))
  clear hq1 hq2
  have HP := kept (HB1.out.set_pos (pos + m))
  have HC : Hid (((pos + m : Nat) : Int) = (pos : Int) + (m : Int)) := Int.natCast_add pos m
  have HR2 := fun u => kept (HB1.out.rd_other HO1.out 1 u)
  have HO2 := fun u => kept (((Only.refl w r).drewN _ |>.trans HOW.out).setCell 1 u)
  go_wp2
  go_ret
  refine ⟨A1, c1, rfl, ⟨(HR2 _).out, HNW.out⟩, ?_, (HO2 _).out⟩
  rw [← HC.out]
  exact HP.out
/-- Bytes, from any state. -/
theorem bytes_any (r : Nat) (A : Option Addr) (n c : Nat) (xs : List UInt8) (s : Rst) (m : Nat) (w : World) (h : RS w r A n c xs s) (hm : m ≤ 140737488355328) :
    Calls Try.prog 44 #[.pointer (some ⟨r, 0, none⟩), .int .i64 (m : Int)] w fun e w' => ∃ A' n' c', e = .returned (.slice A' n' c') ∧ Hid (Rd w' A' n' (rbytes xs m s).1 ∧ New A' n' w.heap.size ∧ n' ≤ c' ∧ n' ≤ m) ∧ Hid (RS w' r A n c xs (rbytes xs m s).2 ∧ Only w w' r) := by
  obtain ⟨pos, err⟩ := s
  have hl := h.len_
  obtain ⟨hr, hp, he, hc, hb⟩ := h
  simp only at hr hp he
  by_cases h0 : err = 0
  · subst h0
    by_cases hk : pos + m ≤ n
    · refine (bytes_new r A n c xs pos m w hr hb hc hk).mono ?_
      rintro e w' ⟨A', c', rfl, ⟨h1, h2, h3⟩, hR, hO⟩
      simp only [rbytes, hl, hk, if_true, ne_eq, not_true_eq_false, if_false]
      exact ⟨A', m, c', rfl, ⟨h1, h2, h3, Nat.le_refl _⟩, ⟨hR, hk, .inl rfl, hc, hb⟩, hO⟩
    · refine (bytes_short r A n c xs pos m w hr hb hp (.inr (by omega)) (by omega)).mono ?_
      rintro e w' ⟨rfl, hR, hO⟩
      simp only [rbytes, hl, hk, ne_eq, not_true_eq_false, if_false]
      exact ⟨none, 0, 0, rfl, ⟨Rd.nil_ _ _, New.nil_ _ _, Nat.le_refl _, Nat.zero_le _⟩, ⟨hR, hp, .inr rfl, hc, hb⟩, hO⟩
  · refine (bytes_stopped r A n c xs pos err m w hr h0).mono ?_
    rintro e w' ⟨rfl, rfl⟩
    simp only [rbytes, ne_eq, h0, not_false_eq_true, if_true]
    exact ⟨none, 0, 0, rfl, ⟨Rd.nil_ _ _, New.nil_ _ _, Nat.le_refl _, Nat.zero_le _⟩, ⟨hr, hp, he, hc, hb⟩, Only.refl _ _⟩
end Go.Proofs.Ytcmjgkgdeaiifaa
