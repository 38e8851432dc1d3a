/-
  free's List in memory, and what its methods answer and leave.
-/
import Derived.Test.YtahciaccnblfoaaFm
namespace Go.Proofs.Ytahciaccnblfoaa
open Go.ChangeShapes Go.WideShapes Go.ChangeAt Go.RowKit
set_option linter.unusedVariables false

/-- The slice at A of n numbers reads as these, whoever owns it. -/
def RdI (w : World) (A : Option Addr) (n : Nat) (Z : List Int) : Prop :=
  Z.length = n ∧ (0 < n → ∃ b o, A = some ⟨b, o, none⟩ ∧ ∀ j (h : j < Z.length), w.cell? ⟨b, o + j, none⟩ = some (.int .i64 Z[j]))
section
variable {w w' : World} {A : Option Addr} {n c : Nat} {Z : List Int}
theorem RdI.nil_ (w : World) (A : Option Addr) : RdI w A 0 [] := ⟨rfl, fun h => absurd h (by omega)⟩
theorem RdI.below (h : RdI w A n Z) (hb : Below w.heap.size w w') : RdI w' A n Z := ⟨h.1, fun hn => by
  obtain ⟨b, o, e, hc⟩ := h.2 hn
  exact ⟨b, o, e, fun j hj => (hb.cell (World.block_lt_of_cell? w _ (hc j hj))).trans (hc j hj)⟩⟩
theorem RdI.turned (h : RdI w A n Z) {T : Nat → Prop} (t : Turned w w' T) (hn : ∀ g, blkOf A = some g → ¬ T g) : RdI w' A n Z := ⟨h.1, fun h0 => by
  obtain ⟨b, o, e, hc⟩ := h.2 h0
  refine ⟨b, o, e, fun j hj => ?_⟩
  rw [World.cell?_of_block (w := w) (t.block _ (World.block_lt_of_cell? w _ (hc j hj)) (hn b (by rw [e]; rfl)))]
  exact hc j hj⟩
theorem RdI.at_ (h : RdI w A n Z) {k : Nat} (hk : k < n) : ∃ b o, A = some ⟨b, o, none⟩ ∧ w.cell? ⟨b, o + k, none⟩ = some (.int .i64 (Z[k]'(by rw [h.1]; exact hk))) := by
  obtain ⟨b, o, e, hc⟩ := h.2 (by omega)
  exact ⟨b, o, e, hc k (by rw [h.1]; exact hk)⟩
theorem RdI.lt (h : RdI w A n Z) (hn : 0 < n) {g : Nat} (hg : blkOf A = some g) : g < w.heap.size := by
  obtain ⟨b, o, rfl, hc⟩ := h.2 hn
  cases hg
  exact World.block_lt_of_cell? w _ (hc 0 (by rw [h.1]; exact hn))
theorem OwI.reads (h : OwI w A n c Z) : RdI w A n Z := ⟨h.1, fun hn => by
  obtain ⟨g, hA⟩ := h.head hn
  exact ⟨g, 0, hA, fun j hj => by rw [Nat.zero_add]; exact h.cell hA (by rw [← h.1]; exact hj)⟩⟩
end

/-- Where a list lies: its own block, the spare ones' slice, the held ones'. -/
structure Fl where
  r : Nat
  As : Option Addr
  cs : Nat
  Ah : Option Addr
  ch : Nat
def Fl.own (f : Fl) (j : Nat) : Prop := j = f.r ∨ blkOf f.As = some j ∨ blkOf f.Ah = some j
/-- What it holds. -/
structure FSt where
  z : Int
  S : List Int
  H : List Int
def FSt.ok (s : FSt) : Prop := 8 ≤ s.z ∧ s.z ≤ 1024 ∧ Rising s.S ∧ Rising s.H ∧ (∀ x ∈ s.S, 2 ≤ x ∧ x < s.z) ∧ (∀ x ∈ s.H, 2 ≤ x ∧ x < s.z)
def Lst (w : World) (f : Fl) (s : FSt) : Prop :=
  s.ok ∧ Blk w f.r 54 [.int .i64 s.z, .slice f.As s.S.length f.cs, .slice f.Ah s.H.length f.ch] ∧ OwI w f.As s.S.length f.cs s.S ∧ OwI w f.Ah s.H.length f.ch s.H ∧ (∀ g, blkOf f.As = some g → blkOf f.Ah ≠ some g)
/-- What a call leaves. -/
def LLeft (w w' : World) (f : Fl) (s : FSt) : Prop := ∃ f' : Fl, f'.r = f.r ∧ Lst w' f' s ∧ Turned w w' f.own ∧ ∀ j, f'.own j → f.own j ∨ w.heap.size ≤ j

theorem FSt.ok.short {s : FSt} (h : s.ok) : s.S.length ≤ 1022 ∧ s.H.length ≤ 1022 := by
  obtain ⟨h1, h2, h3, h4, h5, h6⟩ := h
  constructor
  · rcases h3.length_le (fun x hx => (h5 x hx).1) (fun x hx => (h5 x hx).2) with h | h
    · rw [h]; simp
    · omega
  · rcases h4.length_le (fun x hx => (h6 x hx).1) (fun x hx => (h6 x hx).2) with h | h
    · rw [h]; simp
    · omega
theorem list_ne_int : 54 ≠ 3 := by decide
section
variable {w w' : World} {f : Fl} {s : FSt}
theorem Lst.c0 (h : Lst w f s) : w.cell? ⟨f.r, 0, none⟩ = some (.int .i64 s.z) := h.2.1.cell 0
theorem Lst.c1 (h : Lst w f s) : w.cell? ⟨f.r, 1, none⟩ = some (.slice f.As s.S.length f.cs) := h.2.1.cell 1
theorem Lst.c2 (h : Lst w f s) : w.cell? ⟨f.r, 2, none⟩ = some (.slice f.Ah s.H.length f.ch) := h.2.1.cell 2
theorem Lst.fz (h : Lst w f s) (i : Nat) : w.frozen? ⟨f.r, i, none⟩ = false := h.2.1.frozen i
theorem Lst.lt (h : Lst w f s) {j : Nat} (hj : f.own j) : j < w.heap.size := by
  rcases hj with rfl | hj | hj
  · exact h.2.1.lt
  · exact h.2.2.1.lt hj
  · exact h.2.2.2.1.lt hj
theorem Lst.same (h : Lst w f s) (e : ∀ j, f.own j → w'.heap[j]? = w.heap[j]?) : Lst w' f s :=
  ⟨h.1, (e f.r (.inl rfl)).trans h.2.1, h.2.2.1.keep fun g hg => e g (.inr (.inl hg)), h.2.2.2.1.keep fun g hg => e g (.inr (.inr hg)), h.2.2.2.2⟩
theorem Lst.turned (h : Lst w f s) {T : Nat → Prop} (t : Turned w w' T) (hn : ∀ j, f.own j → ¬ T j) : Lst w' f s := h.same fun j hj => t.block j (h.lt hj) (hn j hj)
theorem Lst.below (h : Lst w f s) (hb : Below w.heap.size w w') : Lst w' f s := h.same fun j hj => hb.block j (h.lt hj)
theorem Lst.left_self (h : Lst w f s) (q : Nat) : LLeft w (w.drewN q) f s := ⟨f, rfl, h, (Turned.refl _ _).drewN q, fun _ hj => .inl hj⟩
theorem Lst.left_same (h : Lst w f s) : LLeft w w f s := ⟨f, rfl, h, Turned.refl _ _, fun _ hj => .inl hj⟩
/-- The spare ones have turned. -/
theorem Lst.spare_at (h : Lst w f s) {A' : Option Addr} {n' c' : Nat} {S' : List Int} (hb : Blk w' f.r 54 (([.int .i64 s.z, .slice f.As s.S.length f.cs, .slice f.Ah s.H.length f.ch] : List Value).set 1 (.slice A' n' c'))) (ho : OwI w' A' n' c' S')
    (t : Turned w w' (fun j => j = f.r ∨ blkOf f.As = some j)) (hg : ∀ g, blkOf A' = some g → blkOf f.As = some g ∨ w.heap.size ≤ g) (hR : Rising S') (hB : ∀ x ∈ S', 2 ≤ x ∧ x < s.z) : Lst w' ⟨f.r, A', c', f.Ah, f.ch⟩ { s with S := S' } ∧ Turned w w' f.own ∧ ∀ j, (⟨f.r, A', c', f.Ah, f.ch⟩ : Fl).own j → f.own j ∨ w.heap.size ≤ j := by
  obtain ⟨h1, h2, h3, h4, h5⟩ := h
  obtain rfl : n' = S'.length := ho.1.symm
  refine ⟨⟨⟨h1.1, h1.2.1, hR, h1.2.2.2.1, hB, h1.2.2.2.2.2⟩, hb, ho, h4.turned t fun g hg' hT => ?_, fun g hg' hg2 => ?_⟩, t.mono fun k _ hk => ?_, fun j hj => ?_⟩
  · rcases hT with hT | hT
    · exact h4.not_blk h2 list_ne_int (by rw [← hT]; exact hg')
    · exact h5 g hT hg'
  · rcases hg g hg' with h6 | h6
    · exact h5 g h6 hg2
    · have := h4.lt hg2; omega
  · rcases hk with hk | hk
    · exact .inl hk
    · exact .inr (.inl hk)
  · rcases hj with hj | hj | hj
    · exact .inl (.inl hj)
    · rcases hg j hj with h6 | h6
      · exact .inl (.inr (.inl h6))
      · exact .inr h6
    · exact .inl (.inr (.inr hj))
theorem Lst.spare_new (h : Lst w f s) {A' : Option Addr} {n' c' : Nat} {S' : List Int} (hb : Blk w' f.r 54 (([.int .i64 s.z, .slice f.As s.S.length f.cs, .slice f.Ah s.H.length f.ch] : List Value).set 1 (.slice A' n' c'))) (ho : OwI w' A' n' c' S')
    (t : Turned w w' (fun j => j = f.r ∨ blkOf f.As = some j)) (hg : ∀ g, blkOf A' = some g → blkOf f.As = some g ∨ w.heap.size ≤ g) (hR : Rising S') (hB : ∀ x ∈ S', 2 ≤ x ∧ x < s.z) : LLeft w w' f { s with S := S' } :=
  ⟨⟨f.r, A', c', f.Ah, f.ch⟩, rfl, h.spare_at hb ho t hg hR hB⟩
theorem Lst.held_new (h : Lst w f s) {A' : Option Addr} {n' c' : Nat} {S' : List Int} (hb : Blk w' f.r 54 (([.int .i64 s.z, .slice f.As s.S.length f.cs, .slice f.Ah s.H.length f.ch] : List Value).set 2 (.slice A' n' c'))) (ho : OwI w' A' n' c' S')
    (t : Turned w w' (fun j => j = f.r ∨ blkOf f.Ah = some j)) (hg : ∀ g, blkOf A' = some g → blkOf f.Ah = some g ∨ w.heap.size ≤ g) (hR : Rising S') (hB : ∀ x ∈ S', 2 ≤ x ∧ x < s.z) : LLeft w w' f { s with H := S' } := by
  obtain ⟨h1, h2, h3, h4, h5⟩ := h
  obtain rfl : n' = S'.length := ho.1.symm
  refine ⟨⟨f.r, f.As, f.cs, A', c'⟩, rfl, ⟨⟨h1.1, h1.2.1, h1.2.2.1, hR, h1.2.2.2.2.1, hB⟩, hb, h3.turned t fun g hg' hT => ?_, ho, fun g hg' hg2 => ?_⟩, t.mono fun k _ hk => ?_, fun j hj => ?_⟩
  · rcases hT with hT | hT
    · exact h3.not_blk h2 list_ne_int (by rw [← hT]; exact hg')
    · exact h5 g hg' hT
  · rcases hg g hg2 with h6 | h6
    · exact h5 g hg' h6
    · have := h3.lt hg'; omega
  · rcases hk with hk | hk
    · exact .inl hk
    · exact .inr (.inr hk)
  · rcases hj with hj | hj | hj
    · exact .inl (.inl hj)
    · exact .inl (.inr (.inl hj))
    · rcases hg j hj with h6 | h6
      · exact .inl (.inr (.inr h6))
      · exact .inr h6
theorem LLeft.step {wr : World} {f1 : Fl} {s' : FSt} (h3 : Turned w wr f.own) (h4 : ∀ j, f1.own j → f.own j ∨ w.heap.size ≤ j) (h1 : f1.r = f.r) (k : LLeft wr w' f1 s') : LLeft w w' f s' := by
  obtain ⟨f2, k1, k2, k3, k4⟩ := k
  refine ⟨f2, k1.trans h1, k2, ?_, fun j hj => ?_⟩
  · refine ⟨k3.os.trans h3.os, k3.tape.trans h3.tape, k3.output.trans h3.output, Nat.le_trans h3.size k3.size, fun j hj hn => ?_⟩
    refine (k3.block j (Nat.lt_of_lt_of_le hj h3.size) fun h => ?_).trans (h3.block j hj hn)
    rcases h4 j h with h5 | h5
    · exact hn h5
    · omega
  · rcases k4 j hj with h5 | h5
    · exact h4 j h5
    · exact .inr (Nat.le_trans h3.size h5)
theorem LLeft.trans {w'' : World} {s' : FSt} (h : LLeft w w' f s) (k : ∀ f', f'.r = f.r → Lst w' f' s → LLeft w' w'' f' s') : LLeft w w'' f s' := by
  obtain ⟨f1, h1, h2, h3, h4⟩ := h
  exact LLeft.step h3 h4 h1 (k f1 h1 h2)
end

/-! ### what the answers are -/
def FSt.may (s : FSt) (x : Int) : Int := if 2 ≤ x ∧ x < s.z then (if x ∈ s.S ∨ x ∈ s.H then 8 else 0) else 2
def FSt.give (s : FSt) (x : Int) : FSt := if s.may x = 0 then { s with S := addI x s.S } else s
def FSt.hold (s : FSt) (x : Int) : FSt := if s.may x = 0 then { s with H := addI x s.H } else s
def FSt.taken (s : FSt) : Int × Int := match s.S with | [] => (0, 9) | x :: _ => (x, 0)
def FSt.take (s : FSt) : FSt := { s with S := s.S.tail }
def addAll (S : List Int) (H : List Int) : List Int := H.foldl (fun S x => addI x S) S
def FSt.settle (s : FSt) : FSt := { s with S := addAll s.S s.H, H := [] }

theorem inBounds_any (f : Fl) (s : FSt) (x : Int) (w : World) (h : Lst w f s) :
    Calls Try.prog 25 #[.pointer (some ⟨f.r, 0, none⟩), .int .i64 x] w fun e w' => e = .returned (.bool (decide (2 ≤ x ∧ x < s.z))) ∧ w = w' := by
  have c0 := h.c0
  clear h
  generalize s.z = z at c0 ⊢
  by_cases h2 : 2 ≤ x
  · have e : decide (2 ≤ x ∧ x < z) = decide (x < z) := by simp [h2]
    rw [e]
    go_enter Try.func25, Try.ntmps25
    go_wp2
    go_ret
    exact ⟨rfl, rfl⟩
  · have e : decide (2 ≤ x ∧ x < z) = false := by simp [h2]
    rw [e]
    go_enter Try.func25, Try.ntmps25
    go_wp2
    go_ret
    exact ⟨rfl, rfl⟩

theorem mayCome_nil (x : Int) (w : World) : Calls Try.prog 28 #[.pointer none, .int .i64 x] w fun e w' => e = .returned (.int .i64 1) ∧ w = w' := by
  go_enter Try.func28, Try.ntmps28
  go_wp2
  go_ret
  exact ⟨rfl, rfl⟩
theorem mayCome_any (f : Fl) (s : FSt) (x : Int) (w : World) (h : Lst w f s) :
    Calls Try.prog 28 #[.pointer (some ⟨f.r, 0, none⟩), .int .i64 x] w fun e w' => e = .returned (.int .i64 (s.may x)) ∧ ∃ q, w' = w.drewN q := by
  have HI := kept (inBounds_any f s x w h)
  by_cases hb : 2 ≤ x ∧ x < s.z
  · have e0 : decide (2 ≤ x ∧ x < s.z) = true := by simpa using hb
    have hs := h.1.short
    have H1 := kept (has_any_f f.r 1 _ _ f.As _ f.cs s.S x w h.2.1 rfl h.2.2.1 h.1.2.2.1 (by omega))
    have H2 := kept (fun q => has_any_f f.r 2 _ _ f.Ah _ f.ch s.H x (w.drewN q) h.2.1 rfl h.2.2.2.1 h.1.2.2.2.1 (by omega))
    rw [e0] at HI
    by_cases hS : x ∈ s.S
    · have e1 : decide (x ∈ s.S) = true := by simpa using hS
      have HE := kept (show s.may x = 8 by unfold FSt.may; rw [if_pos hb, if_pos (.inl hS)])
      rw [e1] at H1
      clear h hb e0 hs hS e1
      go_enter Try.func28, Try.ntmps28
      go_wp2_with (first | (go_at_call 25; (with_reducible refine (HI.out).mono ?_); rintro e w' ⟨rfl, rfl⟩) | (go_at_call 34; (with_reducible refine (H1.out).mono ?_); rintro e w' ⟨rfl, q, rfl⟩))
      go_ret
      exact ⟨ret_int HE.out.symm, q, rfl⟩
    · have e1 : decide (x ∈ s.S) = false := by simpa using hS
      rw [e1] at H1
      by_cases hH : x ∈ s.H
      · have e2 : decide (x ∈ s.H) = true := by simpa using hH
        have HE := kept (show s.may x = 8 by unfold FSt.may; rw [if_pos hb, if_pos (.inr hH)])
        rw [e2] at H2
        clear h hb e0 hs hS e1 hH e2
        go_enter Try.func28, Try.ntmps28
        go_wp2_with (first | (go_at_call 25; (with_reducible refine (HI.out).mono ?_); rintro e w' ⟨rfl, rfl⟩) | (go_at_call 34; (with_reducible refine (H1.out).mono ?_); rintro e w' ⟨rfl, q, rfl⟩) | (go_at_call 34; (with_reducible refine (H2.out q).mono ?_); rintro e w' ⟨rfl, q2, rfl⟩))
        go_ret
        exact ⟨ret_int HE.out.symm, q + q2, by simp [World.drewN]⟩
      · have e2 : decide (x ∈ s.H) = false := by simpa using hH
        have HE := kept (show s.may x = 0 by unfold FSt.may; rw [if_pos hb, if_neg (by rintro (h | h); exact hS h; exact hH h)])
        rw [e2] at H2
        clear h hb e0 hs hS e1 hH e2
        go_enter Try.func28, Try.ntmps28
        go_wp2_with (first | (go_at_call 25; (with_reducible refine (HI.out).mono ?_); rintro e w' ⟨rfl, rfl⟩) | (go_at_call 34; (with_reducible refine (H1.out).mono ?_); rintro e w' ⟨rfl, q, rfl⟩) | (go_at_call 34; (with_reducible refine (H2.out q).mono ?_); rintro e w' ⟨rfl, q2, rfl⟩))
        go_ret
        exact ⟨ret_int HE.out.symm, q + q2, by simp [World.drewN]⟩
  · have e0 : decide (2 ≤ x ∧ x < s.z) = false := by simpa using hb
    have HE := kept (show s.may x = 2 by unfold FSt.may; rw [if_neg hb])
    rw [e0] at HI
    clear h hb e0
    go_enter Try.func28, Try.ntmps28
    go_wp2_with (first | (go_at_call 25; (with_reducible refine (HI.out).mono ?_); rintro e w' ⟨rfl, rfl⟩))
    go_ret
    exact ⟨ret_int HE.out.symm, 0, rfl⟩

theorem addI_bounds {z x : Int} {S : List Int} (h : ∀ y ∈ S, 2 ≤ y ∧ y < z) (hx : 2 ≤ x ∧ x < z) : ∀ y ∈ addI x S, 2 ≤ y ∧ y < z := fun y hy => by
  rcases mem_addI.1 hy with rfl | hy
  · exact hx
  · exact h y hy
theorem may_zero {s : FSt} {x : Int} (h : s.may x = 0) : (2 ≤ x ∧ x < s.z) ∧ x ∉ s.S ∧ x ∉ s.H := by
  unfold FSt.may at h
  split at h
  · rename_i hb
    split at h
    · cases h
    · rename_i hn
      exact ⟨hb, fun h1 => hn (.inl h1), fun h1 => hn (.inr h1)⟩
  · cases h

theorem give_any (f : Fl) (s : FSt) (x : Int) (w : World) (h : Lst w f s) :
    Calls Try.prog 13 #[.pointer (some ⟨f.r, 0, none⟩), .int .i64 x] w fun e w' => e = .returned (.int .i64 (s.may x)) ∧ Hid (LLeft w w' f (s.give x)) := by
  have HM := kept (mayCome_any f s x w h)
  by_cases h0 : s.may x = 0
  · have hs := h.1.short
    have HA := kept (fun q => add_any_f f.r 1 _ _ f.As _ f.cs s.S x (w.drewN q) h.2.1 list_ne_int rfl h.2.2.1 h.1.2.2.1 (by omega))
    have HG := kept (show s.give x = { s with S := addI x s.S } by unfold FSt.give; rw [if_pos h0])
    have HL := kept h
    have HX := kept h0
    rw [h0] at HM
    clear h h0 hs
    go_enter Try.func13, Try.ntmps13
    go_wp2_with (first | (go_at_call 28; (with_reducible refine (HM.out).mono ?_); rintro e w' ⟨rfl, q, rfl⟩) | (go_at_call 26; (with_reducible refine (HA.out q).mono ?_); rintro e w2 ⟨rfl, h2⟩))
    go_ret
    refine ⟨ret_int HX.out.symm, kept ?_⟩
    rw [HG.out]
    obtain ⟨A', n', c', h3, h4, h5, h6⟩ := h2.out
    have hm := may_zero HX.out
    exact HL.out.spare_new h3 h4 (((Turned.refl w _).drewN q).trans h5) h6 (HL.out.1.2.2.1.addI x) (addI_bounds HL.out.1.2.2.2.2.1 hm.1)
  · have hb : (s.may x == 0) = false := by simpa using h0
    have HG := kept (show s.give x = s by unfold FSt.give; rw [if_neg h0])
    have HL := kept h
    generalize hmx : s.may x = m at HM h0 hb ⊢
    clear h h0 hmx
    go_enter Try.func13, Try.ntmps13
    go_wp2_with (first | (go_at_call 28; (with_reducible refine (HM.out).mono ?_); rintro e w' ⟨rfl, q, rfl⟩))
    go_ret
    refine ⟨rfl, kept ?_⟩
    rw [HG.out]
    exact HL.out.left_self q
theorem hold_any (f : Fl) (s : FSt) (x : Int) (w : World) (h : Lst w f s) :
    Calls Try.prog 14 #[.pointer (some ⟨f.r, 0, none⟩), .int .i64 x] w fun e w' => e = .returned (.int .i64 (s.may x)) ∧ Hid (LLeft w w' f (s.hold x)) := by
  have HM := kept (mayCome_any f s x w h)
  by_cases h0 : s.may x = 0
  · have hs := h.1.short
    have HA := kept (fun q => add_any_f f.r 2 _ _ f.Ah _ f.ch s.H x (w.drewN q) h.2.1 list_ne_int rfl h.2.2.2.1 h.1.2.2.2.1 (by omega))
    have HG := kept (show s.hold x = { s with H := addI x s.H } by unfold FSt.hold; rw [if_pos h0])
    have HL := kept h
    have HX := kept h0
    rw [h0] at HM
    clear h h0 hs
    go_enter Try.func14, Try.ntmps14
    go_wp2_with (first | (go_at_call 28; (with_reducible refine (HM.out).mono ?_); rintro e w' ⟨rfl, q, rfl⟩) | (go_at_call 26; (with_reducible refine (HA.out q).mono ?_); rintro e w2 ⟨rfl, h2⟩))
    go_ret
    refine ⟨ret_int HX.out.symm, kept ?_⟩
    rw [HG.out]
    obtain ⟨A', n', c', h3, h4, h5, h6⟩ := h2.out
    have hm := may_zero HX.out
    exact HL.out.held_new h3 h4 (((Turned.refl w _).drewN q).trans h5) h6 (HL.out.1.2.2.2.1.addI x) (addI_bounds HL.out.1.2.2.2.2.2 hm.1)
  · have hb : (s.may x == 0) = false := by simpa using h0
    have HG := kept (show s.hold x = s by unfold FSt.hold; rw [if_neg h0])
    have HL := kept h
    generalize hmx : s.may x = m at HM h0 hb ⊢
    clear h h0 hmx
    go_enter Try.func14, Try.ntmps14
    go_wp2_with (first | (go_at_call 28; (with_reducible refine (HM.out).mono ?_); rintro e w' ⟨rfl, q, rfl⟩))
    go_ret
    refine ⟨rfl, kept ?_⟩
    rw [HG.out]
    exact HL.out.left_self q
theorem give_nil (x : Int) (w : World) : Calls Try.prog 13 #[.pointer none, .int .i64 x] w fun e w' => e = .returned (.int .i64 1) ∧ w = w' := by
  go_enter Try.func13, Try.ntmps13
  go_wp2_with (first | (go_at_call 28; (with_reducible refine (mayCome_nil x _).mono ?_); rintro e w' ⟨rfl, rfl⟩))
  go_ret
  exact ⟨rfl, rfl⟩
theorem hold_nil (x : Int) (w : World) : Calls Try.prog 14 #[.pointer none, .int .i64 x] w fun e w' => e = .returned (.int .i64 1) ∧ w = w' := by
  go_enter Try.func14, Try.ntmps14
  go_wp2_with (first | (go_at_call 28; (with_reducible refine (mayCome_nil x _).mono ?_); rintro e w' ⟨rfl, rfl⟩))
  go_ret
  exact ⟨rfl, rfl⟩

theorem take_nil (w : World) : Calls Try.prog 11 #[.pointer none] w fun e w' => e = .returned (.tuple #[.int .i64 0, .int .i64 1]) ∧ w = w' := by
  go_enter Try.func11, Try.ntmps11
  go_wp2
  go_returns
  exact ⟨rfl, rfl⟩
theorem take_any (f : Fl) (s : FSt) (w : World) (h : Lst w f s) :
    Calls Try.prog 11 #[.pointer (some ⟨f.r, 0, none⟩)] w fun e w' => e = .returned (.tuple #[.int .i64 s.taken.1, .int .i64 s.taken.2]) ∧ Hid (LLeft w w' f s.take) := by
  obtain ⟨z, S, H⟩ := s
  have HL := kept h
  cases S with
  | nil =>
    have HT := kept (take_none_f f.r 1 _ _ f.As f.cs w h.2.1 rfl)
    clear h
    go_enter Try.func11, Try.ntmps11
    go_wp2_with (first | (go_at_call 27; (with_reducible refine (HT.out).mono ?_); rintro e w' ⟨rfl, rfl⟩))
    go_returns
    exact ⟨rfl, kept HL.out.left_same⟩
  | cons x S =>
    have HT := kept (take_any_f f.r 1 _ _ f.As S.length f.cs x S w h.2.1 list_ne_int rfl h.2.2.1)
    clear h
    go_enter Try.func11, Try.ntmps11
    go_wp2_with (first | (go_at_call 27; (with_reducible refine (HT.out).mono ?_); rintro e w' ⟨rfl, h2⟩))
    go_returns
    refine ⟨rfl, kept ?_⟩
    obtain ⟨h3, h4, h5, h6⟩ := h2.out
    exact HL.out.spare_new h3 h4 h5 (fun g hg => .inl hg) (Rising.cons.1 HL.out.1.2.2.1).2 (fun y hy => HL.out.1.2.2.2.2.1 y (List.mem_cons_of_mem _ hy))

theorem room_nil (w : World) : Calls Try.prog 15 #[.pointer none] w fun e w' => e = .returned (.int .i64 0) ∧ w = w' := by
  go_enter Try.func15, Try.ntmps15
  go_wp2
  go_ret
  exact ⟨rfl, rfl⟩
theorem room_any (f : Fl) (s : FSt) (w : World) (h : Lst w f s) : Calls Try.prog 15 #[.pointer (some ⟨f.r, 0, none⟩)] w fun e w' => e = .returned (.int .i64 (s.S.length : Int)) ∧ w = w' := by
  have c1 := h.c1
  clear h
  go_enter Try.func15, Try.ntmps15
  go_wp2
  go_ret
  exact ⟨rfl, rfl⟩
theorem spare_nil (w : World) : Calls Try.prog 16 #[.pointer none] w fun e w' => e = .returned (.slice none 0 0) ∧ w = w' := by
  go_enter Try.func16, Try.ntmps16
  go_wp2
  go_ret
  exact ⟨rfl, rfl⟩
theorem held_nil (w : World) : Calls Try.prog 17 #[.pointer none] w fun e w' => e = .returned (.slice none 0 0) ∧ w = w' := by
  go_enter Try.func17, Try.ntmps17
  go_wp2
  go_ret
  exact ⟨rfl, rfl⟩
theorem copy_nil (w : World) : Calls Try.prog 18 #[.pointer none] w fun e w' => e = .returned (.pointer none) ∧ w = w' := by
  go_enter Try.func18, Try.ntmps18
  go_wp2
  go_ret
  exact ⟨rfl, rfl⟩
theorem settle_nil (w : World) : Calls Try.prog 12 #[.pointer none] w fun e w' => e = .returned (.tuple #[]) ∧ w = w' := by
  go_enter Try.func12, Try.ntmps12
  go_wp2
  go_returns
  exact ⟨rfl, rfl⟩
/-- A slice of the answer's own. -/
def Says (w w' : World) (S : List Int) (A : Option Addr) (c : Nat) : Prop := OwI w' A S.length c S ∧ Below w.heap.size w w' ∧ ∀ g, blkOf A = some g → w.heap.size ≤ g
theorem spare_any (f : Fl) (s : FSt) (w : World) (h : Lst w f s) : Calls Try.prog 16 #[.pointer (some ⟨f.r, 0, none⟩)] w fun e w' => ∃ A c, e = .returned (.slice A s.S.length c) ∧ Hid (Says w w' s.S A c) := by
  have hs := h.1.short
  have HA := kept (all_any_f f.r 1 _ _ f.As _ f.cs s.S w h.2.1 rfl h.2.2.1 (by omega))
  clear h hs
  go_enter Try.func16, Try.ntmps16
  go_wp2_with (first | (go_at_call 29; (with_reducible refine (HA.out).mono ?_); rintro e w' ⟨A, c, rfl, h2⟩))
  go_ret
  exact ⟨A, c, rfl, h2⟩
theorem held_any (f : Fl) (s : FSt) (w : World) (h : Lst w f s) : Calls Try.prog 17 #[.pointer (some ⟨f.r, 0, none⟩)] w fun e w' => ∃ A c, e = .returned (.slice A s.H.length c) ∧ Hid (Says w w' s.H A c) := by
  have hs := h.1.short
  have HA := kept (all_any_f f.r 2 _ _ f.Ah _ f.ch s.H w h.2.1 rfl h.2.2.2.1 (by omega))
  clear h hs
  go_enter Try.func17, Try.ntmps17
  go_wp2_with (first | (go_at_call 29; (with_reducible refine (HA.out).mono ?_); rintro e w' ⟨A, c, rfl, h2⟩))
  go_ret
  exact ⟨A, c, rfl, h2⟩
end Go.Proofs.Ytahciaccnblfoaa
