/-
  Texts laid together: Ji Jj.
-/
import Derived.Test.YtlckeebbjnhejaaGreatBJa
import Derived.Deep.Slices
import Derived.Deep.Fields
section
/-
  An argument []Act of stage 12, opened: acts with keys.
-/
namespace Go.Proofs.YtlckeebbjnhejaaGreat
open Go.ChangeShapes Go.WideShapes Go.ChangeAt Go.RowKit Go.Deep
set_option linter.unusedVariables false
set_option linter.unusedSimpArgs false

structure AcK where
  k : Int
  A : Option Addr
  n : Nat
  kc : Nat
  xs : List UInt8
  nx : Bool
  m : Int
  s : Int
  c : Int
  v : Int
/-- The slice at A of n acts. -/
def RdAcK (w : World) (A : Option Addr) (n : Nat) (X : Nat → AcK) : Prop :=
  (∀ i, i < n → ∃ b o, A = some ⟨b, o, none⟩ ∧ w.cell? ⟨b, o + i * 7, none⟩ = some (.int .i64 (X i).k) ∧ w.cell? ⟨b, o + i * 7 + 1, none⟩ = some (.slice (X i).A (X i).n (X i).kc) ∧ w.cell? ⟨b, o + i * 7 + 2, none⟩ = some (.bool (X i).nx) ∧ w.cell? ⟨b, o + i * 7 + 3, none⟩ = some (.int .i64 (X i).m) ∧ w.cell? ⟨b, o + i * 7 + 4, none⟩ = some (.int .i64 (X i).s) ∧ w.cell? ⟨b, o + i * 7 + 5, none⟩ = some (.int .i64 (X i).c) ∧ w.cell? ⟨b, o + i * 7 + 6, none⟩ = some (.int .i64 (X i).v)) ∧
    ∀ i, i < n → Rd w (X i).A (X i).n (X i).xs ∧ (X i).n ≤ maxLen ∧ wrap64 (X i).v = (X i).v
theorem RdAcK.keeps {w w' : World} {A : Option Addr} {n : Nat} {X : Nat → AcK} (h : RdAcK w A n X) (k : Keeps w w') : RdAcK w' A n X := ⟨fun i hi => by
  obtain ⟨b, o, e, h0, h1, h2, h3, h4, h5, h6⟩ := h.1 i hi
  exact ⟨b, o, e, k.cell_ h0, k.cell_ h1, k.cell_ h2, k.cell_ h3, k.cell_ h4, k.cell_ h5, k.cell_ h6⟩, fun i hi => ⟨(h.2 i hi).1.keeps k, (h.2 i hi).2⟩⟩
section
variable {H : Type} {enc : TypeId × Value → H} {P : Program} {W : World} {t e u : TypeId}
theorem opened_ack {f0 f1 f2 f3 f4 f5 r0 r1 : Field} (ht : P.underlying t = some (.slice e)) (he : P.underlying e = some (.struct #[f0, f1, f2, f3, f4, f5])) (ce : P.cellsOf e = 7)
    (k0 : P.underlying f0.type = some (.int .i64)) (k1 : P.underlying f1.type = some (.slice u)) (k1u : P.underlying u = some (.int .u8)) (cu : P.cellsOf u = 1) (k2 : P.underlying f2.type = some .bool) (k3 : P.underlying f3.type = some (.struct #[r0, r1])) (k4 : P.underlying f4.type = some (.int .i64)) (k5 : P.underlying f5.type = some (.int .i64))
    (q0 : P.underlying r0.type = some (.int .i64)) (q1 : P.underlying r1.type = some (.int .i64))
    (c0 : P.cellsOf f0.type = 1) (c1 : P.cellsOf f1.type = 1) (c2 : P.cellsOf f2.type = 1) (c3 : P.cellsOf f3.type = 2) (c4 : P.cellsOf f4.type = 1) (c5 : P.cellsOf f5.type = 1) (d0 : P.cellsOf r0.type = 1) (d1 : P.cellsOf r1.type = 1)
    (o0 : f0.offset = 0) (o1 : f1.offset = 1) (o2 : f2.offset = 2) (o3 : f3.offset = 3) (o4 : f4.offset = 5) (o5 : f5.offset = 6) (p0 : r0.offset = 0) (p1 : r1.offset = 1)
    {A : Option Addr} {n c : Nat} {d : DataW H} {p : List MemPlace} (h : DataW.Trod enc P W 0 (fun _ => true) true t (.slice A n c) d p) :
    n ≤ c ∧ c ≤ maxLen ∧ ∃ X, RdAcK W A n X := by
  obtain ⟨fuel, hf⟩ := h
  rcases Go.Deep.open_slice ht hf with ⟨hcs, hx⟩ | ⟨a, len, cap, m, fu, D, Pl, hcs, _, hl, hm, hmm, hx, hr⟩
  · simp [Value.cells] at hcs
    obtain ⟨rfl, rfl, rfl⟩ := hcs
    exact ⟨Nat.le_refl _, Nat.zero_le _, fun _ => ⟨0, none, 0, 0, [], false, 0, 0, 0, 0⟩, fun i hi => absurd hi (by omega), fun i hi => absurd hi (by omega)⟩
  · simp [Value.cells] at hcs
    obtain ⟨rfl, rfl, rfl⟩ := hcs
    simp only [if_true] at hmm
    subst hmm
    have each : ∀ i, i < n → ∃ x : AcK, (W.cell? (a.add (i * 7)) = some (.int .i64 x.k) ∧ W.cell? (a.add (i * 7 + 1)) = some (.slice x.A x.n x.kc) ∧ W.cell? (a.add (i * 7 + 2)) = some (.bool x.nx) ∧ W.cell? (a.add (i * 7 + 3)) = some (.int .i64 x.m) ∧ W.cell? (a.add (i * 7 + 4)) = some (.int .i64 x.s) ∧ W.cell? (a.add (i * 7 + 5)) = some (.int .i64 x.c) ∧ W.cell? (a.add (i * 7 + 6)) = some (.int .i64 x.v)) ∧ Rd W x.A x.n x.xs ∧ x.n ≤ maxLen ∧ wrap64 x.v = x.v := by
      intro i hi
      obtain ⟨cs', hc, htr⟩ := hr i (by omega)
      rw [ce] at hc
      obtain ⟨_, hcl, hat⟩ := World.cells?_some hc
      obtain ⟨xs, fu', _, _, _, hlen, hg⟩ := DataW.trod_struct he htr
      match xs, hlen, cs', hcl with
      | [y0, y1, y2, y3, y4, y5], _, [v0, v1, v2, v3, v4, v5, v6], _ =>
        have g0 := hg 0 f0 rfl
        have g1 := hg 1 f1 rfl
        have g2 := hg 2 f2 rfl
        have g3 := hg 3 f3 rfl
        have g4 := hg 4 f4 rfl
        have g5 := hg 5 f5 rfl
        rw [o0, c0] at g0
        rw [o1, c1] at g1
        rw [o2, c2] at g2
        rw [o3, c3] at g3
        rw [o4, c4] at g4
        rw [o5, c5] at g5
        obtain ⟨x, e0, _, wx⟩ := DataW.trod_int k0 (x := y0) (by simpa using g0)
        obtain ⟨y, e2, _⟩ := DataW.trod_bool k2 (x := y2) (by simpa using g2)
        have hkey : ∃ (A1 : Option Addr) (n1 kc : Nat) (zs : List UInt8), v1 = .slice A1 n1 kc ∧ Rd W A1 n1 zs ∧ n1 ≤ maxLen := by
          have g1' : DataW.trod enc P W 0 (fun _ => true) true fu' f1.type [v1] = some y1 := by simpa using g1
          rcases Go.Deep.open_slice k1 g1' with ⟨hcs1, _⟩ | ⟨a1, len1, cap1, m1, _, _, _, hcs1, _⟩
          · simp at hcs1
            exact ⟨none, 0, 0, [], hcs1, Rd.nil_ _ _, Nat.zero_le _⟩
          · simp at hcs1
            subst hcs1
            obtain ⟨zs, hz, hz2, hz3, _⟩ := opened_bytes k1 k1u cu (d := y1.1) (p := y1.2) ⟨fu', g1'⟩
            exact ⟨_, _, _, zs, rfl, hz, Nat.le_trans hz2 hz3⟩
        obtain ⟨A1, n1, kc, zs, e1, hrd, hn1⟩ := hkey
        obtain ⟨ws, fu2, _, _, _, hlen2, hg2⟩ := DataW.trod_struct k3 g3
        match ws, hlen2 with
        | [z0, z1], _ =>
          have s0 := hg2 0 r0 rfl
          have s1 := hg2 1 r1 rfl
          rw [p0, d0] at s0
          rw [p1, d1] at s1
          obtain ⟨z, e3, _, wz⟩ := DataW.trod_int q0 (x := z0) (by simpa using s0)
          obtain ⟨z', e4, _, wz'⟩ := DataW.trod_int q1 (x := z1) (by simpa using s1)
          obtain ⟨uu, e5, _, wu⟩ := DataW.trod_int k4 (x := y4) (by simpa using g4)
          obtain ⟨u', e6, _, wu'⟩ := DataW.trod_int k5 (x := y5) (by simpa using g5)
          simp at e0 e2 e3 e4 e5 e6
          subst e0 e1 e2 e3 e4 e5 e6
          have h0 := hat 0 (by omega)
          have h1 := hat 1 (by omega)
          have h2 := hat 2 (by omega)
          have h3 := hat 3 (by omega)
          have h4 := hat 4 (by omega)
          have h5 := hat 5 (by omega)
          have h6 := hat 6 (by omega)
          rw [add_add, Nat.add_zero] at h0
          rw [add_add] at h1 h2 h3 h4 h5 h6
          refine ⟨⟨x, A1, n1, kc, zs, y, z, z', uu, u'⟩, ⟨h0, h1, h2, h3, h4, h5, h6⟩, hrd, hn1, ?_⟩
          have hw : -9223372036854775808 ≤ u' ∧ u' ≤ 9223372036854775807 := by simpa [Lit.wf, IntKind.min, IntKind.max, IntKind.signed, IntKind.bits] using wu'
          exact IntWalk.wrap64_in _ hw
    have pick : ∀ i, ∃ x : AcK, i < n → (W.cell? (a.add (i * 7)) = some (.int .i64 x.k) ∧ W.cell? (a.add (i * 7 + 1)) = some (.slice x.A x.n x.kc) ∧ W.cell? (a.add (i * 7 + 2)) = some (.bool x.nx) ∧ W.cell? (a.add (i * 7 + 3)) = some (.int .i64 x.m) ∧ W.cell? (a.add (i * 7 + 4)) = some (.int .i64 x.s) ∧ W.cell? (a.add (i * 7 + 5)) = some (.int .i64 x.c) ∧ W.cell? (a.add (i * 7 + 6)) = some (.int .i64 x.v)) ∧ Rd W x.A x.n x.xs ∧ x.n ≤ maxLen ∧ wrap64 x.v = x.v := fun i => by
      by_cases hi : i < n
      · obtain ⟨x, h⟩ := each i hi
        exact ⟨x, fun _ => h⟩
      · exact ⟨⟨0, none, 0, 0, [], false, 0, 0, 0, 0⟩, fun h => absurd h hi⟩
    obtain ⟨X, hX⟩ := Classical.axiomOfChoice pick
    refine ⟨hl, hm, X, fun i hi => ?_, fun i hi => (hX i hi).2⟩
    have hz := (hX 0 (by omega)).1.1
    obtain ⟨h0, h1, h2, h3, h4, h5, h6⟩ := (hX i hi).1
    obtain ⟨b, o, s⟩ := a
    have hs : s = none := by
      have := World.cell?_spot hz
      simpa [Addr.add] using this
    subst hs
    rw [gadd_at] at h0 h1 h2 h3 h4 h5 h6
    exact ⟨b, o, rfl, h0, h1, h2, h3, h4, h5, h6⟩
end
end Go.Proofs.YtlckeebbjnhejaaGreat
end

section
/-
  Stage 12's law's own few: are acts few, and their keys short?
-/
namespace Go.Proofs.YtlckeebbjnhejaaGreat
open Go.ChangeShapes Go.WideShapes Go.ChangeAt Go.RowKit Go.Deep
set_option linter.unusedVariables false
set_option linter.unusedSimpArgs false
/-- What few tells: if it is true, all is within the bounds. -/
def Few (n : Nat) (X : Nat → AcK) : Prop := n ≤ 60 ∧ ∀ i, i < n → (X i).n ≤ 100
set_option maxHeartbeats 2000000 in
theorem few_any {w : World} {A : Option Addr} {n c : Nat} {X : Nat → AcK} (h : RdAcK w A n X) (hn : n ≤ c) (hc : c ≤ maxLen) :
    Calls Tryz.prog 9 #[.slice A n c] w fun e w' => ∃ t : Bool, e = .returned (.bool t) ∧ (t = true → Few n X) ∧ Below w.heap.size w w' := by
  have HX := kept h
  have hnm : (n : Int) ≤ 9223372036854775807 := by unfold maxLen at hc; omega
  clear h hn hc
  by_cases h60 : n ≤ 60
  · have hd : decide ((60 : Int) < (n : Int)) = false := decide_eq_false (by omega)
    have H0 : Hid (Below w.heap.size w w ∧ ∀ i, i < 0 → (X i).n ≤ 100) := kept ⟨Below.refl _ _, fun i h => absurd h (by omega)⟩
    go_enter Tryz.func9, Tryz.ntmps9
    go_wp2
    go_loopw [10] (fun i wr => ∃ (j : Nat), j ≤ n ∧ i = .int .i64 (j : Int) ∧ Hid (Below w.heap.size w wr ∧ ∀ i, i < j → (X i).n ≤ 100)) (fun i _ => n - (intOf i).toNat)
    case atStart => exact ⟨0, Nat.zero_le _, rfl, H0⟩
    case round =>
      obtain ⟨j, hj, rfl, HI⟩ := hrel
      clear H0
      have hj0 : (0 : Int) ≤ (j : Int) := by omega
      by_cases hjn : j < n
      · have hjn' : (j : Int) < (n : Int) := by omega
        have hwj : wrap64 ((j : Int) + 1) = (j : Int) + 1 := IntWalk.wrap64_in _ ⟨by omega, by omega⟩
        obtain ⟨b, o, hA, a0, a1, a2, a3, a4, a5, a6⟩ := (HX.out.keeps (Keeps.of_below HI.out.1)).1 j hjn
        subst hA
        have HJ := kept hjn
        have hba : Below wr.heap.size wr (wr.alloc (.cells #[.int .i64 (X j).k, .slice (X j).A (X j).n (X j).kc, .bool (X j).nx, .int .i64 (X j).m, .int .i64 (X j).s, .int .i64 (X j).c, .int .i64 (X j).v] 52)) := (Below.refl _ _).alloc (Nat.le_refl _) _
        have HB := kept (bel_to hba HI.out.1)
        by_cases h100 : (X j).n ≤ 100
        · have hd1 : decide ((100 : Int) < ((X j).n : Int)) = false := decide_eq_false (by omega)
          have HA : Hid (∀ i, i < j + 1 → (X i).n ≤ 100) := kept (fun i hi => by
            rcases Nat.lt_or_eq_of_le (Nat.le_of_lt_succ hi) with h1 | rfl
            · exact HI.out.2 i h1
            · exact h100)
          clear hjn hj hba h100
          go_wp2
          go_roundw
          case rel => exact ⟨j + 1, by have := HJ.out; omega, by go_num, kept ⟨HB.out, HA.out⟩⟩
          case measure => have := HJ.out; simp [intOf]; omega
        · have hd1 : decide ((100 : Int) < ((X j).n : Int)) = true := decide_eq_true (by omega)
          clear hjn hj hba h100
          go_wp2
          go_returns
          exact ⟨false, rfl, (fun h => by cases h), HB.out⟩
      · obtain rfl : j = n := by omega
        have HF := kept (And.intro h60 HI.out.2)
        go_wp2
        go_returns
        exact ⟨true, rfl, (fun _ => HF.out), HI.out.1⟩
  · have hd : decide ((60 : Int) < (n : Int)) = true := decide_eq_true (by omega)
    go_enter Tryz.func9, Tryz.ntmps9
    go_wp2
    go_returns
    exact ⟨false, rfl, (fun h => by cases h), Below.refl _ _⟩
end Go.Proofs.YtlckeebbjnhejaaGreat
end
