/-
  terrierref03.Disk: Set, at, Read.
-/
import Derived.Test.YtfmljiidgaoihaaRfa
namespace Go.Proofs.Ytfmljiidgaoihaa
open Go.ChangeShapes Go.WideShapes Go.ChangeAt Go.RowKit
set_option linter.unusedVariables false

def RSt.set (R : RSt) (n : Int) : RSt := { R with fuse := if n < 0 then -1 else n, dead := if n = 0 then true else R.dead }
theorem rset_any (base r : Nat) (R : RSt) (n : Int) (w : World) (h : RefD w base r R) :
    Calls Try.prog 27 #[.pointer (some ⟨r, 0, none⟩), .int .i64 n] w fun e w' => e = .returned (.tuple #[]) ∧ Hid (RefD w' base r (R.set n) ∧ Turned w w' (RefK w base)) := by
  obtain ⟨pg, pc, cA, cc, c0, c1, c2, c3, c4⟩ := h.cells
  have f2 := h.fz 2
  have f3 := h.fz 3
  have t1 : Turned w (w.setCell ⟨r, 2, none⟩ (.int .i64 n)) (fun i => i = r) := (Turned.refl w _).cell_r 2 _
  by_cases h1 : n < 0
  · have t3 := t1.cell_r 2 (.int .i64 (-1))
    have H : Hid (RefD ((w.setCell ⟨r, 2, none⟩ (.int .i64 n)).setCell ⟨r, 2, none⟩ (.int .i64 (-1))) base r (R.set n) ∧ Turned w ((w.setCell ⟨r, 2, none⟩ (.int .i64 n)).setCell ⟨r, 2, none⟩ (.int .i64 (-1))) (RefK w base)) :=
      kept ⟨h.set (R' := R.set n) rfl rfl t3 (fun pv cv hb => by
        have := (hb.set_ 2 (.int .i64 n)).set_ 2 (.int .i64 (-1))
        have hn : ¬ n = 0 := by omega
        simp only [RSt.set, h1, hn, if_true, if_false]
        simpa using this), t3.ref_of h⟩
    have hz : (n == 0) = false := by simp; omega
    clear h t1 t3 c0 c1
    go_enter Try.func27, Try.ntmps27
    go_wp2
    go_end0
    exact ⟨rfl, H⟩
  by_cases h0 : n = 0
  · subst h0
    have t3 := t1.cell_r 3 (.bool true)
    have H : Hid (RefD ((w.setCell ⟨r, 2, none⟩ (.int .i64 0)).setCell ⟨r, 3, none⟩ (.bool true)) base r (R.set 0) ∧ Turned w ((w.setCell ⟨r, 2, none⟩ (.int .i64 0)).setCell ⟨r, 3, none⟩ (.bool true)) (RefK w base)) :=
      kept ⟨h.set (R' := R.set 0) rfl rfl t3 (fun pv cv hb => by
        have := (hb.set_ 2 (.int .i64 0)).set_ 3 (.bool true)
        simpa [RSt.set] using this), t3.ref_of h⟩
    clear h t1 t3 c0 c1 h1
    go_enter Try.func27, Try.ntmps27
    go_wp2
    go_end0
    exact ⟨rfl, H⟩
  · have H : Hid (RefD (w.setCell ⟨r, 2, none⟩ (.int .i64 n)) base r (R.set n) ∧ Turned w (w.setCell ⟨r, 2, none⟩ (.int .i64 n)) (RefK w base)) :=
      kept ⟨h.set (R' := R.set n) rfl rfl t1 (fun pv cv hb => by
        have := hb.set_ 2 (.int .i64 n)
        simp only [RSt.set, h1, h0, if_false]
        simpa using this), t1.ref_of h⟩
    have hz : (n == 0) = false := by simp [h0]
    clear h t1 c0 c1 h0
    go_enter Try.func27, Try.ntmps27
    go_wp2
    go_end0
    exact ⟨rfl, H⟩

/-- A row in memory. -/
def RowAt (w : World) (v : Value) (xs : List UInt8) : Prop := ∃ b c, v = .slice (some ⟨b, 0, none⟩) 256 c ∧ 256 ≤ c ∧ Rd w (some ⟨b, 0, none⟩) 256 xs
theorem RefD.opened {w : World} {base r : Nat} {R : RSt} (h : RefD w base r R) : ∃ pg pc cA cc, w.cell? ⟨r, 0, none⟩ = some (.slice (some ⟨pg, 0, none⟩) R.pages.length pc) ∧ w.cell? ⟨r, 1, none⟩ = some (.slice cA R.cache.length cc) ∧ w.cell? ⟨r, 3, none⟩ = some (.bool R.dead) ∧
    (∀ i (hi : i < R.pages.length), ∃ v, w.cell? ⟨pg, i, none⟩ = some v ∧ RowAt w v R.pages[i]) ∧
    ∀ i (hi : i < R.cache.length), ∃ g v, cA = some ⟨g, 0, none⟩ ∧ w.cell? ⟨g, i * 2, none⟩ = some (.int .i64 R.cache[i].1) ∧ w.cell? ⟨g, i * 2 + 1, none⟩ = some v ∧ RowAt w v R.cache[i].2 := by
  obtain ⟨pg, pc, cA, cc, ps, cs, hb, hbr, hop, hrp, hoc, hrc⟩ := h
  refine ⟨pg, pc, cA, cc, hb.cell 0, hb.cell 1, hb.cell 3, fun i hi => ?_, fun i hi => ?_⟩
  · have hl : i < ps.length := by rw [hrp.1]; exact hi
    have hc := hop.cells (g := pg) rfl i ps[i] (List.getElem?_eq_getElem hl)
    rw [Addr.add_mid, Nat.zero_add] at hc
    obtain ⟨b, c, _, _, e, hc2, _, hr⟩ := hrp.2 i hl hi
    exact ⟨_, hc, b, c, e, hc2, hr⟩
  · have hl : i < cs.length := by rw [hrc.1]; exact hi
    rcases hoc.2 with ⟨_, h0⟩ | ⟨g, cap, cur, hv, _⟩
    · omega
    · injection hv with hA
      subst hA
      obtain ⟨e1, e2⟩ := ents_get cs hl
      have hc := hoc.cells (g := g) rfl (i * 2) _ e1
      have hc' := hoc.cells (g := g) rfl (i * 2 + 1) _ e2
      rw [Addr.add_mid, Nat.zero_add] at hc hc'
      obtain ⟨k1, b, c, _, _, e, hc2, _, hr⟩ := hrc.2 i hl hi
      rw [k1] at hc
      exact ⟨g, _, rfl, hc, hc', b, c, e, hc2, hr⟩
theorem at_found (base r : Nat) (R : RSt) (p : Int) (i : Nat) (w : World) (h : RefD w base r R) (hi : i < R.cache.length) (hk : R.cache[i].1 = p) (hf : ∀ j (hj : j < R.cache.length), j < i → R.cache[j].1 ≠ p) (hl : R.cache.length ≤ 100000) :
    Calls Try.prog 42 #[.pointer (some ⟨r, 0, none⟩), .int .i64 p] w fun e w' => e = .returned (.int .i64 (i : Int)) ∧ w = w' := by
  obtain ⟨pg, pc, cA, cc, c0, c1, c3, hpg, hen⟩ := h.opened
  have HE := kept hen
  have HK : Hid (∀ h : i < R.cache.length, R.cache[i].1 = p) := kept (fun _ => hk)
  have HF := kept hf
  obtain ⟨g, v0, rfl, z1, z2, z3⟩ := hen i hi
  clear z1 z2 z3 hen hk hf hpg h c0 c3
  obtain ⟨n, hn⟩ : ∃ n, R.cache.length = n := ⟨_, rfl⟩
  rw [hn] at c1
  have hin : i < n := by rw [← hn]; exact hi
  have hl' : n ≤ 100000 := by rw [← hn]; exact hl
  have HN := kept hn
  clear hn hi hl
  go_enter Try.func42, Try.ntmps42
  go_wp2
  go_loopw [11] (fun q wr => ∃ k : Nat, k ≤ i ∧ q = .int .i64 (k : Int) ∧ wr = w) (fun q _ => n - (intOf q).toNat)
  case atStart => exact ⟨0, Nat.zero_le _, rfl, rfl⟩
  case round =>
    obtain ⟨k, hki, rfl, rfl⟩ := hrel
    have hkn : k < n := by omega
    have hkn' : k < R.cache.length := by rw [HN.out]; exact hkn
    obtain ⟨g', v, eg, k1, _⟩ := HE.out k hkn'
    obtain rfl : g = g' := by injection eg with eg; injection eg
    by_cases hlt : k < i
    · have hne : (R.cache[k].1 == p) = false := by simpa using HF.out k hkn' hlt
      clear eg
      go_wp2
      go_roundw
      case rel => exact ⟨k + 1, by omega, by go_num, trivial⟩
      case measure => simp [intOf]; omega
    · obtain rfl : k = i := by omega
      rw [HK.out hkn'] at k1
      clear eg
      go_wp2
      go_ret
      exact ⟨rfl, rfl⟩
theorem at_none (base r : Nat) (R : RSt) (p : Int) (w : World) (h : RefD w base r R) (hf : ∀ j (hj : j < R.cache.length), R.cache[j].1 ≠ p) (hl : R.cache.length ≤ 100000) :
    Calls Try.prog 42 #[.pointer (some ⟨r, 0, none⟩), .int .i64 p] w fun e w' => e = .returned (.int .i64 (-1)) ∧ w = w' := by
  obtain ⟨pg, pc, cA, cc, c0, c1, c3, hpg, hen⟩ := h.opened
  have HE := kept hen
  have HF := kept hf
  clear hen hf hpg h c0 c3
  generalize hn : R.cache.length = n at c1 hl
  have HN := kept hn
  clear hn
  go_enter Try.func42, Try.ntmps42
  go_wp2
  go_loopw [11] (fun q wr => ∃ k : Nat, k ≤ n ∧ q = .int .i64 (k : Int) ∧ wr = w) (fun q _ => n - (intOf q).toNat)
  case atStart => exact ⟨0, Nat.zero_le _, rfl, rfl⟩
  case round =>
    obtain ⟨k, hkn, rfl, rfl⟩ := hrel
    by_cases hlt : k < n
    · have hkn' : k < R.cache.length := by rw [HN.out]; exact hlt
      obtain ⟨g, v, rfl, k1, _⟩ := HE.out k hkn'
      have hne : (R.cache[k].1 == p) = false := by simpa using HF.out k hkn'
      go_wp2
      go_roundw
      case rel => exact ⟨k + 1, by omega, by go_num, trivial⟩
      case measure => simp [intOf]; omega
    · obtain rfl : k = n := by omega
      go_wp2
      go_ret
      exact ⟨rfl, rfl⟩
end Go.Proofs.Ytfmljiidgaoihaa
