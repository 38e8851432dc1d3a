/-
  What record's Decode answers of any bytes: a record, a tombstone's, or neither's.
-/
import Derived.Test.YtcmjgkgdeaiifaaNj
namespace Go.Proofs.Ytcmjgkgdeaiifaa
open Go.ChangeShapes Go.WideShapes Go.ChangeAt Go.RowKit
set_option linter.unusedVariables false
set_option linter.unusedSimpArgs false

theorem endE_done {n : Nat} {xs : List UInt8} {s : Nat × Int} (hn : xs.length = n) : endE n s.1 s.2 = 0 ↔ Done xs s := by
  subst hn
  unfold endE Done
  by_cases h : s.2 = 0
  · by_cases h' : s.1 < xs.length <;> simp [h, h']
  · simp [h]
theorem wrap_right {v : Nat} {z : Int} (hv : v < 18446744073709551616) (h0 : z = wrap64 (v : Int)) (h1 : 0 ≤ z) : z = (v : Int) := by
  subst h0
  unfold wrap64 at h1 ⊢
  omega
/-- The record that was read, where the first byte is 1. -/
def xR (xs : List UInt8) : Kv := ⟨(pT xs).1, (pV xs).1, wrap64 ((p1 xs).1 : Int), wrap64 ((p2 xs).1 : Int), wrap64 ((p3 xs).1 : Int), wrap64 ((p4 xs).1 : Int)⟩
theorem num8_lt (xs : List UInt8) (s : Nat × Int) : (rnumX xs 8 s).1 < 18446744073709551616 := rnumX_lt (k := 8)
theorem kvB_read {xs : List UInt8} (h1 : (pK xs).1 = 1) (hd : Done xs (pV xs).2) (hr : rightV (xR xs) = true) : xs = kvB (xR xs) := by
  have h := (all_ate xs).done hd
  have hr' := hr
  simp only [rightV, keyB, withinB, Bool.and_eq_true, decide_eq_true_eq, xR] at hr'
  obtain ⟨⟨⟨⟨⟨_, _⟩, h3, _⟩, h4, _⟩, h5, _⟩, h6, _⟩ := hr'
  replace h3 := of_decide_eq_true h3
  replace h4 := of_decide_eq_true h4
  replace h5 := of_decide_eq_true h5
  replace h6 := of_decide_eq_true h6
  have e1 : wrap64 ((p1 xs).1 : Int) = ((p1 xs).1 : Int) := wrap_right (num8_lt _ _) rfl (show 0 ≤ wrap64 ((p1 xs).1 : Int) by omega)
  have e2 : wrap64 ((p2 xs).1 : Int) = ((p2 xs).1 : Int) := wrap_right (num8_lt _ _) rfl (show 0 ≤ wrap64 ((p2 xs).1 : Int) by omega)
  have e3 : wrap64 ((p3 xs).1 : Int) = ((p3 xs).1 : Int) := wrap_right (num8_lt _ _) rfl (show 0 ≤ wrap64 ((p3 xs).1 : Int) by omega)
  have e4 : wrap64 ((p4 xs).1 : Int) = ((p4 xs).1 : Int) := wrap_right (num8_lt _ _) rfl (show 0 ≤ wrap64 ((p4 xs).1 : Int) by omega)
  unfold xR
  rw [e1, e2, e3, e4, kvB_nat, ← h1]
  exact h
theorem wrap_nat {v : Nat} (h : v ≤ 4611686018427387904) : wrap64 (v : Int) = (v : Int) := IntWalk.wrap64_in _ ⟨by omega, by omega⟩
theorem read_kv {xs : List UInt8} {y : Kv} (hy : rightV y = true) (e : xs = kvB y) : (pK xs).1 = 1 ∧ Done xs (pV xs).2 ∧ xR xs = y := by
  obtain ⟨c, m, v, l, e0, h1, h2, h3, h4, h5, h6, h7⟩ := rightV_nat hy
  rw [e0, kvB_nat] at e
  obtain ⟨a0, a1, a2, a3, a4, a5, a6, a7⟩ := parse_kv h6 h7 h1 h2 h3 h4 e
  refine ⟨a0, a7, ?_⟩
  unfold xR
  rw [a1, a2, a3, a4, a5, a6, wrap_nat h1, wrap_nat h2, wrap_nat h3, wrap_nat h4]
  exact e0.symm
/-- Neither's. -/
def NoDec (xs : List UInt8) : Prop := (∀ y, rightV y = true → xs ≠ kvB y) ∧ ∀ k : List UInt8, keyB k.length = true → xs ≠ headB 2 k
theorem NoDec.is {xs : List UInt8} (h : NoDec xs) : IsDec xs zeroKv false false := .inr (.inr ⟨rfl, rfl, rfl, h.1, h.2⟩)
theorem no_odd {xs : List UInt8} (h1 : (pK xs).1 ≠ 1) (h2 : (pK xs).1 ≠ 2) : NoDec xs :=
  ⟨fun y hy e => h1 (read_kv hy e).1, fun k hk e => h2 (parse_tomb (keyB_le hk) e).1⟩
theorem no_kv {xs : List UInt8} (h1 : (pK xs).1 = 1) (h : ¬ (Done xs (pV xs).2 ∧ rightV (xR xs) = true)) : NoDec xs :=
  ⟨fun y hy e => h ⟨(read_kv hy e).2.1, by rw [(read_kv hy e).2.2]; exact hy⟩, fun k hk e => by rw [(parse_tomb (keyB_le hk) e).1] at h1; omega⟩
theorem no_tomb {xs : List UInt8} (h2 : (pK xs).1 = 2) (h : ¬ (Done xs (pT xs).2 ∧ keyB (pT xs).1.length = true)) : NoDec xs :=
  ⟨fun y hy e => by rw [(read_kv hy e).1] at h2; omega, fun k hk e => h ⟨(parse_tomb (keyB_le hk) e).2.2, by rw [(parse_tomb (keyB_le hk) e).2.1]; exact hk⟩⟩
theorem decode_any (A : Option Addr) (n c : Nat) (xs : List UInt8) (w : World) (hr : Rd w A n xs) (hn : n ≤ 140737488355328) :
    ∃ (x : Kv) (t ok : Bool) (er : Int), IsDec xs x t ok ∧ (ok = true ∧ er = 0 ∨ ok = false ∧ er = 4) ∧
    Calls Try.prog 19 #[.slice A n c] w fun e w' => ∃ L, e = .returned (.tuple #[vkv L x, .bool t, .int .i64 er]) ∧ RdV w' L x ∧ Below w.heap.size w w' := by
  have hl := hr.1
  have hK : rnumX xs 1 (0, 0) = ((pK xs).1, (pK xs).2) := rfl
  have hT : rtextX xs 64 (pK xs).2 = ((pT xs).1, (pT xs).2) := rfl
  by_cases k1 : (pK xs).1 = 1
  · rw [k1] at hK
    by_cases he : endE n (pV xs).2.1 (pV xs).2.2 = 0
    · by_cases hb : rightV (xR xs) = true
      · exact ⟨xR xs, false, true, 0, .inl ⟨rfl, rfl, hb, kvB_read k1 ((endE_done hl).1 he) hb⟩, .inl ⟨rfl, rfl⟩,
          decode_kv A n c xs w hr hn _ _ _ hK hT _ _ _ _ _ _ _ _ _ _ rfl rfl rfl rfl rfl _ hb _ he rfl rfl⟩
      · exact ⟨zeroKv, false, false, 4, (no_kv k1 (fun h => hb h.2)).is, .inr ⟨rfl, rfl⟩,
          decode_kv_bad A n c xs w hr hn _ _ _ hK hT _ _ _ _ _ _ _ _ _ _ rfl rfl rfl rfl rfl _ (Bool.eq_false_iff.2 hb) _ he rfl rfl⟩
    · exact ⟨zeroKv, false, false, 4, (no_kv k1 (fun h => he ((endE_done hl).2 h.1))).is, .inr ⟨rfl, rfl⟩,
        decode_kv_end A n c xs w hr hn _ _ _ hK hT _ _ _ _ _ _ _ _ _ _ rfl rfl rfl rfl rfl _ rfl _ rfl (bne_iff_ne.2 he)⟩
  by_cases k2 : (pK xs).1 = 2
  · rw [k2] at hK
    by_cases he : endE n (pT xs).2.1 (pT xs).2.2 = 0
    · by_cases hb : keyB (pT xs).1.length = true
      · refine ⟨⟨(pT xs).1, [], 0, 0, 0, 0⟩, true, true, 0, .inr (.inl ⟨rfl, rfl, hb, rfl, ?_⟩), .inl ⟨rfl, rfl⟩, decode_tomb A n c xs w hr hn _ _ _ hK hT _ hb _ he rfl rfl⟩
        have := (head_ate xs).done ((endE_done hl).1 he)
        rwa [k2] at this
      · exact ⟨zeroKv, false, false, 4, (no_tomb k2 (fun h => hb h.2)).is, .inr ⟨rfl, rfl⟩,
          decode_tomb_bad A n c xs w hr hn _ _ _ hK hT _ (Bool.eq_false_iff.2 hb) _ he rfl rfl⟩
    · exact ⟨zeroKv, false, false, 4, (no_tomb k2 (fun h => he ((endE_done hl).2 h.1))).is, .inr ⟨rfl, rfl⟩,
        decode_tomb_end A n c xs w hr hn _ _ _ hK hT _ rfl _ rfl (bne_iff_ne.2 he)⟩
  · by_cases he : endE n (pT xs).2.1 (pT xs).2.2 = 0
    · exact ⟨zeroKv, false, false, 4, (no_odd k1 k2).is, .inr ⟨rfl, rfl⟩,
        decode_odd A n c xs w hr hn _ (beq_false_of_ne (by omega)) (beq_false_of_ne (by omega)) _ _ _ hK hT _ he rfl⟩
    · exact ⟨zeroKv, false, false, 4, (no_odd k1 k2).is, .inr ⟨rfl, rfl⟩,
        decode_odd_end A n c xs w hr hn _ (beq_false_of_ne (by omega)) (beq_false_of_ne (by omega)) _ _ _ hK hT _ rfl (bne_iff_ne.2 he)⟩
end Go.Proofs.Ytcmjgkgdeaiifaa
