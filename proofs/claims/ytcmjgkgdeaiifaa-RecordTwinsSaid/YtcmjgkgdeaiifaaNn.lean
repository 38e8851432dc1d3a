/-
  What the document's Decode of a record answers of any bytes: a record, a tombstone's, or neither's.
-/
import Derived.Test.YtcmjgkgdeaiifaaNm
namespace Go.Proofs.Ytcmjgkgdeaiifaa
open Go.ChangeShapes Go.WideShapes Go.ChangeAt Go.RowKit
set_option linter.unusedVariables false
set_option linter.unusedSimpArgs false
attribute [local go_sem ↓] Go.wp_at_zero Go.wp_at_succ

set_option maxRecDepth 100000 in
theorem refDec_nil (A : Option Addr) (c : Nat) (w : World) :
    Calls Try.prog 20 #[.slice A 0 c] w fun e w' => ∃ L, e = .returned (.tuple #[vkv L zeroKv, .bool false, .bool false]) ∧ RdV w' L zeroKv ∧ Below w.heap.size w w' := by
  have hb1 := (Below.refl w.heap.size w).alloc (Nat.le_refl _) (.cells #[.slice none 0 0, .slice none 0 0, .int .i64 0, .int .i64 0, .int .i64 0, .int .i64 0] 24)
  have HZ := kept (Blk.new w 24 #[.slice none 0 0, .slice none 0 0, .int .i64 0, .int .i64 0, .int .i64 0, .int .i64 0])
  have HB := kept hb1
  clear hb1
  go_enter Try.func20, Try.ntmps20
  go_upto_region 2 with fail
  generalize w.alloc (.cells #[.slice none 0 0, .slice none 0 0, .int .i64 0, .int .i64 0, .int .i64 0, .int .i64 0] 24) = W7 at HZ HB ⊢
  have z0 : W7.cell? ⟨w.heap.size, 0, none⟩ = some (.slice none 0 0) := HZ.out.cell 0
  have z1 : W7.cell? ⟨w.heap.size, 1, none⟩ = some (.slice none 0 0) := HZ.out.cell 1
  have z2 : W7.cell? ⟨w.heap.size, 2, none⟩ = some (.int .i64 0) := HZ.out.cell 2
  have z3 : W7.cell? ⟨w.heap.size, 3, none⟩ = some (.int .i64 0) := HZ.out.cell 3
  have z4 : W7.cell? ⟨w.heap.size, 4, none⟩ = some (.int .i64 0) := HZ.out.cell 4
  have z5 : W7.cell? ⟨w.heap.size, 5, none⟩ = some (.int .i64 0) := HZ.out.cell 5
  have f0 := HZ.out.frozen 0
  have f1 := HZ.out.frozen 1
  have f2 := HZ.out.frozen 2
  have f3 := HZ.out.frozen 3
  have f4 := HZ.out.frozen 4
  have f5 := HZ.out.frozen 5
  have HQ := kept (And.intro (set6_blk HZ.out (.slice none 0 0) (.slice none 0 0) (.int .i64 0) (.int .i64 0) (.int .i64 0) (.int .i64 0)) (set6_below (q := w.heap.size) HB.out (Nat.le_refl _) (.slice none 0 0) (.slice none 0 0) (.int .i64 0) (.int .i64 0) (.int .i64 0) (.int .i64 0)))
  go_wp2
  obtain ⟨hq, hB⟩ := HQ.out
  unfold set6 at hq hB
  generalize ((((((W7.setCell ⟨w.heap.size, 0, none⟩ (.slice none 0 0)).setCell ⟨w.heap.size, 1, none⟩ (.slice none 0 0)).setCell ⟨w.heap.size, 2, none⟩ (.int .i64 0)).setCell ⟨w.heap.size, 3, none⟩ (.int .i64 0)).setCell ⟨w.heap.size, 4, none⟩ (.int .i64 0)).setCell ⟨w.heap.size, 5, none⟩ (.int .i64 0)) = Y at hq hB ⊢
  have y0 : Y.cell? ⟨w.heap.size, 0, none⟩ = some (.slice none 0 0) := hq.cell 0
  have y1 : Y.cell? ⟨w.heap.size, 1, none⟩ = some (.slice none 0 0) := hq.cell 1
  have y2 : Y.cell? ⟨w.heap.size, 2, none⟩ = some (.int .i64 0) := hq.cell 2
  have y3 : Y.cell? ⟨w.heap.size, 3, none⟩ = some (.int .i64 0) := hq.cell 3
  have y4 : Y.cell? ⟨w.heap.size, 4, none⟩ = some (.int .i64 0) := hq.cell 4
  have y5 : Y.cell? ⟨w.heap.size, 5, none⟩ = some (.int .i64 0) := hq.cell 5
  refine bodyPost_ret (v := .tuple #[.agg #[.slice none 0 0, .slice none 0 0, .int .i64 0, .int .i64 0, .int .i64 0, .int .i64 0], .bool false, .bool false]) ?_ rfl ?_
  · simp [results, Try.results20, go_sem, y0, y1, y2, y3, y4, y5]
  · exact ⟨⟨none, 0, 0, none, 0, 0⟩, rfl, ⟨Rd.nil_ _ _, Rd.nil_ _ _, Nat.le_refl _, Nat.le_refl _, Nat.zero_le _, Nat.zero_le _⟩, hB⟩
theorem pK_eq {xs : List UInt8} (h : 0 < xs.length) : pK xs = (xs[0].toNat, (1, 0)) := by
  have h1 : 0 + 1 ≤ xs.length := by omega
  unfold pK rnumX
  simp only [ne_eq, not_true_eq_false, if_false, h1, if_true, Nat.zero_add]
  congr 1
  cases xs with
  | nil => simp at h
  | cons x l => simp [part, num]
theorem no_empty {xs : List UInt8} (h : xs.length = 0) : NoDec xs :=
  ⟨fun y _ e => by rw [e, kvB_length] at h; omega, fun k _ e => by rw [e, headB_length] at h; omega⟩
theorem no_k {xs : List UInt8} (h2 : (pK xs).1 ≠ 2) (h : ¬ ((pK xs).1 = 1 ∧ Done xs (pV xs).2 ∧ rightV (xR xs) = true)) : NoDec xs := by
  by_cases h1 : (pK xs).1 = 1
  · exact no_kv h1 (fun q => h ⟨h1, q⟩)
  · exact no_odd h1 h2
theorem refDecode_any (A : Option Addr) (n c : Nat) (xs : List UInt8) (w : World) (hr : Rd w A n xs) (hnc : n ≤ c) (hn : n ≤ 140737488351232) :
    ∃ (x : Kv) (t ok : Bool), IsDec xs x t ok ∧
    Calls Try.prog 20 #[.slice A n c] w fun e w' => ∃ L, e = .returned (.tuple #[vkv L x, .bool t, .bool ok]) ∧ RdV w' L x ∧ Below w.heap.size w w' := by
  have hl := hr.1
  by_cases h0 : n = 0
  · subst h0
    exact ⟨zeroKv, false, false, (no_empty hl).is, refDec_nil A c w⟩
  have hpos : 0 < xs.length := by omega
  obtain ⟨a, rfl, hx0⟩ := hr.at_ (k := 0) hpos
  have hpk := pK_eq hpos
  have hT : rtextX xs 64 (1, 0) = ((pT xs).1, ((pT xs).2.1, (pT xs).2.2)) := by show _ = pT xs; unfold pT; rw [hpk]
  have hT' : rtextX xs 64 (1, 0) = ((pT xs).1, (pT xs).2) := hT
  have hk0 : (pK xs).1 = xs[0].toNat := by rw [hpk]
  by_cases k2 : xs[0].toNat = 2
  · have hx : (((xs[0].toNat : Nat) : Int) == 2) = true := by rw [k2]; rfl
    have k2' : (pK xs).1 = 2 := by rw [hk0, k2]
    by_cases he : (pT xs).2.2 = 0
    · by_cases hk : (pT xs).1 = []
      · exact ⟨zeroKv, false, false, (no_tomb k2' (fun h => by rw [hk] at h; simp [keyB] at h)).is, refDec_t2 a n c xs w hr hnc hn _ hx0 (by omega) _ _ _ hT hx he hk⟩
      · by_cases hs : headB 2 (pT xs).1 = xs
        · have hle : (pT xs).1.length ≤ 64 := rtextX_len
          have hkb : keyB (pT xs).1.length = true := by
            have : 0 < (pT xs).1.length := List.length_pos_iff.2 hk
            simp [keyB]; omega
          exact ⟨⟨(pT xs).1, [], 0, 0, 0, 0⟩, true, true, .inr (.inl ⟨rfl, rfl, hkb, rfl, hs.symm⟩), refDec_t4 a n c xs w hr hnc hn _ hx0 (by omega) _ _ _ hT hx he hk (decide_eq_true hs)⟩
        · exact ⟨zeroKv, false, false, (no_tomb k2' (fun h => hs (by have := (head_ate xs).done h.1; rw [k2'] at this; exact this.symm))).is, refDec_t3 a n c xs w hr hnc hn _ hx0 (by omega) _ _ _ hT hx he hk (decide_eq_false hs)⟩
    · exact ⟨zeroKv, false, false, (no_tomb k2' (fun h => he h.1.1)).is, refDec_t1 a n c xs w hr hnc hn _ hx0 (by omega) _ _ _ hT hx (beq_false_of_ne he)⟩
  · have hx : (((xs[0].toNat : Nat) : Int) == 2) = false := beq_false_of_ne (by omega)
    have k2' : (pK xs).1 ≠ 2 := by rw [hk0]; exact k2
    have h5 : rtextX xs 1024 (p4 xs).2 = ((pV xs).1, ((pV xs).2.1, (pV xs).2.2)) := rfl
    by_cases he : (pV xs).2.2 = 0
    · by_cases hb : rightV (xR xs) = true
      · by_cases hs : kvB (xR xs) = xs
        · exact ⟨xR xs, false, true, .inl ⟨rfl, rfl, hb, hs.symm⟩, refDec_k4 a n c xs w hr hnc hn _ hx0 (by omega) _ _ hT' hx _ _ _ _ _ _ _ _ _ _ _ rfl rfl rfl rfl h5 he hb (decide_eq_true hs)⟩
        · exact ⟨zeroKv, false, false, (no_k k2' (fun h => hs (kvB_read h.1 h.2.1 h.2.2).symm)).is, refDec_k3 a n c xs w hr hnc hn _ hx0 (by omega) _ _ hT' hx _ _ _ _ _ _ _ _ _ _ _ rfl rfl rfl rfl h5 he hb (decide_eq_false hs)⟩
      · exact ⟨zeroKv, false, false, (no_k k2' (fun h => hb h.2.2)).is, refDec_k2 a n c xs w hr hnc hn _ hx0 (by omega) _ _ hT' hx _ _ _ _ _ _ _ _ _ _ _ rfl rfl rfl rfl h5 he _ (Bool.eq_false_iff.2 hb) rfl⟩
    · exact ⟨zeroKv, false, false, (no_k k2' (fun h => he h.2.1.1)).is, refDec_k1 a n c xs w hr hnc hn _ hx0 (by omega) _ _ hT' hx _ _ _ _ _ _ _ _ _ _ _ rfl rfl rfl rfl h5 (bne_iff_ne.2 he)⟩
end Go.Proofs.Ytcmjgkgdeaiifaa
