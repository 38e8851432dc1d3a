/- Qd -/
import Derived.Test.YtblbhhijddcbeaaGreatDoorBQc
import Derived.Test.YtblbhhijddcbeaaGreatDoorBDa
import Derived.Test.YtblbhhijddcbeaaGreatDoorBMr
section
namespace Go.Proofs.YtblbhhijddcbeaaGreatDoor
open Go.ChangeShapes Go.WideShapes Go.ChangeAt Go.RowKit
set_option linter.unusedVariables false
set_option linter.unusedSimpArgs false
set_option maxRecDepth 100000
set_option maxHeartbeats 16000000
theorem encode_o (m : Mt) (er : Int) (her : (if rightM m then 0 else 4) = er) (w : World) (ht : m.txn < 18446744073709551616) (hF : Fours w) :
 Calls Tryz.prog 76 #[m.val] w fun e w' => ∃ A n c, e = .returned (.tuple #[.slice A n c, .int .i64 er]) ∧ Hid (er = 0 → n = 256 ∧ OwB w' A 256 c (sealed (bodyM m)) ∧ ∀ g, blkOf A = some g → w.heap.size ≤ g) ∧ Below w.heap.size w w' := by
 by_cases hr : rightM m = true
 · rw [if_pos hr] at her; subst her; refine (encode_m m w ht hr hF).mono ?_; rintro e w' ⟨A, c, he, ho, hb⟩; exact ⟨A, 256, c, he, kept (fun _ => ⟨rfl, OwB.of_row ho, fun g hg => by
    cases A with
    | none => cases hg
    | some a => cases hg; exact own_new ho a rfl⟩), hb⟩
 · rw [if_neg hr] at her; subst her; refine (encode_m_wrong m w (by simpa using hr)).mono ?_; rintro e w' ⟨he, hb⟩; exact ⟨none, 0, 0, he, kept (fun h => absurd h (by decide)), hb⟩
theorem Blk.two {w : World} {g : Nat} {t : TypeId} {u v : Value} (h : Blk w g t [u, v]) (x y : Value) : ((w.setCell ⟨g, 0, none⟩ x).setCell ⟨g, 1, none⟩ y).cell? ⟨g, 0, none⟩ = some x ∧ ((w.setCell ⟨g, 0, none⟩ x).setCell ⟨g, 1, none⟩ y).cell? ⟨g, 1, none⟩ = some y :=
 ⟨((h.set_ 0 x).set_ 1 y).cell 0, ((h.set_ 0 x).set_ 1 y).cell 1⟩
theorem layMeta_any (m : Mt) (er : Int) (her : (if rightM m then 0 else 4) = er) (w : World) (ht : m.txn < 18446744073709551616) (hF : Fours w) :
 Calls Tryz.prog 40 #[m.val] w fun e w' => ∃ A n c, e = .returned (.tuple #[.agg #[.int .i64 ((m.txn % 2 : Nat) : Int), .slice A n c], .int .i64 er]) ∧ Hid (er = 0 → n = 256 ∧ OwB w' A 256 c (sealed (bodyM m)) ∧ ∀ g, blkOf A = some g → w.heap.size ≤ g) ∧ Below w.heap.size w w' := by
 have HB0 := fun o o' => kept (((Below.refl _ w).alloc (Nat.le_refl _) o).alloc (by simp) o')
 have HE := fun o o' => kept (encode_o m er her _ ht (hF.below (HB0 o o').out))
 have hq : (m.txn : Int) % 2 = ((m.txn % 2 : Nat) : Int) := by omega
 have hcv : IntKind.i64.wrap ((m.txn : Int) % 2) = ((m.txn % 2 : Nat) : Int) := by simp [IntKind.wrap_i64]; omega
 obtain ⟨t, r, s, z⟩ := m; simp only at hq hcv; obtain ⟨q, hqq⟩ : ∃ q : Int, q = ((t % 2 : Nat) : Int) := ⟨_, rfl⟩
 have hct : ∀ W, (convert 72 3 (.int .u64 ((t : Int) % 2))).run Tryz.prog W = .ok (.int .i64 q) W := fun W => by
  simp only [convert, run_underlying (P := Tryz.prog) Tryz.underlying72, run_underlying (P := Tryz.prog) Tryz.underlying3, Sem.run_bind, Result.andThen_ok, Conv.intToInt, hcv]; rw [hqq]; rfl
 show Calls _ _ _ _ fun e w' => ∃ A n c, e = .returned (.tuple #[.agg #[.int .i64 ((t % 2 : Nat) : Int), .slice A n c], .int .i64 er]) ∧ _ ∧ _
 rw [← hqq]; clear hF her hcv hq hqq; go_enter Tryz.func40, Tryz.ntmps40; go_wp2_with fail
 with_reducible refine (HE _ _).out.mono ?_
 rintro e w1 ⟨A, n, c, rfl, h, hb⟩; have hm := ((Blk.new w 88 #[.int .u64 (t : Int), .int .i64 r, .int .i64 s, .int .i64 z]).alloc (.cells #[.int .i64 0, .slice none 0 0] 95)).below hb (by simp; omega); have hs := (Blk.new (w.alloc (.cells #[.int .u64 (t : Int), .int .i64 r, .int .i64 s, .int .i64 z] 88)) 95 #[.int .i64 0, .slice none 0 0]).below hb (by simp); rw [World.size_alloc] at hs; have n0 : w1.cell? ⟨w.heap.size, 0, none⟩ = some (.int .u64 (t : Int)) := hm.cell 0; have e0 : w1.cell? ⟨w.heap.size + 1, 0, none⟩ = some (.int .i64 0) := hs.cell 0; have e1 : w1.cell? ⟨w.heap.size + 1, 1, none⟩ = some (.slice none 0 0) := hs.cell 1; have f0 := hs.frozen 0; have f1 := hs.frozen 1; have HBB := kept (bel_to hb (HB0 _ _).out); have HS := kept hs; have HH := kept (fun h0 => h.out h0); have HSZ := kept hb.size; clear hb hm hs h; go_wp2; obtain ⟨v0, v1⟩ := HS.out.two (.int .i64 q) (.slice A n c); have hbx : Below w.heap.size w ((w1.setCell ⟨w.heap.size + 1, 0, none⟩ (.int .i64 q)).setCell ⟨w.heap.size + 1, 1, none⟩ (.slice A n c)) := (HBB.out.setCell (by simp) _).setCell (by simp) _; have hx : ∀ h0 : er = 0, n = 256 ∧ OwB ((w1.setCell ⟨w.heap.size + 1, 0, none⟩ (.int .i64 q)).setCell ⟨w.heap.size + 1, 1, none⟩ (.slice A n c)) A 256 c (sealed (bodyM ⟨t, r, s, z⟩)) ∧ ∀ g, blkOf A = some g → w.heap.size ≤ g := fun h0 => by
  obtain ⟨h1, h2, h3⟩ := HH.out h0; refine ⟨h1, h2.turned (((Turned.refl w1 (fun g => g = w.heap.size + 1)).setCell (fun _ => rfl) _).setCell (fun _ => rfl) _) (fun g hg e => ?_), fun g hg => ?_⟩
  · subst e; have := (h2.cl hg).uniq HS.out.cl; exact absurd this (by decide)
  · have := h3 g hg; simp at this; omega
 generalize (w1.setCell ⟨w.heap.size + 1, 0, none⟩ (.int .i64 q)).setCell ⟨w.heap.size + 1, 1, none⟩ (.slice A n c) = X at v0 v1 hbx hx ⊢; exact bodyPost_ret (v := .tuple #[.agg #[.int .i64 q, .slice A n c], .int .i64 er]) (by simp [results, Tryz.results40, go_sem, v0, v1]) rfl ⟨A, n, c, rfl, kept hx, hbx⟩
end Go.Proofs.YtblbhhijddcbeaaGreatDoor
end
