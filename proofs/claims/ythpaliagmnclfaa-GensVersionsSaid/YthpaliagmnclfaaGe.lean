/-
  package gens: generation.below, generation.newest.
-/
import Derived.Test.YthpaliagmnclfaaGd
namespace Go.Proofs.Ythpaliagmnclfaa
open Go.ChangeShapes Go.WideShapes Go.ChangeAt Go.RowKit Go.Deep
set_option linter.unusedVariables false
set_option linter.unusedSimpArgs false

theorem gstore2 {B : Nat} {w W : World} {b : Nat} {t : TypeId} {x y : Value} (hq : Blk W b t [x, y]) (hb : Below B w W) (hB : B ≤ b) (u v : Value) :
    (((W.setCell ⟨b, 0, none⟩ u).setCell ⟨b, 1, none⟩ v).cell? ⟨b, 0, none⟩ = some u ∧ ((W.setCell ⟨b, 0, none⟩ u).setCell ⟨b, 1, none⟩ v).cell? ⟨b, 1, none⟩ = some v) ∧ Below B w ((W.setCell ⟨b, 0, none⟩ u).setCell ⟨b, 1, none⟩ v) := by
  have h := (hq.set_ 0 u).set_ 1 v
  exact ⟨⟨h.cell 0, h.cell 1⟩, (hb.setCell (p := ⟨b, 0, none⟩) hB u).setCell (p := ⟨b, 1, none⟩) hB v⟩
theorem below_any (L : GL) (x : Gn) (b : Rv) (w : World) (h : RdR w L.A L.n x.ps) (hn : L.n ≤ 1000000) (hs : List.Pairwise (fun a b => ltR a b = true) x.ps) :
    Calls Try.prog 23 #[L.val, .agg #[.int .i64 b.1, .int .i64 b.2]] w fun e w' => e = .returned (.int .i64 (cntR x.ps b : Int)) ∧ Below w.heap.size w w' := by
  obtain ⟨c, v, A, n, k, e1, e2⟩ := L
  have HB0 := kept (((Below.refl w.heap.size w).alloc (Nat.le_refl _) (.cells #[.int .i64 c, .int .i64 v, .slice A n k, .int .i64 e1, .int .i64 e2] 60)).alloc (by simp) (.cells #[.int .i64 b.1, .int .i64 b.2] 29))
  have HS := kept (bsR A n k x.ps b _ (h.keeps (Keeps.of_below HB0.out)) hn hs)
  generalize ((cntR x.ps b : Nat) : Int) = m at HS ⊢
  clear h hn hs
  simp only [GL.val]
  go_enter Try.func23, Try.ntmps23
  go_wp2_with (first | (go_at_call 38; (with_reducible refine (HS.out).mono ?_); rintro e w1 ⟨⟨t, rfl⟩, hb1⟩; have HB1 := kept (bel_to hb1 HB0.out); clear hb1))
  go_returns
  exact ⟨rfl, HB1.out⟩
/-- A generation's last revision. -/
theorem newestx_any (L : GL) (x : Gn) (he : L.e = x.e) (hl : L.n = x.ps.length) (w : World) (h : RdR w L.A L.n x.ps) (hn : L.n ≤ 1000000) (h0 : x.ps ≠ []) :
    Calls Try.prog 50 #[L.val] w fun e w' => e = .returned (.agg #[.int .i64 (x.revs.getLastD (0, 0)).1, .int .i64 (x.revs.getLastD (0, 0)).2]) ∧ Below w.heap.size w w' := by
  obtain ⟨c, v, A, n, k, e1, e2⟩ := L
  have hB := kept (((Below.refl w.heap.size w).alloc (Nat.le_refl _) (.cells #[.int .i64 c, .int .i64 v, .slice A n k, .int .i64 e1, .int .i64 e2] 60)).alloc (by simp) (.cells #[.int .i64 0, .int .i64 0] 29))
  have HK := kept (And.intro ((Blk.new w 60 #[.int .i64 c, .int .i64 v, .slice A n k, .int .i64 e1, .int .i64 e2]).alloc (.cells #[.int .i64 0, .int .i64 0] 29)) (Blk.new (w.alloc (.cells #[.int .i64 c, .int .i64 v, .slice A n k, .int .i64 e1, .int .i64 e2] 60)) 29 #[.int .i64 0, .int .i64 0]))
  rw [World.size_alloc] at HK
  have HE := fun W => kept (ended_any ⟨c, v, A, n, k, e1, e2⟩ x he W)
  have hpos : 0 < n := by
    have hl' : n = x.ps.length := hl
    have := List.length_pos_iff.2 h0
    omega
  replace hl : n = x.ps.length := hl
  replace hn : n ≤ 1000000 := hn
  obtain ⟨g, o, hA, z0, z1⟩ := h.2 (n - 1) (by omega)
  simp only at hA
  subst hA
  have HZ := kept (And.intro z0 z1)
  have HR : Hid (x.ended = true → x.revs.getLastD (0, 0) = (e1, e2)) := kept (fun hx => by
    unfold Gn.revs; rw [if_pos hx]
    have : x.e = (e1, e2) := he.symm
    simp [this])
  have HR' : Hid (x.ended = false → x.revs.getLastD (0, 0) = x.ps[n - 1]'(by omega)) := kept (fun hx => by
    unfold Gn.revs
    simp only [hx, Bool.false_eq_true, if_false, List.append_nil]
    rw [List.getLastD_eq_getLast?, List.getLast?_eq_getElem?, List.getElem?_eq_getElem (by omega), Option.getD_some]
    congr 1
    omega)
  generalize x.ps[n - 1] = q at HR' HZ z0 z1
  generalize x.revs.getLastD (0, 0) = z at HR HR' ⊢
  clear z0 z1 h
  simp only [GL.val] at HE ⊢
  have hm : n - 1 < n := by omega
  obtain ⟨m, hm1⟩ : ∃ m : Nat, n - 1 = m := ⟨_, rfl⟩
  rw [hm1] at HZ
  have hnm : (n : Int) - 1 = (m : Int) := by omega
  have hm0 : (0 : Int) ≤ (m : Int) := by omega
  have hmn : (m : Int) < (n : Int) := by omega
  have hwr : wrap64 (m : Int) = (m : Int) := IntWalk.wrap64_in _ ⟨by omega, by omega⟩
  clear hl hm hm1 hpos hn he h0
  go_enter Try.func50, Try.ntmps50
  go_wp2_with fail
  generalize (w.alloc (.cells #[.int .i64 c, .int .i64 v, .slice (some ⟨g, o, none⟩) n k, .int .i64 e1, .int .i64 e2] 60)).alloc (.cells #[.int .i64 0, .int .i64 0] 29) = W at HK hB ⊢
  with_reducible refine (HE _).out.mono ?_
  rintro e w1 ⟨rfl, hb1⟩
  have hk1 := HK.out.1.below hb1 HK.out.1.lt
  have hk2 := HK.out.2.below hb1 HK.out.2.lt
  have g0 : w1.cell? ⟨w.heap.size, 0, none⟩ = some (.int .i64 c) := hk1.cell 0
  have g1 : w1.cell? ⟨w.heap.size, 1, none⟩ = some (.int .i64 v) := hk1.cell 1
  have g2 : w1.cell? ⟨w.heap.size, 2, none⟩ = some (.slice (some ⟨g, o, none⟩) n k) := hk1.cell 2
  have g3 : w1.cell? ⟨w.heap.size, 3, none⟩ = some (.int .i64 e1) := hk1.cell 3
  have g4 : w1.cell? ⟨w.heap.size, 4, none⟩ = some (.int .i64 e2) := hk1.cell 4
  have q0 : w1.cell? ⟨w.heap.size + 1, 0, none⟩ = some (.int .i64 0) := hk2.cell 0
  have q1 : w1.cell? ⟨w.heap.size + 1, 1, none⟩ = some (.int .i64 0) := hk2.cell 1
  have f0 := hk2.frozen 0
  have f1 := hk2.frozen 1
  have HB1 := kept (bel_to hb1 hB.out)
  have HK2 := kept hk2
  have z0 := (Keeps.of_below HB1.out).cell_ HZ.out.1
  have z1 := (Keeps.of_below HB1.out).cell_ HZ.out.2
  clear hk1 hk2 hb1
  cases hx : x.ended
  · have hz := HR'.out hx
    subst hz
    clear HR HR' hx
    go_wp2
    have hx2 := gstore2 HK2.out HB1.out (by omega) (.int .i64 z.1) (.int .i64 z.2)
    generalize (w1.setCell ⟨w.heap.size + 1, 0, none⟩ (.int .i64 z.1)).setCell ⟨w.heap.size + 1, 1, none⟩ (.int .i64 z.2) = X at hx2 ⊢
    obtain ⟨⟨v0, v1⟩, hbx⟩ := hx2
    exact bodyPost_ret (v := .agg #[(.int .i64 z.1), (.int .i64 z.2)]) (by simp [results, Try.results50, go_sem, v0, v1]) rfl ⟨rfl, hbx⟩
  · have hz := HR.out hx
    subst hz
    clear HR HR' hx
    go_wp2
    have hx2 := gstore2 HK2.out HB1.out (by omega) (.int .i64 e1) (.int .i64 e2)
    generalize (w1.setCell ⟨w.heap.size + 1, 0, none⟩ (.int .i64 e1)).setCell ⟨w.heap.size + 1, 1, none⟩ (.int .i64 e2) = X at hx2 ⊢
    obtain ⟨⟨v0, v1⟩, hbx⟩ := hx2
    exact bodyPost_ret (v := .agg #[(.int .i64 e1), (.int .i64 e2)]) (by simp [results, Try.results50, go_sem, v0, v1]) rfl ⟨rfl, hbx⟩
end Go.Proofs.Ythpaliagmnclfaa
