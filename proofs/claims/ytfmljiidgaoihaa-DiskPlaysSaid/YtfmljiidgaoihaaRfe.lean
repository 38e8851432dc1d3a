/-
  terrierref03.Disk: Sync.
-/
import Derived.Test.YtfmljiidgaoihaaRfd
namespace Go.Proofs.Ytfmljiidgaoihaa
open Go.ChangeShapes Go.WideShapes Go.ChangeAt Go.RowKit
set_option linter.unusedVariables false

theorem RefD.opened2 {w : World} {base r : Nat} {R : RSt} (h : RefD w base r R) : ∃ pg pc cA cc, w.cell? ⟨r, 0, none⟩ = some (.slice (some ⟨pg, 0, none⟩) R.pages.length pc) ∧ w.cell? ⟨r, 1, none⟩ = some (.slice cA R.cache.length cc) ∧ w.cell? ⟨r, 3, none⟩ = some (.bool R.dead) ∧
    (∀ i (hi : i < R.pages.length), ∃ v, w.cell? ⟨pg, i, none⟩ = some v ∧ RowV w v R.pages[i]) ∧
    ∀ i (hi : i < R.cache.length), ∃ g v, cA = some ⟨g, 0, none⟩ ∧ w.cell? ⟨g, i * 2, none⟩ = some (.int .i64 R.cache[i].1) ∧ w.cell? ⟨g, i * 2 + 1, none⟩ = some v ∧ RowV w v R.cache[i].2 := by
  obtain ⟨pg, pc, cA, cc, ps, cs, hb, hbr, hop, hrp, hoc, hrc⟩ := h
  refine ⟨pg, pc, cA, cc, hb.cell 0, hb.cell 1, hb.cell 3, fun i hi => ?_, fun i hi => ?_⟩
  · have hl : i < ps.length := by rw [hrp.1]; exact hi
    have hc := hop.cells (g := pg) rfl i ps[i] (List.getElem?_eq_getElem hl)
    rw [Addr.add_mid, Nat.zero_add] at hc
    exact ⟨_, hc, hrp.2 i hl hi⟩
  · have hl : i < cs.length := by rw [hrc.1]; exact hi
    rcases hoc.2 with ⟨_, h0⟩ | ⟨g, cap, cur, hv, _⟩
    · omega
    · injection hv with hA
      subst hA
      obtain ⟨e1, e2⟩ := ents_get cs hl
      have hc := hoc.cells (g := g) rfl (i * 2) _ e1
      have hc' := hoc.cells (g := g) rfl (i * 2 + 1) _ e2
      rw [Addr.add_mid, Nat.zero_add] at hc hc'
      obtain ⟨k1, hrow⟩ := hrc.2 i hl hi
      rw [k1] at hc
      exact ⟨g, _, rfl, hc, hc', hrow⟩
def F0 : Int → List UInt8 → List UInt8 → List UInt8 := fun _ x _ => x
/-- A round's head over the cache. -/
def RHead (w : World) (base r : Nat) (R : RSt) (F : Int → List UInt8 → List UInt8 → List UInt8) (cA : Option Addr) (cc k : Nat) (wr : World) : Prop :=
  RefD wr base r { R with pages := layAll F (R.cache.take k) R.pages } ∧ Turned w wr (RefK w base) ∧ wr.cell? ⟨r, 1, none⟩ = some (.slice cA R.cache.length cc)
/-- What a round finds. -/
theorem RHead.entry {w wr : World} {base r : Nat} {R : RSt} {F : Int → List UInt8 → List UInt8 → List UInt8} {cA : Option Addr} {cc k : Nat} (h : RHead w base r R F cA cc k wr) (hk : k < R.cache.length) {n : Nat} (hn : R.pages.length = n) (hkey : 0 ≤ R.cache[k].1 ∧ R.cache[k].1 < (n : Int)) :
    ∃ q pg pc g b c v0, R.cache[k].1 = ((q : Nat) : Int) ∧ q < n ∧ cA = some ⟨g, 0, none⟩ ∧ wr.cell? ⟨g, k * 2, none⟩ = some (.int .i64 (q : Int)) ∧ wr.cell? ⟨g, k * 2 + 1, none⟩ = some (.slice (some ⟨b, 0, none⟩) 256 c) ∧ RowV wr (.slice (some ⟨b, 0, none⟩) 256 c) R.cache[k].2 ∧
      wr.cell? ⟨r, 0, none⟩ = some (.slice (some ⟨pg, 0, none⟩) n pc) ∧ wr.cell? ⟨pg, q, none⟩ = some v0 ∧ RowV wr v0 ((layAll F (R.cache.take k) R.pages).getD q []) ∧ 256 ≤ c := by
  obtain ⟨h1, h2, h3⟩ := h
  obtain ⟨pg, pc, cA', cc', c0, c1, _, hpg, hen⟩ := h1.opened2
  have hl : (layAll F (R.cache.take k) R.pages).length = n := by rw [layAll_length]; exact hn
  obtain ⟨g, v, hA, z1, z2, hrow⟩ := hen k hk
  have c1' : wr.cell? ⟨r, 1, none⟩ = some (.slice cA' R.cache.length cc') := c1
  rw [h3] at c1'
  simp only [Option.some.injEq, Value.slice.injEq, true_and] at c1'
  obtain ⟨e1, _⟩ := c1'
  obtain ⟨q, hq⟩ := Int.eq_ofNat_of_zero_le hkey.1
  have hqn : q < n := by have := hkey.2; omega
  obtain ⟨v0, y1, y2⟩ := hpg q (by rw [hl]; exact hqn)
  have hrow' := hrow
  obtain ⟨b, c, _, _, rfl, hc, _, _⟩ := hrow
  rw [hl] at c0
  have z1' : wr.cell? ⟨g, k * 2, none⟩ = some (.int .i64 R.cache[k].1) := z1
  rw [hq] at z1'
  refine ⟨q, pg, pc, g, b, c, v0, hq, hqn, e1.trans hA, z1', z2, hrow', c0, y1, ?_, hc⟩
  rw [List.getD_eq_getElem?_getD, List.getElem?_eq_getElem (by rw [hl]; exact hqn)]
  exact y2
/-- A round done. -/
theorem RHead.step {w wr w1 : World} {base r : Nat} {R : RSt} {F : Int → List UInt8 → List UInt8 → List UInt8} {cA : Option Addr} {cc k : Nat} (h : RHead w base r R F cA cc k wr) (hk : k < R.cache.length) {n q pg pc : Nat} (hn : R.pages.length = n) (hq : R.cache[k].1 = (q : Int)) (hqn : q < n)
    (hb : Below wr.heap.size wr w1) (c0 : wr.cell? ⟨r, 0, none⟩ = some (.slice (some ⟨pg, 0, none⟩) n pc)) {v : Value} (hv : RowV w1 v (F (q : Int) R.cache[k].2 ((layAll F (R.cache.take k) R.pages).getD q []))) :
    RHead w base r R F cA cc (k + 1) (w1.setCell ⟨pg, q, none⟩ v) ∧ w1.frozen? ⟨pg, q, none⟩ = false ∧ pg ≠ r := by
  obtain ⟨h1, h2, h3⟩ := h
  have hl : (layAll F (R.cache.take k) R.pages).length = n := by rw [layAll_length]; exact hn
  have h1' := h1.below hb
  have hr1 : r < wr.heap.size := World.block_lt_of_cell? wr _ c0
  have c0' : w1.cell? ⟨r, 0, none⟩ = some (.slice (some ⟨pg, 0, none⟩) (layAll F (R.cache.take k) R.pages).length pc) := by rw [hl]; exact (hb.cell (p := ⟨r, 0, none⟩) hr1).trans c0
  obtain ⟨y1, y2, y3, y4⟩ := h1'.lay (i := q) (by rw [hl]; exact hqn) c0' hv
  refine ⟨⟨?_, (h2.ref_trans (Turned.of_below hb _)).ref_trans y2, ?_⟩, y3, y4⟩
  · rw [List.take_succ_eq_append_getElem hk, layAll_snoc, hq, Int.toNat_natCast]
    exact y1
  · rw [World.cell?_setCell_other w1 ⟨pg, q, none⟩ ⟨r, 1, none⟩ v (fun e => y4 (by injection e))]
    exact (hb.cell (p := ⟨r, 1, none⟩) hr1).trans h3
theorem RHead.drew {w wr : World} {base r : Nat} {R : RSt} {F : Int → List UInt8 → List UInt8 → List UInt8} {cA : Option Addr} {cc k : Nat} (h : RHead w base r R F cA cc k wr) : RHead w base r R F cA cc k wr.drew := ⟨h.1.drew, h.2.1.drew, h.2.2⟩
theorem rsync_no (base r : Nat) (R : RSt) (w : World) (h : RefD w base r R) (hd : R.dead = true) :
    Calls Try.prog 26 #[.pointer (some ⟨r, 0, none⟩)] w fun e w' => e = .returned (.int .i64 10) ∧ w = w' := by
  obtain ⟨pg, pc, cA, cc, c0, c1, c2, c3, c4⟩ := h.cells
  rw [hd] at c3
  clear h c0 c1 c2 c4 hd
  go_enter Try.func26, Try.ntmps26
  go_wp2
  go_ret
  exact ⟨rfl, rfl⟩
theorem Sim.keyed {S : St} {R : RSt} (h : Sim S R) (ho : S.ok) {k : Nat} (hk : k < R.cache.length) : 0 ≤ R.cache[k].1 ∧ R.cache[k].1 < (R.pages.length : Int) := by
  have hm : (rfind R.cache R.cache[k].1).isSome = true := (rfind_mem R.cache R.cache[k].1).2 ⟨k, hk, rfl⟩
  rw [h.cache] at hm
  obtain ⟨xs, hx⟩ := Option.isSome_iff_exists.1 hm
  rw [h.pages]
  exact ⟨(ho.2.2.1 _ _ hx).1, (ho.2.2.1 _ _ hx).2.1⟩
set_option maxRecDepth 100000 in
set_option maxHeartbeats 1000000 in
theorem rsync_ok (base r : Nat) (S : St) (R : RSt) (w : World) (h : RefD w base r R) (hs : Sim S R) (ho : S.ok) (hd : R.dead = false) (hdn : S.done ≤ 10000) :
    Calls Try.prog 26 #[.pointer (some ⟨r, 0, none⟩)] w fun e w' => e = .returned (.int .i64 0) ∧ Hid (RefD w' base r ({ R with pages := layAll F0 R.cache R.pages, cache := [] } : RSt).did ∧ Turned w w' (RefK w base)) := by
  obtain ⟨pg, pc, cA, cc, c0, c1, c2, c3, c4⟩ := h.cells
  rw [hd] at c3
  have H0 : Hid (RHead w base r R F0 cA cc 0 w) := kept ⟨by simpa [layAll] using h, Turned.refl _ _, c1⟩
  have HKEY : Hid (∀ k (hk : k < R.cache.length), 0 ≤ R.cache[k].1 ∧ R.cache[k].1 < (R.pages.length : Int)) := kept (fun k hk => hs.keyed ho hk)
  have hsm := hs.few' hdn
  have HDI : Hid (-1 ≤ R.fuse ∧ R.fuse ≤ 9223372036854775807 ∧ R.done ≤ 1000000) := kept ⟨hs.lo, hs.hi, by rw [hs.done]; omega⟩
  obtain ⟨m, hm⟩ : ∃ m, R.pages.length = m := ⟨_, rfl⟩
  have HM := kept hm
  obtain ⟨n, hn⟩ : ∃ n, R.cache.length = n := ⟨_, rfl⟩
  have HN := kept hn
  rw [hn] at c1 hsm
  clear h hs ho hd hdn c0 c2 c4 hm hn
  go_enter Try.func26, Try.ntmps26
  go_wp2
  go_loopw [14] (fun i wr => ∃ k : Nat, k ≤ n ∧ i = .int .i64 (k : Int) ∧ Hid (RHead w base r R F0 cA cc k wr)) (fun i _ => n - (intOf i).toNat)
  case atStart => exact ⟨0, Nat.zero_le _, rfl, H0⟩
  case round =>
    obtain ⟨k, hkn, rfl, HR⟩ := hrel
    by_cases hlt : k < n
    · have hk' : k < R.cache.length := by rw [HN.out]; exact hlt
      obtain ⟨q, pg, pc, g, b, c, v0, hq, hqn, rfl, z1, z2, hrow, y0, y1, hrow0, _⟩ := HR.out.entry hk' HM.out (by have := HKEY.out k hk'; rw [HM.out] at this; exact this)
      have HQ := kept hq
      have HROW := kept hrow
      have Y0 := kept y0
      have Y1 := kept y1
      clear hq hrow hrow0 y0 y1
      go_wp2
      have hbl : Below wr.heap.size wr (wr.alloc (.cells #[.int .i64 (q : Int), .slice (some ⟨b, 0, none⟩) 256 c] 90)) := (Below.refl _ wr).alloc (Nat.le_refl _) _
      have hblk := Blk.new wr 90 #[.int .i64 (q : Int), .slice (some ⟨b, 0, none⟩) 256 c]
      generalize (wr.alloc (.cells #[.int .i64 (q : Int), .slice (some ⟨b, 0, none⟩) 256 c] 90)) = w1 at hbl hblk ⊢
      have HBL := kept hbl
      have x0 : w1.cell? ⟨wr.heap.size, 0, none⟩ = some (.int .i64 (q : Int)) := hblk.cell 0
      have x1 : w1.cell? ⟨wr.heap.size, 1, none⟩ = some (.slice (some ⟨b, 0, none⟩) 256 c) := hblk.cell 1
      have u0 : w1.cell? ⟨r, 0, none⟩ = some (.slice (some ⟨pg, 0, none⟩) m pc) := (hbl.cell (p := ⟨r, 0, none⟩) (World.block_lt_of_cell? wr _ Y0.out)).trans Y0.out
      have u1 : w1.cell? ⟨pg, q, none⟩ = some v0 := (hbl.cell (p := ⟨pg, q, none⟩) (World.block_lt_of_cell? wr _ Y1.out)).trans Y1.out
      have HST : Hid (RHead w base r R F0 (some ⟨g, 0, none⟩) cc (k + 1) (w1.setCell ⟨pg, q, none⟩ (.slice (some ⟨b, 0, none⟩) 256 c)) ∧ w1.frozen? ⟨pg, q, none⟩ = false ∧ pg ≠ r) := kept (HR.out.step hk' HM.out HQ.out hqn HBL.out Y0.out (HROW.out.turned (Turned.of_below HBL.out (fun _ => False)) (fun _ _ _ _ => id)))
      have u2 : w1.frozen? ⟨pg, q, none⟩ = false := HST.out.2.1
      have hqm : (q : Int) < (m : Int) := by omega
      clear hbl hblk z1 z2
      refine wp_region_still_tail 9 (by kernel_rfl) (by kernel_rfl) ?_
      simp only [List.take_succ_cons, List.take_zero, List.drop_succ_cons, List.drop_zero]
      iterate 9 still_step
      refine wpStill_nil ?_
      change wpList _ _ _ _ _ w1.drew
      go_wp2
      go_roundw
      case rel => exact ⟨k + 1, by omega, by go_num, kept HST.out.1.drew⟩
      case measure => simp [intOf]; omega
    · obtain rfl : k = n := by omega
      have HCL := kept (HR.out.1.clear)
      have v1 := HR.out.2.2
      have v2 := HR.out.1.fz 1
      have HC := kept (did_any base r _ _ HCL.out.1 HDI.out.1 HDI.out.2.1 HDI.out.2.2)
      have HTT := kept HR.out.2.1
      go_wp2_with (first | (go_at_call 44; (with_reducible refine (HC.out).mono ?_); rintro e w3 ⟨rfl, h3⟩))
      go_ret
      have e : R.cache.take k = R.cache := List.take_of_length_le (by rw [HN.out]; exact Nat.le_refl _)
      have h4 := h3.out
      rw [e] at h4
      exact ⟨rfl, kept ⟨h4.1, (HTT.out.ref_trans HCL.out.2).ref_trans h4.2⟩⟩
end Go.Proofs.Ytfmljiidgaoihaa
