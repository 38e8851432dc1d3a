/-
  terrierlaw03.same: both show the same.
-/
import Derived.Test.YtfmljiidgaoihaaRsk
namespace Go.Proofs.Ytfmljiidgaoihaa
open Go.ChangeShapes Go.WideShapes Go.ChangeAt Go.RowKit
set_option linter.unusedVariables false
theorem RefD.entry {w : World} {base r n : Nat} {R : RSt} {cA : Option Addr} {cc q : Nat} (h : RefD w base r R) (hq : q < R.cache.length) (c1 : w.cell? ⟨r, 1, none⟩ = some (.slice cA n cc)) :
    ∃ g b c, cA = some ⟨g, 0, none⟩ ∧ w.cell? ⟨g, q * 2, none⟩ = some (.int .i64 R.cache[q].1) ∧ w.cell? ⟨g, q * 2 + 1, none⟩ = some (.slice (some ⟨b, 0, none⟩) 256 c) := by
  obtain ⟨_, _, cA', cc', _, c1', _, _, hen⟩ := h.opened2
  obtain ⟨g, v, hA, z1, z2, b, c, _, _, rfl, _⟩ := hen q hq
  rw [c1] at c1'
  simp only [Option.some.injEq, Value.slice.injEq] at c1'
  exact ⟨g, b, c, c1'.1.trans hA, z1, z2⟩
set_option maxRecDepth 100000 in
set_option maxHeartbeats 2000000 in
theorem alike_any (d : Dk) (base r : Nat) (S : St) (R : RSt) (w : World) (h : Dsk w d S) (hr : RefD w base r R) (hs : Sim S R) (ho : S.ok) (hdn : S.done ≤ 10000) :
    Calls Try.prog 29 #[.pointer (some ⟨d.r, 0, none⟩), .pointer (some ⟨r, 0, none⟩)] w fun e w' => e = .returned (.bool true) ∧ Below w.heap.size w w' := by
  obtain ⟨m, hm⟩ : ∃ m, S.pages.length = m := ⟨_, rfl⟩
  have hm' : R.pages.length = m := by rw [hs.pages]; exact hm
  obtain ⟨n, hn⟩ : ∃ n, R.cache.length = n := ⟨_, rfl⟩
  obtain ⟨dn, hd⟩ : ∃ dn, S.done = dn := ⟨_, rfl⟩
  have hd' : R.done = dn := by rw [hs.done]; exact hd
  have hsm := hs.few' hdn
  obtain ⟨pg, pc, cA, cc, c0, c1, _, _, c4⟩ := hr.cells
  rw [hm'] at c0
  rw [hn] at c1 hsm
  rw [hd'] at c4
  have hm1024 : m ≤ 1024 := by rw [← hm]; exact ho.2.1
  have hdl : dn ≤ 10000 := by rw [← hd]; exact hdn
  have HSZ : Hid (∀ X, Below w.heap.size w X → Calls Try.prog 18 #[.pointer (some ⟨d.r, 0, none⟩)] X fun e w' => e = .returned (.int .i64 (m : Int)) ∧ X = w') := kept (fun X hX => by rw [← hm]; exact size_any d S X (h.below hX))
  have HDO : Hid (∀ X, Below w.heap.size w X → Calls Try.prog 19 #[.pointer (some ⟨d.r, 0, none⟩)] X fun e w' => e = .returned (.int .i64 (dn : Int)) ∧ X = w') := kept (fun X hX => by rw [← hd]; exact done_any d S X (h.below hX))
  have HCA : Hid (∀ X, Below w.heap.size w X → Calls Try.prog 20 #[.pointer (some ⟨d.r, 0, none⟩)] X fun e w' => ∃ A c, e = .returned (.slice A n c) ∧ Hid (KsAt w' A n R.ks ∧ Below X.heap.size X w')) := kept (fun X hX => cached_ks d S R n X (h.below hX) hs hdn hn)
  have HREF : Hid (∀ X, Below w.heap.size w X → RefD X base r R) := kept (fun X hX => hr.below hX)
  have HRL : Hid (r < w.heap.size) := kept (World.block_lt_of_cell? w _ c0)
  have HC0 := kept c0
  have HC1 := kept c1
  have HC4 := kept c4
  have HN := kept hn
  have HRI : Hid (R.ks.Pairwise (· < ·)) := kept hs.ks_rise
  have HWF : Hid (∀ x, x ∈ R.ks → 0 ≤ x ∧ x < 1024) := kept (fun x hx => RSt.wf hs ho hx)
  have HB0 : Hid (Below w.heap.size w w) := kept (Below.refl _ w)
  clear h hr hs ho hdn hm hm' hd hd' hn
  go_enter Try.func29, Try.ntmps29
  go_wp2
  go_region_held3 (fun W' => W'.cell? ⟨r, 0, none⟩ = some (.slice (some ⟨pg, 0, none⟩) m pc) ∧ W'.cell? ⟨r, 1, none⟩ = some (.slice cA n cc) ∧ W'.cell? ⟨r, 4, none⟩ = some (.int .i64 (dn : Int))) ((first | exact ⟨c0, c1, c4⟩ | exact ⟨n0, n1, n4⟩))
    (first
      | (go_at_call 18; (with_reducible refine (HSZ.out _ HB0.out.drew).mono ?_); rintro e w' ⟨rfl, rfl⟩)
      | (go_at_call 19; (with_reducible refine (HDO.out _ HB0.out.drew).mono ?_); rintro e w' ⟨rfl, rfl⟩)
      | (go_at_call 20; (with_reducible refine (HCA.out _ HB0.out.drew).mono ?_); rintro e w3 ⟨A3, k3, rfl, h3⟩; have HB3 : Hid (Below w.heap.size w w3) := kept (below_of_drew h3.out.2); have n0 := (HB3.out.cell (p := ⟨r, 0, none⟩) HRL.out).trans HC0.out; have n1 := (HB3.out.cell (p := ⟨r, 1, none⟩) HRL.out).trans HC1.out; have n4 := (HB3.out.cell (p := ⟨r, 4, none⟩) HRL.out).trans HC4.out; clear h3))
  have HREST : Hid (w3.heap.size = w3.heap.size) := kept rfl
  clear c0 c1 c4 n0 n1 n4
  go_wp2_with (first | (go_at_call 20; (with_reducible refine (HCA.out _ HB3.out).mono ?_); rintro e w4 ⟨A4, k4, rfl, h4⟩; have HK4 : Hid (KsAt w4 A4 n R.ks) := kept h4.out.1; have HB4 : Hid (Below w.heap.size w w4) := kept (below_on h4.out.2 HB3.out); clear h4))
  go_loopw [42] (fun i wr => ∃ k : Nat, k ≤ n ∧ i = .int .i64 (k : Int) ∧ Hid (Below w4.heap.size w4 wr)) (fun i _ => n - (intOf i).toNat)
  case atStart => exact ⟨0, Nat.zero_le _, rfl, kept (Below.refl _ _)⟩
  case round =>
    obtain ⟨k, hkn, rfl, HBK⟩ := hrel
    by_cases hlt : k < n
    · obtain ⟨b4, o4, x, ha, hc, hk, hx⟩ := (HK4.out.below HBK.out).at_ hlt
      have HBR : Hid (Below w.heap.size w wr) := kept (below_on HBK.out HB4.out)
      have HXM : Hid (x ∈ R.ks) := kept (by rw [← hx]; exact List.getElem_mem hk)
      have HXX : Hid (∃ hk : k < R.ks.length, R.ks[k] = x) := kept ⟨hk, hx⟩
      have hx0 : 0 ≤ x := (HWF.out x HXM.out).1
      have hx1 : x < 1024 := (HWF.out x HXM.out).2
      clear hx hk
      subst ha
      by_cases h0 : k = 0
      · subst h0
        rw [Nat.add_zero] at hc
        have HB4R := HBK
        have X1 : wr.cell? ⟨r, 1, none⟩ = some (.slice cA n cc) := (HBR.out.cell (p := ⟨r, 1, none⟩) HRL.out).trans HC1.out
        go_wp2
        have HK0 := kept (seen_zero R.cache x)
        go_loopw [8, 64] (fun v j wx => ∃ q : Nat, q ≤ n ∧ j = .int .i64 (q : Int) ∧ v = .bool (seen R.cache x q) ∧ Hid (Below wr.heap.size wr wx)) (fun _ j _ => n - (intOf j).toNat)
        case atStart => exact ⟨0, Nat.zero_le _, rfl, by rw [HK0.out], kept (Below.refl _ _)⟩
        case round =>
          obtain ⟨q, hqn, rfl, rfl, HBX⟩ := hrel
          rename World => wx
          by_cases hql : q < n
          · have hq' : q < R.cache.length := by rw [HN.out]; exact hql
            have HBW : Hid (Below w.heap.size w wx) := kept (below_on HBX.out HBR.out)
            obtain ⟨g, b, c, rfl, z1, z2⟩ := (HREF.out wx HBW.out).entry hq' ((HBX.out.cell (p := ⟨r, 1, none⟩) (Nat.lt_of_lt_of_le HRL.out HBR.out.size)).trans X1)
            have HSS := kept (seen_succ R.cache x hq')
            have HBE : Hid (∀ o, Below wr.heap.size wr (wx.alloc o)) := kept (fun o => HBX.out.alloc HBX.out.size o)
            cases hb : seen R.cache x q with
            | true =>
              have HBT := kept hb
              clear hb
              go_wp2
              go_roundw
              case rel => exact ⟨q + 1, by omega, by go_num, by rw [HSS.out, HBT.out, Bool.true_or], kept (HBE.out _)⟩
              case measure => simp [intOf]; omega
            | false =>
              have HBT := kept hb
              clear hb
              by_cases hkx : R.cache[q].1 = x
              · have HKX := kept hkx
                rw [hkx] at z1
                clear hkx
                go_wp2
                go_roundw
                case rel => exact ⟨q + 1, by omega, by go_num, by rw [HSS.out, HBT.out, HKX.out]; simp, kept (HBE.out _)⟩
                case measure => simp [intOf]; omega
              · have hne : (R.cache[q].1 == x) = false := by simp [hkx]
                have HNE := kept hne
                clear hkx
                go_wp2
                go_roundw
                case rel => exact ⟨q + 1, by omega, by go_num, by rw [HSS.out, HBT.out, HNE.out, Bool.false_or], kept (HBE.out _)⟩
                case measure => simp [intOf]; omega
          · obtain rfl : q = n := by omega
            simp only [seen_all HXM.out HN.out]
            go_wp2
            go_roundw
            case rel => exact ⟨0 + 1, by omega, by go_num, kept (below_on HBX.out HB4R.out)⟩
            case measure => simp [intOf]; omega
      · obtain ⟨kk, rfl⟩ : ∃ kk, k = kk + 1 := ⟨k - 1, by omega⟩
        have hkb : ((kk : Int) + 1 == 0) = false := by simp; omega
        go_wp2_with (first | (go_at_call 20; (with_reducible refine (HCA.out _ HBR.out).mono ?_); rintro e w5 ⟨A5, k5, rfl, h5⟩; have HK5 : Hid (KsAt w5 A5 n R.ks) := kept h5.out.1; have HB5 : Hid (Below wr.heap.size wr w5) := kept h5.out.2; obtain ⟨b5, o5, x5, ha5, hc5, hk5, hx5⟩ := HK5.out.at_ (i := kk) (by omega); have hx5x : x5 < x := (by obtain ⟨hk, hx⟩ := HXX.out; rw [← hx, ← hx5]; exact List.pairwise_iff_getElem.1 HRI.out kk (kk + 1) hk5 hk (Nat.lt_succ_self kk)); have HBR5 : Hid (Below w.heap.size w w5) := kept (below_on HB5.out HBR.out); have HB4R5 : Hid (Below w4.heap.size w4 w5) := kept (below_on HB5.out HBK.out); have X1 : w5.cell? ⟨r, 1, none⟩ = some (.slice cA n cc) := (HBR5.out.cell (p := ⟨r, 1, none⟩) HRL.out).trans HC1.out; clear h5 hx5 hk5; subst ha5))
        have HK0 := kept (seen_zero R.cache x)
        go_loopw [8, 64] (fun v j wx => ∃ q : Nat, q ≤ n ∧ j = .int .i64 (q : Int) ∧ v = .bool (seen R.cache x q) ∧ Hid (Below w5.heap.size w5 wx)) (fun _ j _ => n - (intOf j).toNat)
        case atStart => exact ⟨0, Nat.zero_le _, rfl, by rw [HK0.out], kept (Below.refl _ _)⟩
        case round =>
          obtain ⟨q, hqn, rfl, rfl, HBX⟩ := hrel
          rename World => wx
          by_cases hql : q < n
          · have hq' : q < R.cache.length := by rw [HN.out]; exact hql
            have HBW : Hid (Below w.heap.size w wx) := kept (below_on HBX.out HBR5.out)
            obtain ⟨g, b, c, rfl, z1, z2⟩ := (HREF.out wx HBW.out).entry hq' ((HBX.out.cell (p := ⟨r, 1, none⟩) (Nat.lt_of_lt_of_le HRL.out HBR5.out.size)).trans X1)
            have HSS := kept (seen_succ R.cache x hq')
            have HBE : Hid (∀ o, Below w5.heap.size w5 (wx.alloc o)) := kept (fun o => HBX.out.alloc HBX.out.size o)
            cases hb : seen R.cache x q with
            | true =>
              have HBT := kept hb
              clear hb
              go_wp2
              go_roundw
              case rel => exact ⟨q + 1, by omega, by go_num, by rw [HSS.out, HBT.out, Bool.true_or], kept (HBE.out _)⟩
              case measure => simp [intOf]; omega
            | false =>
              have HBT := kept hb
              clear hb
              by_cases hkx : R.cache[q].1 = x
              · have HKX := kept hkx
                rw [hkx] at z1
                clear hkx
                go_wp2
                go_roundw
                case rel => exact ⟨q + 1, by omega, by go_num, by rw [HSS.out, HBT.out, HKX.out]; simp, kept (HBE.out _)⟩
                case measure => simp [intOf]; omega
              · have hne : (R.cache[q].1 == x) = false := by simp [hkx]
                have HNE := kept hne
                clear hkx
                go_wp2
                go_roundw
                case rel => exact ⟨q + 1, by omega, by go_num, by rw [HSS.out, HBT.out, HNE.out, Bool.false_or], kept (HBE.out _)⟩
                case measure => simp [intOf]; omega
          · obtain rfl : q = n := by omega
            simp only [seen_all HXM.out HN.out]
            go_wp2
            go_roundw
            case rel => exact ⟨kk + 1 + 1, by omega, by go_num, kept (below_on HBX.out HB4R5.out)⟩
            case measure => simp [intOf]; omega
    · obtain rfl : k = n := by omega
      go_wp2
      go_ret
      exact ⟨rfl, below_on HBK.out HB4.out⟩
end Go.Proofs.Ytfmljiidgaoihaa
