/-
  package gens: how many puts are below a revision (slices.BinarySearchFunc over revisions); a generation's last revision.
-/
import Derived.Test.YthpaliagmnclfaaGc
namespace Go.Proofs.Ythpaliagmnclfaa
open Go.ChangeShapes Go.WideShapes Go.ChangeAt Go.RowKit Go.Deep
set_option linter.unusedVariables false
set_option linter.unusedSimpArgs false

/-- A row of revisions, whoever owns it. -/
def RdR (w : World) (A : Option Addr) (n : Nat) (ps : List Rv) : Prop := ps.length = n ∧ ∀ i (h : i < ps.length), ∃ g o, A = some ⟨g, o, none⟩ ∧ w.cell? ⟨g, o + i * 2, none⟩ = some (.int .i64 ps[i].1) ∧ w.cell? ⟨g, o + i * 2 + 1, none⟩ = some (.int .i64 ps[i].2)
theorem RdR.keeps {w w' : World} {A : Option Addr} {n : Nat} {ps : List Rv} (h : RdR w A n ps) (k : Keeps w w') : RdR w' A n ps := ⟨h.1, fun i hi => by
  obtain ⟨g, o, e, h1, h2⟩ := h.2 i hi
  exact ⟨g, o, e, k.cell_ h1, k.cell_ h2⟩⟩
theorem RdR.of_own {w : World} {base n k : Nat} {A : Option Addr} {ps : List Rv} (h : w.ownsRow base 29 2 (.slice A n k) n (rvC ps)) : RdR w A n ps := by
  have hl := h.1
  rw [rvC_length] at hl
  refine ⟨by omega, fun i hi => ?_⟩
  obtain ⟨g, rfl, _, _, _, _, hc⟩ := gown_at h (by omega)
  obtain ⟨h1, h2⟩ := rvC_at ps i hi
  exact ⟨g, 0, rfl, by rw [Nat.zero_add]; exact hc _ _ h1, by rw [Nat.zero_add]; exact hc _ _ h2⟩
theorem cmp_pair (a b : Rv) (w : World) :
    Calls Try.prog 37 #[.agg #[.int .i64 a.1, .int .i64 a.2], .agg #[.int .i64 b.1, .int .i64 b.2]] w fun e w' => e = .returned (.int .i64 (ordR a.1 a.2 b.1 b.2)) ∧ Below w.heap.size w w' := cmp_rev a.1 a.2 b.1 b.2 w
set_option maxRecDepth 100000 in
set_option maxHeartbeats 4000000 in
theorem bsR (A : Option Addr) (n k : Nat) (ps : List Rv) (b : Rv) (w : World) (h1 : RdR w A n ps) (hn : n ≤ 1000000) (hs : List.Pairwise (fun a b => ltR a b = true) ps) :
    Calls Try.prog 38 #[.slice A n k, .agg #[.int .i64 b.1, .int .i64 b.2], .func (.func 37) #[] #[]] w fun e w' => (∃ t, e = .returned (.tuple #[.int .i64 (cntR ps b : Int), .bool t])) ∧ Below w.heap.size w w' := by
  have HS := kept (cntR_sorted hs b)
  have HI := kept (h1.keeps (Keeps.alloc w (.cells #[.int .i64 b.1, .int .i64 b.2] 29)))
  have HN := kept h1.1
  have HB := kept ((Below.refl w.heap.size w).alloc (Nat.le_refl _) (.cells #[.int .i64 b.1, .int .i64 b.2] 29))
  have HT := kept (two_new w 29 b.1 b.2)
  have H0 : Hid (((∀ t (h : t < ps.length), t < 0 → ltR ps[t] b = true) ∧ ∀ t (h : t < ps.length), n ≤ t → ltR ps[t] b = false) ∧ Below (w.alloc (.cells #[.int .i64 b.1, .int .i64 b.2] 29)).heap.size (w.alloc (.cells #[.int .i64 b.1, .int .i64 b.2] 29)) (w.alloc (.cells #[.int .i64 b.1, .int .i64 b.2] 29))) := kept ⟨⟨fun t h h0 => absurd h0 (by omega), fun t h h0 => absurd h (by rw [h1.1]; omega)⟩, Below.refl _ _⟩
  clear h1 hs
  go_enter Try.func38, Try.ntmps38
  go_wp2
  generalize w.alloc (.cells #[.int .i64 b.1, .int .i64 b.2] 29) = W0 at HI HB HT H0 ⊢
  go_loopw [9, 10] (fun i j wr => ∃ a c : Nat, a ≤ c ∧ c ≤ n ∧ i = .int .i64 (a : Int) ∧ j = .int .i64 (c : Int) ∧ Hid (((∀ t (h : t < ps.length), t < a → ltR ps[t] b = true) ∧ ∀ t (h : t < ps.length), c ≤ t → ltR ps[t] b = false) ∧ Below W0.heap.size W0 wr)) (fun i j _ => (intOf j).toNat - (intOf i).toNat)
  case atStart => exact ⟨0, n, Nat.zero_le _, Nat.le_refl _, rfl, rfl, H0⟩
  case round =>
    obtain ⟨a, c, hab, hbn, rfl, rfl, HL⟩ := hrel
    clear H0
    obtain ⟨t0, t1⟩ := HT.out.keeps (Keeps.of_below HL.out.2)
    by_cases hlt : a < c
    · obtain ⟨q, hq⟩ : ∃ q, (a + c) / 2 = q := ⟨_, rfl⟩
      have hw1 : IntKind.i64.wrap ((a : Int) + (c : Int)) = (a : Int) + (c : Int) := by rw [IntKind.wrap_i64]; omega
      have hw2 : IntKind.u64.wrap ((a : Int) + (c : Int)) = (a : Int) + (c : Int) := by rw [IntKind.wrap_u64]; omega
      have hlt' : (a : Int) < (c : Int) := by omega
      have hq' : ((a : Int) + (c : Int)) / 2 = (q : Int) := by omega
      have hqn : q < n := by omega
      have hq0 : (0 : Int) ≤ (q : Int) := by omega
      have hqn' : (q : Int) < (n : Int) := by omega
      have hqI : q < ps.length := by rw [HN.out]; exact hqn
      obtain ⟨g, o, hA, z0, z1⟩ := (HI.out.keeps (Keeps.of_below HL.out.2)).2 q hqI
      have HP := (fun W => kept (cmp_pair ps[q] b W))
      have HQ : Hid (a ≤ q ∧ q < c ∧ q < ps.length) := kept ⟨by omega, by omega, hqI⟩
      have hor : decide (ordR ps[q].1 ps[q].2 b.1 b.2 < 0) = ltR ps[q] b := rfl
      have HOR : Hid (∀ h : q < ps.length, ltR ps[q] b = ltR (ps[q]'hqI) b) := kept (fun _ => rfl)
      generalize ps[q] = pq at HP z0 z1 hor HOR
      generalize ordR pq.1 pq.2 b.1 b.2 = or at HP hor
      generalize ltR pq b = l at hor HOR
      subst hA
      clear hq
      by_cases hneg : or < 0
      · have hneg' := hneg
        obtain rfl : l = true := by rw [← hor]; simpa using hneg
        clear hor
        have HX := kept (HL.out.2.drew)
        have HS0 := kept (show (fun W' => (W'.cell? ⟨w.heap.size, 0, none⟩ = some (.int .i64 b.1) ∧ W'.cell? ⟨w.heap.size, 1, none⟩ = some (.int .i64 b.2)) ∧ (W'.cell? ⟨g, o + q * 2, none⟩ = some (.int .i64 pq.1) ∧ W'.cell? ⟨g, o + q * 2 + 1, none⟩ = some (.int .i64 pq.2))) wr.drew from ⟨⟨t0, t1⟩, ⟨z0, z1⟩⟩)
        clear z0 z1 t0 t1
        go_wp2
        refine wp_region_held_drew (S := (fun W' => (W'.cell? ⟨w.heap.size, 0, none⟩ = some (.int .i64 b.1) ∧ W'.cell? ⟨w.heap.size, 1, none⟩ = some (.int .i64 b.2)) ∧ (W'.cell? ⟨g, o + q * 2, none⟩ = some (.int .i64 pq.1) ∧ W'.cell? ⟨g, o + q * 2 + 1, none⟩ = some (.int .i64 pq.2)))) (by kernel_rfl) ?_ (fun hHeld => ?_)
        · ((try dsimp only); (first | with_reducible exact HS0.out | with_reducible exact HS1.out))
        refine hand_take 0 (some 24) ?_ (by kernel_rfl) (by kernel_rfl) (by kernel_rfl) (by kernel_rfl) (by kernel_rfl) (fun _ _ _ h => h) ?_ (by assumption) ?_
        rotate_left
        · (intro o ho w hSw; (simp only [List.getElem?_toArray, List.getElem?_cons_succ, List.getElem?_cons_zero, Option.some.injEq] at ho); subst ho; (try dsimp only at hSw); go_simp; (first | done | with_reducible rfl))
        (try simp only [Act.put, List.setIfInBounds_toArray, List.set_cons_zero, List.set_cons_succ])
        refine hand_take 1 (some 25) ?_ (by kernel_rfl) (by kernel_rfl) (by kernel_rfl) (by kernel_rfl) (by kernel_rfl) (fun _ _ _ h => h) ?_ (by assumption) ?_
        rotate_left
        · (intro o ho w hSw; (simp only [List.getElem?_toArray, List.getElem?_cons_succ, List.getElem?_cons_zero, Option.some.injEq] at ho); subst ho; (try dsimp only at hSw); go_simp; (first | done | with_reducible rfl))
        (try simp only [Act.put, List.setIfInBounds_toArray, List.set_cons_zero, List.set_cons_succ])
        refine hand_take 2 (some 26) ?_ (by kernel_rfl) (by kernel_rfl) (by kernel_rfl) (by kernel_rfl) (by kernel_rfl) (fun _ _ _ h => h) ?_ (by assumption) ?_
        rotate_left
        · (intro o ho w hSw; (simp only [List.getElem?_toArray, List.getElem?_cons_succ, List.getElem?_cons_zero, Option.some.injEq] at ho); subst ho; (try dsimp only at hSw); go_simp; (first | done | with_reducible rfl))
        (try simp only [Act.put, List.setIfInBounds_toArray, List.set_cons_zero, List.set_cons_succ])
        refine hand_take 3 (some 27) ?_ (by kernel_rfl) (by kernel_rfl) (by kernel_rfl) (by kernel_rfl) (by kernel_rfl) (fun _ _ _ h => h) ?_ (by assumption) ?_
        rotate_left
        · (intro o ho w hSw; (simp only [List.getElem?_toArray, List.getElem?_cons_succ, List.getElem?_cons_zero, Option.some.injEq] at ho); subst ho; (try dsimp only at hSw); go_simp; (first | done | with_reducible rfl))
        (try simp only [Act.put, List.setIfInBounds_toArray, List.set_cons_zero, List.set_cons_succ])
        refine hand_take 4 (some 28) ?_ (by kernel_rfl) (by kernel_rfl) (by kernel_rfl) (by kernel_rfl) (by kernel_rfl) (fun _ _ _ h => h) ?_ (by assumption) ?_
        rotate_left
        · (intro o ho w hSw; (simp only [List.getElem?_toArray, List.getElem?_cons_succ, List.getElem?_cons_zero, Option.some.injEq] at ho); subst ho; (try dsimp only at hSw); go_simp; (first | done | with_reducible rfl))
        (try simp only [Act.put, List.setIfInBounds_toArray, List.set_cons_zero, List.set_cons_succ])
        refine hand_take 5 (some 29) ?_ (by kernel_rfl) (by kernel_rfl) (by kernel_rfl) (by kernel_rfl) (by kernel_rfl) (fun _ _ _ h => h) ?_ (by assumption) ?_
        rotate_left
        · (intro o ho w hSw; (simp only [List.getElem?_toArray, List.getElem?_cons_succ, List.getElem?_cons_zero, Option.some.injEq] at ho); subst ho; (try dsimp only at hSw); go_simp; (first | done | with_reducible rfl))
        (try simp only [Act.put, List.setIfInBounds_toArray, List.set_cons_zero, List.set_cons_succ])
        refine hand_ready 6 (by kernel_rfl) (by kernel_rfl) (fun o ho K hK => ?_)
        (simp only [List.getElem?_toArray, List.getElem?_cons_succ, List.getElem?_cons_zero, Option.some.injEq] at ho)
        subst ho
        go_simp
        (go_at_call 37; (with_reducible refine (HP _).out.mono ?_); rintro e w1 ⟨rfl, hb1⟩; have HS1 := kept (show (fun W' => (W'.cell? ⟨w.heap.size, 0, none⟩ = some (.int .i64 b.1) ∧ W'.cell? ⟨w.heap.size, 1, none⟩ = some (.int .i64 b.2)) ∧ (W'.cell? ⟨g, o + q * 2, none⟩ = some (.int .i64 pq.1) ∧ W'.cell? ⟨g, o + q * 2 + 1, none⟩ = some (.int .i64 pq.2))) w1 from ⟨⟨(Keeps.of_below hb1).cell_ HS0.out.1.1, (Keeps.of_below hb1).cell_ HS0.out.1.2⟩, ⟨(Keeps.of_below hb1).cell_ HS0.out.2.1, (Keeps.of_below hb1).cell_ HS0.out.2.2⟩⟩); have HB1 := kept (bel_to hb1 HX.out); clear hb1)
        (try go_wp2_with fail)
        refine hK.out _ _ ?_ (fun hHeld => ?_)
        · ((try dsimp only); (first | with_reducible exact HS0.out | with_reducible exact HS1.out))
        clear hK K
        (try simp only [Act.put, List.setIfInBounds_toArray, List.set_cons_zero, List.set_cons_succ])
        refine hand_take 7 (some 31) ?_ (by kernel_rfl) (by kernel_rfl) (by kernel_rfl) (by kernel_rfl) (by kernel_rfl) (fun _ _ _ h => h) ?_ (by assumption) ?_
        rotate_left
        · (intro o ho w hSw; (simp only [List.getElem?_toArray, List.getElem?_cons_succ, List.getElem?_cons_zero, Option.some.injEq] at ho); subst ho; (try dsimp only at hSw); go_simp; (first | done | with_reducible rfl))
        (try simp only [Act.put, List.setIfInBounds_toArray, List.set_cons_zero, List.set_cons_succ])
        refine wpAnyH_done (by kernel_rfl) ?_ _
        clear hHeld
        try go_wp2
        have HE : Hid (((∀ t (h : t < ps.length), t < q + 1 → ltR ps[t] b = true) ∧ ∀ t (h : t < ps.length), c ≤ t → ltR ps[t] b = false) ∧ Below W0.heap.size W0 w1) := kept ⟨⟨fun t h h0 => HS.out t q h HQ.out.2.2 (by omega) (HOR.out HQ.out.2.2), HL.out.1.2⟩, HB1.out⟩
        go_roundw
        case rel => exact ⟨q + 1, c, by have := HQ.out; omega, hbn, by go_num, rfl, HE⟩
        case measure => have := HQ.out; simp [intOf]; omega
      · have hneg' : ¬ or < 0 := hneg
        obtain rfl : l = false := by rw [← hor]; simpa using hneg
        clear hor
        have HX := kept (HL.out.2.drew)
        have HS0 := kept (show (fun W' => (W'.cell? ⟨w.heap.size, 0, none⟩ = some (.int .i64 b.1) ∧ W'.cell? ⟨w.heap.size, 1, none⟩ = some (.int .i64 b.2)) ∧ (W'.cell? ⟨g, o + q * 2, none⟩ = some (.int .i64 pq.1) ∧ W'.cell? ⟨g, o + q * 2 + 1, none⟩ = some (.int .i64 pq.2))) wr.drew from ⟨⟨t0, t1⟩, ⟨z0, z1⟩⟩)
        clear z0 z1 t0 t1
        go_wp2
        refine wp_region_held_drew (S := (fun W' => (W'.cell? ⟨w.heap.size, 0, none⟩ = some (.int .i64 b.1) ∧ W'.cell? ⟨w.heap.size, 1, none⟩ = some (.int .i64 b.2)) ∧ (W'.cell? ⟨g, o + q * 2, none⟩ = some (.int .i64 pq.1) ∧ W'.cell? ⟨g, o + q * 2 + 1, none⟩ = some (.int .i64 pq.2)))) (by kernel_rfl) ?_ (fun hHeld => ?_)
        · ((try dsimp only); (first | with_reducible exact HS0.out | with_reducible exact HS1.out))
        refine hand_take 0 (some 24) ?_ (by kernel_rfl) (by kernel_rfl) (by kernel_rfl) (by kernel_rfl) (by kernel_rfl) (fun _ _ _ h => h) ?_ (by assumption) ?_
        rotate_left
        · (intro o ho w hSw; (simp only [List.getElem?_toArray, List.getElem?_cons_succ, List.getElem?_cons_zero, Option.some.injEq] at ho); subst ho; (try dsimp only at hSw); go_simp; (first | done | with_reducible rfl))
        (try simp only [Act.put, List.setIfInBounds_toArray, List.set_cons_zero, List.set_cons_succ])
        refine hand_take 1 (some 25) ?_ (by kernel_rfl) (by kernel_rfl) (by kernel_rfl) (by kernel_rfl) (by kernel_rfl) (fun _ _ _ h => h) ?_ (by assumption) ?_
        rotate_left
        · (intro o ho w hSw; (simp only [List.getElem?_toArray, List.getElem?_cons_succ, List.getElem?_cons_zero, Option.some.injEq] at ho); subst ho; (try dsimp only at hSw); go_simp; (first | done | with_reducible rfl))
        (try simp only [Act.put, List.setIfInBounds_toArray, List.set_cons_zero, List.set_cons_succ])
        refine hand_take 2 (some 26) ?_ (by kernel_rfl) (by kernel_rfl) (by kernel_rfl) (by kernel_rfl) (by kernel_rfl) (fun _ _ _ h => h) ?_ (by assumption) ?_
        rotate_left
        · (intro o ho w hSw; (simp only [List.getElem?_toArray, List.getElem?_cons_succ, List.getElem?_cons_zero, Option.some.injEq] at ho); subst ho; (try dsimp only at hSw); go_simp; (first | done | with_reducible rfl))
        (try simp only [Act.put, List.setIfInBounds_toArray, List.set_cons_zero, List.set_cons_succ])
        refine hand_take 3 (some 27) ?_ (by kernel_rfl) (by kernel_rfl) (by kernel_rfl) (by kernel_rfl) (by kernel_rfl) (fun _ _ _ h => h) ?_ (by assumption) ?_
        rotate_left
        · (intro o ho w hSw; (simp only [List.getElem?_toArray, List.getElem?_cons_succ, List.getElem?_cons_zero, Option.some.injEq] at ho); subst ho; (try dsimp only at hSw); go_simp; (first | done | with_reducible rfl))
        (try simp only [Act.put, List.setIfInBounds_toArray, List.set_cons_zero, List.set_cons_succ])
        refine hand_take 4 (some 28) ?_ (by kernel_rfl) (by kernel_rfl) (by kernel_rfl) (by kernel_rfl) (by kernel_rfl) (fun _ _ _ h => h) ?_ (by assumption) ?_
        rotate_left
        · (intro o ho w hSw; (simp only [List.getElem?_toArray, List.getElem?_cons_succ, List.getElem?_cons_zero, Option.some.injEq] at ho); subst ho; (try dsimp only at hSw); go_simp; (first | done | with_reducible rfl))
        (try simp only [Act.put, List.setIfInBounds_toArray, List.set_cons_zero, List.set_cons_succ])
        refine hand_take 5 (some 29) ?_ (by kernel_rfl) (by kernel_rfl) (by kernel_rfl) (by kernel_rfl) (by kernel_rfl) (fun _ _ _ h => h) ?_ (by assumption) ?_
        rotate_left
        · (intro o ho w hSw; (simp only [List.getElem?_toArray, List.getElem?_cons_succ, List.getElem?_cons_zero, Option.some.injEq] at ho); subst ho; (try dsimp only at hSw); go_simp; (first | done | with_reducible rfl))
        (try simp only [Act.put, List.setIfInBounds_toArray, List.set_cons_zero, List.set_cons_succ])
        refine hand_ready 6 (by kernel_rfl) (by kernel_rfl) (fun o ho K hK => ?_)
        (simp only [List.getElem?_toArray, List.getElem?_cons_succ, List.getElem?_cons_zero, Option.some.injEq] at ho)
        subst ho
        go_simp
        (go_at_call 37; (with_reducible refine (HP _).out.mono ?_); rintro e w1 ⟨rfl, hb1⟩; have HS1 := kept (show (fun W' => (W'.cell? ⟨w.heap.size, 0, none⟩ = some (.int .i64 b.1) ∧ W'.cell? ⟨w.heap.size, 1, none⟩ = some (.int .i64 b.2)) ∧ (W'.cell? ⟨g, o + q * 2, none⟩ = some (.int .i64 pq.1) ∧ W'.cell? ⟨g, o + q * 2 + 1, none⟩ = some (.int .i64 pq.2))) w1 from ⟨⟨(Keeps.of_below hb1).cell_ HS0.out.1.1, (Keeps.of_below hb1).cell_ HS0.out.1.2⟩, ⟨(Keeps.of_below hb1).cell_ HS0.out.2.1, (Keeps.of_below hb1).cell_ HS0.out.2.2⟩⟩); have HB1 := kept (bel_to hb1 HX.out); clear hb1)
        (try go_wp2_with fail)
        refine hK.out _ _ ?_ (fun hHeld => ?_)
        · ((try dsimp only); (first | with_reducible exact HS0.out | with_reducible exact HS1.out))
        clear hK K
        (try simp only [Act.put, List.setIfInBounds_toArray, List.set_cons_zero, List.set_cons_succ])
        refine hand_take 7 (some 31) ?_ (by kernel_rfl) (by kernel_rfl) (by kernel_rfl) (by kernel_rfl) (by kernel_rfl) (fun _ _ _ h => h) ?_ (by assumption) ?_
        rotate_left
        · (intro o ho w hSw; (simp only [List.getElem?_toArray, List.getElem?_cons_succ, List.getElem?_cons_zero, Option.some.injEq] at ho); subst ho; (try dsimp only at hSw); go_simp; (first | done | with_reducible rfl))
        (try simp only [Act.put, List.setIfInBounds_toArray, List.set_cons_zero, List.set_cons_succ])
        refine wpAnyH_done (by kernel_rfl) ?_ _
        clear hHeld
        try go_wp2
        have HE : Hid (((∀ t (h : t < ps.length), t < a → ltR ps[t] b = true) ∧ ∀ t (h : t < ps.length), q ≤ t → ltR ps[t] b = false) ∧ Below W0.heap.size W0 w1) := kept ⟨⟨HL.out.1.1, fun t h h0 => by
          cases hv : ltR ps[t] b with
          | false => rfl
          | true =>
            have := HS.out q t HQ.out.2.2 h h0 hv
            rw [HOR.out HQ.out.2.2] at this
            cases this⟩, HB1.out⟩
        go_roundw
        case rel => exact ⟨a, q, by have := HQ.out; omega, by have := HQ.out; omega, rfl, rfl, HE⟩
        case measure => have := HQ.out; simp [intOf]; omega
    · obtain rfl : a = c := by omega
      have hlt' : ¬ (a : Int) < (a : Int) := by omega
      have HAN : Hid (cntR ps b = a) := kept (cut_uniq (fun p => ltR p b) (by rw [HN.out]; exact hbn) HL.out.1.1 HL.out.1.2)
      have HBE := kept (bel_to HL.out.2 HB.out)
      by_cases han : a < n
      · have han' : (a : Int) < (n : Int) := by omega
        have haI : a < ps.length := by rw [HN.out]; exact han
        obtain ⟨g, o, hA, z0, z1⟩ := (HI.out.keeps (Keeps.of_below HL.out.2)).2 a haI
        have HP := (fun W => kept (cmp_pair ps[a] b W))
        generalize ps[a] = pq at HP z0 z1
        generalize ordR pq.1 pq.2 b.1 b.2 = or at HP
        subst hA
        have hda : decide ((a : Int) < (n : Int)) = true := by simp; omega
        have HX := kept (HBE.out.drew)
        have HS0 := kept (show (fun W' => (W'.cell? ⟨w.heap.size, 0, none⟩ = some (.int .i64 b.1) ∧ W'.cell? ⟨w.heap.size, 1, none⟩ = some (.int .i64 b.2)) ∧ (W'.cell? ⟨g, o + a * 2, none⟩ = some (.int .i64 pq.1) ∧ W'.cell? ⟨g, o + a * 2 + 1, none⟩ = some (.int .i64 pq.2))) wr.drew from ⟨⟨t0, t1⟩, ⟨z0, z1⟩⟩)
        clear z0 z1 t0 t1
        go_wp2
        refine wp_region_held_drew (S := (fun W' => (W'.cell? ⟨w.heap.size, 0, none⟩ = some (.int .i64 b.1) ∧ W'.cell? ⟨w.heap.size, 1, none⟩ = some (.int .i64 b.2)) ∧ (W'.cell? ⟨g, o + a * 2, none⟩ = some (.int .i64 pq.1) ∧ W'.cell? ⟨g, o + a * 2 + 1, none⟩ = some (.int .i64 pq.2)))) (by kernel_rfl) ?_ (fun hHeld => ?_)
        · ((try dsimp only); (first | with_reducible exact HS0.out | with_reducible exact HS1.out))
        refine hand_take 0 (some 35) ?_ (by kernel_rfl) (by kernel_rfl) (by kernel_rfl) (by kernel_rfl) (by kernel_rfl) (fun _ _ _ h => h) ?_ (by assumption) ?_
        rotate_left
        · (intro o ho w hSw; (simp only [List.getElem?_toArray, List.getElem?_cons_succ, List.getElem?_cons_zero, Option.some.injEq] at ho); subst ho; (try dsimp only at hSw); go_simp; (first | done | with_reducible rfl))
        (try simp only [Act.put, List.setIfInBounds_toArray, List.set_cons_zero, List.set_cons_succ])
        refine hand_take 1 (some 36) ?_ (by kernel_rfl) (by kernel_rfl) (by kernel_rfl) (by kernel_rfl) (by kernel_rfl) (fun _ _ _ h => h) ?_ (by assumption) ?_
        rotate_left
        · (intro o ho w hSw; (simp only [List.getElem?_toArray, List.getElem?_cons_succ, List.getElem?_cons_zero, Option.some.injEq] at ho); subst ho; (try dsimp only at hSw); go_simp; (first | done | with_reducible rfl))
        (try simp only [Act.put, List.setIfInBounds_toArray, List.set_cons_zero, List.set_cons_succ])
        refine hand_take 2 (some 37) ?_ (by kernel_rfl) (by kernel_rfl) (by kernel_rfl) (by kernel_rfl) (by kernel_rfl) (fun _ _ _ h => h) ?_ (by assumption) ?_
        rotate_left
        · (intro o ho w hSw; (simp only [List.getElem?_toArray, List.getElem?_cons_succ, List.getElem?_cons_zero, Option.some.injEq] at ho); subst ho; (try dsimp only at hSw); go_simp; (first | done | with_reducible rfl))
        (try simp only [Act.put, List.setIfInBounds_toArray, List.set_cons_zero, List.set_cons_succ])
        refine hand_take 3 (some 38) ?_ (by kernel_rfl) (by kernel_rfl) (by kernel_rfl) (by kernel_rfl) (by kernel_rfl) (fun _ _ _ h => h) ?_ (by assumption) ?_
        rotate_left
        · (intro o ho w hSw; (simp only [List.getElem?_toArray, List.getElem?_cons_succ, List.getElem?_cons_zero, Option.some.injEq] at ho); subst ho; (try dsimp only at hSw); go_simp; (first | done | with_reducible rfl))
        (try simp only [Act.put, List.setIfInBounds_toArray, List.set_cons_zero, List.set_cons_succ])
        refine hand_take 4 (some 39) ?_ (by kernel_rfl) (by kernel_rfl) (by kernel_rfl) (by kernel_rfl) (by kernel_rfl) (fun _ _ _ h => h) ?_ (by assumption) ?_
        rotate_left
        · (intro o ho w hSw; (simp only [List.getElem?_toArray, List.getElem?_cons_succ, List.getElem?_cons_zero, Option.some.injEq] at ho); subst ho; (try dsimp only at hSw); go_simp; (first | done | with_reducible rfl))
        (try simp only [Act.put, List.setIfInBounds_toArray, List.set_cons_zero, List.set_cons_succ])
        refine hand_take 5 (some 40) ?_ (by kernel_rfl) (by kernel_rfl) (by kernel_rfl) (by kernel_rfl) (by kernel_rfl) (fun _ _ _ h => h) ?_ (by assumption) ?_
        rotate_left
        · (intro o ho w hSw; (simp only [List.getElem?_toArray, List.getElem?_cons_succ, List.getElem?_cons_zero, Option.some.injEq] at ho); subst ho; (try dsimp only at hSw); go_simp; (first | done | with_reducible rfl))
        (try simp only [Act.put, List.setIfInBounds_toArray, List.set_cons_zero, List.set_cons_succ])
        refine hand_take 6 (some 41) ?_ (by kernel_rfl) (by kernel_rfl) (by kernel_rfl) (by kernel_rfl) (by kernel_rfl) (fun _ _ _ h => h) ?_ (by assumption) ?_
        rotate_left
        · (intro o ho w hSw; (simp only [List.getElem?_toArray, List.getElem?_cons_succ, List.getElem?_cons_zero, Option.some.injEq] at ho); subst ho; (try dsimp only at hSw); go_simp; (first | done | with_reducible rfl))
        (try simp only [Act.put, List.setIfInBounds_toArray, List.set_cons_zero, List.set_cons_succ])
        refine hand_take 7 (some 42) ?_ (by kernel_rfl) (by kernel_rfl) (by kernel_rfl) (by kernel_rfl) (by kernel_rfl) (fun _ _ _ h => h) ?_ (by assumption) ?_
        rotate_left
        · (intro o ho w hSw; (simp only [List.getElem?_toArray, List.getElem?_cons_succ, List.getElem?_cons_zero, Option.some.injEq] at ho); subst ho; (try dsimp only at hSw); go_simp; (first | done | with_reducible rfl))
        (try simp only [Act.put, List.setIfInBounds_toArray, List.set_cons_zero, List.set_cons_succ])
        refine hand_take 8 (some 43) ?_ (by kernel_rfl) (by kernel_rfl) (by kernel_rfl) (by kernel_rfl) (by kernel_rfl) (fun _ _ _ h => h) ?_ (by assumption) ?_
        rotate_left
        · (intro o ho w hSw; (simp only [List.getElem?_toArray, List.getElem?_cons_succ, List.getElem?_cons_zero, Option.some.injEq] at ho); subst ho; (try dsimp only at hSw); go_simp; (first | done | with_reducible rfl))
        (try simp only [Act.put, List.setIfInBounds_toArray, List.set_cons_zero, List.set_cons_succ])
        refine hand_take 9 (some 44) ?_ (by kernel_rfl) (by kernel_rfl) (by kernel_rfl) (by kernel_rfl) (by kernel_rfl) (fun _ _ _ h => h) ?_ (by assumption) ?_
        rotate_left
        · (intro o ho w hSw; (simp only [List.getElem?_toArray, List.getElem?_cons_succ, List.getElem?_cons_zero, Option.some.injEq] at ho); subst ho; (try dsimp only at hSw); go_simp; (first | done | with_reducible rfl))
        (try simp only [Act.put, List.setIfInBounds_toArray, List.set_cons_zero, List.set_cons_succ])
        refine hand_take 10 (some 45) ?_ (by kernel_rfl) (by kernel_rfl) (by kernel_rfl) (by kernel_rfl) (by kernel_rfl) (fun _ _ _ h => h) ?_ (by assumption) ?_
        rotate_left
        · (intro o ho w hSw; (simp only [List.getElem?_toArray, List.getElem?_cons_succ, List.getElem?_cons_zero, Option.some.injEq] at ho); subst ho; (try dsimp only at hSw); go_simp; (first | done | with_reducible rfl))
        (try simp only [Act.put, List.setIfInBounds_toArray, List.set_cons_zero, List.set_cons_succ])
        refine hand_ready 11 (by kernel_rfl) (by kernel_rfl) (fun o ho K hK => ?_)
        (simp only [List.getElem?_toArray, List.getElem?_cons_succ, List.getElem?_cons_zero, Option.some.injEq] at ho)
        subst ho
        go_simp
        (go_at_call 37; (with_reducible refine (HP _).out.mono ?_); rintro e w1 ⟨rfl, hb1⟩; have HS1 := kept (show (fun W' => (W'.cell? ⟨w.heap.size, 0, none⟩ = some (.int .i64 b.1) ∧ W'.cell? ⟨w.heap.size, 1, none⟩ = some (.int .i64 b.2)) ∧ (W'.cell? ⟨g, o + a * 2, none⟩ = some (.int .i64 pq.1) ∧ W'.cell? ⟨g, o + a * 2 + 1, none⟩ = some (.int .i64 pq.2))) w1 from ⟨⟨(Keeps.of_below hb1).cell_ HS0.out.1.1, (Keeps.of_below hb1).cell_ HS0.out.1.2⟩, ⟨(Keeps.of_below hb1).cell_ HS0.out.2.1, (Keeps.of_below hb1).cell_ HS0.out.2.2⟩⟩); have HB1 := kept (bel_to hb1 HX.out); clear hb1)
        (try go_wp2_with fail)
        refine hK.out _ _ ?_ (fun hHeld => ?_)
        · ((try dsimp only); (first | with_reducible exact HS0.out | with_reducible exact HS1.out))
        clear hK K
        (try simp only [Act.put, List.setIfInBounds_toArray, List.set_cons_zero, List.set_cons_succ])
        refine hand_take 12 (some 47) ?_ (by kernel_rfl) (by kernel_rfl) (by kernel_rfl) (by kernel_rfl) (by kernel_rfl) (fun _ _ _ h => h) ?_ (by assumption) ?_
        rotate_left
        · (intro o ho w hSw; (simp only [List.getElem?_toArray, List.getElem?_cons_succ, List.getElem?_cons_zero, Option.some.injEq] at ho); subst ho; (try dsimp only at hSw); go_simp; (first | done | with_reducible rfl))
        (try simp only [Act.put, List.setIfInBounds_toArray, List.set_cons_zero, List.set_cons_succ])
        refine hand_take 13 (some 48) ?_ (by kernel_rfl) (by kernel_rfl) (by kernel_rfl) (by kernel_rfl) (by kernel_rfl) (fun _ _ _ h => h) ?_ (by assumption) ?_
        rotate_left
        · (intro o ho w hSw; (simp only [List.getElem?_toArray, List.getElem?_cons_succ, List.getElem?_cons_zero, Option.some.injEq] at ho); subst ho; (try dsimp only at hSw); go_simp; (first | done | with_reducible rfl))
        (try simp only [Act.put, List.setIfInBounds_toArray, List.set_cons_zero, List.set_cons_succ])
        refine hand_take 14 (some 6) ?_ (by kernel_rfl) (by kernel_rfl) (by kernel_rfl) (by kernel_rfl) (by kernel_rfl) (fun _ _ _ h => h) ?_ (by assumption) ?_
        rotate_left
        · (intro o ho w hSw; (simp only [List.getElem?_toArray, List.getElem?_cons_succ, List.getElem?_cons_zero, Option.some.injEq] at ho); subst ho; (try dsimp only at hSw); go_simp; (first | done | with_reducible rfl))
        (try simp only [Act.put, List.setIfInBounds_toArray, List.set_cons_zero, List.set_cons_succ])
        refine hand_take 15 (some 7) ?_ (by kernel_rfl) (by kernel_rfl) (by kernel_rfl) (by kernel_rfl) (by kernel_rfl) (fun _ _ _ h => h) ?_ (by assumption) ?_
        rotate_left
        · (intro o ho w hSw; (simp only [List.getElem?_toArray, List.getElem?_cons_succ, List.getElem?_cons_zero, Option.some.injEq] at ho); subst ho; (try dsimp only at hSw); go_simp; (first | done | with_reducible rfl))
        (try simp only [Act.put, List.setIfInBounds_toArray, List.set_cons_zero, List.set_cons_succ])
        refine wpAnyH_done (by kernel_rfl) ?_ _
        clear hHeld
        try go_wp2
        go_returns
        rw [HAN.out]
        exact ⟨⟨_, rfl⟩, HB1.out⟩
      · have han' : ¬ (a : Int) < (n : Int) := by omega
        have hda : decide ((a : Int) < (n : Int)) = false := by simp; omega
        clear t0 t1
        go_wp2
        refine wp_region_held_drew (S := (fun _ => True)) (by kernel_rfl) ?_ (fun hHeld => ?_)
        · ((try dsimp only); (try trivial))
        refine hand_take 0 (some 35) ?_ (by kernel_rfl) (by kernel_rfl) (by kernel_rfl) (by kernel_rfl) (by kernel_rfl) (fun _ _ _ h => h) ?_ (by assumption) ?_
        rotate_left
        · (intro o ho w hSw; (simp only [List.getElem?_toArray, List.getElem?_cons_succ, List.getElem?_cons_zero, Option.some.injEq] at ho); subst ho; (try dsimp only at hSw); go_simp; (first | done | with_reducible rfl))
        (try simp only [Act.put, List.setIfInBounds_toArray, List.set_cons_zero, List.set_cons_succ])
        refine hand_take 1 (some 36) ?_ (by kernel_rfl) (by kernel_rfl) (by kernel_rfl) (by kernel_rfl) (by kernel_rfl) (fun _ _ _ h => h) ?_ (by assumption) ?_
        rotate_left
        · (intro o ho w hSw; (simp only [List.getElem?_toArray, List.getElem?_cons_succ, List.getElem?_cons_zero, Option.some.injEq] at ho); subst ho; (try dsimp only at hSw); go_simp; (first | done | with_reducible rfl))
        (try simp only [Act.put, List.setIfInBounds_toArray, List.set_cons_zero, List.set_cons_succ])
        refine hand_take 2 (some 37) ?_ (by kernel_rfl) (by kernel_rfl) (by kernel_rfl) (by kernel_rfl) (by kernel_rfl) (fun _ _ _ h => h) ?_ (by assumption) ?_
        rotate_left
        · (intro o ho w hSw; (simp only [List.getElem?_toArray, List.getElem?_cons_succ, List.getElem?_cons_zero, Option.some.injEq] at ho); subst ho; (try dsimp only at hSw); go_simp; (first | done | with_reducible rfl))
        (try simp only [Act.put, List.setIfInBounds_toArray, List.set_cons_zero, List.set_cons_succ])
        refine hand_take 3 (some 38) ?_ (by kernel_rfl) (by kernel_rfl) (by kernel_rfl) (by kernel_rfl) (by kernel_rfl) (fun _ _ _ h => h) ?_ (by assumption) ?_
        rotate_left
        · (intro o ho w hSw; (simp only [List.getElem?_toArray, List.getElem?_cons_succ, List.getElem?_cons_zero, Option.some.injEq] at ho); subst ho; (try dsimp only at hSw); go_simp; (first | done | with_reducible rfl))
        (try simp only [Act.put, List.setIfInBounds_toArray, List.set_cons_zero, List.set_cons_succ])
        refine hand_take 4 (some 39) ?_ (by kernel_rfl) (by kernel_rfl) (by kernel_rfl) (by kernel_rfl) (by kernel_rfl) (fun _ _ _ h => h) ?_ (by assumption) ?_
        rotate_left
        · (intro o ho w hSw; (simp only [List.getElem?_toArray, List.getElem?_cons_succ, List.getElem?_cons_zero, Option.some.injEq] at ho); subst ho; (try dsimp only at hSw); go_simp; (first | done | with_reducible rfl))
        (try simp only [Act.put, List.setIfInBounds_toArray, List.set_cons_zero, List.set_cons_succ])
        refine hand_skip 5 (some 40) (by kernel_rfl) (by kernel_rfl) (by kernel_rfl) (by kernel_rfl) (by kernel_rfl) (fun _ _ _ h => h) (by assumption) ?_
        (try simp only [Act.put, List.setIfInBounds_toArray, List.set_cons_zero, List.set_cons_succ])
        refine hand_skip 6 (some 41) (by kernel_rfl) (by kernel_rfl) (by kernel_rfl) (by kernel_rfl) (by kernel_rfl) (fun _ _ _ h => h) (by assumption) ?_
        (try simp only [Act.put, List.setIfInBounds_toArray, List.set_cons_zero, List.set_cons_succ])
        refine hand_skip 7 (some 42) (by kernel_rfl) (by kernel_rfl) (by kernel_rfl) (by kernel_rfl) (by kernel_rfl) (fun _ _ _ h => h) (by assumption) ?_
        (try simp only [Act.put, List.setIfInBounds_toArray, List.set_cons_zero, List.set_cons_succ])
        refine hand_skip 8 (some 43) (by kernel_rfl) (by kernel_rfl) (by kernel_rfl) (by kernel_rfl) (by kernel_rfl) (fun _ _ _ h => h) (by assumption) ?_
        (try simp only [Act.put, List.setIfInBounds_toArray, List.set_cons_zero, List.set_cons_succ])
        refine hand_skip 9 (some 44) (by kernel_rfl) (by kernel_rfl) (by kernel_rfl) (by kernel_rfl) (by kernel_rfl) (fun _ _ _ h => h) (by assumption) ?_
        (try simp only [Act.put, List.setIfInBounds_toArray, List.set_cons_zero, List.set_cons_succ])
        refine hand_skip 10 (some 45) (by kernel_rfl) (by kernel_rfl) (by kernel_rfl) (by kernel_rfl) (by kernel_rfl) (fun _ _ _ h => h) (by assumption) ?_
        (try simp only [Act.put, List.setIfInBounds_toArray, List.set_cons_zero, List.set_cons_succ])
        refine hand_skip 11 (some 46) (by kernel_rfl) (by kernel_rfl) (by kernel_rfl) (by kernel_rfl) (by kernel_rfl) (fun _ _ _ h => h) (by assumption) ?_
        (try simp only [Act.put, List.setIfInBounds_toArray, List.set_cons_zero, List.set_cons_succ])
        refine hand_skip 12 (some 47) (by kernel_rfl) (by kernel_rfl) (by kernel_rfl) (by kernel_rfl) (by kernel_rfl) (fun _ _ _ h => h) (by assumption) ?_
        (try simp only [Act.put, List.setIfInBounds_toArray, List.set_cons_zero, List.set_cons_succ])
        refine hand_take 13 (some 48) ?_ (by kernel_rfl) (by kernel_rfl) (by kernel_rfl) (by kernel_rfl) (by kernel_rfl) (fun _ _ _ h => h) ?_ (by assumption) ?_
        rotate_left
        · (intro o ho w hSw; (simp only [List.getElem?_toArray, List.getElem?_cons_succ, List.getElem?_cons_zero, Option.some.injEq] at ho); subst ho; (try dsimp only at hSw); go_simp; (first | done | with_reducible rfl))
        (try simp only [Act.put, List.setIfInBounds_toArray, List.set_cons_zero, List.set_cons_succ])
        refine hand_take 14 (some 6) ?_ (by kernel_rfl) (by kernel_rfl) (by kernel_rfl) (by kernel_rfl) (by kernel_rfl) (fun _ _ _ h => h) ?_ (by assumption) ?_
        rotate_left
        · (intro o ho w hSw; (simp only [List.getElem?_toArray, List.getElem?_cons_succ, List.getElem?_cons_zero, Option.some.injEq] at ho); subst ho; (try dsimp only at hSw); go_simp; (first | done | with_reducible rfl))
        (try simp only [Act.put, List.setIfInBounds_toArray, List.set_cons_zero, List.set_cons_succ])
        refine hand_take 15 (some 7) ?_ (by kernel_rfl) (by kernel_rfl) (by kernel_rfl) (by kernel_rfl) (by kernel_rfl) (fun _ _ _ h => h) ?_ (by assumption) ?_
        rotate_left
        · (intro o ho w hSw; (simp only [List.getElem?_toArray, List.getElem?_cons_succ, List.getElem?_cons_zero, Option.some.injEq] at ho); subst ho; (try dsimp only at hSw); go_simp; (first | done | with_reducible rfl))
        (try simp only [Act.put, List.setIfInBounds_toArray, List.set_cons_zero, List.set_cons_succ])
        refine wpAnyH_done (by kernel_rfl) ?_ _
        try go_wp2
        go_returns
        rw [HAN.out]
        exact ⟨⟨_, rfl⟩, HBE.out.drew⟩
end Go.Proofs.Ythpaliagmnclfaa
