/-
  The bytes of a right revision (rev.row): four rows put together, of which two are laid at any moment between the calls: thirty ways.
-/
import Derived.Test.YtaknhbklopmojaaVa
import Derived.Test.YtaknhbklopmojaaHnd
import Derived.Test.YtaknhbklopmojaaCat
namespace Go.Proofs.Ytaknhbklopmojaa
open Go.ChangeShapes Go.WideShapes Go.ChangeAt Go.RowKit
set_option linter.unusedVariables false
set_option linter.unusedSimpArgs false

theorem mark_keeps {X W : World} {g n : Nat} (h : W = markL X g n) : Keeps X W := by rw [h]; exact markL_keeps _ _ _
theorem mark_below {B : Nat} {X W : World} {g n : Nat} (h : W = markL X g n) (hg : B ≤ g) : Below B X W := by rw [h]; exact markL_below _ _ _ hg
theorem put_8 (n : Nat) (w : World) (hn : n < 18446744073709551616) :
    Calls Try.prog 36 #[.int .u64 (n : Int), .int .i64 8] w fun e w' => ∃ A c, e = .returned (.tuple #[.slice A 8 c, .int .i64 0]) ∧ w'.ownsRow w.heap.size 5 1 (.slice A 8 c) 8 (cellsOf (be n 8)) ∧ Below w.heap.size w w' := put_ok n 8 w (by omega) (by omega) (by omega)
theorem number_r (n : Nat) (w : World) (hn : n ≤ 4611686018427387904) :
    Calls Try.prog 31 #[.int .i64 (n : Int)] w fun e w' => ∃ A c, e = .returned (.slice A 8 c) ∧ w'.ownsRow w.heap.size 5 1 (.slice A 8 c) 8 (cellsOf (be n 8)) ∧ Below w.heap.size w w' := by
  have HP := kept (put_8 n w (by omega))
  go_enter Try.func31, Try.ntmps31
  go_wp2_with (first | (go_at_call 36; (with_reducible refine (HP.out).mono ?_); rintro e w1 ⟨A1, c1, rfl, hown, hb⟩; have HO := kept hown; have HB := kept hb; clear hown hb))
  go_ret
  exact ⟨A1, c1, rfl, HO.out, HB.out⟩
theorem concat_row4 {A1 A2 A3 A4 : Option Addr} {c1 c2 c3 c4 n : Nat} {x1 x2 x3 x4 : List UInt8} {ty : TypeId} {w W : World} (hW : W = w.alloc (.cells #[.slice A1 8 c1, .slice A2 1 c2, .slice A3 8 c3, .slice A4 n c4] ty))
    (h1 : Has w A1 8 c1 x1) (h2 : Has w A2 1 c2 x2) (h3 : Has w A3 8 c3 x3) (h4 : Has w A4 n c4 x4) (hn : n ≤ 140737488350000) :
    Calls Try.prog 30 #[.slice (some ⟨w.heap.size, 0, none⟩) 4 4] W fun e w' => ∃ A' c', e = .returned (.slice A' (17 + n) c') ∧ w'.ownsRow (w.heap.size + 1) 5 1 (.slice A' (17 + n) c') (17 + n) (cellsOf (x1 ++ (x2 ++ (x3 ++ x4)))) ∧ Below W.heap.size W w' := by
  subst hW
  have l1 := h1.1.1
  have l2 := h2.1.1
  have l3 := h3.1.1
  have l4 := h4.1.1
  have := concat_list [⟨A1, c1, x1⟩, ⟨A2, c2, x2⟩, ⟨A3, c3, x3⟩, ⟨A4, c4, x4⟩] ty (0, 0) 4 (17 + n) w (by
    intro p hp
    simp only [List.mem_cons, List.not_mem_nil, or_false] at hp
    rcases hp with rfl | rfl | rfl | rfl
    · exact ⟨by rw [l1]; exact h1.1, by rw [l1]; exact h1.2⟩
    · exact ⟨by rw [l2]; exact h2.1, by rw [l2]; exact h2.2⟩
    · exact ⟨by rw [l3]; exact h3.1, by rw [l3]; exact h3.2⟩
    · exact ⟨by rw [l4]; exact h4.1, by rw [l4]; exact h4.2⟩) (by simp) (x1 ++ (x2 ++ (x3 ++ x4))) (by simp) (by simp; omega) (by omega)
  simpa [Part.val, l1, l2, l3, l4] using this
set_option maxHeartbeats 4000000 in
set_option maxRecDepth 100000 in
theorem row_any (m s : Nat) (sg : List UInt8) (w : World) (hm : m ≤ 4611686018427387904) (hs : s ≤ 4611686018427387904) (hg : sg.length ≤ 1000) :
    Calls Try.prog 23 #[.agg #[.int .i64 (m : Int), .int .i64 (s : Int)], .string (strOf sg)] w fun e w' => ∃ A c, e = .returned (.slice A (17 + sg.length) c) ∧ w'.ownsRow w.heap.size 5 1 (.slice A (17 + sg.length) c) (17 + sg.length) (cellsOf (revB m s sg)) ∧ Below w.heap.size w w' := by
  have HN1 := fun w => kept (number_r m w hm)
  have HN3 := fun w => kept (number_r s w hs)
  have HSG : Hid (sg.length ≤ 140737488350000) := kept (by omega)
  have HB : Hid (Below w.heap.size w (w.alloc (.cells #[.int .i64 (m : Int), .int .i64 (s : Int)] 23)).drew) := kept ((Below.refl _ _).alloc (Nat.le_refl _) _).drew
  have hk0 := Blk.new w 23 #[.int .i64 (m : Int), .int .i64 (s : Int)]
  have HS : Hid ((w.alloc (.cells #[.int .i64 (m : Int), .int .i64 (s : Int)] 23)).drew.cell? ⟨w.heap.size, 0, none⟩ = some (.int .i64 (m : Int)) ∧ (w.alloc (.cells #[.int .i64 (m : Int), .int .i64 (s : Int)] 23)).drew.cell? ⟨w.heap.size, 1, none⟩ = some (.int .i64 (s : Int))) := kept ⟨hk0.cell 0, hk0.cell 1⟩
  clear hm hs hg hk0
  go_enter Try.func23, Try.ntmps23
  go_wp2_with fail
  generalize w.alloc (.cells #[.int .i64 (m : Int), .int .i64 (s : Int)] 23) = W0 at HB HS ⊢
  refine wp_region_held_drew (S := (fun W' => W'.cell? ⟨w.heap.size, 0, none⟩ = some (.int .i64 (m : Int)) ∧ W'.cell? ⟨w.heap.size, 1, none⟩ = some (.int .i64 (s : Int)))) (by kernel_rfl) ?_ (fun hHeld => ?_)
  · ((try dsimp only); (with_reducible exact HS.out))
  generalize W0.drew = W at HB HS hHeld ⊢
  refine hand_take 0 (some 5) ?_ (by kernel_rfl) (by kernel_rfl) (by kernel_rfl) (by kernel_rfl) (by kernel_rfl) (fun _ _ _ h => h) ?_ (by assumption) ?_
  rotate_left
  · (intro o ho w hSw; (simp only [List.getElem?_toArray, List.getElem?_cons_succ, List.getElem?_cons_zero, Option.some.injEq] at ho); subst ho; (try dsimp only at hSw); go_simp; (first | done | with_reducible rfl))
  (try simp only [Act.put, List.setIfInBounds_toArray, List.set_cons_zero, List.set_cons_succ])
  refine hand_take 1 (some 6) ?_ (by kernel_rfl) (by kernel_rfl) (by kernel_rfl) (by kernel_rfl) (by kernel_rfl) (fun _ _ _ h => h) ?_ (by assumption) ?_
  rotate_left
  · (intro o ho w hSw; (simp only [List.getElem?_toArray, List.getElem?_cons_succ, List.getElem?_cons_zero, Option.some.injEq] at ho); subst ho; (try dsimp only at hSw); go_simp; (first | done | with_reducible rfl))
  (try simp only [Act.put, List.setIfInBounds_toArray, List.set_cons_zero, List.set_cons_succ])
  refine hand_take 5 (some 10) ?_ (by kernel_rfl) (by kernel_rfl) (by kernel_rfl) (by kernel_rfl) (by kernel_rfl) (fun _ _ _ h => h) ?_ (by assumption) ?_
  rotate_left
  · (intro o ho w hSw; (simp only [List.getElem?_toArray, List.getElem?_cons_succ, List.getElem?_cons_zero, Option.some.injEq] at ho); subst ho; (try dsimp only at hSw); go_simp; (first | done | with_reducible rfl))
  (try simp only [Act.put, List.setIfInBounds_toArray, List.set_cons_zero, List.set_cons_succ])
  refine hand_take 6 (some 11) ?_ (by kernel_rfl) (by kernel_rfl) (by kernel_rfl) (by kernel_rfl) (by kernel_rfl) (fun _ _ _ h => h) ?_ (by assumption) ?_
  rotate_left
  · (intro o ho w hSw; (simp only [List.getElem?_toArray, List.getElem?_cons_succ, List.getElem?_cons_zero, Option.some.injEq] at ho); subst ho; (try dsimp only at hSw); go_simp; (first | done | with_reducible rfl))
  (try simp only [Act.put, List.setIfInBounds_toArray, List.set_cons_zero, List.set_cons_succ])
  refine hand_take 8 (some 13) ?_ (by kernel_rfl) (by kernel_rfl) (by kernel_rfl) (by kernel_rfl) (by kernel_rfl) (fun _ _ _ h => h) ?_ (by assumption) ?_
  rotate_left
  · (intro o ho w hSw; (simp only [List.getElem?_toArray, List.getElem?_cons_succ, List.getElem?_cons_zero, Option.some.injEq] at ho); subst ho; (try dsimp only at hSw); go_simp; (first | done | with_reducible rfl))
  (try simp only [Act.put, List.setIfInBounds_toArray, List.set_cons_zero, List.set_cons_succ])
  refine hand_ready3 2 3 9 (by kernel_rfl) (by kernel_rfl) (by kernel_rfl) (by kernel_rfl) (fun o ho K hK => ?_) (fun o ho K hK => ?_) (fun o ho K hK => ?_)
  · (simp only [List.getElem?_toArray, List.getElem?_cons_succ, List.getElem?_cons_zero, Option.some.injEq] at ho)
    subst ho
    go_simp
    (go_at_call 31; (with_reducible refine (HN1 _).out.mono ?_); rintro e W ⟨A1, c1, rfl, hown, hb⟩; have hk := Keeps.of_below hb; have HB := kept (bel_to hb HB.out); have HS := kept (And.intro (hk.cell_ HS.out.1) (hk.cell_ HS.out.2)); (try replace H1 := kept (H1.out.keeps hk)); (try replace H2 := kept (H2.out.keeps hk)); (try replace H3 := kept (H3.out.keeps hk)); (try replace H4 := kept (H4.out.keeps hk)); (try replace HL := kept (HL.out.below hb)); have H1 := kept (Has.of_own hown); clear hown hb hk)
    (try go_wp2_with fail)
    refine hK.out _ _ ?_ (fun hHeld => ?_)
    · ((try dsimp only); (with_reducible exact HS.out))
    clear hK K
    (try simp only [Act.put, List.setIfInBounds_toArray, List.set_cons_zero, List.set_cons_succ])
    refine hand_ready3 3 7 9 (by kernel_rfl) (by kernel_rfl) (by kernel_rfl) (by kernel_rfl) (fun o ho K hK => ?_) (fun o ho K hK => ?_) (fun o ho K hK => ?_)
    · (simp only [List.getElem?_toArray, List.getElem?_cons_succ, List.getElem?_cons_zero, Option.some.injEq] at ho)
      subst ho
      go_simp
      (refine name_world (fun W hW => ?_); have hb := below_alloc hW; have hk := keeps_alloc hW; have HG := kept HB.out.size; have HB := kept (bel_to hb HB.out); have HS := kept (And.intro (hk.cell_ HS.out.1) (hk.cell_ HS.out.2)); (try replace H1 := kept (H1.out.keeps hk)); (try replace H2 := kept (H2.out.keeps hk)); (try replace H3 := kept (H3.out.keeps hk)); (try replace H4 := kept (H4.out.keeps hk)); (try replace HL := kept (HL.out.below hb)); have HL := kept (Lit.new hW); clear hW hb hk)
      refine hK.out _ _ ?_ (fun hHeld => ?_)
      · ((try dsimp only); (with_reducible exact HS.out))
      clear hK K
      (try simp only [Act.put, List.setIfInBounds_toArray, List.set_cons_zero, List.set_cons_succ])
      refine hand_ready3 4 7 9 (by kernel_rfl) (by kernel_rfl) (by kernel_rfl) (by kernel_rfl) (fun o ho K hK => ?_) (fun o ho K hK => ?_) (fun o ho K hK => ?_)
      · (simp only [List.getElem?_toArray, List.getElem?_cons_succ, List.getElem?_cons_zero, Option.some.injEq] at ho)
        subst ho
        (have kc := conv_mark HL.out 1 rfl; go_simp; refine name_world (fun W hW => ?_); have hk := mark_keeps hW; have HB := kept (HB.out.trans (mark_below hW HG.out)); have HS := kept (And.intro (hk.cell_ HS.out.1) (hk.cell_ HS.out.2)); (try replace H1 := kept (H1.out.keeps hk)); (try replace H2 := kept (H2.out.keeps hk)); (try replace H3 := kept (H3.out.keeps hk)); (try replace H4 := kept (H4.out.keeps hk)); have H2 := kept ((Lit.has (xs := [95]) HL.out rfl).keeps hk); clear kc hW hk HL HG)
        refine hK.out _ _ ?_ (fun hHeld => ?_)
        · ((try dsimp only); (with_reducible exact HS.out))
        clear hK K
        (try simp only [Act.put, List.setIfInBounds_toArray, List.set_cons_zero, List.set_cons_succ])
        refine hand_ready2 7 9 (by kernel_rfl) (by kernel_rfl) (by kernel_rfl) (fun o ho K hK => ?_) (fun o ho K hK => ?_)
        · (simp only [List.getElem?_toArray, List.getElem?_cons_succ, List.getElem?_cons_zero, Option.some.injEq] at ho)
          subst ho
          go_simp
          (go_at_call 31; (with_reducible refine (HN3 _).out.mono ?_); rintro e W ⟨A3, c3, rfl, hown, hb⟩; have hk := Keeps.of_below hb; have HB := kept (bel_to hb HB.out); have HS := kept (And.intro (hk.cell_ HS.out.1) (hk.cell_ HS.out.2)); (try replace H1 := kept (H1.out.keeps hk)); (try replace H2 := kept (H2.out.keeps hk)); (try replace H3 := kept (H3.out.keeps hk)); (try replace H4 := kept (H4.out.keeps hk)); (try replace HL := kept (HL.out.below hb)); have H3 := kept (Has.of_own hown); clear hown hb hk)
          (try go_wp2_with fail)
          refine hK.out _ _ ?_ (fun hHeld => ?_)
          · ((try dsimp only); (with_reducible exact HS.out))
          clear hK K
          (try simp only [Act.put, List.setIfInBounds_toArray, List.set_cons_zero, List.set_cons_succ])
          refine hand_ready 9 (by kernel_rfl) (by kernel_rfl) (fun o ho K hK => ?_)
          (simp only [List.getElem?_toArray, List.getElem?_cons_succ, List.getElem?_cons_zero, Option.some.injEq] at ho)
          subst ho
          (have kc := fun W => conv_str sg W; go_simp; refine name_world (fun W hW => ?_); have hb := str_below hW; have hk := Keeps.of_below hb; have HB := kept (bel_to hb HB.out); have HS := kept (And.intro (hk.cell_ HS.out.1) (hk.cell_ HS.out.2)); (try replace H1 := kept (H1.out.keeps hk)); (try replace H2 := kept (H2.out.keeps hk)); (try replace H3 := kept (H3.out.keeps hk)); (try replace H4 := kept (H4.out.keeps hk)); (try replace HL := kept (HL.out.below hb)); have H4 := kept (str_has hW (Nat.le_trans HSG.out (by decide))); clear kc hW hb hk)
          refine hK.out _ _ ?_ (fun hHeld => ?_)
          · ((try dsimp only); (with_reducible exact HS.out))
          clear hK K
          (try simp only [Act.put, List.setIfInBounds_toArray, List.set_cons_zero, List.set_cons_succ])
          refine hand_ready 10 (by kernel_rfl) (by kernel_rfl) (fun o ho K hK => ?_)
          (simp only [List.getElem?_toArray, List.getElem?_cons_succ, List.getElem?_cons_zero, Option.some.injEq] at ho)
          subst ho
          go_simp
          (refine name_world (fun W hW => ?_); have HW := kept hW; have hk := keeps_alloc hW; have HS := kept (And.intro (hk.cell_ HS.out.1) (hk.cell_ HS.out.2)); clear hW hk)
          refine hK.out _ _ ?_ (fun hHeld => ?_)
          · ((try dsimp only); (with_reducible exact HS.out))
          clear hK K
          (try simp only [Act.put, List.setIfInBounds_toArray, List.set_cons_zero, List.set_cons_succ])
          refine hand_ready 11 (by kernel_rfl) (by kernel_rfl) (fun o ho K hK => ?_)
          (simp only [List.getElem?_toArray, List.getElem?_cons_succ, List.getElem?_cons_zero, Option.some.injEq] at ho)
          subst ho
          go_simp
          (go_at_call 30; (with_reducible refine (concat_row4 HW.out H1.out H2.out H3.out H4.out HSG.out).mono ?_); rintro e W5 ⟨A5, c5, rfl, hown, hb⟩; have hk := Keeps.of_below hb; have HS := kept (And.intro (hk.cell_ HS.out.1) (hk.cell_ HS.out.2)); have HO := kept (own_mono hown (Nat.le_succ_of_le HB.out.size)); have HE := kept (bel_to hb (bel_to (below_alloc HW.out) HB.out)); clear hown hb hk)
          (try go_wp2_with fail)
          refine hK.out _ _ ?_ (fun hHeld => ?_)
          · ((try dsimp only); (with_reducible exact HS.out))
          clear hK K
          (try simp only [Act.put, List.setIfInBounds_toArray, List.set_cons_zero, List.set_cons_succ])
          refine hand_take 12 (some 4) ?_ (by kernel_rfl) (by kernel_rfl) (by kernel_rfl) (by kernel_rfl) (by kernel_rfl) (fun _ _ _ h => h) ?_ (by assumption) ?_
          rotate_left
          · (intro o ho w hSw; (simp only [List.getElem?_toArray, List.getElem?_cons_succ, List.getElem?_cons_zero, Option.some.injEq] at ho); subst ho; (try dsimp only at hSw); go_simp; (first | done | with_reducible rfl))
          (try simp only [Act.put, List.setIfInBounds_toArray, List.set_cons_zero, List.set_cons_succ])
          refine wpAnyH_done (by kernel_rfl) ?_ _
          go_wp2
          go_ret
          exact ⟨_, _, rfl, HO.out, HE.out⟩
        · (simp only [List.getElem?_toArray, List.getElem?_cons_succ, List.getElem?_cons_zero, Option.some.injEq] at ho)
          subst ho
          (have kc := fun W => conv_str sg W; go_simp; refine name_world (fun W hW => ?_); have hb := str_below hW; have hk := Keeps.of_below hb; have HB := kept (bel_to hb HB.out); have HS := kept (And.intro (hk.cell_ HS.out.1) (hk.cell_ HS.out.2)); (try replace H1 := kept (H1.out.keeps hk)); (try replace H2 := kept (H2.out.keeps hk)); (try replace H3 := kept (H3.out.keeps hk)); (try replace H4 := kept (H4.out.keeps hk)); (try replace HL := kept (HL.out.below hb)); have H4 := kept (str_has hW (Nat.le_trans HSG.out (by decide))); clear kc hW hb hk)
          refine hK.out _ _ ?_ (fun hHeld => ?_)
          · ((try dsimp only); (with_reducible exact HS.out))
          clear hK K
          (try simp only [Act.put, List.setIfInBounds_toArray, List.set_cons_zero, List.set_cons_succ])
          refine hand_ready 7 (by kernel_rfl) (by kernel_rfl) (fun o ho K hK => ?_)
          (simp only [List.getElem?_toArray, List.getElem?_cons_succ, List.getElem?_cons_zero, Option.some.injEq] at ho)
          subst ho
          go_simp
          (go_at_call 31; (with_reducible refine (HN3 _).out.mono ?_); rintro e W ⟨A3, c3, rfl, hown, hb⟩; have hk := Keeps.of_below hb; have HB := kept (bel_to hb HB.out); have HS := kept (And.intro (hk.cell_ HS.out.1) (hk.cell_ HS.out.2)); (try replace H1 := kept (H1.out.keeps hk)); (try replace H2 := kept (H2.out.keeps hk)); (try replace H3 := kept (H3.out.keeps hk)); (try replace H4 := kept (H4.out.keeps hk)); (try replace HL := kept (HL.out.below hb)); have H3 := kept (Has.of_own hown); clear hown hb hk)
          (try go_wp2_with fail)
          refine hK.out _ _ ?_ (fun hHeld => ?_)
          · ((try dsimp only); (with_reducible exact HS.out))
          clear hK K
          (try simp only [Act.put, List.setIfInBounds_toArray, List.set_cons_zero, List.set_cons_succ])
          refine hand_ready 10 (by kernel_rfl) (by kernel_rfl) (fun o ho K hK => ?_)
          (simp only [List.getElem?_toArray, List.getElem?_cons_succ, List.getElem?_cons_zero, Option.some.injEq] at ho)
          subst ho
          go_simp
          (refine name_world (fun W hW => ?_); have HW := kept hW; have hk := keeps_alloc hW; have HS := kept (And.intro (hk.cell_ HS.out.1) (hk.cell_ HS.out.2)); clear hW hk)
          refine hK.out _ _ ?_ (fun hHeld => ?_)
          · ((try dsimp only); (with_reducible exact HS.out))
          clear hK K
          (try simp only [Act.put, List.setIfInBounds_toArray, List.set_cons_zero, List.set_cons_succ])
          refine hand_ready 11 (by kernel_rfl) (by kernel_rfl) (fun o ho K hK => ?_)
          (simp only [List.getElem?_toArray, List.getElem?_cons_succ, List.getElem?_cons_zero, Option.some.injEq] at ho)
          subst ho
          go_simp
          (go_at_call 30; (with_reducible refine (concat_row4 HW.out H1.out H2.out H3.out H4.out HSG.out).mono ?_); rintro e W5 ⟨A5, c5, rfl, hown, hb⟩; have hk := Keeps.of_below hb; have HS := kept (And.intro (hk.cell_ HS.out.1) (hk.cell_ HS.out.2)); have HO := kept (own_mono hown (Nat.le_succ_of_le HB.out.size)); have HE := kept (bel_to hb (bel_to (below_alloc HW.out) HB.out)); clear hown hb hk)
          (try go_wp2_with fail)
          refine hK.out _ _ ?_ (fun hHeld => ?_)
          · ((try dsimp only); (with_reducible exact HS.out))
          clear hK K
          (try simp only [Act.put, List.setIfInBounds_toArray, List.set_cons_zero, List.set_cons_succ])
          refine hand_take 12 (some 4) ?_ (by kernel_rfl) (by kernel_rfl) (by kernel_rfl) (by kernel_rfl) (by kernel_rfl) (fun _ _ _ h => h) ?_ (by assumption) ?_
          rotate_left
          · (intro o ho w hSw; (simp only [List.getElem?_toArray, List.getElem?_cons_succ, List.getElem?_cons_zero, Option.some.injEq] at ho); subst ho; (try dsimp only at hSw); go_simp; (first | done | with_reducible rfl))
          (try simp only [Act.put, List.setIfInBounds_toArray, List.set_cons_zero, List.set_cons_succ])
          refine wpAnyH_done (by kernel_rfl) ?_ _
          go_wp2
          go_ret
          exact ⟨_, _, rfl, HO.out, HE.out⟩
      · (simp only [List.getElem?_toArray, List.getElem?_cons_succ, List.getElem?_cons_zero, Option.some.injEq] at ho)
        subst ho
        go_simp
        (go_at_call 31; (with_reducible refine (HN3 _).out.mono ?_); rintro e W ⟨A3, c3, rfl, hown, hb⟩; have hk := Keeps.of_below hb; have HB := kept (bel_to hb HB.out); have HS := kept (And.intro (hk.cell_ HS.out.1) (hk.cell_ HS.out.2)); (try replace H1 := kept (H1.out.keeps hk)); (try replace H2 := kept (H2.out.keeps hk)); (try replace H3 := kept (H3.out.keeps hk)); (try replace H4 := kept (H4.out.keeps hk)); (try replace HL := kept (HL.out.below hb)); have H3 := kept (Has.of_own hown); clear hown hb hk)
        (try go_wp2_with fail)
        refine hK.out _ _ ?_ (fun hHeld => ?_)
        · ((try dsimp only); (with_reducible exact HS.out))
        clear hK K
        (try simp only [Act.put, List.setIfInBounds_toArray, List.set_cons_zero, List.set_cons_succ])
        refine hand_ready2 4 9 (by kernel_rfl) (by kernel_rfl) (by kernel_rfl) (fun o ho K hK => ?_) (fun o ho K hK => ?_)
        · (simp only [List.getElem?_toArray, List.getElem?_cons_succ, List.getElem?_cons_zero, Option.some.injEq] at ho)
          subst ho
          (have kc := conv_mark HL.out 1 rfl; go_simp; refine name_world (fun W hW => ?_); have hk := mark_keeps hW; have HB := kept (HB.out.trans (mark_below hW HG.out)); have HS := kept (And.intro (hk.cell_ HS.out.1) (hk.cell_ HS.out.2)); (try replace H1 := kept (H1.out.keeps hk)); (try replace H2 := kept (H2.out.keeps hk)); (try replace H3 := kept (H3.out.keeps hk)); (try replace H4 := kept (H4.out.keeps hk)); have H2 := kept ((Lit.has (xs := [95]) HL.out rfl).keeps hk); clear kc hW hk HL HG)
          refine hK.out _ _ ?_ (fun hHeld => ?_)
          · ((try dsimp only); (with_reducible exact HS.out))
          clear hK K
          (try simp only [Act.put, List.setIfInBounds_toArray, List.set_cons_zero, List.set_cons_succ])
          refine hand_ready 9 (by kernel_rfl) (by kernel_rfl) (fun o ho K hK => ?_)
          (simp only [List.getElem?_toArray, List.getElem?_cons_succ, List.getElem?_cons_zero, Option.some.injEq] at ho)
          subst ho
          (have kc := fun W => conv_str sg W; go_simp; refine name_world (fun W hW => ?_); have hb := str_below hW; have hk := Keeps.of_below hb; have HB := kept (bel_to hb HB.out); have HS := kept (And.intro (hk.cell_ HS.out.1) (hk.cell_ HS.out.2)); (try replace H1 := kept (H1.out.keeps hk)); (try replace H2 := kept (H2.out.keeps hk)); (try replace H3 := kept (H3.out.keeps hk)); (try replace H4 := kept (H4.out.keeps hk)); (try replace HL := kept (HL.out.below hb)); have H4 := kept (str_has hW (Nat.le_trans HSG.out (by decide))); clear kc hW hb hk)
          refine hK.out _ _ ?_ (fun hHeld => ?_)
          · ((try dsimp only); (with_reducible exact HS.out))
          clear hK K
          (try simp only [Act.put, List.setIfInBounds_toArray, List.set_cons_zero, List.set_cons_succ])
          refine hand_ready 10 (by kernel_rfl) (by kernel_rfl) (fun o ho K hK => ?_)
          (simp only [List.getElem?_toArray, List.getElem?_cons_succ, List.getElem?_cons_zero, Option.some.injEq] at ho)
          subst ho
          go_simp
          (refine name_world (fun W hW => ?_); have HW := kept hW; have hk := keeps_alloc hW; have HS := kept (And.intro (hk.cell_ HS.out.1) (hk.cell_ HS.out.2)); clear hW hk)
          refine hK.out _ _ ?_ (fun hHeld => ?_)
          · ((try dsimp only); (with_reducible exact HS.out))
          clear hK K
          (try simp only [Act.put, List.setIfInBounds_toArray, List.set_cons_zero, List.set_cons_succ])
          refine hand_ready 11 (by kernel_rfl) (by kernel_rfl) (fun o ho K hK => ?_)
          (simp only [List.getElem?_toArray, List.getElem?_cons_succ, List.getElem?_cons_zero, Option.some.injEq] at ho)
          subst ho
          go_simp
          (go_at_call 30; (with_reducible refine (concat_row4 HW.out H1.out H2.out H3.out H4.out HSG.out).mono ?_); rintro e W5 ⟨A5, c5, rfl, hown, hb⟩; have hk := Keeps.of_below hb; have HS := kept (And.intro (hk.cell_ HS.out.1) (hk.cell_ HS.out.2)); have HO := kept (own_mono hown (Nat.le_succ_of_le HB.out.size)); have HE := kept (bel_to hb (bel_to (below_alloc HW.out) HB.out)); clear hown hb hk)
          (try go_wp2_with fail)
          refine hK.out _ _ ?_ (fun hHeld => ?_)
          · ((try dsimp only); (with_reducible exact HS.out))
          clear hK K
          (try simp only [Act.put, List.setIfInBounds_toArray, List.set_cons_zero, List.set_cons_succ])
          refine hand_take 12 (some 4) ?_ (by kernel_rfl) (by kernel_rfl) (by kernel_rfl) (by kernel_rfl) (by kernel_rfl) (fun _ _ _ h => h) ?_ (by assumption) ?_
          rotate_left
          · (intro o ho w hSw; (simp only [List.getElem?_toArray, List.getElem?_cons_succ, List.getElem?_cons_zero, Option.some.injEq] at ho); subst ho; (try dsimp only at hSw); go_simp; (first | done | with_reducible rfl))
          (try simp only [Act.put, List.setIfInBounds_toArray, List.set_cons_zero, List.set_cons_succ])
          refine wpAnyH_done (by kernel_rfl) ?_ _
          go_wp2
          go_ret
          exact ⟨_, _, rfl, HO.out, HE.out⟩
        · (simp only [List.getElem?_toArray, List.getElem?_cons_succ, List.getElem?_cons_zero, Option.some.injEq] at ho)
          subst ho
          (have kc := fun W => conv_str sg W; go_simp; refine name_world (fun W hW => ?_); have hb := str_below hW; have hk := Keeps.of_below hb; have HB := kept (bel_to hb HB.out); have HS := kept (And.intro (hk.cell_ HS.out.1) (hk.cell_ HS.out.2)); (try replace H1 := kept (H1.out.keeps hk)); (try replace H2 := kept (H2.out.keeps hk)); (try replace H3 := kept (H3.out.keeps hk)); (try replace H4 := kept (H4.out.keeps hk)); (try replace HL := kept (HL.out.below hb)); have H4 := kept (str_has hW (Nat.le_trans HSG.out (by decide))); clear kc hW hb hk)
          refine hK.out _ _ ?_ (fun hHeld => ?_)
          · ((try dsimp only); (with_reducible exact HS.out))
          clear hK K
          (try simp only [Act.put, List.setIfInBounds_toArray, List.set_cons_zero, List.set_cons_succ])
          refine hand_ready 4 (by kernel_rfl) (by kernel_rfl) (fun o ho K hK => ?_)
          (simp only [List.getElem?_toArray, List.getElem?_cons_succ, List.getElem?_cons_zero, Option.some.injEq] at ho)
          subst ho
          (have kc := conv_mark HL.out 1 rfl; go_simp; refine name_world (fun W hW => ?_); have hk := mark_keeps hW; have HB := kept (HB.out.trans (mark_below hW HG.out)); have HS := kept (And.intro (hk.cell_ HS.out.1) (hk.cell_ HS.out.2)); (try replace H1 := kept (H1.out.keeps hk)); (try replace H2 := kept (H2.out.keeps hk)); (try replace H3 := kept (H3.out.keeps hk)); (try replace H4 := kept (H4.out.keeps hk)); have H2 := kept ((Lit.has (xs := [95]) HL.out rfl).keeps hk); clear kc hW hk HL HG)
          refine hK.out _ _ ?_ (fun hHeld => ?_)
          · ((try dsimp only); (with_reducible exact HS.out))
          clear hK K
          (try simp only [Act.put, List.setIfInBounds_toArray, List.set_cons_zero, List.set_cons_succ])
          refine hand_ready 10 (by kernel_rfl) (by kernel_rfl) (fun o ho K hK => ?_)
          (simp only [List.getElem?_toArray, List.getElem?_cons_succ, List.getElem?_cons_zero, Option.some.injEq] at ho)
          subst ho
          go_simp
          (refine name_world (fun W hW => ?_); have HW := kept hW; have hk := keeps_alloc hW; have HS := kept (And.intro (hk.cell_ HS.out.1) (hk.cell_ HS.out.2)); clear hW hk)
          refine hK.out _ _ ?_ (fun hHeld => ?_)
          · ((try dsimp only); (with_reducible exact HS.out))
          clear hK K
          (try simp only [Act.put, List.setIfInBounds_toArray, List.set_cons_zero, List.set_cons_succ])
          refine hand_ready 11 (by kernel_rfl) (by kernel_rfl) (fun o ho K hK => ?_)
          (simp only [List.getElem?_toArray, List.getElem?_cons_succ, List.getElem?_cons_zero, Option.some.injEq] at ho)
          subst ho
          go_simp
          (go_at_call 30; (with_reducible refine (concat_row4 HW.out H1.out H2.out H3.out H4.out HSG.out).mono ?_); rintro e W5 ⟨A5, c5, rfl, hown, hb⟩; have hk := Keeps.of_below hb; have HS := kept (And.intro (hk.cell_ HS.out.1) (hk.cell_ HS.out.2)); have HO := kept (own_mono hown (Nat.le_succ_of_le HB.out.size)); have HE := kept (bel_to hb (bel_to (below_alloc HW.out) HB.out)); clear hown hb hk)
          (try go_wp2_with fail)
          refine hK.out _ _ ?_ (fun hHeld => ?_)
          · ((try dsimp only); (with_reducible exact HS.out))
          clear hK K
          (try simp only [Act.put, List.setIfInBounds_toArray, List.set_cons_zero, List.set_cons_succ])
          refine hand_take 12 (some 4) ?_ (by kernel_rfl) (by kernel_rfl) (by kernel_rfl) (by kernel_rfl) (by kernel_rfl) (fun _ _ _ h => h) ?_ (by assumption) ?_
          rotate_left
          · (intro o ho w hSw; (simp only [List.getElem?_toArray, List.getElem?_cons_succ, List.getElem?_cons_zero, Option.some.injEq] at ho); subst ho; (try dsimp only at hSw); go_simp; (first | done | with_reducible rfl))
          (try simp only [Act.put, List.setIfInBounds_toArray, List.set_cons_zero, List.set_cons_succ])
          refine wpAnyH_done (by kernel_rfl) ?_ _
          go_wp2
          go_ret
          exact ⟨_, _, rfl, HO.out, HE.out⟩
      · (simp only [List.getElem?_toArray, List.getElem?_cons_succ, List.getElem?_cons_zero, Option.some.injEq] at ho)
        subst ho
        (have kc := fun W => conv_str sg W; go_simp; refine name_world (fun W hW => ?_); have hb := str_below hW; have hk := Keeps.of_below hb; have HB := kept (bel_to hb HB.out); have HS := kept (And.intro (hk.cell_ HS.out.1) (hk.cell_ HS.out.2)); (try replace H1 := kept (H1.out.keeps hk)); (try replace H2 := kept (H2.out.keeps hk)); (try replace H3 := kept (H3.out.keeps hk)); (try replace H4 := kept (H4.out.keeps hk)); (try replace HL := kept (HL.out.below hb)); have H4 := kept (str_has hW (Nat.le_trans HSG.out (by decide))); clear kc hW hb hk)
        refine hK.out _ _ ?_ (fun hHeld => ?_)
        · ((try dsimp only); (with_reducible exact HS.out))
        clear hK K
        (try simp only [Act.put, List.setIfInBounds_toArray, List.set_cons_zero, List.set_cons_succ])
        refine hand_ready2 4 7 (by kernel_rfl) (by kernel_rfl) (by kernel_rfl) (fun o ho K hK => ?_) (fun o ho K hK => ?_)
        · (simp only [List.getElem?_toArray, List.getElem?_cons_succ, List.getElem?_cons_zero, Option.some.injEq] at ho)
          subst ho
          (have kc := conv_mark HL.out 1 rfl; go_simp; refine name_world (fun W hW => ?_); have hk := mark_keeps hW; have HB := kept (HB.out.trans (mark_below hW HG.out)); have HS := kept (And.intro (hk.cell_ HS.out.1) (hk.cell_ HS.out.2)); (try replace H1 := kept (H1.out.keeps hk)); (try replace H2 := kept (H2.out.keeps hk)); (try replace H3 := kept (H3.out.keeps hk)); (try replace H4 := kept (H4.out.keeps hk)); have H2 := kept ((Lit.has (xs := [95]) HL.out rfl).keeps hk); clear kc hW hk HL HG)
          refine hK.out _ _ ?_ (fun hHeld => ?_)
          · ((try dsimp only); (with_reducible exact HS.out))
          clear hK K
          (try simp only [Act.put, List.setIfInBounds_toArray, List.set_cons_zero, List.set_cons_succ])
          refine hand_ready 7 (by kernel_rfl) (by kernel_rfl) (fun o ho K hK => ?_)
          (simp only [List.getElem?_toArray, List.getElem?_cons_succ, List.getElem?_cons_zero, Option.some.injEq] at ho)
          subst ho
          go_simp
          (go_at_call 31; (with_reducible refine (HN3 _).out.mono ?_); rintro e W ⟨A3, c3, rfl, hown, hb⟩; have hk := Keeps.of_below hb; have HB := kept (bel_to hb HB.out); have HS := kept (And.intro (hk.cell_ HS.out.1) (hk.cell_ HS.out.2)); (try replace H1 := kept (H1.out.keeps hk)); (try replace H2 := kept (H2.out.keeps hk)); (try replace H3 := kept (H3.out.keeps hk)); (try replace H4 := kept (H4.out.keeps hk)); (try replace HL := kept (HL.out.below hb)); have H3 := kept (Has.of_own hown); clear hown hb hk)
          (try go_wp2_with fail)
          refine hK.out _ _ ?_ (fun hHeld => ?_)
          · ((try dsimp only); (with_reducible exact HS.out))
          clear hK K
          (try simp only [Act.put, List.setIfInBounds_toArray, List.set_cons_zero, List.set_cons_succ])
          refine hand_ready 10 (by kernel_rfl) (by kernel_rfl) (fun o ho K hK => ?_)
          (simp only [List.getElem?_toArray, List.getElem?_cons_succ, List.getElem?_cons_zero, Option.some.injEq] at ho)
          subst ho
          go_simp
          (refine name_world (fun W hW => ?_); have HW := kept hW; have hk := keeps_alloc hW; have HS := kept (And.intro (hk.cell_ HS.out.1) (hk.cell_ HS.out.2)); clear hW hk)
          refine hK.out _ _ ?_ (fun hHeld => ?_)
          · ((try dsimp only); (with_reducible exact HS.out))
          clear hK K
          (try simp only [Act.put, List.setIfInBounds_toArray, List.set_cons_zero, List.set_cons_succ])
          refine hand_ready 11 (by kernel_rfl) (by kernel_rfl) (fun o ho K hK => ?_)
          (simp only [List.getElem?_toArray, List.getElem?_cons_succ, List.getElem?_cons_zero, Option.some.injEq] at ho)
          subst ho
          go_simp
          (go_at_call 30; (with_reducible refine (concat_row4 HW.out H1.out H2.out H3.out H4.out HSG.out).mono ?_); rintro e W5 ⟨A5, c5, rfl, hown, hb⟩; have hk := Keeps.of_below hb; have HS := kept (And.intro (hk.cell_ HS.out.1) (hk.cell_ HS.out.2)); have HO := kept (own_mono hown (Nat.le_succ_of_le HB.out.size)); have HE := kept (bel_to hb (bel_to (below_alloc HW.out) HB.out)); clear hown hb hk)
          (try go_wp2_with fail)
          refine hK.out _ _ ?_ (fun hHeld => ?_)
          · ((try dsimp only); (with_reducible exact HS.out))
          clear hK K
          (try simp only [Act.put, List.setIfInBounds_toArray, List.set_cons_zero, List.set_cons_succ])
          refine hand_take 12 (some 4) ?_ (by kernel_rfl) (by kernel_rfl) (by kernel_rfl) (by kernel_rfl) (by kernel_rfl) (fun _ _ _ h => h) ?_ (by assumption) ?_
          rotate_left
          · (intro o ho w hSw; (simp only [List.getElem?_toArray, List.getElem?_cons_succ, List.getElem?_cons_zero, Option.some.injEq] at ho); subst ho; (try dsimp only at hSw); go_simp; (first | done | with_reducible rfl))
          (try simp only [Act.put, List.setIfInBounds_toArray, List.set_cons_zero, List.set_cons_succ])
          refine wpAnyH_done (by kernel_rfl) ?_ _
          go_wp2
          go_ret
          exact ⟨_, _, rfl, HO.out, HE.out⟩
        · (simp only [List.getElem?_toArray, List.getElem?_cons_succ, List.getElem?_cons_zero, Option.some.injEq] at ho)
          subst ho
          go_simp
          (go_at_call 31; (with_reducible refine (HN3 _).out.mono ?_); rintro e W ⟨A3, c3, rfl, hown, hb⟩; have hk := Keeps.of_below hb; have HB := kept (bel_to hb HB.out); have HS := kept (And.intro (hk.cell_ HS.out.1) (hk.cell_ HS.out.2)); (try replace H1 := kept (H1.out.keeps hk)); (try replace H2 := kept (H2.out.keeps hk)); (try replace H3 := kept (H3.out.keeps hk)); (try replace H4 := kept (H4.out.keeps hk)); (try replace HL := kept (HL.out.below hb)); have H3 := kept (Has.of_own hown); clear hown hb hk)
          (try go_wp2_with fail)
          refine hK.out _ _ ?_ (fun hHeld => ?_)
          · ((try dsimp only); (with_reducible exact HS.out))
          clear hK K
          (try simp only [Act.put, List.setIfInBounds_toArray, List.set_cons_zero, List.set_cons_succ])
          refine hand_ready 4 (by kernel_rfl) (by kernel_rfl) (fun o ho K hK => ?_)
          (simp only [List.getElem?_toArray, List.getElem?_cons_succ, List.getElem?_cons_zero, Option.some.injEq] at ho)
          subst ho
          (have kc := conv_mark HL.out 1 rfl; go_simp; refine name_world (fun W hW => ?_); have hk := mark_keeps hW; have HB := kept (HB.out.trans (mark_below hW HG.out)); have HS := kept (And.intro (hk.cell_ HS.out.1) (hk.cell_ HS.out.2)); (try replace H1 := kept (H1.out.keeps hk)); (try replace H2 := kept (H2.out.keeps hk)); (try replace H3 := kept (H3.out.keeps hk)); (try replace H4 := kept (H4.out.keeps hk)); have H2 := kept ((Lit.has (xs := [95]) HL.out rfl).keeps hk); clear kc hW hk HL HG)
          refine hK.out _ _ ?_ (fun hHeld => ?_)
          · ((try dsimp only); (with_reducible exact HS.out))
          clear hK K
          (try simp only [Act.put, List.setIfInBounds_toArray, List.set_cons_zero, List.set_cons_succ])
          refine hand_ready 10 (by kernel_rfl) (by kernel_rfl) (fun o ho K hK => ?_)
          (simp only [List.getElem?_toArray, List.getElem?_cons_succ, List.getElem?_cons_zero, Option.some.injEq] at ho)
          subst ho
          go_simp
          (refine name_world (fun W hW => ?_); have HW := kept hW; have hk := keeps_alloc hW; have HS := kept (And.intro (hk.cell_ HS.out.1) (hk.cell_ HS.out.2)); clear hW hk)
          refine hK.out _ _ ?_ (fun hHeld => ?_)
          · ((try dsimp only); (with_reducible exact HS.out))
          clear hK K
          (try simp only [Act.put, List.setIfInBounds_toArray, List.set_cons_zero, List.set_cons_succ])
          refine hand_ready 11 (by kernel_rfl) (by kernel_rfl) (fun o ho K hK => ?_)
          (simp only [List.getElem?_toArray, List.getElem?_cons_succ, List.getElem?_cons_zero, Option.some.injEq] at ho)
          subst ho
          go_simp
          (go_at_call 30; (with_reducible refine (concat_row4 HW.out H1.out H2.out H3.out H4.out HSG.out).mono ?_); rintro e W5 ⟨A5, c5, rfl, hown, hb⟩; have hk := Keeps.of_below hb; have HS := kept (And.intro (hk.cell_ HS.out.1) (hk.cell_ HS.out.2)); have HO := kept (own_mono hown (Nat.le_succ_of_le HB.out.size)); have HE := kept (bel_to hb (bel_to (below_alloc HW.out) HB.out)); clear hown hb hk)
          (try go_wp2_with fail)
          refine hK.out _ _ ?_ (fun hHeld => ?_)
          · ((try dsimp only); (with_reducible exact HS.out))
          clear hK K
          (try simp only [Act.put, List.setIfInBounds_toArray, List.set_cons_zero, List.set_cons_succ])
          refine hand_take 12 (some 4) ?_ (by kernel_rfl) (by kernel_rfl) (by kernel_rfl) (by kernel_rfl) (by kernel_rfl) (fun _ _ _ h => h) ?_ (by assumption) ?_
          rotate_left
          · (intro o ho w hSw; (simp only [List.getElem?_toArray, List.getElem?_cons_succ, List.getElem?_cons_zero, Option.some.injEq] at ho); subst ho; (try dsimp only at hSw); go_simp; (first | done | with_reducible rfl))
          (try simp only [Act.put, List.setIfInBounds_toArray, List.set_cons_zero, List.set_cons_succ])
          refine wpAnyH_done (by kernel_rfl) ?_ _
          go_wp2
          go_ret
          exact ⟨_, _, rfl, HO.out, HE.out⟩
    · (simp only [List.getElem?_toArray, List.getElem?_cons_succ, List.getElem?_cons_zero, Option.some.injEq] at ho)
      subst ho
      go_simp
      (go_at_call 31; (with_reducible refine (HN3 _).out.mono ?_); rintro e W ⟨A3, c3, rfl, hown, hb⟩; have hk := Keeps.of_below hb; have HB := kept (bel_to hb HB.out); have HS := kept (And.intro (hk.cell_ HS.out.1) (hk.cell_ HS.out.2)); (try replace H1 := kept (H1.out.keeps hk)); (try replace H2 := kept (H2.out.keeps hk)); (try replace H3 := kept (H3.out.keeps hk)); (try replace H4 := kept (H4.out.keeps hk)); (try replace HL := kept (HL.out.below hb)); have H3 := kept (Has.of_own hown); clear hown hb hk)
      (try go_wp2_with fail)
      refine hK.out _ _ ?_ (fun hHeld => ?_)
      · ((try dsimp only); (with_reducible exact HS.out))
      clear hK K
      (try simp only [Act.put, List.setIfInBounds_toArray, List.set_cons_zero, List.set_cons_succ])
      refine hand_ready2 3 9 (by kernel_rfl) (by kernel_rfl) (by kernel_rfl) (fun o ho K hK => ?_) (fun o ho K hK => ?_)
      · (simp only [List.getElem?_toArray, List.getElem?_cons_succ, List.getElem?_cons_zero, Option.some.injEq] at ho)
        subst ho
        go_simp
        (refine name_world (fun W hW => ?_); have hb := below_alloc hW; have hk := keeps_alloc hW; have HG := kept HB.out.size; have HB := kept (bel_to hb HB.out); have HS := kept (And.intro (hk.cell_ HS.out.1) (hk.cell_ HS.out.2)); (try replace H1 := kept (H1.out.keeps hk)); (try replace H2 := kept (H2.out.keeps hk)); (try replace H3 := kept (H3.out.keeps hk)); (try replace H4 := kept (H4.out.keeps hk)); (try replace HL := kept (HL.out.below hb)); have HL := kept (Lit.new hW); clear hW hb hk)
        refine hK.out _ _ ?_ (fun hHeld => ?_)
        · ((try dsimp only); (with_reducible exact HS.out))
        clear hK K
        (try simp only [Act.put, List.setIfInBounds_toArray, List.set_cons_zero, List.set_cons_succ])
        refine hand_ready2 4 9 (by kernel_rfl) (by kernel_rfl) (by kernel_rfl) (fun o ho K hK => ?_) (fun o ho K hK => ?_)
        · (simp only [List.getElem?_toArray, List.getElem?_cons_succ, List.getElem?_cons_zero, Option.some.injEq] at ho)
          subst ho
          (have kc := conv_mark HL.out 1 rfl; go_simp; refine name_world (fun W hW => ?_); have hk := mark_keeps hW; have HB := kept (HB.out.trans (mark_below hW HG.out)); have HS := kept (And.intro (hk.cell_ HS.out.1) (hk.cell_ HS.out.2)); (try replace H1 := kept (H1.out.keeps hk)); (try replace H2 := kept (H2.out.keeps hk)); (try replace H3 := kept (H3.out.keeps hk)); (try replace H4 := kept (H4.out.keeps hk)); have H2 := kept ((Lit.has (xs := [95]) HL.out rfl).keeps hk); clear kc hW hk HL HG)
          refine hK.out _ _ ?_ (fun hHeld => ?_)
          · ((try dsimp only); (with_reducible exact HS.out))
          clear hK K
          (try simp only [Act.put, List.setIfInBounds_toArray, List.set_cons_zero, List.set_cons_succ])
          refine hand_ready 9 (by kernel_rfl) (by kernel_rfl) (fun o ho K hK => ?_)
          (simp only [List.getElem?_toArray, List.getElem?_cons_succ, List.getElem?_cons_zero, Option.some.injEq] at ho)
          subst ho
          (have kc := fun W => conv_str sg W; go_simp; refine name_world (fun W hW => ?_); have hb := str_below hW; have hk := Keeps.of_below hb; have HB := kept (bel_to hb HB.out); have HS := kept (And.intro (hk.cell_ HS.out.1) (hk.cell_ HS.out.2)); (try replace H1 := kept (H1.out.keeps hk)); (try replace H2 := kept (H2.out.keeps hk)); (try replace H3 := kept (H3.out.keeps hk)); (try replace H4 := kept (H4.out.keeps hk)); (try replace HL := kept (HL.out.below hb)); have H4 := kept (str_has hW (Nat.le_trans HSG.out (by decide))); clear kc hW hb hk)
          refine hK.out _ _ ?_ (fun hHeld => ?_)
          · ((try dsimp only); (with_reducible exact HS.out))
          clear hK K
          (try simp only [Act.put, List.setIfInBounds_toArray, List.set_cons_zero, List.set_cons_succ])
          refine hand_ready 10 (by kernel_rfl) (by kernel_rfl) (fun o ho K hK => ?_)
          (simp only [List.getElem?_toArray, List.getElem?_cons_succ, List.getElem?_cons_zero, Option.some.injEq] at ho)
          subst ho
          go_simp
          (refine name_world (fun W hW => ?_); have HW := kept hW; have hk := keeps_alloc hW; have HS := kept (And.intro (hk.cell_ HS.out.1) (hk.cell_ HS.out.2)); clear hW hk)
          refine hK.out _ _ ?_ (fun hHeld => ?_)
          · ((try dsimp only); (with_reducible exact HS.out))
          clear hK K
          (try simp only [Act.put, List.setIfInBounds_toArray, List.set_cons_zero, List.set_cons_succ])
          refine hand_ready 11 (by kernel_rfl) (by kernel_rfl) (fun o ho K hK => ?_)
          (simp only [List.getElem?_toArray, List.getElem?_cons_succ, List.getElem?_cons_zero, Option.some.injEq] at ho)
          subst ho
          go_simp
          (go_at_call 30; (with_reducible refine (concat_row4 HW.out H1.out H2.out H3.out H4.out HSG.out).mono ?_); rintro e W5 ⟨A5, c5, rfl, hown, hb⟩; have hk := Keeps.of_below hb; have HS := kept (And.intro (hk.cell_ HS.out.1) (hk.cell_ HS.out.2)); have HO := kept (own_mono hown (Nat.le_succ_of_le HB.out.size)); have HE := kept (bel_to hb (bel_to (below_alloc HW.out) HB.out)); clear hown hb hk)
          (try go_wp2_with fail)
          refine hK.out _ _ ?_ (fun hHeld => ?_)
          · ((try dsimp only); (with_reducible exact HS.out))
          clear hK K
          (try simp only [Act.put, List.setIfInBounds_toArray, List.set_cons_zero, List.set_cons_succ])
          refine hand_take 12 (some 4) ?_ (by kernel_rfl) (by kernel_rfl) (by kernel_rfl) (by kernel_rfl) (by kernel_rfl) (fun _ _ _ h => h) ?_ (by assumption) ?_
          rotate_left
          · (intro o ho w hSw; (simp only [List.getElem?_toArray, List.getElem?_cons_succ, List.getElem?_cons_zero, Option.some.injEq] at ho); subst ho; (try dsimp only at hSw); go_simp; (first | done | with_reducible rfl))
          (try simp only [Act.put, List.setIfInBounds_toArray, List.set_cons_zero, List.set_cons_succ])
          refine wpAnyH_done (by kernel_rfl) ?_ _
          go_wp2
          go_ret
          exact ⟨_, _, rfl, HO.out, HE.out⟩
        · (simp only [List.getElem?_toArray, List.getElem?_cons_succ, List.getElem?_cons_zero, Option.some.injEq] at ho)
          subst ho
          (have kc := fun W => conv_str sg W; go_simp; refine name_world (fun W hW => ?_); have hb := str_below hW; have hk := Keeps.of_below hb; have HB := kept (bel_to hb HB.out); have HS := kept (And.intro (hk.cell_ HS.out.1) (hk.cell_ HS.out.2)); (try replace H1 := kept (H1.out.keeps hk)); (try replace H2 := kept (H2.out.keeps hk)); (try replace H3 := kept (H3.out.keeps hk)); (try replace H4 := kept (H4.out.keeps hk)); (try replace HL := kept (HL.out.below hb)); have H4 := kept (str_has hW (Nat.le_trans HSG.out (by decide))); clear kc hW hb hk)
          refine hK.out _ _ ?_ (fun hHeld => ?_)
          · ((try dsimp only); (with_reducible exact HS.out))
          clear hK K
          (try simp only [Act.put, List.setIfInBounds_toArray, List.set_cons_zero, List.set_cons_succ])
          refine hand_ready 4 (by kernel_rfl) (by kernel_rfl) (fun o ho K hK => ?_)
          (simp only [List.getElem?_toArray, List.getElem?_cons_succ, List.getElem?_cons_zero, Option.some.injEq] at ho)
          subst ho
          (have kc := conv_mark HL.out 1 rfl; go_simp; refine name_world (fun W hW => ?_); have hk := mark_keeps hW; have HB := kept (HB.out.trans (mark_below hW HG.out)); have HS := kept (And.intro (hk.cell_ HS.out.1) (hk.cell_ HS.out.2)); (try replace H1 := kept (H1.out.keeps hk)); (try replace H2 := kept (H2.out.keeps hk)); (try replace H3 := kept (H3.out.keeps hk)); (try replace H4 := kept (H4.out.keeps hk)); have H2 := kept ((Lit.has (xs := [95]) HL.out rfl).keeps hk); clear kc hW hk HL HG)
          refine hK.out _ _ ?_ (fun hHeld => ?_)
          · ((try dsimp only); (with_reducible exact HS.out))
          clear hK K
          (try simp only [Act.put, List.setIfInBounds_toArray, List.set_cons_zero, List.set_cons_succ])
          refine hand_ready 10 (by kernel_rfl) (by kernel_rfl) (fun o ho K hK => ?_)
          (simp only [List.getElem?_toArray, List.getElem?_cons_succ, List.getElem?_cons_zero, Option.some.injEq] at ho)
          subst ho
          go_simp
          (refine name_world (fun W hW => ?_); have HW := kept hW; have hk := keeps_alloc hW; have HS := kept (And.intro (hk.cell_ HS.out.1) (hk.cell_ HS.out.2)); clear hW hk)
          refine hK.out _ _ ?_ (fun hHeld => ?_)
          · ((try dsimp only); (with_reducible exact HS.out))
          clear hK K
          (try simp only [Act.put, List.setIfInBounds_toArray, List.set_cons_zero, List.set_cons_succ])
          refine hand_ready 11 (by kernel_rfl) (by kernel_rfl) (fun o ho K hK => ?_)
          (simp only [List.getElem?_toArray, List.getElem?_cons_succ, List.getElem?_cons_zero, Option.some.injEq] at ho)
          subst ho
          go_simp
          (go_at_call 30; (with_reducible refine (concat_row4 HW.out H1.out H2.out H3.out H4.out HSG.out).mono ?_); rintro e W5 ⟨A5, c5, rfl, hown, hb⟩; have hk := Keeps.of_below hb; have HS := kept (And.intro (hk.cell_ HS.out.1) (hk.cell_ HS.out.2)); have HO := kept (own_mono hown (Nat.le_succ_of_le HB.out.size)); have HE := kept (bel_to hb (bel_to (below_alloc HW.out) HB.out)); clear hown hb hk)
          (try go_wp2_with fail)
          refine hK.out _ _ ?_ (fun hHeld => ?_)
          · ((try dsimp only); (with_reducible exact HS.out))
          clear hK K
          (try simp only [Act.put, List.setIfInBounds_toArray, List.set_cons_zero, List.set_cons_succ])
          refine hand_take 12 (some 4) ?_ (by kernel_rfl) (by kernel_rfl) (by kernel_rfl) (by kernel_rfl) (by kernel_rfl) (fun _ _ _ h => h) ?_ (by assumption) ?_
          rotate_left
          · (intro o ho w hSw; (simp only [List.getElem?_toArray, List.getElem?_cons_succ, List.getElem?_cons_zero, Option.some.injEq] at ho); subst ho; (try dsimp only at hSw); go_simp; (first | done | with_reducible rfl))
          (try simp only [Act.put, List.setIfInBounds_toArray, List.set_cons_zero, List.set_cons_succ])
          refine wpAnyH_done (by kernel_rfl) ?_ _
          go_wp2
          go_ret
          exact ⟨_, _, rfl, HO.out, HE.out⟩
      · (simp only [List.getElem?_toArray, List.getElem?_cons_succ, List.getElem?_cons_zero, Option.some.injEq] at ho)
        subst ho
        (have kc := fun W => conv_str sg W; go_simp; refine name_world (fun W hW => ?_); have hb := str_below hW; have hk := Keeps.of_below hb; have HB := kept (bel_to hb HB.out); have HS := kept (And.intro (hk.cell_ HS.out.1) (hk.cell_ HS.out.2)); (try replace H1 := kept (H1.out.keeps hk)); (try replace H2 := kept (H2.out.keeps hk)); (try replace H3 := kept (H3.out.keeps hk)); (try replace H4 := kept (H4.out.keeps hk)); (try replace HL := kept (HL.out.below hb)); have H4 := kept (str_has hW (Nat.le_trans HSG.out (by decide))); clear kc hW hb hk)
        refine hK.out _ _ ?_ (fun hHeld => ?_)
        · ((try dsimp only); (with_reducible exact HS.out))
        clear hK K
        (try simp only [Act.put, List.setIfInBounds_toArray, List.set_cons_zero, List.set_cons_succ])
        refine hand_ready 3 (by kernel_rfl) (by kernel_rfl) (fun o ho K hK => ?_)
        (simp only [List.getElem?_toArray, List.getElem?_cons_succ, List.getElem?_cons_zero, Option.some.injEq] at ho)
        subst ho
        go_simp
        (refine name_world (fun W hW => ?_); have hb := below_alloc hW; have hk := keeps_alloc hW; have HG := kept HB.out.size; have HB := kept (bel_to hb HB.out); have HS := kept (And.intro (hk.cell_ HS.out.1) (hk.cell_ HS.out.2)); (try replace H1 := kept (H1.out.keeps hk)); (try replace H2 := kept (H2.out.keeps hk)); (try replace H3 := kept (H3.out.keeps hk)); (try replace H4 := kept (H4.out.keeps hk)); (try replace HL := kept (HL.out.below hb)); have HL := kept (Lit.new hW); clear hW hb hk)
        refine hK.out _ _ ?_ (fun hHeld => ?_)
        · ((try dsimp only); (with_reducible exact HS.out))
        clear hK K
        (try simp only [Act.put, List.setIfInBounds_toArray, List.set_cons_zero, List.set_cons_succ])
        refine hand_ready 4 (by kernel_rfl) (by kernel_rfl) (fun o ho K hK => ?_)
        (simp only [List.getElem?_toArray, List.getElem?_cons_succ, List.getElem?_cons_zero, Option.some.injEq] at ho)
        subst ho
        (have kc := conv_mark HL.out 1 rfl; go_simp; refine name_world (fun W hW => ?_); have hk := mark_keeps hW; have HB := kept (HB.out.trans (mark_below hW HG.out)); have HS := kept (And.intro (hk.cell_ HS.out.1) (hk.cell_ HS.out.2)); (try replace H1 := kept (H1.out.keeps hk)); (try replace H2 := kept (H2.out.keeps hk)); (try replace H3 := kept (H3.out.keeps hk)); (try replace H4 := kept (H4.out.keeps hk)); have H2 := kept ((Lit.has (xs := [95]) HL.out rfl).keeps hk); clear kc hW hk HL HG)
        refine hK.out _ _ ?_ (fun hHeld => ?_)
        · ((try dsimp only); (with_reducible exact HS.out))
        clear hK K
        (try simp only [Act.put, List.setIfInBounds_toArray, List.set_cons_zero, List.set_cons_succ])
        refine hand_ready 10 (by kernel_rfl) (by kernel_rfl) (fun o ho K hK => ?_)
        (simp only [List.getElem?_toArray, List.getElem?_cons_succ, List.getElem?_cons_zero, Option.some.injEq] at ho)
        subst ho
        go_simp
        (refine name_world (fun W hW => ?_); have HW := kept hW; have hk := keeps_alloc hW; have HS := kept (And.intro (hk.cell_ HS.out.1) (hk.cell_ HS.out.2)); clear hW hk)
        refine hK.out _ _ ?_ (fun hHeld => ?_)
        · ((try dsimp only); (with_reducible exact HS.out))
        clear hK K
        (try simp only [Act.put, List.setIfInBounds_toArray, List.set_cons_zero, List.set_cons_succ])
        refine hand_ready 11 (by kernel_rfl) (by kernel_rfl) (fun o ho K hK => ?_)
        (simp only [List.getElem?_toArray, List.getElem?_cons_succ, List.getElem?_cons_zero, Option.some.injEq] at ho)
        subst ho
        go_simp
        (go_at_call 30; (with_reducible refine (concat_row4 HW.out H1.out H2.out H3.out H4.out HSG.out).mono ?_); rintro e W5 ⟨A5, c5, rfl, hown, hb⟩; have hk := Keeps.of_below hb; have HS := kept (And.intro (hk.cell_ HS.out.1) (hk.cell_ HS.out.2)); have HO := kept (own_mono hown (Nat.le_succ_of_le HB.out.size)); have HE := kept (bel_to hb (bel_to (below_alloc HW.out) HB.out)); clear hown hb hk)
        (try go_wp2_with fail)
        refine hK.out _ _ ?_ (fun hHeld => ?_)
        · ((try dsimp only); (with_reducible exact HS.out))
        clear hK K
        (try simp only [Act.put, List.setIfInBounds_toArray, List.set_cons_zero, List.set_cons_succ])
        refine hand_take 12 (some 4) ?_ (by kernel_rfl) (by kernel_rfl) (by kernel_rfl) (by kernel_rfl) (by kernel_rfl) (fun _ _ _ h => h) ?_ (by assumption) ?_
        rotate_left
        · (intro o ho w hSw; (simp only [List.getElem?_toArray, List.getElem?_cons_succ, List.getElem?_cons_zero, Option.some.injEq] at ho); subst ho; (try dsimp only at hSw); go_simp; (first | done | with_reducible rfl))
        (try simp only [Act.put, List.setIfInBounds_toArray, List.set_cons_zero, List.set_cons_succ])
        refine wpAnyH_done (by kernel_rfl) ?_ _
        go_wp2
        go_ret
        exact ⟨_, _, rfl, HO.out, HE.out⟩
    · (simp only [List.getElem?_toArray, List.getElem?_cons_succ, List.getElem?_cons_zero, Option.some.injEq] at ho)
      subst ho
      (have kc := fun W => conv_str sg W; go_simp; refine name_world (fun W hW => ?_); have hb := str_below hW; have hk := Keeps.of_below hb; have HB := kept (bel_to hb HB.out); have HS := kept (And.intro (hk.cell_ HS.out.1) (hk.cell_ HS.out.2)); (try replace H1 := kept (H1.out.keeps hk)); (try replace H2 := kept (H2.out.keeps hk)); (try replace H3 := kept (H3.out.keeps hk)); (try replace H4 := kept (H4.out.keeps hk)); (try replace HL := kept (HL.out.below hb)); have H4 := kept (str_has hW (Nat.le_trans HSG.out (by decide))); clear kc hW hb hk)
      refine hK.out _ _ ?_ (fun hHeld => ?_)
      · ((try dsimp only); (with_reducible exact HS.out))
      clear hK K
      (try simp only [Act.put, List.setIfInBounds_toArray, List.set_cons_zero, List.set_cons_succ])
      refine hand_ready2 3 7 (by kernel_rfl) (by kernel_rfl) (by kernel_rfl) (fun o ho K hK => ?_) (fun o ho K hK => ?_)
      · (simp only [List.getElem?_toArray, List.getElem?_cons_succ, List.getElem?_cons_zero, Option.some.injEq] at ho)
        subst ho
        go_simp
        (refine name_world (fun W hW => ?_); have hb := below_alloc hW; have hk := keeps_alloc hW; have HG := kept HB.out.size; have HB := kept (bel_to hb HB.out); have HS := kept (And.intro (hk.cell_ HS.out.1) (hk.cell_ HS.out.2)); (try replace H1 := kept (H1.out.keeps hk)); (try replace H2 := kept (H2.out.keeps hk)); (try replace H3 := kept (H3.out.keeps hk)); (try replace H4 := kept (H4.out.keeps hk)); (try replace HL := kept (HL.out.below hb)); have HL := kept (Lit.new hW); clear hW hb hk)
        refine hK.out _ _ ?_ (fun hHeld => ?_)
        · ((try dsimp only); (with_reducible exact HS.out))
        clear hK K
        (try simp only [Act.put, List.setIfInBounds_toArray, List.set_cons_zero, List.set_cons_succ])
        refine hand_ready2 4 7 (by kernel_rfl) (by kernel_rfl) (by kernel_rfl) (fun o ho K hK => ?_) (fun o ho K hK => ?_)
        · (simp only [List.getElem?_toArray, List.getElem?_cons_succ, List.getElem?_cons_zero, Option.some.injEq] at ho)
          subst ho
          (have kc := conv_mark HL.out 1 rfl; go_simp; refine name_world (fun W hW => ?_); have hk := mark_keeps hW; have HB := kept (HB.out.trans (mark_below hW HG.out)); have HS := kept (And.intro (hk.cell_ HS.out.1) (hk.cell_ HS.out.2)); (try replace H1 := kept (H1.out.keeps hk)); (try replace H2 := kept (H2.out.keeps hk)); (try replace H3 := kept (H3.out.keeps hk)); (try replace H4 := kept (H4.out.keeps hk)); have H2 := kept ((Lit.has (xs := [95]) HL.out rfl).keeps hk); clear kc hW hk HL HG)
          refine hK.out _ _ ?_ (fun hHeld => ?_)
          · ((try dsimp only); (with_reducible exact HS.out))
          clear hK K
          (try simp only [Act.put, List.setIfInBounds_toArray, List.set_cons_zero, List.set_cons_succ])
          refine hand_ready 7 (by kernel_rfl) (by kernel_rfl) (fun o ho K hK => ?_)
          (simp only [List.getElem?_toArray, List.getElem?_cons_succ, List.getElem?_cons_zero, Option.some.injEq] at ho)
          subst ho
          go_simp
          (go_at_call 31; (with_reducible refine (HN3 _).out.mono ?_); rintro e W ⟨A3, c3, rfl, hown, hb⟩; have hk := Keeps.of_below hb; have HB := kept (bel_to hb HB.out); have HS := kept (And.intro (hk.cell_ HS.out.1) (hk.cell_ HS.out.2)); (try replace H1 := kept (H1.out.keeps hk)); (try replace H2 := kept (H2.out.keeps hk)); (try replace H3 := kept (H3.out.keeps hk)); (try replace H4 := kept (H4.out.keeps hk)); (try replace HL := kept (HL.out.below hb)); have H3 := kept (Has.of_own hown); clear hown hb hk)
          (try go_wp2_with fail)
          refine hK.out _ _ ?_ (fun hHeld => ?_)
          · ((try dsimp only); (with_reducible exact HS.out))
          clear hK K
          (try simp only [Act.put, List.setIfInBounds_toArray, List.set_cons_zero, List.set_cons_succ])
          refine hand_ready 10 (by kernel_rfl) (by kernel_rfl) (fun o ho K hK => ?_)
          (simp only [List.getElem?_toArray, List.getElem?_cons_succ, List.getElem?_cons_zero, Option.some.injEq] at ho)
          subst ho
          go_simp
          (refine name_world (fun W hW => ?_); have HW := kept hW; have hk := keeps_alloc hW; have HS := kept (And.intro (hk.cell_ HS.out.1) (hk.cell_ HS.out.2)); clear hW hk)
          refine hK.out _ _ ?_ (fun hHeld => ?_)
          · ((try dsimp only); (with_reducible exact HS.out))
          clear hK K
          (try simp only [Act.put, List.setIfInBounds_toArray, List.set_cons_zero, List.set_cons_succ])
          refine hand_ready 11 (by kernel_rfl) (by kernel_rfl) (fun o ho K hK => ?_)
          (simp only [List.getElem?_toArray, List.getElem?_cons_succ, List.getElem?_cons_zero, Option.some.injEq] at ho)
          subst ho
          go_simp
          (go_at_call 30; (with_reducible refine (concat_row4 HW.out H1.out H2.out H3.out H4.out HSG.out).mono ?_); rintro e W5 ⟨A5, c5, rfl, hown, hb⟩; have hk := Keeps.of_below hb; have HS := kept (And.intro (hk.cell_ HS.out.1) (hk.cell_ HS.out.2)); have HO := kept (own_mono hown (Nat.le_succ_of_le HB.out.size)); have HE := kept (bel_to hb (bel_to (below_alloc HW.out) HB.out)); clear hown hb hk)
          (try go_wp2_with fail)
          refine hK.out _ _ ?_ (fun hHeld => ?_)
          · ((try dsimp only); (with_reducible exact HS.out))
          clear hK K
          (try simp only [Act.put, List.setIfInBounds_toArray, List.set_cons_zero, List.set_cons_succ])
          refine hand_take 12 (some 4) ?_ (by kernel_rfl) (by kernel_rfl) (by kernel_rfl) (by kernel_rfl) (by kernel_rfl) (fun _ _ _ h => h) ?_ (by assumption) ?_
          rotate_left
          · (intro o ho w hSw; (simp only [List.getElem?_toArray, List.getElem?_cons_succ, List.getElem?_cons_zero, Option.some.injEq] at ho); subst ho; (try dsimp only at hSw); go_simp; (first | done | with_reducible rfl))
          (try simp only [Act.put, List.setIfInBounds_toArray, List.set_cons_zero, List.set_cons_succ])
          refine wpAnyH_done (by kernel_rfl) ?_ _
          go_wp2
          go_ret
          exact ⟨_, _, rfl, HO.out, HE.out⟩
        · (simp only [List.getElem?_toArray, List.getElem?_cons_succ, List.getElem?_cons_zero, Option.some.injEq] at ho)
          subst ho
          go_simp
          (go_at_call 31; (with_reducible refine (HN3 _).out.mono ?_); rintro e W ⟨A3, c3, rfl, hown, hb⟩; have hk := Keeps.of_below hb; have HB := kept (bel_to hb HB.out); have HS := kept (And.intro (hk.cell_ HS.out.1) (hk.cell_ HS.out.2)); (try replace H1 := kept (H1.out.keeps hk)); (try replace H2 := kept (H2.out.keeps hk)); (try replace H3 := kept (H3.out.keeps hk)); (try replace H4 := kept (H4.out.keeps hk)); (try replace HL := kept (HL.out.below hb)); have H3 := kept (Has.of_own hown); clear hown hb hk)
          (try go_wp2_with fail)
          refine hK.out _ _ ?_ (fun hHeld => ?_)
          · ((try dsimp only); (with_reducible exact HS.out))
          clear hK K
          (try simp only [Act.put, List.setIfInBounds_toArray, List.set_cons_zero, List.set_cons_succ])
          refine hand_ready 4 (by kernel_rfl) (by kernel_rfl) (fun o ho K hK => ?_)
          (simp only [List.getElem?_toArray, List.getElem?_cons_succ, List.getElem?_cons_zero, Option.some.injEq] at ho)
          subst ho
          (have kc := conv_mark HL.out 1 rfl; go_simp; refine name_world (fun W hW => ?_); have hk := mark_keeps hW; have HB := kept (HB.out.trans (mark_below hW HG.out)); have HS := kept (And.intro (hk.cell_ HS.out.1) (hk.cell_ HS.out.2)); (try replace H1 := kept (H1.out.keeps hk)); (try replace H2 := kept (H2.out.keeps hk)); (try replace H3 := kept (H3.out.keeps hk)); (try replace H4 := kept (H4.out.keeps hk)); have H2 := kept ((Lit.has (xs := [95]) HL.out rfl).keeps hk); clear kc hW hk HL HG)
          refine hK.out _ _ ?_ (fun hHeld => ?_)
          · ((try dsimp only); (with_reducible exact HS.out))
          clear hK K
          (try simp only [Act.put, List.setIfInBounds_toArray, List.set_cons_zero, List.set_cons_succ])
          refine hand_ready 10 (by kernel_rfl) (by kernel_rfl) (fun o ho K hK => ?_)
          (simp only [List.getElem?_toArray, List.getElem?_cons_succ, List.getElem?_cons_zero, Option.some.injEq] at ho)
          subst ho
          go_simp
          (refine name_world (fun W hW => ?_); have HW := kept hW; have hk := keeps_alloc hW; have HS := kept (And.intro (hk.cell_ HS.out.1) (hk.cell_ HS.out.2)); clear hW hk)
          refine hK.out _ _ ?_ (fun hHeld => ?_)
          · ((try dsimp only); (with_reducible exact HS.out))
          clear hK K
          (try simp only [Act.put, List.setIfInBounds_toArray, List.set_cons_zero, List.set_cons_succ])
          refine hand_ready 11 (by kernel_rfl) (by kernel_rfl) (fun o ho K hK => ?_)
          (simp only [List.getElem?_toArray, List.getElem?_cons_succ, List.getElem?_cons_zero, Option.some.injEq] at ho)
          subst ho
          go_simp
          (go_at_call 30; (with_reducible refine (concat_row4 HW.out H1.out H2.out H3.out H4.out HSG.out).mono ?_); rintro e W5 ⟨A5, c5, rfl, hown, hb⟩; have hk := Keeps.of_below hb; have HS := kept (And.intro (hk.cell_ HS.out.1) (hk.cell_ HS.out.2)); have HO := kept (own_mono hown (Nat.le_succ_of_le HB.out.size)); have HE := kept (bel_to hb (bel_to (below_alloc HW.out) HB.out)); clear hown hb hk)
          (try go_wp2_with fail)
          refine hK.out _ _ ?_ (fun hHeld => ?_)
          · ((try dsimp only); (with_reducible exact HS.out))
          clear hK K
          (try simp only [Act.put, List.setIfInBounds_toArray, List.set_cons_zero, List.set_cons_succ])
          refine hand_take 12 (some 4) ?_ (by kernel_rfl) (by kernel_rfl) (by kernel_rfl) (by kernel_rfl) (by kernel_rfl) (fun _ _ _ h => h) ?_ (by assumption) ?_
          rotate_left
          · (intro o ho w hSw; (simp only [List.getElem?_toArray, List.getElem?_cons_succ, List.getElem?_cons_zero, Option.some.injEq] at ho); subst ho; (try dsimp only at hSw); go_simp; (first | done | with_reducible rfl))
          (try simp only [Act.put, List.setIfInBounds_toArray, List.set_cons_zero, List.set_cons_succ])
          refine wpAnyH_done (by kernel_rfl) ?_ _
          go_wp2
          go_ret
          exact ⟨_, _, rfl, HO.out, HE.out⟩
      · (simp only [List.getElem?_toArray, List.getElem?_cons_succ, List.getElem?_cons_zero, Option.some.injEq] at ho)
        subst ho
        go_simp
        (go_at_call 31; (with_reducible refine (HN3 _).out.mono ?_); rintro e W ⟨A3, c3, rfl, hown, hb⟩; have hk := Keeps.of_below hb; have HB := kept (bel_to hb HB.out); have HS := kept (And.intro (hk.cell_ HS.out.1) (hk.cell_ HS.out.2)); (try replace H1 := kept (H1.out.keeps hk)); (try replace H2 := kept (H2.out.keeps hk)); (try replace H3 := kept (H3.out.keeps hk)); (try replace H4 := kept (H4.out.keeps hk)); (try replace HL := kept (HL.out.below hb)); have H3 := kept (Has.of_own hown); clear hown hb hk)
        (try go_wp2_with fail)
        refine hK.out _ _ ?_ (fun hHeld => ?_)
        · ((try dsimp only); (with_reducible exact HS.out))
        clear hK K
        (try simp only [Act.put, List.setIfInBounds_toArray, List.set_cons_zero, List.set_cons_succ])
        refine hand_ready 3 (by kernel_rfl) (by kernel_rfl) (fun o ho K hK => ?_)
        (simp only [List.getElem?_toArray, List.getElem?_cons_succ, List.getElem?_cons_zero, Option.some.injEq] at ho)
        subst ho
        go_simp
        (refine name_world (fun W hW => ?_); have hb := below_alloc hW; have hk := keeps_alloc hW; have HG := kept HB.out.size; have HB := kept (bel_to hb HB.out); have HS := kept (And.intro (hk.cell_ HS.out.1) (hk.cell_ HS.out.2)); (try replace H1 := kept (H1.out.keeps hk)); (try replace H2 := kept (H2.out.keeps hk)); (try replace H3 := kept (H3.out.keeps hk)); (try replace H4 := kept (H4.out.keeps hk)); (try replace HL := kept (HL.out.below hb)); have HL := kept (Lit.new hW); clear hW hb hk)
        refine hK.out _ _ ?_ (fun hHeld => ?_)
        · ((try dsimp only); (with_reducible exact HS.out))
        clear hK K
        (try simp only [Act.put, List.setIfInBounds_toArray, List.set_cons_zero, List.set_cons_succ])
        refine hand_ready 4 (by kernel_rfl) (by kernel_rfl) (fun o ho K hK => ?_)
        (simp only [List.getElem?_toArray, List.getElem?_cons_succ, List.getElem?_cons_zero, Option.some.injEq] at ho)
        subst ho
        (have kc := conv_mark HL.out 1 rfl; go_simp; refine name_world (fun W hW => ?_); have hk := mark_keeps hW; have HB := kept (HB.out.trans (mark_below hW HG.out)); have HS := kept (And.intro (hk.cell_ HS.out.1) (hk.cell_ HS.out.2)); (try replace H1 := kept (H1.out.keeps hk)); (try replace H2 := kept (H2.out.keeps hk)); (try replace H3 := kept (H3.out.keeps hk)); (try replace H4 := kept (H4.out.keeps hk)); have H2 := kept ((Lit.has (xs := [95]) HL.out rfl).keeps hk); clear kc hW hk HL HG)
        refine hK.out _ _ ?_ (fun hHeld => ?_)
        · ((try dsimp only); (with_reducible exact HS.out))
        clear hK K
        (try simp only [Act.put, List.setIfInBounds_toArray, List.set_cons_zero, List.set_cons_succ])
        refine hand_ready 10 (by kernel_rfl) (by kernel_rfl) (fun o ho K hK => ?_)
        (simp only [List.getElem?_toArray, List.getElem?_cons_succ, List.getElem?_cons_zero, Option.some.injEq] at ho)
        subst ho
        go_simp
        (refine name_world (fun W hW => ?_); have HW := kept hW; have hk := keeps_alloc hW; have HS := kept (And.intro (hk.cell_ HS.out.1) (hk.cell_ HS.out.2)); clear hW hk)
        refine hK.out _ _ ?_ (fun hHeld => ?_)
        · ((try dsimp only); (with_reducible exact HS.out))
        clear hK K
        (try simp only [Act.put, List.setIfInBounds_toArray, List.set_cons_zero, List.set_cons_succ])
        refine hand_ready 11 (by kernel_rfl) (by kernel_rfl) (fun o ho K hK => ?_)
        (simp only [List.getElem?_toArray, List.getElem?_cons_succ, List.getElem?_cons_zero, Option.some.injEq] at ho)
        subst ho
        go_simp
        (go_at_call 30; (with_reducible refine (concat_row4 HW.out H1.out H2.out H3.out H4.out HSG.out).mono ?_); rintro e W5 ⟨A5, c5, rfl, hown, hb⟩; have hk := Keeps.of_below hb; have HS := kept (And.intro (hk.cell_ HS.out.1) (hk.cell_ HS.out.2)); have HO := kept (own_mono hown (Nat.le_succ_of_le HB.out.size)); have HE := kept (bel_to hb (bel_to (below_alloc HW.out) HB.out)); clear hown hb hk)
        (try go_wp2_with fail)
        refine hK.out _ _ ?_ (fun hHeld => ?_)
        · ((try dsimp only); (with_reducible exact HS.out))
        clear hK K
        (try simp only [Act.put, List.setIfInBounds_toArray, List.set_cons_zero, List.set_cons_succ])
        refine hand_take 12 (some 4) ?_ (by kernel_rfl) (by kernel_rfl) (by kernel_rfl) (by kernel_rfl) (by kernel_rfl) (fun _ _ _ h => h) ?_ (by assumption) ?_
        rotate_left
        · (intro o ho w hSw; (simp only [List.getElem?_toArray, List.getElem?_cons_succ, List.getElem?_cons_zero, Option.some.injEq] at ho); subst ho; (try dsimp only at hSw); go_simp; (first | done | with_reducible rfl))
        (try simp only [Act.put, List.setIfInBounds_toArray, List.set_cons_zero, List.set_cons_succ])
        refine wpAnyH_done (by kernel_rfl) ?_ _
        go_wp2
        go_ret
        exact ⟨_, _, rfl, HO.out, HE.out⟩
  · (simp only [List.getElem?_toArray, List.getElem?_cons_succ, List.getElem?_cons_zero, Option.some.injEq] at ho)
    subst ho
    go_simp
    (refine name_world (fun W hW => ?_); have hb := below_alloc hW; have hk := keeps_alloc hW; have HG := kept HB.out.size; have HB := kept (bel_to hb HB.out); have HS := kept (And.intro (hk.cell_ HS.out.1) (hk.cell_ HS.out.2)); (try replace H1 := kept (H1.out.keeps hk)); (try replace H2 := kept (H2.out.keeps hk)); (try replace H3 := kept (H3.out.keeps hk)); (try replace H4 := kept (H4.out.keeps hk)); (try replace HL := kept (HL.out.below hb)); have HL := kept (Lit.new hW); clear hW hb hk)
    refine hK.out _ _ ?_ (fun hHeld => ?_)
    · ((try dsimp only); (with_reducible exact HS.out))
    clear hK K
    (try simp only [Act.put, List.setIfInBounds_toArray, List.set_cons_zero, List.set_cons_succ])
    refine hand_ready3 2 4 9 (by kernel_rfl) (by kernel_rfl) (by kernel_rfl) (by kernel_rfl) (fun o ho K hK => ?_) (fun o ho K hK => ?_) (fun o ho K hK => ?_)
    · (simp only [List.getElem?_toArray, List.getElem?_cons_succ, List.getElem?_cons_zero, Option.some.injEq] at ho)
      subst ho
      go_simp
      (go_at_call 31; (with_reducible refine (HN1 _).out.mono ?_); rintro e W ⟨A1, c1, rfl, hown, hb⟩; have hk := Keeps.of_below hb; have HB := kept (bel_to hb HB.out); have HS := kept (And.intro (hk.cell_ HS.out.1) (hk.cell_ HS.out.2)); (try replace H1 := kept (H1.out.keeps hk)); (try replace H2 := kept (H2.out.keeps hk)); (try replace H3 := kept (H3.out.keeps hk)); (try replace H4 := kept (H4.out.keeps hk)); (try replace HL := kept (HL.out.below hb)); have H1 := kept (Has.of_own hown); clear hown hb hk)
      (try go_wp2_with fail)
      refine hK.out _ _ ?_ (fun hHeld => ?_)
      · ((try dsimp only); (with_reducible exact HS.out))
      clear hK K
      (try simp only [Act.put, List.setIfInBounds_toArray, List.set_cons_zero, List.set_cons_succ])
      refine hand_ready3 4 7 9 (by kernel_rfl) (by kernel_rfl) (by kernel_rfl) (by kernel_rfl) (fun o ho K hK => ?_) (fun o ho K hK => ?_) (fun o ho K hK => ?_)
      · (simp only [List.getElem?_toArray, List.getElem?_cons_succ, List.getElem?_cons_zero, Option.some.injEq] at ho)
        subst ho
        (have kc := conv_mark HL.out 1 rfl; go_simp; refine name_world (fun W hW => ?_); have hk := mark_keeps hW; have HB := kept (HB.out.trans (mark_below hW HG.out)); have HS := kept (And.intro (hk.cell_ HS.out.1) (hk.cell_ HS.out.2)); (try replace H1 := kept (H1.out.keeps hk)); (try replace H2 := kept (H2.out.keeps hk)); (try replace H3 := kept (H3.out.keeps hk)); (try replace H4 := kept (H4.out.keeps hk)); have H2 := kept ((Lit.has (xs := [95]) HL.out rfl).keeps hk); clear kc hW hk HL HG)
        refine hK.out _ _ ?_ (fun hHeld => ?_)
        · ((try dsimp only); (with_reducible exact HS.out))
        clear hK K
        (try simp only [Act.put, List.setIfInBounds_toArray, List.set_cons_zero, List.set_cons_succ])
        refine hand_ready2 7 9 (by kernel_rfl) (by kernel_rfl) (by kernel_rfl) (fun o ho K hK => ?_) (fun o ho K hK => ?_)
        · (simp only [List.getElem?_toArray, List.getElem?_cons_succ, List.getElem?_cons_zero, Option.some.injEq] at ho)
          subst ho
          go_simp
          (go_at_call 31; (with_reducible refine (HN3 _).out.mono ?_); rintro e W ⟨A3, c3, rfl, hown, hb⟩; have hk := Keeps.of_below hb; have HB := kept (bel_to hb HB.out); have HS := kept (And.intro (hk.cell_ HS.out.1) (hk.cell_ HS.out.2)); (try replace H1 := kept (H1.out.keeps hk)); (try replace H2 := kept (H2.out.keeps hk)); (try replace H3 := kept (H3.out.keeps hk)); (try replace H4 := kept (H4.out.keeps hk)); (try replace HL := kept (HL.out.below hb)); have H3 := kept (Has.of_own hown); clear hown hb hk)
          (try go_wp2_with fail)
          refine hK.out _ _ ?_ (fun hHeld => ?_)
          · ((try dsimp only); (with_reducible exact HS.out))
          clear hK K
          (try simp only [Act.put, List.setIfInBounds_toArray, List.set_cons_zero, List.set_cons_succ])
          refine hand_ready 9 (by kernel_rfl) (by kernel_rfl) (fun o ho K hK => ?_)
          (simp only [List.getElem?_toArray, List.getElem?_cons_succ, List.getElem?_cons_zero, Option.some.injEq] at ho)
          subst ho
          (have kc := fun W => conv_str sg W; go_simp; refine name_world (fun W hW => ?_); have hb := str_below hW; have hk := Keeps.of_below hb; have HB := kept (bel_to hb HB.out); have HS := kept (And.intro (hk.cell_ HS.out.1) (hk.cell_ HS.out.2)); (try replace H1 := kept (H1.out.keeps hk)); (try replace H2 := kept (H2.out.keeps hk)); (try replace H3 := kept (H3.out.keeps hk)); (try replace H4 := kept (H4.out.keeps hk)); (try replace HL := kept (HL.out.below hb)); have H4 := kept (str_has hW (Nat.le_trans HSG.out (by decide))); clear kc hW hb hk)
          refine hK.out _ _ ?_ (fun hHeld => ?_)
          · ((try dsimp only); (with_reducible exact HS.out))
          clear hK K
          (try simp only [Act.put, List.setIfInBounds_toArray, List.set_cons_zero, List.set_cons_succ])
          refine hand_ready 10 (by kernel_rfl) (by kernel_rfl) (fun o ho K hK => ?_)
          (simp only [List.getElem?_toArray, List.getElem?_cons_succ, List.getElem?_cons_zero, Option.some.injEq] at ho)
          subst ho
          go_simp
          (refine name_world (fun W hW => ?_); have HW := kept hW; have hk := keeps_alloc hW; have HS := kept (And.intro (hk.cell_ HS.out.1) (hk.cell_ HS.out.2)); clear hW hk)
          refine hK.out _ _ ?_ (fun hHeld => ?_)
          · ((try dsimp only); (with_reducible exact HS.out))
          clear hK K
          (try simp only [Act.put, List.setIfInBounds_toArray, List.set_cons_zero, List.set_cons_succ])
          refine hand_ready 11 (by kernel_rfl) (by kernel_rfl) (fun o ho K hK => ?_)
          (simp only [List.getElem?_toArray, List.getElem?_cons_succ, List.getElem?_cons_zero, Option.some.injEq] at ho)
          subst ho
          go_simp
          (go_at_call 30; (with_reducible refine (concat_row4 HW.out H1.out H2.out H3.out H4.out HSG.out).mono ?_); rintro e W5 ⟨A5, c5, rfl, hown, hb⟩; have hk := Keeps.of_below hb; have HS := kept (And.intro (hk.cell_ HS.out.1) (hk.cell_ HS.out.2)); have HO := kept (own_mono hown (Nat.le_succ_of_le HB.out.size)); have HE := kept (bel_to hb (bel_to (below_alloc HW.out) HB.out)); clear hown hb hk)
          (try go_wp2_with fail)
          refine hK.out _ _ ?_ (fun hHeld => ?_)
          · ((try dsimp only); (with_reducible exact HS.out))
          clear hK K
          (try simp only [Act.put, List.setIfInBounds_toArray, List.set_cons_zero, List.set_cons_succ])
          refine hand_take 12 (some 4) ?_ (by kernel_rfl) (by kernel_rfl) (by kernel_rfl) (by kernel_rfl) (by kernel_rfl) (fun _ _ _ h => h) ?_ (by assumption) ?_
          rotate_left
          · (intro o ho w hSw; (simp only [List.getElem?_toArray, List.getElem?_cons_succ, List.getElem?_cons_zero, Option.some.injEq] at ho); subst ho; (try dsimp only at hSw); go_simp; (first | done | with_reducible rfl))
          (try simp only [Act.put, List.setIfInBounds_toArray, List.set_cons_zero, List.set_cons_succ])
          refine wpAnyH_done (by kernel_rfl) ?_ _
          go_wp2
          go_ret
          exact ⟨_, _, rfl, HO.out, HE.out⟩
        · (simp only [List.getElem?_toArray, List.getElem?_cons_succ, List.getElem?_cons_zero, Option.some.injEq] at ho)
          subst ho
          (have kc := fun W => conv_str sg W; go_simp; refine name_world (fun W hW => ?_); have hb := str_below hW; have hk := Keeps.of_below hb; have HB := kept (bel_to hb HB.out); have HS := kept (And.intro (hk.cell_ HS.out.1) (hk.cell_ HS.out.2)); (try replace H1 := kept (H1.out.keeps hk)); (try replace H2 := kept (H2.out.keeps hk)); (try replace H3 := kept (H3.out.keeps hk)); (try replace H4 := kept (H4.out.keeps hk)); (try replace HL := kept (HL.out.below hb)); have H4 := kept (str_has hW (Nat.le_trans HSG.out (by decide))); clear kc hW hb hk)
          refine hK.out _ _ ?_ (fun hHeld => ?_)
          · ((try dsimp only); (with_reducible exact HS.out))
          clear hK K
          (try simp only [Act.put, List.setIfInBounds_toArray, List.set_cons_zero, List.set_cons_succ])
          refine hand_ready 7 (by kernel_rfl) (by kernel_rfl) (fun o ho K hK => ?_)
          (simp only [List.getElem?_toArray, List.getElem?_cons_succ, List.getElem?_cons_zero, Option.some.injEq] at ho)
          subst ho
          go_simp
          (go_at_call 31; (with_reducible refine (HN3 _).out.mono ?_); rintro e W ⟨A3, c3, rfl, hown, hb⟩; have hk := Keeps.of_below hb; have HB := kept (bel_to hb HB.out); have HS := kept (And.intro (hk.cell_ HS.out.1) (hk.cell_ HS.out.2)); (try replace H1 := kept (H1.out.keeps hk)); (try replace H2 := kept (H2.out.keeps hk)); (try replace H3 := kept (H3.out.keeps hk)); (try replace H4 := kept (H4.out.keeps hk)); (try replace HL := kept (HL.out.below hb)); have H3 := kept (Has.of_own hown); clear hown hb hk)
          (try go_wp2_with fail)
          refine hK.out _ _ ?_ (fun hHeld => ?_)
          · ((try dsimp only); (with_reducible exact HS.out))
          clear hK K
          (try simp only [Act.put, List.setIfInBounds_toArray, List.set_cons_zero, List.set_cons_succ])
          refine hand_ready 10 (by kernel_rfl) (by kernel_rfl) (fun o ho K hK => ?_)
          (simp only [List.getElem?_toArray, List.getElem?_cons_succ, List.getElem?_cons_zero, Option.some.injEq] at ho)
          subst ho
          go_simp
          (refine name_world (fun W hW => ?_); have HW := kept hW; have hk := keeps_alloc hW; have HS := kept (And.intro (hk.cell_ HS.out.1) (hk.cell_ HS.out.2)); clear hW hk)
          refine hK.out _ _ ?_ (fun hHeld => ?_)
          · ((try dsimp only); (with_reducible exact HS.out))
          clear hK K
          (try simp only [Act.put, List.setIfInBounds_toArray, List.set_cons_zero, List.set_cons_succ])
          refine hand_ready 11 (by kernel_rfl) (by kernel_rfl) (fun o ho K hK => ?_)
          (simp only [List.getElem?_toArray, List.getElem?_cons_succ, List.getElem?_cons_zero, Option.some.injEq] at ho)
          subst ho
          go_simp
          (go_at_call 30; (with_reducible refine (concat_row4 HW.out H1.out H2.out H3.out H4.out HSG.out).mono ?_); rintro e W5 ⟨A5, c5, rfl, hown, hb⟩; have hk := Keeps.of_below hb; have HS := kept (And.intro (hk.cell_ HS.out.1) (hk.cell_ HS.out.2)); have HO := kept (own_mono hown (Nat.le_succ_of_le HB.out.size)); have HE := kept (bel_to hb (bel_to (below_alloc HW.out) HB.out)); clear hown hb hk)
          (try go_wp2_with fail)
          refine hK.out _ _ ?_ (fun hHeld => ?_)
          · ((try dsimp only); (with_reducible exact HS.out))
          clear hK K
          (try simp only [Act.put, List.setIfInBounds_toArray, List.set_cons_zero, List.set_cons_succ])
          refine hand_take 12 (some 4) ?_ (by kernel_rfl) (by kernel_rfl) (by kernel_rfl) (by kernel_rfl) (by kernel_rfl) (fun _ _ _ h => h) ?_ (by assumption) ?_
          rotate_left
          · (intro o ho w hSw; (simp only [List.getElem?_toArray, List.getElem?_cons_succ, List.getElem?_cons_zero, Option.some.injEq] at ho); subst ho; (try dsimp only at hSw); go_simp; (first | done | with_reducible rfl))
          (try simp only [Act.put, List.setIfInBounds_toArray, List.set_cons_zero, List.set_cons_succ])
          refine wpAnyH_done (by kernel_rfl) ?_ _
          go_wp2
          go_ret
          exact ⟨_, _, rfl, HO.out, HE.out⟩
      · (simp only [List.getElem?_toArray, List.getElem?_cons_succ, List.getElem?_cons_zero, Option.some.injEq] at ho)
        subst ho
        go_simp
        (go_at_call 31; (with_reducible refine (HN3 _).out.mono ?_); rintro e W ⟨A3, c3, rfl, hown, hb⟩; have hk := Keeps.of_below hb; have HB := kept (bel_to hb HB.out); have HS := kept (And.intro (hk.cell_ HS.out.1) (hk.cell_ HS.out.2)); (try replace H1 := kept (H1.out.keeps hk)); (try replace H2 := kept (H2.out.keeps hk)); (try replace H3 := kept (H3.out.keeps hk)); (try replace H4 := kept (H4.out.keeps hk)); (try replace HL := kept (HL.out.below hb)); have H3 := kept (Has.of_own hown); clear hown hb hk)
        (try go_wp2_with fail)
        refine hK.out _ _ ?_ (fun hHeld => ?_)
        · ((try dsimp only); (with_reducible exact HS.out))
        clear hK K
        (try simp only [Act.put, List.setIfInBounds_toArray, List.set_cons_zero, List.set_cons_succ])
        refine hand_ready2 4 9 (by kernel_rfl) (by kernel_rfl) (by kernel_rfl) (fun o ho K hK => ?_) (fun o ho K hK => ?_)
        · (simp only [List.getElem?_toArray, List.getElem?_cons_succ, List.getElem?_cons_zero, Option.some.injEq] at ho)
          subst ho
          (have kc := conv_mark HL.out 1 rfl; go_simp; refine name_world (fun W hW => ?_); have hk := mark_keeps hW; have HB := kept (HB.out.trans (mark_below hW HG.out)); have HS := kept (And.intro (hk.cell_ HS.out.1) (hk.cell_ HS.out.2)); (try replace H1 := kept (H1.out.keeps hk)); (try replace H2 := kept (H2.out.keeps hk)); (try replace H3 := kept (H3.out.keeps hk)); (try replace H4 := kept (H4.out.keeps hk)); have H2 := kept ((Lit.has (xs := [95]) HL.out rfl).keeps hk); clear kc hW hk HL HG)
          refine hK.out _ _ ?_ (fun hHeld => ?_)
          · ((try dsimp only); (with_reducible exact HS.out))
          clear hK K
          (try simp only [Act.put, List.setIfInBounds_toArray, List.set_cons_zero, List.set_cons_succ])
          refine hand_ready 9 (by kernel_rfl) (by kernel_rfl) (fun o ho K hK => ?_)
          (simp only [List.getElem?_toArray, List.getElem?_cons_succ, List.getElem?_cons_zero, Option.some.injEq] at ho)
          subst ho
          (have kc := fun W => conv_str sg W; go_simp; refine name_world (fun W hW => ?_); have hb := str_below hW; have hk := Keeps.of_below hb; have HB := kept (bel_to hb HB.out); have HS := kept (And.intro (hk.cell_ HS.out.1) (hk.cell_ HS.out.2)); (try replace H1 := kept (H1.out.keeps hk)); (try replace H2 := kept (H2.out.keeps hk)); (try replace H3 := kept (H3.out.keeps hk)); (try replace H4 := kept (H4.out.keeps hk)); (try replace HL := kept (HL.out.below hb)); have H4 := kept (str_has hW (Nat.le_trans HSG.out (by decide))); clear kc hW hb hk)
          refine hK.out _ _ ?_ (fun hHeld => ?_)
          · ((try dsimp only); (with_reducible exact HS.out))
          clear hK K
          (try simp only [Act.put, List.setIfInBounds_toArray, List.set_cons_zero, List.set_cons_succ])
          refine hand_ready 10 (by kernel_rfl) (by kernel_rfl) (fun o ho K hK => ?_)
          (simp only [List.getElem?_toArray, List.getElem?_cons_succ, List.getElem?_cons_zero, Option.some.injEq] at ho)
          subst ho
          go_simp
          (refine name_world (fun W hW => ?_); have HW := kept hW; have hk := keeps_alloc hW; have HS := kept (And.intro (hk.cell_ HS.out.1) (hk.cell_ HS.out.2)); clear hW hk)
          refine hK.out _ _ ?_ (fun hHeld => ?_)
          · ((try dsimp only); (with_reducible exact HS.out))
          clear hK K
          (try simp only [Act.put, List.setIfInBounds_toArray, List.set_cons_zero, List.set_cons_succ])
          refine hand_ready 11 (by kernel_rfl) (by kernel_rfl) (fun o ho K hK => ?_)
          (simp only [List.getElem?_toArray, List.getElem?_cons_succ, List.getElem?_cons_zero, Option.some.injEq] at ho)
          subst ho
          go_simp
          (go_at_call 30; (with_reducible refine (concat_row4 HW.out H1.out H2.out H3.out H4.out HSG.out).mono ?_); rintro e W5 ⟨A5, c5, rfl, hown, hb⟩; have hk := Keeps.of_below hb; have HS := kept (And.intro (hk.cell_ HS.out.1) (hk.cell_ HS.out.2)); have HO := kept (own_mono hown (Nat.le_succ_of_le HB.out.size)); have HE := kept (bel_to hb (bel_to (below_alloc HW.out) HB.out)); clear hown hb hk)
          (try go_wp2_with fail)
          refine hK.out _ _ ?_ (fun hHeld => ?_)
          · ((try dsimp only); (with_reducible exact HS.out))
          clear hK K
          (try simp only [Act.put, List.setIfInBounds_toArray, List.set_cons_zero, List.set_cons_succ])
          refine hand_take 12 (some 4) ?_ (by kernel_rfl) (by kernel_rfl) (by kernel_rfl) (by kernel_rfl) (by kernel_rfl) (fun _ _ _ h => h) ?_ (by assumption) ?_
          rotate_left
          · (intro o ho w hSw; (simp only [List.getElem?_toArray, List.getElem?_cons_succ, List.getElem?_cons_zero, Option.some.injEq] at ho); subst ho; (try dsimp only at hSw); go_simp; (first | done | with_reducible rfl))
          (try simp only [Act.put, List.setIfInBounds_toArray, List.set_cons_zero, List.set_cons_succ])
          refine wpAnyH_done (by kernel_rfl) ?_ _
          go_wp2
          go_ret
          exact ⟨_, _, rfl, HO.out, HE.out⟩
        · (simp only [List.getElem?_toArray, List.getElem?_cons_succ, List.getElem?_cons_zero, Option.some.injEq] at ho)
          subst ho
          (have kc := fun W => conv_str sg W; go_simp; refine name_world (fun W hW => ?_); have hb := str_below hW; have hk := Keeps.of_below hb; have HB := kept (bel_to hb HB.out); have HS := kept (And.intro (hk.cell_ HS.out.1) (hk.cell_ HS.out.2)); (try replace H1 := kept (H1.out.keeps hk)); (try replace H2 := kept (H2.out.keeps hk)); (try replace H3 := kept (H3.out.keeps hk)); (try replace H4 := kept (H4.out.keeps hk)); (try replace HL := kept (HL.out.below hb)); have H4 := kept (str_has hW (Nat.le_trans HSG.out (by decide))); clear kc hW hb hk)
          refine hK.out _ _ ?_ (fun hHeld => ?_)
          · ((try dsimp only); (with_reducible exact HS.out))
          clear hK K
          (try simp only [Act.put, List.setIfInBounds_toArray, List.set_cons_zero, List.set_cons_succ])
          refine hand_ready 4 (by kernel_rfl) (by kernel_rfl) (fun o ho K hK => ?_)
          (simp only [List.getElem?_toArray, List.getElem?_cons_succ, List.getElem?_cons_zero, Option.some.injEq] at ho)
          subst ho
          (have kc := conv_mark HL.out 1 rfl; go_simp; refine name_world (fun W hW => ?_); have hk := mark_keeps hW; have HB := kept (HB.out.trans (mark_below hW HG.out)); have HS := kept (And.intro (hk.cell_ HS.out.1) (hk.cell_ HS.out.2)); (try replace H1 := kept (H1.out.keeps hk)); (try replace H2 := kept (H2.out.keeps hk)); (try replace H3 := kept (H3.out.keeps hk)); (try replace H4 := kept (H4.out.keeps hk)); have H2 := kept ((Lit.has (xs := [95]) HL.out rfl).keeps hk); clear kc hW hk HL HG)
          refine hK.out _ _ ?_ (fun hHeld => ?_)
          · ((try dsimp only); (with_reducible exact HS.out))
          clear hK K
          (try simp only [Act.put, List.setIfInBounds_toArray, List.set_cons_zero, List.set_cons_succ])
          refine hand_ready 10 (by kernel_rfl) (by kernel_rfl) (fun o ho K hK => ?_)
          (simp only [List.getElem?_toArray, List.getElem?_cons_succ, List.getElem?_cons_zero, Option.some.injEq] at ho)
          subst ho
          go_simp
          (refine name_world (fun W hW => ?_); have HW := kept hW; have hk := keeps_alloc hW; have HS := kept (And.intro (hk.cell_ HS.out.1) (hk.cell_ HS.out.2)); clear hW hk)
          refine hK.out _ _ ?_ (fun hHeld => ?_)
          · ((try dsimp only); (with_reducible exact HS.out))
          clear hK K
          (try simp only [Act.put, List.setIfInBounds_toArray, List.set_cons_zero, List.set_cons_succ])
          refine hand_ready 11 (by kernel_rfl) (by kernel_rfl) (fun o ho K hK => ?_)
          (simp only [List.getElem?_toArray, List.getElem?_cons_succ, List.getElem?_cons_zero, Option.some.injEq] at ho)
          subst ho
          go_simp
          (go_at_call 30; (with_reducible refine (concat_row4 HW.out H1.out H2.out H3.out H4.out HSG.out).mono ?_); rintro e W5 ⟨A5, c5, rfl, hown, hb⟩; have hk := Keeps.of_below hb; have HS := kept (And.intro (hk.cell_ HS.out.1) (hk.cell_ HS.out.2)); have HO := kept (own_mono hown (Nat.le_succ_of_le HB.out.size)); have HE := kept (bel_to hb (bel_to (below_alloc HW.out) HB.out)); clear hown hb hk)
          (try go_wp2_with fail)
          refine hK.out _ _ ?_ (fun hHeld => ?_)
          · ((try dsimp only); (with_reducible exact HS.out))
          clear hK K
          (try simp only [Act.put, List.setIfInBounds_toArray, List.set_cons_zero, List.set_cons_succ])
          refine hand_take 12 (some 4) ?_ (by kernel_rfl) (by kernel_rfl) (by kernel_rfl) (by kernel_rfl) (by kernel_rfl) (fun _ _ _ h => h) ?_ (by assumption) ?_
          rotate_left
          · (intro o ho w hSw; (simp only [List.getElem?_toArray, List.getElem?_cons_succ, List.getElem?_cons_zero, Option.some.injEq] at ho); subst ho; (try dsimp only at hSw); go_simp; (first | done | with_reducible rfl))
          (try simp only [Act.put, List.setIfInBounds_toArray, List.set_cons_zero, List.set_cons_succ])
          refine wpAnyH_done (by kernel_rfl) ?_ _
          go_wp2
          go_ret
          exact ⟨_, _, rfl, HO.out, HE.out⟩
      · (simp only [List.getElem?_toArray, List.getElem?_cons_succ, List.getElem?_cons_zero, Option.some.injEq] at ho)
        subst ho
        (have kc := fun W => conv_str sg W; go_simp; refine name_world (fun W hW => ?_); have hb := str_below hW; have hk := Keeps.of_below hb; have HB := kept (bel_to hb HB.out); have HS := kept (And.intro (hk.cell_ HS.out.1) (hk.cell_ HS.out.2)); (try replace H1 := kept (H1.out.keeps hk)); (try replace H2 := kept (H2.out.keeps hk)); (try replace H3 := kept (H3.out.keeps hk)); (try replace H4 := kept (H4.out.keeps hk)); (try replace HL := kept (HL.out.below hb)); have H4 := kept (str_has hW (Nat.le_trans HSG.out (by decide))); clear kc hW hb hk)
        refine hK.out _ _ ?_ (fun hHeld => ?_)
        · ((try dsimp only); (with_reducible exact HS.out))
        clear hK K
        (try simp only [Act.put, List.setIfInBounds_toArray, List.set_cons_zero, List.set_cons_succ])
        refine hand_ready2 4 7 (by kernel_rfl) (by kernel_rfl) (by kernel_rfl) (fun o ho K hK => ?_) (fun o ho K hK => ?_)
        · (simp only [List.getElem?_toArray, List.getElem?_cons_succ, List.getElem?_cons_zero, Option.some.injEq] at ho)
          subst ho
          (have kc := conv_mark HL.out 1 rfl; go_simp; refine name_world (fun W hW => ?_); have hk := mark_keeps hW; have HB := kept (HB.out.trans (mark_below hW HG.out)); have HS := kept (And.intro (hk.cell_ HS.out.1) (hk.cell_ HS.out.2)); (try replace H1 := kept (H1.out.keeps hk)); (try replace H2 := kept (H2.out.keeps hk)); (try replace H3 := kept (H3.out.keeps hk)); (try replace H4 := kept (H4.out.keeps hk)); have H2 := kept ((Lit.has (xs := [95]) HL.out rfl).keeps hk); clear kc hW hk HL HG)
          refine hK.out _ _ ?_ (fun hHeld => ?_)
          · ((try dsimp only); (with_reducible exact HS.out))
          clear hK K
          (try simp only [Act.put, List.setIfInBounds_toArray, List.set_cons_zero, List.set_cons_succ])
          refine hand_ready 7 (by kernel_rfl) (by kernel_rfl) (fun o ho K hK => ?_)
          (simp only [List.getElem?_toArray, List.getElem?_cons_succ, List.getElem?_cons_zero, Option.some.injEq] at ho)
          subst ho
          go_simp
          (go_at_call 31; (with_reducible refine (HN3 _).out.mono ?_); rintro e W ⟨A3, c3, rfl, hown, hb⟩; have hk := Keeps.of_below hb; have HB := kept (bel_to hb HB.out); have HS := kept (And.intro (hk.cell_ HS.out.1) (hk.cell_ HS.out.2)); (try replace H1 := kept (H1.out.keeps hk)); (try replace H2 := kept (H2.out.keeps hk)); (try replace H3 := kept (H3.out.keeps hk)); (try replace H4 := kept (H4.out.keeps hk)); (try replace HL := kept (HL.out.below hb)); have H3 := kept (Has.of_own hown); clear hown hb hk)
          (try go_wp2_with fail)
          refine hK.out _ _ ?_ (fun hHeld => ?_)
          · ((try dsimp only); (with_reducible exact HS.out))
          clear hK K
          (try simp only [Act.put, List.setIfInBounds_toArray, List.set_cons_zero, List.set_cons_succ])
          refine hand_ready 10 (by kernel_rfl) (by kernel_rfl) (fun o ho K hK => ?_)
          (simp only [List.getElem?_toArray, List.getElem?_cons_succ, List.getElem?_cons_zero, Option.some.injEq] at ho)
          subst ho
          go_simp
          (refine name_world (fun W hW => ?_); have HW := kept hW; have hk := keeps_alloc hW; have HS := kept (And.intro (hk.cell_ HS.out.1) (hk.cell_ HS.out.2)); clear hW hk)
          refine hK.out _ _ ?_ (fun hHeld => ?_)
          · ((try dsimp only); (with_reducible exact HS.out))
          clear hK K
          (try simp only [Act.put, List.setIfInBounds_toArray, List.set_cons_zero, List.set_cons_succ])
          refine hand_ready 11 (by kernel_rfl) (by kernel_rfl) (fun o ho K hK => ?_)
          (simp only [List.getElem?_toArray, List.getElem?_cons_succ, List.getElem?_cons_zero, Option.some.injEq] at ho)
          subst ho
          go_simp
          (go_at_call 30; (with_reducible refine (concat_row4 HW.out H1.out H2.out H3.out H4.out HSG.out).mono ?_); rintro e W5 ⟨A5, c5, rfl, hown, hb⟩; have hk := Keeps.of_below hb; have HS := kept (And.intro (hk.cell_ HS.out.1) (hk.cell_ HS.out.2)); have HO := kept (own_mono hown (Nat.le_succ_of_le HB.out.size)); have HE := kept (bel_to hb (bel_to (below_alloc HW.out) HB.out)); clear hown hb hk)
          (try go_wp2_with fail)
          refine hK.out _ _ ?_ (fun hHeld => ?_)
          · ((try dsimp only); (with_reducible exact HS.out))
          clear hK K
          (try simp only [Act.put, List.setIfInBounds_toArray, List.set_cons_zero, List.set_cons_succ])
          refine hand_take 12 (some 4) ?_ (by kernel_rfl) (by kernel_rfl) (by kernel_rfl) (by kernel_rfl) (by kernel_rfl) (fun _ _ _ h => h) ?_ (by assumption) ?_
          rotate_left
          · (intro o ho w hSw; (simp only [List.getElem?_toArray, List.getElem?_cons_succ, List.getElem?_cons_zero, Option.some.injEq] at ho); subst ho; (try dsimp only at hSw); go_simp; (first | done | with_reducible rfl))
          (try simp only [Act.put, List.setIfInBounds_toArray, List.set_cons_zero, List.set_cons_succ])
          refine wpAnyH_done (by kernel_rfl) ?_ _
          go_wp2
          go_ret
          exact ⟨_, _, rfl, HO.out, HE.out⟩
        · (simp only [List.getElem?_toArray, List.getElem?_cons_succ, List.getElem?_cons_zero, Option.some.injEq] at ho)
          subst ho
          go_simp
          (go_at_call 31; (with_reducible refine (HN3 _).out.mono ?_); rintro e W ⟨A3, c3, rfl, hown, hb⟩; have hk := Keeps.of_below hb; have HB := kept (bel_to hb HB.out); have HS := kept (And.intro (hk.cell_ HS.out.1) (hk.cell_ HS.out.2)); (try replace H1 := kept (H1.out.keeps hk)); (try replace H2 := kept (H2.out.keeps hk)); (try replace H3 := kept (H3.out.keeps hk)); (try replace H4 := kept (H4.out.keeps hk)); (try replace HL := kept (HL.out.below hb)); have H3 := kept (Has.of_own hown); clear hown hb hk)
          (try go_wp2_with fail)
          refine hK.out _ _ ?_ (fun hHeld => ?_)
          · ((try dsimp only); (with_reducible exact HS.out))
          clear hK K
          (try simp only [Act.put, List.setIfInBounds_toArray, List.set_cons_zero, List.set_cons_succ])
          refine hand_ready 4 (by kernel_rfl) (by kernel_rfl) (fun o ho K hK => ?_)
          (simp only [List.getElem?_toArray, List.getElem?_cons_succ, List.getElem?_cons_zero, Option.some.injEq] at ho)
          subst ho
          (have kc := conv_mark HL.out 1 rfl; go_simp; refine name_world (fun W hW => ?_); have hk := mark_keeps hW; have HB := kept (HB.out.trans (mark_below hW HG.out)); have HS := kept (And.intro (hk.cell_ HS.out.1) (hk.cell_ HS.out.2)); (try replace H1 := kept (H1.out.keeps hk)); (try replace H2 := kept (H2.out.keeps hk)); (try replace H3 := kept (H3.out.keeps hk)); (try replace H4 := kept (H4.out.keeps hk)); have H2 := kept ((Lit.has (xs := [95]) HL.out rfl).keeps hk); clear kc hW hk HL HG)
          refine hK.out _ _ ?_ (fun hHeld => ?_)
          · ((try dsimp only); (with_reducible exact HS.out))
          clear hK K
          (try simp only [Act.put, List.setIfInBounds_toArray, List.set_cons_zero, List.set_cons_succ])
          refine hand_ready 10 (by kernel_rfl) (by kernel_rfl) (fun o ho K hK => ?_)
          (simp only [List.getElem?_toArray, List.getElem?_cons_succ, List.getElem?_cons_zero, Option.some.injEq] at ho)
          subst ho
          go_simp
          (refine name_world (fun W hW => ?_); have HW := kept hW; have hk := keeps_alloc hW; have HS := kept (And.intro (hk.cell_ HS.out.1) (hk.cell_ HS.out.2)); clear hW hk)
          refine hK.out _ _ ?_ (fun hHeld => ?_)
          · ((try dsimp only); (with_reducible exact HS.out))
          clear hK K
          (try simp only [Act.put, List.setIfInBounds_toArray, List.set_cons_zero, List.set_cons_succ])
          refine hand_ready 11 (by kernel_rfl) (by kernel_rfl) (fun o ho K hK => ?_)
          (simp only [List.getElem?_toArray, List.getElem?_cons_succ, List.getElem?_cons_zero, Option.some.injEq] at ho)
          subst ho
          go_simp
          (go_at_call 30; (with_reducible refine (concat_row4 HW.out H1.out H2.out H3.out H4.out HSG.out).mono ?_); rintro e W5 ⟨A5, c5, rfl, hown, hb⟩; have hk := Keeps.of_below hb; have HS := kept (And.intro (hk.cell_ HS.out.1) (hk.cell_ HS.out.2)); have HO := kept (own_mono hown (Nat.le_succ_of_le HB.out.size)); have HE := kept (bel_to hb (bel_to (below_alloc HW.out) HB.out)); clear hown hb hk)
          (try go_wp2_with fail)
          refine hK.out _ _ ?_ (fun hHeld => ?_)
          · ((try dsimp only); (with_reducible exact HS.out))
          clear hK K
          (try simp only [Act.put, List.setIfInBounds_toArray, List.set_cons_zero, List.set_cons_succ])
          refine hand_take 12 (some 4) ?_ (by kernel_rfl) (by kernel_rfl) (by kernel_rfl) (by kernel_rfl) (by kernel_rfl) (fun _ _ _ h => h) ?_ (by assumption) ?_
          rotate_left
          · (intro o ho w hSw; (simp only [List.getElem?_toArray, List.getElem?_cons_succ, List.getElem?_cons_zero, Option.some.injEq] at ho); subst ho; (try dsimp only at hSw); go_simp; (first | done | with_reducible rfl))
          (try simp only [Act.put, List.setIfInBounds_toArray, List.set_cons_zero, List.set_cons_succ])
          refine wpAnyH_done (by kernel_rfl) ?_ _
          go_wp2
          go_ret
          exact ⟨_, _, rfl, HO.out, HE.out⟩
    · (simp only [List.getElem?_toArray, List.getElem?_cons_succ, List.getElem?_cons_zero, Option.some.injEq] at ho)
      subst ho
      (have kc := conv_mark HL.out 1 rfl; go_simp; refine name_world (fun W hW => ?_); have hk := mark_keeps hW; have HB := kept (HB.out.trans (mark_below hW HG.out)); have HS := kept (And.intro (hk.cell_ HS.out.1) (hk.cell_ HS.out.2)); (try replace H1 := kept (H1.out.keeps hk)); (try replace H2 := kept (H2.out.keeps hk)); (try replace H3 := kept (H3.out.keeps hk)); (try replace H4 := kept (H4.out.keeps hk)); have H2 := kept ((Lit.has (xs := [95]) HL.out rfl).keeps hk); clear kc hW hk HL HG)
      refine hK.out _ _ ?_ (fun hHeld => ?_)
      · ((try dsimp only); (with_reducible exact HS.out))
      clear hK K
      (try simp only [Act.put, List.setIfInBounds_toArray, List.set_cons_zero, List.set_cons_succ])
      refine hand_ready2 2 9 (by kernel_rfl) (by kernel_rfl) (by kernel_rfl) (fun o ho K hK => ?_) (fun o ho K hK => ?_)
      · (simp only [List.getElem?_toArray, List.getElem?_cons_succ, List.getElem?_cons_zero, Option.some.injEq] at ho)
        subst ho
        go_simp
        (go_at_call 31; (with_reducible refine (HN1 _).out.mono ?_); rintro e W ⟨A1, c1, rfl, hown, hb⟩; have hk := Keeps.of_below hb; have HB := kept (bel_to hb HB.out); have HS := kept (And.intro (hk.cell_ HS.out.1) (hk.cell_ HS.out.2)); (try replace H1 := kept (H1.out.keeps hk)); (try replace H2 := kept (H2.out.keeps hk)); (try replace H3 := kept (H3.out.keeps hk)); (try replace H4 := kept (H4.out.keeps hk)); (try replace HL := kept (HL.out.below hb)); have H1 := kept (Has.of_own hown); clear hown hb hk)
        (try go_wp2_with fail)
        refine hK.out _ _ ?_ (fun hHeld => ?_)
        · ((try dsimp only); (with_reducible exact HS.out))
        clear hK K
        (try simp only [Act.put, List.setIfInBounds_toArray, List.set_cons_zero, List.set_cons_succ])
        refine hand_ready2 7 9 (by kernel_rfl) (by kernel_rfl) (by kernel_rfl) (fun o ho K hK => ?_) (fun o ho K hK => ?_)
        · (simp only [List.getElem?_toArray, List.getElem?_cons_succ, List.getElem?_cons_zero, Option.some.injEq] at ho)
          subst ho
          go_simp
          (go_at_call 31; (with_reducible refine (HN3 _).out.mono ?_); rintro e W ⟨A3, c3, rfl, hown, hb⟩; have hk := Keeps.of_below hb; have HB := kept (bel_to hb HB.out); have HS := kept (And.intro (hk.cell_ HS.out.1) (hk.cell_ HS.out.2)); (try replace H1 := kept (H1.out.keeps hk)); (try replace H2 := kept (H2.out.keeps hk)); (try replace H3 := kept (H3.out.keeps hk)); (try replace H4 := kept (H4.out.keeps hk)); (try replace HL := kept (HL.out.below hb)); have H3 := kept (Has.of_own hown); clear hown hb hk)
          (try go_wp2_with fail)
          refine hK.out _ _ ?_ (fun hHeld => ?_)
          · ((try dsimp only); (with_reducible exact HS.out))
          clear hK K
          (try simp only [Act.put, List.setIfInBounds_toArray, List.set_cons_zero, List.set_cons_succ])
          refine hand_ready 9 (by kernel_rfl) (by kernel_rfl) (fun o ho K hK => ?_)
          (simp only [List.getElem?_toArray, List.getElem?_cons_succ, List.getElem?_cons_zero, Option.some.injEq] at ho)
          subst ho
          (have kc := fun W => conv_str sg W; go_simp; refine name_world (fun W hW => ?_); have hb := str_below hW; have hk := Keeps.of_below hb; have HB := kept (bel_to hb HB.out); have HS := kept (And.intro (hk.cell_ HS.out.1) (hk.cell_ HS.out.2)); (try replace H1 := kept (H1.out.keeps hk)); (try replace H2 := kept (H2.out.keeps hk)); (try replace H3 := kept (H3.out.keeps hk)); (try replace H4 := kept (H4.out.keeps hk)); (try replace HL := kept (HL.out.below hb)); have H4 := kept (str_has hW (Nat.le_trans HSG.out (by decide))); clear kc hW hb hk)
          refine hK.out _ _ ?_ (fun hHeld => ?_)
          · ((try dsimp only); (with_reducible exact HS.out))
          clear hK K
          (try simp only [Act.put, List.setIfInBounds_toArray, List.set_cons_zero, List.set_cons_succ])
          refine hand_ready 10 (by kernel_rfl) (by kernel_rfl) (fun o ho K hK => ?_)
          (simp only [List.getElem?_toArray, List.getElem?_cons_succ, List.getElem?_cons_zero, Option.some.injEq] at ho)
          subst ho
          go_simp
          (refine name_world (fun W hW => ?_); have HW := kept hW; have hk := keeps_alloc hW; have HS := kept (And.intro (hk.cell_ HS.out.1) (hk.cell_ HS.out.2)); clear hW hk)
          refine hK.out _ _ ?_ (fun hHeld => ?_)
          · ((try dsimp only); (with_reducible exact HS.out))
          clear hK K
          (try simp only [Act.put, List.setIfInBounds_toArray, List.set_cons_zero, List.set_cons_succ])
          refine hand_ready 11 (by kernel_rfl) (by kernel_rfl) (fun o ho K hK => ?_)
          (simp only [List.getElem?_toArray, List.getElem?_cons_succ, List.getElem?_cons_zero, Option.some.injEq] at ho)
          subst ho
          go_simp
          (go_at_call 30; (with_reducible refine (concat_row4 HW.out H1.out H2.out H3.out H4.out HSG.out).mono ?_); rintro e W5 ⟨A5, c5, rfl, hown, hb⟩; have hk := Keeps.of_below hb; have HS := kept (And.intro (hk.cell_ HS.out.1) (hk.cell_ HS.out.2)); have HO := kept (own_mono hown (Nat.le_succ_of_le HB.out.size)); have HE := kept (bel_to hb (bel_to (below_alloc HW.out) HB.out)); clear hown hb hk)
          (try go_wp2_with fail)
          refine hK.out _ _ ?_ (fun hHeld => ?_)
          · ((try dsimp only); (with_reducible exact HS.out))
          clear hK K
          (try simp only [Act.put, List.setIfInBounds_toArray, List.set_cons_zero, List.set_cons_succ])
          refine hand_take 12 (some 4) ?_ (by kernel_rfl) (by kernel_rfl) (by kernel_rfl) (by kernel_rfl) (by kernel_rfl) (fun _ _ _ h => h) ?_ (by assumption) ?_
          rotate_left
          · (intro o ho w hSw; (simp only [List.getElem?_toArray, List.getElem?_cons_succ, List.getElem?_cons_zero, Option.some.injEq] at ho); subst ho; (try dsimp only at hSw); go_simp; (first | done | with_reducible rfl))
          (try simp only [Act.put, List.setIfInBounds_toArray, List.set_cons_zero, List.set_cons_succ])
          refine wpAnyH_done (by kernel_rfl) ?_ _
          go_wp2
          go_ret
          exact ⟨_, _, rfl, HO.out, HE.out⟩
        · (simp only [List.getElem?_toArray, List.getElem?_cons_succ, List.getElem?_cons_zero, Option.some.injEq] at ho)
          subst ho
          (have kc := fun W => conv_str sg W; go_simp; refine name_world (fun W hW => ?_); have hb := str_below hW; have hk := Keeps.of_below hb; have HB := kept (bel_to hb HB.out); have HS := kept (And.intro (hk.cell_ HS.out.1) (hk.cell_ HS.out.2)); (try replace H1 := kept (H1.out.keeps hk)); (try replace H2 := kept (H2.out.keeps hk)); (try replace H3 := kept (H3.out.keeps hk)); (try replace H4 := kept (H4.out.keeps hk)); (try replace HL := kept (HL.out.below hb)); have H4 := kept (str_has hW (Nat.le_trans HSG.out (by decide))); clear kc hW hb hk)
          refine hK.out _ _ ?_ (fun hHeld => ?_)
          · ((try dsimp only); (with_reducible exact HS.out))
          clear hK K
          (try simp only [Act.put, List.setIfInBounds_toArray, List.set_cons_zero, List.set_cons_succ])
          refine hand_ready 7 (by kernel_rfl) (by kernel_rfl) (fun o ho K hK => ?_)
          (simp only [List.getElem?_toArray, List.getElem?_cons_succ, List.getElem?_cons_zero, Option.some.injEq] at ho)
          subst ho
          go_simp
          (go_at_call 31; (with_reducible refine (HN3 _).out.mono ?_); rintro e W ⟨A3, c3, rfl, hown, hb⟩; have hk := Keeps.of_below hb; have HB := kept (bel_to hb HB.out); have HS := kept (And.intro (hk.cell_ HS.out.1) (hk.cell_ HS.out.2)); (try replace H1 := kept (H1.out.keeps hk)); (try replace H2 := kept (H2.out.keeps hk)); (try replace H3 := kept (H3.out.keeps hk)); (try replace H4 := kept (H4.out.keeps hk)); (try replace HL := kept (HL.out.below hb)); have H3 := kept (Has.of_own hown); clear hown hb hk)
          (try go_wp2_with fail)
          refine hK.out _ _ ?_ (fun hHeld => ?_)
          · ((try dsimp only); (with_reducible exact HS.out))
          clear hK K
          (try simp only [Act.put, List.setIfInBounds_toArray, List.set_cons_zero, List.set_cons_succ])
          refine hand_ready 10 (by kernel_rfl) (by kernel_rfl) (fun o ho K hK => ?_)
          (simp only [List.getElem?_toArray, List.getElem?_cons_succ, List.getElem?_cons_zero, Option.some.injEq] at ho)
          subst ho
          go_simp
          (refine name_world (fun W hW => ?_); have HW := kept hW; have hk := keeps_alloc hW; have HS := kept (And.intro (hk.cell_ HS.out.1) (hk.cell_ HS.out.2)); clear hW hk)
          refine hK.out _ _ ?_ (fun hHeld => ?_)
          · ((try dsimp only); (with_reducible exact HS.out))
          clear hK K
          (try simp only [Act.put, List.setIfInBounds_toArray, List.set_cons_zero, List.set_cons_succ])
          refine hand_ready 11 (by kernel_rfl) (by kernel_rfl) (fun o ho K hK => ?_)
          (simp only [List.getElem?_toArray, List.getElem?_cons_succ, List.getElem?_cons_zero, Option.some.injEq] at ho)
          subst ho
          go_simp
          (go_at_call 30; (with_reducible refine (concat_row4 HW.out H1.out H2.out H3.out H4.out HSG.out).mono ?_); rintro e W5 ⟨A5, c5, rfl, hown, hb⟩; have hk := Keeps.of_below hb; have HS := kept (And.intro (hk.cell_ HS.out.1) (hk.cell_ HS.out.2)); have HO := kept (own_mono hown (Nat.le_succ_of_le HB.out.size)); have HE := kept (bel_to hb (bel_to (below_alloc HW.out) HB.out)); clear hown hb hk)
          (try go_wp2_with fail)
          refine hK.out _ _ ?_ (fun hHeld => ?_)
          · ((try dsimp only); (with_reducible exact HS.out))
          clear hK K
          (try simp only [Act.put, List.setIfInBounds_toArray, List.set_cons_zero, List.set_cons_succ])
          refine hand_take 12 (some 4) ?_ (by kernel_rfl) (by kernel_rfl) (by kernel_rfl) (by kernel_rfl) (by kernel_rfl) (fun _ _ _ h => h) ?_ (by assumption) ?_
          rotate_left
          · (intro o ho w hSw; (simp only [List.getElem?_toArray, List.getElem?_cons_succ, List.getElem?_cons_zero, Option.some.injEq] at ho); subst ho; (try dsimp only at hSw); go_simp; (first | done | with_reducible rfl))
          (try simp only [Act.put, List.setIfInBounds_toArray, List.set_cons_zero, List.set_cons_succ])
          refine wpAnyH_done (by kernel_rfl) ?_ _
          go_wp2
          go_ret
          exact ⟨_, _, rfl, HO.out, HE.out⟩
      · (simp only [List.getElem?_toArray, List.getElem?_cons_succ, List.getElem?_cons_zero, Option.some.injEq] at ho)
        subst ho
        (have kc := fun W => conv_str sg W; go_simp; refine name_world (fun W hW => ?_); have hb := str_below hW; have hk := Keeps.of_below hb; have HB := kept (bel_to hb HB.out); have HS := kept (And.intro (hk.cell_ HS.out.1) (hk.cell_ HS.out.2)); (try replace H1 := kept (H1.out.keeps hk)); (try replace H2 := kept (H2.out.keeps hk)); (try replace H3 := kept (H3.out.keeps hk)); (try replace H4 := kept (H4.out.keeps hk)); (try replace HL := kept (HL.out.below hb)); have H4 := kept (str_has hW (Nat.le_trans HSG.out (by decide))); clear kc hW hb hk)
        refine hK.out _ _ ?_ (fun hHeld => ?_)
        · ((try dsimp only); (with_reducible exact HS.out))
        clear hK K
        (try simp only [Act.put, List.setIfInBounds_toArray, List.set_cons_zero, List.set_cons_succ])
        refine hand_ready 2 (by kernel_rfl) (by kernel_rfl) (fun o ho K hK => ?_)
        (simp only [List.getElem?_toArray, List.getElem?_cons_succ, List.getElem?_cons_zero, Option.some.injEq] at ho)
        subst ho
        go_simp
        (go_at_call 31; (with_reducible refine (HN1 _).out.mono ?_); rintro e W ⟨A1, c1, rfl, hown, hb⟩; have hk := Keeps.of_below hb; have HB := kept (bel_to hb HB.out); have HS := kept (And.intro (hk.cell_ HS.out.1) (hk.cell_ HS.out.2)); (try replace H1 := kept (H1.out.keeps hk)); (try replace H2 := kept (H2.out.keeps hk)); (try replace H3 := kept (H3.out.keeps hk)); (try replace H4 := kept (H4.out.keeps hk)); (try replace HL := kept (HL.out.below hb)); have H1 := kept (Has.of_own hown); clear hown hb hk)
        (try go_wp2_with fail)
        refine hK.out _ _ ?_ (fun hHeld => ?_)
        · ((try dsimp only); (with_reducible exact HS.out))
        clear hK K
        (try simp only [Act.put, List.setIfInBounds_toArray, List.set_cons_zero, List.set_cons_succ])
        refine hand_ready 7 (by kernel_rfl) (by kernel_rfl) (fun o ho K hK => ?_)
        (simp only [List.getElem?_toArray, List.getElem?_cons_succ, List.getElem?_cons_zero, Option.some.injEq] at ho)
        subst ho
        go_simp
        (go_at_call 31; (with_reducible refine (HN3 _).out.mono ?_); rintro e W ⟨A3, c3, rfl, hown, hb⟩; have hk := Keeps.of_below hb; have HB := kept (bel_to hb HB.out); have HS := kept (And.intro (hk.cell_ HS.out.1) (hk.cell_ HS.out.2)); (try replace H1 := kept (H1.out.keeps hk)); (try replace H2 := kept (H2.out.keeps hk)); (try replace H3 := kept (H3.out.keeps hk)); (try replace H4 := kept (H4.out.keeps hk)); (try replace HL := kept (HL.out.below hb)); have H3 := kept (Has.of_own hown); clear hown hb hk)
        (try go_wp2_with fail)
        refine hK.out _ _ ?_ (fun hHeld => ?_)
        · ((try dsimp only); (with_reducible exact HS.out))
        clear hK K
        (try simp only [Act.put, List.setIfInBounds_toArray, List.set_cons_zero, List.set_cons_succ])
        refine hand_ready 10 (by kernel_rfl) (by kernel_rfl) (fun o ho K hK => ?_)
        (simp only [List.getElem?_toArray, List.getElem?_cons_succ, List.getElem?_cons_zero, Option.some.injEq] at ho)
        subst ho
        go_simp
        (refine name_world (fun W hW => ?_); have HW := kept hW; have hk := keeps_alloc hW; have HS := kept (And.intro (hk.cell_ HS.out.1) (hk.cell_ HS.out.2)); clear hW hk)
        refine hK.out _ _ ?_ (fun hHeld => ?_)
        · ((try dsimp only); (with_reducible exact HS.out))
        clear hK K
        (try simp only [Act.put, List.setIfInBounds_toArray, List.set_cons_zero, List.set_cons_succ])
        refine hand_ready 11 (by kernel_rfl) (by kernel_rfl) (fun o ho K hK => ?_)
        (simp only [List.getElem?_toArray, List.getElem?_cons_succ, List.getElem?_cons_zero, Option.some.injEq] at ho)
        subst ho
        go_simp
        (go_at_call 30; (with_reducible refine (concat_row4 HW.out H1.out H2.out H3.out H4.out HSG.out).mono ?_); rintro e W5 ⟨A5, c5, rfl, hown, hb⟩; have hk := Keeps.of_below hb; have HS := kept (And.intro (hk.cell_ HS.out.1) (hk.cell_ HS.out.2)); have HO := kept (own_mono hown (Nat.le_succ_of_le HB.out.size)); have HE := kept (bel_to hb (bel_to (below_alloc HW.out) HB.out)); clear hown hb hk)
        (try go_wp2_with fail)
        refine hK.out _ _ ?_ (fun hHeld => ?_)
        · ((try dsimp only); (with_reducible exact HS.out))
        clear hK K
        (try simp only [Act.put, List.setIfInBounds_toArray, List.set_cons_zero, List.set_cons_succ])
        refine hand_take 12 (some 4) ?_ (by kernel_rfl) (by kernel_rfl) (by kernel_rfl) (by kernel_rfl) (by kernel_rfl) (fun _ _ _ h => h) ?_ (by assumption) ?_
        rotate_left
        · (intro o ho w hSw; (simp only [List.getElem?_toArray, List.getElem?_cons_succ, List.getElem?_cons_zero, Option.some.injEq] at ho); subst ho; (try dsimp only at hSw); go_simp; (first | done | with_reducible rfl))
        (try simp only [Act.put, List.setIfInBounds_toArray, List.set_cons_zero, List.set_cons_succ])
        refine wpAnyH_done (by kernel_rfl) ?_ _
        go_wp2
        go_ret
        exact ⟨_, _, rfl, HO.out, HE.out⟩
    · (simp only [List.getElem?_toArray, List.getElem?_cons_succ, List.getElem?_cons_zero, Option.some.injEq] at ho)
      subst ho
      (have kc := fun W => conv_str sg W; go_simp; refine name_world (fun W hW => ?_); have hb := str_below hW; have hk := Keeps.of_below hb; have HB := kept (bel_to hb HB.out); have HS := kept (And.intro (hk.cell_ HS.out.1) (hk.cell_ HS.out.2)); (try replace H1 := kept (H1.out.keeps hk)); (try replace H2 := kept (H2.out.keeps hk)); (try replace H3 := kept (H3.out.keeps hk)); (try replace H4 := kept (H4.out.keeps hk)); (try replace HL := kept (HL.out.below hb)); have H4 := kept (str_has hW (Nat.le_trans HSG.out (by decide))); clear kc hW hb hk)
      refine hK.out _ _ ?_ (fun hHeld => ?_)
      · ((try dsimp only); (with_reducible exact HS.out))
      clear hK K
      (try simp only [Act.put, List.setIfInBounds_toArray, List.set_cons_zero, List.set_cons_succ])
      refine hand_ready2 2 4 (by kernel_rfl) (by kernel_rfl) (by kernel_rfl) (fun o ho K hK => ?_) (fun o ho K hK => ?_)
      · (simp only [List.getElem?_toArray, List.getElem?_cons_succ, List.getElem?_cons_zero, Option.some.injEq] at ho)
        subst ho
        go_simp
        (go_at_call 31; (with_reducible refine (HN1 _).out.mono ?_); rintro e W ⟨A1, c1, rfl, hown, hb⟩; have hk := Keeps.of_below hb; have HB := kept (bel_to hb HB.out); have HS := kept (And.intro (hk.cell_ HS.out.1) (hk.cell_ HS.out.2)); (try replace H1 := kept (H1.out.keeps hk)); (try replace H2 := kept (H2.out.keeps hk)); (try replace H3 := kept (H3.out.keeps hk)); (try replace H4 := kept (H4.out.keeps hk)); (try replace HL := kept (HL.out.below hb)); have H1 := kept (Has.of_own hown); clear hown hb hk)
        (try go_wp2_with fail)
        refine hK.out _ _ ?_ (fun hHeld => ?_)
        · ((try dsimp only); (with_reducible exact HS.out))
        clear hK K
        (try simp only [Act.put, List.setIfInBounds_toArray, List.set_cons_zero, List.set_cons_succ])
        refine hand_ready2 4 7 (by kernel_rfl) (by kernel_rfl) (by kernel_rfl) (fun o ho K hK => ?_) (fun o ho K hK => ?_)
        · (simp only [List.getElem?_toArray, List.getElem?_cons_succ, List.getElem?_cons_zero, Option.some.injEq] at ho)
          subst ho
          (have kc := conv_mark HL.out 1 rfl; go_simp; refine name_world (fun W hW => ?_); have hk := mark_keeps hW; have HB := kept (HB.out.trans (mark_below hW HG.out)); have HS := kept (And.intro (hk.cell_ HS.out.1) (hk.cell_ HS.out.2)); (try replace H1 := kept (H1.out.keeps hk)); (try replace H2 := kept (H2.out.keeps hk)); (try replace H3 := kept (H3.out.keeps hk)); (try replace H4 := kept (H4.out.keeps hk)); have H2 := kept ((Lit.has (xs := [95]) HL.out rfl).keeps hk); clear kc hW hk HL HG)
          refine hK.out _ _ ?_ (fun hHeld => ?_)
          · ((try dsimp only); (with_reducible exact HS.out))
          clear hK K
          (try simp only [Act.put, List.setIfInBounds_toArray, List.set_cons_zero, List.set_cons_succ])
          refine hand_ready 7 (by kernel_rfl) (by kernel_rfl) (fun o ho K hK => ?_)
          (simp only [List.getElem?_toArray, List.getElem?_cons_succ, List.getElem?_cons_zero, Option.some.injEq] at ho)
          subst ho
          go_simp
          (go_at_call 31; (with_reducible refine (HN3 _).out.mono ?_); rintro e W ⟨A3, c3, rfl, hown, hb⟩; have hk := Keeps.of_below hb; have HB := kept (bel_to hb HB.out); have HS := kept (And.intro (hk.cell_ HS.out.1) (hk.cell_ HS.out.2)); (try replace H1 := kept (H1.out.keeps hk)); (try replace H2 := kept (H2.out.keeps hk)); (try replace H3 := kept (H3.out.keeps hk)); (try replace H4 := kept (H4.out.keeps hk)); (try replace HL := kept (HL.out.below hb)); have H3 := kept (Has.of_own hown); clear hown hb hk)
          (try go_wp2_with fail)
          refine hK.out _ _ ?_ (fun hHeld => ?_)
          · ((try dsimp only); (with_reducible exact HS.out))
          clear hK K
          (try simp only [Act.put, List.setIfInBounds_toArray, List.set_cons_zero, List.set_cons_succ])
          refine hand_ready 10 (by kernel_rfl) (by kernel_rfl) (fun o ho K hK => ?_)
          (simp only [List.getElem?_toArray, List.getElem?_cons_succ, List.getElem?_cons_zero, Option.some.injEq] at ho)
          subst ho
          go_simp
          (refine name_world (fun W hW => ?_); have HW := kept hW; have hk := keeps_alloc hW; have HS := kept (And.intro (hk.cell_ HS.out.1) (hk.cell_ HS.out.2)); clear hW hk)
          refine hK.out _ _ ?_ (fun hHeld => ?_)
          · ((try dsimp only); (with_reducible exact HS.out))
          clear hK K
          (try simp only [Act.put, List.setIfInBounds_toArray, List.set_cons_zero, List.set_cons_succ])
          refine hand_ready 11 (by kernel_rfl) (by kernel_rfl) (fun o ho K hK => ?_)
          (simp only [List.getElem?_toArray, List.getElem?_cons_succ, List.getElem?_cons_zero, Option.some.injEq] at ho)
          subst ho
          go_simp
          (go_at_call 30; (with_reducible refine (concat_row4 HW.out H1.out H2.out H3.out H4.out HSG.out).mono ?_); rintro e W5 ⟨A5, c5, rfl, hown, hb⟩; have hk := Keeps.of_below hb; have HS := kept (And.intro (hk.cell_ HS.out.1) (hk.cell_ HS.out.2)); have HO := kept (own_mono hown (Nat.le_succ_of_le HB.out.size)); have HE := kept (bel_to hb (bel_to (below_alloc HW.out) HB.out)); clear hown hb hk)
          (try go_wp2_with fail)
          refine hK.out _ _ ?_ (fun hHeld => ?_)
          · ((try dsimp only); (with_reducible exact HS.out))
          clear hK K
          (try simp only [Act.put, List.setIfInBounds_toArray, List.set_cons_zero, List.set_cons_succ])
          refine hand_take 12 (some 4) ?_ (by kernel_rfl) (by kernel_rfl) (by kernel_rfl) (by kernel_rfl) (by kernel_rfl) (fun _ _ _ h => h) ?_ (by assumption) ?_
          rotate_left
          · (intro o ho w hSw; (simp only [List.getElem?_toArray, List.getElem?_cons_succ, List.getElem?_cons_zero, Option.some.injEq] at ho); subst ho; (try dsimp only at hSw); go_simp; (first | done | with_reducible rfl))
          (try simp only [Act.put, List.setIfInBounds_toArray, List.set_cons_zero, List.set_cons_succ])
          refine wpAnyH_done (by kernel_rfl) ?_ _
          go_wp2
          go_ret
          exact ⟨_, _, rfl, HO.out, HE.out⟩
        · (simp only [List.getElem?_toArray, List.getElem?_cons_succ, List.getElem?_cons_zero, Option.some.injEq] at ho)
          subst ho
          go_simp
          (go_at_call 31; (with_reducible refine (HN3 _).out.mono ?_); rintro e W ⟨A3, c3, rfl, hown, hb⟩; have hk := Keeps.of_below hb; have HB := kept (bel_to hb HB.out); have HS := kept (And.intro (hk.cell_ HS.out.1) (hk.cell_ HS.out.2)); (try replace H1 := kept (H1.out.keeps hk)); (try replace H2 := kept (H2.out.keeps hk)); (try replace H3 := kept (H3.out.keeps hk)); (try replace H4 := kept (H4.out.keeps hk)); (try replace HL := kept (HL.out.below hb)); have H3 := kept (Has.of_own hown); clear hown hb hk)
          (try go_wp2_with fail)
          refine hK.out _ _ ?_ (fun hHeld => ?_)
          · ((try dsimp only); (with_reducible exact HS.out))
          clear hK K
          (try simp only [Act.put, List.setIfInBounds_toArray, List.set_cons_zero, List.set_cons_succ])
          refine hand_ready 4 (by kernel_rfl) (by kernel_rfl) (fun o ho K hK => ?_)
          (simp only [List.getElem?_toArray, List.getElem?_cons_succ, List.getElem?_cons_zero, Option.some.injEq] at ho)
          subst ho
          (have kc := conv_mark HL.out 1 rfl; go_simp; refine name_world (fun W hW => ?_); have hk := mark_keeps hW; have HB := kept (HB.out.trans (mark_below hW HG.out)); have HS := kept (And.intro (hk.cell_ HS.out.1) (hk.cell_ HS.out.2)); (try replace H1 := kept (H1.out.keeps hk)); (try replace H2 := kept (H2.out.keeps hk)); (try replace H3 := kept (H3.out.keeps hk)); (try replace H4 := kept (H4.out.keeps hk)); have H2 := kept ((Lit.has (xs := [95]) HL.out rfl).keeps hk); clear kc hW hk HL HG)
          refine hK.out _ _ ?_ (fun hHeld => ?_)
          · ((try dsimp only); (with_reducible exact HS.out))
          clear hK K
          (try simp only [Act.put, List.setIfInBounds_toArray, List.set_cons_zero, List.set_cons_succ])
          refine hand_ready 10 (by kernel_rfl) (by kernel_rfl) (fun o ho K hK => ?_)
          (simp only [List.getElem?_toArray, List.getElem?_cons_succ, List.getElem?_cons_zero, Option.some.injEq] at ho)
          subst ho
          go_simp
          (refine name_world (fun W hW => ?_); have HW := kept hW; have hk := keeps_alloc hW; have HS := kept (And.intro (hk.cell_ HS.out.1) (hk.cell_ HS.out.2)); clear hW hk)
          refine hK.out _ _ ?_ (fun hHeld => ?_)
          · ((try dsimp only); (with_reducible exact HS.out))
          clear hK K
          (try simp only [Act.put, List.setIfInBounds_toArray, List.set_cons_zero, List.set_cons_succ])
          refine hand_ready 11 (by kernel_rfl) (by kernel_rfl) (fun o ho K hK => ?_)
          (simp only [List.getElem?_toArray, List.getElem?_cons_succ, List.getElem?_cons_zero, Option.some.injEq] at ho)
          subst ho
          go_simp
          (go_at_call 30; (with_reducible refine (concat_row4 HW.out H1.out H2.out H3.out H4.out HSG.out).mono ?_); rintro e W5 ⟨A5, c5, rfl, hown, hb⟩; have hk := Keeps.of_below hb; have HS := kept (And.intro (hk.cell_ HS.out.1) (hk.cell_ HS.out.2)); have HO := kept (own_mono hown (Nat.le_succ_of_le HB.out.size)); have HE := kept (bel_to hb (bel_to (below_alloc HW.out) HB.out)); clear hown hb hk)
          (try go_wp2_with fail)
          refine hK.out _ _ ?_ (fun hHeld => ?_)
          · ((try dsimp only); (with_reducible exact HS.out))
          clear hK K
          (try simp only [Act.put, List.setIfInBounds_toArray, List.set_cons_zero, List.set_cons_succ])
          refine hand_take 12 (some 4) ?_ (by kernel_rfl) (by kernel_rfl) (by kernel_rfl) (by kernel_rfl) (by kernel_rfl) (fun _ _ _ h => h) ?_ (by assumption) ?_
          rotate_left
          · (intro o ho w hSw; (simp only [List.getElem?_toArray, List.getElem?_cons_succ, List.getElem?_cons_zero, Option.some.injEq] at ho); subst ho; (try dsimp only at hSw); go_simp; (first | done | with_reducible rfl))
          (try simp only [Act.put, List.setIfInBounds_toArray, List.set_cons_zero, List.set_cons_succ])
          refine wpAnyH_done (by kernel_rfl) ?_ _
          go_wp2
          go_ret
          exact ⟨_, _, rfl, HO.out, HE.out⟩
      · (simp only [List.getElem?_toArray, List.getElem?_cons_succ, List.getElem?_cons_zero, Option.some.injEq] at ho)
        subst ho
        (have kc := conv_mark HL.out 1 rfl; go_simp; refine name_world (fun W hW => ?_); have hk := mark_keeps hW; have HB := kept (HB.out.trans (mark_below hW HG.out)); have HS := kept (And.intro (hk.cell_ HS.out.1) (hk.cell_ HS.out.2)); (try replace H1 := kept (H1.out.keeps hk)); (try replace H2 := kept (H2.out.keeps hk)); (try replace H3 := kept (H3.out.keeps hk)); (try replace H4 := kept (H4.out.keeps hk)); have H2 := kept ((Lit.has (xs := [95]) HL.out rfl).keeps hk); clear kc hW hk HL HG)
        refine hK.out _ _ ?_ (fun hHeld => ?_)
        · ((try dsimp only); (with_reducible exact HS.out))
        clear hK K
        (try simp only [Act.put, List.setIfInBounds_toArray, List.set_cons_zero, List.set_cons_succ])
        refine hand_ready 2 (by kernel_rfl) (by kernel_rfl) (fun o ho K hK => ?_)
        (simp only [List.getElem?_toArray, List.getElem?_cons_succ, List.getElem?_cons_zero, Option.some.injEq] at ho)
        subst ho
        go_simp
        (go_at_call 31; (with_reducible refine (HN1 _).out.mono ?_); rintro e W ⟨A1, c1, rfl, hown, hb⟩; have hk := Keeps.of_below hb; have HB := kept (bel_to hb HB.out); have HS := kept (And.intro (hk.cell_ HS.out.1) (hk.cell_ HS.out.2)); (try replace H1 := kept (H1.out.keeps hk)); (try replace H2 := kept (H2.out.keeps hk)); (try replace H3 := kept (H3.out.keeps hk)); (try replace H4 := kept (H4.out.keeps hk)); (try replace HL := kept (HL.out.below hb)); have H1 := kept (Has.of_own hown); clear hown hb hk)
        (try go_wp2_with fail)
        refine hK.out _ _ ?_ (fun hHeld => ?_)
        · ((try dsimp only); (with_reducible exact HS.out))
        clear hK K
        (try simp only [Act.put, List.setIfInBounds_toArray, List.set_cons_zero, List.set_cons_succ])
        refine hand_ready 7 (by kernel_rfl) (by kernel_rfl) (fun o ho K hK => ?_)
        (simp only [List.getElem?_toArray, List.getElem?_cons_succ, List.getElem?_cons_zero, Option.some.injEq] at ho)
        subst ho
        go_simp
        (go_at_call 31; (with_reducible refine (HN3 _).out.mono ?_); rintro e W ⟨A3, c3, rfl, hown, hb⟩; have hk := Keeps.of_below hb; have HB := kept (bel_to hb HB.out); have HS := kept (And.intro (hk.cell_ HS.out.1) (hk.cell_ HS.out.2)); (try replace H1 := kept (H1.out.keeps hk)); (try replace H2 := kept (H2.out.keeps hk)); (try replace H3 := kept (H3.out.keeps hk)); (try replace H4 := kept (H4.out.keeps hk)); (try replace HL := kept (HL.out.below hb)); have H3 := kept (Has.of_own hown); clear hown hb hk)
        (try go_wp2_with fail)
        refine hK.out _ _ ?_ (fun hHeld => ?_)
        · ((try dsimp only); (with_reducible exact HS.out))
        clear hK K
        (try simp only [Act.put, List.setIfInBounds_toArray, List.set_cons_zero, List.set_cons_succ])
        refine hand_ready 10 (by kernel_rfl) (by kernel_rfl) (fun o ho K hK => ?_)
        (simp only [List.getElem?_toArray, List.getElem?_cons_succ, List.getElem?_cons_zero, Option.some.injEq] at ho)
        subst ho
        go_simp
        (refine name_world (fun W hW => ?_); have HW := kept hW; have hk := keeps_alloc hW; have HS := kept (And.intro (hk.cell_ HS.out.1) (hk.cell_ HS.out.2)); clear hW hk)
        refine hK.out _ _ ?_ (fun hHeld => ?_)
        · ((try dsimp only); (with_reducible exact HS.out))
        clear hK K
        (try simp only [Act.put, List.setIfInBounds_toArray, List.set_cons_zero, List.set_cons_succ])
        refine hand_ready 11 (by kernel_rfl) (by kernel_rfl) (fun o ho K hK => ?_)
        (simp only [List.getElem?_toArray, List.getElem?_cons_succ, List.getElem?_cons_zero, Option.some.injEq] at ho)
        subst ho
        go_simp
        (go_at_call 30; (with_reducible refine (concat_row4 HW.out H1.out H2.out H3.out H4.out HSG.out).mono ?_); rintro e W5 ⟨A5, c5, rfl, hown, hb⟩; have hk := Keeps.of_below hb; have HS := kept (And.intro (hk.cell_ HS.out.1) (hk.cell_ HS.out.2)); have HO := kept (own_mono hown (Nat.le_succ_of_le HB.out.size)); have HE := kept (bel_to hb (bel_to (below_alloc HW.out) HB.out)); clear hown hb hk)
        (try go_wp2_with fail)
        refine hK.out _ _ ?_ (fun hHeld => ?_)
        · ((try dsimp only); (with_reducible exact HS.out))
        clear hK K
        (try simp only [Act.put, List.setIfInBounds_toArray, List.set_cons_zero, List.set_cons_succ])
        refine hand_take 12 (some 4) ?_ (by kernel_rfl) (by kernel_rfl) (by kernel_rfl) (by kernel_rfl) (by kernel_rfl) (fun _ _ _ h => h) ?_ (by assumption) ?_
        rotate_left
        · (intro o ho w hSw; (simp only [List.getElem?_toArray, List.getElem?_cons_succ, List.getElem?_cons_zero, Option.some.injEq] at ho); subst ho; (try dsimp only at hSw); go_simp; (first | done | with_reducible rfl))
        (try simp only [Act.put, List.setIfInBounds_toArray, List.set_cons_zero, List.set_cons_succ])
        refine wpAnyH_done (by kernel_rfl) ?_ _
        go_wp2
        go_ret
        exact ⟨_, _, rfl, HO.out, HE.out⟩
  · (simp only [List.getElem?_toArray, List.getElem?_cons_succ, List.getElem?_cons_zero, Option.some.injEq] at ho)
    subst ho
    (have kc := fun W => conv_str sg W; go_simp; refine name_world (fun W hW => ?_); have hb := str_below hW; have hk := Keeps.of_below hb; have HB := kept (bel_to hb HB.out); have HS := kept (And.intro (hk.cell_ HS.out.1) (hk.cell_ HS.out.2)); (try replace H1 := kept (H1.out.keeps hk)); (try replace H2 := kept (H2.out.keeps hk)); (try replace H3 := kept (H3.out.keeps hk)); (try replace H4 := kept (H4.out.keeps hk)); (try replace HL := kept (HL.out.below hb)); have H4 := kept (str_has hW (Nat.le_trans HSG.out (by decide))); clear kc hW hb hk)
    refine hK.out _ _ ?_ (fun hHeld => ?_)
    · ((try dsimp only); (with_reducible exact HS.out))
    clear hK K
    (try simp only [Act.put, List.setIfInBounds_toArray, List.set_cons_zero, List.set_cons_succ])
    refine hand_ready2 2 3 (by kernel_rfl) (by kernel_rfl) (by kernel_rfl) (fun o ho K hK => ?_) (fun o ho K hK => ?_)
    · (simp only [List.getElem?_toArray, List.getElem?_cons_succ, List.getElem?_cons_zero, Option.some.injEq] at ho)
      subst ho
      go_simp
      (go_at_call 31; (with_reducible refine (HN1 _).out.mono ?_); rintro e W ⟨A1, c1, rfl, hown, hb⟩; have hk := Keeps.of_below hb; have HB := kept (bel_to hb HB.out); have HS := kept (And.intro (hk.cell_ HS.out.1) (hk.cell_ HS.out.2)); (try replace H1 := kept (H1.out.keeps hk)); (try replace H2 := kept (H2.out.keeps hk)); (try replace H3 := kept (H3.out.keeps hk)); (try replace H4 := kept (H4.out.keeps hk)); (try replace HL := kept (HL.out.below hb)); have H1 := kept (Has.of_own hown); clear hown hb hk)
      (try go_wp2_with fail)
      refine hK.out _ _ ?_ (fun hHeld => ?_)
      · ((try dsimp only); (with_reducible exact HS.out))
      clear hK K
      (try simp only [Act.put, List.setIfInBounds_toArray, List.set_cons_zero, List.set_cons_succ])
      refine hand_ready2 3 7 (by kernel_rfl) (by kernel_rfl) (by kernel_rfl) (fun o ho K hK => ?_) (fun o ho K hK => ?_)
      · (simp only [List.getElem?_toArray, List.getElem?_cons_succ, List.getElem?_cons_zero, Option.some.injEq] at ho)
        subst ho
        go_simp
        (refine name_world (fun W hW => ?_); have hb := below_alloc hW; have hk := keeps_alloc hW; have HG := kept HB.out.size; have HB := kept (bel_to hb HB.out); have HS := kept (And.intro (hk.cell_ HS.out.1) (hk.cell_ HS.out.2)); (try replace H1 := kept (H1.out.keeps hk)); (try replace H2 := kept (H2.out.keeps hk)); (try replace H3 := kept (H3.out.keeps hk)); (try replace H4 := kept (H4.out.keeps hk)); (try replace HL := kept (HL.out.below hb)); have HL := kept (Lit.new hW); clear hW hb hk)
        refine hK.out _ _ ?_ (fun hHeld => ?_)
        · ((try dsimp only); (with_reducible exact HS.out))
        clear hK K
        (try simp only [Act.put, List.setIfInBounds_toArray, List.set_cons_zero, List.set_cons_succ])
        refine hand_ready2 4 7 (by kernel_rfl) (by kernel_rfl) (by kernel_rfl) (fun o ho K hK => ?_) (fun o ho K hK => ?_)
        · (simp only [List.getElem?_toArray, List.getElem?_cons_succ, List.getElem?_cons_zero, Option.some.injEq] at ho)
          subst ho
          (have kc := conv_mark HL.out 1 rfl; go_simp; refine name_world (fun W hW => ?_); have hk := mark_keeps hW; have HB := kept (HB.out.trans (mark_below hW HG.out)); have HS := kept (And.intro (hk.cell_ HS.out.1) (hk.cell_ HS.out.2)); (try replace H1 := kept (H1.out.keeps hk)); (try replace H2 := kept (H2.out.keeps hk)); (try replace H3 := kept (H3.out.keeps hk)); (try replace H4 := kept (H4.out.keeps hk)); have H2 := kept ((Lit.has (xs := [95]) HL.out rfl).keeps hk); clear kc hW hk HL HG)
          refine hK.out _ _ ?_ (fun hHeld => ?_)
          · ((try dsimp only); (with_reducible exact HS.out))
          clear hK K
          (try simp only [Act.put, List.setIfInBounds_toArray, List.set_cons_zero, List.set_cons_succ])
          refine hand_ready 7 (by kernel_rfl) (by kernel_rfl) (fun o ho K hK => ?_)
          (simp only [List.getElem?_toArray, List.getElem?_cons_succ, List.getElem?_cons_zero, Option.some.injEq] at ho)
          subst ho
          go_simp
          (go_at_call 31; (with_reducible refine (HN3 _).out.mono ?_); rintro e W ⟨A3, c3, rfl, hown, hb⟩; have hk := Keeps.of_below hb; have HB := kept (bel_to hb HB.out); have HS := kept (And.intro (hk.cell_ HS.out.1) (hk.cell_ HS.out.2)); (try replace H1 := kept (H1.out.keeps hk)); (try replace H2 := kept (H2.out.keeps hk)); (try replace H3 := kept (H3.out.keeps hk)); (try replace H4 := kept (H4.out.keeps hk)); (try replace HL := kept (HL.out.below hb)); have H3 := kept (Has.of_own hown); clear hown hb hk)
          (try go_wp2_with fail)
          refine hK.out _ _ ?_ (fun hHeld => ?_)
          · ((try dsimp only); (with_reducible exact HS.out))
          clear hK K
          (try simp only [Act.put, List.setIfInBounds_toArray, List.set_cons_zero, List.set_cons_succ])
          refine hand_ready 10 (by kernel_rfl) (by kernel_rfl) (fun o ho K hK => ?_)
          (simp only [List.getElem?_toArray, List.getElem?_cons_succ, List.getElem?_cons_zero, Option.some.injEq] at ho)
          subst ho
          go_simp
          (refine name_world (fun W hW => ?_); have HW := kept hW; have hk := keeps_alloc hW; have HS := kept (And.intro (hk.cell_ HS.out.1) (hk.cell_ HS.out.2)); clear hW hk)
          refine hK.out _ _ ?_ (fun hHeld => ?_)
          · ((try dsimp only); (with_reducible exact HS.out))
          clear hK K
          (try simp only [Act.put, List.setIfInBounds_toArray, List.set_cons_zero, List.set_cons_succ])
          refine hand_ready 11 (by kernel_rfl) (by kernel_rfl) (fun o ho K hK => ?_)
          (simp only [List.getElem?_toArray, List.getElem?_cons_succ, List.getElem?_cons_zero, Option.some.injEq] at ho)
          subst ho
          go_simp
          (go_at_call 30; (with_reducible refine (concat_row4 HW.out H1.out H2.out H3.out H4.out HSG.out).mono ?_); rintro e W5 ⟨A5, c5, rfl, hown, hb⟩; have hk := Keeps.of_below hb; have HS := kept (And.intro (hk.cell_ HS.out.1) (hk.cell_ HS.out.2)); have HO := kept (own_mono hown (Nat.le_succ_of_le HB.out.size)); have HE := kept (bel_to hb (bel_to (below_alloc HW.out) HB.out)); clear hown hb hk)
          (try go_wp2_with fail)
          refine hK.out _ _ ?_ (fun hHeld => ?_)
          · ((try dsimp only); (with_reducible exact HS.out))
          clear hK K
          (try simp only [Act.put, List.setIfInBounds_toArray, List.set_cons_zero, List.set_cons_succ])
          refine hand_take 12 (some 4) ?_ (by kernel_rfl) (by kernel_rfl) (by kernel_rfl) (by kernel_rfl) (by kernel_rfl) (fun _ _ _ h => h) ?_ (by assumption) ?_
          rotate_left
          · (intro o ho w hSw; (simp only [List.getElem?_toArray, List.getElem?_cons_succ, List.getElem?_cons_zero, Option.some.injEq] at ho); subst ho; (try dsimp only at hSw); go_simp; (first | done | with_reducible rfl))
          (try simp only [Act.put, List.setIfInBounds_toArray, List.set_cons_zero, List.set_cons_succ])
          refine wpAnyH_done (by kernel_rfl) ?_ _
          go_wp2
          go_ret
          exact ⟨_, _, rfl, HO.out, HE.out⟩
        · (simp only [List.getElem?_toArray, List.getElem?_cons_succ, List.getElem?_cons_zero, Option.some.injEq] at ho)
          subst ho
          go_simp
          (go_at_call 31; (with_reducible refine (HN3 _).out.mono ?_); rintro e W ⟨A3, c3, rfl, hown, hb⟩; have hk := Keeps.of_below hb; have HB := kept (bel_to hb HB.out); have HS := kept (And.intro (hk.cell_ HS.out.1) (hk.cell_ HS.out.2)); (try replace H1 := kept (H1.out.keeps hk)); (try replace H2 := kept (H2.out.keeps hk)); (try replace H3 := kept (H3.out.keeps hk)); (try replace H4 := kept (H4.out.keeps hk)); (try replace HL := kept (HL.out.below hb)); have H3 := kept (Has.of_own hown); clear hown hb hk)
          (try go_wp2_with fail)
          refine hK.out _ _ ?_ (fun hHeld => ?_)
          · ((try dsimp only); (with_reducible exact HS.out))
          clear hK K
          (try simp only [Act.put, List.setIfInBounds_toArray, List.set_cons_zero, List.set_cons_succ])
          refine hand_ready 4 (by kernel_rfl) (by kernel_rfl) (fun o ho K hK => ?_)
          (simp only [List.getElem?_toArray, List.getElem?_cons_succ, List.getElem?_cons_zero, Option.some.injEq] at ho)
          subst ho
          (have kc := conv_mark HL.out 1 rfl; go_simp; refine name_world (fun W hW => ?_); have hk := mark_keeps hW; have HB := kept (HB.out.trans (mark_below hW HG.out)); have HS := kept (And.intro (hk.cell_ HS.out.1) (hk.cell_ HS.out.2)); (try replace H1 := kept (H1.out.keeps hk)); (try replace H2 := kept (H2.out.keeps hk)); (try replace H3 := kept (H3.out.keeps hk)); (try replace H4 := kept (H4.out.keeps hk)); have H2 := kept ((Lit.has (xs := [95]) HL.out rfl).keeps hk); clear kc hW hk HL HG)
          refine hK.out _ _ ?_ (fun hHeld => ?_)
          · ((try dsimp only); (with_reducible exact HS.out))
          clear hK K
          (try simp only [Act.put, List.setIfInBounds_toArray, List.set_cons_zero, List.set_cons_succ])
          refine hand_ready 10 (by kernel_rfl) (by kernel_rfl) (fun o ho K hK => ?_)
          (simp only [List.getElem?_toArray, List.getElem?_cons_succ, List.getElem?_cons_zero, Option.some.injEq] at ho)
          subst ho
          go_simp
          (refine name_world (fun W hW => ?_); have HW := kept hW; have hk := keeps_alloc hW; have HS := kept (And.intro (hk.cell_ HS.out.1) (hk.cell_ HS.out.2)); clear hW hk)
          refine hK.out _ _ ?_ (fun hHeld => ?_)
          · ((try dsimp only); (with_reducible exact HS.out))
          clear hK K
          (try simp only [Act.put, List.setIfInBounds_toArray, List.set_cons_zero, List.set_cons_succ])
          refine hand_ready 11 (by kernel_rfl) (by kernel_rfl) (fun o ho K hK => ?_)
          (simp only [List.getElem?_toArray, List.getElem?_cons_succ, List.getElem?_cons_zero, Option.some.injEq] at ho)
          subst ho
          go_simp
          (go_at_call 30; (with_reducible refine (concat_row4 HW.out H1.out H2.out H3.out H4.out HSG.out).mono ?_); rintro e W5 ⟨A5, c5, rfl, hown, hb⟩; have hk := Keeps.of_below hb; have HS := kept (And.intro (hk.cell_ HS.out.1) (hk.cell_ HS.out.2)); have HO := kept (own_mono hown (Nat.le_succ_of_le HB.out.size)); have HE := kept (bel_to hb (bel_to (below_alloc HW.out) HB.out)); clear hown hb hk)
          (try go_wp2_with fail)
          refine hK.out _ _ ?_ (fun hHeld => ?_)
          · ((try dsimp only); (with_reducible exact HS.out))
          clear hK K
          (try simp only [Act.put, List.setIfInBounds_toArray, List.set_cons_zero, List.set_cons_succ])
          refine hand_take 12 (some 4) ?_ (by kernel_rfl) (by kernel_rfl) (by kernel_rfl) (by kernel_rfl) (by kernel_rfl) (fun _ _ _ h => h) ?_ (by assumption) ?_
          rotate_left
          · (intro o ho w hSw; (simp only [List.getElem?_toArray, List.getElem?_cons_succ, List.getElem?_cons_zero, Option.some.injEq] at ho); subst ho; (try dsimp only at hSw); go_simp; (first | done | with_reducible rfl))
          (try simp only [Act.put, List.setIfInBounds_toArray, List.set_cons_zero, List.set_cons_succ])
          refine wpAnyH_done (by kernel_rfl) ?_ _
          go_wp2
          go_ret
          exact ⟨_, _, rfl, HO.out, HE.out⟩
      · (simp only [List.getElem?_toArray, List.getElem?_cons_succ, List.getElem?_cons_zero, Option.some.injEq] at ho)
        subst ho
        go_simp
        (go_at_call 31; (with_reducible refine (HN3 _).out.mono ?_); rintro e W ⟨A3, c3, rfl, hown, hb⟩; have hk := Keeps.of_below hb; have HB := kept (bel_to hb HB.out); have HS := kept (And.intro (hk.cell_ HS.out.1) (hk.cell_ HS.out.2)); (try replace H1 := kept (H1.out.keeps hk)); (try replace H2 := kept (H2.out.keeps hk)); (try replace H3 := kept (H3.out.keeps hk)); (try replace H4 := kept (H4.out.keeps hk)); (try replace HL := kept (HL.out.below hb)); have H3 := kept (Has.of_own hown); clear hown hb hk)
        (try go_wp2_with fail)
        refine hK.out _ _ ?_ (fun hHeld => ?_)
        · ((try dsimp only); (with_reducible exact HS.out))
        clear hK K
        (try simp only [Act.put, List.setIfInBounds_toArray, List.set_cons_zero, List.set_cons_succ])
        refine hand_ready 3 (by kernel_rfl) (by kernel_rfl) (fun o ho K hK => ?_)
        (simp only [List.getElem?_toArray, List.getElem?_cons_succ, List.getElem?_cons_zero, Option.some.injEq] at ho)
        subst ho
        go_simp
        (refine name_world (fun W hW => ?_); have hb := below_alloc hW; have hk := keeps_alloc hW; have HG := kept HB.out.size; have HB := kept (bel_to hb HB.out); have HS := kept (And.intro (hk.cell_ HS.out.1) (hk.cell_ HS.out.2)); (try replace H1 := kept (H1.out.keeps hk)); (try replace H2 := kept (H2.out.keeps hk)); (try replace H3 := kept (H3.out.keeps hk)); (try replace H4 := kept (H4.out.keeps hk)); (try replace HL := kept (HL.out.below hb)); have HL := kept (Lit.new hW); clear hW hb hk)
        refine hK.out _ _ ?_ (fun hHeld => ?_)
        · ((try dsimp only); (with_reducible exact HS.out))
        clear hK K
        (try simp only [Act.put, List.setIfInBounds_toArray, List.set_cons_zero, List.set_cons_succ])
        refine hand_ready 4 (by kernel_rfl) (by kernel_rfl) (fun o ho K hK => ?_)
        (simp only [List.getElem?_toArray, List.getElem?_cons_succ, List.getElem?_cons_zero, Option.some.injEq] at ho)
        subst ho
        (have kc := conv_mark HL.out 1 rfl; go_simp; refine name_world (fun W hW => ?_); have hk := mark_keeps hW; have HB := kept (HB.out.trans (mark_below hW HG.out)); have HS := kept (And.intro (hk.cell_ HS.out.1) (hk.cell_ HS.out.2)); (try replace H1 := kept (H1.out.keeps hk)); (try replace H2 := kept (H2.out.keeps hk)); (try replace H3 := kept (H3.out.keeps hk)); (try replace H4 := kept (H4.out.keeps hk)); have H2 := kept ((Lit.has (xs := [95]) HL.out rfl).keeps hk); clear kc hW hk HL HG)
        refine hK.out _ _ ?_ (fun hHeld => ?_)
        · ((try dsimp only); (with_reducible exact HS.out))
        clear hK K
        (try simp only [Act.put, List.setIfInBounds_toArray, List.set_cons_zero, List.set_cons_succ])
        refine hand_ready 10 (by kernel_rfl) (by kernel_rfl) (fun o ho K hK => ?_)
        (simp only [List.getElem?_toArray, List.getElem?_cons_succ, List.getElem?_cons_zero, Option.some.injEq] at ho)
        subst ho
        go_simp
        (refine name_world (fun W hW => ?_); have HW := kept hW; have hk := keeps_alloc hW; have HS := kept (And.intro (hk.cell_ HS.out.1) (hk.cell_ HS.out.2)); clear hW hk)
        refine hK.out _ _ ?_ (fun hHeld => ?_)
        · ((try dsimp only); (with_reducible exact HS.out))
        clear hK K
        (try simp only [Act.put, List.setIfInBounds_toArray, List.set_cons_zero, List.set_cons_succ])
        refine hand_ready 11 (by kernel_rfl) (by kernel_rfl) (fun o ho K hK => ?_)
        (simp only [List.getElem?_toArray, List.getElem?_cons_succ, List.getElem?_cons_zero, Option.some.injEq] at ho)
        subst ho
        go_simp
        (go_at_call 30; (with_reducible refine (concat_row4 HW.out H1.out H2.out H3.out H4.out HSG.out).mono ?_); rintro e W5 ⟨A5, c5, rfl, hown, hb⟩; have hk := Keeps.of_below hb; have HS := kept (And.intro (hk.cell_ HS.out.1) (hk.cell_ HS.out.2)); have HO := kept (own_mono hown (Nat.le_succ_of_le HB.out.size)); have HE := kept (bel_to hb (bel_to (below_alloc HW.out) HB.out)); clear hown hb hk)
        (try go_wp2_with fail)
        refine hK.out _ _ ?_ (fun hHeld => ?_)
        · ((try dsimp only); (with_reducible exact HS.out))
        clear hK K
        (try simp only [Act.put, List.setIfInBounds_toArray, List.set_cons_zero, List.set_cons_succ])
        refine hand_take 12 (some 4) ?_ (by kernel_rfl) (by kernel_rfl) (by kernel_rfl) (by kernel_rfl) (by kernel_rfl) (fun _ _ _ h => h) ?_ (by assumption) ?_
        rotate_left
        · (intro o ho w hSw; (simp only [List.getElem?_toArray, List.getElem?_cons_succ, List.getElem?_cons_zero, Option.some.injEq] at ho); subst ho; (try dsimp only at hSw); go_simp; (first | done | with_reducible rfl))
        (try simp only [Act.put, List.setIfInBounds_toArray, List.set_cons_zero, List.set_cons_succ])
        refine wpAnyH_done (by kernel_rfl) ?_ _
        go_wp2
        go_ret
        exact ⟨_, _, rfl, HO.out, HE.out⟩
    · (simp only [List.getElem?_toArray, List.getElem?_cons_succ, List.getElem?_cons_zero, Option.some.injEq] at ho)
      subst ho
      go_simp
      (refine name_world (fun W hW => ?_); have hb := below_alloc hW; have hk := keeps_alloc hW; have HG := kept HB.out.size; have HB := kept (bel_to hb HB.out); have HS := kept (And.intro (hk.cell_ HS.out.1) (hk.cell_ HS.out.2)); (try replace H1 := kept (H1.out.keeps hk)); (try replace H2 := kept (H2.out.keeps hk)); (try replace H3 := kept (H3.out.keeps hk)); (try replace H4 := kept (H4.out.keeps hk)); (try replace HL := kept (HL.out.below hb)); have HL := kept (Lit.new hW); clear hW hb hk)
      refine hK.out _ _ ?_ (fun hHeld => ?_)
      · ((try dsimp only); (with_reducible exact HS.out))
      clear hK K
      (try simp only [Act.put, List.setIfInBounds_toArray, List.set_cons_zero, List.set_cons_succ])
      refine hand_ready2 2 4 (by kernel_rfl) (by kernel_rfl) (by kernel_rfl) (fun o ho K hK => ?_) (fun o ho K hK => ?_)
      · (simp only [List.getElem?_toArray, List.getElem?_cons_succ, List.getElem?_cons_zero, Option.some.injEq] at ho)
        subst ho
        go_simp
        (go_at_call 31; (with_reducible refine (HN1 _).out.mono ?_); rintro e W ⟨A1, c1, rfl, hown, hb⟩; have hk := Keeps.of_below hb; have HB := kept (bel_to hb HB.out); have HS := kept (And.intro (hk.cell_ HS.out.1) (hk.cell_ HS.out.2)); (try replace H1 := kept (H1.out.keeps hk)); (try replace H2 := kept (H2.out.keeps hk)); (try replace H3 := kept (H3.out.keeps hk)); (try replace H4 := kept (H4.out.keeps hk)); (try replace HL := kept (HL.out.below hb)); have H1 := kept (Has.of_own hown); clear hown hb hk)
        (try go_wp2_with fail)
        refine hK.out _ _ ?_ (fun hHeld => ?_)
        · ((try dsimp only); (with_reducible exact HS.out))
        clear hK K
        (try simp only [Act.put, List.setIfInBounds_toArray, List.set_cons_zero, List.set_cons_succ])
        refine hand_ready2 4 7 (by kernel_rfl) (by kernel_rfl) (by kernel_rfl) (fun o ho K hK => ?_) (fun o ho K hK => ?_)
        · (simp only [List.getElem?_toArray, List.getElem?_cons_succ, List.getElem?_cons_zero, Option.some.injEq] at ho)
          subst ho
          (have kc := conv_mark HL.out 1 rfl; go_simp; refine name_world (fun W hW => ?_); have hk := mark_keeps hW; have HB := kept (HB.out.trans (mark_below hW HG.out)); have HS := kept (And.intro (hk.cell_ HS.out.1) (hk.cell_ HS.out.2)); (try replace H1 := kept (H1.out.keeps hk)); (try replace H2 := kept (H2.out.keeps hk)); (try replace H3 := kept (H3.out.keeps hk)); (try replace H4 := kept (H4.out.keeps hk)); have H2 := kept ((Lit.has (xs := [95]) HL.out rfl).keeps hk); clear kc hW hk HL HG)
          refine hK.out _ _ ?_ (fun hHeld => ?_)
          · ((try dsimp only); (with_reducible exact HS.out))
          clear hK K
          (try simp only [Act.put, List.setIfInBounds_toArray, List.set_cons_zero, List.set_cons_succ])
          refine hand_ready 7 (by kernel_rfl) (by kernel_rfl) (fun o ho K hK => ?_)
          (simp only [List.getElem?_toArray, List.getElem?_cons_succ, List.getElem?_cons_zero, Option.some.injEq] at ho)
          subst ho
          go_simp
          (go_at_call 31; (with_reducible refine (HN3 _).out.mono ?_); rintro e W ⟨A3, c3, rfl, hown, hb⟩; have hk := Keeps.of_below hb; have HB := kept (bel_to hb HB.out); have HS := kept (And.intro (hk.cell_ HS.out.1) (hk.cell_ HS.out.2)); (try replace H1 := kept (H1.out.keeps hk)); (try replace H2 := kept (H2.out.keeps hk)); (try replace H3 := kept (H3.out.keeps hk)); (try replace H4 := kept (H4.out.keeps hk)); (try replace HL := kept (HL.out.below hb)); have H3 := kept (Has.of_own hown); clear hown hb hk)
          (try go_wp2_with fail)
          refine hK.out _ _ ?_ (fun hHeld => ?_)
          · ((try dsimp only); (with_reducible exact HS.out))
          clear hK K
          (try simp only [Act.put, List.setIfInBounds_toArray, List.set_cons_zero, List.set_cons_succ])
          refine hand_ready 10 (by kernel_rfl) (by kernel_rfl) (fun o ho K hK => ?_)
          (simp only [List.getElem?_toArray, List.getElem?_cons_succ, List.getElem?_cons_zero, Option.some.injEq] at ho)
          subst ho
          go_simp
          (refine name_world (fun W hW => ?_); have HW := kept hW; have hk := keeps_alloc hW; have HS := kept (And.intro (hk.cell_ HS.out.1) (hk.cell_ HS.out.2)); clear hW hk)
          refine hK.out _ _ ?_ (fun hHeld => ?_)
          · ((try dsimp only); (with_reducible exact HS.out))
          clear hK K
          (try simp only [Act.put, List.setIfInBounds_toArray, List.set_cons_zero, List.set_cons_succ])
          refine hand_ready 11 (by kernel_rfl) (by kernel_rfl) (fun o ho K hK => ?_)
          (simp only [List.getElem?_toArray, List.getElem?_cons_succ, List.getElem?_cons_zero, Option.some.injEq] at ho)
          subst ho
          go_simp
          (go_at_call 30; (with_reducible refine (concat_row4 HW.out H1.out H2.out H3.out H4.out HSG.out).mono ?_); rintro e W5 ⟨A5, c5, rfl, hown, hb⟩; have hk := Keeps.of_below hb; have HS := kept (And.intro (hk.cell_ HS.out.1) (hk.cell_ HS.out.2)); have HO := kept (own_mono hown (Nat.le_succ_of_le HB.out.size)); have HE := kept (bel_to hb (bel_to (below_alloc HW.out) HB.out)); clear hown hb hk)
          (try go_wp2_with fail)
          refine hK.out _ _ ?_ (fun hHeld => ?_)
          · ((try dsimp only); (with_reducible exact HS.out))
          clear hK K
          (try simp only [Act.put, List.setIfInBounds_toArray, List.set_cons_zero, List.set_cons_succ])
          refine hand_take 12 (some 4) ?_ (by kernel_rfl) (by kernel_rfl) (by kernel_rfl) (by kernel_rfl) (by kernel_rfl) (fun _ _ _ h => h) ?_ (by assumption) ?_
          rotate_left
          · (intro o ho w hSw; (simp only [List.getElem?_toArray, List.getElem?_cons_succ, List.getElem?_cons_zero, Option.some.injEq] at ho); subst ho; (try dsimp only at hSw); go_simp; (first | done | with_reducible rfl))
          (try simp only [Act.put, List.setIfInBounds_toArray, List.set_cons_zero, List.set_cons_succ])
          refine wpAnyH_done (by kernel_rfl) ?_ _
          go_wp2
          go_ret
          exact ⟨_, _, rfl, HO.out, HE.out⟩
        · (simp only [List.getElem?_toArray, List.getElem?_cons_succ, List.getElem?_cons_zero, Option.some.injEq] at ho)
          subst ho
          go_simp
          (go_at_call 31; (with_reducible refine (HN3 _).out.mono ?_); rintro e W ⟨A3, c3, rfl, hown, hb⟩; have hk := Keeps.of_below hb; have HB := kept (bel_to hb HB.out); have HS := kept (And.intro (hk.cell_ HS.out.1) (hk.cell_ HS.out.2)); (try replace H1 := kept (H1.out.keeps hk)); (try replace H2 := kept (H2.out.keeps hk)); (try replace H3 := kept (H3.out.keeps hk)); (try replace H4 := kept (H4.out.keeps hk)); (try replace HL := kept (HL.out.below hb)); have H3 := kept (Has.of_own hown); clear hown hb hk)
          (try go_wp2_with fail)
          refine hK.out _ _ ?_ (fun hHeld => ?_)
          · ((try dsimp only); (with_reducible exact HS.out))
          clear hK K
          (try simp only [Act.put, List.setIfInBounds_toArray, List.set_cons_zero, List.set_cons_succ])
          refine hand_ready 4 (by kernel_rfl) (by kernel_rfl) (fun o ho K hK => ?_)
          (simp only [List.getElem?_toArray, List.getElem?_cons_succ, List.getElem?_cons_zero, Option.some.injEq] at ho)
          subst ho
          (have kc := conv_mark HL.out 1 rfl; go_simp; refine name_world (fun W hW => ?_); have hk := mark_keeps hW; have HB := kept (HB.out.trans (mark_below hW HG.out)); have HS := kept (And.intro (hk.cell_ HS.out.1) (hk.cell_ HS.out.2)); (try replace H1 := kept (H1.out.keeps hk)); (try replace H2 := kept (H2.out.keeps hk)); (try replace H3 := kept (H3.out.keeps hk)); (try replace H4 := kept (H4.out.keeps hk)); have H2 := kept ((Lit.has (xs := [95]) HL.out rfl).keeps hk); clear kc hW hk HL HG)
          refine hK.out _ _ ?_ (fun hHeld => ?_)
          · ((try dsimp only); (with_reducible exact HS.out))
          clear hK K
          (try simp only [Act.put, List.setIfInBounds_toArray, List.set_cons_zero, List.set_cons_succ])
          refine hand_ready 10 (by kernel_rfl) (by kernel_rfl) (fun o ho K hK => ?_)
          (simp only [List.getElem?_toArray, List.getElem?_cons_succ, List.getElem?_cons_zero, Option.some.injEq] at ho)
          subst ho
          go_simp
          (refine name_world (fun W hW => ?_); have HW := kept hW; have hk := keeps_alloc hW; have HS := kept (And.intro (hk.cell_ HS.out.1) (hk.cell_ HS.out.2)); clear hW hk)
          refine hK.out _ _ ?_ (fun hHeld => ?_)
          · ((try dsimp only); (with_reducible exact HS.out))
          clear hK K
          (try simp only [Act.put, List.setIfInBounds_toArray, List.set_cons_zero, List.set_cons_succ])
          refine hand_ready 11 (by kernel_rfl) (by kernel_rfl) (fun o ho K hK => ?_)
          (simp only [List.getElem?_toArray, List.getElem?_cons_succ, List.getElem?_cons_zero, Option.some.injEq] at ho)
          subst ho
          go_simp
          (go_at_call 30; (with_reducible refine (concat_row4 HW.out H1.out H2.out H3.out H4.out HSG.out).mono ?_); rintro e W5 ⟨A5, c5, rfl, hown, hb⟩; have hk := Keeps.of_below hb; have HS := kept (And.intro (hk.cell_ HS.out.1) (hk.cell_ HS.out.2)); have HO := kept (own_mono hown (Nat.le_succ_of_le HB.out.size)); have HE := kept (bel_to hb (bel_to (below_alloc HW.out) HB.out)); clear hown hb hk)
          (try go_wp2_with fail)
          refine hK.out _ _ ?_ (fun hHeld => ?_)
          · ((try dsimp only); (with_reducible exact HS.out))
          clear hK K
          (try simp only [Act.put, List.setIfInBounds_toArray, List.set_cons_zero, List.set_cons_succ])
          refine hand_take 12 (some 4) ?_ (by kernel_rfl) (by kernel_rfl) (by kernel_rfl) (by kernel_rfl) (by kernel_rfl) (fun _ _ _ h => h) ?_ (by assumption) ?_
          rotate_left
          · (intro o ho w hSw; (simp only [List.getElem?_toArray, List.getElem?_cons_succ, List.getElem?_cons_zero, Option.some.injEq] at ho); subst ho; (try dsimp only at hSw); go_simp; (first | done | with_reducible rfl))
          (try simp only [Act.put, List.setIfInBounds_toArray, List.set_cons_zero, List.set_cons_succ])
          refine wpAnyH_done (by kernel_rfl) ?_ _
          go_wp2
          go_ret
          exact ⟨_, _, rfl, HO.out, HE.out⟩
      · (simp only [List.getElem?_toArray, List.getElem?_cons_succ, List.getElem?_cons_zero, Option.some.injEq] at ho)
        subst ho
        (have kc := conv_mark HL.out 1 rfl; go_simp; refine name_world (fun W hW => ?_); have hk := mark_keeps hW; have HB := kept (HB.out.trans (mark_below hW HG.out)); have HS := kept (And.intro (hk.cell_ HS.out.1) (hk.cell_ HS.out.2)); (try replace H1 := kept (H1.out.keeps hk)); (try replace H2 := kept (H2.out.keeps hk)); (try replace H3 := kept (H3.out.keeps hk)); (try replace H4 := kept (H4.out.keeps hk)); have H2 := kept ((Lit.has (xs := [95]) HL.out rfl).keeps hk); clear kc hW hk HL HG)
        refine hK.out _ _ ?_ (fun hHeld => ?_)
        · ((try dsimp only); (with_reducible exact HS.out))
        clear hK K
        (try simp only [Act.put, List.setIfInBounds_toArray, List.set_cons_zero, List.set_cons_succ])
        refine hand_ready 2 (by kernel_rfl) (by kernel_rfl) (fun o ho K hK => ?_)
        (simp only [List.getElem?_toArray, List.getElem?_cons_succ, List.getElem?_cons_zero, Option.some.injEq] at ho)
        subst ho
        go_simp
        (go_at_call 31; (with_reducible refine (HN1 _).out.mono ?_); rintro e W ⟨A1, c1, rfl, hown, hb⟩; have hk := Keeps.of_below hb; have HB := kept (bel_to hb HB.out); have HS := kept (And.intro (hk.cell_ HS.out.1) (hk.cell_ HS.out.2)); (try replace H1 := kept (H1.out.keeps hk)); (try replace H2 := kept (H2.out.keeps hk)); (try replace H3 := kept (H3.out.keeps hk)); (try replace H4 := kept (H4.out.keeps hk)); (try replace HL := kept (HL.out.below hb)); have H1 := kept (Has.of_own hown); clear hown hb hk)
        (try go_wp2_with fail)
        refine hK.out _ _ ?_ (fun hHeld => ?_)
        · ((try dsimp only); (with_reducible exact HS.out))
        clear hK K
        (try simp only [Act.put, List.setIfInBounds_toArray, List.set_cons_zero, List.set_cons_succ])
        refine hand_ready 7 (by kernel_rfl) (by kernel_rfl) (fun o ho K hK => ?_)
        (simp only [List.getElem?_toArray, List.getElem?_cons_succ, List.getElem?_cons_zero, Option.some.injEq] at ho)
        subst ho
        go_simp
        (go_at_call 31; (with_reducible refine (HN3 _).out.mono ?_); rintro e W ⟨A3, c3, rfl, hown, hb⟩; have hk := Keeps.of_below hb; have HB := kept (bel_to hb HB.out); have HS := kept (And.intro (hk.cell_ HS.out.1) (hk.cell_ HS.out.2)); (try replace H1 := kept (H1.out.keeps hk)); (try replace H2 := kept (H2.out.keeps hk)); (try replace H3 := kept (H3.out.keeps hk)); (try replace H4 := kept (H4.out.keeps hk)); (try replace HL := kept (HL.out.below hb)); have H3 := kept (Has.of_own hown); clear hown hb hk)
        (try go_wp2_with fail)
        refine hK.out _ _ ?_ (fun hHeld => ?_)
        · ((try dsimp only); (with_reducible exact HS.out))
        clear hK K
        (try simp only [Act.put, List.setIfInBounds_toArray, List.set_cons_zero, List.set_cons_succ])
        refine hand_ready 10 (by kernel_rfl) (by kernel_rfl) (fun o ho K hK => ?_)
        (simp only [List.getElem?_toArray, List.getElem?_cons_succ, List.getElem?_cons_zero, Option.some.injEq] at ho)
        subst ho
        go_simp
        (refine name_world (fun W hW => ?_); have HW := kept hW; have hk := keeps_alloc hW; have HS := kept (And.intro (hk.cell_ HS.out.1) (hk.cell_ HS.out.2)); clear hW hk)
        refine hK.out _ _ ?_ (fun hHeld => ?_)
        · ((try dsimp only); (with_reducible exact HS.out))
        clear hK K
        (try simp only [Act.put, List.setIfInBounds_toArray, List.set_cons_zero, List.set_cons_succ])
        refine hand_ready 11 (by kernel_rfl) (by kernel_rfl) (fun o ho K hK => ?_)
        (simp only [List.getElem?_toArray, List.getElem?_cons_succ, List.getElem?_cons_zero, Option.some.injEq] at ho)
        subst ho
        go_simp
        (go_at_call 30; (with_reducible refine (concat_row4 HW.out H1.out H2.out H3.out H4.out HSG.out).mono ?_); rintro e W5 ⟨A5, c5, rfl, hown, hb⟩; have hk := Keeps.of_below hb; have HS := kept (And.intro (hk.cell_ HS.out.1) (hk.cell_ HS.out.2)); have HO := kept (own_mono hown (Nat.le_succ_of_le HB.out.size)); have HE := kept (bel_to hb (bel_to (below_alloc HW.out) HB.out)); clear hown hb hk)
        (try go_wp2_with fail)
        refine hK.out _ _ ?_ (fun hHeld => ?_)
        · ((try dsimp only); (with_reducible exact HS.out))
        clear hK K
        (try simp only [Act.put, List.setIfInBounds_toArray, List.set_cons_zero, List.set_cons_succ])
        refine hand_take 12 (some 4) ?_ (by kernel_rfl) (by kernel_rfl) (by kernel_rfl) (by kernel_rfl) (by kernel_rfl) (fun _ _ _ h => h) ?_ (by assumption) ?_
        rotate_left
        · (intro o ho w hSw; (simp only [List.getElem?_toArray, List.getElem?_cons_succ, List.getElem?_cons_zero, Option.some.injEq] at ho); subst ho; (try dsimp only at hSw); go_simp; (first | done | with_reducible rfl))
        (try simp only [Act.put, List.setIfInBounds_toArray, List.set_cons_zero, List.set_cons_succ])
        refine wpAnyH_done (by kernel_rfl) ?_ _
        go_wp2
        go_ret
        exact ⟨_, _, rfl, HO.out, HE.out⟩
end Go.Proofs.Ytaknhbklopmojaa
