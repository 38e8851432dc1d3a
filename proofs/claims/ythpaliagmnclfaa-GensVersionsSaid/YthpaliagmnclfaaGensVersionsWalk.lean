/-
  The walk of the law GensVersions.
-/
import Derived.Test.YthpaliagmnclfaaHi
import Derived.BigQuiet
namespace Go.Proofs.Ythpaliagmnclfaa
open Go.ChangeShapes Go.WideShapes Go.ChangeAt Go.RowKit Go.Deep
set_option linter.unusedVariables false
set_option linter.unusedSimpArgs false
namespace gensVersions
set_option maxHeartbeats 4000000 in
theorem walk (w : World) (A : Option Addr) (n c : Nat) (hnc : n ≤ c) (hcm : c ≤ maxLen) (X : Nat → Ac) (hX : RdAc w A n X) (hrb : n * 48 ≤ 140737488351232) (at_ : Int) (wa : (Lit.int .i64 at_).wf = true) :
    Calls Try.prog 4 #[.slice A n c, .int .i64 at_] w fun e w' => e = .returned (.bool true) ∧ Below w.heap.size w w' := by
  have HL := fun W => kept (lives_any W)
  by_cases hlo : at_ < 0
  · have hdl : decide (at_ < 0) = true := decide_eq_true hlo
    go_enter Try.func4, Try.ntmps4
    go_wp2_with fail
    with_reducible refine (HL _).out.mono ?_
    rintro e w1 ⟨rfl, hb⟩
    have HB1 := kept hb
    clear hb
    go_wp2_with fail
    with_reducible refine (HL _).out.mono ?_
    rintro e w2 ⟨rfl, hb⟩
    have HB2 := kept (bel_to hb HB1.out)
    clear hb
    go_wp2
    go_ret
    exact ⟨rfl, HB2.out⟩
  by_cases hhi : (2305843009213693952 : Int) < at_
  · have hdl : decide (at_ < 0) = false := decide_eq_false hlo
    have hdh : decide ((2305843009213693952 : Int) < at_) = true := decide_eq_true hhi
    go_enter Try.func4, Try.ntmps4
    go_wp2_with fail
    with_reducible refine (HL _).out.mono ?_
    rintro e w1 ⟨rfl, hb⟩
    have HB1 := kept hb
    clear hb
    go_wp2_with fail
    with_reducible refine (HL _).out.mono ?_
    rintro e w2 ⟨rfl, hb⟩
    have HB2 := kept (bel_to hb HB1.out)
    clear hb
    go_wp2
    go_ret
    exact ⟨rfl, HB2.out⟩
  have HX := kept hX
  have hn1 : n ≤ 2932031007317 := by omega
  have HAT := kept (And.intro hlo hhi)
  have hdl : decide (at_ < 0) = false := decide_eq_false hlo
  have hdh : decide ((2305843009213693952 : Int) < at_) = false := decide_eq_false hhi
  have hw1 : wrap64 (at_ + 1) = at_ + 1 := IntWalk.wrap64_in _ ⟨by omega, by omega⟩
  clear hX hnc hcm wa hrb
  go_enter Try.func4, Try.ntmps4
  go_wp2_with (first | (go_at_call 7; (with_reducible refine ((HL _).out).mono ?_); rintro e w1 ⟨rfl, hb⟩; have HB1 := kept hb; clear hb HL))
  have H0 : Hid (∃ us, PlI w1 w1 none 0 0 us 0) := kept ⟨[], World.ownsRow_nil _ _ _ _, Below.refl _ _, fun a h => absurd h (by simp), Nat.le_refl _⟩
  go_loopw [27, 5] (fun i p wr => ∃ (j : Nat) (A2 : Option Addr) (n2 c2 : Nat), j ≤ n ∧ i = .int .i64 (j : Int) ∧ p = .slice A2 n2 c2 ∧ Hid (∃ us, PlI w1 wr A2 n2 c2 us j)) (fun i _ _ => n - (intOf i).toNat)
  case atStart => exact ⟨0, none, 0, 0, Nat.zero_le _, rfl, rfl, H0⟩
  case round =>
    obtain ⟨j, A2, n2, c2, hj, rfl, rfl, HI⟩ := hrel
    clear H0
    by_cases hjn : j < n
    · obtain ⟨us, hp⟩ := HI.out
      obtain ⟨g, o, hA, a0, a1, a2, a3, a4, a5⟩ := (HX.out.keeps (Keeps.of_below (bel_to hp.bel HB1.out))).1 j hjn
      have hv := HX.out.2 j hjn
      generalize X j = x at a0 a1 a2 a3 a4 a5 hv
      subst hA
      have hj0 : (0 : Int) ≤ (j : Int) := by omega
      have hjn' : (j : Int) < (n : Int) := by omega
      have hwj : wrap64 ((j : Int) + 1) = (j : Int) + 1 := IntWalk.wrap64_in _ ⟨by omega, by omega⟩
      have HJ := kept hjn
      by_cases hk : x.k = 0 ∨ x.k = 1
      · have hba : Below wr.heap.size wr ((wr.alloc (.cells #[.int .i64 x.k, .bool x.nx, .int .i64 x.m, .int .i64 x.s, .int .i64 x.c, .int .i64 x.v] 39)).alloc (.cells #[.int .i64 x.k, .bool x.nx, .int .i64 x.m, .int .i64 x.s, .int .i64 x.c, .int .i64 x.v] 39)) := ((Below.refl _ wr).alloc (Nat.le_refl _) _).alloc (by simp) _
        have hbl : Blk ((wr.alloc (.cells #[.int .i64 x.k, .bool x.nx, .int .i64 x.m, .int .i64 x.s, .int .i64 x.c, .int .i64 x.v] 39)).alloc (.cells #[.int .i64 x.k, .bool x.nx, .int .i64 x.m, .int .i64 x.s, .int .i64 x.c, .int .i64 x.v] 39)) (wr.heap.size + 1) 39 [.int .i64 x.k, .bool x.nx, .int .i64 x.m, .int .i64 x.s, .int .i64 x.c, .int .i64 x.v] := by
          have := Blk.new (wr.alloc (.cells #[.int .i64 x.k, .bool x.nx, .int .i64 x.m, .int .i64 x.s, .int .i64 x.c, .int .i64 x.v] 39)) 39 #[.int .i64 x.k, .bool x.nx, .int .i64 x.m, .int .i64 x.s, .int .i64 x.c, .int .i64 x.v]
          rwa [World.size_alloc] at this
        have hle := hp.le
        have hb1 : n2 + 1 ≤ maxLen := by unfold maxLen; omega
        have hb2 : (n2 + 1) * 48 ≤ 140737488355328 := by omega
        have HY := kept (And.intro (hp.below hba) (And.intro hbl (And.intro (And.intro hk hv) (And.intro hb1 hb2))))
        have hkk : (x.k == 0) = true ∨ ((x.k == 0) = false ∧ (x.k == 1) = true) := by
          rcases hk with e | e
          · exact .inl (by simp [e])
          · exact .inr (by simp [e])
        clear hp hba hbl hle hb1 hb2 hk hv hj hjn HI
        rcases hkk with hk0 | ⟨hk0, hk1⟩
        ·
          go_wp2_with (first | (at_builtin; refine wpList_append_c rfl _ _ 22 rfl 39 ⟨wr.heap.size + 1, 0, none⟩ rfl rfl Try.underlying22 acinfo rfl (by decide) HY.out.1.own (ys := [.int .i64 x.k, .bool x.nx, .int .i64 x.m, .int .i64 x.s, .int .i64 x.c, .int .i64 x.v]) rfl (fun j u hj => by rw [gadd_at, Nat.zero_add, HY.out.2.1.cell j]; exact hj) (by intro u hu; simp only [List.mem_cons, List.not_mem_nil, or_false] at hu; rcases hu with rfl | rfl | rfl | rfl | rfl | rfl <;> rfl) HY.out.2.2.2.1 HY.out.2.2.2.2 HY.out.1.bel.size ?_; intro A8 c8 w8 h8 g8; have HQ : Hid (∃ us, PlI w1 w8 A8 (n2 + 1) c8 us (j + 1)) := kept ⟨us ++ [x], by rw [acC_append]; exact h8, HY.out.1.bel.grown g8 HY.out.1.bel.size (fun y hy => (gown_lt HY.out.1.own hy).1), fun a ha => (List.mem_append.1 ha).elim (HY.out.1.ok a) (fun e => by rw [List.mem_singleton.1 e]; exact HY.out.2.2.1), Nat.succ_le_succ HY.out.1.le⟩; clear h8 g8))
          go_roundw
          case rel => exact ⟨j + 1, A8, n2 + 1, c8, by have := HJ.out; omega, by go_num, rfl, HQ⟩
          case measure => have := HJ.out; simp [intOf]; omega
        ·
          go_wp2_with (first | (at_builtin; refine wpList_append_c rfl _ _ 22 rfl 39 ⟨wr.heap.size + 1, 0, none⟩ rfl rfl Try.underlying22 acinfo rfl (by decide) HY.out.1.own (ys := [.int .i64 x.k, .bool x.nx, .int .i64 x.m, .int .i64 x.s, .int .i64 x.c, .int .i64 x.v]) rfl (fun j u hj => by rw [gadd_at, Nat.zero_add, HY.out.2.1.cell j]; exact hj) (by intro u hu; simp only [List.mem_cons, List.not_mem_nil, or_false] at hu; rcases hu with rfl | rfl | rfl | rfl | rfl | rfl <;> rfl) HY.out.2.2.2.1 HY.out.2.2.2.2 HY.out.1.bel.size ?_; intro A8 c8 w8 h8 g8; have HQ : Hid (∃ us, PlI w1 w8 A8 (n2 + 1) c8 us (j + 1)) := kept ⟨us ++ [x], by rw [acC_append]; exact h8, HY.out.1.bel.grown g8 HY.out.1.bel.size (fun y hy => (gown_lt HY.out.1.own hy).1), fun a ha => (List.mem_append.1 ha).elim (HY.out.1.ok a) (fun e => by rw [List.mem_singleton.1 e]; exact HY.out.2.2.1), Nat.succ_le_succ HY.out.1.le⟩; clear h8 g8))
          go_roundw
          case rel => exact ⟨j + 1, A8, n2 + 1, c8, by have := HJ.out; omega, by go_num, rfl, HQ⟩
          case measure => have := HJ.out; simp [intOf]; omega
      · have hk0 : (x.k == 0) = false := by simp; exact fun e => hk (.inl e)
        have hk1 : (x.k == 1) = false := by simp; exact fun e => hk (.inr e)
        have hba : Below wr.heap.size wr (wr.alloc (.cells #[.int .i64 x.k, .bool x.nx, .int .i64 x.m, .int .i64 x.s, .int .i64 x.c, .int .i64 x.v] 39)) := (Below.refl _ wr).alloc (Nat.le_refl _) _
        have HP := kept (⟨us, (hp.below hba).more⟩ : ∃ us, PlI w1 (wr.alloc (.cells #[.int .i64 x.k, .bool x.nx, .int .i64 x.m, .int .i64 x.s, .int .i64 x.c, .int .i64 x.v] 39)) A2 n2 c2 us (j + 1))
        clear hp hba hk hj hjn HI
        go_wp2
        go_roundw
        case rel => exact ⟨j + 1, A2, n2, c2, by have := HJ.out; omega, by go_num, rfl, HP⟩
        case measure => have := HJ.out; simp [intOf]; omega
    · obtain rfl : j = n := by omega
      obtain ⟨us, hp⟩ := HI.out
      have hcap := gown_cap hp.own
      have HM := kept (made_any hp.rd.1 hcap.1 hcap.2.1 POk (fun x hx => absurd hx (by simp)) (fun i hi gs q h1 h2 => pok_step h1 h2 (hp.rd.2 i hi) q _ _))
      have HB2 := kept (bel_to hp.bel HB1.out)
      clear hp hcap HI HX hj hjn
      go_wp2_with (first | (go_at_call 8; (with_reducible refine (HM.out).mono ?_); rintro e w3 hm; obtain ⟨r, F, gs, last, rfl, hg, hi, hbd, hv, hpo, hF, hb⟩ := hm; obtain ⟨o1, ho1⟩ : ∃ o, getG gs at_ = o := ⟨_, rfl⟩; obtain ⟨o2, ho2⟩ : ∃ o, getG gs (at_ + 1) = o := ⟨_, rfl⟩; have HG1 := kept (get_f hg hi hbd (by omega) at_ ho1); have HG2 := fun W (h : Below w3.heap.size w3 W) => kept (get_f (hg.below h) hi hbd (by omega) (at_ + 1) ho2); have HB3 := kept (bel_to hb HB2.out); have HV := kept (And.intro hi (And.intro hpo (And.intro hbd.2 (And.intro ho1 ho2)))); clear hg hi hbd hv hpo hF hb ho1 ho2 HM))
      with_reducible refine HG1.out.mono ?_
      rintro e w4 ⟨rfl, hb⟩
      have HB4 := kept hb
      clear hb HG1
      cases o1 with
      | none =>
        have hz : fnd none = ((0, 0), 0, 0) := rfl
        have hz2 : (none : Option (Rv × Int × Int)).isSome = false := rfl
        simp only [hz, hz2]
        have HEF := fun W => eql_found 0 0 0 0 0 0 0 0 W
        simp only [and_self, decide_true] at HEF
        have HB5 := kept (bel_to ((Below.refl w4.heap.size w4).alloc (Nat.le_refl _) (.cells #[.int .i64 0, .int .i64 0, .int .i64 0, .int .i64 0] 33)) (bel_to HB4.out HB3.out))
        go_wp2
        go_returns
        exact ⟨rfl, HB5.out⟩
      | some y =>
        obtain ⟨⟨q1, q2⟩, yc, yv⟩ := y
        obtain ⟨k1, k2, k3, k4, k5⟩ := versions HV.out.1 HV.out.2.1 HV.out.2.2.1 (by omega) HV.out.2.2.2.1
        have hz : fnd (some ((q1, q2), yc, yv)) = ((q1, q2), yc, yv) := rfl
        have hz2 : (some ((q1, q2), yc, yv) : Option (Rv × Int × Int)).isSome = true := rfl
        simp only [hz, hz2]
        have hba : Below w4.heap.size w4 (w4.alloc (.cells #[.int .i64 q1, .int .i64 q2, .int .i64 yc, .int .i64 yv] 33)) := (Below.refl _ _).alloc (Nat.le_refl _) _
        have HK4 := kept (Blk.new w4 33 #[.int .i64 q1, .int .i64 q2, .int .i64 yc, .int .i64 yv])
        have HG := kept (HG2 _ (bel_to hba HB4.out)).out
        have HB5 := kept (bel_to hba (bel_to HB4.out HB3.out))
        have d1 : decide (at_ < q1) = false := decide_eq_false (by simp only at k1; omega)
        have d2 : decide (q1 < yc) = false := decide_eq_false (by simp only at k2; omega)
        have d3 : decide (yv < 1) = false := decide_eq_false (by omega)
        have d4 : yv = 1 → (yc == q1) = true := fun e => by simp; exact k4 e
        have HO2 : Hid (o2 = none ∨ ∃ p1 p2 zc zv, o2 = some ((p1, p2), zc, zv) ∧ (zc = yc → yv ≤ zv)) := kept (by
          have h2 := HV.out.2.2.2.2
          cases o2 with
          | none => exact .inl rfl
          | some z =>
            obtain ⟨⟨p1, p2⟩, zc, zv⟩ := z
            exact .inr ⟨p1, p2, zc, zv, rfl, k5 _ _ _ h2⟩)
        clear k1 k2 k3 k4 k5 hba hz hz2 HG2 HV
        go_upto_region 14 with fail
        generalize w4.alloc (.cells #[.int .i64 q1, .int .i64 q2, .int .i64 yc, .int .i64 yv] 33) = W5 at HK4 HG HB5 ⊢
        obtain ⟨a0, a1, a2, a3⟩ : W5.cell? ⟨w4.heap.size, 0, none⟩ = some (.int .i64 q1) ∧ W5.cell? ⟨w4.heap.size, 1, none⟩ = some (.int .i64 q2) ∧ W5.cell? ⟨w4.heap.size, 2, none⟩ = some (.int .i64 yc) ∧ W5.cell? ⟨w4.heap.size, 3, none⟩ = some (.int .i64 yv) := ⟨HK4.out.cell 0, HK4.out.cell 1, HK4.out.cell 2, HK4.out.cell 3⟩
        by_cases hv1 : yv = 1
        · have d5 : (yv == 1) = true := by simp [hv1]
          have d6 : (yc != q1) = false := by have := d4 hv1; simp at this; simp [this]
          clear d4 hv1
          rcases HO2.out with rfl | ⟨p1, p2, zc, zv, rfl, hzz⟩
          · have HG' := HG.out
            simp only [show fnd none = ((0, 0), 0, 0) from rfl, show (none : Option (Rv × Int × Int)).isSome = false from rfl] at HG'
            have HGN := kept HG'
            clear HG' HG
            go_wp2_with (first | (go_at_call 11; (with_reducible refine (HGN.out).mono ?_); rintro e w6 ⟨rfl, hb⟩; have HB7 := fun o => kept (bel_to ((Below.refl w6.heap.size w6).alloc (Nat.le_refl _) o) (bel_to hb HB5.out)); clear hb))
            go_returns
            exact ⟨rfl, (HB7 _).out⟩
          · have HG' := HG.out
            simp only [show fnd (some ((p1, p2), zc, zv)) = ((p1, p2), zc, zv) from rfl, show (some ((p1, p2), zc, zv) : Option (Rv × Int × Int)).isSome = true from rfl] at HG'
            have HGN := kept HG'
            have hde : (zc != yc) = true ∨ ((zc != yc) = false ∧ decide (yv ≤ zv) = true) := by
              by_cases e : zc = yc
              · exact .inr ⟨by simp [e], decide_eq_true (hzz e)⟩
              · exact .inl (by simp [e])
            clear HG' HG hzz
            go_wp2_with fail
            with_reducible refine HGN.out.mono ?_
            rintro e w6 ⟨rfl, hb⟩
            have hba : Below w6.heap.size w6 (w6.alloc (.cells #[.int .i64 p1, .int .i64 p2, .int .i64 zc, .int .i64 zv] 33)) := (Below.refl _ _).alloc (Nat.le_refl _) _
            have hk6 := Blk.new w6 33 #[.int .i64 p1, .int .i64 p2, .int .i64 zc, .int .i64 zv]
            have hk4 := (HK4.out.below hb HK4.out.lt).below hba (HK4.out.below hb HK4.out.lt).lt
            have HB7 := kept (bel_to hba (bel_to hb HB5.out))
            clear a0 a1 a2 a3
            go_upto_region 17 with fail
            generalize w6.alloc (.cells #[.int .i64 p1, .int .i64 p2, .int .i64 zc, .int .i64 zv] 33) = W7 at hba hk6 hk4 HB7 ⊢
            obtain ⟨⟨a0, a1, a2, a3⟩, ⟨b0, b1, b2, b3⟩⟩ : (W7.cell? ⟨w4.heap.size, 0, none⟩ = some (.int .i64 q1) ∧ W7.cell? ⟨w4.heap.size, 1, none⟩ = some (.int .i64 q2) ∧ W7.cell? ⟨w4.heap.size, 2, none⟩ = some (.int .i64 yc) ∧ W7.cell? ⟨w4.heap.size, 3, none⟩ = some (.int .i64 yv)) ∧ W7.cell? ⟨w6.heap.size, 0, none⟩ = some (.int .i64 p1) ∧ W7.cell? ⟨w6.heap.size, 1, none⟩ = some (.int .i64 p2) ∧ W7.cell? ⟨w6.heap.size, 2, none⟩ = some (.int .i64 zc) ∧ W7.cell? ⟨w6.heap.size, 3, none⟩ = some (.int .i64 zv) := ⟨⟨hk4.cell 0, hk4.cell 1, hk4.cell 2, hk4.cell 3⟩, hk6.cell 0, hk6.cell 1, hk6.cell 2, hk6.cell 3⟩
            clear hba hk6 hk4 hb
            rcases hde with e1 | ⟨e1, e2⟩
            · go_wp2
              go_returns
              exact ⟨rfl, HB7.out⟩
            · go_wp2
              go_returns
              exact ⟨rfl, HB7.out⟩
        · have d5 : (yv == 1) = false := by simp [hv1]
          clear d4 hv1
          rcases HO2.out with rfl | ⟨p1, p2, zc, zv, rfl, hzz⟩
          · have HG' := HG.out
            simp only [show fnd none = ((0, 0), 0, 0) from rfl, show (none : Option (Rv × Int × Int)).isSome = false from rfl] at HG'
            have HGN := kept HG'
            clear HG' HG
            go_wp2_with (first | (go_at_call 11; (with_reducible refine (HGN.out).mono ?_); rintro e w6 ⟨rfl, hb⟩; have HB7 := fun o => kept (bel_to ((Below.refl w6.heap.size w6).alloc (Nat.le_refl _) o) (bel_to hb HB5.out)); clear hb))
            go_returns
            exact ⟨rfl, (HB7 _).out⟩
          · have HG' := HG.out
            simp only [show fnd (some ((p1, p2), zc, zv)) = ((p1, p2), zc, zv) from rfl, show (some ((p1, p2), zc, zv) : Option (Rv × Int × Int)).isSome = true from rfl] at HG'
            have HGN := kept HG'
            have hde : (zc != yc) = true ∨ ((zc != yc) = false ∧ decide (yv ≤ zv) = true) := by
              by_cases e : zc = yc
              · exact .inr ⟨by simp [e], decide_eq_true (hzz e)⟩
              · exact .inl (by simp [e])
            clear HG' HG hzz
            go_wp2_with fail
            with_reducible refine HGN.out.mono ?_
            rintro e w6 ⟨rfl, hb⟩
            have hba : Below w6.heap.size w6 (w6.alloc (.cells #[.int .i64 p1, .int .i64 p2, .int .i64 zc, .int .i64 zv] 33)) := (Below.refl _ _).alloc (Nat.le_refl _) _
            have hk6 := Blk.new w6 33 #[.int .i64 p1, .int .i64 p2, .int .i64 zc, .int .i64 zv]
            have hk4 := (HK4.out.below hb HK4.out.lt).below hba (HK4.out.below hb HK4.out.lt).lt
            have HB7 := kept (bel_to hba (bel_to hb HB5.out))
            clear a0 a1 a2 a3
            go_upto_region 17 with fail
            generalize w6.alloc (.cells #[.int .i64 p1, .int .i64 p2, .int .i64 zc, .int .i64 zv] 33) = W7 at hba hk6 hk4 HB7 ⊢
            obtain ⟨⟨a0, a1, a2, a3⟩, ⟨b0, b1, b2, b3⟩⟩ : (W7.cell? ⟨w4.heap.size, 0, none⟩ = some (.int .i64 q1) ∧ W7.cell? ⟨w4.heap.size, 1, none⟩ = some (.int .i64 q2) ∧ W7.cell? ⟨w4.heap.size, 2, none⟩ = some (.int .i64 yc) ∧ W7.cell? ⟨w4.heap.size, 3, none⟩ = some (.int .i64 yv)) ∧ W7.cell? ⟨w6.heap.size, 0, none⟩ = some (.int .i64 p1) ∧ W7.cell? ⟨w6.heap.size, 1, none⟩ = some (.int .i64 p2) ∧ W7.cell? ⟨w6.heap.size, 2, none⟩ = some (.int .i64 zc) ∧ W7.cell? ⟨w6.heap.size, 3, none⟩ = some (.int .i64 zv) := ⟨⟨hk4.cell 0, hk4.cell 1, hk4.cell 2, hk4.cell 3⟩, hk6.cell 0, hk6.cell 1, hk6.cell 2, hk6.cell 3⟩
            clear hba hk6 hk4 hb
            rcases hde with e1 | ⟨e1, e2⟩
            · go_wp2
              go_returns
              exact ⟨rfl, HB7.out⟩
            · go_wp2
              go_returns
              exact ⟨rfl, HB7.out⟩
end gensVersions
end Go.Proofs.Ythpaliagmnclfaa
